import PyProof.Rows.All
import Wide.All
import OpenK.AllK
import Wide.FinOn
import Lean
import PyProof.EqAt
import PyProof.EqKinds
import PyProof.TupleCall
import PySem.Challenge.RW_gatekin_k19_whole_said_alike
set_option Elab.async false
set_option linter.all false
set_option maxRecDepth 100000
local macro_rules | `(tactic| omega) => `(tactic| lia)
namespace L2
open PySem PySem.Spec PyProof.Rows
noncomputable abbrev Key := Sum Int Str
noncomputable def keyIs : Key → Value → Bool
  | .inl k, v => Value.isInt k v
  | .inr x, v => Value.isStrOf x v
noncomputable def keyH (w : World) : Key → Int
  | .inl k => hashInt k
  | .inr x => hashStr w x
theorem keyIs_shape : ∀ {k : Key} {v : Value}, keyIs k v = true → (∃ i t, k = Sum.inl i ∧ v = Value.int i t) ∨ (∃ x t, k = Sum.inr x ∧ v = Value.str x t)
  | .inl i, v, h => by
    obtain ⟨t, e⟩ := Value.isInt_shape (k := i) (v := v) h
    exact .inl ⟨i, t, rfl, e⟩
  | .inr x, v, h => by
    obtain ⟨t, e⟩ := Value.isStrOf_shape (x := x) (v := v) h
    exact .inr ⟨x, t, rfl, e⟩
theorem keyIs_int (i : Int) (t : Tok) : keyIs (.inl i) (.int i t) = true := by simp [keyIs, Value.isInt]
theorem keyIs_str (x : Str) (t : Tok) : keyIs (.inr x) (.str x t) = true := by simp [keyIs, Value.isStrOf]
theorem key_ll (a b : Int) : decide ((Sum.inl a : Key) = Sum.inl b) = (a == b) := by
  by_cases e : a = b
  · subst e; simp
  · have h : ¬ (Sum.inl a : Key) = Sum.inl b := fun q => e (Sum.inl.inj q)
    rw [decide_eq_false h]
    exact (beq_eq_false_iff_ne.mpr e).symm
theorem key_rr (a b : Str) : decide ((Sum.inr a : Key) = Sum.inr b) = decide (a = b) := by
  by_cases e : a = b
  · subst e; simp
  · have h : ¬ (Sum.inr a : Key) = Sum.inr b := fun q => e (Sum.inr.inj q)
    rw [decide_eq_false h, decide_eq_false e]
theorem key_lr (a : Int) (b : Str) : decide ((Sum.inl a : Key) = Sum.inr b) = false := decide_eq_false (fun q => nomatch q)
theorem key_rl (a : Str) (b : Int) : decide ((Sum.inr a : Key) = Sum.inl b) = false := decide_eq_false (fun q => nomatch q)
noncomputable def mixKind (prog : Program) (w : World) : PySem.KeyKind prog w Key where
  is := keyIs
  hash := keyH w
  inj := fun v a b ha hb => by
    rcases keyIs_shape ha with ⟨i, t, rfl, rfl⟩ | ⟨x, t, rfl, rfl⟩
    · rcases keyIs_shape hb with ⟨j, u, rfl, e⟩ | ⟨y, u, rfl, e⟩
      · injection e with e1 _; rw [e1]
      · exact nomatch e
    · rcases keyIs_shape hb with ⟨j, u, rfl, e⟩ | ⟨y, u, rfl, e⟩
      · exact nomatch e
      · injection e with e1 _; rw [e1]
  byValue := fun k v h => by
    rcases keyIs_shape h with ⟨i, t, rfl, rfl⟩ | ⟨x, t, rfl, rfl⟩ <;> rfl
  pyHash := fun hv h => by
    rcases keyIs_shape hv with ⟨i, t, rfl, rfl⟩ | ⟨x, t, rfl, rfl⟩
    · exact wpAny_pyHash_int h
    · exact wpAny_pyHash_str h
  eqBool := fun hu hv h => by
    rcases keyIs_shape hu with ⟨i, t, rfl, rfl⟩ | ⟨x, t, rfl, rfl⟩
    · rcases keyIs_shape hv with ⟨j, u, rfl, rfl⟩ | ⟨y, u, rfl, rfl⟩
      · rw [key_ll] at h; exact wpAny_eqBool_int h
      · rw [key_lr] at h; exact SeqAt.EqAt.int_str i t y u _ _ _ _ h
    · rcases keyIs_shape hv with ⟨j, u, rfl, rfl⟩ | ⟨y, u, rfl, rfl⟩
      · rw [key_rl] at h; exact SeqAt.EqAt.str_int x t j u _ _ _ _ h
      · rw [key_rr] at h; exact wpAny_eqBool_str h
  «strs» := fun k x t v h => by
    rcases keyIs_shape h with ⟨i, u, rfl, e⟩ | ⟨y, u, rfl, e⟩
    · exact nomatch e
    · injection e with e1 _
      subst e1
      cases v <;> rfl
theorem mixKind_int (prog : Program) (w : World) (i : Int) (t : Tok) : (mixKind prog w).is (.inl i) (.int i t) = true := keyIs_int i t
theorem mixKind_str (prog : Program) (w : World) (x : Str) (t : Tok) : (mixKind prog w).is (.inr x) (.str x t) = true := keyIs_str x t
end L2
namespace L2
open PySem PySem.Spec PyProof.Rows
inductive V where
  | non | bl (b : Bool) | int (i : Int) | str (x : Str) | byt (b : Array UInt8) | flt (b : UInt64) | ref (a : Addr) | ty (n : String)
  deriving DecidableEq
noncomputable def RelV : V → Value → Prop
  | .non, u => u = Value.none
  | .bl b, u => u = Value.bool b
  | .int i, u => ∃ t, u = Value.int i t
  | .str x, u => ∃ t, u = Value.str x t
  | .byt b, u => ∃ t, u = Value.bytes b t
  | .flt b, u => ∃ t, u = Value.float b t
  | .ref a, u => u = Value.ref a
  | .ty n, u => u = Value.type n
noncomputable abbrev Vals : List V → List Value → Prop := Paired RelV
theorem Vals.length {xs : List V} {us : List Value} (r : Vals xs us) : xs.length = us.length := Paired.length r
theorem Vals.get : ∀ {xs : List V} {us : List Value} {i : Nat} {x : V}, Vals xs us → xs[i]? = some x → ∃ u, us[i]? = some u ∧ RelV x u
  | _, _, _, _, .nil, e => by simp at e
  | _, _, 0, _, .cons r _, e => by simp at e; subst e; exact ⟨_, rfl, r⟩
  | _, _, i + 1, x, .cons _ t, e => by
    obtain ⟨u, h1, h2⟩ := Vals.get (i := i) (x := x) t (by simpa using e)
    exact ⟨u, by simpa using h1, h2⟩
theorem Vals.append : ∀ {xs ys : List V} {us ws : List Value}, Vals xs us → Vals ys ws → Vals (xs ++ ys) (us ++ ws)
  | _, _, _, _, .nil, s => s
  | _, _, _, _, .cons r t, s => .cons r (Vals.append t s)
noncomputable def RelO : Option V → Option Value → Prop
  | some v, some u => RelV v u
  | none, none => True
  | _, _ => False
noncomputable def KV {κ : Type} : List (κ × V) → List (κ × Value) → Prop := Paired fun (p : κ × V) (q : κ × Value) => p.1 = q.1 ∧ RelV p.2 q.2
noncomputable def kV : Key → V
  | .inl i => .int i
  | .inr x => .str x
inductive HO where
    | lst (xs : List V)
    | tup (xs : List V)
    | dK (kvs : List (Key × V)) | dT (kvs : List (List Key × V))
    | set (S : Int → Bool) (n : Nat)
    | ins (C dx : Addr) (fs : List (Str × V))
    | own (x : Addr)
    | xd (fs : List (Str × V))
    | met (f x : Addr)
    | rng (lo hi : Int)
    | frz (o : Obj) (u : HO)
    | tbl (ps : Array Value)
    | ext (φ : Heap → Prop)
noncomputable abbrev Hp := Addr → Option HO
noncomputable def upd (H : Hp) (a : Addr) (o : HO) : Hp := fun b => if b = a then some o else H b
theorem upd_same {H : Hp} {a : Addr} {o : HO} : upd H a o a = some o := by unfold upd; rw [if_pos rfl]
theorem upd_ne {H : Hp} {a b : Addr} {o : HO} (h : b ≠ a) : upd H a o b = H b := by unfold upd; rw [if_neg h]
theorem ne_of {H : Hp} {a b : Addr} {o u : HO} (h : H a = some o) (h' : H b = some u) (d : o ≠ u) : a ≠ b := by
  intro e; subst e; rw [h] at h'; exact d (Option.some.inj h')
theorem ne_of_none {H : Hp} {a b : Addr} {o : HO} (h : H a = some o) (h' : H b = none) : a ≠ b := by
  intro e; subst e; rw [h] at h'; cases h'
section
variable (P : Program) (w : World)
noncomputable def ObjOk (H : Hp) (h : Heap) (a : Addr) : HO → Prop
  | .lst xs => xs.length ≤ sizeLine ∧ ∃ (its : List Value) (n : Nat), Vals xs its ∧ h.get? a = some { cls := .type "list", data := .seq its.toArray n }
  | .tup xs => xs.length ≤ sizeLine ∧ ∃ its : List Value, Vals xs its ∧ IsTup h a its.toArray
  | .dK kvs => kvs.length ≤ sizeLine ∧ (a == sysModules) = false ∧ ∃ vs, KV kvs vs ∧ h.DictOf (mixKind P w) a vs
  | .dT kvs => kvs.length ≤ sizeLine ∧ (a == sysModules) = false ∧ ∃ xs : List (List Key × Addr × Value),
      Paired (fun (p : List Key × V) (q : List Key × Addr × Value) => p.1 = q.1 ∧ H q.2.1 = some (.tup (p.1.map kV)) ∧ RelV p.2 q.2.2) kvs xs ∧
      ∃ o es ep, h.get? a = some o ∧ o.ExactDict ∧ o.data = .dict es ep ∧ es.toList = xs.map (entryOfKey (tupleKind (mixKind P w))) ∧ (xs.map (·.1)).Nodup
  | .set S n => h.SetOf (intKind P w) a S n
  | .ins C dx fs => H dx = some (.own a) ∧ fs.length ≤ 1000 ∧ dx ≠ a ∧ h.get? a = some (PySem.W.instObj C dx) ∧
      ∃ mA, h.Ns1 dx mA ∧ (∀ f, RelO (fs.lookup f) (mA f)) ∧ PySem.Within mA (fs.map (·.1))
  | .own _ => ∃ o, h.get? a = some o
  | .xd fs => ∃ mA, h.Ns1 a mA ∧ ∀ f, RelO (fs.lookup f) (mA f)
  | .rng lo hi => ∃ t u v, h.get? a = some { cls := .type "range", data := .fields #[.int lo t, .int hi u, .int 1 v] }
  | .frz o u => h.get? a = some o ∧ ObjOk H h a u
  | .tbl ps => h.get? a = some { cls := .none, data := .fields ps }
  | .met f x => h.get? a = some (PySem.W.methodObj (.ref f) (.ref x))
  | .ext φ => φ h ∧ (∃ o, h.get? a = some o) ∧ ∀ h1 h2 : Heap, φ h1 → (∀ o, h1.get? a = some o → h2.get? a = some o) → φ h2
noncomputable def HOk (H : Hp) (h : Heap) : Prop := ∀ a o, H a = some o → ObjOk P w H h a o
end
section
variable {P : Program} {w : World} {H H' : Hp} {h h' : Heap} {a : Addr} {o : HO}
theorem ObjOk.lt (x : ObjOk P w H h a o) : a < h.objs.size := by
  cases o with
  | lst xs => obtain ⟨_, _, _, _, e⟩ := x; exact Heap.lt_size e
  | tup xs => obtain ⟨_, _, _, p⟩ := x; exact p.lt
  | dK kvs => obtain ⟨_, _, _, _, o, _, _, e, _⟩ := x; exact Heap.lt_size e
  | dT kvs => obtain ⟨_, _, _, _, o, _, _, e, _⟩ := x; exact Heap.lt_size e
  | set S n => obtain ⟨o, _, _, _, e, _⟩ := x; exact Heap.lt_size e
  | ins C dx fs => obtain ⟨_, _, _, e, _⟩ := x; exact Heap.lt_size e
  | own y => obtain ⟨_, e⟩ := x; exact Heap.lt_size e
  | xd fs => obtain ⟨_, ⟨_, _, _, e, _⟩, _⟩ := x; exact Heap.lt_size e
  | rng lo hi => obtain ⟨_, _, _, e⟩ := x; exact Heap.lt_size e
  | frz ob u => obtain ⟨e, _⟩ := x; exact Heap.lt_size e
  | tbl ps => exact Heap.lt_size (show h.get? a = some _ from x)
  | met f y => exact Heap.lt_size (show h.get? a = some _ from x)
  | ext φ => obtain ⟨_, ⟨_, e⟩, _⟩ := x; exact Heap.lt_size e
theorem Paired.mapP {α β : Type} {F G : α → β → Prop} : ∀ {l₁ : List α} {l₂ : List β}, Paired F l₁ l₂ → (∀ a b, F a b → G a b) → Paired G l₁ l₂
  | _, _, .nil, _ => .nil
  | _, _, .cons r t, f => .cons (f _ _ r) (Paired.mapP t f)
theorem ObjOk.stay (x : ObjOk P w H h a o) (k : ∀ b u, (b = a ∨ H b = some (.own a)) → h.get? b = some u → h'.get? b = some u)
    (ho : ∀ b, H b = some (.own a) → H' b = some (.own a)) (ht : ∀ b xs, H b = some (.tup xs) → H' b = some (.tup xs)) : ObjOk P w H' h' a o := by
  induction o with
  | lst xs => obtain ⟨z, its, n, r, e⟩ := x; exact ⟨z, its, n, r, k _ _ (.inl rfl) e⟩
  | tup xs => obtain ⟨z, its, r, ob, e, c⟩ := x; exact ⟨z, its, r, ob, k _ _ (.inl rfl) e, c⟩
  | dK kvs => obtain ⟨z, y, vs, r, ob, es, ep, e, c⟩ := x; exact ⟨z, y, vs, r, ob, es, ep, k _ _ (.inl rfl) e, c⟩
  | dT kvs =>
    obtain ⟨z, y, xs, r, ob, es, ep, e, c⟩ := x
    exact ⟨z, y, xs, Paired.mapP r fun p q z => ⟨z.1, ht _ _ z.2.1, z.2.2⟩, ob, es, ep, k _ _ (.inl rfl) e, c⟩
  | set S n => obtain ⟨ob, es, ep, t, e, c⟩ := x; exact ⟨ob, es, ep, t, k _ _ (.inl rfl) e, c⟩
  | ins C dx fs =>
    obtain ⟨d, z, ne, e, mA, ⟨od, es, ep, e2, c⟩, r⟩ := x
    exact ⟨ho _ d, z, ne, k _ _ (.inl rfl) e, mA, ⟨od, es, ep, k _ _ (.inr d) e2, c⟩, r⟩
  | own y => obtain ⟨ob, e⟩ := x; exact ⟨ob, k _ _ (.inl rfl) e⟩
  | xd fs => obtain ⟨mA, ⟨od, es, ep, e, c⟩, r⟩ := x; exact ⟨mA, ⟨od, es, ep, k _ _ (.inl rfl) e, c⟩, r⟩
  | rng lo hi => obtain ⟨t, u, v, e⟩ := x; exact ⟨t, u, v, k _ _ (.inl rfl) e⟩
  | frz ob u ih => obtain ⟨e, q⟩ := x; exact ⟨k _ _ (.inl rfl) e, ih q⟩
  | tbl ps =>
    have e : h.get? a = some { cls := .none, data := .fields ps } := x
    show h'.get? a = some { cls := .none, data := .fields ps }
    exact k a _ (.inl rfl) e
  | met f y =>
    have e : h.get? a = some (PySem.W.methodObj (.ref f) (.ref y)) := x
    show h'.get? a = some (PySem.W.methodObj (.ref f) (.ref y))
    exact k a _ (.inl rfl) e
  | ext φ => obtain ⟨p, ⟨o, e⟩, st⟩ := x; exact ⟨st _ _ p fun o q => k _ _ (.inl rfl) q, ⟨o, k _ _ (.inl rfl) e⟩, st⟩
theorem HOk.lt (x : HOk P w H h) (e : H a = some o) : a < h.objs.size := (x a o e).lt
theorem HOk.fresh (x : HOk P w H h) (e : h.objs.size ≤ a) : H a = none := by
  cases q : H a with
  | none => rfl
  | some u => exact absurd (Nat.lt_of_lt_of_le (x.lt q) e) (Nat.lt_irrefl _)
theorem HOk.kept (x : HOk P w H h) (k : ∀ b u, h.get? b = some u → h'.get? b = some u) : HOk P w H h' := fun a o e =>
  (x a o e).stay (fun b u _ q => k b u q) (fun _ q => q) fun _ _ q => q
theorem HOk.laid (x : HOk P w H h) (k : ∀ b u, h.get? b = some u → h'.get? b = some u) (hp : h.objs.size ≤ a) (new : ObjOk P w (upd H a o) h' a o) : HOk P w (upd H a o) h' := fun b u e => by
  have hn := x.fresh hp
  by_cases hb : b = a
  · subst hb; rw [upd_same] at e; cases e; exact new
  · rw [upd_ne hb] at e
    exact (x b u e).stay (fun c v _ q => k c v q) (fun c q => by rw [upd_ne (ne_of_none q hn)]; exact q) fun c xs q => by rw [upd_ne (ne_of_none q hn)]; exact q
end
noncomputable def Rd (H : Hp) (a : Addr) (u : HO) : Prop := H a = some u ∨ ∃ o, H a = some (.frz o u)
theorem Rd.ok {P : Program} {w : World} {H : Hp} {h : Heap} {a : Addr} {u : HO} (r : Rd H a u) (x : HOk P w H h) : ObjOk P w H h a u := by
  rcases r with r | ⟨o, r⟩
  · exact x a u r
  · obtain ⟨_, q⟩ := x a _ r
    exact q
noncomputable def Mut : Option HO → Prop
  | some (.lst _) => True
  | some (.dK _) => True
  | some (.dT _) => True
  | some (.set _ _) => True
  | some (.ins _ _ _) => True
  | some (.ext _) => True
  | _ => False
section
variable {P : Program} {w : World} {H : Hp} {h h' : Heap} {x e : Addr} {o' : HO}
theorem HOk.write (ok : HOk P w H h) (mu : Mut (H x)) (he : e = x ∨ H e = some (.own x)) (k : ∀ b u, b ≠ e → h.get? b = some u → h'.get? b = some u) (heo : ∃ u, h'.get? e = some u)
    (new : ObjOk P w (upd H x o') h' x o') : HOk P w (upd H x o') h' := fun b u q => by
  have nown : ∀ c y, H c = some (.own y) → c ≠ x := fun c y r z => by subst z; rw [r] at mu; exact mu
  have ntup : ∀ c xs, H c = some (.tup xs) → c ≠ x := fun c xs r z => by subst z; rw [r] at mu; exact mu
  by_cases hb : b = x
  · subst hb; rw [upd_same] at q; cases q; exact new
  · rw [upd_ne hb] at q
    by_cases hbe : b = e
    · have q' : H b = some (.own x) := by
        rcases he with z | z
        · exact absurd (hbe.trans z) hb
        · rw [hbe]; exact z
      rw [q] at q'; cases q'
      obtain ⟨v, hv⟩ := heo
      exact ⟨v, by rw [hbe]; exact hv⟩
    · refine (ok b u q).stay (fun c v hc r => k c v ?_ r) (fun c r => by rw [upd_ne (nown c b r)]; exact r) fun c xs r => by rw [upd_ne (ntup c xs r)]; exact r
      rcases hc with rfl | hc
      · exact hbe
      · rintro rfl
        rcases he with z | z
        · exact nown c b hc z
        · rw [hc] at z; cases z; exact hb rfl
end
structure Un (fs ex : List Addr) (H H' : Hp) (h h' : Heap) : Prop where
  keep : ∀ b o, h.get? b = some o → H b = none → b ∉ fs → b ∉ ex → h'.get? b = some o
  slot : ∀ b o, h.get? b = some o → H b = none → b ∈ fs → b ∉ ex → ∃ sl, h'.get? b = some { o with slots := sl }
  free : ∀ b o, h.get? b = some o → H b = none → b ∉ ex → H' b = none
  there : ∀ b o, h.get? b = some o → b ∉ ex → ∃ o', h'.get? b = some o'
  tups : ∀ b xs, H b = some (.tup xs) → H' b = some (.tup xs)
  frzs : ∀ b o u, H b = some (.frz o u) → H' b = some (.frz o u)
  tbls : ∀ b ps, H b = some (.tbl ps) → ∃ more, H' b = some (.tbl (ps ++ more))
section
variable {fs fs' ex ex' : List Addr} {H H1 H2 : Hp} {h h1 h2 h' : Heap} {a x e : Addr} {o : HO}
theorem Un.any (u : Un fs ex H H1 h h1) {b : Addr} {ob : Obj} (q : h.get? b = some ob) (n : H b = none) (hx : b ∉ ex) : ∃ sl, h1.get? b = some { ob with slots := sl } := by
  by_cases hb : b ∈ fs
  · exact u.slot b ob q n hb hx
  · exact ⟨ob.slots, u.keep b ob q n hb hx⟩
theorem Un.kept (k : ∀ b u, h.get? b = some u → h'.get? b = some u) : Un fs ex H H h h' :=
  ⟨fun b ob q _ _ _ => k b ob q, fun b ob q _ _ _ => ⟨ob.slots, k b ob q⟩, fun _ _ _ n _ => n, fun b ob q _ => ⟨ob, k b ob q⟩, fun _ _ q => q, fun _ _ _ q => q, fun _ ps q => ⟨#[], by rw [q]; simp⟩⟩
theorem Un.refl : Un fs ex H H h h := Un.kept fun _ _ q => q
theorem Un.laid (k : ∀ b u, h.get? b = some u → h'.get? b = some u) (hp : h.objs.size ≤ a) (hn : H a = none) : Un fs ex H (upd H a o) h h' where
  keep := fun b u q _ _ _ => k b u q
  slot := fun b u q _ _ _ => ⟨u.slots, k b u q⟩
  free := fun b u q n _ => by rw [upd_ne (Nat.ne_of_lt (Nat.lt_of_lt_of_le (Heap.lt_size q) hp))]; exact n
  there := fun b u q _ => ⟨u, k b u q⟩
  tups := fun b xs q => by rw [upd_ne (ne_of_none q hn)]; exact q
  frzs := fun b u xs q => by rw [upd_ne (ne_of_none q hn)]; exact q
  tbls := fun b ps q => ⟨#[], by rw [upd_ne (ne_of_none q hn), q]; simp⟩
theorem Un.write (mu : Mut (H x)) (he : e = x ∨ H e = some (.own x)) (k : ∀ b u, b ≠ e → h.get? b = some u → h'.get? b = some u) (heo : ∃ u, h'.get? e = some u) : Un fs ex H (upd H x o) h h' := by
  have hx : ∀ b, H b = none → b ≠ x := fun b n z => by subst z; rw [n] at mu; exact mu
  have hb : ∀ b, H b = none → b ≠ e := fun b n z => by
    subst z
    rcases he with r | r
    · exact hx b n r
    · rw [n] at r; cases r
  have hm : ∀ b u, H b = some u → ¬ Mut (some u) → b ≠ x := fun b u q nm z => by subst z; rw [q] at mu; exact nm mu
  refine ⟨fun b u q n _ _ => k b u (hb b n) q, fun b u q n _ _ => ⟨u.slots, k b u (hb b n) q⟩, fun b u q n _ => by rw [upd_ne (hx b n)]; exact n, fun b u q _ => ?_,
    fun b xs q => by rw [upd_ne (hm b _ q fun z => z)]; exact q, fun b u xs q => by rw [upd_ne (hm b _ q fun z => z)]; exact q, fun b ps q => ⟨#[], by rw [upd_ne (hm b _ q fun z => z), q]; simp⟩⟩
  by_cases hbe : b = e
  · subst hbe; exact heo
  · exact ⟨u, k b u hbe q⟩
end
noncomputable def trk (h : Heap) (H : Hp) : List Addr := (List.range h.objs.size).filter fun a => (H a).isSome
noncomputable def hidT (h : Heap) (H : Hp) : Heap := PySem.W.hideAll h (trk h H)
theorem hidT_size (h : Heap) (H : Hp) : (hidT h H).objs.size = h.objs.size := PySem.W.hideAll_size _ _
theorem hidT_get {h : Heap} {H : Hp} {b : Addr} {o : Obj} (e : h.get? b = some o) (n : H b = none) : (hidT h H).get? b = some o :=
  PySem.W.hideAll_get _ e fun hm => by
    have q : (H b).isSome = true := (List.mem_filter.mp hm).2
    rw [n] at q; simp at q
theorem of_hidT {h : Heap} {H : Hp} {b : Addr} {o : Obj} (e : (hidT h H).get? b = some o) : h.get? b = some o ∧ H b = none := by
  have e' : h.get? b = some o := PySem.W.of_hideAll (trk h H) e
  refine ⟨e', ?_⟩
  cases q : H b with
  | none => rfl
  | some x =>
    have hm : b ∈ trk h H := List.mem_filter.mpr ⟨List.mem_range.mpr (Heap.lt_size e'), by simp [q]⟩
    have z : (hidT h H).get? b = none := PySem.W.hideAll_none (trk h H) hm
    rw [z] at e; cases e
end L2
namespace L2
open PySem PySem.Spec PyProof.Rows
structure Mod (K : PySem.W.Frag) (mg : Str → Option Value) (base : Heap) : Prop where
  kin : K.In base
  glob : base.Ns mainGlobals mg
  blt : ∃ mb, base.Ns builtinsNs mb ∧ ∀ x : Str, x ≠ "__name__" → mb x = bootBuiltins x
  nolimit : base.NoLimit
structure Cx where
  prog : Program
  w : World
  K : PySem.W.Frag
  mg : Str → Option Value
  base : Heap
  A : Around
  N : List Str
  s₀ : Shared
  H₀ : Hp
  env : Env
  outer : List Env
  stack : List Env
  ex : List Addr
  fn : Str → Bool
  calm : Bool
  pn : List (Addr × Obj)
  xe : Value → Shared → Prop
noncomputable def frs (l : List Env) : List Addr := l.filterMap (·.frame)
noncomputable abbrev Cx.fs (X : Cx) : List Addr := frs X.outer
noncomputable def Vis (sc : Scope) (x : Str) : Prop := sc.names.lookup x = some .local ∨ sc.names.lookup x = some .cell ∨ sc.names.lookup x = some .free
noncomputable def Loc (sc : Scope) (x : Str) : Prop := sc.names.lookup x = some .local ∨ sc.names.lookup x = some .cell
noncomputable def Look (env : Env) (h : Heap) (m : Str → Option Value) (x : Str) (u : Value) : Prop :=
  (env.kindOf x = some .local ∧ m x = some u) ∨ ((env.kindOf x = some .cell ∨ env.kindOf x = some .free) ∧ ∃ c, env.cells.lookup x = some c ∧ h.IsCell c (some u))
structure Cx.Ok (X : Cx) : Prop where
  mod : Mod X.K X.mg X.base
  kind : X.env.scope.kind = .function
  glob : X.env.globals = mainGlobals
  blt : X.env.builtins = builtinsNs
  above : X.s₀.heap.objs.size ≤ X.env.locals
  inj : ∀ x y c, X.env.cells.lookup x = some c → X.env.cells.lookup y = some c → x = y
  has : ∀ x, (X.env.kindOf x = some .cell ∨ X.env.kindOf x = some .free) → ∃ c, X.env.cells.lookup x = some c
  cab : ∀ x c, X.fn x = true → X.env.cells.lookup x = some c → X.s₀.heap.objs.size ≤ c
  hd : X.calm = true → X.A.handled = none
  frames : X.A.frames = some X.stack
  stk : X.stack = X.outer ∨ (X.stack = X.env :: X.outer ∧ X.env.frame = some X.env.locals)
  exf : ∀ b ∈ X.ex, b ≠ X.env.locals ∧ ∀ x c, X.env.cells.lookup x = some c → c ≠ b
  bs : ∀ b o, X.base.get? b = some o → X.s₀.heap.get? b = some o ∧ X.H₀ b = none
  bsz : X.base.objs.size ≤ X.s₀.heap.objs.size
  noex : ∀ b o, X.base.get? b = some o → b ∉ X.ex
  exfs : ∀ b ∈ X.ex, b ∉ X.fs
  funs : X.s₀.heap.FunFrames X.base X.outer
  frf : ∀ b ∈ X.fs, X.H₀ b = none
structure Inv (X : Cx) (pins : List (Addr × Obj)) (σ : List (Option V)) (H : Hp) (s : Shared) : Prop where
  ok : X.Ok
  os : s.os = X.s₀.os
  bare : AllBare s.gens
  base : Un X.fs X.ex X.H₀ H X.s₀.heap s.heap
  loc : ∃ m, s.heap.Ns X.env.locals m ∧ ∀ (i : Nat) (x : Str) (v : V), X.N[i]? = some x → σ[i]? = some (some v) → Vis X.env.scope x → ∃ u, RelV v u ∧ Look X.env s.heap m x u
  cell : ∀ x c, X.env.cells.lookup x = some c → ∃ v, s.heap.IsCell c v
  free : H X.env.locals = none
  freeC : ∀ x c, X.env.cells.lookup x = some c → H c = none
  pin : ∀ p ∈ X.pn ++ pins, s.heap.get? p.1 = some p.2 ∧ H p.1 = none ∧ p.1 ≠ X.env.locals ∧ p.1 ∉ X.fs ∧ ∀ v, p.2.data ≠ .cell v
  hok : HOk X.prog X.w H s.heap
  len : σ.length = X.N.length
section
variable {X : Cx} {pins : List (Addr × Obj)} {σ : List (Option V)} {H H' : Hp} {s : Shared} {h' : Heap}
theorem Cx.Ok.nofr (ok : X.Ok) {b : Addr} {o : Obj} (e : X.base.get? b = some o) : b ∉ X.fs := fun hb => by
  have := (ok.funs.mem hb).1
  rw [e] at this; cases this
theorem Inv.bs (I : Inv X pins σ H s) : ∀ b o, X.base.get? b = some o → s.heap.get? b = some o ∧ H b = none := fun b o e =>
  ⟨I.base.keep b o (I.ok.bs b o e).1 (I.ok.bs b o e).2 (I.ok.nofr e) (I.ok.noex b o e), I.base.free b o (I.ok.bs b o e).1 (I.ok.bs b o e).2 (I.ok.noex b o e)⟩
theorem Inv.bk (I : Inv X pins σ H s) : ∀ b o, X.base.get? b = some o → s.heap.get? b = some o := fun b o e => (I.bs b o e).1
theorem Inv.mod (I : Inv X pins σ H s) : Mod X.K X.mg X.base := I.ok.mod
theorem Inv.kIn (I : Inv X pins σ H s) : X.K.In s.heap := I.ok.mod.kin.keeps I.bk
theorem Inv.lt (I : Inv X pins σ H s) : X.env.locals < s.heap.objs.size := let ⟨_, hn, _⟩ := I.loc; hn.lt
theorem Inv.sz (I : Inv X pins σ H s) : X.s₀.heap.objs.size ≤ s.heap.objs.size := Nat.le_trans I.ok.above (Nat.le_of_lt I.lt)
theorem Inv.nofs (I : Inv X pins σ H s) {a : Addr} (h : s.heap.objs.size ≤ a) : a ∉ X.fs := fun hb => by
  obtain ⟨_, o, ho, _⟩ := I.ok.funs.mem hb
  exact absurd (Nat.lt_of_lt_of_le (Heap.lt_size ho) (Nat.le_trans I.sz h)) (Nat.lt_irrefl _)
theorem Inv.cne (I : Inv X pins σ H s) : ∀ x c, X.env.cells.lookup x = some c → c ≠ X.env.locals := fun x c e z => by
  obtain ⟨v, o, ho, hd⟩ := I.cell x c e
  obtain ⟨m, ⟨o', es, ep, ho', hd', _⟩, _⟩ := I.loc
  rw [z, ho'] at ho; cases ho; rw [hd'] at hd; cases hd
theorem Inv.funs (I : Inv X pins σ H s) : s.heap.FunFrames X.base X.outer := by
  have all : ∀ (l : List Env), (∀ b ∈ frs l, b ∈ X.fs) → X.s₀.heap.FunFrames X.base l → s.heap.FunFrames X.base l := by
    intro l
    induction l with
    | nil => intro _ _; trivial
    | cons env r ih =>
      intro hs hl
      obtain ⟨hk, ⟨L, o, hf, hn, ho, hd⟩, hr⟩ := hl
      have hL : L ∈ X.fs := hs L (by unfold frs; rw [List.filterMap_cons, hf]; exact List.mem_cons_self)
      obtain ⟨sl, e⟩ := I.base.slot L o ho (I.ok.frf L hL) hL fun z => I.ok.exfs L z hL
      exact ⟨hk, ⟨L, _, hf, hn, e, hd⟩, ih (fun b hb => hs b (by unfold frs; rw [List.filterMap_cons, hf]; exact List.mem_cons_of_mem _ hb)) hr⟩
  exact all X.outer (fun _ hb => hb) I.ok.funs
theorem Inv.stack (I : Inv X pins σ H s) : s.heap.FunFrames X.base X.stack := by
  rcases I.ok.stk with e | ⟨e, hf⟩
  · rw [e]; exact I.funs
  · rw [e]
    obtain ⟨m, hn, _⟩ := I.loc
    refine .cons (by rw [I.ok.kind]; decide) hf hn ?_ I.funs
    exact Heap.get?_none_of_le (Nat.le_trans I.ok.bsz I.ok.above)
theorem Inv.stkSub (I : Inv X pins σ H s) : ∀ b ∈ frs X.stack, b ∈ X.env.locals :: X.fs := fun b hb => by
  rcases I.ok.stk with e | ⟨e, hf⟩
  · rw [e] at hb; exact List.mem_cons_of_mem _ hb
  · rw [e] at hb
    unfold frs at hb
    rw [List.filterMap_cons, hf] at hb
    exact hb
theorem Inv.stkFree (I : Inv X pins σ H s) : ∀ b ∈ frs X.stack, H b = none := fun b hb => by
  rcases List.mem_cons.mp (I.stkSub b hb) with e | hb
  · rw [e]; exact I.free
  · obtain ⟨_, o, ho, _⟩ := I.ok.funs.mem hb
    exact I.base.free b o ho (I.ok.frf b hb) fun z => I.ok.exfs b z hb
theorem Inv.step {g' : Array GenState} {t' : Nat} {d' : Drawn} {ch : List Addr} (I : Inv X pins σ H s)
    (hch : ∀ b ∈ ch, (b ∈ X.ex ∨ X.s₀.heap.objs.size ≤ b) ∧ b ≠ X.env.locals ∧ (∀ x c, X.env.cells.lookup x = some c → c ≠ b) ∧ ∀ p ∈ X.pn ++ pins, p.1 ≠ b)
    (keep : ∀ b o, b ≠ X.env.locals → b ∉ X.fs → b ∉ ch → s.heap.get? b = some o → H b = none → h'.get? b = some o)
    (slot : ∀ b o, b ≠ X.env.locals → b ∈ X.fs → b ∉ ch → s.heap.get? b = some o → H b = none → ∃ sl, h'.get? b = some { o with slots := sl }) (free : ∀ b o, b ∉ ch → s.heap.get? b = some o → H b = none → H' b = none)
    (there : ∀ b o, b ∉ ch → s.heap.get? b = some o → ∃ o', h'.get? b = some o')
    (tups : ∀ b xs, H b = some (.tup xs) → H' b = some (.tup xs)) (frzs : ∀ b o u, H b = some (.frz o u) → H' b = some (.frz o u)) (tbls : ∀ b ps, H b = some (.tbl ps) → ∃ more, H' b = some (.tbl (ps ++ more)))
    (ns : ∀ m, s.heap.Ns X.env.locals m → h'.Ns X.env.locals m) (hok : HOk X.prog X.w H' h') (hg : AllBare g') :
    Inv X pins σ H' { s with heap := h', gens := g', drawn := d', toks := t' } := by
  have neL : ∀ b o, X.s₀.heap.get? b = some o → b ≠ X.env.locals := fun b o e => Nat.ne_of_lt (Nat.lt_of_lt_of_le (Heap.lt_size e) I.ok.above)
  have neC : ∀ b o, X.s₀.heap.get? b = some o → b ∉ X.ex → b ∉ ch := fun b o e hx hb => by
    rcases (hch b hb).1 with z | z
    · exact hx z
    · exact absurd (Nat.lt_of_lt_of_le (Heap.lt_size e) z) (Nat.lt_irrefl _)
  have cellK : ∀ x c, X.env.cells.lookup x = some c → ∀ v, s.heap.IsCell c v → h'.IsCell c v := fun x c e v hq__ => by
    obtain ⟨o, ho, hd⟩ := hq__
    have nch : c ∉ ch := fun z => (hch c z).2.2.1 x c e rfl
    by_cases hc : c ∈ X.fs
    · obtain ⟨sl, q⟩ := slot c o (I.cne x c e) hc nch ho (I.freeC x c e)
      exact ⟨_, q, hd⟩
    · exact ⟨o, keep c o (I.cne x c e) hc nch ho (I.freeC x c e), hd⟩
  refine ⟨I.ok, I.os, hg, ⟨fun b o e n hb hx => ?_, fun b o e n hb hx => ?_, fun b o e n hx => ?_, fun b o e hx => ?_, fun b xs e => tups b xs (I.base.tups b xs e), fun b o xs e => frzs b o xs (I.base.frzs b o xs e), fun b ps e => ?_⟩, ?_, fun x c e => ?_, ?_, fun x c e => ?_, fun p hp => ?_, hok, I.len⟩
  · exact keep b o (neL b o e) hb (neC b o e hx) (I.base.keep b o e n hb hx) (I.base.free b o e n hx)
  · obtain ⟨sl, e1⟩ := I.base.slot b o e n hb hx
    obtain ⟨sl', e2⟩ := slot b _ (neL b o e) hb (neC b o e hx) e1 (I.base.free b o e n hx)
    exact ⟨sl', e2⟩
  · obtain ⟨o', e1⟩ := I.base.there b o e hx
    exact free b o' (neC b o e hx) e1 (I.base.free b o e n hx)
  · obtain ⟨o', e1⟩ := I.base.there b o e hx
    exact there b o' (neC b o e hx) e1
  · obtain ⟨m1, e1⟩ := I.base.tbls b ps e
    obtain ⟨m2, e2⟩ := tbls b _ e1
    exact ⟨m1 ++ m2, by rw [e2, Array.append_assoc]⟩
  · obtain ⟨m, hn, hl⟩ := I.loc
    refine ⟨m, ns m hn, fun i x v e1 e2 e3 => ?_⟩
    obtain ⟨u, r, l⟩ := hl i x v e1 e2 e3
    refine ⟨u, r, ?_⟩
    rcases l with l | ⟨k, c, e, z⟩
    · exact .inl l
    · exact .inr ⟨k, c, e, cellK x c e _ z⟩
  · obtain ⟨v, z⟩ := I.cell x c e
    exact ⟨v, cellK x c e v z⟩
  · obtain ⟨m, ⟨o, _, _, ho, _⟩, _⟩ := I.loc
    exact free _ o (fun z => (hch _ z).2.1 rfl) ho I.free
  · obtain ⟨v, o, ho, hd⟩ := I.cell x c e
    exact free c o (fun z => (hch c z).2.2.1 x c e rfl) ho (I.freeC x c e)
  · obtain ⟨e, n, ne, nf, d⟩ := I.pin p hp
    have nch : p.1 ∉ ch := fun z => (hch p.1 z).2.2.2 p hp rfl
    exact ⟨keep p.1 p.2 ne nf nch e n, free p.1 p.2 nch e n, ne, nf, d⟩
theorem Inv.un {t' : Nat} (I : Inv X pins σ H s) (u : Un X.fs [] H H' s.heap h') (hok : HOk X.prog X.w H' h') : Inv X pins σ H' { s with heap := h', toks := t' } := by
  obtain ⟨m, ⟨o, es, ep, ho, r⟩, _⟩ := id I.loc
  obtain ⟨sl, hL⟩ := u.any ho I.free (by simp)
  exact I.step (g' := s.gens) (d' := s.drawn) (ch := []) (fun _ z => nomatch z) (fun b o _ hb _ e n => u.keep b o e n hb (by simp)) (fun b o _ hb _ e n => u.slot b o e n hb (by simp)) (fun b o _ e n => u.free b o e n (by simp)) (fun b o _ e => u.there b o e (by simp)) u.tups u.frzs u.tbls (fun m' hm => by
    obtain ⟨o', es', ep', ho', r'⟩ := hm
    rw [ho] at ho'; cases ho'
    exact ⟨_, es', ep', hL, r'⟩) hok I.bare
theorem Inv.call {g' : Array GenState} {t' : Nat} {d' : Drawn} {ch : List Addr} (I : Inv X pins σ H s) (u : Un (frs X.stack) ch H H' s.heap h') (hok : HOk X.prog X.w H' h') (hg : AllBare g')
    (hch : ∀ b ∈ ch, (b ∈ X.ex ∨ X.s₀.heap.objs.size ≤ b) ∧ b ≠ X.env.locals ∧ (∀ x c, X.env.cells.lookup x = some c → c ≠ b) ∧ ∀ p ∈ X.pn ++ pins, p.1 ≠ b) :
    Inv X pins σ H' { s with heap := h', gens := g', drawn := d', toks := t' } := by
  obtain ⟨m, ⟨o, es, ep, ho, r⟩, _⟩ := id I.loc
  obtain ⟨sl, hL⟩ := u.any ho I.free fun z => (hch _ z).2.1 rfl
  exact I.step (ch := ch) hch (fun b o hL hb hc e n => u.keep b o e n (fun z => (List.mem_cons.mp (I.stkSub b z)).elim hL hb) hc) (fun b o _ _ hc e n => u.any e n hc) (fun b o hc e n => u.free b o e n hc) (fun b o hc e => u.there b o e hc) u.tups u.frzs u.tbls (fun m' hm => by
    obtain ⟨o', es', ep', ho', r'⟩ := hm
    rw [ho] at ho'; cases ho'
    exact ⟨_, es', ep', hL, r'⟩) hok hg
theorem Inv.turned {t' : Nat} {it : Addr} (I : Inv X pins σ H s) (k : ∀ b o, b ≠ it → s.heap.get? b = some o → h'.get? b = some o) (hn : H it = none) (hL : it ≠ X.env.locals)
    (h1 : it ∈ X.ex ∨ X.s₀.heap.objs.size ≤ it) (h2 : ∀ x c, X.env.cells.lookup x = some c → c ≠ it) (h3 : ∀ p ∈ X.pn ++ pins, p.1 ≠ it) : Inv X pins σ H { s with heap := h', toks := t' } := by
  have nit : ∀ b u, H b = some u → b ≠ it := fun b u e z => by rw [z, hn] at e; cases e
  refine I.step (g' := s.gens) (d' := s.drawn) (ch := [it]) (fun b hb => ?_) (fun b o _ _ hc e _ => k b o (fun z => hc (by simp [z])) e) (fun b o _ _ hc e _ => ⟨o.slots, k b o (fun z => hc (by simp [z])) e⟩) (fun _ _ _ _ n => n)
    (fun b o hc e => ⟨o, k b o (fun z => hc (by simp [z])) e⟩) (fun _ _ e => e) (fun _ _ _ e => e) (fun b ps e => ⟨#[], by rw [e]; simp⟩) (fun m hm => ?_) (fun b u e => ?_) I.bare
  · have e : b = it := by simpa using hb
    subst e
    exact ⟨h1, hL, h2, h3⟩
  · obtain ⟨o, es, ep, ho, r⟩ := hm
    exact ⟨o, es, ep, k _ o (Ne.symm hL) ho, r⟩
  · refine (I.hok b u e).stay (fun c v hc q => k c v ?_ q) (fun _ q => q) fun _ _ q => q
    rcases hc with z | z
    · rw [z]; exact nit b u e
    · exact nit c _ z
theorem Inv.tok (I : Inv X pins σ H s) (t : Nat) : Inv X pins σ H { s with toks := t } := I.un (h' := s.heap) (t' := t) Un.refl I.hok
theorem Inv.kept {t' : Nat} (I : Inv X pins σ H s) (k : ∀ b u, s.heap.get? b = some u → h'.get? b = some u) : Inv X pins σ H { s with heap := h', toks := t' } := I.un (Un.kept k) (I.hok.kept k)
theorem Inv.laid {a : Addr} {o : HO} {t' : Nat} (I : Inv X pins σ H s) (k : ∀ b u, s.heap.get? b = some u → h'.get? b = some u) (hp : s.heap.objs.size ≤ a) (new : ObjOk X.prog X.w (upd H a o) h' a o) :
    Inv X pins σ (upd H a o) { s with heap := h', toks := t' } := I.un (Un.laid k hp (I.hok.fresh hp)) (I.hok.laid k hp new)
theorem Inv.write {x e : Addr} {o : HO} {t' : Nat} (I : Inv X pins σ H s) (mu : Mut (H x)) (he : e = x ∨ H e = some (.own x)) (k : ∀ b u, b ≠ e → s.heap.get? b = some u → h'.get? b = some u) (heo : ∃ u, h'.get? e = some u)
    (new : ObjOk X.prog X.w (upd H x o) h' x o) : Inv X pins σ (upd H x o) { s with heap := h', toks := t' } := I.un (Un.write mu he k heo) (I.hok.write mu he k heo new)
theorem Inv.pins_of {pins' : List (Addr × Obj)} (I : Inv X pins σ H s) (h : ∀ p ∈ pins', s.heap.get? p.1 = some p.2 ∧ H p.1 = none ∧ p.1 ≠ X.env.locals ∧ p.1 ∉ X.fs ∧ ∀ v, p.2.data ≠ .cell v) : Inv X pins' σ H s :=
  ⟨I.ok, I.os, I.bare, I.base, I.loc, I.cell, I.free, I.freeC, fun p hp => (List.mem_append.mp hp).elim (fun z => I.pin p (List.mem_append_left _ z)) (h p), I.hok, I.len⟩
theorem nodup_ix {N : List Str} (hN : N.Nodup) {i j : Nat} {x : Str} (a : N[i]? = some x) (b : N[j]? = some x) : i = j := by
  obtain ⟨h1, e1⟩ := List.getElem?_eq_some_iff.mp a
  obtain ⟨h2, e2⟩ := List.getElem?_eq_some_iff.mp b
  exact (List.getElem_inj hN).mp (e1.trans e2.symm)
theorem store_ok2 {M : Model} {A : Around} {E : Value → Shared → Prop} {i : Nat} {x : Str} {v : V} {u : Value} {Q : Unit → Shared → Prop} (I : Inv X pins σ H s) (hN : X.N.Nodup) (hi : X.N[i]? = some x) (hx : Loc X.env.scope x) (r : RelV v u)
    (h : ∀ s', Inv X pins (σ.set i (some v)) H s' → (∃ a, Heap.SameBut a s.heap s'.heap ∧ (a = X.env.locals ∨ X.env.cells.lookup x = some a)) → Q () s') (hf : X.fn x = true ∨ X.env.scope.names.lookup x = some .local := by first | exact .inl rfl | exact .inr rfl | assumption) : wpAny M A (storeName X.env x u) Q E s := by
  obtain ⟨m, hn, hl⟩ := id I.loc
  have hcls : (X.env.scope.kind == .class || (X.env.scope.kind == .module && X.env.locals != X.env.globals)) = false := by rw [I.ok.kind]; rfl
  have hiσ : i < σ.length := by rw [I.len]; exact (List.getElem?_eq_some_iff.mp hi).1
  have cne := I.cne
  have tracked : ∀ {a : Addr} {h' : Heap}, (∃ o, s.heap.get? a = some o ∧ H a = none) → Heap.SameBut a s.heap h' → HOk X.prog X.w H h' := fun {a h'} ha hs b ob e => by
    obtain ⟨_, _, hfree⟩ := ha
    refine (I.hok b ob e).stay (fun c w' hc q => (hs.2 c ?_).trans q) (fun _ q => q) fun _ _ q => q
    rintro rfl
    rcases hc with rfl | hc
    · rw [hfree] at e; cases e
    · rw [hfree] at hc; cases hc
  rcases hx with hk | hk
  · refine wpAny_storeName_local hk hn (fun h' hn' hs => ?_) hcls
    obtain ⟨oL, _, _, hoL, _⟩ := id hn
    refine h _ ⟨I.ok, I.os, I.bare, ⟨fun b o e n hb hx => ?_, fun b o e n hb hx => ?_, I.base.free, fun b o e hx => ?_, I.base.tups, I.base.frzs, I.base.tbls⟩, ⟨_, hn', fun j y v' e1 e2 e3 => ?_⟩, fun y c e => ?_, I.free, I.freeC, fun p hp => ?_, tracked ⟨oL, hoL, I.free⟩ hs, by simpa using I.len⟩ ⟨_, hs, .inl rfl⟩
    · exact (hs.2 b (Nat.ne_of_lt (Nat.lt_of_lt_of_le (Heap.lt_size e) I.ok.above))).trans (I.base.keep b o e n hb hx)
    · obtain ⟨sl, e1⟩ := I.base.slot b o e n hb hx
      exact ⟨sl, (hs.2 b (Nat.ne_of_lt (Nat.lt_of_lt_of_le (Heap.lt_size e) I.ok.above))).trans e1⟩
    · obtain ⟨o', e1⟩ := I.base.there b o e hx
      exact ⟨o', (hs.2 b (Nat.ne_of_lt (Nat.lt_of_lt_of_le (Heap.lt_size e) I.ok.above))).trans e1⟩
    · by_cases hj : j = i
      · subst hj
        rw [hi] at e1; cases e1
        rw [List.getElem?_set_self hiσ] at e2
        cases e2
        exact ⟨u, r, .inl ⟨hk, by simp⟩⟩
      · rw [List.getElem?_set_ne (Ne.symm hj)] at e2
        obtain ⟨u', r', q⟩ := hl j y v' e1 e2 e3
        refine ⟨u', r', ?_⟩
        rcases q with ⟨k, e⟩ | ⟨k, c, e, z⟩
        · refine .inl ⟨k, ?_⟩
          have : y ≠ x := fun e => hj (nodup_ix hN e1 (e ▸ hi))
          simp [this, e]
        · exact .inr ⟨k, c, e, z.sameBut hs (cne y c e)⟩
    · obtain ⟨w', z⟩ := I.cell y c e
      exact ⟨w', z.sameBut hs (cne y c e)⟩
    · obtain ⟨e, n, ne, nf, d⟩ := I.pin p hp
      exact ⟨(hs.2 p.1 ne).trans e, n, ne, nf, d⟩
  · have hfn : X.fn x = true := by
      rcases hf with z | z
      · exact z
      · rw [z] at hk; cases hk
    obtain ⟨c, hc⟩ := I.ok.has x (.inl hk)
    obtain ⟨w', z⟩ := I.cell x c hc
    refine wpAny_storeName_cell I.ok.kind hk hc z (fun h' hc' hs => ?_)
    obtain ⟨oc, hoc, hocd⟩ := id z
    refine h { s with heap := h' } ⟨I.ok, I.os, I.bare, ⟨fun b o e n hb hx => ?_, fun b o e n hb hx => ?_, I.base.free, fun b o e hx => ?_, I.base.tups, I.base.frzs, I.base.tbls⟩, ⟨m, hn.sameBut hs (Ne.symm (cne x c hc)), fun j y v' e1 e2 e3 => ?_⟩, fun y c' e => ?_, I.free, I.freeC, fun p hp => ?_, tracked ⟨oc, hoc, I.freeC x c hc⟩ hs, by simpa using I.len⟩ ⟨c, hs, .inr hc⟩
    · exact (hs.2 b (Nat.ne_of_lt (Nat.lt_of_lt_of_le (Heap.lt_size e) (I.ok.cab x c hfn hc)))).trans (I.base.keep b o e n hb hx)
    · obtain ⟨sl, e1⟩ := I.base.slot b o e n hb hx
      exact ⟨sl, (hs.2 b (Nat.ne_of_lt (Nat.lt_of_lt_of_le (Heap.lt_size e) (I.ok.cab x c hfn hc)))).trans e1⟩
    · obtain ⟨o', e1⟩ := I.base.there b o e hx
      exact ⟨o', (hs.2 b (Nat.ne_of_lt (Nat.lt_of_lt_of_le (Heap.lt_size e) (I.ok.cab x c hfn hc)))).trans e1⟩
    · by_cases hj : j = i
      · subst hj
        rw [hi] at e1; cases e1
        rw [List.getElem?_set_self hiσ] at e2
        cases e2
        exact ⟨u, r, .inr ⟨.inl hk, c, hc, hc'⟩⟩
      · rw [List.getElem?_set_ne (Ne.symm hj)] at e2
        obtain ⟨u', r', q⟩ := hl j y v' e1 e2 e3
        refine ⟨u', r', ?_⟩
        rcases q with q | ⟨k, c', e, z'⟩
        · exact .inl q
        · refine .inr ⟨k, c', e, z'.sameBut hs ?_⟩
          rintro rfl
          exact hj (nodup_ix hN e1 (I.ok.inj _ _ _ e hc ▸ hi))
    · by_cases hcc : c' = c
      · subst hcc; exact ⟨_, hc'⟩
      · obtain ⟨w2, z2⟩ := I.cell y c' e
        exact ⟨w2, z2.sameBut hs hcc⟩
    · obtain ⟨e, n, ne, nf, d⟩ := I.pin p hp
      refine ⟨(hs.2 p.1 ?_).trans e, n, ne, nf, d⟩
      intro q
      rw [q, hoc] at e
      have q' : oc = p.2 := Option.some.inj e
      exact d w' (by rw [← q']; exact hocd)
theorem store_ok {M : Model} {A : Around} {E : Value → Shared → Prop} {i : Nat} {x : Str} {v : V} {u : Value} {Q : Unit → Shared → Prop} (I : Inv X pins σ H s) (hN : X.N.Nodup) (hi : X.N[i]? = some x) (hx : Loc X.env.scope x) (r : RelV v u)
    (h : ∀ s', Inv X pins (σ.set i (some v)) H s' → Q () s') (hf : X.fn x = true ∨ X.env.scope.names.lookup x = some .local := by first | exact .inl rfl | exact .inr rfl | assumption) : wpAny M A (storeName X.env x u) Q E s :=
  store_ok2 I hN hi hx r (fun s' I' _ => h s' I') hf
theorem Inv.call' {s' : Shared} {ch : List Addr} (I : Inv X pins σ H s) (ho : s'.os = s.os) (u : Un (frs X.stack) ch H H' s.heap s'.heap) (hok : HOk X.prog X.w H' s'.heap) (hg : AllBare s'.gens)
    (hch : ∀ b ∈ ch, (b ∈ X.ex ∨ X.s₀.heap.objs.size ≤ b) ∧ b ≠ X.env.locals ∧ (∀ x c, X.env.cells.lookup x = some c → c ≠ b) ∧ ∀ p ∈ X.pn ++ pins, p.1 ≠ b) : Inv X pins σ H' s' := by
  obtain ⟨h', g', d', t', o'⟩ := s'
  have e : o' = s.os := ho
  subst e
  exact I.call (g' := g') (t' := t') (d' := d') u hok hg hch
end
noncomputable abbrev XK := Value → Option Addr → Hp → Prop
noncomputable abbrev St := List (Option V)
noncomputable abbrev VK := V → Hp → Prop
noncomputable abbrev TE := St → Hp → VK → Prop
noncomputable abbrev TT := St → Hp → (Bool → Hp → Prop) → Prop
noncomputable abbrev TA := St → Hp → (List V → Hp → Prop) → Prop
structure Ends where
  nx : St → Hp → Prop
  rt : VK
  bk : St → Hp → Prop := fun _ _ => False
  ct : St → Hp → Prop := fun _ _ => False
noncomputable abbrev TS := Ends → St → Hp → Prop
noncomputable def EP (X : Cx) (pins : List (Addr × Obj)) (σ : St) (Q : VK) (u : Value) (s' : Shared) : Prop := ∃ v H', Inv X pins σ H' s' ∧ RelV v u ∧ Q v H'
noncomputable def TP (X : Cx) (pins : List (Addr × Obj)) (σ : St) (Q : Bool → Hp → Prop) (b : Bool) (s' : Shared) : Prop := ∃ H', Inv X pins σ H' s' ∧ Q b H'
noncomputable def AP (X : Cx) (pins : List (Addr × Obj)) (σ : St) (Q : List V → Hp → Prop) (us : List Value) (s' : Shared) : Prop := ∃ vs H', Inv X pins σ H' s' ∧ Vals vs us ∧ Q vs H'
noncomputable def SP (X : Cx) (pins : List (Addr × Obj)) (D : Ends) (f : Flow) (s' : Shared) : Prop :=
  match f with
  | .next => ∃ σ' H', Inv X pins σ' H' s' ∧ D.nx σ' H'
  | .brk => ∃ σ' H', Inv X pins σ' H' s' ∧ D.bk σ' H'
  | .cont => ∃ σ' H', Inv X pins σ' H' s' ∧ D.ct σ' H'
  | .ret u => ∃ v σ' H', Inv X pins σ' H' s' ∧ RelV v u ∧ D.rt v H'
noncomputable def PE (X : Cx) (e : Expr) (t : TE) : Prop :=
  ∀ (pins : List (Addr × Obj)) (s : Shared) (σ : St) (H : Hp) (Q : VK), Inv X pins σ H s → t σ H Q → wpAny (model X.prog X.w) X.A (eval e X.env) (EP X pins σ Q) X.xe s
noncomputable def PT (X : Cx) (e : Expr) (t : TT) : Prop :=
  ∀ (pins : List (Addr × Obj)) (s : Shared) (σ : St) (H : Hp) (Q : Bool → Hp → Prop), Inv X pins σ H s → t σ H Q → wpAny (model X.prog X.w) X.A (isTrue e X.env (eval e X.env)) (TP X pins σ Q) X.xe s
noncomputable def PW (X : Cx) (e : Expr) (t : TT) : Prop :=
  ∀ (whole : Sem Value) (pins : List (Addr × Obj)) (s : Shared) (σ : St) (H : Hp) (Q : Bool → Hp → Prop), Inv X pins σ H s → t σ H Q → wpAny (model X.prog X.w) X.A (isTrue e X.env whole) (TP X pins σ Q) X.xe s
theorem PW.pt {X : Cx} {e : Expr} {t : TT} (h : PW X e t) : PT X e t := h _
noncomputable def PA (X : Cx) (es : List Expr) (t : TA) : Prop :=
  ∀ (pos : Pos) (pins : List (Addr × Obj)) (s : Shared) (σ : St) (H : Hp) (Q : List V → Hp → Prop), Inv X pins σ H s → t σ H Q → wpAny (model X.prog X.w) X.A (spliced (backTo pos (starEach es X.env))) (AP X pins σ Q) X.xe s
noncomputable def PS (X : Cx) (st : Stmt) (t : TS) : Prop :=
  ∀ (pins : List (Addr × Obj)) (s : Shared) (σ : St) (H : Hp) (D : Ends), Inv X pins σ H s → t D σ H → wpAny (model X.prog X.w) X.A (exec st X.env) (SP X pins D) X.xe s
noncomputable def PSs (X : Cx) (st : List Stmt) (t : TS) : Prop :=
  ∀ (pins : List (Addr × Obj)) (s : Shared) (σ : St) (H : Hp) (D : Ends), Inv X pins σ H s → t D σ H → wpAny (model X.prog X.w) X.A (execs st X.env) (SP X pins D) X.xe s
theorem thn {α : Type} {t : Sem α} {Q Q' : α → Shared → Prop} {M : Model} {A : Around} {E : Value → Shared → Prop} {s : Shared} (h : wpAny M A t Q E s) (hQ : ∀ a s, Q a s → Q' a s) : wpAny M A t Q' E s := wpAny_mono h hQ fun _ _ x => x
end L2
namespace L2
open PySem PySem.Spec PyProof.Rows
section
variable {X : Cx}
noncomputable def tVar (i : Nat) : TE := fun σ H Q => ∃ v, σ[i]? = some (some v) ∧ Q v H
noncomputable def tC (v : V) : TE := fun _ H Q => Q v H
theorem pe_var {i : Nat} {x : Str} {pos : Pos} (hN : X.N[i]? = some x) (hv : Vis X.env.scope x) (hd : (x == ("__debug__" : Str)) = false := by decide) (hcd : (x == ("__classdict__" : Str)) = false := by decide) : PE X (.Name x pos) (tVar i) := by
  intro pins s σ H Q I h
  obtain ⟨v, e, h⟩ := h
  obtain ⟨m, hn, hl⟩ := I.loc
  obtain ⟨u, r, l⟩ := hl i x v hN e hv
  have fin : EP X pins σ Q u s := ⟨v, H, I, r, h⟩
  rcases l with ⟨hk, hm⟩ | ⟨hk, c, hc, hcell⟩
  · exact wpAny_Name (wpAny_loadName_local I.ok.kind hk hn hm fin) hd
  · rcases hk with hk | hk
    · exact wpAny_Name (wpAny_loadName_cell I.ok.kind hk hc hcell fin) hd
    · exact wpAny_Name (wpAny_loadName_free I.ok.kind hk hc hcell fin hcd) hd
theorem pe_int {i j pos} : PE X (.Constant (.int i) j pos) (tC (.int i)) := fun _ _ _ H _ I h => wpAny_Constant_int ⟨.int i, H, I.tok _, ⟨_, rfl⟩, h⟩
theorem pe_bl {b j pos} : PE X (.Constant (.bool b) j pos) (tC (.bl b)) := fun _ _ _ H _ I h => Constant_bool ⟨.bl b, H, I, rfl, h⟩
theorem pe_non {j pos} : PE X (.Constant .none j pos) (tC .non) := fun _ _ _ H _ I h => Constant_none ⟨.non, H, I, rfl, h⟩
theorem pe_str {x j pos} : PE X (.Constant (.str x) j pos) (tC (.str x)) := fun _ _ _ H _ I h => Calls.Constant_str ⟨.str x, H, I.tok _, ⟨_, rfl⟩, h⟩
noncomputable def Gl (X : Cx) (x : Str) : Prop := X.env.kindOf x = some .globalImplicit
theorem ld_glob {E : Value → Shared → Prop} {pins : List (Addr × Obj)} {s : Shared} {σ : St} {H : Hp} {x : Str} {u : Value} {pos : Pos} {Q : Value → Shared → Prop} (I : Inv X pins σ H s) (hg : Gl X x) (hm : X.mg x = some u) (h : Q u s)
    (hd : (x == ("__debug__" : Str)) = false := by decide) : wpAny (model X.prog X.w) X.A (eval (.Name x pos) X.env) Q E s :=
  Calls.Name_function_global I.ok.kind hg (Calls.loadGlobal_global (by rw [I.ok.glob]; exact I.mod.glob.keeps I.bk) hm h) hd
theorem ld_blt {E : Value → Shared → Prop} {pins : List (Addr × Obj)} {s : Shared} {σ : St} {H : Hp} {x : Str} {u : Value} {pos : Pos} {Q : Value → Shared → Prop} (I : Inv X pins σ H s) (hg : Gl X x) (hm : X.mg x = none) (hv : bootBuiltins x = some u) (h : Q u s)
    (hn : x ≠ "__name__" := by decide) (hd : (x == ("__debug__" : Str)) = false := by decide) : wpAny (model X.prog X.w) X.A (eval (.Name x pos) X.env) Q E s := by
  obtain ⟨mb, h1, h2⟩ := I.mod.blt
  exact Calls.Name_function_global I.ok.kind hg (Calls.loadGlobal_builtin (by rw [I.ok.glob]; exact I.mod.glob.keeps I.bk) hm (by rw [I.ok.blt]; exact h1.keeps I.bk) ((h2 x hn).trans hv) h) hd
theorem pe_glob {x : Str} {v : V} {u : Value} {pos : Pos} (hg : Gl X x) (hm : X.mg x = some u) (r : RelV v u) (hd : (x == ("__debug__" : Str)) = false := by decide) : PE X (.Name x pos) (tC v) :=
  fun _ _ _ H _ I h => ld_glob I hg hm ⟨v, H, I, r, h⟩ hd
theorem pe_bltn {x : Str} {v : V} {u : Value} {pos : Pos} (hg : Gl X x) (hm : X.mg x = none) (hv : bootBuiltins x = some u) (r : RelV v u) (hn : x ≠ "__name__" := by decide) (hd : (x == ("__debug__" : Str)) = false := by decide) : PE X (.Name x pos) (tC v) :=
  fun _ _ _ H _ I h => ld_blt I hg hm hv ⟨v, H, I, r, h⟩ hn hd
variable {a b : Expr} {ta tb : TE} {pos : Pos}
noncomputable def tB (t : TE) : TT := fun σ H Q => t σ H fun x H1 => ∃ c, x = .bl c ∧ Q c H1
theorem pt_val {e : Expr} {t : TE} (h : PE X e t) (he : ∀ whole, isTrue e X.env whole = (do let v ← whole; standAt e.pos; holding [v] (truthy v)) := by intro _; rfl) : PT X e (tB t) := by
  intro pins s σ H Q I hw
  refine isTrue_plain (thn (h pins s σ H _ I hw) fun v s1 hq__ => ?_) (he _)
  obtain ⟨x, H1, I1, r1, q1⟩ := hq__
  obtain ⟨d, rfl, q⟩ := q1
  cases r1
  exact wpAny_truthy_bool ⟨H1, I1, q⟩
variable {tA tB' : TT} {rest : List Expr}
noncomputable def tAnd (t u : TT) : TT := fun σ H Q => t σ H fun c H1 => if c = true then u σ H1 Q else Q false H1
noncomputable def tOr (t u : TT) : TT := fun σ H Q => t σ H fun c H1 => if c = true then Q true H1 else u σ H1 Q
noncomputable def tNot (t : TT) : TT := fun σ H Q => t σ H fun c H1 => Q (!c) H1
theorem pw_and1 (ha : PT X a tA) : PW X (.BoolOp .And [a] pos) tA := by
  intro wh pins s σ H Q I h
  refine isTrue_and (thn (ha pins s σ H Q I h) fun c s1 e => ?_)
  cases c with
  | true => exact isTrue_and_nil e
  | false => exact e
theorem pw_or1 (ha : PT X a tA) : PW X (.BoolOp .Or [a] pos) tA := by
  intro wh pins s σ H Q I h
  refine isTrue_or (thn (ha pins s σ H Q I h) fun c s1 e => ?_)
  cases c with
  | false => exact isTrue_or_nil e
  | true => exact e
theorem pw_and (ha : PT X a tA) (hb : PW X (.BoolOp .And (b :: rest) pos) tB') : PW X (.BoolOp .And (a :: b :: rest) pos) (tAnd tA tB') := by
  intro wh pins s σ H Q I h
  refine isTrue_and (thn (ha pins s σ H _ I h) fun c s1 hq__ => ?_)
  obtain ⟨H1, I1, q1⟩ := hq__
  cases c with
  | true => exact hb wh pins s1 σ H1 Q I1 q1
  | false => exact ⟨H1, I1, q1⟩
theorem pw_or (ha : PT X a tA) (hb : PW X (.BoolOp .Or (b :: rest) pos) tB') : PW X (.BoolOp .Or (a :: b :: rest) pos) (tOr tA tB') := by
  intro wh pins s σ H Q I h
  refine isTrue_or (thn (ha pins s σ H _ I h) fun c s1 hq__ => ?_)
  obtain ⟨H1, I1, q1⟩ := hq__
  cases c with
  | true => exact ⟨H1, I1, q1⟩
  | false => exact hb wh pins s1 σ H1 Q I1 q1
theorem pt_not (ha : PT X a tA) : PT X (.UnaryOp .Not a pos) (tNot tA) := by
  intro pins s σ H Q I h
  exact isTrue_not (ha pins s σ H (fun c H1 => Q (!c) H1) I h)
noncomputable def tAndV (ta tb : TE) : TE := fun σ H Q => ta σ H fun x H1 => ∃ c, x = .bl c ∧ if c = true then tb σ H1 Q else Q (.bl false) H1
noncomputable def tNotV (ta : TE) : TE := fun σ H Q => ta σ H fun x H1 => ∃ c, x = .bl c ∧ Q (.bl (!c)) H1
theorem pe_one {op} {t : TE} (h : PE X a t) : PE X (.BoolOp op [a] pos) t := fun pins s σ H Q I hw => BoolOp_one (h pins s σ H Q I hw)
theorem pe_and (ha : PE X a ta) (hb : PE X (.BoolOp .And (b :: rest) pos) tb) : PE X (.BoolOp .And (a :: b :: rest) pos) (tAndV ta tb) := by
  intro pins s σ H Q I h
  refine BoolOp_and (thn (ha pins s σ H _ I h) fun v s1 hq__ => ?_)
  obtain ⟨x, H1, I1, r1, q1⟩ := hq__
  obtain ⟨c, rfl, q1⟩ := q1
  cases r1
  refine wpAny_truthy_bool ?_
  cases c with
  | true => exact hb pins s1 σ H1 Q I1 q1
  | false => exact ⟨.bl false, H1, I1, rfl, q1⟩
theorem pe_not (ha : PE X a ta) : PE X (.UnaryOp .Not a pos) (tNotV ta) := by
  intro pins s σ H Q I h
  refine UnaryOp_ (thn (ha pins s σ H _ I h) fun v s1 hq__ => ?_)
  obtain ⟨x, H1, I1, r1, q1⟩ := hq__
  obtain ⟨c, rfl, q1⟩ := q1
  cases r1
  exact not_of (wpAny_truthy_bool ⟨.bl (!c), H1, I1, rfl, q1⟩)
end
end L2
namespace L2
open PySem PySem.Spec PyProof.Rows
noncomputable def SqL (K : PySem.W.Frag) (H : Hp) (a : Addr) (xs : List V) : Prop :=
  Rd H a (.lst xs) ∨
    ∃ (o : Obj) (its : Array Value) (n : Nat), K.lookup a = some o ∧ o.cls = .type "list" ∧ o.dict = none ∧ o.data = .seq its n ∧ its.size ≤ sizeLine ∧ Vals xs its.toList
noncomputable def SqT (K : PySem.W.Frag) (H : Hp) (a : Addr) (xs : List V) : Prop :=
  Rd H a (.tup xs) ∨
    ∃ (o : Obj) (its : Array Value) (n : Nat), K.lookup a = some o ∧ o.cls = .type "tuple" ∧ o.data = .seq its n ∧ its.size ≤ sizeLine ∧ Vals xs its.toList
noncomputable def absV : Value → Option V
  | .none => some .non
  | .bool b => some (.bl b)
  | .int i _ => some (.int i)
  | .str x _ => some (.str x)
  | .bytes b _ => some (.byt b)
  | .float b _ => some (.flt b)
  | .ref a => some (.ref a)
  | .type n => some (.ty n)
  | _ => none
theorem RelV.abs {x : V} {u : Value} (r : RelV x u) : absV u = some x := by
  cases x with
  | non => cases r; rfl
  | bl _ => cases r; rfl
  | int _ => obtain ⟨t, rfl⟩ := r; rfl
  | str _ => obtain ⟨t, rfl⟩ := r; rfl
  | byt _ => obtain ⟨t, rfl⟩ := r; rfl
  | flt _ => obtain ⟨t, rfl⟩ := r; rfl
  | ref _ => cases r; rfl
  | ty _ => cases r; rfl
theorem RelV.inj {x y : V} {u : Value} (r : RelV x u) (q : RelV y u) : x = y := Option.some.inj (r.abs.symm.trans q.abs)
theorem Vals.inj : ∀ {xs ys : List V} {us : List Value}, Vals xs us → Vals ys us → xs = ys
  | _, _, _, .nil, .nil => rfl
  | _, _, _, .cons r t, .cons r' t' => by rw [r.inj r', Vals.inj t t']
section
variable {X : Cx} {pins : List (Addr × Obj)} {σ : St} {H : Hp} {s : Shared} {a : Addr} {xs ys : List V}
theorem SqL.of {K : PySem.W.Frag} (h : H a = some (.lst xs)) : SqL K H a xs := .inl (.inl h)
theorem SqT.of {K : PySem.W.Frag} (h : H a = some (.tup xs)) : SqT K H a xs := .inl (.inl h)
theorem Inv.list (I : Inv X pins σ H s) (h : SqL X.K H a xs) : ∃ its : List Value, Vals xs its ∧ PlainL s.heap a its.toArray ∧ xs.length ≤ sizeLine := by
  rcases h with h | ⟨o, its, n, hk, hc, hd, hs, hz, r⟩
  · obtain ⟨z, its, n, r, e⟩ := h.ok I.hok
    exact ⟨its, r, ⟨_, n, e, rfl, rfl, rfl⟩, z⟩
  · refine ⟨its.toList, r, ⟨o, n, I.kIn a o hk, hc, hd, by simpa using hs⟩, ?_⟩
    have e := r.length
    simp only [Array.length_toList] at e
    omega
theorem Inv.tuple (I : Inv X pins σ H s) (h : SqT X.K H a xs) : ∃ its : List Value, Vals xs its ∧ IsTup s.heap a its.toArray ∧ xs.length ≤ sizeLine := by
  rcases h with h | ⟨o, its, n, hk, hc, hs, hz, r⟩
  · obtain ⟨z, its, r, p⟩ := h.ok I.hok
    exact ⟨its, r, p, z⟩
  · refine ⟨its.toList, r, ⟨o, I.kIn a o hk, hc, n, by simpa using hs⟩, ?_⟩
    have e := r.length
    simp only [Array.length_toList] at e
    omega
theorem Inv.list_inj (I : Inv X pins σ H s) (h : SqL X.K H a xs) (h' : SqL X.K H a ys) : xs = ys := by
  obtain ⟨its, r, ⟨o, n, e, _, _, d⟩, _⟩ := I.list h
  obtain ⟨its', r', ⟨o', n', e', _, _, d'⟩, _⟩ := I.list h'
  rw [e] at e'; cases e'
  rw [d] at d'
  injection d' with d1 _
  have : its = its' := by simpa using congrArg Array.toList d1
  subst this
  exact r.inj r'
theorem Inv.tuple_inj (I : Inv X pins σ H s) (h : SqT X.K H a xs) (h' : SqT X.K H a ys) : xs = ys := by
  obtain ⟨its, r, ⟨o, e, _, n, d⟩, _⟩ := I.tuple h
  obtain ⟨its', r', ⟨o', e', _, n', d'⟩, _⟩ := I.tuple h'
  rw [e] at e'; cases e'
  rw [d] at d'
  injection d' with d1 _
  have : its = its' := by simpa using congrArg Array.toList d1
  subst this
  exact r.inj r'
end
noncomputable abbrev Cx.wish (X : Cx) (E : Value → Shared → Prop) : Cx := { X with xe := E }
noncomputable abbrev Cx.nox (X : Cx) : Cx := X.wish fun _ _ => False
theorem Cx.Ok.wish {X : Cx} (ok : X.Ok) (E : Value → Shared → Prop) : (X.wish E).Ok :=
  ⟨ok.mod, ok.kind, ok.glob, ok.blt, ok.above, ok.inj, ok.has, ok.cab, ok.hd, ok.frames, ok.stk, ok.exf, ok.bs, ok.bsz, ok.noex, ok.exfs, ok.funs, ok.frf⟩
theorem Cx.Ok.unwish {X : Cx} {E : Value → Shared → Prop} (ok : (X.wish E).Ok) : X.Ok :=
  ⟨ok.mod, ok.kind, ok.glob, ok.blt, ok.above, ok.inj, ok.has, ok.cab, ok.hd, ok.frames, ok.stk, ok.exf, ok.bs, ok.bsz, ok.noex, ok.exfs, ok.funs, ok.frf⟩
section
variable {X : Cx} {pins : List (Addr × Obj)} {σ : St} {H : Hp} {s : Shared} {E : Value → Shared → Prop}
theorem Inv.wish (I : Inv X pins σ H s) (E : Value → Shared → Prop) : Inv (X.wish E) pins σ H s := ⟨I.ok.wish E, I.os, I.bare, I.base, I.loc, I.cell, I.free, I.freeC, I.pin, I.hok, I.len⟩
theorem Inv.unwish (I : Inv (X.wish E) pins σ H s) : Inv X pins σ H s := ⟨I.ok.unwish, I.os, I.bare, I.base, I.loc, I.cell, I.free, I.freeC, I.pin, I.hok, I.len⟩
theorem SP.unwish {D : Ends} {f : Flow} {s' : Shared} (h : SP (X.wish E) pins D f s') : SP X pins D f s' := by
  cases f with
  | next => obtain ⟨σ', H', I, q⟩ := h; exact ⟨σ', H', I.unwish, q⟩
  | brk => obtain ⟨σ', H', I, q⟩ := h; exact ⟨σ', H', I.unwish, q⟩
  | cont => obtain ⟨σ', H', I, q⟩ := h; exact ⟨σ', H', I.unwish, q⟩
  | ret u => obtain ⟨v, σ', H', I, r, q⟩ := h; exact ⟨v, σ', H', I.unwish, r, q⟩
theorem PSs.nox {st : List Stmt} {t : TS} (h : PSs X.nox st t) : PSs X st t := fun pins s σ H D I hw =>
  wpAny_mono (h pins s σ H D (I.wish _) hw) (fun _ _ q => q.unwish) fun _ _ z => False.elim z
end
section
variable {X : Cx} {st : Stmt} {rest : List Stmt} {t u : TS} {e : Expr} {te : TE} {pos : Pos}
noncomputable def tNext : TS := fun D σ H => D.nx σ H
noncomputable def tSeq (t u : TS) : TS := fun D σ H => t { D with nx := u D } σ H
theorem pss_nil : PSs X [] tNext := fun _ _ σ H _ I h => wpAny_execs_nil ⟨σ, H, I, h⟩
theorem pss_cons (h1 : PS X st t) (h2 : PSs X rest u) : PSs X (st :: rest) (tSeq t u) := by
  intro pins s σ H D I h
  refine wpAny_execs_cons (thn (h1 pins s σ H { D with nx := u D } I h) fun f s1 q => ?_)
  cases f with
  | next =>
    obtain ⟨σ', H', I', q⟩ := q
    exact h2 pins s1 σ' H' D I' q
  | ret v => exact q
  | brk => exact q
  | cont => exact q
theorem pss_one (h1 : PS X st t) : PSs X [st] t := by
  intro pins s σ H D I h
  refine wpAny_execs_cons (thn (h1 pins s σ H D I h) fun f s1 q => ?_)
  cases f with
  | next => exact wpAny_execs_nil q
  | ret v => exact q
  | brk => exact q
  | cont => exact q
theorem Inv.quiet {pins : List (Addr × Obj)} {σ : St} {H : Hp} {s : Shared} (I : Inv X pins σ H s) : interactive X.env = false := by simp [interactive, I.ok.kind]
noncomputable def tDrop (te : TE) : TS := fun D σ H => te σ H fun _ H1 => D.nx σ H1
theorem ps_expr (he : PE X e te) (hs : swapsWith e none pos.line X.env = pure false := by rfl) : PS X (.Expr e pos) (tDrop te) := by
  intro pins s σ H D I h
  exact wpAny_Expr_any (thn (he pins s σ H _ I h) fun v s1 ⟨x, H1, I1, r1, q1⟩ => ⟨σ, H1, I1, q1⟩) I.quiet hs
noncomputable def tRet (te : TE) : TS := fun D σ H => te σ H D.rt
theorem ps_ret (he : PE X e te) : PS X (.Return (some e) pos) (tRet te) := by
  intro pins s σ H D I h
  exact wpAny_Return_some (thn (he pins s σ H _ I h) fun v s1 ⟨x, H1, I1, r1, q1⟩ => ⟨x, σ, H1, I1, r1, q1⟩)
noncomputable def tIfS (c : TT) (t u : TS) : TS := fun D σ H => c σ H fun b H1 => if b = true then t D σ H1 else u D σ H1
theorem ps_if {c : Expr} {a b : List Stmt} {tc : TT} (hc : PT X c tc) (ha : PSs X a t) (hb : PSs X b u) : PS X (.If c a b pos) (tIfS tc t u) := by
  intro pins s σ H D I h
  refine wpAny_If (thn (hc pins s σ H _ I h) fun d s1 hq__ => ?_)
  obtain ⟨H1, I1, q1⟩ := hq__
  cases d with
  | true => exact ha pins s1 σ H1 D I1 q1
  | false => exact hb pins s1 σ H1 D I1 q1
noncomputable def tNever : TS := fun _ _ _ => False
theorem ps_never : PS X st tNever := fun _ _ _ _ _ _ h => h.elim
theorem pss_never {sts : List Stmt} : PSs X sts tNever := fun _ _ _ _ _ _ h => h.elim
end
noncomputable abbrev TG := V → St → Hp → (St → Hp → Prop) → Prop
noncomputable abbrev TGs := List V → St → Hp → (St → Hp → Prop) → Prop
noncomputable def PG (X : Cx) (target : Expr) (t : TG) : Prop :=
  ∀ (pins : List (Addr × Obj)) (s : Shared) (σ : St) (H : Hp) (v : V) (u : Value) (Q : St → Hp → Prop), Inv X pins σ H s → RelV v u → t v σ H Q →
    wpAny (model X.prog X.w) X.A (assign target X.env u) (fun _ s' => ∃ σ' H', Inv X pins σ' H' s' ∧ Q σ' H') X.xe s
noncomputable def PGs (X : Cx) (ts : List Expr) (t : TGs) : Prop :=
  ∀ (pins : List (Addr × Obj)) (s : Shared) (σ : St) (H : Hp) (vs : List V) (us : List Value) (Q : St → Hp → Prop), Inv X pins σ H s → Vals vs us → t vs σ H Q →
    wpAny (model X.prog X.w) X.A (assignInOrder ((assignEach ts X.env).map (·.2)) us) (fun _ s' => ∃ σ' H', Inv X pins σ' H' s' ∧ Q σ' H') X.xe s
section
variable {X : Cx} {pos : Pos}
noncomputable def gName (i : Nat) : TG := fun v σ H Q => Q (σ.set i (some v)) H
theorem pg_name {i : Nat} {x : Str} (hN : X.N.Nodup) (hi : X.N[i]? = some x) (hx : Loc X.env.scope x) (hf : X.fn x = true ∨ X.env.scope.names.lookup x = some .local := by first | exact .inl rfl | exact .inr rfl | assumption) : PG X (.Name x pos) (gName i) := by
  intro pins s σ H v u Q I r h
  exact wpAny_assign_Name (store_ok I hN hi hx r (fun s' I' => ⟨_, H, I', h⟩) hf)
noncomputable def gNil : TGs := fun vs σ H Q => vs = [] ∧ Q σ H
noncomputable def gCons (t : TG) (u : TGs) : TGs := fun vs σ H Q => ∃ v r, vs = v :: r ∧ t v σ H fun σ' H' => u r σ' H' Q
theorem pgs_nil : PGs X [] gNil := by
  intro pins s σ H vs us Q I r h
  obtain ⟨e, h⟩ := h
  subst e
  cases r
  exact assignInOrder_nil ⟨σ, H, I, h⟩
theorem pgs_cons {e : Expr} {es : List Expr} {t : TG} {u : TGs} (h1 : PG X e t) (h2 : PGs X es u)
    (hs : (assignEach (e :: es) X.env).map (·.2) = assign e X.env :: (assignEach es X.env).map (·.2) := by rfl) : PGs X (e :: es) (gCons t u) := by
  intro pins s σ H vs us Q I r h
  obtain ⟨v, vr, e1, h⟩ := h
  subst e1
  cases r with
  | cons r rr =>
    rw [hs]
    refine assignInOrder_cons (thn (h1 pins s σ H _ _ _ I r h) fun _ s1 hq__ => ?_)
    obtain ⟨σ1, H1, I1, q1⟩ := hq__
    exact h2 pins s1 σ1 H1 _ _ Q I1 rr q1
noncomputable def gTup (K : PySem.W.Frag) (n : Nat) (t : TGs) : TG := fun v σ H Q => ∃ a xs, v = .ref a ∧ SqT K H a xs ∧ xs.length = n ∧ t xs σ H Q
theorem pg_tup {es : List Expr} {k : Nat} {t : TGs} {n : Nat} (hc : X.calm = true) (h : PGs X es t)
    (hn : (assignEach es X.env).length = n := by rfl) (hst : (assignEach es X.env).findIdx? (·.1) = none := by rfl) : PG X (.Tuple es k pos) (gTup X.K n t) := by
  intro pins s σ H v u Q I r hw
  obtain ⟨a, xs, e1, hq, hl, hw⟩ := hw
  subst e1
  cases r
  obtain ⟨its, rv, ht, hz⟩ := I.tuple hq
  refine assign_Tuple_tuple (I.ok.hd hc) ht (by simp [hn, ← hl, rv.length]) hst fun h' hx => ?_
  have I1 : Inv X pins σ H { s with heap := h' } := I.kept (t' := s.toks) fun b o e => hx b o (Nat.ne_of_lt (Heap.lt_size e)) e
  exact h pins _ σ H xs _ Q I1 (by simpa using rv) hw
noncomputable def tAsg (te : TE) (g : TG) : TS := fun D σ H => te σ H fun x H1 => g x σ H1 D.nx
theorem ps_asg {tg e : Expr} {te : TE} {g : TG} (he : PE X e te) (hg : PG X tg g) (hs : swapsWithSole [tg] e pos.line X.env = pure false := by rfl) (hw : swappedStores [tg] e X.env = pure none := by rfl)
    (h1 : (assignEach [tg] X.env).map (·.2) = [assign tg X.env] := by rfl) : PS X (.Assign [tg] e pos) (tAsg te g) := by
  intro pins s σ H D I h
  refine wpAny_Assign_stores (thn (he pins s σ H _ I h) fun v s1 hq__ => ?_) hs hw
  obtain ⟨x, H1, I1, r1, q1⟩ := hq__
  rw [h1]
  exact thn (hg pins s1 σ H1 x v _ I1 r1 q1) fun _ s2 q => q
theorem ps_set {i : Nat} {x : Str} {e : Expr} {te : TE} {pos' : Pos} (hN : X.N.Nodup) (hi : X.N[i]? = some x) (hx : Loc X.env.scope x) (he : PE X e te) (hs : swapsWith e (some (.Name x pos')) pos.line X.env = pure false := by rfl) (hf : X.fn x = true ∨ X.env.scope.names.lookup x = some .local := by first | exact .inl rfl | exact .inr rfl | assumption) :
    PS X (.Assign [.Name x pos'] e pos) (tAsg te (gName i)) := by
  intro pins s σ H D I h
  refine wpAny_Assign_Name (thn (he pins s σ H _ I h) fun v s1 hq__ => ?_) hs
  obtain ⟨y, H1, I1, r1, q1⟩ := hq__
  exact store_ok I1 hN hi hx r1 (fun s2 I2 => ⟨_, H1, I2, q1⟩) hf
end
section
variable {X : Cx} {pos : Pos}
end
structure It where
  go : Nat → Hp → Prop
  yld : Nat → Hp → V → Hp → Prop
  stop : Nat → Hp → Prop
noncomputable def FpOk (X : Cx) (pins : List (Addr × Obj)) (H : Hp) (b : Addr) : Prop :=
  H b = none ∧ b ≠ X.env.locals ∧ b ∉ X.fs ∧ (b ∈ X.ex ∨ X.s₀.heap.objs.size ≤ b) ∧ (∀ x c, X.env.cells.lookup x = some c → c ≠ b) ∧ ∀ p ∈ X.pn ++ pins, p.1 ≠ b
theorem Inv.fpOk {X : Cx} {pins : List (Addr × Obj)} {σ : St} {H H' : Hp} {s : Shared} {b : Addr} (I : Inv X pins σ H s) (hb : s.heap.objs.size ≤ b) (hn : H' b = none) : FpOk X pins H' b := by
  refine ⟨hn, Nat.ne_of_gt (Nat.lt_of_lt_of_le I.lt hb), I.nofs hb, .inr (Nat.le_trans I.sz hb), fun x c e z => ?_, fun p hp z => ?_⟩
  · obtain ⟨v, q⟩ := I.cell x c e
    exact absurd (Nat.lt_of_lt_of_le q.lt (by rw [z]; exact hb)) (Nat.lt_irrefl _)
  · exact absurd (Nat.lt_of_lt_of_le (Heap.lt_size (I.pin p hp).1) (by rw [z]; exact hb)) (Nat.lt_irrefl _)
structure Turn (P : Program) (w : World) (K : PySem.W.Frag) (tg : Expr) (J : It) (fp : List Addr) (it : Addr) (tn : Nat → Heap → Prop) : Prop where
  mem : it ∈ fp
  obj : ∀ i h, tn i h → ∀ b ∈ fp, ∃ o, h.get? b = some o ∧ ∀ v, o.data ≠ .cell v
  keep : ∀ i h h', tn i h → (∀ b ∈ fp, ∀ o, h.get? b = some o → h'.get? b = some o) → tn i h'
  item : ∀ (X : Cx), X.prog = P → X.w = w → X.K = K → X.calm = true → ∀ (i : Nat) (pins : List (Addr × Obj)) (s : Shared) (σ : St) (H : Hp) (E : Value → Shared → Prop), Inv X pins σ H s → (∀ b ∈ fp, FpOk X pins H b) → tn i s.heap → J.go i H →
    wpAny (model P w) X.A (pyNext (.ref it)) (fun r s1 => ∃ u, r = some u ∧
      wpAny (model P w) X.A (letOwnedTupleGo tg (.ref it) u) (fun _ s2 => ∃ x H', Inv X pins σ H' s2 ∧ RelV x u ∧ J.yld i H x H' ∧ tn (i + 1) s2.heap ∧ ∀ b ∈ fp, H' b = none) E s1) E s
  done : ∀ (X : Cx), X.prog = P → X.w = w → X.K = K → X.calm = true → ∀ (i : Nat) (pins : List (Addr × Obj)) (s : Shared) (σ : St) (H : Hp) (E : Value → Shared → Prop), Inv X pins σ H s → (∀ b ∈ fp, FpOk X pins H b) → tn i s.heap → J.stop i H →
    wpAny (model P w) X.A (pyNext (.ref it)) (fun r s1 => r = none ∧ Inv X pins σ H s1) E s
  self : ∀ (A : Around) (i : Nat) (s : Shared) (Q : Value → Shared → Prop) (E : Value → Shared → Prop), tn i s.heap → Q (.ref it) s → wpAny (model P w) A (pyIter (.ref it)) Q E s
noncomputable abbrev TI := St → Hp → (It → Hp → Prop) → Prop
noncomputable def PIE (X : Cx) (pins : List (Addr × Obj)) (σ : St) (tg : Expr) (R : It → Hp → Prop) (itv : Value) (s2 : Shared) : Prop :=
  ∃ (it : Addr) (fp : List Addr) (tn : Nat → Heap → Prop) (J : It) (H' : Hp), itv = .ref it ∧ Inv X pins σ H' s2 ∧ Turn X.prog X.w X.K tg J fp it tn ∧ tn 0 s2.heap ∧ (∀ b ∈ fp, FpOk X pins H' b) ∧ R J H'
noncomputable def PI (X : Cx) (tg iter : Expr) (wi : TI) : Prop :=
  ∀ (pins : List (Addr × Obj)) (s : Shared) (σ : St) (H : Hp) (R : It → Hp → Prop), Inv X pins σ H s → wi σ H R →
    wpAny (model X.prog X.w) X.A (eval iter X.env) (fun v s1 => wpAny (model X.prog X.w) X.A (pyIter v) (PIE X pins σ tg R) X.xe s1) X.xe s
theorem go_of {M : Model} {A : Around} {E : Value → Shared → Prop} {s : Shared} {tg : Expr} {it : Addr} {u : Value} {o : Obj} {n : String} {vs : Array Value} {Q : Unit → Shared → Prop} (ho : s.heap.get? it = some o) (hc : o.cls = .type n) (hd : o.data = .fields vs)
    (hn : ["enumerate", "zip", "dict_itemiterator", "dict_reverseitemiterator", "odict_iterator", "itertools.zip_longest", "itertools.pairwise"].contains n = false) (hQ : Q () s) : wpAny M A (letOwnedTupleGo tg (.ref it) u) Q E s := by
  unfold letOwnedTupleGo
  cases tg <;> first
    | exact wpAny_pure hQ
    | (cases u <;> first
        | exact wpAny_pure hQ
        | (refine wpAny_bind (wpAny_load ho ?_)
           rw [hc, hd]
           show wpAny M A (if (["enumerate", "zip", "dict_itemiterator", "dict_reverseitemiterator", "odict_iterator", "itertools.zip_longest", "itertools.pairwise"].contains n && vs[0]? == some (rawInt _)) = true then _ else _) Q E s
           rw [if_neg (by intro h; rw [hn, Bool.false_and] at h; cases h)]
           exact wpAny_pure hQ))
noncomputable def Itl (K : PySem.W.Frag) (a : Addr) : It :=
  ⟨fun i H => ∃ xs x, SqL K H a xs ∧ xs[i]? = some x, fun i H x H' => H' = H ∧ ∀ xs, SqL K H a xs → xs[i]? = some x, fun i H => ∃ xs, SqL K H a xs ∧ xs.length ≤ i⟩
noncomputable def Itt (K : PySem.W.Frag) (a : Addr) : It :=
  ⟨fun i H => ∃ xs x, SqT K H a xs ∧ xs[i]? = some x, fun i H x H' => H' = H ∧ ∀ xs, SqT K H a xs → xs[i]? = some x, fun i H => ∃ xs, SqT K H a xs ∧ xs.length ≤ i⟩
noncomputable def Itr (lo : Int) (n : Nat) : It := ⟨fun i _ => i < n, fun i H x H' => H' = H ∧ x = .int (lo + i), fun i _ => n ≤ i⟩
theorem turn_list {P : Program} {w : World} {K : PySem.W.Frag} {tg : Expr} (a it : Addr) : Turn P w K tg (Itl K a) [it] it (fun i h => h.IsListIter it a i) where
  mem := by simp
  obj := fun i h st b hb => by
    have e : b = it := by simpa using hb
    subst e
    obtain ⟨o, e, c, d⟩ := st
    exact ⟨o, e, fun v z => by rw [d] at z; cases z⟩
  keep := fun i h h' st k => st.at fun o e => k it (by simp) o e
  item := by
    intro X hP hw hK hc i pins s σ H E I hf st hg
    subst hP hw hK
    obtain ⟨xs, x, hq, hx⟩ := hg
    obtain ⟨its, rv, p, hz⟩ := I.list hq
    obtain ⟨u, hu, ru⟩ := rv.get hx
    obtain ⟨f0, f1, f2, f3, f4, f5⟩ := hf it (by simp)
    refine wpAny_pyNext_list_item st p.isList (x := u) (by simpa using hu) fun h' st' sb => ?_
    have I1 : Inv X pins σ H { s with heap := h' } := I.turned (t' := s.toks) (fun b o hb e => (sb.2 b hb).trans e) f0 f1 f3 f4 f5
    obtain ⟨o, e, c, d⟩ := id st'
    exact ⟨u, rfl, go_of (s := { s with heap := h' }) e c d (by decide) ⟨x, H, I1, ru, ⟨rfl, fun ys hy => by rw [I.list_inj hy hq]; exact hx⟩, st', fun b hb => (hf b hb).1⟩⟩
  done := by
    intro X hP hw hK hc i pins s σ H E I hf st hg
    subst hP hw hK
    obtain ⟨xs, hq, hx⟩ := hg
    obtain ⟨its, rv, p, hz⟩ := I.list hq
    obtain ⟨f0, f1, f2, f3, f4, f5⟩ := hf it (by simp)
    have hl := rv.length
    exact wpAny_pyNext_list_end (I.ok.hd hc) st p.isList (by simp; omega) fun h' eb => ⟨rfl, I.turned (t' := s.toks) (fun b o hb e => eb b o hb e) f0 f1 f3 f4 f5⟩
  self := fun _ _ _ _ _ st h => wpAny_pyIter_listiter st h
theorem turn_tuple {P : Program} {w : World} {K : PySem.W.Frag} {tg : Expr} (a it : Addr) : Turn P w K tg (Itt K a) [it] it (fun i h => h.IsTupleIter it a i) where
  mem := by simp
  obj := fun i h st b hb => by
    have e : b = it := by simpa using hb
    subst e
    obtain ⟨o, e, c, d⟩ := st
    exact ⟨o, e, fun v z => by rw [d] at z; cases z⟩
  keep := fun i h h' st k => st.at fun o e => k it (by simp) o e
  item := by
    intro X hP hw hK hc i pins s σ H E I hf st hg
    subst hP hw hK
    obtain ⟨xs, x, hq, hx⟩ := hg
    obtain ⟨its, rv, p, hz⟩ := I.tuple hq
    obtain ⟨u, hu, ru⟩ := rv.get hx
    obtain ⟨f0, f1, f2, f3, f4, f5⟩ := hf it (by simp)
    refine wpAny_pyNext_tuple_item st (show s.heap.IsTuple a its.toArray from p) (x := u) (by simpa using hu) fun h' st' sb => ?_
    have I1 : Inv X pins σ H { s with heap := h' } := I.turned (t' := s.toks) (fun b o hb e => (sb.2 b hb).trans e) f0 f1 f3 f4 f5
    obtain ⟨o, e, c, d⟩ := id st'
    exact ⟨u, rfl, go_of (s := { s with heap := h' }) e c d (by decide) ⟨x, H, I1, ru, ⟨rfl, fun ys hy => by rw [I.tuple_inj hy hq]; exact hx⟩, st', fun b hb => (hf b hb).1⟩⟩
  done := by
    intro X hP hw hK hc i pins s σ H E I hf st hg
    subst hP hw hK
    obtain ⟨xs, hq, hx⟩ := hg
    obtain ⟨its, rv, p, hz⟩ := I.tuple hq
    obtain ⟨f0, f1, f2, f3, f4, f5⟩ := hf it (by simp)
    have hl := rv.length
    exact wpAny_pyNext_tuple_end (I.ok.hd hc) st (show s.heap.IsTuple a its.toArray from p) (by simp; omega) fun h' eb => ⟨rfl, I.turned (t' := s.toks) (fun b o hb e => eb b o hb e) f0 f1 f3 f4 f5⟩
  self := fun _ _ _ _ _ st h => wpAny_pyIter_tupleiter st h
theorem turn_range {P : Program} {w : World} {K : PySem.W.Frag} {tg : Expr} (it : Addr) (lo : Int) (n : Nat) : Turn P w K tg (Itr lo n) [it] it (fun i h => IsRangeIter h it (lo + (i : Nat) * 1) ((n : Int) - (i : Nat)) 1) where
  mem := by simp
  obj := fun i h st b hb => by
    have e : b = it := by simpa using hb
    subst e
    exact ⟨_, st, fun v z => by
      have z' : Data.fields _ = Data.cell v := z
      cases z'⟩
  keep := fun i h h' st k => k it (by simp) _ st
  item := by
    intro X hP hw hK hc i pins s σ H E I hf st hg
    subst hP hw hK
    obtain ⟨f0, f1, f2, f3, f4, f5⟩ := hf it (by simp)
    have W := Walks.range (prog := X.prog) (w := X.w) (I.ok.hd hc) it lo 1 n
    refine W.item i s _ _ hg st fun v h' tk hv st' kk => ?_
    obtain ⟨t, rfl⟩ := hv
    have I1 : Inv X pins σ H { s with heap := h', toks := tk } := I.turned (fun b o hb e => kk b o (by simpa using hb) e) f0 f1 f3 f4 f5
    refine ⟨_, rfl, go_of (s := { s with heap := h', toks := tk }) (n := "range_iterator") st' rfl rfl (by decide) ⟨.int (lo + i), H, I1, ⟨t, ?_⟩, ⟨rfl, rfl⟩, st', fun b hb => (hf b hb).1⟩⟩
    rw [Int.mul_one]
  done := by
    intro X hP hw hK hc i pins s σ H E I hf st hg
    subst hP hw hK
    obtain ⟨f0, f1, f2, f3, f4, f5⟩ := hf it (by simp)
    exact wpAny_pyNext_range_end (I.ok.hd hc) st (by have : n ≤ i := hg; omega) fun h' eb => ⟨rfl, I.turned (t' := s.toks) (fun b o hb e => eb b o hb e) f0 f1 f3 f4 f5⟩
  self := fun _ _ _ _ _ st h => wpAny_pyIter_rangeiter st h
end L2
namespace L2
open PySem PySem.Spec PyProof.Rows
section
variable {X : Cx} {tg : Expr}
theorem range_it {pins : List (Addr × Obj)} {σ : St} {H : Hp} {s : Shared} {R : It → Hp → Prop} {E : Value → Shared → Prop} {lo hi : Int} {t u v : Tok} {tk : Nat} (I : Inv X pins σ H s) (h1 : -(2 ^ 62) ≤ lo) (h2 : lo < 2 ^ 62) (h3 : -(2 ^ 62) ≤ hi) (h4 : hi < 2 ^ 62)
    (q : R (Itr lo (hi - lo).toNat) H) : wpAny (model X.prog X.w) X.A (pyIter (.ref s.heap.objs.size)) (PIE X pins σ tg R) E { s with heap := s.heap.push { cls := .type "range", data := .fields #[.int lo t, .int hi u, .int 1 v] }, toks := tk } := by
  refine wpAny_pyIter_range (IsRange.new ..) (small_one h1 h2 h3 h4) ?_
  have I1 : Inv X pins σ H { s with heap := s.heap.push { cls := .type "range", data := .fields #[.int lo t, .int hi u, .int 1 v] }, toks := tk } := I.kept fun b o e => Heap.get?_push_of_some _ e
  refine ⟨(s.heap.push { cls := .type "range", data := .fields #[.int lo t, .int hi u, .int 1 v] }).objs.size, [(s.heap.push { cls := .type "range", data := .fields #[.int lo t, .int hi u, .int 1 v] }).objs.size], _, _, H, rfl,
    I1.kept (t' := tk) fun b o e => Heap.get?_push_of_some _ e, turn_range _ lo (hi - lo).toNat, ?_, fun b hb => ?_, q⟩
  · have e1 : lo + ((0 : Nat) : Int) * 1 = lo := by simp
    have e2 : (((hi - lo).toNat : Nat) : Int) - ((0 : Nat) : Int) = Builtin.Range.rangeSize lo hi 1 := by rw [rangeSize_one]; split <;> omega
    show IsRangeIter _ _ (lo + ((0 : Nat) : Int) * 1) ((((hi - lo).toNat : Nat) : Int) - ((0 : Nat) : Int)) 1
    rw [e1, e2]
    exact Heap.get?_push_size _ rfl
  · have e : b = (s.heap.push { cls := .type "range", data := .fields #[.int lo t, .int hi u, .int 1 v] }).objs.size := by simpa using hb
    subst e
    exact I1.fpOk (Nat.le_refl _) (I1.hok.fresh (Nat.le_refl _))
noncomputable def iRng1 (ta : TA) : TI := fun σ H R => ta σ H fun vs H1 => ∃ j : Int, vs = [.int j] ∧ -(2 ^ 62) ≤ j ∧ j < 2 ^ 62 ∧ R (Itr 0 j.toNat) H1
theorem pi_range1 {a : Expr} {ta : TA} {p pos : Pos} (hg : Gl X "range") (hm : X.mg "range" = none) (ha : PA X [a] ta) (hs : starEach [a] X.env = [(false, eval a X.env)] := by rfl) : PI X tg (.Call (.Name "range" p) [a] [] pos) (iRng1 ta) := by
  intro pins s σ H R I h
  refine Call_ (ld_blt I hg hm boot_range (PyProof.Rows.callWith_type1 (thn (ha pos pins s σ H _ I h) fun us s1 hq__ => ?_) hs rfl))
  obtain ⟨vs, H1, I1, r1, q1⟩ := hq__
  obtain ⟨j, e, q1, q2, q⟩ := q1
  subst e
  cases r1 with
  | cons r rr =>
    cases rr
    obtain ⟨t, rfl⟩ := r
    exact call_range_1 (range_it I1 (by omega) (by omega) q1 q2 (by simpa using q))
noncomputable def tFor (wi : TI) (g : TG) (tb : TS) : TS := fun D σ H => wi σ H fun J H1 => ∃ W : Nat → Nat → St → Hp → Prop, (∃ m, W 0 m σ H1) ∧ ∀ i m σ H, W i m σ H →
  (J.stop i H ∧ D.nx σ H) ∨ (J.go i H ∧ ∃ N : St → Hp → Prop, (∀ σ' H', N σ' H' → ∃ m', m' < m ∧ W (i + 1) m' σ' H') ∧ ∀ x H', J.yld i H x H' → g x σ H' fun σ2 H2 => tb { D with nx := N, ct := N, bk := D.nx } σ2 H2)
noncomputable def pinsAt (fp : List Addr) (h : Heap) : List (Addr × Obj) := fp.filterMap fun b => (h.get? b).map fun o => (b, o)
theorem mem_pinsAt {fp : List Addr} {h : Heap} {b : Addr} {o : Obj} (hb : b ∈ fp) (e : h.get? b = some o) : (b, o) ∈ pinsAt fp h := List.mem_filterMap.mpr ⟨b, hb, by rw [e]; rfl⟩
theorem of_pinsAt {fp : List Addr} {h : Heap} {p : Addr × Obj} (hp : p ∈ pinsAt fp h) : p.1 ∈ fp ∧ h.get? p.1 = some p.2 := by
  obtain ⟨b, hb, e⟩ := List.mem_filterMap.mp hp
  cases q : h.get? b with
  | none => rw [q] at e; cases e
  | some o =>
    rw [q] at e
    have e' : (b, o) = p := Option.some.inj e
    subst e'
    exact ⟨hb, q⟩
theorem Inv.pinned {pins : List (Addr × Obj)} {σ : St} {H : Hp} {s : Shared} {fp : List Addr} (I : Inv X pins σ H s) (hf : ∀ b ∈ fp, FpOk X pins H b) (ho : ∀ b ∈ fp, ∃ o, s.heap.get? b = some o ∧ ∀ v, o.data ≠ .cell v) : Inv X (pins ++ pinsAt fp s.heap) σ H s :=
  I.pins_of fun p hp => (List.mem_append.mp hp).elim (fun z => I.pin p (List.mem_append_right _ z)) fun z => by
    obtain ⟨hb, e⟩ := of_pinsAt z
    obtain ⟨f0, f1, f2, _⟩ := hf p.1 hb
    obtain ⟨o, e', d⟩ := ho p.1 hb
    rw [e] at e'; cases e'
    exact ⟨e, f0, f1, f2, d⟩
theorem Inv.unpinned {pins pl : List (Addr × Obj)} {σ : St} {H : Hp} {s : Shared} (I : Inv X (pins ++ pl) σ H s) : Inv X pins σ H s := I.pins_of fun p hp => I.pin p (List.mem_append_right _ (List.mem_append_left _ hp))
theorem ps_for {iter : Expr} {body : List Stmt} {wi : TI} {g : TG} {tb : TS} {pos : Pos} (hp : PassesOwn (model X.prog X.w) X.A X.env X.xe) (hc : X.calm = true) (hi : PI X tg iter wi) (hg : PG X tg g) (hb : PSs X body tb)
    (hs : ∀ x, foldedSetIterable iter X.env x = pure x := by intro _; rfl) : PS X (.For tg iter body [] pos) (tFor wi g tb) := by
  intro pins s σ H D I h
  refine wpAny_For (thn (hi pins s σ H _ I h) fun v s1 h1 => thn h1 fun itv s2 h2 => ?_) hs
  obtain ⟨it, fp, tn, J, H2, e, I2, T, st2, f2, W, ⟨m0, w0⟩, turn⟩ := h2
  subst e
  have stat : ∀ {H' : Hp}, (∀ b ∈ fp, H' b = none) → ∀ b ∈ fp, FpOk X pins H' b := fun hn b hb => ⟨hn b hb, (f2 b hb).2⟩
  refine codeAny_forLoop_any (fun n s' => ∃ i σ' H', Inv X pins σ' H' s' ∧ tn i s'.heap ∧ (∀ b ∈ fp, H' b = none) ∧ W i n σ' H') ?_ m0 ⟨0, σ, H2, I2, st2, fun b hb => (f2 b hb).1, w0⟩
  rintro n s3 ⟨i, σ3, H3, I3, st3, fr3, w3⟩
  rcases turn i n σ3 H3 w3 with ⟨stop, qn⟩ | ⟨go, N, hN, step⟩
  · refine wpAny_passesOwn hp (thn (T.done X rfl rfl rfl hc i pins s3 σ3 H3 X.xe I3 (stat fr3) st3 stop) fun r s4 hq__ => ?_)
    obtain ⟨hr, I4⟩ := hq__
    subst hr
    exact wpAny_execs_nil ⟨σ3, H3, I4, qn⟩
  · refine wpAny_passesOwn hp (thn (T.item X rfl rfl rfl hc i pins s3 σ3 H3 X.xe I3 (stat fr3) st3 go) fun r s4 hq__ => ?_)
    obtain ⟨u, hr, h4⟩ := hq__
    subst hr
    refine wpAny_passesOwn hp (thn h4 fun _ s5 hq__ => ?_)
    obtain ⟨x, H5, I5, r5, y5, st5, fr5⟩ := hq__
    have I5' := I5.pinned (stat fr5) (T.obj _ _ st5)
    refine wpAny_passesOwn hp (thn (hg _ s5 σ3 H5 x u _ I5' r5 (step x H5 y5)) fun _ s6 hq__ => ?_)
    obtain ⟨σ6, H6, I6, q6⟩ := hq__
    refine wpAny_passesOwn hp (thn (hb _ s6 σ6 H6 _ I6 q6) fun f s7 q7 => ?_)
    have again : ∀ {σ7 : St} {H7 : Hp}, Inv X (pins ++ pinsAt fp s5.heap) σ7 H7 s7 → N σ7 H7 → ∃ m, m < n ∧ ∃ i σ' H', Inv X pins σ' H' s7 ∧ tn i s7.heap ∧ (∀ b ∈ fp, H' b = none) ∧ W i m σ' H' := fun {σ7 H7} I7 n7 => by
      obtain ⟨m', hm, w7⟩ := hN σ7 H7 n7
      refine ⟨m', hm, i + 1, σ7, H7, I7.unpinned, T.keep _ _ _ st5 fun b hb o e => (I7.pin (b, o) (List.mem_append_right _ (List.mem_append_right _ (mem_pinsAt hb e)))).1, fun b hb => ?_, w7⟩
      obtain ⟨o, e, d⟩ := T.obj _ _ st5 b hb
      exact (I7.pin (b, o) (List.mem_append_right _ (List.mem_append_right _ (mem_pinsAt hb e)))).2.1
    cases f with
    | next => obtain ⟨σ7, H7, I7, n7⟩ := q7; exact again I7 n7
    | cont => obtain ⟨σ7, H7, I7, n7⟩ := q7; exact again I7 n7
    | brk => obtain ⟨σ7, H7, I7, q7⟩ := q7; exact ⟨σ7, H7, I7.unpinned, q7⟩
    | ret v => obtain ⟨x7, σ7, H7, I7, r7, q7⟩ := q7; exact ⟨x7, σ7, H7, I7.unpinned, r7, q7⟩
end
end L2
namespace L2
open PySem PySem.Spec PyProof.Rows
noncomputable abbrev R2 := V → V → Hp → VK → Prop
noncomputable def OpR (X : Cx) (f : Value → Value → Sem Value) (r : R2) : Prop :=
  ∀ (pins : List (Addr × Obj)) (s : Shared) (σ : St) (H : Hp) (x y : V) (v u : Value) (Q : VK), Inv X pins σ H s → RelV x v → RelV y u → r x y H Q →
    wpAny (model X.prog X.w) X.A (f v u) (EP X pins σ Q) X.xe s
noncomputable def UnR (X : Cx) (f : Value → Sem Value) (r : V → Hp → VK → Prop) : Prop :=
  ∀ (pins : List (Addr × Obj)) (s : Shared) (σ : St) (H : Hp) (x : V) (v : Value) (Q : VK), Inv X pins σ H s → RelV x v → r x H Q →
    wpAny (model X.prog X.w) X.A (f v) (EP X pins σ Q) X.xe s
noncomputable def CallR (X : Cx) (f : Value) (r : List V → Hp → VK → Prop) : Prop :=
  ∀ (pins : List (Addr × Obj)) (s : Shared) (σ : St) (H : Hp) (xs : List V) (us : List Value) (Q : VK), Inv X pins σ H s → Vals xs us → r xs H Q →
    wpAny (model X.prog X.w) X.A (call f us) (EP X pins σ Q) X.xe s
noncomputable def TruR (X : Cx) (r : V → Hp → (Bool → Hp → Prop) → Prop) : Prop :=
  ∀ (pins : List (Addr × Obj)) (s : Shared) (σ : St) (H : Hp) (x : V) (v : Value) (Q : Bool → Hp → Prop), Inv X pins σ H s → RelV x v → r x H Q →
    wpAny (model X.prog X.w) X.A (truthy v) (TP X pins σ Q) X.xe s
noncomputable def tOp (r : R2) (ta tb : TE) : TE := fun σ H Q => ta σ H fun x H1 => tb σ H1 fun y H2 => r x y H2 Q
noncomputable def tUn (r : V → Hp → VK → Prop) (ta : TE) : TE := fun σ H Q => ta σ H fun x H1 => r x H1 Q
noncomputable def rI (C : Int → Int → Prop) (g : Int → Int → V) : R2 := fun x y H Q => ∃ i j, x = .int i ∧ y = .int j ∧ C i j ∧ Q (g i j) H
noncomputable def rI0 (g : Int → Int → V) : R2 := fun x y H Q => ∃ i j, x = .int i ∧ y = .int j ∧ Q (g i j) H
noncomputable def rU (g : Int → V) : V → Hp → VK → Prop := fun x H Q => ∃ i, x = .int i ∧ Q (g i) H
section
variable {X : Cx} {a b c : Expr} {ta tb tc : TE} {pos : Pos}
theorem binT (ha : PE X a ta) (hb : PE X b tb) {pins : List (Addr × Obj)} {s : Shared} {σ : St} {H : Hp} {R : V → V → Hp → Prop} (I : Inv X pins σ H s)
    (h : ta σ H fun x H1 => tb σ H1 fun y H2 => R x y H2) {Q : Value → Shared → Prop} {f : Value → Value → Sem Value}
    (hf : ∀ v u s2 x y H2, Inv X pins σ H2 s2 → RelV x v → RelV y u → R x y H2 → wpAny (model X.prog X.w) X.A (f v u) Q X.xe s2) :
    wpAny (model X.prog X.w) X.A (eval a X.env) (fun v s₁ => wpAny (model X.prog X.w) X.A (eval b X.env) (fun u s₂ => wpAny (model X.prog X.w) X.A (f v u) Q X.xe s₂) X.xe s₁) X.xe s := by
  refine thn (ha pins s σ H _ I h) fun v s1 hq__ => ?_
  obtain ⟨x, H1, I1, r1, q1⟩ := hq__
  refine thn (hb pins s1 σ H1 _ I1 q1) fun u s2 hq__ => ?_
  obtain ⟨y, H2, I2, r2, q2⟩ := hq__
  exact hf v u s2 x y H2 I2 r1 r2 q2
theorem pe_op {op : Operator} {r : R2} (ho : OpR X (binaryOp op) r) (ha : PE X a ta) (hb : PE X b tb) : PE X (.BinOp a op b pos) (tOp r ta tb) := by
  intro pins s σ H Q I h
  exact wpAny_BinOp (binT ha hb I h fun v u s2 x y H2 I2 rx ry q => ho pins s2 σ H2 x y v u Q I2 rx ry q)
theorem pe_un {op : UnaryOp} {r : V → Hp → VK → Prop} (ho : UnR X (unaryOp op) r) (ha : PE X a ta) : PE X (.UnaryOp op a pos) (tUn r ta) := by
  intro pins s σ H Q I h
  exact UnaryOp_ (thn (ha pins s σ H _ I h) fun v s1 ⟨x, H1, I1, r1, q1⟩ => ho pins s1 σ H1 x v Q I1 r1 q1)
theorem opI {f : Value → Value → Sem Value} {C : Int → Int → Prop} {g : Int → Int → Int}
    (rule : ∀ (i j : Int) (t u : Tok) (s : Shared) (Q : Value → Shared → Prop) (E : Value → Shared → Prop), C i j → Q (.int (g i j) s.toks) { s with toks := s.toks + 1 } → wpAny (model X.prog X.w) X.A (f (.int i t) (.int j u)) Q E s) :
    OpR X f (rI C fun i j => .int (g i j)) := by
  intro pins s σ H x y v u Q I rx ry h
  obtain ⟨i, j, rfl, rfl, hc, q⟩ := h
  obtain ⟨t, rfl⟩ := rx
  obtain ⟨t', rfl⟩ := ry
  exact rule i j t t' s _ _ hc ⟨.int (g i j), H, I.tok _, ⟨_, rfl⟩, q⟩
theorem opI0 {f : Value → Value → Sem Value} {g : Int → Int → Int}
    (rule : ∀ (i j : Int) (t u : Tok) (s : Shared) (Q : Value → Shared → Prop) (E : Value → Shared → Prop), Q (.int (g i j) s.toks) { s with toks := s.toks + 1 } → wpAny (model X.prog X.w) X.A (f (.int i t) (.int j u)) Q E s) :
    OpR X f (rI0 fun i j => .int (g i j)) := by
  intro pins s σ H x y v u Q I rx ry h
  obtain ⟨i, j, rfl, rfl, q⟩ := h
  obtain ⟨t, rfl⟩ := rx
  obtain ⟨t', rfl⟩ := ry
  exact rule i j t t' s _ _ ⟨.int (g i j), H, I.tok _, ⟨_, rfl⟩, q⟩
theorem opB0 {f : Value → Value → Sem Value} {g : Int → Int → Bool}
    (rule : ∀ (i j : Int) (t u : Tok) (s : Shared) (Q : Value → Shared → Prop) (E : Value → Shared → Prop), Q (.bool (g i j)) s → wpAny (model X.prog X.w) X.A (f (.int i t) (.int j u)) Q E s) :
    OpR X f (rI0 fun i j => .bl (g i j)) := by
  intro pins s σ H x y v u Q I rx ry h
  obtain ⟨i, j, rfl, rfl, q⟩ := h
  obtain ⟨t, rfl⟩ := rx
  obtain ⟨t', rfl⟩ := ry
  exact rule i j t t' s _ _ ⟨.bl (g i j), H, I, rfl, q⟩
noncomputable def CDiv (i j : Int) : Prop := 0 < j ∧ j < 1073741824
noncomputable def CPow (i j : Int) : Prop := 0 ≤ j ∧ j ≤ 1000000 ∧ i.natAbs < 2 ^ 64
noncomputable def CMul (i j : Int) : Prop := (-(2 ^ 64) < i ∧ i < 2 ^ 64) ∨ (-(2 ^ 64) < j ∧ j < 2 ^ 64)
theorem CMul.ok {i j : Int} (h : CMul i j) : IntMulOk i j := by
  rcases h with ⟨h1, h2⟩ | ⟨h1, h2⟩
  · exact .of_left (intBits_le_64 h1 h2)
  · exact .of_right (intBits_le_64 h1 h2)
theorem two_pow_nn (k : Nat) : (0 : Int) ≤ 2 ^ k := by
  rw [two_pow_cast]
  exact Int.natCast_nonneg _
theorem op_add : OpR X (binaryOp .Add) (rI0 fun i j => .int (i + j)) := opI0 fun _ _ _ _ _ _ _ q => add_int q
theorem op_sub : OpR X (binaryOp .Sub) (rI0 fun i j => .int (i - j)) := opI0 fun _ _ _ _ _ _ _ q => sub_int q
theorem op_mul : OpR X (binaryOp .Mult) (rI CMul fun i j => .int (i * j)) := opI fun _ _ _ _ _ _ _ hc q => mul_int q hc.ok
theorem op_fdiv : OpR X (binaryOp .FloorDiv) (rI CDiv fun i j => .int (i / j)) := opI fun i j _ _ _ _ _ hc q => by
  have h1 : (0 : Int) < j := hc.1
  have h2 : j < 1073741824 := hc.2
  exact floordiv_int (by omega) (by rw [Int.fdiv_eq_ediv_of_nonneg i (by omega)]; exact q) (.inl (PyProof.noPylong_small (by omega)))
theorem op_mod : OpR X (binaryOp .Mod) (rI (fun _ j => 0 < j) fun i j => .int (i % j)) := opI fun i j _ _ _ _ _ hc q => by
  have h1 : (0 : Int) < j := hc
  exact mod_int' (by omega) (by rw [Int.fmod_eq_emod_of_nonneg i (by omega)]; exact q)
theorem op_shl : OpR X (binaryOp .LShift) (rI CPow fun i j => .int (i * 2 ^ j.toNat)) := opI fun _ _ _ _ _ _ _ hc q => lshift_int_small hc.1 hc.2.1 hc.2.2 q
theorem op_shr : OpR X (binaryOp .RShift) (rI (fun _ j => 0 ≤ j) fun i j => .int (i / 2 ^ j.toNat)) := opI fun i j _ _ _ _ _ hc q =>
  rshift_int hc (by rw [Int.fdiv_eq_ediv_of_nonneg i (two_pow_nn _)]; exact q)
theorem op_and : OpR X (binaryOp .BitAnd) (rI0 fun i j => .int (Builtin.bitAnd i j)) := opI0 fun _ _ _ _ _ _ _ q => and_int q
theorem op_or : OpR X (binaryOp .BitOr) (rI0 fun i j => .int (Builtin.bitOr i j)) := opI0 fun _ _ _ _ _ _ _ q => or_int q
theorem unI {f : Value → Sem Value} {g : Int → Int}
    (rule : ∀ (i : Int) (t : Tok) (s : Shared) (Q : Value → Shared → Prop) (E : Value → Shared → Prop), Q (.int (g i) s.toks) { s with toks := s.toks + 1 } → wpAny (model X.prog X.w) X.A (f (.int i t)) Q E s) :
    UnR X f (rU fun i => .int (g i)) := by
  intro pins s σ H x v Q I rx h
  obtain ⟨i, rfl, q⟩ := h
  obtain ⟨t, rfl⟩ := rx
  exact rule i t s _ _ ⟨.int (g i), H, I.tok _, ⟨_, rfl⟩, q⟩
theorem un_neg : UnR X (unaryOp .USub) (rU fun i => .int (-i)) := unI fun _ _ _ _ _ q => neg_int q
theorem un_inv : UnR X (unaryOp .Invert) (rU fun i => .int (Builtin.bitNot i)) := unI fun _ _ _ _ _ q => invert_int q
theorem op_add_ib : OpR X (binaryOp .Add) (fun x y H Q => ∃ i k, x = .int i ∧ y = .bl k ∧ Q (.int (i + b2i k)) H) := by
  intro pins s σ H x y v u Q I rx ry h
  obtain ⟨i, k, rfl, rfl, q⟩ := h
  obtain ⟨t, rfl⟩ := rx
  cases ry
  exact add_int_bool ⟨.int (i + b2i k), H, I.tok _, ⟨_, rfl⟩, q⟩
end
section
variable {X : Cx} {a b c : Expr} {ta tb tc : TE} {pos : Pos}
theorem fin_bl {pins : List (Addr × Obj)} {σ : St} {H : Hp} {s : Shared} {Q : VK} {k k' : Bool} (I : Inv X pins σ H s) (q : Q (.bl k) H) (e : k = k') : EP X pins σ Q (.bool k') s := by
  subst e
  exact ⟨.bl k, H, I, rfl, q⟩
theorem op_lt : OpR X (compareOp .Lt) (rI0 fun i j => .bl (decide (i < j))) := opB0 fun _ _ _ _ _ _ _ q => lt_int q
theorem op_le : OpR X (compareOp .LtE) (rI0 fun i j => .bl (decide (i ≤ j))) := opB0 fun _ _ _ _ _ _ _ q => le_int q
theorem op_gt : OpR X (compareOp .Gt) (rI0 fun i j => .bl (decide (j < i))) := opB0 fun _ _ _ _ _ _ _ q => gt_int q
theorem op_isN : OpR X (compareOp .Is) (fun x y H Q => y = .non ∧ Q (.bl (decide (x = .non))) H) := by
  intro pins s σ H x y v u Q I rx ry h
  obtain ⟨rfl, q⟩ := h
  cases ry
  refine is_none_gen (fin_bl I q ?_)
  cases x <;> first
    | (cases rx; rfl)
    | (obtain ⟨t, rfl⟩ := rx; rfl)
theorem nomark (b : Expr) {op : CmpOp} (h : op ≠ .In := by decide) (h2 : op ≠ .NotIn := by decide) : behindInMarks op b = false := by
  have e1 : (op == CmpOp.In) = false := by cases op <;> first | rfl | exact absurd rfl h
  have e2 : (op == CmpOp.NotIn) = false := by cases op <;> first | rfl | exact absurd rfl h2
  cases b <;> simp [behindInMarks, e1, e2]
theorem pe_cmpR {op : CmpOp} {r : R2} (ho : OpR X (compareOp op) r) (ha : PE X a ta) (hb : PE X b tb) (hm : behindInMarks op b = false) : PE X (.Compare a [op] [b] pos) (tOp r ta tb) := by
  intro pins s σ H Q I h
  exact wpAny_Compare1 (binT ha hb I h fun v u s2 x y H2 I2 rx ry q => ho pins s2 σ H2 x y v u Q I2 rx ry q) hm
noncomputable def tTest (t : TE) : TT := fun σ H Q => t σ H fun x H' => ∃ k, x = .bl k ∧ Q k H'
theorem pt_cmpR {op : CmpOp} {r : R2} (ho : OpR X (compareOp op) r) (ha : PE X a ta) (hb : PE X b tb) (hm : behindInMarks op b = false) : PT X (.Compare a [op] [b] pos) (tTest (tOp r ta tb)) := by
  intro pins s σ H Q I h
  refine wpAny_isTrue_Compare1 (thn (ha pins s σ H _ I h) fun v s1 ⟨x, H1, I1, r1, q1⟩ => thn (hb pins s1 σ H1 _ I1 q1) fun u s2 ⟨y, H2, I2, r2, q2⟩ =>
    thn (ho pins s2 σ H2 x y v u _ I2 r1 r2 q2) fun c s3 ⟨z, H3, I3, r3, k, e, q3⟩ => ?_) hm
  subst e
  cases r3
  exact wpAny_truthy_bool ⟨H3, I3, q3⟩
noncomputable def tChain (r r' : R2) (ta tb tc : TE) : TE := fun σ H Q => ta σ H fun x H1 => tb σ H1 fun y H2 => r x y H2 fun z H3 => ∃ k, z = .bl k ∧
  (if k = true then tc σ H3 fun w' H4 => r' y w' H4 Q else Q (.bl false) H3)
theorem pe_chain {op op' : CmpOp} {r r' : R2} (ho : OpR X (compareOp op) r) (ho' : OpR X (compareOp op') r') (ha : PE X a ta) (hb : PE X b tb) (hc : PE X c tc)
    (hm : lastMarks [op, op'] [b, c] = false := by with_unfolding_all rfl) : PE X (.Compare a [op, op'] [b, c] pos) (tChain r r' ta tb tc) := by
  intro pins s σ H Q I h
  refine Compare_chain (thn (ha pins s σ H _ I h) fun v s1 ⟨x, H1, I1, r1, q1⟩ => chain_link (thn (hb pins s1 σ H1 _ I1 q1) fun u s2 ⟨y, H2, I2, r2, q2⟩ =>
    thn (ho pins s2 σ H2 x y v u _ I2 r1 r2 q2) fun d s3 ⟨z, H3, I3, r3, k, e, q3⟩ => ?_)) hm
  subst e
  cases r3
  refine wpAny_truthy_bool ?_
  cases k with
  | false => exact ite_ff ⟨.bl false, H3, I3, rfl, q3⟩
  | true => exact ite_tt (chain_last (thn (hc pins s3 σ H3 _ I3 q3) fun w' s4 ⟨z', H4, I4, r4, q4⟩ => ho' pins s4 σ H4 y z' u w' Q I4 r2 r4 q4))
noncomputable def TruV (K : PySem.W.Frag) (x : V) (H : Hp) (k : Bool) : Prop :=
  match x with
  | .non => k = false
  | .bl b => k = b
  | .int i => k = (i != 0)
  | .str y => y.length ≤ sizeLine ∧ k = ((y.length : Int) != 0)
  | .byt y => y.size ≤ sizeLine ∧ k = ((y.size : Int) != 0)
  | .ref p => (∃ xs, SqL K H p xs ∧ k = !xs.isEmpty) ∨ (∃ xs, SqT K H p xs ∧ k = !xs.isEmpty) ∨ ∃ kvs, H p = some (.dK kvs) ∧ k = !kvs.isEmpty
  | _ => False
theorem isEmpty_kv {κ : Type} {kvs : List (κ × V)} {vs : List (κ × Value)} (r : KV kvs vs) : (!vs.isEmpty) = !kvs.isEmpty := by
  cases r <;> rfl
theorem isEmpty_of {xs : List V} {its : List Value} (r : Vals xs its) : (!its.toArray.isEmpty) = !xs.isEmpty := by
  cases r <;> simp
theorem line63 : (sizeLine : Nat) < 2 ^ 63 := by rw [sizeLine_eq]; decide
theorem tru_ok : TruR X (fun x H Q => ∃ k, TruV X.K x H k ∧ Q k H) := by
  intro pins s σ H x v Q I rx h
  obtain ⟨k, e, q⟩ := h
  have hl := line63
  have hs : sizeLine = 16777216 := sizeLine_eq
  cases x with
  | non =>
    cases rx
    have e' : k = false := e
    subst e'
    exact truthy_none ⟨H, I, q⟩
  | bl b =>
    cases rx
    have e' : k = b := e
    subst e'
    exact wpAny_truthy_bool ⟨H, I, q⟩
  | int i =>
    obtain ⟨t, rfl⟩ := rx
    have e' : k = (i != 0) := e
    subst e'
    exact PySem.P.truthy_int ⟨H, I, q⟩
  | str y =>
    obtain ⟨t, rfl⟩ := rx
    obtain ⟨hy, e'⟩ : y.length ≤ sizeLine ∧ k = ((y.length : Int) != 0) := e
    subst e'
    exact PySem.P.truthy_str (by omega) ⟨H, I.tok _, q⟩
  | byt y =>
    obtain ⟨t, rfl⟩ := rx
    obtain ⟨hy, e'⟩ : y.size ≤ sizeLine ∧ k = ((y.size : Int) != 0) := e
    subst e'
    exact PySem.W.truthy_bytes (by omega) ⟨H, I.tok _, q⟩
  | ref p =>
    cases rx
    have e' : (∃ xs, SqL X.K H p xs ∧ k = !xs.isEmpty) ∨ (∃ xs, SqT X.K H p xs ∧ k = !xs.isEmpty) ∨ ∃ kvs, H p = some (.dK kvs) ∧ k = !kvs.isEmpty := e
    rcases e' with ⟨xs, hx, e'⟩ | ⟨xs, hx, e'⟩ | ⟨kvs, hx, e'⟩
    · subst e'
      obtain ⟨its, r, pl, hz⟩ := I.list hx
      have hlen := r.length
      exact wpAny_truthy_list pl.isList (by simp only [List.size_toArray]; omega) ⟨H, I.tok _, by rw [isEmpty_of r]; exact q⟩
    · subst e'
      obtain ⟨its, r, pl, hz⟩ := I.tuple hx
      have hlen := r.length
      exact truthy_tuple pl (by simp only [List.size_toArray]; omega) ⟨H, I.tok _, by rw [isEmpty_of r]; exact q⟩
    · subst e'
      obtain ⟨hz, hS, vs, r, m⟩ : kvs.length ≤ sizeLine ∧ (p == sysModules) = false ∧ ∃ vs, KV kvs vs ∧ s.heap.DictOf (mixKind X.prog X.w) p vs := I.hok p _ hx
      have hlen : kvs.length = vs.length := Paired.length r
      exact wpAny_truthy_dict hS m (by omega) ⟨H, I.tok _, by rw [isEmpty_kv r]; exact q⟩
  | _ => exact (show False from e).elim
theorem pt_truth (ha : PE X a ta) (he : ∀ whole, isTrue a X.env whole = (do let v ← whole; standAt a.pos; holding [v] (truthy v))) :
    PT X a (fun σ H Q => ta σ H fun x H' => ∃ k, TruV X.K x H' k ∧ Q k H') := by
  intro pins s σ H Q I h
  exact isTrue_plain (thn (ha pins s σ H _ I h) fun v s1 ⟨x, H1, I1, r1, q1⟩ => tru_ok pins s1 σ H1 x v Q I1 r1 q1) (he _)
theorem op_add_str : OpR X (binaryOp .Add) (fun x y H Q => ∃ i j, x = .str i ∧ y = .str j ∧ i.length + j.length ≤ sizeLine ∧ Q (.str (i ++ j)) H) := by
  intro pins s σ H x y v u Q I rx ry h
  obtain ⟨i, j, rfl, rfl, hz, q⟩ := h
  obtain ⟨t, rfl⟩ := rx
  obtain ⟨t', rfl⟩ := ry
  exact add_str (fun t' tk => ⟨.str (i ++ j), H, I.tok _, ⟨_, rfl⟩, q⟩) hz
theorem vals1 {x : V} {us : List Value} (r : Vals [x] us) : ∃ u, us = [u] ∧ RelV x u := by
  cases r with
  | cons r1 r2 => cases r2; exact ⟨_, rfl, r1⟩
end
end L2
namespace L2
open PySem PySem.Spec PyProof.Rows
section
variable {prog : Program} {w : World} {A : Around} {E : Value → Shared → Prop} {s : Shared} {K : PySem.W.Frag} {x dx C f : Addr} {mA : Str → Option Value} {name : Str} {v : Value}
end
theorem RelO.some_of {v : V} {o : Option Value} (r : RelO (some v) o) : ∃ u, o = some u ∧ RelV v u := by
  cases o with
  | none => exact (show False from r).elim
  | some u => exact ⟨u, rfl, r⟩
section
variable {P : Program} {w : World} {H H' : Hp} {h h' : Heap} {a C dx : Addr} {fs fs' : List (Str × V)}
end
section
variable {X : Cx} {pins : List (Addr × Obj)} {σ : St} {H : Hp} {s : Shared} {a C dx : Addr} {fs : List (Str × V)} {f : Str} {v : V} {A : Around} {E : Value → Shared → Prop}
end
section
variable {X : Cx} {o e value : Expr} {f : Str} {pos pos' tpos : Pos} {ta tv : TE}
end
section
variable {X : Cx} {pins : List (Addr × Obj)} {σ : St} {H : Hp} {s : Shared} {A : Around} {E : Value → Shared → Prop} {Q : Value → Shared → Prop} {c : Value} {b : Bool}
end
end L2
namespace L2
open PySem PySem.Spec PyProof.Rows
structure Room (k : Nat) (A : Around) : Prop where
  hd : A.handled = none
  dp : A.depth + 3 * k + 5 < recursionLimit
  un : A.units + 16 * k + 200 < cLine
theorem Room.mono {j k : Nat} {A : Around} (r : Room k A) (h : j ≤ k) : Room j A := ⟨r.hd, by have := r.dp; omega, by have := r.un; omega⟩
theorem Room.deeper {k : Nat} {A : Around} (r : Room (k + 1) A) (env : Env) : Room k (A.deeper env) :=
  ⟨r.hd, by have := r.dp; show A.depth + 1 + 3 * k + 5 < _; omega, by have := r.un; show A.units + 3 + 16 * k + 200 < _; omega⟩
theorem Room.depth {k : Nat} {A : Around} (r : Room k A) : A.depth < recursionLimit := by have := r.dp; omega
theorem Room.units {k : Nat} {A : Around} (r : Room k A) : A.units + 64 < cLine := by have := r.un; omega
noncomputable def tNil : TA := fun _ H Q => Q [] H
noncomputable def tCons (ta : TE) (tr : TA) : TA := fun σ H Q => ta σ H fun x H1 => tr σ H1 fun xs H2 => Q (x :: xs) H2
section
variable {X : Cx} {e : Expr} {es : List Expr} {te : TE} {t : TA} {pos : Pos}
theorem pa_nil : PA X [] tNil := fun _ _ _ _ H Q I h => Calls.spliced_nil ⟨[], H, I, .nil, h⟩
theorem pa_cons (ha : PE X e te) (hr : PA X es t) (hs : starEach (e :: es) X.env = (false, eval e X.env) :: starEach es X.env := by rfl) : PA X (e :: es) (tCons te t) := by
  intro pos pins s σ H Q I h
  rw [hs]
  show wpAny _ _ (spliced ((false, eval e X.env) :: backTo pos (starEach es X.env))) _ _ s
  refine Calls.spliced_cons (thn (ha pins s σ H _ I h) fun u s1 hq__ => ?_)
  obtain ⟨x, H1, I1, r1, q1⟩ := hq__
  exact thn (hr pos pins s1 σ H1 _ I1 q1) fun us s2 ⟨xs, H2, I2, r2, q2⟩ => ⟨x :: xs, H2, I2, .cons r1 r2, q2⟩
noncomputable def tTup (t : TA) : TE := fun σ H Q => t σ H fun xs H1 => xs.length ≤ sizeLine ∧ ∀ p, H1 p = none → Q (.ref p) (upd H1 p (.tup xs))
noncomputable def tLst (t : TA) : TE := fun σ H Q => t σ H fun xs H1 => xs.length ≤ sizeLine ∧ ∀ p, H1 p = none → Q (.ref p) (upd H1 p (.lst xs))
theorem pe_tup {x1} (h : PA X es t) : PE X (.Tuple es x1 pos) (tTup t) := by
  intro pins s σ H Q I hq
  refine wpAny_Tuple_spliced (thn (h pos pins s σ H _ I hq) fun us s1 ⟨xs, H1, I1, r, z, q⟩ => ⟨by rw [← r.length]; exact z, ?_⟩)
  have hf : H1 s1.heap.objs.size = none := I1.hok.fresh (Nat.le_refl _)
  refine ⟨.ref s1.heap.objs.size, upd H1 s1.heap.objs.size (.tup xs), I1.laid (t' := s1.toks) (fun b u e => Heap.get?_push_of_some _ e) (Nat.le_refl _) ?_, rfl, q _ hf⟩
  exact ⟨z, us, r, ⟨_, Heap.get?_push_size _ rfl, rfl, _, rfl⟩⟩
theorem pe_lst (h : PA X es t) : PE X (.List es pos) (tLst t) := by
  intro pins s σ H Q I hq
  refine wpAny_List_spliced (thn (h pos pins s σ H _ I hq) fun us s1 ⟨xs, H1, I1, r, z, q⟩ => ⟨by rw [← r.length]; exact z, ?_⟩)
  have hf : H1 s1.heap.objs.size = none := I1.hok.fresh (Nat.le_refl _)
  refine ⟨.ref s1.heap.objs.size, upd H1 s1.heap.objs.size (.lst xs), I1.laid (t' := s1.toks) (fun b u e => Heap.get?_push_of_some _ e) (Nat.le_refl _) ?_, rfl, q _ hf⟩
  exact ⟨z, us, 0, r, Heap.get?_push_size _ rfl⟩
end
noncomputable abbrev Sp := List V → Hp → VK → XK → Prop
noncomputable abbrev CXT := List Env → Hp → Shared → XK → Value → Shared → Prop
structure Env0 (P : Program) (w : World) (K : PySem.W.Frag) (mg : Str → Option Value) (base : Heap) (A : Around) (outer : List Env) (s : Shared) (H : Hp) : Prop where
  frames : A.frames = some outer
  mod : Mod K mg base
  bs : ∀ b o, base.get? b = some o → s.heap.get? b = some o ∧ H b = none
  bsz : base.objs.size ≤ s.heap.objs.size
  funs : s.heap.FunFrames base outer
  frf : ∀ b ∈ frs outer, H b = none
  hok : HOk P w H s.heap
  bare : AllBare s.gens
noncomputable def CE (outer : List Env) (P : Program) (w : World) (H : Hp) (s : Shared) (Q : VK) (u : Value) (s' : Shared) : Prop :=
  ∃ v H', s'.os = s.os ∧ AllBare s'.gens ∧ Un (frs outer) [] H H' s.heap s'.heap ∧ HOk P w H' s'.heap ∧ RelV v u ∧ Q v H'
noncomputable def CR (CX : CXT) (outer : List Env) (P : Program) (w : World) (H : Hp) (s : Shared) (Q : VK) (E : XK) (r : Result) (s' : Shared) : Prop :=
  match r with
  | .ok (.ret u) => CE outer P w H s Q u s'
  | .ok _ => False
  | .error e => CX outer H s E e s'
structure FnOk (P : Program) (w : World) (K : PySem.W.Frag) (mg : Str → Option Value) (base : Heap) (CX : CXT) (k : Nat) (f : Addr) (fd : FuncData) (ps : List Str) (sp : Sp) : Prop where
  len : ∀ vs H Q E, sp vs H Q E → vs.length = ps.length
  run : ∀ (A : Around) (outer : List Env) (s : Shared) (H : Hp) (args : Args) (us : List Value) (vs : List V) (Q : VK) (E : XK), Room k A → Env0 P w K mg base A outer s H → BindsTo s fd args (ps.zip us) → Vals vs us → sp vs H Q E →
    codeAny (model P w) A (.call (.ref f) args) (CR CX outer P w H s Q E) s
section
variable {X : Cx} {pins : List (Addr × Obj)} {σ : St} {H : Hp} {s s' : Shared}
theorem Inv.env0 (I : Inv X pins σ H s) : Env0 X.prog X.w X.K X.mg X.base X.A X.stack s H :=
  ⟨I.ok.frames, I.ok.mod, I.bs, Nat.le_trans I.ok.bsz I.sz, I.stack, I.stkFree, I.hok, I.bare⟩
theorem Inv.after {Q : VK} {u : Value} (I : Inv X pins σ H s) (h : CE X.stack X.prog X.w H s Q u s') : EP X pins σ Q u s' := by
  obtain ⟨v, H', os, bare, un, hok, r, q⟩ := h
  obtain ⟨hh, g, d, t, os'⟩ := s'
  obtain rfl : os' = s.os := os
  exact ⟨v, H', I.call (h' := hh) (g' := g) (d' := d) (t' := t) (ch := []) un hok bare (fun b z => absurd z (by simp)), r, q⟩
end
noncomputable def tCall (sp : Sp) (dvs : List V) (E : XK) (t : TA) : TE := fun σ H Q => t σ H fun vs H1 => sp (vs ++ dvs) H1 Q E
noncomputable def Binds (K : PySem.W.Frag) (fd : FuncData) (ps : List Str) (ds : List Value) : Prop :=
  ∀ (s : Shared) (us : List Value), K.In s.heap → (us ++ ds).length = ps.length → BindsTo s fd ⟨us, []⟩ (ps.zip (us ++ ds))
theorem Binds.all {K : PySem.W.Frag} {fd : FuncData} {ps : List Str} (h : ∀ us : List Value, us.length = ps.length → bindArgs fd ⟨us, []⟩ = pure (ps.zip us)) : Binds K fd ps [] := fun s us _ hl => by
  rw [List.append_nil] at hl ⊢
  exact .of_eq (h us hl)
noncomputable def Passes (CX : CXT) (X : Cx) (E : XK) : Prop := ∀ (pins : List (Addr × Obj)) (σ : St) (H : Hp) (s : Shared) (e : Value) (s' : Shared), Inv X pins σ H s → CX X.stack H s E e s' → X.xe e s'
section
variable {X : Cx} {CX : CXT} {k : Nat} {f C : Addr} {fd : FuncData} {ps : List Str} {sp : Sp} {dvs : List V} {ds : List Value} {E : XK} {x m : Str} {p pos apos : Pos} {e o : Expr} {es : List Expr} {ta : TE} {t : TA}
theorem run_fn {pins : List (Addr × Obj)} {σ : St} {H : Hp} {s : Shared} {Q : VK} {us : List Value} {vs : List V} (F : FnOk X.prog X.w X.K X.mg X.base CX k f fd ps sp) (hr : Room k X.A) (hb : Binds X.K fd ps ds) (hd : Vals dvs ds) (hx : Passes CX X E)
    (I : Inv X pins σ H s) (r : Vals vs us) (h : sp (vs ++ dvs) H Q E) : wpAny (model X.prog X.w) X.A (call (.ref f) us) (EP X pins σ Q) X.xe s := by
  have r2 : Vals (vs ++ dvs) (us ++ ds) := r.append hd
  have hl : (us ++ ds).length = ps.length := by rw [← r2.length]; exact F.len _ _ _ _ h
  refine wpAny_call (codeAny_mono (F.run X.A X.stack s H ⟨us, []⟩ (us ++ ds) (vs ++ dvs) Q E hr I.env0 (hb s us I.kIn hl) r2 h) fun r s' hq => ?_)
  cases r with
  | error e => exact hx pins σ H s e s' I hq
  | ok fl =>
    cases fl with
    | ret u => exact I.after hq
    | next => exact False.elim hq
    | brk => exact False.elim hq
    | cont => exact False.elim hq
theorem pe_call (F : FnOk X.prog X.w X.K X.mg X.base CX k f fd ps sp) (hr : Room k X.A) (hg : Gl X x) (hm : X.mg x = some (.ref f)) (hk : PySem.W.keepIn X.K (.ref f) = true) (hb : Binds X.K fd ps ds) (hd : Vals dvs ds) (hx : Passes CX X E)
    (ha : PA X (e :: es) t) (hdb : (x == ("__debug__" : Str)) = false := by decide) (he : starEach (e :: es) X.env = (false, eval e X.env) :: starEach es X.env := by rfl) (hpl : (backTo pos (starEach es X.env)).any (·.1) = false := by rfl) :
    PE X (.Call (.Name x p) (e :: es) [] pos) (tCall sp dvs E t) := by
  intro pins s σ H Q I h
  refine wpAny_Call_Name_kw (ld_glob I hg hm ?_ hdb)
  refine PySem.W.callWith_K (h₀ := X.base) I.ok.mod.kin hk (thn (ha pos pins s σ H _ I h) fun us s1 ⟨vs, H1, I1, r, q⟩ => ⟨I1.kIn, ?_⟩) he hpl
  exact run_fn F hr hb hd hx I1 r q
end
section
variable {X : Cx} {CX : CXT} {k : Nat} {f C : Addr} {fd : FuncData} {ps ks : List Str} {sp : Sp} {E : XK} {x m : Str} {p pos apos kpos : Pos} {e o : Expr} {es : List Expr} {kws : List Keyword} {te ta : TE} {t tk : TA} {nm : Option Str}
variable {g : List Value → List Value → List Value} {gV : List V → List V → List V}
end
structure FnScope (N P : List Str) (sc : Scope) : Prop where
  kind : sc.kind = .function
  co : sc.isCoroutine = false
  gen : sc.isGenerator = false
  nd : N.Nodup
  pre : N.take P.length = P
  par : ∀ x ∈ P, sc.names.lookup x = some .local ∨ sc.names.lookup x = some .cell
  nofree : ∀ y ∈ sc.names, y.2 ≠ .free
theorem bindL_out {kindOf : Str → Option NameKind} {x : Str} : ∀ {binds : List (Str × Value)} {m : Str → Option Value}, (∀ v, (x, v) ∉ binds) → bindL kindOf binds m x = m x
  | [], _, _ => rfl
  | (n, v) :: r, m, h => by
    unfold bindL
    rw [bindL_out fun w hw => h w (List.mem_cons_of_mem _ hw)]
    split
    · have : x ≠ n := by rintro rfl; exact h v List.mem_cons_self
      simp [this]
    · rfl
theorem bindC_out {kindOf : Str → Option NameKind} {x : Str} : ∀ {binds : List (Str × Value)} {m : Str → Option Value}, (∀ v, (x, v) ∉ binds) → bindC kindOf binds m x = m x
  | [], _, _ => rfl
  | (n, v) :: r, m, h => by
    unfold bindC
    rw [bindC_out fun w hw => h w (List.mem_cons_of_mem _ hw)]
    split
    · rfl
    · have : x ≠ n := by rintro rfl; exact h v List.mem_cons_self
      simp [this]
theorem bindL_get {kindOf : Str → Option NameKind} {x : Str} {v : Value} : ∀ {P : List Str} {vs : List Value} {i : Nat} {m : Str → Option Value}, P.Nodup → P[i]? = some x → vs[i]? = some v → kindOf x = some .local →
    bindL kindOf (P.zip vs) m x = some v
  | [], _, _, _, _, h, _, _ => by simp at h
  | _ :: _, [], _, _, _, _, h, _ => by simp at h
  | p :: P, w :: vs, 0, m, nd, h1, h2, hk => by
    simp at h1 h2; subst h1; subst h2
    show bindL kindOf ((p, w) :: P.zip vs) m p = _
    unfold bindL
    rw [bindL_out fun v hv => (List.nodup_cons.mp nd).1 (List.of_mem_zip hv).1, if_pos hk]
    simp
  | p :: P, w :: vs, i + 1, m, nd, h1, h2, hk => by
    show bindL kindOf ((p, w) :: P.zip vs) m x = _
    unfold bindL
    exact bindL_get (i := i) (List.nodup_cons.mp nd).2 (by simpa using h1) (by simpa using h2) hk
theorem bindC_get {kindOf : Str → Option NameKind} {x : Str} {v : Value} : ∀ {P : List Str} {vs : List Value} {i : Nat} {m : Str → Option Value}, P.Nodup → P[i]? = some x → vs[i]? = some v → kindOf x ≠ some .local →
    bindC kindOf (P.zip vs) m x = some v
  | [], _, _, _, _, h, _, _ => by simp at h
  | _ :: _, [], _, _, _, _, h, _ => by simp at h
  | p :: P, w :: vs, 0, m, nd, h1, h2, hk => by
    simp at h1 h2; subst h1; subst h2
    show bindC kindOf ((p, w) :: P.zip vs) m p = _
    unfold bindC
    rw [bindC_out fun v hv => (List.nodup_cons.mp nd).1 (List.of_mem_zip hv).1, if_neg hk]
    simp
  | p :: P, w :: vs, i + 1, m, nd, h1, h2, hk => by
    show bindC kindOf ((p, w) :: P.zip vs) m x = _
    unfold bindC
    exact bindC_get (i := i) (List.nodup_cons.mp nd).2 (by simpa using h1) (by simpa using h2) hk
noncomputable def start (N : List Str) (vs : List V) : St := vs.map some ++ List.replicate (N.length - vs.length) none
noncomputable def cxOf (CX : CXT) (P : Program) (w : World) (K : PySem.W.Frag) (mg : Str → Option Value) (base : Heap) (N : List Str) (qual : Str) (scope : Scope) (f : Addr) (cd : Value) (A : Around) (outer : List Env) (s : Shared) (H : Hp) (E : XK) : Cx where
  prog := P
  w := w
  K := K
  mg := mg
  base := base
  A := A.deeper (envOfC qual scope s.heap.objs.size f cd)
  N := N
  s₀ := s
  H₀ := H
  env := envOfC qual scope s.heap.objs.size f cd
  outer := outer
  stack := envOfC qual scope s.heap.objs.size f cd :: outer
  ex := []
  calm := true
  fn := fun _ => true
  pn := []
  xe := fun e s' => wpAny (model P w) (A.deeper (envOfC qual scope s.heap.objs.size f cd)) (leaving (envOfC qual scope s.heap.objs.size f cd) e) (fun _ s'' => CX outer H s E e s'') (fun e' s'' => CX outer H s E e' s'') s'
theorem cell_has {sc : Scope} {n : Nat} {x : Str} (h : sc.names.lookup x = some .cell) : ∃ c, (cellsFrom n sc.names []).lookup x = some c := by
  have q := PySem.W.cellsFrom_some sc.names n [] (.inl h)
  exact Option.isSome_iff_exists.mp q
theorem inv_start {CX : CXT} {P : Program} {w : World} {K : PySem.W.Frag} {mg : Str → Option Value} {base : Heap} {N ps : List Str} {qual : Str} {scope : Scope} {f : Addr} {cd : Value} {A : Around} {outer : List Env} {s s1 : Shared} {H : Hp} {E : XK} {us : List Value} {vs : List V}
    (S : FnScope N ps scope) (hd : A.handled = none) (e0 : Env0 P w K mg base A outer s H) (hl : vs.length = ps.length) (r : Vals vs us)
    (x : InCallC s s.heap.objs.size (bindL (envOfC qual scope s.heap.objs.size f cd).kindOf (ps.zip us) fun _ => none) (cellsFrom (s.heap.objs.size + 1) scope.names []) (bindC (envOfC qual scope s.heap.objs.size f cd).kindOf (ps.zip us) fun _ => none) s1) :
    Inv (cxOf CX P w K mg base N qual scope f cd A outer s H E) [] (start N vs) H s1 := by
  have hpl : ps.length ≤ N.length := by have := congrArg List.length S.pre; rw [List.length_take] at this; omega
  obtain ⟨h1, tk, rfl, hk⟩ := x.done
  have noA : ∀ b : Addr, b ∉ (cxOf CX P w K mg base N qual scope f cd A outer s H E).ex := fun b z => absurd (show b ∈ ([] : List Addr) from z) (by simp)
  refine ⟨⟨e0.mod, S.kind, rfl, rfl, Nat.le_refl _, fun y z c h1 h2 => ?_, fun y hy => ?_, fun y c _ h => ?_, fun _ => hd, Around.frames_deeper e0.frames, .inr ⟨rfl, rfl⟩, fun b z => absurd z (noA b), e0.bs, e0.bsz, fun b _ _ => noA b, fun b z => absurd z (noA b), e0.funs, e0.frf⟩,
    rfl, e0.bare, Un.kept hk, ⟨_, x.toInCall.ns, fun i y v h1 h2 h3 => ?_⟩, fun y c h => ⟨_, x.cell y c h⟩, e0.hok.fresh (Nat.le_refl _), fun y c h => ?_, fun p hp => absurd (show p ∈ ([] : List (Addr × Obj)) from hp) (by simp), e0.hok.kept hk, ?_⟩
  · exact name_of_addr x.apart (PySem.mem_of_lookup h1) (PySem.mem_of_lookup h2)
  · have hy : scope.names.lookup y = some .cell ∨ scope.names.lookup y = some .free := hy
    rcases hy with hy | hy
    · exact cell_has hy
    · exact absurd rfl (S.nofree _ (PySem.mem_of_lookup hy))
  · exact Nat.le_of_lt (x.above y c (PySem.mem_of_lookup h))
  · have hi : i < vs.length := by
      unfold start at h2
      by_cases hi : i < vs.length
      · exact hi
      · rw [List.getElem?_append_right (by simpa using hi)] at h2
        rw [List.getElem?_replicate] at h2
        split at h2 <;> cases h2
    have ha : vs[i]? = some v := by
      unfold start at h2
      rw [List.getElem?_append_left (by simpa using hi), List.getElem?_map] at h2
      cases e : vs[i]? with
      | none => rw [e] at h2; cases h2
      | some a => rw [e] at h2; cases h2; rfl
    obtain ⟨u, hu, rv⟩ := r.get ha
    have hp : ps[i]? = some y := by
      rw [← S.pre, List.getElem?_take_of_lt (by omega)]; exact h1
    have ndP : ps.Nodup := by rw [← S.pre]; exact S.nd.sublist (List.take_sublist _ _)
    refine ⟨u, rv, ?_⟩
    rcases S.par y (List.mem_of_getElem? hp) with k | k
    · exact .inl ⟨k, bindL_get ndP hp hu k⟩
    · obtain ⟨c, e⟩ := cell_has (n := s.heap.objs.size + 1) k
      refine .inr ⟨.inl k, c, e, ?_⟩
      have q := x.cell y c e
      rw [bindC_get ndP hp hu (by show scope.names.lookup y ≠ _; rw [k]; decide)] at q
      exact q
  · exact e0.hok.fresh (Nat.le_of_lt (x.above y c (PySem.mem_of_lookup h)))
  · unfold start
    show _ = N.length
    rw [List.length_append, List.length_map, List.length_replicate]
    omega
theorem fn_of {CX : CXT} {P : Program} {w : World} {K : PySem.W.Frag} {mg : Str → Option Value} {base : Heap} {k : Nat} {f : Addr} {name qual : Str} {params : Arguments} {body : List Stmt} {scope : Scope} {dV kV doc pm cdv ct oc : Value} {an od : Option Addr}
    {osl : Array (Option Value)} {N ps : List Str} {sp : Sp} (lk : K.lookup f = some ⟨oc, od, .func (PySem.W.fnOf name qual params body scope dV kV doc pm an cdv ct), osl⟩) (hcd : PySem.W.codeIn K cdv qual = true) (S : FnScope N ps scope)
    (len : ∀ vs H Q E, sp vs H Q E → vs.length = ps.length)
    (hbody : ∀ (A : Around) (outer : List Env) (s : Shared) (H : Hp) (vs : List V) (Q : VK) (E : XK), Room k (A.deeper (envOfC qual scope s.heap.objs.size f cdv)) → sp vs H Q E →
      ∃ t, PSs (cxOf CX P w K mg base N qual scope f cdv A outer s H E) body t ∧ t { nx := fun _ H' => Q .non H', rt := Q } (start N vs) H) :
    FnOk P w K mg base CX (k + 1) f (PySem.W.fnOf name qual params body scope dV kV doc pm an cdv ct) ps sp := by
  refine ⟨len, fun A outer s H args us vs Q E hr e0 hb r hsp => ?_⟩
  have hl := len _ _ _ _ hsp
  have KX : K.In s.heap := e0.mod.kin.keeps fun b o e => (e0.bs b o e).1
  have lim : s.heap.NoLimit := e0.mod.nolimit.keeps fun b o e => (e0.bs b o e).1
  have hkind : ∀ y ∈ ps.zip us, scope.names.lookup y.1 = some .local ∨ (scope.names.lookup y.1 = some .cell ∧ ((cellsFrom (s.heap.objs.size + 1) scope.names []).lookup y.1).isSome = true) := fun ⟨n, v⟩ hy => by
    rcases S.par n (List.of_mem_zip hy).1 with q | q
    · exact .inl q
    · exact .inr ⟨q, PySem.W.cellsFrom_some _ _ _ (.inl q)⟩
  refine codeAny_call_function hr.depth (KX _ _ lk) rfl S.co S.gen rfl (PySem.W.codeRec_of KX hcd) (hb _ _ _ _ ?_)
  refine wpAny_newFunctionEnv_cells S.kind hkind fun env he s1 x => ?_
  subst he
  refine ⟨lim.keeps x.toInCall.keep, codeAny_func ?_⟩
  obtain ⟨t, ht, hq⟩ := hbody A outer s H vs Q E (hr.deeper _) hsp
  have I : Inv (cxOf CX P w K mg base N qual scope f cdv A outer s H E) [] (start N vs) H s1 := inv_start S hr.hd e0 hl r x
  refine wpAny_mono (ht [] s1 (start N vs) H _ I hq) (fun fl s' hs => ?_) fun e s' hs => hs
  have fin : ∀ {σ' : St} {H' : Hp} {v : V} {u : Value}, Inv (cxOf CX P w K mg base N qual scope f cdv A outer s H E) [] σ' H' s' → RelV v u → Q v H' → CE outer P w H s Q u s' :=
    fun {σ' H' v u} J rv q => ⟨v, H', J.os, J.bare, J.base, J.hok, rv, q⟩
  cases fl with
  | ret u =>
    obtain ⟨v, σ', H', J, rv, q⟩ := hs
    exact fin J rv q
  | next =>
    obtain ⟨σ', H', J, q⟩ := hs
    exact fin (v := V.non) (u := Value.none) J rfl q
  | brk =>
    obtain ⟨_, _, _, q⟩ := hs
    exact False.elim q
  | cont =>
    obtain ⟨_, _, _, q⟩ := hs
    exact False.elim q
end L2
namespace L2
open PySem PySem.Spec PyProof.Rows
section
variable {X : Cx} {x : Str} {p pos : Pos} {e : Expr} {es : List Expr} {t : TA} {id T : String} {r : List V → Hp → VK → Prop}
noncomputable def tCB (r : List V → Hp → VK → Prop) (t : TA) : TE := fun σ H Q => t σ H fun vs H1 => r vs H1 Q
theorem pe_callB (hc : CallR X (.builtin id) r) (hg : Gl X x) (hm : X.mg x = none) (hv : bootBuiltins x = some (.builtin id)) (ha : PA X (e :: es) t) (hn : x ≠ "__name__" := by decide) (hdb : (x == ("__debug__" : Str)) = false := by decide)
    (he : starEach (e :: es) X.env = (false, eval e X.env) :: starEach es X.env := by rfl) (hpl : (backTo pos (starEach es X.env)).any (·.1) = false := by rfl) : PE X (.Call (.Name x p) (e :: es) [] pos) (tCB r t) := by
  intro pins s σ H Q I h
  refine wpAny_Call_Name_kw (ld_blt I hg hm hv ?_ hn hdb)
  exact PyProof.Rows.callWith_builtin1 (thn (ha pos pins s σ H _ I h) fun us s1 ⟨vs, H1, I1, r1, q1⟩ => hc pins s1 σ H1 vs us Q I1 r1 q1) he hpl
theorem pe_callTy (hc : CallR X (.type T) r) (hg : Gl X x) (hm : X.mg x = none) (hv : bootBuiltins x = some (.type T)) (ha : PA X (e :: es) t) (hn : x ≠ "__name__" := by decide) (hdb : (x == ("__debug__" : Str)) = false := by decide)
    (he : starEach (e :: es) X.env = (false, eval e X.env) :: starEach es X.env := by rfl) (hpl : (backTo pos (starEach es X.env)).any (·.1) = false := by rfl) : PE X (.Call (.Name x p) (e :: es) [] pos) (tCB r t) := by
  intro pins s σ H Q I h
  refine wpAny_Call_Name_kw (ld_blt I hg hm hv ?_ hn hdb)
  exact PyProof.Rows.callWith_type1 (thn (ha pos pins s σ H _ I h) fun us s1 ⟨vs, H1, I1, r1, q1⟩ => hc pins s1 σ H1 vs us Q I1 r1 q1) he hpl
end
end L2
namespace HT
open PySem PyProof.Rows
section
open PySem.SeqAt
open PySem.AutoSeq1 (wpAny_loadPart')
open PySem.MeetsSeq PySem.MeetsSeq2 PySem.MeetsSeq3
end
section
variable {prog : Program} {w : World} {A : Around} {E : Value → Shared → Prop} {s : Shared}
theorem cat_tup {t b : Addr} {vs ws : List Value} {Q : Value → Shared → Prop} (ht : IsTup s.heap t vs.toArray) (hb : IsTup s.heap b ws.toArray) (hv : vs ≠ [])
    (h1 : ws = [] → Q (.ref t) s) (h2 : ws ≠ [] → Q (.ref s.heap.objs.size) { s with heap := s.heap.push { cls := .type "tuple", data := .seq (vs ++ ws).toArray } })
    (hsz : vs.length + ws.length ≤ sizeLine) : wpAny (model prog w) A (binaryOp .Add (.ref t) (.ref b)) Q E s := by
  obtain ⟨⟨cls, dd, data, sl⟩, ho, hc, n, hd⟩ := id ht
  obtain ⟨⟨cls2, dd2, data2, sl2⟩, ho2, hc2, n2, hd2⟩ := id hb
  simp only at hc hd hc2 hd2
  subst hc hd hc2 hd2
  have e : vs.toArray ++ ws.toArray = (vs ++ ws).toArray := by simp
  by_cases hw : ws = []
  · exact concat_meets ⟨_, ho, rfl⟩ ⟨_, ho2, rfl⟩ noFill_tuple_add seq_tuple_add PySem.F.slot_tuple_add PySem.F.entry_tuple_add (PySem.F.args_tuple_add_2 _ _)
      (tuple_addW1 t b vs.toArray ws.toArray n n2 dd dd2 sl sl2 (by simpa using hv) (by simp [hw])) ⟨ho, ho2, h1 hw⟩
  · refine concat_meets ⟨_, ho, rfl⟩ ⟨_, ho2, rfl⟩ noFill_tuple_add seq_tuple_add PySem.F.slot_tuple_add PySem.F.entry_tuple_add (PySem.F.args_tuple_add_2 _ _)
      (tuple_addW2 t b vs.toArray ws.toArray n n2 dd dd2 sl sl2 (by simpa using hv) (by simpa using hw) (by rw [List.size_toArray, List.size_toArray]; exact hsz)) ⟨ho, ho2, ?_⟩
    rw [e]
    exact h2 hw
end
end HT
namespace L2
open PySem PySem.Spec PyProof.Rows
noncomputable abbrev TO := St → Hp → (Option Int → Hp → Prop) → Prop
section
variable {X : Cx} {e : Expr} {te : TE} {lo hi : Option Expr} {tl th : TO} {pos p2 : Pos}
noncomputable def rCatT (K : PySem.W.Frag) : R2 := fun x y H Q => ∃ a b xs ys, x = .ref a ∧ y = .ref b ∧ SqT K H a xs ∧ SqT K H b ys ∧ xs ≠ [] ∧ xs.length + ys.length ≤ sizeLine ∧
  (ys = [] → Q (.ref a) H) ∧ (ys ≠ [] → ∀ p, H p = none → Q (.ref p) (upd H p (.tup (xs ++ ys))))
theorem Vals.nil_iff {xs : List V} {us : List Value} (r : Vals xs us) : us = [] ↔ xs = [] := by
  cases r with
  | nil => simp
  | cons _ _ => simp
theorem op_catT : OpR X (binaryOp .Add) (rCatT X.K) := by
  intro pins s σ H x y v u Q I rx ry h
  obtain ⟨a, b, xs, ys, rfl, rfl, ha, hb, hx, hz, q1, q2⟩ := h
  cases rx
  cases ry
  obtain ⟨its, r1, p1, _⟩ := I.tuple ha
  obtain ⟨its2, r2, p2, _⟩ := I.tuple hb
  refine HT.cat_tup p1 p2 (fun z => hx (r1.nil_iff.mp z)) (fun z => ⟨.ref a, H, I, rfl, q1 (r2.nil_iff.mp z)⟩) (fun z => ?_) (by rw [← r1.length, ← r2.length]; exact hz)
  refine ⟨.ref s.heap.objs.size, _, I.laid (t' := s.toks) (o := .tup (xs ++ ys)) (fun b ob q => Heap.get?_push_of_some _ q) (Nat.le_refl _) ?_, rfl, q2 (fun w => z (r2.nil_iff.mpr w)) _ (I.hok.fresh (Nat.le_refl _))⟩
  exact ⟨by rw [List.length_append]; exact hz, _, r1.append r2, IsTup.new _ _⟩
end
end L2
namespace L2
open PySem PySem.Spec PyProof.Rows
noncomputable def ixN (n : Nat) (i : Int) : Option Nat := if 0 ≤ i then (if i < n then some i.toNat else none) else if -(n : Int) ≤ i then some (i + n).toNat else none
noncomputable def atI {α : Type} (xs : List α) (i : Int) : Option α := (ixN xs.length i).bind fun j => xs[j]?
theorem ixN_seq {n : Nat} {i : Int} {j : Nat} (h : ixN n i = some j) : seqIndex? i n = some j ∧ j < n ∧ -(n : Int) ≤ i ∧ i < n := by
  unfold ixN at h
  by_cases h0 : 0 ≤ i
  · rw [if_pos h0] at h
    by_cases h1 : i < n
    · rw [if_pos h1] at h
      have e : i.toNat = j := Option.some.inj h
      exact ⟨by rw [seqIndex_of h0 h1, e], by omega, by omega, h1⟩
    · rw [if_neg h1] at h; cases h
  · rw [if_neg h0] at h
    by_cases h1 : -(n : Int) ≤ i
    · rw [if_pos h1] at h
      have e : (i + n).toNat = j := Option.some.inj h
      exact ⟨by rw [seqIndex_neg (by omega) h1, e], by omega, h1, by omega⟩
    · rw [if_neg h1] at h; cases h
theorem atI_get {α : Type} {xs : List α} {i : Int} {v : α} (h : atI xs i = some v) : ∃ j, seqIndex? i xs.length = some j ∧ xs[j]? = some v ∧ j < xs.length ∧ -(xs.length : Int) ≤ i ∧ i < xs.length := by
  unfold atI at h
  cases e : ixN xs.length i with
  | none => rw [e] at h; cases h
  | some j =>
    rw [e] at h
    obtain ⟨h1, h2, h3, h4⟩ := ixN_seq e
    exact ⟨j, h1, h, h2, h3, h4⟩
theorem atI_nat {α : Type} {xs : List α} {j : Nat} {v : α} (h : xs[j]? = some v) : atI xs (j : Int) = some v := by
  have hj : j < xs.length := (List.getElem?_eq_some_iff.mp h).1
  have e : ixN xs.length (j : Int) = some j := by
    unfold ixN
    rw [if_pos (by omega), if_pos (by omega)]; simp
  unfold atI; rw [e]; exact h
noncomputable def PlainIx (b : Expr) : Prop := ∀ o i, subscripted b false o i = operate [o, i] (getItem o i)
noncomputable def IxR (X : Cx) (r : R2) : Prop :=
  ∀ (value slice : Expr) (pins : List (Addr × Obj)) (s : Shared) (σ : St) (H : Hp) (x y : V) (v u : Value) (Q : VK), Inv X pins σ H s → RelV x v → RelV y u → r x y H Q →
    subscripted slice false v u = operate [v, u] (getItem v u) → wpAny (model X.prog X.w) X.A (subscriptTail value slice v u) (EP X pins σ Q) X.xe s
noncomputable def MtR (X : Cx) (id : String) (r : V → List V → Hp → VK → Prop) : Prop :=
  ∀ (pins : List (Addr × Obj)) (s : Shared) (σ : St) (H : Hp) (x : V) (xs : List V) (v : Value) (us : List Value) (Q : VK), Inv X pins σ H s → RelV x v → Vals xs us → r x xs H Q →
    wpAny (model X.prog X.w) X.A (call (.builtin id) (v :: us)) (EP X pins σ Q) X.xe s
section
variable {X : Cx} {a b : Expr} {ta tb : TE} {pos : Pos}
theorem pe_ix {r : R2} (hr : IxR X r) (ha : PE X a ta) (hb : PE X b tb) (hs : PlainIx b) : PE X (.Subscript a b pos) (tOp r ta tb) := by
  intro pins s σ H Q I h
  exact Subscript_ (binT ha hb I h fun v u s2 x y H2 I2 rx ry q => hr a b pins s2 σ H2 x y v u Q I2 rx ry q (hs _ _))
noncomputable def rIxL (K : PySem.W.Frag) : R2 := fun x y H Q => ∃ p xs i v, x = .ref p ∧ y = .int i ∧ SqL K H p xs ∧ atI xs i = some v ∧ Q v H
noncomputable def rIxT (K : PySem.W.Frag) : R2 := fun x y H Q => ∃ p xs i v, x = .ref p ∧ y = .int i ∧ SqT K H p xs ∧ atI xs i = some v ∧ Q v H
theorem ix_list : IxR X (rIxL X.K) := by
  intro value slice pins s σ H x y v u Q I rx ry h hs
  obtain ⟨p, xs, i, z, rfl, rfl, hq, he, q⟩ := h
  cases rx
  obtain ⟨t, rfl⟩ := ry
  obtain ⟨its, r, pl, hz⟩ := I.list hq
  obtain ⟨j, h1, h2, h3, h4, h5⟩ := atI_get he
  obtain ⟨w, ew, rw'⟩ := r.get h2
  have hl := r.length
  have hn := line63
  have fin : EP X pins σ Q w s := ⟨z, H, I, rw', q⟩
  by_cases h0 : 0 ≤ i
  · have hj : i.toNat = j := by
      rw [seqIndex_of h0 h5] at h1
      exact Option.some.inj h1
    exact item_listR pl.isList h0 (by omega) (by rw [hj]; simpa using ew) fin hs
  · have hj : (i + (its.toArray.size : Int)).toNat = j := by
      rw [seqIndex_neg (by omega) h4] at h1
      rw [List.size_toArray, ← hl]
      exact Option.some.inj h1
    exact subscriptTail_builtinR (x := w) pl.isList.typeIs slot_list_getitem.lookup
      (wpAny_getItem_list_neg (Q := fun r s' => r = w ∧ EP X pins σ Q r s') pl.isList (by omega) (by rw [List.size_toArray] <;> omega) (by omega) (by rw [hj]; simpa using ew) ⟨rfl, fin⟩) hs
theorem ix_tup : IxR X (rIxT X.K) := by
  intro value slice pins s σ H x y v u Q I rx ry h hs
  obtain ⟨p, xs, i, z, rfl, rfl, hq, he, q⟩ := h
  cases rx
  obtain ⟨t, rfl⟩ := ry
  obtain ⟨its, r, pl, hz⟩ := I.tuple hq
  obtain ⟨j, h1, h2, h3, h4, h5⟩ := atI_get he
  obtain ⟨w, ew, rw'⟩ := r.get h2
  have hl := r.length
  have hn := line63
  have fin : EP X pins σ Q w s := ⟨z, H, I, rw', q⟩
  exact subscriptTail_builtinR (x := w) pl.typeIs slot_tuple_getitem.lookup
    (getItem_tuple (j := j) (Q := fun r s' => r = w ∧ EP X pins σ Q r s') pl (by omega) (by omega) (by rw [List.size_toArray, ← hl]; exact h1) (by simpa using ew) ⟨rfl, fin⟩) hs
theorem call_len_seq : CallR X (.builtin "len") (fun xs H Q => ∃ p ys, xs = [.ref p] ∧ (SqL X.K H p ys ∨ SqT X.K H p ys) ∧ Q (.int ys.length) H) := by
  intro pins s σ H xs us Q I r h
  obtain ⟨p, ys, rfl, hq, q⟩ := h
  obtain ⟨u, rfl, rx⟩ := vals1 r
  cases rx
  have hn := line63
  rcases hq with hq | hq
  · obtain ⟨its, r', pl, hz⟩ := I.list hq
    have hlen := r'.length
    exact Calls.call_len_list pl.isList (by simp only [List.size_toArray] <;> omega) ⟨.int ys.length, H, I.tok _, ⟨s.toks + 1, by rw [List.size_toArray, hlen]⟩, q⟩
  · obtain ⟨its, r', pl, hz⟩ := I.tuple hq
    have hlen := r'.length
    exact len_tuple pl (by simp only [List.size_toArray] <;> omega) ⟨.int ys.length, H, I.tok _, ⟨s.toks + 1, by rw [List.size_toArray, hlen]⟩, q⟩
theorem call_len_str : CallR X (.builtin "len") (fun xs H Q => ∃ z, xs = [.str z] ∧ z.length ≤ sizeLine ∧ Q (.int z.length) H) := by
  intro pins s σ H xs us Q I r h
  obtain ⟨z, rfl, hz, q⟩ := h
  obtain ⟨u, rfl, t, rfl⟩ := vals1 r
  have hn := line63
  exact len_str (by omega) ⟨.int z.length, H, I.tok _, ⟨_, rfl⟩, q⟩
theorem call_list_of : CallR X (.type "list") (fun xs H Q => ∃ p ys, xs = [.ref p] ∧ (SqL X.K H p ys ∨ SqT X.K H p ys) ∧ ∀ l, H l = none → Q (.ref l) (upd H l (.lst ys))) := by
  intro pins s σ H xs us Q I r h
  obtain ⟨p, ys, rfl, hq, q⟩ := h
  obtain ⟨u, rfl, rx⟩ := vals1 r
  cases rx
  have fin : ∀ (its : List Value), Vals ys its → ys.length ≤ sizeLine → ∀ (h' : Heap) (c' : Nat), (∀ b o', s.heap.get? b = some o' → h'.get? b = some o') →
      h'.get? s.heap.objs.size = some { cls := .type "list", dict := none, data := .seq its.toArray c', slots := #[] } → EP X pins σ Q (.ref s.heap.objs.size) { s with heap := h' } := fun its r' hz h' c' kp e =>
    ⟨.ref s.heap.objs.size, _, I.laid (t' := s.toks) kp (Nat.le_refl _) (show ObjOk X.prog X.w _ h' _ (.lst ys) from ⟨hz, its, c', r', e⟩), rfl, q _ (I.hok.fresh (Nat.le_refl _))⟩
  rcases hq with hq | hq
  · obtain ⟨its, r', pl, hz⟩ := I.list hq
    have hlen := r'.length
    obtain ⟨o, ho, hc, n, hd⟩ := pl.isList
    exact call_list_seq p (.inl rfl) ho hc hd (fun h' c' kp e => fin its r' hz h' c' kp e) (by simp only [List.size_toArray] <;> omega)
  · obtain ⟨its, r', pl, hz⟩ := I.tuple hq
    have hlen := r'.length
    obtain ⟨o, ho, hc, n, hd⟩ := pl
    exact call_list_seq p (.inr rfl) ho hc hd (fun h' c' kp e => fin its r' hz h' c' kp e) (by simp only [List.size_toArray] <;> omega)
theorem call_tuple_of : CallR X (.type "tuple") (fun xs H Q => ∃ p ys, xs = [.ref p] ∧ ((SqL X.K H p ys ∧ ∀ l, H l = none → Q (.ref l) (upd H l (.tup ys))) ∨ (SqT X.K H p ys ∧ Q (.ref p) H))) := by
  intro pins s σ H xs us Q I r h
  obtain ⟨p, ys, rfl, h⟩ := h
  obtain ⟨u, rfl, rx⟩ := vals1 r
  cases rx
  rcases h with ⟨hq, q⟩ | ⟨hq, q⟩
  · obtain ⟨its, r', pl, hz⟩ := I.list hq
    have hlen := r'.length
    refine call_tuple_list pl.isList (fun h' kp => ?_) (by simp only [List.size_toArray] <;> omega)
    have I1 : Inv X pins σ H { s with heap := h' } := I.kept (t' := s.toks) kp
    have I2 : Inv X pins σ (upd H h'.objs.size (.tup ys)) { s with heap := h'.push { cls := .type "tuple", data := .seq its.toArray } } :=
      I1.laid (t' := s.toks) (fun b o e => Heap.get?_push_of_some _ e) (Nat.le_refl _) (show ObjOk X.prog X.w _ _ _ (.tup ys) from ⟨hz, its, r', IsTup.new _ _⟩)
    exact ⟨.ref h'.objs.size, _, I2, rfl, q _ (I1.hok.fresh (Nat.le_refl _))⟩
  · obtain ⟨its, r', pl, hz⟩ := I.tuple hq
    exact call_tuple_same pl ⟨.ref p, H, I, rfl, q⟩
noncomputable def tyV (K : PySem.W.Frag) (T : String) (x : V) (H : Hp) : Prop := match x with
  | .str _ => T = "str"
  | .int _ => T = "int"
  | .ref p => (T = "list" ∧ ∃ xs, SqL K H p xs) ∨ (T = "tuple" ∧ ∃ o, K.lookup p = some o ∧ o.cls = .type "tuple" ∧ o.dict = none) ∨
      (T = "dict" ∧ ((∃ kvs, H p = some (.dK kvs)) ∨ ∃ kvs, H p = some (.dT kvs))) ∨ (T = "set" ∧ ∃ S n, H p = some (.set S n))
  | _ => False
theorem tyV_is {pins : List (Addr × Obj)} {σ : St} {H : Hp} {s : Shared} {T : String} {x : V} {v : Value} (I : Inv X pins σ H s) (r : RelV x v) (ty : tyV X.K T x H) :
    s.TypeIs v T ∧ ∀ a, v = .ref a → ∃ ob, s.heap.get? a = some ob ∧ ob.dict = none := by
  cases x with
  | str z =>
    obtain ⟨t, rfl⟩ := r
    cases (show T = "str" from ty)
    exact ⟨typeIs_str s z t, fun _ e => nomatch e⟩
  | int i =>
    obtain ⟨t, rfl⟩ := r
    cases (show T = "int" from ty)
    exact ⟨typeIs_int s i t, fun _ e => nomatch e⟩
  | ref p =>
    cases r
    rcases ty with ⟨rfl, xs, hq⟩ | ⟨rfl, o, hk, hc, hd⟩ | ⟨rfl, hk⟩ | ⟨rfl, S, n, hk⟩
    · obtain ⟨its, _, pl, _⟩ := I.list hq
      refine ⟨pl.isList.typeIs, fun a e => ?_⟩
      cases e
      obtain ⟨o, n, e, c, hd, _⟩ := pl
      exact ⟨o, e, hd⟩
    · refine ⟨⟨o, I.kIn p o hk, hc⟩, fun a e => ?_⟩
      cases e
      exact ⟨o, I.kIn _ o hk, hd⟩
    · have z : ∃ o, s.heap.get? p = some o ∧ o.ExactDict := by
        rcases hk with ⟨kvs, hk⟩ | ⟨kvs, hk⟩
        · obtain ⟨_, _, _, _, o, _, _, e, ex, _⟩ := I.hok p _ hk
          exact ⟨o, e, ex⟩
        · obtain ⟨_, _, _, _, o, _, _, e, ex, _⟩ := I.hok p _ hk
          exact ⟨o, e, ex⟩
      obtain ⟨o, e, ex⟩ := z
      refine ⟨⟨o, e, ex.1⟩, fun a e2 => ?_⟩
      cases e2
      exact ⟨o, e, ex.2.1⟩
    · obtain ⟨o, _, _, _, e, ex, _⟩ := I.hok p _ hk
      refine ⟨⟨o, e, ex.1⟩, fun a e2 => ?_⟩
      cases e2
      exact ⟨o, e, ex.2.1⟩
  | _ => exact False.elim ty
noncomputable def tBM (K : PySem.W.Frag) (T : String) (r : V → List V → Hp → VK → Prop) (to : TE) (t : TA) : TE := fun σ H Q => to σ H fun x H1 => tyV K T x H1 ∧ t σ H1 fun xs H2 => r x xs H2 Q
variable {o e : Expr} {es : List Expr} {to : TE} {t : TA} {name : Str} {apos cpos : Pos} {T id : String} {r : V → List V → Hp → VK → Prop}
theorem pe_bm (pa : PlainAttrs T) (slot : Slot T name id) (hty : typeOf (.builtin id) = pure (.type "method_descriptor")) (hm : MtR X id r) (ho : PE X o to) (ha : PA X (e :: es) t)
    (hbase : attributeBase o name X.env (eval o X.env) = eval o X.env := by rfl)
    (hfew : ((backTo cpos (starEach (e :: es) X.env)).all (fun x => !x.1) && (backToKw cpos (keywordEach [] X.env)).all (fun x => x.1.isSome)
      && decide ((e :: es).length + ([] : List Keyword).length + (if ([] : List Keyword).isEmpty then 0 else 1) < 30)) = true := by rfl)
    (hline : (apos.endLine == cpos.line) = true := by rfl) (hs : starEach (e :: es) X.env = (false, eval e X.env) :: starEach es X.env := by rfl) (hplain : (backTo cpos (starEach es X.env)).any (·.1) = false := by rfl) :
    PE X (.Call (.Attribute o name apos) (e :: es) [] cpos) (tBM X.K T r to t) := by
  intro pins s σ H Q I h
  refine wpAny_Call_method_late hbase hfew hline rfl (thn (ho pins s σ H _ I h) fun v s1 hq__ => ?_)
  obtain ⟨x, H1, I1, r1, ty, q1⟩ := hq__
  obtain ⟨h1, h2⟩ := tyV_is I1 r1 ty
  refine ⟨T, id, pa, slot, hty, h1, h2, ?_⟩
  have hA := ha cpos pins s1 σ H1 _ I1 q1
  rw [hs] at hA ⊢
  refine Calls.callWith_builtin (by show (false || (backTo cpos (starEach es X.env)).any (·.1)) = false; rw [hplain] <;> rfl) (Calls.evalArgs_plain ?_)
  exact thn hA fun us s2 ⟨vs, H2, I2, r2, q2⟩ => hm pins s2 σ H2 x vs v us Q I2 r1 r2 q2
end
end L2
namespace L2
open PySem PySem.Spec PyProof.Rows
noncomputable def MtM (X : Cx) (id : String) (r : V → List V → Hp → VK → Prop) : Prop :=
  ∀ (pins : List (Addr × Obj)) (s : Shared) (σ : St) (H : Hp) (x : V) (xs : List V) (v : Value) (us : List Value) (Q : VK), Inv X pins σ H s → RelV x v → Vals xs us → r x xs H Q →
    wpAny (model X.prog X.w) X.A (call (.builtin id) (v :: us)) (EP X pins σ Q) X.xe s
theorem Vals.one {x : V} {us : List Value} (h : Vals [x] us) : ∃ u, us = [u] ∧ RelV x u := by
  cases h with
  | cons r t => cases t; exact ⟨_, rfl, r⟩
theorem Vals.two {x y : V} {us : List Value} (h : Vals [x, y] us) : ∃ u v, us = [u, v] ∧ RelV x u ∧ RelV y v := by
  cases h with
  | cons r t =>
    cases t with
    | cons q t => cases t; exact ⟨_, _, rfl, r, q⟩
theorem Vals.rep {xs : List V} {us : List Value} (h : Vals xs us) : ∀ k : Nat, Vals (List.replicate k xs).flatten (List.replicate k us).flatten
  | 0 => .nil
  | k + 1 => by
    rw [List.replicate_succ, List.replicate_succ, List.flatten_cons, List.flatten_cons]
    exact Vals.append h (Vals.rep h k)
theorem foldl_rep (its : List Value) : ∀ (k : Nat) (acc : List Value),
    List.foldl (fun x1 x2 => x1 ++ x2) acc.toArray (List.replicate k its.toArray) = (acc ++ (List.replicate k its).flatten).toArray
  | 0, acc => by simp
  | k + 1, acc => by
    have e : acc.toArray ++ its.toArray = (acc ++ its).toArray := by simp
    have e2 : (acc ++ its) ++ (List.replicate k its).flatten = acc ++ (List.replicate (k + 1) its).flatten := by
      rw [List.replicate_succ, List.flatten_cons, List.append_assoc]
    rw [← e2, ← foldl_rep its k (acc ++ its), ← e, List.replicate_succ, List.foldl_cons]
section
variable {X : Cx} {pins : List (Addr × Obj)} {σ : St} {H : Hp} {s : Shared} {l b : Addr} {xs ys zs : List V}
theorem Inv.lset {its its' : List Value} {n : Nat} {f : Array Value → Array Value} {t' : Nat} (I : Inv X pins σ H s) (hH : H l = some (.lst xs))
    (e : s.heap.get? l = some { cls := .type "list", data := .seq its.toArray n }) (hf : f its.toArray = its'.toArray) (hv : Vals ys its') (hz : ys.length ≤ sizeLine) :
    Inv X pins σ (upd H l (.lst ys)) { s with heap := s.heap.update l (Obj.mapSeq f), toks := t' } := by
  have q := PySem.IsL.update e f
  rw [hf] at q
  refine I.write (x := l) (e := l) (by rw [hH]; exact trivial) (.inl rfl) (fun b' u hb hu => (Heap.get?_update_other s.heap (Obj.mapSeq f) (Ne.symm hb)).trans hu) ⟨_, q⟩ ?_
  exact ⟨hz, its', _, hv, q⟩
theorem Inv.lnew {its : List Value} {t' : Nat} (I : Inv X pins σ H s) (hv : Vals ys its) (hz : ys.length ≤ sizeLine) :
    Inv X pins σ (upd H s.heap.objs.size (.lst ys)) { s with heap := s.heap.push { cls := .type "list", data := .seq its.toArray }, toks := t' } :=
  I.laid (fun _ _ q => Heap.get?_push_of_some _ q) (Nat.le_refl _) ⟨hz, its, 0, hv, Heap.get?_push_size _ rfl⟩
theorem Inv.fresh (I : Inv X pins σ H s) : H s.heap.objs.size = none := I.hok.fresh (Nat.le_refl _)
theorem Inv.lstM (I : Inv X pins σ H s) (hH : H l = some (.lst xs)) : xs.length ≤ sizeLine ∧ ∃ (its : List Value) (n : Nat), Vals xs its ∧ xs.length = its.length ∧ s.heap.get? l = some { cls := .type "list", data := .seq its.toArray n } := by
  obtain ⟨z, its, n, r, e⟩ := I.hok l _ hH
  exact ⟨z, its, n, r, r.length, e⟩
theorem notLongL {n : Nat} (h : n ≤ sizeLine) : Builtin.List.listTooLong n = false := by
  unfold Builtin.List.listTooLong
  exact decide_eq_false (by omega)
end
section
variable {X : Cx}
noncomputable def rAppend : V → List V → Hp → VK → Prop := fun x vs H Q => ∃ l xs y, x = .ref l ∧ vs = [y] ∧ H l = some (.lst xs) ∧ xs.length < sizeLine ∧ Q .non (upd H l (.lst (xs ++ [y])))
theorem mt_append : MtM X "list.append" rAppend := by
  intro pins s σ H x vs v us Q I rx rv h
  obtain ⟨l, xs, y, rfl, rfl, hH, hz, q⟩ := h
  cases rx
  obtain ⟨u, rfl, ru⟩ := rv.one
  obtain ⟨z, its, n, r, hl, e⟩ := I.lstM hH
  refine call_meets F.slot_list_append ⟨_, e, rfl⟩ F.entry_list_append (F.args_list_append_2 _ _) (PySem.list_append l its.toArray n u (by rw [List.size_toArray]; omega)) ⟨e, ?_⟩
  refine ⟨.non, _, I.lset (its' := its ++ [u]) hH e (by simp) (r.append (.cons ru .nil)) ?_, rfl, q⟩
  rw [List.length_append, List.length_singleton]
  omega
theorem len_rep {α : Type} (xs : List α) (k : Nat) : (List.replicate k xs).flatten.length = k * xs.length := by
  induction k with
  | zero => simp
  | succ k ih => rw [List.replicate_succ, List.flatten_cons, List.length_append, ih, Nat.succ_mul, Nat.add_comm]
end
section
variable {prog : Program} {w : World} {A : Around} {E : Value → Shared → Prop} {s : Shared}
end
section
variable {X : Cx}
end
end L2
namespace Att
open PySem PySem.W PySem.Calls PyProof.Rows
theorem ints_of_wellAll {P : Params} {h : Heap} : ∀ (ns : List Int) (vs : List Value), WellAll P h vs (ns.map WData.int) → IntsAre vs ns := by
  intro ns
  induction ns with
  | nil =>
    intro vs w
    rw [List.map_nil] at w
    cases w
    exact .nil
  | cons n ns ih =>
    intro vs w
    rw [List.map_cons] at w
    cases w with
    | cons a b =>
      cases a
      exact .cons _ _ (ih _ b)
theorem script_of {l : OpenLaw} {n : Nat} (hn : l.most = some n) {P : Params} {h : Heap} {args : List WData} {vals : List Value}
    (hpre : l.row.toRowW.claim.pre args = true) (hwl : WellAll P h vals args) :
    ∃ a vs ns, vals = [Value.ref a] ∧ args = [WData.list (ns.map WData.int)] ∧ h.get? a = some { cls := .type "list", data := .seq vs.toArray } ∧ IntsAre vs ns ∧ ns.length ≤ n := by
  have hsh : WShape.hasAll [] args [.list .int] = true := (pre_splitW hpre).1
  have hc : l.pre.holds [] { args := args } = true := (pre_splitW hpre).2
  obtain ⟨d, r, rfl, h1, h2⟩ := hasAllW_cons hsh
  obtain rfl := hasAllW_nil h2
  obtain ⟨xs, rfl, h3⟩ := hasW_list h1
  obtain ⟨ns, rfl⟩ := items_int h3
  have hlen : ns.length ≤ n := by
    unfold OpenLaw.pre at hc
    have h4 : (WTm.not (.lt (.lit (.int (n : Int))) (.len (.arg 0)))).holds [] { args := [.list (ns.map .int)] } = true := by
      have h4 := (holds_andW hc).1
      rw [hn] at h4
      exact h4
    have h5 := condW_of h4 (w_not (w_lt w_lit (w_len_list (w_arg rfl))))
    rw [List.length_map] at h5
    refine Nat.le_of_not_lt fun q => ?_
    have q' : (n : Int) < ((ns.length : Nat) : Int) := by omega
    first
      | (rw [decide_eq_true q'] at h5; exact absurd h5 (by decide))
      | (simp at h5; omega)
  cases hwl with
  | cons w1 w2 =>
    cases w2
    cases w1 with
    | list ho hall => exact ⟨_, _, ns, rfl, rfl, ho, ints_of_wellAll ns _ hall, hlen⟩
theorem post_true (l : OpenLaw) (args : List WData) : l.row.toRowW.claim.post args (.bool true) args = true :=
  postW_of (r := l.row.toRowW) (X := (true == true))
    (show WShape.has [] (.bool true) .bool = true by first | rfl | decide | simp [WShape.has, WShape.arms, WShape.armsAll])
    (show (WTm.eq .res (.lit (.bool true))).value [] { args := args, res := some (.bool true), after := args } = some (.bool (true == true)) from w_eq_bool (w_res rfl) w_lit) rfl
theorem attach_call {l : OpenLaw} {n : Nat} {q : Program} {loose : List Str} {XP : (Str → Option Value) → Heap → Prop} {YP : World → Heap → Prop} {d : DefRec}
    (hn : l.most = some n) (hdf : d.params.defaults = [])
    (call : ∀ (w : World) (s₀ s₁ : Shared) (mg mb : Str → Option Value) (fa : Addr) (o : Obj) (pm cd doc : Value) (a : Addr) (vs : List Value) (ns : List Int),
      Ground q loose [] XP w s₀ mg mb s₁.heap → YP w s₁.heap →
      s₁.heap.get? fa = some o → o.data = .func (docDef d.name d.params d.body d.scope pm cd doc) → s₁.heap.CodeRec cd d.name → mg d.name = some (.ref fa) →
      s₁.heap.get? a = some { cls := .type "list", data := .seq vs.toArray } → IntsAre vs ns → ns.length ≤ n → s₁.gens = #[] →
      codeAny (model l.prog w) callerA (.call (.ref fa) ⟨[.ref a], []⟩) (fun r s' => r = .ok (.ret (.bool true)) ∧ OldK s₁.heap s'.heap ∧ s'.os = s₁.os ∧ AllBare s'.gens) s₁) :
    WalkO q loose XP YP l.row.toRowW d [] (fun f vs => PySem.call f vs) := by
  intro w s₀ s₁ mg mb G Y fa o pm cd doc dV kV ho hd hcd hD hmg hg args vals as hpre hlay hrd hwl hlo
  obtain rfl : dV = .none := Dflts.none hD hdf
  obtain rfl : kV = .none := Dflts.noKw hD
  obtain ⟨a, vs, ns, rfl, rfl, hobj, hints, hlen⟩ := script_of hn hpre hwl
  refine enter_call (codeAny_mono (call w s₀ s₁ mg mb fa o pm cd doc a vs ns G Y ho (fd_plain hd) hcd hmg hobj hints hlen hg) fun r s' hq => ?_)
  obtain ⟨rfl, h2, h3, h4⟩ := hq
  exact ⟨.inl ⟨.bool true, .bool true, [], rfl, fun _ => rfl, .bool true, post_true l _, fun _ => ⟨List.Pairwise.nil, fun _ hm => (nomatch hm)⟩⟩, h2, h3, h4⟩
section
variable {prog : Program} {w : World} {A : Around} {E : Value → Shared → Prop} {s : Shared} {K : Frag}
end
end Att
namespace L2
open PySem PySem.Spec PyProof.Rows
theorem vals_ints : ∀ {vs : List Value} {ns : List Int}, IntsAre vs ns → Vals (ns.map V.int) vs
  | _, _, .nil => .nil
  | _, _, .cons n t h => .cons ⟨t, rfl⟩ (vals_ints h)
noncomputable def Only (H : Hp) : Prop := ∀ b, H b = none ∨ ∃ o xs, H b = some (.frz o (.lst xs))
theorem law_call {P : Program} {w : World} {K : PySem.W.Frag} {mg mb : Str → Option Value} {CX : CXT} {k : Nat} {fa a : Addr} {fd : FuncData} {x : Str} {sp : Sp} {s₁ : Shared} {vs : List Value} {ns : List Int}
    (KX : K.In s₁.heap) (hns : s₁.heap.Ns mainGlobals mg) (hb : s₁.heap.Ns builtinsNs mb) (hbb : ∀ x : Str, x ≠ "__name__" → mb x = bootBuiltins x) (hlim : s₁.heap.NoLimit) (hg : s₁.gens = #[])
    (ha : s₁.heap.get? a = some { cls := .type "list", data := .seq vs.toArray }) (hi : IntsAre vs ns) (hl : ns.length ≤ sizeLine) (hr : Room k callerA)
    (F : ∀ base : Heap, K.In base → base.Ns mainGlobals mg → FnOk P w K mg base CX k fa fd [x] sp) (hbind : ∀ (s : Shared) (u : Value), BindsTo s fd ⟨[u], []⟩ [(x, u)])
    (hsp : ∀ H : Hp, Only H → SqL K H a (ns.map V.int) → sp [.ref a] H (fun v _ => v = .bl true) fun _ _ _ => False)
    (hCX : ∀ H e s', CX [] H s₁ (fun _ _ _ => False) e s' → False) :
    codeAny (model P w) callerA (.call (.ref fa) ⟨[.ref a], []⟩) (fun r s' => r = .ok (.ret (.bool true)) ∧ OldK s₁.heap s'.heap ∧ s'.os = s₁.os ∧ AllBare s'.gens) s₁ := by
  have rv := vals_ints hi
  have lenV := hi.length
  have core : ∀ H : Hp, Only H → SqL K H a (ns.map V.int) → HOk P w H s₁.heap → (∀ b, H b ≠ none → b = a) → (H a ≠ none → K.lookup a = none) →
      codeAny (model P w) callerA (.call (.ref fa) ⟨[.ref a], []⟩) (fun r s' => r = .ok (.ret (.bool true)) ∧ OldK s₁.heap s'.heap ∧ s'.os = s₁.os ∧ AllBare s'.gens) s₁ := by
    intro H hO hS hok hA hK
    have base_of : ∀ {b : Addr} {o : Obj}, s₁.heap.get? b = some o → H b = none → (hidT s₁.heap H).get? b = some o := fun e n => hidT_get e n
    have noA : ∀ {b : Addr} {o : Obj} {es : Array DictEntry} {ep : Nat}, s₁.heap.get? b = some o → o.data = .dict es ep → H b = none := fun {b o es ep} e d => by
      cases q : H b with
      | none => rfl
      | some u =>
        have e' : b = a := hA b (by rw [q]; simp)
        subst e'
        rw [ha] at e; cases e
        have d' : Data.seq vs.toArray _ = Data.dict es ep := d
        cases d'
    have nsK : ∀ {b : Addr} {m : Str → Option Value}, s₁.heap.Ns b m → (hidT s₁.heap H).Ns b m := fun {b m} ⟨o, es, ep, e, d, r⟩ => ⟨o, es, ep, base_of e (noA e d), d, r⟩
    have hKb : K.In (hidT s₁.heap H) := fun b o e => base_of (KX b o e) (by
      cases q : H b with
      | none => rfl
      | some u =>
        have e' : b = a := hA b (by rw [q]; simp)
        subst e'
        rw [hK (by rw [q]; simp)] at e; cases e)
    have hM : Mod K mg (hidT s₁.heap H) := ⟨hKb, nsK hns, ⟨mb, nsK hb, hbb⟩, let ⟨mc, h1, h2⟩ := hlim; ⟨mc, nsK h1, h2⟩⟩
    have e0 : Env0 P w K mg (hidT s₁.heap H) callerA [] s₁ H := ⟨rfl, hM, fun b o e => of_hidT e, Nat.le_of_eq (hidT_size _ _), trivial, fun b hb => absurd (show b ∈ ([] : List Addr) from hb) (by simp), hok, .of_eq hg⟩
    refine codeAny_mono ((F _ hKb (nsK hns)).run callerA [] s₁ H ⟨[.ref a], []⟩ [.ref a] [.ref a] _ _ hr e0 (hbind s₁ (.ref a)) (.cons rfl .nil) (hsp H hO hS)) fun r s' h => ?_
    cases r with
    | error e => exact (hCX H e s' h).elim
    | ok fl =>
      cases fl with
      | next => exact False.elim h
      | brk => exact False.elim h
      | cont => exact False.elim h
      | ret u =>
        obtain ⟨v, H', os, bare, un, hok', r', q⟩ := h
        have q' : v = .bl true := q
        subst q'
        obtain rfl : u = Value.bool true := r'
        refine ⟨rfl, OldK.of_keep fun b o e => ?_, os, bare⟩
        cases q : H b with
        | none => exact un.keep b o e q (by intro z; exact absurd (show b ∈ ([] : List Addr) from z) (by simp)) (by simp)
        | some u =>
          rcases hO b with z | ⟨ob, xs, z⟩
          · rw [q] at z; cases z
          · have z2 := un.frzs b ob _ z
            obtain ⟨e1, _⟩ := hok b _ z
            obtain ⟨e2, _⟩ := hok' b _ z2
            rw [e] at e1; cases e1
            exact e2
  cases hk : K.lookup a with
  | some o =>
    have e := KX a o hk
    rw [ha] at e
    cases e
    refine core (fun _ => none) (fun _ => .inl rfl) (.inr ⟨_, vs.toArray, _, hk, rfl, rfl, rfl, by rw [List.size_toArray, lenV]; exact hl, by simpa using rv⟩) (fun b u z => by have z' : (none : Option HO) = some u := z; cases z') (fun b z => absurd rfl z) fun z => absurd rfl z
  | none =>
    refine core (fun b => if b = a then some (.frz { cls := .type "list", data := .seq vs.toArray } (.lst (ns.map V.int))) else none) (fun b => ?_) (.inl (.inr ⟨{ cls := .type "list", data := .seq vs.toArray }, if_pos rfl⟩)) (fun b u z => ?_) (fun b z => ?_) fun _ => hk
    · by_cases hb : b = a
      · exact .inr ⟨_, _, if_pos hb⟩
      · exact .inl (if_neg hb)
    · by_cases hb : b = a
      · have z' := (if_pos hb).symm.trans z
        cases z'
        subst hb
        exact ⟨ha, by rw [List.length_map]; exact hl, vs, _, rv, ha⟩
      · have z' := (if_neg hb).symm.trans z
        cases z'
    · by_cases hb : b = a
      · exact hb
      · exact absurd (if_neg hb) z
end L2
namespace L2
open PySem PySem.Spec PyProof.Rows
theorem walk_of {l : PySem.W.OpenLaw} {n k : Nat} {q : Program} {loose : List Str} {XP : (Str → Option Value) → Heap → Prop} {YP : World → Heap → Prop} {d : DefRec} {K : Params → PySem.W.Frag} {CX : World → CXT} {sp : World → Sp} {x : Str}
    (hn : l.most = some n) (hn2 : n ≤ sizeLine) (hdf : d.params.defaults = []) (hr : Room k callerA)
    (hY : ∀ (w : World) (h : Heap), YP w h → (K w.params).In h)
    (F : ∀ (w : World) (mg : Str → Option Value) (fa : Addr) (h : Heap), (K w.params).In h → h.Ns mainGlobals mg → mg d.name = some (.ref fa) →
      ∃ fd : FuncData, (∀ (s : Shared) (u : Value), BindsTo s fd ⟨[u], []⟩ [(x, u)]) ∧
        ∀ base : Heap, (K w.params).In base → base.Ns mainGlobals mg → FnOk l.prog w (K w.params) mg base (CX w) k fa fd [x] (sp w))
    (hsp : ∀ (w : World) (H : Hp) (a : Addr) (ns : List Int), ns.length ≤ n → Only H → SqL (K w.params) H a (ns.map V.int) → sp w [.ref a] H (fun v _ => v = .bl true) fun _ _ _ => False)
    (hCX : ∀ (w : World) (H : Hp) (s : Shared) (e : Value) (s' : Shared), CX w [] H s (fun _ _ _ => False) e s' → False) :
    PySem.W.WalkO q loose XP YP l.row.toRowW d [] (fun f vs => PySem.call f vs) := by
  refine Att.attach_call hn hdf fun w s₀ s₁ mg mb fa o pm cd doc a vs ns G Y ho hd hcd hmg hobj hints hlen hg => ?_
  have KX := hY w _ Y
  obtain ⟨fd, hb, hF⟩ := F w mg fa _ KX G.T.g hmg
  exact law_call KX G.T.g G.T.b G.T.builtins G.T.nolimit hg hobj hints (Nat.le_trans hlen hn2) hr hF hb (fun H hO hS => hsp w H a ns hlen hO hS) fun H e s' => hCX w H s₁ e s'
end L2
namespace L2
open PySem PySem.Spec PyProof.Rows
noncomputable def defArgs (s : Stmt) : Arguments := match s with
  | .FunctionDef _ a _ _ _ _ _ _ _ _ => a
  | _ => { posonlyargs := [], args := [], vararg := none, kwonlyargs := [], kw_defaults := [], kwarg := none, defaults := [] }
noncomputable def defBody (s : Stmt) : List Stmt := match s with
  | .FunctionDef _ _ b _ _ _ _ _ _ _ => b
  | _ => []
noncomputable def defScope (s : Stmt) : Scope := match s with
  | .FunctionDef _ _ _ _ _ _ sc _ _ _ => sc
  | _ => { kind := .function, names := [], isGenerator := false, isCoroutine := false }
noncomputable abbrev CX0 : CXT := fun _ _ _ _ _ _ => False
noncomputable abbrev E0 : XK := fun _ _ _ => False
theorem pass0 {X : Cx} : Passes CX0 X E0 := fun _ _ _ _ _ _ _ h => h.elim
structure Fun (K : PySem.W.Frag) (x qual : Str) (st : Stmt) (f : Addr) (fd : FuncData) : Prop where
  ex : ∃ (oc : Value) (od : Option Addr) (kV doc pm : Value) (an : Option Addr) (cdv ct : Value) (osl : Array (Option Value)),
    fd = PySem.W.fnOf x qual (defArgs st) (defBody st) (defScope st) .none kV doc pm an cdv ct ∧ K.lookup f = some ⟨oc, od, .func fd, osl⟩ ∧ PySem.W.codeIn K cdv qual = true
  kp : PySem.W.keepIn K (.ref f) = true
section
variable {P : Program} {w : World} {K : PySem.W.Frag} {mg : Str → Option Value} {base : Heap}
theorem Fun.ok {x qual : Str} {st : Stmt} {f : Addr} {fd : FuncData} {N ps : List Str} {k : Nat} {sp : Sp} (F : Fun K x qual st f fd) (S : FnScope N ps (defScope st)) (len : ∀ vs H Q E, sp vs H Q E → vs.length = ps.length)
    (hbody : ∀ (cdv : Value) (A : Around) (outer : List Env) (s : Shared) (H : Hp) (vs : List V) (Q : VK) (E : XK), Room k (A.deeper (envOfC qual (defScope st) s.heap.objs.size f cdv)) → sp vs H Q E →
      ∃ t, PSs (cxOf CX0 P w K mg base N qual (defScope st) f cdv A outer s H E).nox (defBody st) t ∧ t { nx := fun _ H' => Q .non H', rt := Q } (start N vs) H) : FnOk P w K mg base CX0 (k + 1) f fd ps sp := by
  obtain ⟨oc, od, kV, doc, pm, an, cdv, ct, osl, rfl, lk, hcd⟩ := F.ex
  refine fn_of lk hcd S len fun A outer s H vs Q E hr hsp => ?_
  obtain ⟨t, h, q⟩ := hbody cdv A outer s H vs Q E hr hsp
  exact ⟨t, h.nox, q⟩
theorem Fun.binds {x qual : Str} {st : Stmt} {f : Addr} {fd : FuncData} {ps : List Str} (F : Fun K x qual st f fd)
    (h : ∀ (kV doc pm : Value) (an : Option Addr) (cdv ct : Value) (us : List Value), us.length = ps.length → bindArgs (PySem.W.fnOf x qual (defArgs st) (defBody st) (defScope st) .none kV doc pm an cdv ct) ⟨us, []⟩ = pure (ps.zip us)) : Binds K fd ps [] := by
  obtain ⟨oc, od, kV, doc, pm, an, cdv, ct, osl, rfl, lk, hcd⟩ := F.ex
  exact .all (h kV doc pm an cdv ct)
theorem fun_mk {x qual : Str} {st : Stmt} {f : Addr} {oc : Value} {od an : Option Addr} {osl : Array (Option Value)} {kV doc pm cdv ct : Value} (l : K.lookup f = some ⟨oc, od, .func (PySem.W.fnOf x qual (defArgs st) (defBody st) (defScope st) .none kV doc pm an cdv ct), osl⟩)
    (c : PySem.W.codeIn K cdv qual = true) (k : PySem.W.keepIn K (.ref f) = true) : Fun K x qual st f (PySem.W.fnOf x qual (defArgs st) (defBody st) (defScope st) .none kV doc pm an cdv ct) := ⟨⟨oc, od, kV, doc, pm, an, cdv, ct, osl, rfl, l, c⟩, k⟩
end
section
variable {X : Cx}
end
theorem iteF {A B : Prop} (h : B) : if false = true then A else B := by
  rw [if_neg Bool.false_ne_true]
  exact h
theorem iteT {A B : Prop} (h : A) : if true = true then A else B := by
  rw [if_pos rfl]
  exact h
noncomputable def Same (H H' : Hp) : Prop := ∀ b o, H b = some o → H' b = some o
theorem Same.refl (H : Hp) : Same H H := fun _ _ h => h
theorem Same.trans {H H1 H2 : Hp} (a : Same H H1) (b : Same H1 H2) : Same H H2 := fun c o h => b c o (a c o h)
theorem Same.free {H H' : Hp} (e : Same H H') {l : Addr} (h : H' l = Option.none) : H l = Option.none := by
  cases q : H l with
  | none => rfl
  | some o =>
    rw [e l o q] at h
    cases h
theorem Same.seq {K : PySem.W.Frag} {H H' : Hp} {a : Addr} {xs : List V} (e : Same H H') (h : SqL K H a xs) : SqL K H' a xs := by
  rcases h with (h | ⟨o, h⟩) | h
  · exact .inl (.inl (e _ _ h))
  · exact .inl (.inr ⟨o, e _ _ h⟩)
  · exact .inr h
end L2
set_option maxHeartbeats 4000000
namespace L2
open PySem PySem.Spec PyProof.Rows
noncomputable def Cx.comp (X : Cx) (scope : Scope) (tn : List Str) (ix : List Nat) (cl : List (Str × Addr)) (C : Addr) (s₂ : Shared) (H₂ : Hp) (fp : List Addr) : Cx where
  prog := X.prog
  w := X.w
  K := X.K
  mg := X.mg
  base := X.base
  A := X.A
  N := tn ++ ix.map fun i => X.N.getD i Str.empty
  s₀ := s₂
  H₀ := H₂
  env := compEnvC scope cl C X.env
  outer := X.stack
  stack := X.stack
  ex := fp
  fn := fun x => scope.names.lookup x == some .cell
  calm := X.calm
  pn := []
  xe := fun _ _ => False
noncomputable def blockSt (tn : List Str) (ix : List Nat) (σ : St) : St := List.replicate tn.length none ++ ix.map fun i => (σ[i]?).join
noncomputable def PIfs (X : Cx) (ifs : List Expr) (t : TT) : Prop :=
  ∀ (pins : List (Addr × Obj)) (s : Shared) (σ : St) (H : Hp) (Q : Bool → Hp → Prop), Inv X pins σ H s → t σ H Q →
    wpAny (model X.prog X.w) X.A (forIn ifs true fun c r => if r = true then do let ok ← isTrue c X.env (eval c X.env); pure (ForInStep.yield ok) else pure (ForInStep.yield r)) (TP X pins σ Q) X.xe s
noncomputable def tYes : TT := fun _ H Q => Q true H
theorem pifs_nil {X : Cx} : PIfs X [] tYes := fun _ _ _ H _ I h => wpAny_tests_nil ⟨H, I, h⟩
noncomputable def CompGo (tn : List Str) (ix : List Nat) (g : TG) (tt : TT) (te : TE) (σ : St) (Q : VK) (J : It) (H1 : Hp) : Prop := ∀ D, H1 D = none →
  ∃ W : Nat → Nat → St → List V → Hp → Prop, (∃ m, W 0 m (blockSt tn ix σ) [] (upd H1 D (.lst []))) ∧ ∀ i m σb acc H2, W i m σb acc H2 → H2 D = some (.lst acc) ∧
    ((J.stop i H2 ∧ Q (.ref D) H2) ∨ (J.go i H2 ∧ acc.length < sizeLine ∧ ∀ x H3, J.yld i H2 x H3 → g x σb H3 fun σ4 H4 => tt σ4 H4 fun b H5 =>
      if b = true then te σ4 H5 fun v H6 => H6 D = some (.lst acc) ∧ ∃ m', m' < m ∧ W (i + 1) m' σ4 (acc ++ [v]) (upd H6 D (.lst (acc ++ [v]))) else ∃ m', m' < m ∧ W (i + 1) m' σ4 acc H5))
noncomputable def tComp (tn : List Str) (ix : List Nat) (wi : TI) (g : TG) (tt : TT) (te : TE) : TE := fun σ H Q => wi σ H (CompGo tn ix g tt te σ Q)
theorem closureFor_ok {scope : Scope} {env : Env} (h : ∀ x ∈ scope.names, x.2 = .free → ∃ c, env.cells.lookup x.1 = some c) :
    ∃ cl, closureFor scope env = pure cl ∧ (∀ x c, cl.lookup x = some c → env.cells.lookup x = some c) ∧ ∀ x ∈ scope.names, x.2 = .free → ∃ c, cl.lookup x.1 = some c := by
  have all : ∀ (l : List (Str × NameKind)) (acc : List (Str × Addr)), (∀ x ∈ l, x.2 = .free → ∃ c, env.cells.lookup x.1 = some c) → (∀ x c, acc.lookup x = some c → env.cells.lookup x = some c) →
      ∃ cl, (forIn l acc fun (x : Str × NameKind) (r : List (Str × Addr)) => (if (x.2 == NameKind.free) = true then (do let a ← cellOf env x.1; pure (ForInStep.yield ((x.1, a) :: r))) else pure (ForInStep.yield r) : Sem (ForInStep (List (Str × Addr))))) = pure cl ∧
        (∀ x c, cl.lookup x = some c → env.cells.lookup x = some c) ∧ (∀ x ∈ l, x.2 = .free → ∃ c, cl.lookup x.1 = some c) ∧ ∀ x, (∃ c, acc.lookup x = some c) → ∃ c, cl.lookup x = some c := by
    intro l
    induction l with
    | nil => intro acc _ ha; exact ⟨acc, rfl, ha, fun x hx => absurd hx (by simp), fun x hx => hx⟩
    | cons y r ih =>
      intro acc hl ha
      obtain ⟨n, k⟩ := y
      by_cases hk : k = .free
      · subst hk
        obtain ⟨c, hc⟩ := hl (n, .free) (by simp) rfl
        have ha' : ∀ x c', List.lookup x ((n, c) :: acc) = some c' → env.cells.lookup x = some c' := fun x c' e => by
          rw [List.lookup_cons] at e
          cases hx : x == n with
          | true =>
            rw [hx] at e
            have e1 : x = n := beq_iff_eq.mp hx
            cases e
            rw [e1]
            exact hc
          | false => rw [hx] at e; exact ha x c' e
        obtain ⟨cl, e1, e2, e3, e4⟩ := ih ((n, c) :: acc) (fun x hx => hl x (List.mem_cons_of_mem _ hx)) ha'
        have ec : cellOf env n = pure c := by unfold cellOf; rw [hc]
        refine ⟨cl, ?_, e2, fun x hx hf => ?_, fun x ⟨c', hc'⟩ => ?_⟩
        · rw [List.forIn_cons]
          simp only [ec, beq_self_eq_true, if_true, pure_bind]
          exact e1
        · rcases List.mem_cons.mp hx with rfl | hx
          · exact e4 n ⟨c, by simp⟩
          · exact e3 x hx hf
        · refine e4 x ?_
          rw [List.lookup_cons]
          cases x == n with
          | true => exact ⟨c, rfl⟩
          | false => exact ⟨c', hc'⟩
      · have hb : (k == NameKind.free) = false := by simpa using hk
        obtain ⟨cl, e1, e2, e3, e4⟩ := ih acc (fun x hx => hl x (List.mem_cons_of_mem _ hx)) ha
        refine ⟨cl, ?_, e2, fun x hx hf => ?_, e4⟩
        · rw [List.forIn_cons]
          simp only [hb, Bool.false_eq_true, if_false, pure_bind]
          exact e1
        · rcases List.mem_cons.mp hx with rfl | hx
          · exact absurd hf hk
          · exact e3 x hx hf
  obtain ⟨cl, e1, e2, e3, _⟩ := all scope.names [] h (fun x c e => by simp at e)
  refine ⟨cl, ?_, e2, e3⟩
  unfold closureFor
  refine Eq.trans (b := forIn scope.names ([] : List (Str × Addr)) _ >>= pure) rfl ?_
  have e0 := congrArg (· >>= (pure : List (Str × Addr) → Sem (List (Str × Addr)))) e1
  first
    | (simp only [pure_bind] at e0; exact e0)
    | exact e0.trans (pure_bind _ _)
theorem lookup_relabel_free {env : Env} : ∀ {names : List (Str × NameKind)} {x : Str}, names.lookup x = some .free →
    (names.map fun (n, k) => if (k == NameKind.free && env.scope.kind == .function && env.kindOf n == some .cell) then (n, NameKind.cell) else (n, k)).lookup x = some .cell ∨
    (names.map fun (n, k) => if (k == NameKind.free && env.scope.kind == .function && env.kindOf n == some .cell) then (n, NameKind.cell) else (n, k)).lookup x = some .free
  | [], _, h => by simp at h
  | (n, k) :: r, x, h => by
    have ih := @lookup_relabel_free env r x
    show List.lookup x ((if (k == NameKind.free && env.scope.kind == .function && env.kindOf n == some .cell) = true then (n, NameKind.cell) else (n, k)) :: _) = _ ∨ List.lookup x ((if (k == NameKind.free && env.scope.kind == .function && env.kindOf n == some .cell) = true then (n, NameKind.cell) else (n, k)) :: _) = _
    cases hx : x == n with
    | true =>
      simp only [List.lookup_cons, hx] at h
      cases h
      by_cases hc : (NameKind.free == NameKind.free && env.scope.kind == .function && env.kindOf n == some .cell) = true
      · rw [if_pos hc]; exact .inl (by simp [List.lookup_cons, hx])
      · rw [if_neg hc]; exact .inr (by simp [List.lookup_cons, hx])
    | false =>
      simp only [List.lookup_cons, hx] at h
      by_cases hc : (k == NameKind.free && env.scope.kind == .function && env.kindOf n == some .cell) = true
      · rw [if_pos hc]; simp only [List.lookup_cons, hx]; exact ih h
      · rw [if_neg hc]; simp only [List.lookup_cons, hx]; exact ih h
noncomputable def compOk (X : Cx) (scope : Scope) (ix : List Nat) : Bool :=
  scope.kind == .function && scope.names.all (fun y => scope.names.lookup y.1 == some y.2 && (y.2 != .free || (X.env.scope.names.lookup y.1 == some .cell || X.env.scope.names.lookup y.1 == some .free)) && (y.2 != .local || scope.names.lookup y.1 == some .local)) &&
  ix.all fun i => match X.N[i]? with
    | some x => scope.names.lookup x == some .free
    | none => false
structure CompOk (X : Cx) (scope : Scope) (ix : List Nat) : Prop where
  kind : scope.kind = .function
  one : ∀ y ∈ scope.names, scope.names.lookup y.1 = some y.2
  free : ∀ y ∈ scope.names, y.2 = .free → X.env.scope.names.lookup y.1 = some .cell ∨ X.env.scope.names.lookup y.1 = some .free
  loc : ∀ y ∈ scope.names, y.2 = .local → scope.names.lookup y.1 = some .local
  ix : ∀ i ∈ ix, ∃ x, X.N[i]? = some x ∧ scope.names.lookup x = some .free
theorem compOk.of {X : Cx} {scope : Scope} {ix : List Nat} (h : compOk X scope ix = true) : CompOk X scope ix := by
  unfold compOk at h
  rw [Bool.and_eq_true, Bool.and_eq_true] at h
  obtain ⟨⟨h1, h2⟩, h3⟩ := h
  rw [List.all_eq_true] at h2 h3
  have g : ∀ y ∈ scope.names, (scope.names.lookup y.1 = some y.2 ∧ (y.2 = .free → X.env.scope.names.lookup y.1 = some .cell ∨ X.env.scope.names.lookup y.1 = some .free)) ∧ (y.2 = .local → scope.names.lookup y.1 = some .local) := fun y hy => by
    have q := h2 y hy
    rw [Bool.and_eq_true, Bool.and_eq_true, Bool.or_eq_true, Bool.or_eq_true, Bool.or_eq_true] at q
    obtain ⟨⟨q1, q2⟩, q3⟩ := q
    refine ⟨⟨by simpa using q1, fun e => ?_⟩, fun e => ?_⟩
    · rcases q2 with q2 | q2 | q2
      · exact absurd e (by simpa using q2)
      · exact .inl (by simpa using q2)
      · exact .inr (by simpa using q2)
    · rcases q3 with q3 | q3
      · exact absurd e (by simpa using q3)
      · simpa using q3
  refine ⟨by simpa using h1, fun y hy => (g y hy).1.1, fun y hy => (g y hy).1.2, fun y hy => (g y hy).2, fun i hi => ?_⟩
  have q := h3 i hi
  cases e : X.N[i]? with
  | none => rw [e] at q; cases q
  | some x => rw [e] at q; exact ⟨x, rfl, by simpa using q⟩
section
variable {X : Cx} {pins : List (Addr × Obj)} {σ : St} {H : Hp} {s : Shared} {scope : Scope} {tn : List Str} {ix : List Nat} {cl : List (Str × Addr)} {C D : Addr} {fp : List Addr} {h₁ : Heap} {tk : Nat}
theorem Inv.block (S : CompOk X scope ix) (I : Inv X pins σ H s) (hcl0 : ∀ x c, cl.lookup x = some c → (X.env.cells.lookup x = some c ∧ scope.names.lookup x ≠ some .cell) ∨ (scope.names.lookup x = some .cell ∧ s.heap.objs.size ≤ c ∧ c ≠ D ∧ h₁.IsCell c none))
    (hinj : ∀ x y c, cl.lookup x = some c → cl.lookup y = some c → scope.names.lookup x = some .cell → scope.names.lookup y = some .cell → x = y) (hcl3 : ∀ x, scope.names.lookup x = some .cell → ∃ c, cl.lookup x = some c) (hcl2 : ∀ x ∈ scope.names, x.2 = .free → ∃ c, cl.lookup x.1 = some c)
    (hfp : ∀ b ∈ fp, FpOk X pins H b) (hfo : ∀ b ∈ fp, ∃ o, s.heap.get? b = some o) (old : ∀ b o, s.heap.get? b = some o → h₁.get? b = some o) (hD : s.heap.objs.size ≤ D) (hC : s.heap.objs.size ≤ C) (hDC : D ≠ C)
    (hd : h₁.get? D = some { cls := .type "list", data := .seq ([] : List Value).toArray }) (hn : ∃ m, h₁.Ns C m) :
    Inv (X.comp scope tn ix cl C s H fp) [] (blockSt tn ix σ) (upd H D (.lst [])) { s with heap := h₁, toks := tk } := by
  have frD : H D = none := I.hok.fresh hD
  have frC : H C = none := I.hok.fresh hC
  have lt_of : ∀ x c, X.env.cells.lookup x = some c → c < s.heap.objs.size := fun x c e => by
    obtain ⟨v, q⟩ := I.cell x c e
    exact q.lt
  have hcl : ∀ x c, scope.names.lookup x = some .free → cl.lookup x = some c → X.env.cells.lookup x = some c := fun x c hx e => by
    rcases hcl0 x c e with z | z
    · exact z.1
    · rw [hx] at z; cases z.1
  have ok : (X.comp scope tn ix cl C s H fp).Ok := by
    refine ⟨I.ok.mod, S.kind, I.ok.glob, I.ok.blt, hC, fun x y c h1 h2 => ?_, fun x hx => ?_, fun x c h e => ?_, I.ok.hd, I.ok.frames, .inl rfl, fun b hb => ⟨?_, fun x c e => ?_⟩, I.bs,
      Nat.le_trans I.ok.bsz I.sz, fun b o e hb => ?_, fun b hb hf => ?_, I.stack, I.stkFree⟩
    · rcases hcl0 x c h1 with z1 | z1 <;> rcases hcl0 y c h2 with z2 | z2
      · exact I.ok.inj x y c z1.1 z2.1
      · exact absurd (lt_of x c z1.1) (Nat.not_lt.mpr z2.2.1)
      · exact absurd (lt_of y c z2.1) (Nat.not_lt.mpr z1.2.1)
      · exact hinj x y c h1 h2 z1.1 z2.1
    · -- a cell or a free name of the block has its cell
      have hx' : (scope.names.map fun (n, k) => if (k == NameKind.free && X.env.scope.kind == .function && X.env.kindOf n == some .cell) then (n, NameKind.cell) else (n, k)).lookup x = some .cell ∨
          (scope.names.map fun (n, k) => if (k == NameKind.free && X.env.scope.kind == .function && X.env.kindOf n == some .cell) then (n, NameKind.cell) else (n, k)).lookup x = some .free := hx
      have hm : ∃ k, (x, k) ∈ (scope.names.map fun (n, k) => if (k == NameKind.free && X.env.scope.kind == .function && X.env.kindOf n == some .cell) then (n, NameKind.cell) else (n, k)) ∧ (k = .cell ∨ k = .free) := by
        rcases hx' with h | h
        · exact ⟨_, PySem.mem_of_lookup h, .inl rfl⟩
        · exact ⟨_, PySem.mem_of_lookup h, .inr rfl⟩
      obtain ⟨k, hm, hk⟩ := hm
      obtain ⟨⟨n, k'⟩, hy, e⟩ := List.mem_map.mp hm
      dsimp only at e
      by_cases hc : (k' == NameKind.free && X.env.scope.kind == .function && X.env.kindOf n == some .cell) = true
      · rw [if_pos hc] at e
        cases e
        rw [Bool.and_eq_true, Bool.and_eq_true] at hc
        exact hcl2 _ hy (by simpa using hc.1.1)
      · rw [if_neg hc] at e
        cases e
        rcases hk with hk | hk
        · exact hcl3 _ (by rw [← hk]; exact S.one _ hy)
        · exact hcl2 _ hy hk
    · rcases hcl0 x c e with z | z
      · have h : (scope.names.lookup x == some NameKind.cell) = true := h
        exact absurd (by simpa using h) z.2
      · exact z.2.1
    · intro z
      obtain ⟨o, e⟩ := hfo b hb
      exact absurd (Nat.lt_of_lt_of_le (Heap.lt_size e) (by show s.heap.objs.size ≤ b; rw [z]; exact hC)) (Nat.lt_irrefl _)
    · rcases hcl0 x c e with z | z
      · exact (hfp b hb).2.2.2.2.1 x c z.1
      · intro y
        obtain ⟨o, e'⟩ := hfo b hb
        have q := Heap.lt_size e'
        rw [← y] at q
        exact absurd q (Nat.not_lt.mpr z.2.1)
    · rcases (hfp b hb).2.2.2.1 with z | z
      · exact I.ok.noex b o e z
      · exact absurd (Nat.lt_of_lt_of_le (Heap.lt_size (I.ok.bs b o e).1) z) (Nat.lt_irrefl _)
    · rcases List.mem_cons.mp (I.stkSub b hf) with z | z
      · exact (hfp b hb).2.1 z
      · exact (hfp b hb).2.2.1 z
  refine ⟨ok, rfl, I.bare, Un.laid old hD frD, ?_, fun x c e => ?_, ?_, fun x c e => ?_, fun p hp => absurd (show p ∈ ([] : List (Addr × Obj)) from hp) (by simp), ?_, ?_⟩
  · obtain ⟨m, hn⟩ := hn
    refine ⟨m, hn, fun i x v e1 e2 e3 => ?_⟩
    have hi : tn.length ≤ i := by
      rcases Nat.lt_or_ge i tn.length with hi | hi
      · have e2' : (List.replicate tn.length none ++ ix.map fun i => (σ[i]?).join)[i]? = some (some v) := e2
        rw [List.getElem?_append_left (by simpa using hi), List.getElem?_replicate, if_pos hi] at e2'
        cases e2'
      · exact hi
    have e1' : (tn ++ ix.map fun i => X.N.getD i Str.empty)[i]? = some x := e1
    have e2' : (List.replicate tn.length none ++ ix.map fun i => (σ[i]?).join)[i]? = some (some v) := e2
    rw [List.getElem?_append_right hi, List.getElem?_map] at e1'
    rw [List.getElem?_append_right (by simpa using hi), List.getElem?_map, List.length_replicate] at e2'
    cases ek : ix[i - tn.length]? with
    | none => rw [ek] at e1'; cases e1'
    | some k =>
      rw [ek] at e1' e2'
      have e1'' : X.N.getD k Str.empty = x := Option.some.inj e1'
      have e2'' : (σ[k]?).join = some v := Option.some.inj e2'
      have e2s : σ[k]? = some (some v) := by
        cases q : σ[k]? with
        | none => rw [q] at e2''; cases e2''
        | some o => rw [q] at e2''; have : o = some v := e2''; rw [this]
      obtain ⟨x', hx', hfx⟩ := S.ix k (List.mem_of_getElem? ek)
      have exx : x' = x := by
        rw [← e1'', List.getD_eq_getElem?_getD, hx']
        rfl
      subst exx
      have hfr := S.free _ (PySem.mem_of_lookup hfx) rfl
      obtain ⟨m0, hn0, hl0⟩ := I.loc
      obtain ⟨u, ru, lk⟩ := hl0 k x' v hx' e2s (.inr hfr)
      refine ⟨u, ru, ?_⟩
      rcases lk with ⟨kl, _⟩ | ⟨kc, c, ec, ic⟩
      · exfalso
        have kl' : X.env.scope.names.lookup x' = some .local := kl
        rcases hfr with z | z <;> rw [z] at kl' <;> cases kl'
      · obtain ⟨c', ec'⟩ := hcl2 _ (PySem.mem_of_lookup hfx) rfl
        have ecc : c' = c := by
          have q := hcl x' c' hfx ec'
          rw [ec] at q
          exact (Option.some.inj q).symm
        subst ecc
        refine .inr ⟨lookup_relabel_free hfx, c', ec', ?_⟩
        obtain ⟨o, ho, hdat⟩ := ic
        exact ⟨o, old _ _ ho, hdat⟩
  · rcases hcl0 x c e with z | z
    · obtain ⟨v, o, ho, hdat⟩ := I.cell x c z.1
      exact ⟨v, o, old _ _ ho, hdat⟩
    · exact ⟨_, z.2.2.2⟩
  · show upd H D (.lst []) C = none
    rw [upd_ne (Ne.symm hDC)]
    exact frC
  · show upd H D (.lst []) c = none
    rcases hcl0 x c e with z | z
    · rw [upd_ne (Nat.ne_of_lt (Nat.lt_of_lt_of_le (lt_of x c z.1) hD))]
      exact I.freeC x c z.1
    · rw [upd_ne z.2.2.1]
      exact I.hok.fresh z.2.1
  · exact I.hok.laid old hD ⟨Nat.zero_le _, [], 0, .nil, hd⟩
  · show (blockSt tn ix σ).length = (tn ++ ix.map fun i => X.N.getD i Str.empty).length
    unfold blockSt
    rw [List.length_append, List.length_append, List.length_replicate, List.length_map, List.length_map]
end
end L2
namespace L2
open PySem PySem.Spec PyProof.Rows
theorem compLoop_any {prog : Program} {w : World} {A : Around} {R : Result → Shared → Prop} {s : Shared} {elt target iter : Expr} {ifs : List Expr} {scope : Scope} {pos : Pos} {it acc : Value} {env : Env} (I : Nat → Shared → Prop)
    (turn : ∀ n s, I n s → wpAny (model prog w) A (pyNext it) (fun r s₁ => match r with
      | none => R (.ok .next) s₁
      | some v => wpAny (model prog w) A (letOwnedTupleGo target it v) (fun _ s₁' => wpAny (model prog w) A (assign target env v) (fun _ s₂ =>
          wpAny (model prog w) A (forIn ifs true fun c r => if r = true then do let ok ← isTrue c env (eval c env); pure (ForInStep.yield ok) else pure (ForInStep.yield r)) (fun ok s₃ =>
            if ok = true then wpAny (model prog w) A (eval elt env) (fun x s₄ =>
              wpAny (model prog w) A (call (.builtin "list.append") [acc, x]) (fun _ s₅ => ∃ m, m < n ∧ I m s₅) (fun _ _ => False) s₄) (fun _ _ => False) s₃
            else ∃ m, m < n ∧ I m s₃) (fun _ _ => False) s₂) (fun _ _ => False) s₁') (fun _ _ => False) s₁) (fun _ _ => False) s)
    (n : Nat) (h : I n s) :
    codeAny (model prog w) A (.compLoop (.ListComp elt [⟨target, iter, ifs, 0⟩] scope pos) 0 it acc env) R s := by
  refine codeAny_loop rfl I (fun n s hI => ?_) n h
  show wpAny _ A ((compTurn (.ListComp elt [⟨target, iter, ifs, 0⟩] scope pos) 0 it acc env).onRaise (fun x => do noteFrame x env; theTreesLotGoes x)) _ _ s
  refine wpAny_noted ?_
  rw [compTurn_list]
  refine wpAny_bind (wpAny_standAt (wpAny_bind (wpAny_mono (turn n s hI) (fun r s₁ h₁ => ?_) fun _ _ f => f.elim)))
  cases r with
  | none => exact wpAny_pure h₁
  | some v =>
    refine wpAny_bind (wpAny_mono h₁ (fun _ s₁' h₁' => ?_) fun _ _ f => f.elim)
    refine wpAny_bind (wpAny_mono h₁' (fun _ s₂ h₂ => wpAny_bind (wpAny_mono h₂ (fun ok s₃ h₃ => ?_) fun _ _ f => f.elim)) fun _ _ f => f.elim)
    cases ok with
    | false => exact wpAny_pure ⟨rfl, h₃⟩
    | true =>
      exact wpAny_bind (wpAny_bind (wpAny_mono h₃ (fun x s₄ h₄ => wpAny_bind (wpAny_mono h₄ (fun _ s₅ h₅ => wpAny_pure (wpAny_pure ⟨rfl, h₅⟩)) fun _ _ f => f.elim)) fun _ _ f => f.elim))
section
variable {X : Cx} {pins : List (Addr × Obj)} {σ : St} {H : Hp} {s : Shared} {scope : Scope} {tn : List Str} {ix : List Nat} {elt tg iter : Expr} {ifs : List Expr} {pos : Pos} {wi : TI} {g : TG} {tt : TT} {te : TE} {Q : VK}
theorem cells_app {c0 : List (Str × Addr)} : ∀ {l : List (Str × NameKind)} {n : Nat} {acc : List (Str × Addr)}, cellsFrom n l (acc ++ c0) = cellsFrom n l acc ++ c0
  | [], n, acc => rfl
  | (y, k) :: l, n, acc => by
    unfold cellsFrom
    by_cases hk : (k == .cell) = true
    · rw [if_pos hk, if_pos hk]
      exact cells_app (l := l) (n := n + 1) (acc := (y, n) :: acc)
    · rw [if_neg hk, if_neg hk]
      exact cells_app (l := l)
theorem cells_mem {x : Str} {c : Addr} : ∀ {l : List (Str × NameKind)} {n : Nat} {acc : List (Str × Addr)}, (x, c) ∈ cellsFrom n l acc → (x, c) ∈ acc ∨ (x, NameKind.cell) ∈ l
  | [], n, acc, h => .inl h
  | (y, k) :: l, n, acc, h => by
    unfold cellsFrom at h
    by_cases hk : (k == .cell) = true
    · rw [if_pos hk] at h
      rcases cells_mem (l := l) h with z | z
      · rcases List.mem_cons.mp z with e | z
        · cases e
          exact .inr (by rw [show k = NameKind.cell by simpa using hk]; exact List.mem_cons_self)
        · exact .inl z
      · exact .inr (List.mem_cons_of_mem _ z)
    · rw [if_neg hk] at h
      rcases cells_mem (l := l) h with z | z
      · exact .inl z
      · exact .inr (List.mem_cons_of_mem _ z)
theorem apart_inj {x y : Str} {c : Addr} : ∀ {cs : List (Str × Addr)}, cs.Pairwise (fun x y => x.2 ≠ y.2) → (x, c) ∈ cs → (y, c) ∈ cs → x = y
  | [], _, h, _ => nomatch h
  | z :: cs, h, h1, h2 => by
    obtain ⟨h3, h4⟩ := List.pairwise_cons.mp h
    rcases List.mem_cons.mp h1 with e1 | e1
    · rcases List.mem_cons.mp h2 with e2 | e2
      · rw [← e1] at e2; cases e2; rfl
      · rw [← e1] at h3; exact (h3 (y, c) e2 rfl).elim
    · rcases List.mem_cons.mp h2 with e2 | e2
      · rw [← e2] at h3; exact (h3 (x, c) e1 rfl).elim
      · exact apart_inj h4 e1 e2
theorem env_cells {M : Model} {A : Around} {E : Value → Shared → Prop} {s : Shared} {scope : Scope} {globals : Addr} {cl : List (Str × Addr)} {qual : Str} {env : Env} {Q : Env → Shared → Prop}
    (h : Q (newEnv scope s.heap.objs.size globals (cellsFrom (s.heap.objs.size + 1) scope.names cl) qual none .none (some env) builtinsNs) { s with heap := pushCells (s.heap.push { cls := .type "dict", data := .dict #[] }) scope.names }) :
    wpAny M A (newFunctionEnv scope globals cl [] qual none .none (some env)) Q E s := by
  simp only [newFunctionEnv, Option.isSome_some, if_true]
  refine wpAny_bind (wpAny_alloc (wpAny_bind (wpAny_layCells _ (fun name kind cells => by cases hkc : kind == NameKind.cell <;> simp [hkc]) _ _ _ _ ?_)))
  rw [show ({ s with heap := s.heap.push { cls := .type "dict", data := .dict #[] } } : Shared).heap.objs.size = s.heap.objs.size + 1 from Heap.size_push ..]
  exact wpAny_bind (wpAny_pure (wpAny_pure h))
theorem comp_core (S : CompOk X scope ix) (hc : X.calm = true) (hi : PI X tg iter wi)
    (hg : ∀ cl C s₂ H₂ fp, PG (X.comp scope tn ix cl C s₂ H₂ fp) tg g) (ht : ∀ cl C s₂ H₂ fp, PIfs (X.comp scope tn ix cl C s₂ H₂ fp) ifs tt) (he : ∀ cl C s₂ H₂ fp, PE (X.comp scope tn ix cl C s₂ H₂ fp) elt te)
    {P : Value → Addr → Result → Shared → Prop} (I : Inv X pins σ H s) (h : tComp tn ix wi g tt te σ H Q)
    (hP : ∀ D C s' H', Inv X pins σ H' s' → (∃ m, s'.heap.Ns C m) → FpOk X pins H' C → Q (.ref D) H' → P (.ref D) C (.ok .next) s') :
    ∃ cl, closureFor scope X.env = pure cl ∧ wpAny (model X.prog X.w) X.A (eval iter X.env) (fun x s₁ => wpAny (model X.prog X.w) X.A (pyIter x) (fun it s₂ => wpAny (model X.prog X.w) X.A (newList []) (fun acc s₃ =>
      wpAny (model X.prog X.w) X.A (newFunctionEnv scope X.env.globals cl [] X.env.qual none .none (some X.env)) (fun cenv s₄ =>
        codeAny (model X.prog X.w) X.A (.compStart (.ListComp elt [⟨tg, iter, ifs, 0⟩] scope pos) 0 it acc { cenv with scope := relabel scope X.env }) (P acc cenv.locals) s₄) X.xe s₃) X.xe s₂) X.xe s₁) X.xe s := by
  obtain ⟨cl, hcl, hc1, hc2⟩ := closureFor_ok (scope := scope) (env := X.env) fun x hx hf => I.ok.has x.1 (S.free x hx hf)
  refine ⟨cl, hcl, thn (hi pins s σ H _ I h) fun v s1 h1 => thn h1 fun itv s2 h2 => ?_⟩
  obtain ⟨it, fp, tnn, J, H2, e, I2, T, st2, f2, R⟩ := h2
  subst e
  refine wpAny_newObj_type (env_cells ?_)
  dsimp only
  generalize hHH : s2.heap.push { cls := .type "list", dict := none, data := .seq ([] : List Value).toArray } = HH
  have hCs : HH.objs.size = s2.heap.objs.size + 1 := by rw [← hHH, Heap.size_push]
  have hDC : s2.heap.objs.size ≠ HH.objs.size := by rw [hCs]; exact Nat.ne_of_lt (Nat.lt_succ_self _)
  have hCle : s2.heap.objs.size ≤ HH.objs.size := by rw [hCs]; exact Nat.le_succ _
  have oldH : ∀ b o, HH.get? b = some o → (pushCells (HH.push { cls := .type "dict", data := .dict #[] }) scope.names).get? b = some o := fun b o e => pushCells_keeps _ _ b o (Heap.get?_push_of_some _ e)
  have hns₁ : (pushCells (HH.push { cls := .type "dict", data := .dict #[] }) scope.names).Ns HH.objs.size (fun _ => none) := (Heap.Ns.new HH (.type "dict")).keeps (pushCells_keeps _ _)
  have okc := cellsFrom_ok scope.names (HH.push { cls := .type "dict", data := .dict #[] }) (HH.objs.size + 1) [] ⟨fun _ _ hm => (nomatch hm), List.Pairwise.nil⟩ (by rw [Heap.size_push]; exact Nat.le_refl _)
  rw [Heap.size_push] at okc
  have eCL : cellsFrom (HH.objs.size + 1) scope.names cl = cellsFrom (HH.objs.size + 1) scope.names [] ++ cl := cells_app (acc := [])
  have spl : ∀ x c, (cellsFrom (HH.objs.size + 1) scope.names cl).lookup x = some c → (scope.names.lookup x = some .cell ∧ (x, c) ∈ cellsFrom (HH.objs.size + 1) scope.names []) ∨ (cl.lookup x = some c ∧ scope.names.lookup x ≠ some .cell) := fun x c e => by
    rw [eCL, List.lookup_append] at e
    cases q : (cellsFrom (HH.objs.size + 1) scope.names []).lookup x with
    | none =>
      rw [q] at e
      refine .inr ⟨e, fun z => ?_⟩
      have := PySem.W.cellsFrom_some scope.names (HH.objs.size + 1) [] (.inl z)
      rw [q] at this
      cases this
    | some d =>
      rw [q] at e
      have e : some d = some c := e
      cases e
      have m := PySem.mem_of_lookup q
      rcases cells_mem m with z | z
      · nomatch z
      · exact .inl ⟨S.one _ z, m⟩
  have has : ∀ x, scope.names.lookup x = some .cell ∨ (cl.lookup x).isSome = true → ∃ c, (cellsFrom (HH.objs.size + 1) scope.names cl).lookup x = some c := fun x z => Option.isSome_iff_exists.mp (PySem.W.cellsFrom_some scope.names (HH.objs.size + 1) cl z)
  generalize hCL : cellsFrom (HH.objs.size + 1) scope.names cl = CL at spl has ⊢
  generalize hh1 : pushCells (HH.push { cls := .type "dict", data := .dict #[] }) scope.names = h₁ at oldH hns₁ okc ⊢
  have old : ∀ b o, s2.heap.get? b = some o → h₁.get? b = some o := fun b o e => oldH b o (hHH ▸ Heap.get?_push_of_some _ e)
  have hacc : h₁.get? s2.heap.objs.size = some { cls := .type "list", data := .seq ([] : List Value).toArray } := oldH _ _ (hHH ▸ Heap.get?_push_size _ rfl)
  have hfo : ∀ b ∈ fp, ∃ o, s2.heap.get? b = some o := fun b hb => let ⟨o, e, _⟩ := T.obj _ _ st2 b hb; ⟨o, e⟩
  obtain ⟨W, ⟨m0, w0⟩, turn⟩ := R s2.heap.objs.size (I2.hok.fresh (Nat.le_refl _))
  have hcl0 : ∀ x c, CL.lookup x = some c → (X.env.cells.lookup x = some c ∧ scope.names.lookup x ≠ some .cell) ∨ (scope.names.lookup x = some .cell ∧ s2.heap.objs.size ≤ c ∧ c ≠ s2.heap.objs.size ∧ h₁.IsCell c none) := fun x c e => by
    rcases spl x c e with ⟨z, m⟩ | ⟨z, m⟩
    · obtain ⟨q1, q2⟩ := okc.empty x c m
      rw [hCs] at q2
      exact .inr ⟨z, by omega, fun y => by rw [y] at q2; omega, q1⟩
    · exact .inl ⟨hc1 x c z, m⟩
  have J0 : Inv (X.comp scope tn ix CL HH.objs.size s2 H2 fp) [] (blockSt tn ix σ) (upd H2 s2.heap.objs.size (.lst [])) { s2 with heap := h₁, toks := s2.toks } :=
    Inv.block S I2 hcl0 (fun x y c e1 e2 k1 k2 => by
      rcases spl x c e1 with ⟨_, m1⟩ | ⟨_, m1⟩
      · rcases spl y c e2 with ⟨_, m2⟩ | ⟨_, m2⟩
        · exact apart_inj okc.apart m1 m2
        · exact absurd k2 m2
      · exact absurd k1 m1) (fun x z => has x (.inl z)) (fun x hx hf => by
      obtain ⟨c, e⟩ := hc2 x hx hf
      exact has x.1 (.inr (by rw [e]; rfl))) f2 hfo old (Nat.le_refl _) hCle hDC hacc ⟨_, hns₁⟩
  have stat : ∀ {H' : Hp}, (∀ b ∈ fp, H' b = none) → ∀ b ∈ fp, FpOk (X.comp scope tn ix CL HH.objs.size s2 H2 fp) [] H' b := fun hn b hb => by
    refine ⟨hn b hb, fun z => ?_, fun z => ?_, .inl hb, fun x c e => ?_, fun p hp => absurd (show p ∈ ([] : List (Addr × Obj)) from hp) (by simp)⟩
    · obtain ⟨o, e⟩ := hfo b hb
      exact absurd (Nat.lt_of_lt_of_le (Heap.lt_size e) (by show s2.heap.objs.size ≤ b; rw [z]; exact hCle)) (Nat.lt_irrefl _)
    · rcases List.mem_cons.mp (I2.stkSub b z) with z | z
      · exact (f2 b hb).2.1 z
      · exact (f2 b hb).2.2.1 z
    · rcases hcl0 x c e with z | z
      · exact (f2 b hb).2.2.2.2.1 x c z.1
      · intro y
        obtain ⟨o, e'⟩ := hfo b hb
        have q := Heap.lt_size e'
        rw [← y] at q
        exact absurd q (Nat.not_lt.mpr z.2.1)
  have fp0 : ∀ b ∈ fp, upd H2 s2.heap.objs.size (.lst []) b = none := fun b hb => by
    obtain ⟨o, e⟩ := hfo b hb
    rw [upd_ne (Nat.ne_of_lt (Heap.lt_size e))]
    exact (f2 b hb).1
  have st1 : tnn 0 h₁ := T.keep _ _ _ st2 fun b hb o e => old b o e
  have loop : ∀ s₃ : Shared, s₃ = { s2 with heap := h₁, toks := s2.toks } →
      codeAny (model X.prog X.w) X.A (.compLoop (.ListComp elt [⟨tg, iter, ifs, 0⟩] scope pos) 0 (.ref it) (.ref s2.heap.objs.size) (compEnvC scope CL HH.objs.size X.env)) (P (.ref s2.heap.objs.size) HH.objs.size) s₃ := by
    rintro s₃ rfl
    refine compLoop_any (fun n s' => ∃ i σ' acc H', Inv (X.comp scope tn ix CL HH.objs.size s2 H2 fp) [] σ' H' s' ∧ tnn i s'.heap ∧ (∀ b ∈ fp, H' b = none) ∧ W i n σ' acc H') ?_ m0 ⟨0, _, [], _, J0, st1, fp0, w0⟩
    rintro n s3 ⟨i, σ3, acc, H3, I3, st3, fr3, w3⟩
    obtain ⟨hD3, ways⟩ := turn i n σ3 acc H3 w3
    rcases ways with ⟨stop, qn⟩ | ⟨go, hsz, step⟩
    · refine thn (T.done (X.comp scope tn ix CL HH.objs.size s2 H2 fp) rfl rfl rfl hc i [] s3 σ3 H3 _ I3 (stat fr3) st3 stop) fun r s4 hq__ => ?_
      obtain ⟨hr, I4⟩ := hq__
      subst hr
      have I5 : Inv X pins σ H3 s4 := I2.call' I4.os I4.base I4.hok I4.bare fun b hb => ⟨(f2 b hb).2.2.2.1, (f2 b hb).2.1, (f2 b hb).2.2.2.2.1, (f2 b hb).2.2.2.2.2⟩
      obtain ⟨m4, hn4, _⟩ := I4.loc
      exact hP _ _ s4 H3 I5 ⟨m4, hn4⟩ (I2.fpOk hCle I4.free) qn
    · refine thn (T.item (X.comp scope tn ix CL HH.objs.size s2 H2 fp) rfl rfl rfl hc i [] s3 σ3 H3 _ I3 (stat fr3) st3 go) fun r s4 hq__ => ?_
      obtain ⟨u, hr, h4⟩ := hq__
      subst hr
      refine thn h4 fun _ s5 hq__ => ?_
      obtain ⟨x, H5, I5, r5, y5, st5, fr5⟩ := hq__
      have I5' := I5.pinned (stat fr5) (T.obj _ _ st5)
      have back : ∀ {σ7 : St} {H7 : Hp} {s7 : Shared}, Inv (X.comp scope tn ix CL HH.objs.size s2 H2 fp) ([] ++ pinsAt fp s5.heap) σ7 H7 s7 → Inv (X.comp scope tn ix CL HH.objs.size s2 H2 fp) [] σ7 H7 s7 ∧ tnn (i + 1) s7.heap ∧ ∀ b ∈ fp, H7 b = none := fun {σ7 H7 s7} I7 => by
        refine ⟨I7.unpinned, T.keep _ _ _ st5 fun b hb o e => (I7.pin (b, o) (List.mem_append_right _ (List.mem_append_right _ (mem_pinsAt hb e)))).1, fun b hb => ?_⟩
        obtain ⟨o, e, d⟩ := T.obj _ _ st5 b hb
        exact (I7.pin (b, o) (List.mem_append_right _ (List.mem_append_right _ (mem_pinsAt hb e)))).2.1
      refine thn (hg CL HH.objs.size s2 H2 fp _ s5 σ3 H5 x u _ I5' r5 (step x H5 y5)) fun _ s6 hq__ => ?_
      obtain ⟨σ6, H6, I6, q6⟩ := hq__
      refine thn (ht CL HH.objs.size s2 H2 fp _ s6 σ6 H6 _ I6 q6) fun ok s7 hq__ => ?_
      obtain ⟨H7, I7, q7⟩ := hq__
      cases ok with
      | false =>
        rw [if_neg Bool.false_ne_true] at q7 ⊢
        obtain ⟨m', hm, w7⟩ := q7
        obtain ⟨b1, b2, b3⟩ := back I7
        exact ⟨m', hm, i + 1, σ6, acc, H7, b1, b2, b3, w7⟩
      | true =>
        rw [if_pos rfl] at q7 ⊢
        refine thn (he CL HH.objs.size s2 H2 fp _ s7 σ6 H7 _ I7 q7) fun xv s8 hq__ => ?_
        obtain ⟨v8, H8, I8, r8, hD8, m', hm, w8⟩ := hq__
        refine thn (mt_append _ s8 σ6 H8 (.ref s2.heap.objs.size) [v8] (.ref s2.heap.objs.size) [xv] (fun _ H9 => H9 = upd H8 s2.heap.objs.size (.lst (acc ++ [v8]))) I8 rfl (.cons r8 .nil) ⟨_, acc, v8, rfl, rfl, hD8, hsz, rfl⟩) fun _ s9 hq__ => ?_
        obtain ⟨_, H9, I9, _, e9⟩ := hq__
        subst e9
        obtain ⟨b1, b2, b3⟩ := back I9
        exact ⟨m', hm, i + 1, σ6, acc ++ [v8], _, b1, b2, b3, w8⟩
  exact codeAny_compStart_list (loop _ rfl) (T.self X.A 0 _ _ _ st1 (loop _ rfl))
theorem pe_comp (S : compOk X scope ix = true) (hc : X.calm = true) (hi : PI X tg iter wi)
    (hg : ∀ cl C s₂ H₂ fp, PG (X.comp scope tn ix cl C s₂ H₂ fp) tg g) (ht : ∀ cl C s₂ H₂ fp, PIfs (X.comp scope tn ix cl C s₂ H₂ fp) ifs tt) (he : ∀ cl C s₂ H₂ fp, PE (X.comp scope tn ix cl C s₂ H₂ fp) elt te)
    (hs : ∀ x, foldedSetIterable iter X.env x = pure x := by intro _; rfl) : PE X (.ListComp elt [⟨tg, iter, ifs, 0⟩] scope pos) (tComp tn ix wi g tt te) := by
  intro pins s σ H Q I h
  obtain ⟨cl, hcl, q⟩ := comp_core (pos := pos) (P := fun acc C => compPost (model X.prog X.w) X.A X.xe none (EP X pins σ Q) acc C) (compOk.of S) hc hi hg ht he I h fun D C s' H' I' ⟨m, hn⟩ f q => by
    refine ⟨m, hn, fun h' sb => ⟨.ref D, H', ?_, rfl, q⟩⟩
    exact I'.turned (it := C) (t' := s'.toks) (fun b o hb e => sb.extBut b o hb e) f.1 f.2.1 f.2.2.2.1 f.2.2.2.2.1 f.2.2.2.2.2
  rw [eval_ListComp]
  exact wpAny_comprehension_free (use := none) rfl hs hcl (compOk.of S).kind (compOk.of S).loc q
theorem ps_setC {i : Nat} {y : Str} {py spos : Pos} (hN : X.N.Nodup) (hiN : X.N[i]? = some y) (hy : Loc X.env.scope y) (S : compOk X scope ix = true) (hc : X.calm = true) (hi : PI X tg iter wi)
    (hg : ∀ cl C s₂ H₂ fp, PG (X.comp scope tn ix cl C s₂ H₂ fp) tg g) (ht : ∀ cl C s₂ H₂ fp, PIfs (X.comp scope tn ix cl C s₂ H₂ fp) ifs tt) (he : ∀ cl C s₂ H₂ fp, PE (X.comp scope tn ix cl C s₂ H₂ fp) elt te)
    (hsw : swapsWith (.ListComp elt [⟨tg, iter, ifs, 0⟩] scope pos) (some (.Name y py)) spos.line X.env = pure true := by rfl)
    (hf : X.fn y = true ∨ X.env.scope.names.lookup y = some .local := by first | exact .inl rfl | exact .inr rfl | assumption)
    (hs : ∀ x, foldedSetIterable iter X.env x = pure x := by intro _; rfl) : PS X (.Assign [.Name y py] (.ListComp elt [⟨tg, iter, ifs, 0⟩] scope pos) spos) (tAsg (tComp tn ix wi g tt te) (gName i)) := by
  intro pins s σ H E I h
  rw [exec_Assign_Name_used _ _ _ _ hsw]
  refine wpAny_bind (wpAny_standAt (wpAny_bind ?_))
  show wpAny _ X.A (do let _ ← comprehension (.ListComp elt [⟨tg, iter, ifs, 0⟩] scope pos) scope X.env _ (newList []) false (eval iter X.env) (some (assign (.Name y py) X.env))) _ _ s
  obtain ⟨cl, hcl, q⟩ := comp_core (pos := pos) (P := fun acc C => compPost (model X.prog X.w) X.A X.xe (some (assign (.Name y py) X.env)) (fun _ s' => SP X pins E .next s') acc C) (compOk.of S) hc hi hg ht he I h fun D C s' H' I' ⟨m, hn⟩ f q => by
    show wpAny _ X.A (assign (.Name y py) X.env (.ref D)) _ _ _
    refine wpAny_assign_Name (store_ok2 (v := .ref D) I' hN hiN hy rfl (fun s2 I2 hq__ => ?_) hf)
    obtain ⟨a, sb, ha⟩ := hq__
    have hCa : C ≠ a := by
      rcases ha with ha | ha
      · rw [ha]; exact f.2.1
      · exact fun z => f.2.2.2.2.1 y a ha z.symm
    refine ⟨m, hn.sameBut sb hCa, fun h' sb' => ⟨_, H', ?_, q⟩⟩
    exact I2.turned (it := C) (t' := s2.toks) (fun b o hb e => sb'.extBut b o hb e) f.1 f.2.1 f.2.2.2.1 f.2.2.2.2.1 f.2.2.2.2.2
  refine wpAny_bind (wpAny_mono (wpAny_comprehension_free (use := some (assign (.Name y py) X.env)) (Q := fun _ s' => SP X pins E .next s') rfl hs hcl (compOk.of S).kind (compOk.of S).loc q) (fun _ s' hq => wpAny_pure (wpAny_pure hq)) fun _ _ e => e)
end
end L2
namespace L2
open PySem PySem.Spec PyProof.Rows
theorem Same.seqT {K : PySem.W.Frag} {H H' : Hp} {a : Addr} {xs : List V} (e : Same H H') (h : SqT K H a xs) : SqT K H' a xs := by
  rcases h with (h | ⟨o, h⟩) | h
  · exact .inl (.inl (e _ _ h))
  · exact .inl (.inr ⟨o, e _ _ h⟩)
  · exact .inr h
theorem Same.new {H : Hp} {p : Addr} (h : H p = none) (o : HO) : Same H (upd H p o) := fun b u q => by rw [upd_ne (ne_of_none q h)]; exact q
theorem Same.up {H H' : Hp} {p : Addr} {o : HO} (s : Same H H') (h : H p = none) : Same H (upd H' p o) := fun b u q => by rw [upd_ne (ne_of_none q h)]; exact s b u q
mutual
noncomputable def Is (K : PySem.W.Frag) (H : Hp) : PyData → V → Prop
  | .none, v => v = .non
  | .bool b, v => v = .bl b
  | .int i, v => v = .int i
  | .str x, v => v = .str x
  | .list ds, v => ∃ a vs, v = .ref a ∧ SqL K H a vs ∧ IsAll K H ds vs
  | .tuple ds, v => ∃ a vs, v = .ref a ∧ SqT K H a vs ∧ IsAll K H ds vs
  | .dict _, _ => False
noncomputable def IsAll (K : PySem.W.Frag) (H : Hp) : List PyData → List V → Prop
  | [], vs => vs = []
  | d :: ds, vs => ∃ v r, vs = v :: r ∧ Is K H d v ∧ IsAll K H ds r
end
mutual
theorem Is.mono {K : PySem.W.Frag} {H H' : Hp} (e : Same H H') : ∀ (d : PyData) {v : V}, Is K H d v → Is K H' d v
  | .none, v, h => h
  | .bool _, v, h => h
  | .int _, v, h => h
  | .str _, v, h => h
  | .list ds, v, h => by
    rw [Is] at h ⊢
    obtain ⟨a, vs, h1, h2, h3⟩ := h
    exact ⟨a, vs, h1, e.seq h2, IsAll.mono e ds h3⟩
  | .tuple ds, v, h => by
    rw [Is] at h ⊢
    obtain ⟨a, vs, h1, h2, h3⟩ := h
    exact ⟨a, vs, h1, e.seqT h2, IsAll.mono e ds h3⟩
  | .dict _, v, h => h
theorem IsAll.mono {K : PySem.W.Frag} {H H' : Hp} (e : Same H H') : ∀ (ds : List PyData) {vs : List V}, IsAll K H ds vs → IsAll K H' ds vs
  | [], vs, h => h
  | d :: ds, vs, h => by
    rw [IsAll] at h ⊢
    obtain ⟨v, r, h1, h2, h3⟩ := h
    exact ⟨v, r, h1, Is.mono e d h2, IsAll.mono e ds h3⟩
end
section
variable {X : Cx} {pins : List (Addr × Obj)} {σ : St} {H : Hp} {s : Shared}
mutual
theorem Is.reads (I : Inv X pins σ H s) : ∀ (d : PyData) {v : V} {u : Value}, Is X.K H d v → RelV v u → ∃ as, Reads s.heap u d as
  | .none, v, u, h, r => by
    rw [Is] at h; subst h; cases r; exact ⟨_, .none⟩
  | .bool b, v, u, h, r => by
    rw [Is] at h; subst h; cases r; exact ⟨_, .bool b⟩
  | .int i, v, u, h, r => by
    rw [Is] at h; subst h; obtain ⟨t, rfl⟩ := r; exact ⟨_, .int i t⟩
  | .str x, v, u, h, r => by
    rw [Is] at h; subst h; obtain ⟨t, rfl⟩ := r; exact ⟨_, .str x t⟩
  | .list ds, v, u, h, r => by
    rw [Is] at h
    obtain ⟨a, vs, rfl, h2, h3⟩ := h
    cases r
    obtain ⟨its, rv, ⟨o, n, e, c, _, d⟩, _⟩ := I.list h2
    obtain ⟨as, q⟩ := IsAll.reads I ds h3 rv
    exact ⟨_, .list e c d (by simpa using q)⟩
  | .tuple ds, v, u, h, r => by
    rw [Is] at h
    obtain ⟨a, vs, rfl, h2, h3⟩ := h
    cases r
    obtain ⟨its, rv, ⟨o, e, c, n, d⟩, _⟩ := I.tuple h2
    obtain ⟨as, q⟩ := IsAll.reads I ds h3 rv
    exact ⟨_, .tuple e c d (by simpa using q)⟩
  | .dict _, v, u, h, r => by
    rw [Is] at h; exact h.elim
theorem IsAll.reads (I : Inv X pins σ H s) : ∀ (ds : List PyData) {vs : List V} {us : List Value}, IsAll X.K H ds vs → Vals vs us → ∃ as, ReadsAll s.heap us ds as
  | [], vs, us, h, r => by
    rw [IsAll] at h; subst h; cases r; exact ⟨_, .nil⟩
  | d :: ds, vs, us, h, r => by
    rw [IsAll] at h
    obtain ⟨v, rr, rfl, h2, h3⟩ := h
    cases r with
    | cons r1 r2 =>
      obtain ⟨as, q⟩ := Is.reads I d h2 r1
      obtain ⟨bs, q'⟩ := IsAll.reads I ds h3 r2
      exact ⟨_, .cons q q'⟩
end
end
theorem depth_ints : ∀ ns : List Int, PyData.depthAll (ns.map PyData.int) = 0
  | [] => by rw [List.map_nil, PyData.depthAll]
  | n :: ns => by rw [List.map_cons, PyData.depthAll, PyData.depth, depth_ints ns]; rfl
section
variable {X : Cx}
noncomputable def rEqD (K : PySem.W.Frag) : R2 := fun x y H Q => ∃ d e, Is K H d x ∧ Is K H e y ∧ SeqAt.shaped d = true ∧ SeqAt.shaped e = true ∧ Q (.bl (PyData.eqv d e)) H
noncomputable def rNeD (K : PySem.W.Frag) : R2 := fun x y H Q => ∃ d e, Is K H d x ∧ Is K H e y ∧ SeqAt.shaped d = true ∧ SeqAt.shaped e = true ∧ Q (.bl (!PyData.eqv d e)) H
theorem op_eqD (hu : X.A.units + 64 < cLine) : OpR X (compareOp .Eq) (rEqD X.K) := by
  intro pins s σ H x y v u Q I rx ry h
  obtain ⟨d, e, h1, h2, h3, h4, q⟩ := h
  obtain ⟨as, r1⟩ := Is.reads I d h1 rx
  obtain ⟨bs, r2⟩ := Is.reads I e h2 ry
  exact eq_dataH r1 r2 h3 h4 hu ⟨.bl (PyData.eqv d e), H, I, rfl, q⟩
theorem op_neD (hu : X.A.units + 64 < cLine) : OpR X (compareOp .NotEq) (rNeD X.K) := by
  intro pins s σ H x y v u Q I rx ry h
  obtain ⟨d, e, h1, h2, h3, h4, q⟩ := h
  obtain ⟨as, r1⟩ := Is.reads I d h1 rx
  obtain ⟨bs, r2⟩ := Is.reads I e h2 ry
  exact ne_dataH r1 r2 h3 h4 hu ⟨.bl (!PyData.eqv d e), H, I, rfl, q⟩
end
end L2
namespace L2
end L2
namespace L2
end L2
namespace L2
open PySem PySem.Spec PyProof.Rows
noncomputable def Itv (K : PySem.W.Frag) (a : Addr) (n : Nat) : It :=
  ⟨fun i H => i < n ∧ ∃ xs x, SqL K H a xs ∧ xs[n - 1 - i]? = some x, fun i H x H' => H' = H ∧ ∀ xs, SqL K H a xs → xs[n - 1 - i]? = some x, fun i _ => i = n⟩
theorem turn_rev {P : Program} {w : World} {K : PySem.W.Frag} {tg : Expr} (a it : Addr) (n : Nat) : Turn P w K tg (Itv K a n) [it] it (fun i h => h.IsRevIter it a ((n : Int) - 1 - (i : Nat))) where
  mem := by simp
  obj := fun i h st b hb => by
    have e : b = it := by simpa using hb
    subst e
    obtain ⟨o, e, c, d⟩ := st
    exact ⟨o, e, fun v z => by rw [d] at z; cases z⟩
  keep := fun i h h' st k => st.at fun o e => k it (by simp) o e
  item := by
    intro X hP hw hK hc i pins s σ H E I hf st hg
    subst hP hw hK
    obtain ⟨hi, xs, x, hq, hx⟩ := hg
    obtain ⟨its, rv, p, hz⟩ := I.list hq
    obtain ⟨u, hu, ru⟩ := rv.get hx
    obtain ⟨f0, f1, f2, f3, f4, f5⟩ := hf it (by simp)
    have e : (n : Int) - 1 - (i : Nat) = ((n - 1 - i : Nat) : Int) := by omega
    rw [e] at st
    refine wpAny_pyNext_rev_item st p.isList (x := u) (by simpa using hu) fun h' st' sb => ?_
    have e2 : ((n - 1 - i : Nat) : Int) - 1 = (n : Int) - 1 - ((i + 1 : Nat) : Int) := by omega
    rw [e2] at st'
    have I1 : Inv X pins σ H { s with heap := h' } := I.turned (t' := s.toks) (fun b o hb e => (sb.2 b hb).trans e) f0 f1 f3 f4 f5
    obtain ⟨o, e, c, d⟩ := id st'
    exact ⟨u, rfl, go_of (s := { s with heap := h' }) e c d (by decide) ⟨x, H, I1, ru, ⟨rfl, fun ys hy => by rw [I.list_inj hy hq]; exact hx⟩, st', fun b hb => (hf b hb).1⟩⟩
  done := by
    intro X hP hw hK hc i pins s σ H E I hf st hg
    subst hP hw hK
    have hg' : i = n := hg
    subst hg'
    obtain ⟨f0, f1, f2, f3, f4, f5⟩ := hf it (by simp)
    have e : (i : Int) - 1 - (i : Nat) = -1 := by omega
    rw [e] at st
    exact wpAny_pyNext_rev_end (I.ok.hd hc) st fun h' eb => ⟨rfl, I.turned (t' := s.toks) (fun b o hb e => eb b o hb e) f0 f1 f3 f4 f5⟩
  self := fun _ _ _ _ _ st h => wpAny_pyIter_revIter st h
section
variable {X : Cx} {tg : Expr}
noncomputable def iRev (K : PySem.W.Frag) (ta : TA) : TI := fun σ H R => ta σ H fun vs H1 => ∃ a xs, vs = [.ref a] ∧ SqL K H1 a xs ∧ R (Itv K a xs.length) H1
theorem pi_rev {a : Expr} {ta : TA} {p pos : Pos} (hg : Gl X "reversed") (hm : X.mg "reversed" = none) (ha : PA X [a] ta) (hs : starEach [a] X.env = [(false, eval a X.env)] := by rfl) : PI X tg (.Call (.Name "reversed" p) [a] [] pos) (iRev X.K ta) := by
  intro pins s σ H R I h
  refine Call_ (ld_blt I hg hm boot_reversed (PyProof.Rows.callWith_type1 (thn (ha pos pins s σ H _ I h) fun us s1 hq__ => ?_) hs rfl))
  obtain ⟨vs, H1, I1, r1, q1⟩ := hq__
  obtain ⟨l, xs, e, hq, q⟩ := q1
  subst e
  obtain ⟨u, rfl, ru⟩ := Vals.one r1
  cases ru
  obtain ⟨its, rv, pl, hz⟩ := I1.list hq
  refine call_reversed_list pl.isList ?_
  have hit : (s1.heap.push (revObj l (((its.toArray.size : Nat) : Int) - 1))).IsRevIter s1.heap.objs.size l ((xs.length : Int) - 1 - ((0 : Nat) : Int)) := by
    have e1 : ((its.toArray.size : Nat) : Int) - 1 = (xs.length : Int) - 1 - ((0 : Nat) : Int) := by
      have := rv.length
      rw [List.size_toArray]; omega
    rw [e1]
    exact ⟨_, Heap.get?_push_size _ rfl, rfl, rfl⟩
  refine wpAny_pyIter_revIter hit ?_
  refine ⟨s1.heap.objs.size, [s1.heap.objs.size], _, _, H1, rfl, I1.kept (t' := s1.toks) fun b o e => Heap.get?_push_of_some _ e, turn_rev l _ xs.length, hit, fun b hb => ?_, q⟩
  have e : b = s1.heap.objs.size := by simpa using hb
  subst e
  exact I1.fpOk (Nat.le_refl _) (I1.hok.fresh (Nat.le_refl _))
end
noncomputable def Ite (K : PySem.W.Frag) (a : Addr) : It :=
  ⟨fun i H => ∃ xs x, SqL K H a xs ∧ xs[i]? = some x, fun i H x H' => ∃ p v, H p = none ∧ x = .ref p ∧ H' = upd H p (.tup [.int (i : Nat), v]) ∧ ∀ xs, SqL K H a xs → xs[i]? = some v, fun i H => ∃ xs, SqL K H a xs ∧ xs.length ≤ i⟩
theorem turn_enum {P : Program} {w : World} {K : PySem.W.Frag} {elts : List Expr} {x1} {tpos : Pos} (a e it : Addr) (hne : e ≠ it) :
    Turn P w K (.Tuple elts x1 tpos) (Ite K a) [e, it] e (fun i h => (∃ old, IsEnum h e it (i : Nat) old) ∧ h.IsListIter it a i) where
  mem := by simp
  obj := fun i h st b hb => by
    obtain ⟨⟨old, he⟩, o, ho, c, d⟩ := st
    have hb' : b = e ∨ b = it := by simpa using hb
    rcases hb' with rfl | rfl
    · exact ⟨_, he, fun v z => by cases z⟩
    · exact ⟨o, ho, fun v z => by rw [d] at z; cases z⟩
  keep := fun i h h' st k => by
    obtain ⟨⟨old, he⟩, hl⟩ := st
    exact ⟨⟨old, k e (by simp) _ he⟩, hl.at fun o q => k it (by simp) o q⟩
  item := by
    intro X hP hw hK hc i pins s σ H E I hf st hg
    subst hP hw hK
    obtain ⟨⟨old, he⟩, hit⟩ := st
    obtain ⟨xs, x, hq, hx⟩ := hg
    obtain ⟨its, rv, p, hz⟩ := I.list hq
    obtain ⟨u, hu, ru⟩ := rv.get hx
    obtain ⟨f0, f1, f2, f3, f4, f5⟩ := hf e (by simp)
    obtain ⟨g0, g1, g2, g3, g4, g5⟩ := hf it (by simp)
    refine wpAny_pyNext_enum_item he hit p.isList (x := u) (by simpa using hu) hne fun h' he' hit' ht' hz' hk' => ?_
    refine ⟨_, rfl, ?_⟩
    refine wpAny_letOwnedTupleGo_enum (s := { s with heap := h', toks := s.toks + 1 }) he' fun h2 he2 sb2 => ?_
    have hnew : H s.heap.objs.size = none := I.hok.fresh (Nat.le_refl _)
    have hpe : s.heap.objs.size ≠ e := Nat.ne_of_gt (Heap.lt_size he)
    have ht2 : h2.get? s.heap.objs.size = some { cls := .type "tuple", data := .seq #[.int (i : Nat) s.toks, u] } := sb2.extBut _ _ hpe ht'
    have k2 : ∀ b o, b ≠ e → b ≠ it → s.heap.get? b = some o → h2.get? b = some o := fun b o b1 b2 q => sb2.extBut b o b1 (hk' b o b1 b2 q)
    have hit2 : h2.IsListIter it a (i + 1) := hit'.extBut sb2.extBut (Ne.symm hne)
    have ge : ∀ b o, H b = some o → b ≠ e ∧ b ≠ it := fun b o q => ⟨fun z => (by rw [z, f0] at q; cases q), fun z => (by rw [z, g0] at q; cases q)⟩
    have un : Un (frs X.stack) [e, it] H (upd H s.heap.objs.size (.tup [.int (i : Nat), x])) s.heap h2 := by
      have nb : ∀ b o, s.heap.get? b = some o → b ≠ s.heap.objs.size := fun b o q => Nat.ne_of_lt (Heap.lt_size q)
      refine ⟨fun b o q n _ hc => ?_, fun b o q n _ hc => ?_, fun b o q n hc => ?_, fun b o q hc => ?_, fun b ys q => ?_, fun b o y q => ?_, fun b ps q => ?_⟩
      · exact k2 b o (fun z => hc (by simp [z])) (fun z => hc (by simp [z])) q
      · exact ⟨o.slots, k2 b o (fun z => hc (by simp [z])) (fun z => hc (by simp [z])) q⟩
      · rw [upd_ne (nb b o q)]; exact n
      · exact ⟨o, k2 b o (fun z => hc (by simp [z])) (fun z => hc (by simp [z])) q⟩
      · rw [upd_ne (ne_of_none q hnew)]; exact q
      · rw [upd_ne (ne_of_none q hnew)]; exact q
      · exact ⟨#[], by rw [upd_ne (ne_of_none q hnew), q]; simp⟩
    have hok : HOk X.prog X.w (upd H s.heap.objs.size (.tup [.int (i : Nat), x])) h2 := fun b o q => by
      by_cases hb : b = s.heap.objs.size
      · subst hb
        rw [upd_same] at q
        cases q
        exact ⟨by show 2 ≤ sizeLine; decide, [.int (i : Nat) s.toks, u], .cons ⟨_, rfl⟩ (.cons ru .nil), ⟨_, ht2, rfl, 0, rfl⟩⟩
      · rw [upd_ne hb] at q
        refine (I.hok b o q).stay (fun c v hc q' => ?_) (fun c q' => by rw [upd_ne (ne_of_none q' hnew)]; exact q') fun c ys q' => by rw [upd_ne (ne_of_none q' hnew)]; exact q'
        rcases hc with rfl | hc
        · exact k2 c v (ge c _ q).1 (ge c _ q).2 q'
        · exact k2 c v (ge c _ hc).1 (ge c _ hc).2 q'
    have I2 : Inv X pins σ (upd H s.heap.objs.size (.tup [.int (i : Nat), x])) { s with heap := h2, toks := s.toks + 1 } :=
      I.call' rfl un hok I.bare fun b hb => by
        have hb' : b = e ∨ b = it := by simpa using hb
        rcases hb' with rfl | rfl
        · exact ⟨f3, f1, f4, f5⟩
        · exact ⟨g3, g1, g4, g5⟩
    refine ⟨.ref s.heap.objs.size, _, I2, rfl, ⟨_, x, hnew, rfl, rfl, fun ys hy => by rw [I.list_inj hy hq]; exact hx⟩, ⟨⟨u, ?_⟩, hit2⟩, fun b hb => ?_⟩
    · have e3 : (((i + 1 : Nat)) : Int) = (i : Int) + 1 := by omega
      rw [e3]
      exact he2
    · have hb' : b = e ∨ b = it := by simpa using hb
      rcases hb' with rfl | rfl
      · rw [upd_ne (Ne.symm hpe)]; exact f0
      · obtain ⟨o, ho, _⟩ := hit
        rw [upd_ne (Nat.ne_of_lt (Heap.lt_size ho))]; exact g0
  done := by
    intro X hP hw hK hc i pins s σ H E I hf st hg
    subst hP hw hK
    obtain ⟨⟨old, he⟩, hit⟩ := st
    obtain ⟨xs, hq, hx⟩ := hg
    obtain ⟨its, rv, p, hz⟩ := I.list hq
    obtain ⟨g0, g1, g2, g3, g4, g5⟩ := hf it (by simp)
    have hl := rv.length
    exact wpAny_pyNext_enum_end (I.ok.hd hc) he hit p.isList (by simp; omega) fun h' eb => ⟨rfl, I.turned (t' := s.toks) (fun b o hb e => eb b o hb e) g0 g1 g3 g4 g5⟩
  self := fun _ _ _ _ _ st h => let ⟨⟨_, he⟩, _⟩ := st; wpAny_pyIter_enum he h
section
variable {X : Cx}
end
section
variable {K : PySem.W.Frag} {tn : List Str} {ix : List Nat} {te : TE} {σ : St} {H1 : Hp} {Q : VK}
end
section
variable {K : PySem.W.Frag} {tn : List Str} {ix : List Nat} {te : TE} {σ : St} {H1 : Hp} {Q : VK}
end
structure At (K : PySem.W.Frag) (mg : Str → Option Value) (x : Str) (st : Stmt) (ps : List Str) : Prop where
  ex : ∃ f fd, Fun K x x st f fd ∧ Binds K fd ps [] ∧ mg x = some (.ref f)
structure Def (P : Program) (w : World) (K : PySem.W.Frag) (mg : Str → Option Value) (base : Heap) (k : Nat) (x : Str) (ps : List Str) (sp : Sp) : Prop where
  ex : ∃ f fd, FnOk P w K mg base CX0 k f fd ps sp ∧ Binds K fd ps [] ∧ PySem.W.keepIn K (.ref f) = true ∧ mg x = some (.ref f)
section
variable {P : Program} {w : World} {K : PySem.W.Frag} {mg : Str → Option Value} {base : Heap}
theorem At.ok {x : Str} {st : Stmt} {N ps : List Str} {k : Nat} {sp : Sp} (F : At K mg x st ps) (S : FnScope N ps (defScope st)) (len : ∀ vs H Q E, sp vs H Q E → vs.length = ps.length)
    (hbody : ∀ (f : Addr) (cdv : Value) (A : Around) (outer : List Env) (s : Shared) (H : Hp) (vs : List V) (Q : VK) (E : XK), Room k (A.deeper (envOfC x (defScope st) s.heap.objs.size f cdv)) → sp vs H Q E →
      ∃ t, PSs (cxOf CX0 P w K mg base N x (defScope st) f cdv A outer s H E).nox (defBody st) t ∧ t { nx := fun _ H' => Q .non H', rt := Q } (start N vs) H) : Def P w K mg base (k + 1) x ps sp := by
  obtain ⟨f, fd, F, b, m⟩ := F.ex
  exact ⟨f, fd, F.ok S len (hbody f), b, F.kp, m⟩
theorem At.mk' {x : Str} {st : Stmt} {ps : List Str} {f : Addr} {oc : Value} {od an : Option Addr} {osl : Array (Option Value)} {kV doc pm cdv ct : Value} (m : mg x = some (.ref f))
    (l : K.lookup f = some ⟨oc, od, .func (PySem.W.fnOf x x (defArgs st) (defBody st) (defScope st) .none kV doc pm an cdv ct), osl⟩) (c : PySem.W.codeIn K cdv x = true) (k : PySem.W.keepIn K (.ref f) = true)
    (h : ∀ (kV doc pm : Value) (an : Option Addr) (cdv ct : Value) (us : List Value), us.length = ps.length → bindArgs (PySem.W.fnOf x x (defArgs st) (defBody st) (defScope st) .none kV doc pm an cdv ct) ⟨us, []⟩ = pure (ps.zip us)) : At K mg x st ps :=
  ⟨f, _, fun_mk l c k, (fun_mk (st := st) l c k).binds h, m⟩
end
section
variable {X : Cx} {k : Nat} {x : Str} {ps : List Str} {sp : Sp} {p pos : Pos} {e : Expr} {es : List Expr} {t : TA}
theorem pe_def (F : Def X.prog X.w X.K X.mg X.base k x ps sp) (hr : Room k X.A) (hg : Gl X x) (ha : PA X (e :: es) t) (hdb : (x == ("__debug__" : Str)) = false := by decide)
    (he : starEach (e :: es) X.env = (false, eval e X.env) :: starEach es X.env := by rfl) (hpl : (backTo pos (starEach es X.env)).any (·.1) = false := by rfl) : PE X (.Call (.Name x p) (e :: es) [] pos) (tCall sp [] E0 t) := by
  obtain ⟨f, fd, F, b, kp, m⟩ := F.ex
  exact pe_call F hr hg m kp b .nil pass0 ha hdb he hpl
end
end L2
namespace L2
open PySem PySem.Spec PyProof.Rows
section
variable {X : Cx} {K : PySem.W.Frag}
end
end L2
namespace L2
open PySem PySem.Spec PyProof.Rows
open Builtin Builtin.Str
section
variable {prog : Program} {w : World} {A : Around} {E : Value → Shared → Prop} {s : Shared}
theorem wpAny_nextOf_tup_item {it l : Addr} {i : Nat} {items} {x : Value} {Q : Value → Shared → Prop} (hit : s.heap.IsTupleIter it l i)
    (hl : s.heap.IsTuple l items) (hx : items[i]? = some x)
    (hQ : ∀ h', h'.IsTupleIter it l (i + 1) → Heap.SameBut it s.heap h' → Q x { s with heap := h' }) :
    wpAny (model prog w) A (Builtin.SmallTypes.nextOf (.ref it)) Q E s := by
  obtain ⟨o, ho, hc, hd⟩ := id hit
  obtain ⟨ol, hol, _, nl, hdl⟩ := hl
  unfold Builtin.SmallTypes.nextOf
  refine wpAny_bind (wpAny_callSpecial?_slot (name := Str.ofString "__next__") hit.typeIs F.slot_tuple_iterator_next
    (wpAny_call_entry F.slot_tuple_iterator_next hit.typeIs F.entry_tuple_iterator_next ?_ (F.args_tuple_iterator_next_1 _)))
  show wpAny _ _ (field (.ref it) 0 >>= _) _ _ s
  refine wpAny_bind (wpAny_field ho hd (x := .ref l) rfl ?_)
  show wpAny _ _ (if (Value.ref l == Value.none) = true then _ else _) _ _ s
  rw [if_neg (show ¬ ((Value.ref l == Value.none) = true) from Bool.false_ne_true)]
  show wpAny _ _ (field (.ref it) 1 >>= _) _ _ s
  refine wpAny_bind (wpAny_field ho hd (x := .int i 0) rfl ?_)
  show wpAny _ _ (seqItems? (.ref l) >>= _) _ _ s
  refine wpAny_bind (wpAny_seqItems hol hdl ?_)
  simp only [Int.toNat_natCast, hx]
  refine wpAny_bind (wpAny_setField ho hd (by simp) (wpAny_pure ⟨x, rfl, wpAny_pure (hQ _ ?_ (Heap.SameBut.update ..))⟩))
  exact ⟨_, Heap.get?_update_self _ ho (Obj.isFreed_of_fields (Obj.data_mapFields hd _)), (Obj.cls_mapFields ..).trans hc, by
    rw [Obj.data_mapFields hd]; simp [rawInt]⟩
theorem wpAny_nextOf_tup_end {it l : Addr} {i : Nat} {items} {Q : Value → Shared → Prop} (hh : A.handled = none)
    (hit : s.heap.IsTupleIter it l i) (hl : s.heap.IsTuple l items) (hx : items[i]? = none)
    (hE : ∀ h' e, Heap.ExtBut it s.heap h' → (∃ o, h'.get? e = some o ∧ o.cls = .type "StopIteration") → E (.ref e) { s with heap := h' }) :
    wpAny (model prog w) A (Builtin.SmallTypes.nextOf (.ref it)) Q E s := by
  obtain ⟨o, ho, hc, hd⟩ := id hit
  obtain ⟨ol, hol, _, nl, hdl⟩ := hl
  unfold Builtin.SmallTypes.nextOf
  refine wpAny_bind (wpAny_callSpecial?_slot (name := Str.ofString "__next__") hit.typeIs F.slot_tuple_iterator_next
    (wpAny_call_entry F.slot_tuple_iterator_next hit.typeIs F.entry_tuple_iterator_next ?_ (F.args_tuple_iterator_next_1 _)))
  show wpAny _ _ (field (.ref it) 0 >>= _) _ _ s
  refine wpAny_bind (wpAny_field ho hd (x := .ref l) rfl ?_)
  show wpAny _ _ (if (Value.ref l == Value.none) = true then _ else _) _ _ s
  rw [if_neg (show ¬ ((Value.ref l == Value.none) = true) from Bool.false_ne_true)]
  show wpAny _ _ (field (.ref it) 1 >>= _) _ _ s
  refine wpAny_bind (wpAny_field ho hd (x := .int i 0) rfl ?_)
  show wpAny _ _ (seqItems? (.ref l) >>= _) _ _ s
  refine wpAny_bind (wpAny_seqItems hol hdl ?_)
  simp only [Int.toNat_natCast, hx]
  refine wpAny_bind (wpAny_rule (wpAny_bind (wpAny_setField ho hd (by simp) ?_)))
  show wpAny _ _ (newExc (.type "StopIteration") [] >>= _) _ _ _
  refine wpAny_bind ?_
  simp only [newExc, newTuple]
  refine wpAny_bind (wpAny_newObj_type ?_ (by size_fits))
  refine wpAny_bind (m := firstArgMember _ _) (wpAny_of_eq (a := Value.none) (by first | rfl | (simp only [firstArgMember]; rfl)) ?_)
  refine wpAny_newObj_type ?_ (by size_fits)
  simp only [raiseNew]
  refine wpAny_bind (wpAny_handled ?_)
  first | rw [show A.in1.handled = none from hh] | rw [hh]
  refine wpAny_bind (wpAny_pure (wpAny_throw ?_))
  exact hE _ _ (((Heap.SameBut.update ..).extBut.push _).push _) ⟨_, Heap.get?_push_size _ rfl, rfl⟩
theorem _root_.PySem.Draws.tuple {prog : Program} {w : World} {A : Around} (hh : A.handled = none) (it l : Addr) (hne : l ≠ it) (items : Array Value) :
    Draws prog w A it [it, l] items.size (fun i v => items[i]? = some v) (fun i h => h.IsTupleIter it l i ∧ h.IsTuple l items) where
  live := fun _ _ st => let ⟨o, ho, _⟩ := st.1; ⟨o, ho⟩
  frame := fun _ _ _ st hk => ⟨st.1.at fun o e => hk it (by simp) o e, let ⟨o, ho, r⟩ := st.2; ⟨o, hk l (by simp) o ho, r⟩⟩
  item := fun i s Q E hi st hQ => by
    refine wpAny_nextOf_tup_item st.1 st.2 (x := items[i]) (by simp [hi]) fun h' hit' hs' => ?_
    exact hQ _ h' s.toks (by simp [hi]) ⟨hit', let ⟨o, ho, r⟩ := st.2; ⟨o, hs'.extBut l o hne ho, r⟩⟩ hs'
  done := fun s Q E st hE => wpAny_nextOf_tup_end hh st.1 st.2 (by simp) hE
theorem wpAny_pyNext_enum_end2 {e it l : Addr} {i : Nat} {items : Array Value} {old : Value} {Q : Option Value → Shared → Prop} (hh : A.in1.handled = none)
    (he : IsEnum s.heap e it i old) (hit : s.heap.IsTupleIter it l i) (hl : s.heap.IsTuple l items) (hx : items[i]? = none)
    (hQ : ∀ h', Heap.ExtBut it s.heap h' → Q none { s with heap := h' }) : wpAny (model prog w) A (pyNext (.ref e)) Q E s := by
  have hT : s.TypeIs (.ref e) "enumerate" := ⟨_, he, rfl⟩
  unfold pyNext
  refine wpAny_bind (wpAny_attempt (wpAny_callSpecial?_slot (name := Str.ofString "__next__") hT F.slot_enumerate_next
    (wpAny_call_entry F.slot_enumerate_next hT F.entry_enumerate_next ?_ (F.args_enumerate_next_1 _))))
  show wpAny _ _ (field (.ref e) 2 >>= _) _ _ _
  refine wpAny_bind (wpAny_field he rfl (x := .ref it) rfl ?_)
  refine wpAny_bind (wpAny_nextOf_tup_end hh hit hl hx fun h' x he' hx' => ?_)
  obtain ⟨o, ho, hc⟩ := hx'
  refine wpAny_bind (wpAny_isInstance (T := "StopIteration") (b := true) ⟨o, ho, hc⟩ isSubtype_stop ?_)
  exact wpAny_pure (hQ _ he')
end
open AutoSeq1 (wpAny_loadPart') in
theorem meets_enumerate_newT (l : Addr) (items : Array Value) (n : Nat) (dct : Option Addr) (sl : Array (Option Value)) :
    Meets (Builtin.«enumerate.__new__» ⟨[.type "enumerate", .ref l], []⟩) (fun _ R s => s.heap.get? l = some { cls := .type "tuple", dict := dct, data := .seq items n, slots := sl } ∧
      R (.ok (.ret (.ref (s.heap.push { cls := .type "tuple_iterator", data := .fields #[.ref l, .int 0 0] }).objs.size)))
        { s with heap := (s.heap.push { cls := .type "tuple_iterator", data := .fields #[.ref l, .int 0 0] }).push { cls := .type "enumerate", data := .fields #[.none, .bool false, .ref s.heap.objs.size, rawInt 0, .none, .none] } }) :=
  .of_wp fun prog w A R s h => by
    obtain ⟨hp, g, d, tk, os⟩ := s; obtain ⟨hl, h⟩ := h
    have hsub := sub_enumerate
    have hL : Heap.IsTuple (Shared.heap ⟨hp, g, d, tk, os⟩) l items := ⟨_, hl, rfl, n, rfl⟩
    wp_walk using wpAny_loadPart' hl
    refine wpAny_stack_any fun st => wpAny_pure ?_
    split
    · rename_i c _ _ _ _ _
      cases (c == Value.type "enumerate")
      · wp_walk using wpAny_loadPart' hl, wpAny_pyIter_tuple hL
        exact ⟨_, rfl, h⟩
      · wp_walk using wpAny_loadPart' hl, wpAny_pyIter_tuple hL
        exact ⟨_, rfl, h⟩
    · wp_walk using wpAny_loadPart' hl, wpAny_pyIter_tuple hL
      exact ⟨_, rfl, h⟩
section
variable {prog : Program} {w : World} {A : Around} {E : Value → Shared → Prop} {s : Shared}
theorem call_enumerate_tup {l : Addr} {items : Array Value} {Q : Value → Shared → Prop} (hL : s.heap.IsTuple l items)
    (h : ∀ h', IsEnum h' (s.heap.objs.size + 1) s.heap.objs.size 0 .none → h'.IsTupleIter s.heap.objs.size l 0 → h'.objs.size = s.heap.objs.size + 2 →
      (∀ b o, s.heap.get? b = some o → h'.get? b = some o) → Q (.ref (s.heap.objs.size + 1)) { s with heap := h' }) :
    wpAny (model prog w) A (call (.type "enumerate") [.ref l]) Q E s := by
  obtain ⟨⟨c, dct, dt, sl⟩, hl, hc, n, hd⟩ := hL
  replace hc : c = .type "tuple" := hc
  replace hd : dt = .seq items n := hd
  subst hc hd
  refine callType_new F.called_enumerate (by decide) (F.typeCall_enumerate_1 _) (F.newCall_enumerate_1 _) (fun obj => F.args_object_init_2 obj _) F.entry_enumerate_new
    (meets_enumerate_newT l items n dct sl) ⟨hl, ?_⟩
  have hz : (s.heap.push { cls := .type "tuple_iterator", data := .fields #[.ref l, .int 0 0] }).objs.size = s.heap.objs.size + 1 := Heap.size_push ..
  show _ ∧ _
  rw [hz]
  have he : IsEnum ((s.heap.push { cls := .type "tuple_iterator", data := .fields #[.ref l, .int 0 0] }).push
      { cls := .type "enumerate", data := .fields #[.none, .bool false, .ref s.heap.objs.size, rawInt 0, .none, .none] }) (s.heap.objs.size + 1) s.heap.objs.size 0 .none := by
    have := Heap.get?_push_size (s.heap.push { cls := .type "tuple_iterator", data := .fields #[.ref l, .int 0 0] })
      (o := { cls := .type "enumerate", data := .fields #[.none, .bool false, .ref s.heap.objs.size, rawInt 0, .none, .none] }) rfl
    rw [hz] at this; exact this
  refine ⟨⟨_, he, rfl⟩, h _ he ⟨_, Heap.get?_push_of_some _ (Heap.get?_push_size _ rfl), rfl, rfl⟩ (by rw [Heap.size_push, hz]) fun b o x => Heap.get?_push_of_some _ (Heap.get?_push_of_some _ x)⟩
end
theorem ne_tupIter {h : Heap} {a it l : Addr} {its : Array Value} {i : Nat} (p : h.IsTuple a its) (q : h.IsTupleIter it l i) : a ≠ it := by
  rintro rfl
  obtain ⟨o, ho, c, _⟩ := p
  obtain ⟨o', ho', c', _⟩ := q
  rw [ho] at ho'; cases ho'; rw [c] at c'; exact absurd c' (by decide)
theorem ne_tupEnum {h : Heap} {a e it : Addr} {its : Array Value} {i : Int} {old : Value} (p : h.IsTuple a its) (q : IsEnum h e it i old) : a ≠ e := by
  rintro rfl
  obtain ⟨o, ho, c, _⟩ := p
  rw [q] at ho; cases ho; exact absurd c (by show ¬ (Value.type "enumerate" = Value.type "tuple"); decide)
noncomputable def IteT (K : PySem.W.Frag) (a : Addr) : It :=
  ⟨fun i H => ∃ xs x, SqT K H a xs ∧ xs[i]? = some x, fun i H x H' => ∃ p v, H p = none ∧ x = .ref p ∧ H' = upd H p (.tup [.int (i : Nat), v]) ∧ ∀ xs, SqT K H a xs → xs[i]? = some v, fun i H => ∃ xs, SqT K H a xs ∧ xs.length ≤ i⟩
theorem turn_enumT {P : Program} {w : World} {K : PySem.W.Frag} {elts : List Expr} {x1} {tpos : Pos} (a e it : Addr) (hne : e ≠ it) :
    Turn P w K (.Tuple elts x1 tpos) (IteT K a) [e, it] e (fun i h => (∃ old, IsEnum h e it (i : Nat) old) ∧ h.IsTupleIter it a i) where
  mem := by simp
  obj := fun i h st b hb => by
    obtain ⟨⟨old, he⟩, o, ho, c, d⟩ := st
    have hb' : b = e ∨ b = it := by simpa using hb
    rcases hb' with rfl | rfl
    · exact ⟨_, he, fun v z => by cases z⟩
    · exact ⟨o, ho, fun v z => by rw [d] at z; cases z⟩
  keep := fun i h h' st k => by
    obtain ⟨⟨old, he⟩, hl⟩ := st
    exact ⟨⟨old, k e (by simp) _ he⟩, hl.at fun o q => k it (by simp) o q⟩
  item := by
    intro X hP hw hK hc i pins s σ H E I hf st hg
    subst hP hw hK
    obtain ⟨⟨old, he⟩, hit⟩ := st
    obtain ⟨xs, x, hq, hx⟩ := hg
    obtain ⟨its, rv, p, hz⟩ := I.tuple hq
    obtain ⟨u, hu, ru⟩ := rv.get hx
    obtain ⟨f0, f1, f2, f3, f4, f5⟩ := hf e (by simp)
    obtain ⟨g0, g1, g2, g3, g4, g5⟩ := hf it (by simp)
    have pt : s.heap.IsTuple a its.toArray := p
    have nai : a ≠ it := ne_tupIter pt hit
    have nae : a ≠ e := ne_tupEnum pt he
    refine wpAny_pyNext_enum_itemD (Draws.tuple (show X.A.in1.handled = none from I.ok.hd hc) it a nai its.toArray) he ⟨hit, pt⟩ (by have := rv.length; have := (List.getElem?_eq_some_iff.mp hx).1; simp; omega) hne (by simp [hne, Ne.symm nae]) fun u' h' tk hu' he' st' ht' hz' hk' => ?_
    have eu : u' = u := by have : its[i]? = some u' := by simpa using hu'
                           rw [hu] at this; exact (Option.some.inj this).symm
    subst eu
    obtain ⟨hit', -⟩ := st'
    refine ⟨_, rfl, ?_⟩
    refine wpAny_letOwnedTupleGo_enum (s := { s with heap := h', toks := tk + 1 }) he' fun h2 he2 sb2 => ?_
    have hnew : H s.heap.objs.size = none := I.hok.fresh (Nat.le_refl _)
    have hpe : s.heap.objs.size ≠ e := Nat.ne_of_gt (Heap.lt_size he)
    have ht2 : h2.get? s.heap.objs.size = some { cls := .type "tuple", data := .seq #[.int (i : Nat) tk, u'] } := sb2.extBut _ _ hpe ht'
    have k2 : ∀ b o, b ≠ e → b ≠ it → s.heap.get? b = some o → h2.get? b = some o := fun b o b1 b2 q => sb2.extBut b o b1 (hk' b o b1 b2 q)
    have hit2 : h2.IsTupleIter it a (i + 1) := hit'.extBut sb2.extBut (Ne.symm hne)
    have ge : ∀ b o, H b = some o → b ≠ e ∧ b ≠ it := fun b o q => ⟨fun z => (by rw [z, f0] at q; cases q), fun z => (by rw [z, g0] at q; cases q)⟩
    have un : Un (frs X.stack) [e, it] H (upd H s.heap.objs.size (.tup [.int (i : Nat), x])) s.heap h2 := by
      have nb : ∀ b o, s.heap.get? b = some o → b ≠ s.heap.objs.size := fun b o q => Nat.ne_of_lt (Heap.lt_size q)
      refine ⟨fun b o q n _ hc => ?_, fun b o q n _ hc => ?_, fun b o q n hc => ?_, fun b o q hc => ?_, fun b ys q => ?_, fun b o y q => ?_, fun b ps q => ?_⟩
      · exact k2 b o (fun z => hc (by simp [z])) (fun z => hc (by simp [z])) q
      · exact ⟨o.slots, k2 b o (fun z => hc (by simp [z])) (fun z => hc (by simp [z])) q⟩
      · rw [upd_ne (nb b o q)]; exact n
      · exact ⟨o, k2 b o (fun z => hc (by simp [z])) (fun z => hc (by simp [z])) q⟩
      · rw [upd_ne (ne_of_none q hnew)]; exact q
      · rw [upd_ne (ne_of_none q hnew)]; exact q
      · exact ⟨#[], by rw [upd_ne (ne_of_none q hnew), q]; simp⟩
    have hok : HOk X.prog X.w (upd H s.heap.objs.size (.tup [.int (i : Nat), x])) h2 := fun b o q => by
      by_cases hb : b = s.heap.objs.size
      · subst hb
        rw [upd_same] at q
        cases q
        exact ⟨by show 2 ≤ sizeLine; decide, [.int (i : Nat) tk, u'], .cons ⟨_, rfl⟩ (.cons ru .nil), ⟨_, ht2, rfl, 0, rfl⟩⟩
      · rw [upd_ne hb] at q
        refine (I.hok b o q).stay (fun c v hc q' => ?_) (fun c q' => by rw [upd_ne (ne_of_none q' hnew)]; exact q') fun c ys q' => by rw [upd_ne (ne_of_none q' hnew)]; exact q'
        rcases hc with rfl | hc
        · exact k2 c v (ge c _ q).1 (ge c _ q).2 q'
        · exact k2 c v (ge c _ hc).1 (ge c _ hc).2 q'
    have I2 : Inv X pins σ (upd H s.heap.objs.size (.tup [.int (i : Nat), x])) { s with heap := h2, toks := tk + 1 } :=
      I.call' rfl un hok I.bare fun b hb => by
        have hb' : b = e ∨ b = it := by simpa using hb
        rcases hb' with rfl | rfl
        · exact ⟨f3, f1, f4, f5⟩
        · exact ⟨g3, g1, g4, g5⟩
    refine ⟨.ref s.heap.objs.size, _, I2, rfl, ⟨_, x, hnew, rfl, rfl, fun ys hy => by rw [I.tuple_inj hy hq]; exact hx⟩, ⟨⟨u', ?_⟩, hit2⟩, fun b hb => ?_⟩
    · have e3 : (((i + 1 : Nat)) : Int) = (i : Int) + 1 := by omega
      rw [e3]
      exact he2
    · have hb' : b = e ∨ b = it := by simpa using hb
      rcases hb' with rfl | rfl
      · rw [upd_ne (Ne.symm hpe)]; exact f0
      · obtain ⟨o, ho, _⟩ := hit
        rw [upd_ne (Nat.ne_of_lt (Heap.lt_size ho))]; exact g0
  done := by
    intro X hP hw hK hc i pins s σ H E I hf st hg
    subst hP hw hK
    obtain ⟨⟨old, he⟩, hit⟩ := st
    obtain ⟨xs, hq, hx⟩ := hg
    obtain ⟨its, rv, p, hz⟩ := I.tuple hq
    obtain ⟨g0, g1, g2, g3, g4, g5⟩ := hf it (by simp)
    have hl := rv.length
    have pt : s.heap.IsTuple a its.toArray := p
    exact wpAny_pyNext_enum_end2 (show X.A.in1.handled = none from I.ok.hd hc) he hit pt (by simp; omega) fun h' eb => ⟨rfl, I.turned (t' := s.toks) (fun b o hb e => eb b o hb e) g0 g1 g3 g4 g5⟩
  self := fun _ _ _ _ _ st h => let ⟨⟨_, he⟩, _⟩ := st; wpAny_pyIter_enum he h
section
variable {X : Cx}
noncomputable def iEnum2 (K : PySem.W.Frag) (ta : TA) : TI := fun σ H R => ta σ H fun vs H1 => ∃ a xs, vs = [.ref a] ∧ ((SqL K H1 a xs ∧ R (Ite K a) H1) ∨ (SqT K H1 a xs ∧ R (IteT K a) H1))
theorem pi_enum2 {elts : List Expr} {x1} {tpos : Pos} {a : Expr} {ta : TA} {p pos : Pos} (hg : Gl X "enumerate") (hm : X.mg "enumerate" = none) (ha : PA X [a] ta) (hs : starEach [a] X.env = [(false, eval a X.env)] := by rfl) :
    PI X (.Tuple elts x1 tpos) (.Call (.Name "enumerate" p) [a] [] pos) (iEnum2 X.K ta) := by
  intro pins s σ H R I h
  refine Call_ (ld_blt I hg hm (show bootBuiltins "enumerate" = some (.type "enumerate") by decide +kernel) (PyProof.Rows.callWith_type1 (thn (ha pos pins s σ H _ I h) fun us s1 hq__ => ?_) hs rfl))
  obtain ⟨vs, H1, I1, r1, q1⟩ := hq__
  obtain ⟨l, xs, e, q⟩ := q1
  subst e
  obtain ⟨u, rfl, ru⟩ := Vals.one r1
  cases ru
  have hfp : ∀ b, b ∈ [s1.heap.objs.size + 1, s1.heap.objs.size] → _ := fun b hb => by
    have hb' : b = s1.heap.objs.size + 1 ∨ b = s1.heap.objs.size := by simpa using hb
    exact show s1.heap.objs.size ≤ b by omega
  rcases q with ⟨hq, q⟩ | ⟨hq, q⟩
  · obtain ⟨its, rv, pl, hz⟩ := I1.list hq
    refine call_enumerate_list pl.isList fun h' he hit hz' k => ?_
    refine wpAny_pyIter_enum (s := { s1 with heap := h' }) he ?_
    exact ⟨s1.heap.objs.size + 1, [s1.heap.objs.size + 1, s1.heap.objs.size], _, _, H1, rfl, I1.kept (t' := s1.toks) k, turn_enum l _ _ (Nat.succ_ne_self _), ⟨⟨_, he⟩, hit⟩, fun b hb => I1.fpOk (hfp b hb) (I1.hok.fresh (hfp b hb)), q⟩
  · obtain ⟨its, rv, pl, hz⟩ := I1.tuple hq
    have pt : s1.heap.IsTuple l its.toArray := pl
    refine call_enumerate_tup pt fun h' he hit hz' k => ?_
    refine wpAny_pyIter_enum (s := { s1 with heap := h' }) he ?_
    exact ⟨s1.heap.objs.size + 1, [s1.heap.objs.size + 1, s1.heap.objs.size], _, _, H1, rfl, I1.kept (t' := s1.toks) k, turn_enumT l _ _ (Nat.succ_ne_self _), ⟨⟨_, he⟩, hit⟩, fun b hb => I1.fpOk (hfp b hb) (I1.hok.fresh (hfp b hb)), q⟩
end
end L2
namespace L2
open PySem PySem.Spec PyProof.Rows
section
variable {κ : Type} [DecidableEq κ]
noncomputable def valV (kvs : List (κ × V)) (k : κ) : Option V := (kvs.find? fun kv => decide (kv.1 = k)).map (·.2)
noncomputable def putK (kvs : List (κ × V)) (k : κ) (v : V) : List (κ × V) :=
  if (kvs.any fun kv => decide (kv.1 = k)) = true then kvs.map (fun kv => if kv.1 = k then (kv.1, v) else kv) else kvs ++ [(k, v)]
theorem valV_pos {p : κ × V} {r : List (κ × V)} {k : κ} (e : p.1 = k) : valV (p :: r) k = some p.2 := by simp [valV, List.find?_cons, e]
theorem valV_neg {p : κ × V} {r : List (κ × V)} {k : κ} (e : ¬ p.1 = k) : valV (p :: r) k = valV r k := by simp [valV, List.find?_cons, e]
theorem valV_any (k : κ) : ∀ kvs : List (κ × V), (kvs.any fun kv => decide (kv.1 = k)) = (valV kvs k).isSome
  | [] => rfl
  | p :: r => by
    rw [List.any_cons]
    by_cases e : p.1 = k
    · simp only [valV_pos e, decide_eq_true e, Bool.true_or, Option.isSome_some]
    · rw [valV_neg e, decide_eq_false e, Bool.false_or]; exact valV_any k r
theorem length_putK (kvs : List (κ × V)) (k : κ) (v : V) : (putK kvs k v).length ≤ kvs.length + 1 := by
  unfold putK
  split
  · rw [List.length_map]; omega
  · rw [List.length_append, List.length_cons, List.length_nil]; omega
theorem RelO.isSome_eq {o : Option V} {u : Option Value} (r : RelO o u) : o.isSome = u.isSome := by
  cases o with
  | none => cases u with
    | none => rfl
    | some _ => exact (show False from r).elim
  | some _ => cases u with
    | none => exact (show False from r).elim
    | some _ => rfl
theorem KV.val {kvs : List (κ × V)} {vs : List (κ × Value)} (r : KV kvs vs) (k : κ) : RelO (valV kvs k) (valueAt vs k) := by
  unfold KV at r
  induction r with
  | nil => exact True.intro
  | @cons p q ps qs h t ih =>
    obtain ⟨h1, h2⟩ := h
    by_cases e : p.1 = k
    · have e' : q.1 = k := h1.symm.trans e
      have b : valueAt (q :: qs) k = some q.2 := by simp [valueAt, List.find?_cons, e']
      rw [valV_pos e, b]; exact h2
    · have e' : ¬ q.1 = k := fun z => e (h1.trans z)
      have b : valueAt (q :: qs) k = valueAt qs k := by simp [valueAt, List.find?_cons, e']
      rw [valV_neg e, b]; exact ih
theorem KV.any {kvs : List (κ × V)} {vs : List (κ × Value)} (r : KV kvs vs) (k : κ) : (kvs.any fun kv => decide (kv.1 = k)) = vs.any fun kv => decide (kv.1 = k) := by
  unfold KV at r
  induction r with
  | nil => rfl
  | cons h t ih => rw [List.any_cons, List.any_cons, ih, h.1]
theorem KV.repl {kvs : List (κ × V)} {vs : List (κ × Value)} (r : KV kvs vs) (k : κ) {y : V} {u : Value} (ry : RelV y u) :
    KV (kvs.map fun kv => if kv.1 = k then (kv.1, y) else kv) (vs.map fun kv => if kv.1 = k then (kv.1, u) else kv) := by
  unfold KV at r ⊢
  induction r with
  | nil => exact .nil
  | @cons p q ps qs h t ih =>
    rw [List.map_cons, List.map_cons]
    refine .cons ?_ ih
    obtain ⟨h1, h2⟩ := h
    by_cases e : p.1 = k
    · rw [if_pos e, if_pos (h1.symm.trans e)]; exact ⟨h1, ry⟩
    · rw [if_neg e, if_neg (fun z => e (h1.trans z))]; exact ⟨h1, h2⟩
theorem KV.put {kvs : List (κ × V)} {vs : List (κ × Value)} (r : KV kvs vs) (k : κ) {y : V} {u : Value} (ry : RelV y u) : KV (putK kvs k y) (stored vs k u) := by
  unfold putK stored
  rw [r.any k]
  by_cases e : (vs.any fun kv => decide (kv.1 = k)) = true
  · rw [if_pos e, if_pos e]; exact r.repl k ry
  · rw [if_neg e, if_neg e]; exact Paired.snoc r ⟨rfl, ry⟩
theorem KV.length {kvs : List (κ × V)} {vs : List (κ × Value)} (r : KV kvs vs) : kvs.length = vs.length := Paired.length r
end
theorem kV_is {P : Program} {w : World} {k : Key} {u : Value} (r : RelV (kV k) u) : (mixKind P w).is k u = true := by
  cases k with
  | inl i => obtain ⟨t, e⟩ := (show ∃ t, u = Value.int i t from r); subst e; exact mixKind_int P w i t
  | inr x => obtain ⟨t, e⟩ := (show ∃ t, u = Value.str x t from r); subst e; exact mixKind_str P w x t
theorem items_are {P : Program} {w : World} : ∀ {ks : List Key} {us : List Value}, Vals (ks.map kV) us → ItemsAre (mixKind P w) ks us
  | [], _, r => by rw [List.map_nil] at r; cases r; exact .nil
  | k :: ks, _, r => by
    rw [List.map_cons] at r
    cases r with
    | cons h t => exact .cons (kV_is h) (items_are t)
noncomputable abbrev KT (H : Hp) : List (List Key × V) → List (List Key × Addr × Value) → Prop := Paired fun p q => p.1 = q.1 ∧ H q.2.1 = some (.tup (p.1.map kV)) ∧ RelV p.2 q.2.2
theorem KT.val {H : Hp} {kvs : List (List Key × V)} {xs : List (List Key × Addr × Value)} (r : KT H kvs xs) (k : List Key) : RelO (valV kvs k) ((atKey xs k).map (·.2)) := by
  induction r with
  | nil => exact True.intro
  | @cons p q ps qs h t ih =>
    obtain ⟨h1, _, h2⟩ := h
    by_cases e : p.1 = k
    · have e' : q.1 = k := h1.symm.trans e
      have b : atKey (q :: qs) k = some q.2 := by simp [atKey, List.find?_cons, e']
      rw [valV_pos e, b]; exact h2
    · have e' : ¬ q.1 = k := fun z => e (h1.trans z)
      have b : atKey (q :: qs) k = atKey qs k := by simp [atKey, List.find?_cons, e']
      rw [valV_neg e, b]; exact ih
theorem KT.repl {H : Hp} {kvs : List (List Key × V)} {xs : List (List Key × Addr × Value)} (r : KT H kvs xs) (k : List Key) {y : V} {u : Value} (ry : RelV y u) :
    KT H (kvs.map fun kv => if kv.1 = k then (kv.1, y) else kv) (xs.map (putAt k u)) := by
  induction r with
  | nil => exact .nil
  | @cons p q ps qs h t ih =>
    rw [List.map_cons, List.map_cons]
    refine .cons ?_ ih
    obtain ⟨h1, h2, h3⟩ := h
    unfold putAt
    by_cases e : p.1 = k
    · rw [if_pos e, if_pos (h1.symm.trans e)]; exact ⟨h1, h2, ry⟩
    · rw [if_neg e, if_neg (fun z => e (h1.trans z))]; exact ⟨h1, h2, h3⟩
theorem KT.put {H : Hp} {kvs : List (List Key × V)} {xs : List (List Key × Addr × Value)} (r : KT H kvs xs) (k : List Key) {b : Addr} {y : V} {u : Value} (hb : H b = some (.tup (k.map kV))) (ry : RelV y u) :
    KT H (putK kvs k y) (storedH xs k b u) := by
  have e : (kvs.any fun kv => decide (kv.1 = k)) = (atKey xs k).isSome := by
    rw [valV_any, (r.val k).isSome_eq, Option.isSome_map]
  unfold putK storedH
  rw [e]
  by_cases q : (atKey xs k).isSome = true
  · rw [if_pos q, if_pos q]; exact r.repl k ry
  · rw [if_neg q, if_neg q]; exact Paired.snoc r ⟨rfl, hb, ry⟩
theorem KT.keeps {H H' : Hp} {kvs : List (List Key × V)} {xs : List (List Key × Addr × Value)} (r : KT H kvs xs) (ht : ∀ b ys, H b = some (.tup ys) → H' b = some (.tup ys)) : KT H' kvs xs :=
  Paired.mapP r fun _ _ z => ⟨z.1, ht _ _ z.2.1, z.2.2⟩
section
variable {P : Program} {w : World} {H : Hp} {h : Heap} {a : Addr}
theorem rd_of {u : HO} (ok : HOk P w H h) (e : Rd H a u) : ObjOk P w H h a u := e.ok ok
theorem dk_rd {kvs : List (Key × V)} (ok : HOk P w H h) (e : Rd H a (.dK kvs)) : kvs.length ≤ sizeLine ∧ (a == sysModules) = false ∧ ∃ vs, KV kvs vs ∧ h.DictOf (mixKind P w) a vs :=
  show ObjOk P w H h a (.dK kvs) from rd_of ok e
theorem dk_of {kvs : List (Key × V)} (ok : HOk P w H h) (e : H a = some (.dK kvs)) : kvs.length ≤ sizeLine ∧ (a == sysModules) = false ∧ ∃ vs, KV kvs vs ∧ h.DictOf (mixKind P w) a vs := dk_rd ok (.inl e)
theorem key_of {ks : List Key} (ok : HOk P w H h) (e : H a = some (.tup (ks.map kV))) : (tupleKind (mixKind P w)).is h ks a := by
  obtain ⟨_, its, r, o, h1, h2, n, h3⟩ := (show ObjOk P w H h a (.tup (ks.map kV)) from ok a _ e)
  exact ⟨o, its.toArray, n, h1, h2, h3, by simpa using items_are r⟩
theorem dt_rd {kvs : List (List Key × V)} (ok : HOk P w H h) (e : Rd H a (.dT kvs)) : kvs.length ≤ sizeLine ∧ (a == sysModules) = false ∧
    ∃ xs, KT H kvs xs ∧ h.DictOfH (tupleKind (mixKind P w)) a xs := by
  obtain ⟨z, y, xs, r, o, es, ep, h1, h2, h3, h4, h5⟩ := (show ObjOk P w H h a (.dT kvs) from rd_of ok e)
  refine ⟨z, y, xs, r, o, es, ep, h1, h2, h3, h4, fun x hx => ?_, h5⟩
  have all : ∀ {l : List (List Key × V)} {m : List (List Key × Addr × Value)}, KT H l m → ∀ x ∈ m, (tupleKind (mixKind P w)).is h x.1 x.2.1 := by
    intro l m q
    induction q with
    | nil => intro x hx; exact nomatch hx
    | @cons p q ps qs hq t ih =>
      intro x hx
      rcases List.mem_cons.mp hx with e | hx
      · subst e
        exact key_of ok (by rw [← hq.1]; exact hq.2.1)
      · exact ih x hx
  exact all r x hx
theorem dt_of {kvs : List (List Key × V)} (ok : HOk P w H h) (e : H a = some (.dT kvs)) : kvs.length ≤ sizeLine ∧ (a == sysModules) = false ∧
    ∃ xs, KT H kvs xs ∧ h.DictOfH (tupleKind (mixKind P w)) a xs := dt_rd ok (.inl e)
end
noncomputable def DGet (H : Hp) (a : Addr) (y : V) (r : Option V) : Prop :=
  (∃ kvs k, Rd H a (.dK kvs) ∧ y = kV k ∧ r = valV kvs k) ∨ ∃ kvs k b, Rd H a (.dT kvs) ∧ y = .ref b ∧ H b = some (.tup (k.map kV)) ∧ r = valV kvs k
noncomputable def DPut (H : Hp) (a : Addr) (y v : V) (H' : Hp) : Prop :=
  (∃ kvs k, H a = some (.dK kvs) ∧ y = kV k ∧ kvs.length < sizeLine ∧ H' = upd H a (.dK (putK kvs k v))) ∨
  ∃ kvs k b, H a = some (.dT kvs) ∧ y = .ref b ∧ H b = some (.tup (k.map kV)) ∧ kvs.length < sizeLine ∧ H' = upd H a (.dT (putK kvs k v))
theorem DGet.k {H : Hp} {a : Addr} {kvs : List (Key × V)} {k : Key} (e : H a = some (.dK kvs)) : DGet H a (kV k) (valV kvs k) := .inl ⟨kvs, k, .inl e, rfl, rfl⟩
theorem DPut.k {H : Hp} {a : Addr} {kvs : List (Key × V)} {k : Key} {v : V} (e : H a = some (.dK kvs)) (hl : kvs.length < sizeLine) : DPut H a (kV k) v (upd H a (.dK (putK kvs k v))) := .inl ⟨kvs, k, e, rfl, hl, rfl⟩
section
variable {X : Cx} {pins : List (Addr × Obj)} {σ : St} {H : Hp} {s : Shared} {a : Addr} {y v : V} {u r : Value} {o : Option V} {A : Around} {E : Value → Shared → Prop}
theorem Inv.big (I : Inv X pins σ H s) : sysModules < s.heap.objs.size := by
  have h : mainGlobals < s.heap.objs.size := (I.mod.glob.keeps I.bk).lt
  exact Nat.lt_trans (by decide) h
theorem d_getItem {Q : Value → Shared → Prop} (hu : A.units + 1 < cLine) (I : Inv X pins σ H s) (g : DGet H a y (some v)) (ry : RelV y u) (h : ∀ w' s', Inv X pins σ H s' → RelV v w' → Q w' s') :
    wpAny (model X.prog X.w) A (getItem (.ref a) u) Q E s := by
  rcases g with ⟨kvs, k, e, ey, l⟩ | ⟨kvs, k, b, e, ey, eb, l⟩
  · subst ey
    obtain ⟨z, hd, vs, rel, dd⟩ := dk_rd I.hok e
    obtain ⟨w', hw, rw'⟩ := RelO.some_of (v := v) (o := valueAt vs k) (by rw [l]; exact rel.val k)
    exact wpAny_getItem_of (kV_is ry) dd.mapOf hw (h w' _ (I.tok _) rw')
  · subst ey
    cases (show u = Value.ref b from ry)
    obtain ⟨z, hd, xs, rel, dd⟩ := dt_rd I.hok e
    obtain ⟨w', hw, rw'⟩ := RelO.some_of (v := v) (o := (atKey xs k).map (·.2)) (by rw [l]; exact rel.val k)
    obtain ⟨p, hp, hp2⟩ := Option.map_eq_some_iff.mp hw
    refine wpAny_getItem_heap (tupleKind_room_in1 hu) (key_of I.hok eb) dd hp ?_
    rw [hp2]
    exact h w' _ (I.tok _) rw'
theorem d_in {Q : Value → Shared → Prop} (hu : A.units + 1 < cLine) (I : Inv X pins σ H s) (g : DGet H a y o) (ry : RelV y u) (h : ∀ s', Inv X pins σ H s' → Q (.bool o.isSome) s') :
    wpAny (model X.prog X.w) A (compareOp .In u (.ref a)) Q E s := by
  rcases g with ⟨kvs, k, e, ey, l⟩ | ⟨kvs, k, b, e, ey, eb, l⟩
  · subst ey
    obtain ⟨z, hd, vs, rel, dd⟩ := dk_rd I.hok e
    refine wpAny_in_of (kV_is ry) hd dd.mapOf ?_
    rw [← (rel.val k).isSome_eq, ← l]
    exact h _ (I.tok _)
  · subst ey
    cases (show u = Value.ref b from ry)
    obtain ⟨z, hd, xs, rel, dd⟩ := dt_rd I.hok e
    refine wpAny_in_heap (tupleKind_room_in1 hu) (key_of I.hok eb) hd dd ?_
    have q := (rel.val k).isSome_eq
    rw [Option.isSome_map] at q
    rw [← q, ← l]
    exact h _ (I.tok _)
theorem d_write {h' : Heap} {t' : Nat} {ob : HO} (I : Inv X pins σ H s) (mu : Mut (H a)) (hs : Heap.SameBut a s.heap h') (he : ∃ q, h'.get? a = some q) (new : ObjOk X.prog X.w (upd H a ob) h' a ob) :
    Inv X pins σ (upd H a ob) { s with heap := h', toks := t' } :=
  I.write (x := a) (e := a) mu (.inl rfl) (fun b q hb z => (hs.2 b hb).trans z) he new
theorem dk_new {P : Program} {w : World} {H' : Hp} {h' : Heap} {kvs : List (Key × V)} {vs : List (Key × Value)} (z : kvs.length ≤ sizeLine) (hd : (a == sysModules) = false) (rel : KV kvs vs) (dd : h'.DictOf (mixKind P w) a vs) :
    ObjOk P w H' h' a (.dK kvs) := ⟨z, hd, vs, rel, dd⟩
theorem d_setItem {H' : Hp} {Q : Unit → Shared → Prop} (hu : A.units + 1 < cLine) (I : Inv X pins σ H s) (g : DPut H a y v H') (ry : RelV y u) (rv : RelV v r) (h : ∀ s', Inv X pins σ H' s' → Q () s') :
    wpAny (model X.prog X.w) A (setItem (.ref a) u r) Q E s := by
  rcases g with ⟨kvs, k, e, ey, l, eH⟩ | ⟨kvs, k, b, e, ey, eb, l, eH⟩
  · subst ey eH
    obtain ⟨z, hd, vs, rel, dd⟩ := dk_of I.hok e
    have hz : vs.length ≤ sizeLine := by rw [← rel.length]; exact z
    have hl : (putK kvs k v).length ≤ sizeLine := by have := length_putK kvs k v; omega
    refine wpAny_setItem_pairs (hsz := hz) (kV_is ry) dd fun h' dd' hs => h _ ?_
    have he : ∃ q, h'.get? a = some q := let ⟨q, _, _, hq, _⟩ := dd'; ⟨q, hq⟩
    exact d_write I (by rw [e]; exact True.intro) hs he (dk_new hl hd (rel.put k rv) dd')
  · subst ey eH
    cases (show u = Value.ref b from ry)
    obtain ⟨z, hd, xs, rel, dd⟩ := dt_of I.hok e
    have hz : xs.length ≤ sizeLine := by rw [← Paired.length rel]; exact z
    have hl : (putK kvs k v).length ≤ sizeLine := by have := length_putK kvs k v; omega
    refine wpAny_setItem_heap (hsz := hz) (tupleKind_room_in1 hu) (key_of I.hok eb) dd fun h' dd' hs => h _ ?_
    obtain ⟨q, es, ep, hq, h2, h3, h4, _, h5⟩ := dd'
    refine d_write I (by rw [e]; exact True.intro) hs ⟨q, hq⟩ ⟨hl, hd, _, (rel.put k eb rv).keeps fun c ys ec => ?_, q, es, ep, hq, h2, h3, h4, h5⟩
    rw [upd_ne (ne_of ec e (fun z => nomatch z))]
    exact ec
end
section
variable {X : Cx} {pins : List (Addr × Obj)} {σ : St} {H : Hp} {s : Shared} {a : Addr} {kvs : List (Key × V)} {k : Key} {u : Value} {A : Around} {E : Value → Shared → Prop}
end
theorem dict_typeIs {X : Cx} {pins : List (Addr × Obj)} {σ : St} {H : Hp} {s : Shared} {a : Addr} {y : V} {o : Option V} (I : Inv X pins σ H s) (g : DGet H a y o) : s.TypeIs (.ref a) "dict" := by
  rcases g with ⟨kvs, k, e, _, _⟩ | ⟨kvs, k, b, e, _, _, _⟩
  · obtain ⟨_, _, vs, _, dd⟩ := dk_rd I.hok e
    exact dd.typeIs
  · obtain ⟨_, _, xs, _, dd⟩ := dt_rd I.hok e
    exact dd.typeIs
noncomputable def sDPut (td ty tv : TE) : TS := fun D σ H => tv σ H fun v H1 => td σ H1 fun x H2 => ty σ H2 fun y H3 => ∃ a H4, x = .ref a ∧ DPut H3 a y v H4 ∧ D.nx σ H4
section
variable {X : Cx} {o i e value : Expr} {pos pos' tpos : Pos} {td ty tv : TE}
theorem ps_dput (hu : X.A.units + 1 < cLine) (ho : PE X o td) (hi : PE X i ty) (hv : PE X value tv) (hs : swapsWith value (some (.Subscript o i pos')) pos.line X.env = pure false) :
    PS X (.Assign [.Subscript o i pos'] value pos) (sDPut td ty tv) := by
  intro pins s σ H D I h
  refine wpAny_Assign_Subscript (thn (hv pins s σ H _ I h) fun r s1 ⟨v, H1, I1, rv, q1⟩ => thn (ho pins s1 σ H1 _ I1 q1) fun u s2 ⟨x, H2, I2, rx, q2⟩ => thn (hi pins s2 σ H2 _ I2 q2) fun iv s3 hq__ => ?_) hs
  obtain ⟨y, H3, I3, ry, a, H4, ex, g, q3⟩ := hq__
  subst ex
  obtain rfl : u = Value.ref a := rx
  exact d_setItem hu I3 g ry rv fun s4 I4 => ⟨σ, H4, I4, q3⟩
end
theorem dk_empty {P : Program} {w : World} {H : Hp} (h : Heap) (hb : sysModules < h.objs.size) : ObjOk P w H (h.push { cls := .type "dict", data := .dict #[] }) h.objs.size (.dK []) :=
  ⟨Nat.zero_le _, beq_eq_false_iff_ne.mpr (Ne.symm (Nat.ne_of_lt hb)), [], .nil, Heap.DictOf.new h⟩
noncomputable def tDNewK : TE := fun _ H Q => ∀ p, H p = none → Q (.ref p) (upd H p (.dK []))
section
variable {X : Cx} {pos : Pos}
theorem pe_dnewK : PE X (.Dict [] [] pos) tDNewK := fun pins s σ H Q I h =>
  wpAny_Dict_empty ⟨.ref s.heap.objs.size, _, I.laid (a := s.heap.objs.size) (o := .dK []) (t' := s.toks) (fun _ _ q => Heap.get?_push_of_some _ q) (Nat.le_refl _) (dk_empty s.heap I.big), rfl, h _ (I.hok.fresh (Nat.le_refl _))⟩
end
noncomputable def tPairs : List (TE × TE) → St → Hp → (List (V × V) → Hp → Prop) → Prop
  | [], _, H, Q => Q [] H
  | (tk, tv) :: r, σ, H, Q => tk σ H fun x H1 => tv σ H1 fun y H2 => tPairs r σ H2 fun ps H3 => Q ((x, y) :: ps) H3
noncomputable abbrev VV : List (V × V) → List (Value × Value) → Prop := Paired fun p q => RelV p.1 q.1 ∧ RelV p.2 q.2
noncomputable def PPs (X : Cx) (pos : Pos) (keys : List (Option Expr)) (values : List Expr) (trs : List (TE × TE)) : Prop :=
  ∀ (pins : List (Addr × Obj)) (s : Shared) (σ : St) (H : Hp) (Q : List (V × V) → Hp → Prop), Inv X pins σ H s → tPairs trs σ H Q →
    wpAny (model X.prog X.w) X.A (evalPairs (pairTrees keys values X.env pos)) (fun vs s' => ∃ ps H', Inv X pins σ H' s' ∧ VV ps vs ∧ Q ps H') X.xe s
theorem pps_nil {X : Cx} {pos : Pos} : PPs X pos [] [] [] := fun pins s σ H Q I h => pairTrees_nil_walk ⟨[], H, I, .nil, h⟩
theorem pps_cons {X : Cx} {pos : Pos} {k v : Expr} {ks : List (Option Expr)} {vs : List Expr} {tk tv : TE} {trs : List (TE × TE)} (hk : PE X k tk) (hv : PE X v tv) (hr : PPs X pos ks vs trs) :
    PPs X pos (some k :: ks) (v :: vs) ((tk, tv) :: trs) := fun pins s σ H Q I h =>
  pairTrees_cons_walk (thn (hk pins s σ H _ I h) fun u s1 ⟨x, H1, I1, rx, q1⟩ => thn (hv pins s1 σ H1 _ I1 q1) fun w2 s2 ⟨y, H2, I2, ry, q2⟩ =>
    thn (hr pins s2 σ H2 _ I2 q2) fun ws s3 ⟨ps, H3, I3, rel, q3⟩ => ⟨(x, y) :: ps, H3, I3, .cons ⟨rx, ry⟩ rel, q3⟩)
noncomputable def mergeK (kvs more : List (Key × V)) : List (Key × V) := more.foldl (fun acc kv => putK acc kv.1 kv.2) kvs
theorem KV.merge : ∀ {more : List (Key × V)} {rs : List (Key × Value)} {kvs : List (Key × V)} {vs : List (Key × Value)}, KV more rs → KV kvs vs → KV (mergeK kvs more) (merged vs rs) := by
  intro more rs kvs vs r
  unfold KV at r
  induction r generalizing kvs vs with
  | nil => intro q; exact q
  | @cons p q ps qs h t ih =>
    intro r0
    have e : KV (putK kvs p.1 p.2) (stored vs q.1 q.2) := by
      have := r0.put p.1 h.2
      rw [← h.1]; exact this
    exact ih e
theorem length_mergeK : ∀ (more kvs : List (Key × V)), (mergeK kvs more).length ≤ kvs.length + more.length
  | [], kvs => by show kvs.length ≤ kvs.length + 0; omega
  | p :: r, kvs => by
    have h1 := length_mergeK r (putK kvs p.1 p.2)
    have h2 := length_putK kvs p.1 p.2
    show (mergeK (putK kvs p.1 p.2) r).length ≤ _
    rw [List.length_cons]; omega
theorem carries_of {P : Program} {w : World} : ∀ {kvs : List (Key × V)} {ws : List (Value × Value)}, VV (kvs.map fun kv => (kV kv.1, kv.2)) ws → ∃ rs, Carries (mixKind P w) ws rs ∧ KV kvs rs
  | [], _, r => by rw [List.map_nil] at r; cases r; exact ⟨[], True.intro, .nil⟩
  | p :: kvs, _, r => by
    rw [List.map_cons] at r
    cases r with
    | @cons a b as bs h t =>
      obtain ⟨rs, c, q⟩ := carries_of (P := P) (w := w) t
      obtain ⟨b1, b2⟩ := b
      exact ⟨(p.1, b2) :: rs, ⟨kV_is h.1, rfl, c⟩, .cons ⟨rfl, h.2⟩ q⟩
noncomputable def tDisp (trs : List (TE × TE)) : TE := fun σ H Q => ∀ p, H p = none → tPairs trs σ (upd H p (.dK [])) fun ps H2 => H2 p = some (.dK []) ∧ ∃ kvs : List (Key × V), ps = kvs.map (fun kv => (kV kv.1, kv.2)) ∧ kvs.length ≤ 15 ∧ Q (.ref p) (upd H2 p (.dK (mergeK [] kvs)))
theorem pe_disp {X : Cx} {pos : Pos} {keys : List (Option Expr)} {values : List Expr} {trs : List (TE × TE)} (h : PPs X pos keys values trs) (hall : keys.all (·.isSome) = true) (hl : keys.length = values.length) (h0 : keys ≠ [])
    (h15 : keys.length ≤ 15) : PE X (.Dict keys values pos) (tDisp trs) := by
  intro pins s σ H Q I q
  have hn := I.hok.fresh (Nat.le_refl s.heap.objs.size)
  have I1 := I.laid (a := s.heap.objs.size) (o := .dK []) (h' := s.heap.push { cls := .type "dict", data := .dict #[] }) (t' := s.toks) (fun _ _ q => Heap.get?_push_of_some _ q) (Nat.le_refl _) (dk_empty s.heap I.big)
  refine wpAny_Dict_walk (knd := mixKind X.prog X.w) hall hl h0 h15 (thn (h pins _ σ _ _ I1 (q _ hn)) fun ws s2 hq__ => ?_)
  obtain ⟨ps, H2, I2, rel, e, kvs, ep, lk, q2⟩ := hq__
  subst ep
  obtain ⟨rs, c, rk⟩ := carries_of (P := X.prog) (w := X.w) rel
  obtain ⟨z, hd, vs0, r0, dd⟩ := dk_of I2.hok e
  cases r0
  refine ⟨rs, c, dd, fun h' dd' hs => ⟨.ref s.heap.objs.size, _, ?_, rfl, q2⟩⟩
  have hz : (mergeK [] kvs).length ≤ sizeLine := by
    have h1 := length_mergeK kvs []
    rw [List.length_nil] at h1
    rw [sizeLine_eq]; omega
  have he : ∃ q, h'.get? s.heap.objs.size = some q := let ⟨q, _, _, hq, _⟩ := dd'; ⟨q, hq⟩
  exact d_write I2 (by rw [e]; exact True.intro) hs he (dk_new hz hd (rk.merge .nil) dd')
section
variable {X : Cx} {pins : List (Addr × Obj)} {σ : St} {H : Hp} {s : Shared} {a : Addr} {y d : V} {u r : Value} {o : Option V} {A : Around} {E : Value → Shared → Prop}
end
section
variable {X : Cx} {o e f : Expr} {apos cpos : Pos} {td ty tx : TE}
end
section
variable {X : Cx} {pins : List (Addr × Obj)} {σ : St} {H : Hp} {s : Shared} {a : Addr} {kvs : List (Key × V)} {A : Around} {E : Value → Shared → Prop}
end
section
variable {X : Cx} {pins : List (Addr × Obj)} {σ : St} {H : Hp} {s : Shared} {a : Addr} {y : V} {u : Value} {A : Around} {E : Value → Shared → Prop}
end
end L2
namespace L2
open PySem PySem.Spec PyProof.Rows
noncomputable abbrev NKey := List (List Int)
noncomputable def nHash (ks : NKey) : Int := reduceHash (Builtin.Tuple.tupleHashOf (ks.map fun k => reduceHash (Builtin.Tuple.tupleHashOf (k.map hashInt))))
noncomputable def NDict (a : Addr) (xs : List (NKey × Addr × Value)) : HO := .ext fun h =>
  xs.length ≤ sizeLine ∧ (a == sysModules) = false ∧ (xs.map (·.1)).Nodup ∧ ∃ o es ep, h.get? a = some o ∧ o.ExactDict ∧ o.data = .dict es ep ∧ es.toList = xs.map fun x => ⟨nHash x.1, .ref x.2.1, x.2.2⟩
noncomputable def NTup (K : PySem.W.Frag) (H : Hp) (ks : NKey) (b : Addr) : Prop := ∃ cs : List Addr, SqT K H b (cs.map V.ref) ∧ Paired (fun (k : List Int) c => SqT K H c (k.map V.int)) ks cs
noncomputable abbrev KN (K : PySem.W.Frag) (H : Hp) : List (NKey × V) → List (NKey × Addr × Value) → Prop := Paired fun p q => p.1 = q.1 ∧ NTup K H p.1 q.2.1 ∧ RelV p.2 q.2.2
theorem NTup.keeps {K : PySem.W.Frag} {H H' : Hp} {ks : NKey} {b : Addr} (n : NTup K H ks b) (ht : ∀ b ys, SqT K H b ys → SqT K H' b ys) : NTup K H' ks b := by
  obtain ⟨cs, h1, h2⟩ := n
  exact ⟨cs, ht _ _ h1, Paired.mapP h2 fun _ _ z => ht _ _ z⟩
theorem KN.keeps {K : PySem.W.Frag} {H H' : Hp} {kvs : List (NKey × V)} {xs : List (NKey × Addr × Value)} (r : KN K H kvs xs) (ht : ∀ b ys, SqT K H b ys → SqT K H' b ys) : KN K H' kvs xs :=
  Paired.mapP r fun _ _ z => ⟨z.1, z.2.1.keeps ht, z.2.2⟩
end L2
namespace PySem
open Sem (wp)
section
variable {prog : Program} {w : World} {K : Type} [DecidableEq K] (knd : KeyKind prog w K)
inductive NestAre (h : Heap) : List (List K) → List Value → Prop
  | nil : NestAre h [] []
  | cons {k : List K} {a : Addr} {ks : List (List K)} {vs : List Value} : IsTupleKey knd h k a → NestAre h ks vs → NestAre h (k :: ks) (.ref a :: vs)
noncomputable def IsNestKey (h : Heap) (ks : List (List K)) (a : Addr) : Prop := ∃ o items n, h.get? a = some o ∧ o.cls = .type "tuple" ∧ o.data = .seq items n ∧ NestAre knd h ks items.toList
variable {knd}
theorem NestAre.inj {h : Heap} {x y : List (List K)} {vs : List Value} (hx : NestAre knd h x vs) (hy : NestAre knd h y vs) : x = y := by
  induction hx generalizing y with
  | nil => cases hy; rfl
  | cons h1 _ ih => cases hy with
    | cons h2 t2 => rw [h1.inj h2, ih t2]
theorem NestAre.length {h : Heap} {x : List (List K)} {vs : List Value} (hx : NestAre knd h x vs) : x.length = vs.length := by
  induction hx with
  | nil => rfl
  | cons _ _ ih => simp [ih]
theorem IsNestKey.typeIs {s : Shared} {ks : List (List K)} {a : Addr} (x : IsNestKey knd s.heap ks a) : s.TypeIs (.ref a) "tuple" := let ⟨o, _, _, ho, hc, _⟩ := x; ⟨o, ho, hc⟩
theorem IsNestKey.inj {h : Heap} {a : Addr} {x y : List (List K)} (hx : IsNestKey knd h x a) (hy : IsNestKey knd h y a) : x = y := by
  obtain ⟨o, items, n, ho, _, hd, hi⟩ := hx
  obtain ⟨o', items', n', ho', _, hd', hi'⟩ := hy
  obtain rfl : o = o' := Option.some.inj (ho.symm.trans ho')
  rw [hd] at hd'
  injection hd' with h1 _
  subst h1
  exact hi.inj hi'
theorem NestAre.keeps {h h' : Heap} {ks : List (List K)} {vs : List Value} {d : Addr} {o : Obj} {es ep} (x : NestAre knd h ks vs) (ho : h.get? d = some o) (hd : o.data = .dict es ep) (hs : Heap.SameBut d h h') : NestAre knd h' ks vs := by
  induction x with
  | nil => exact .nil
  | cons h1 _ ih => exact .cons (h1.keeps ho hd hs) ih
theorem IsNestKey.keeps {h h' : Heap} {ks : List (List K)} {a d : Addr} {o : Obj} {es ep} (x : IsNestKey knd h ks a) (ho : h.get? d = some o) (hd : o.data = .dict es ep) (hs : Heap.SameBut d h h') : IsNestKey knd h' ks a := by
  obtain ⟨o', items, n, ho', hc, hd', hi⟩ := x
  have hne : a ≠ d := by
    rintro rfl
    obtain rfl : o' = o := Option.some.inj (ho'.symm.trans ho)
    rw [hd] at hd'; exact nomatch hd'
  exact ⟨o', items, n, (hs.2 a hne).trans ho', hc, hd', hi.keeps ho hd hs⟩
noncomputable def nestHash (knd : KeyKind prog w K) (ks : List (List K)) : Int := reduceHash (Builtin.Tuple.tupleHashOf (ks.map (tupleKeyHash knd)))
noncomputable def nestDraws : List (List K) → Nat
  | [] => 0
  | k :: ks => k.length + 1 + nestDraws ks
theorem nestDraws_app (a b : List (List K)) : nestDraws (a ++ b) = nestDraws a + nestDraws b := by
  induction a with
  | nil => simp [nestDraws]
  | cons x t ih => rw [List.cons_append, nestDraws, nestDraws, ih]; omega
variable {A : Around} {E : Value → Shared → Prop} {s : Shared}
theorem wpAny_pyHash_nest {ks : List (List K)} {a : Addr} {Q : Int → Shared → Prop} (hu : A.units + 64 < cLine) (hk : IsNestKey knd s.heap ks a) (h : Q (nestHash knd ks) { s with toks := s.toks + (nestDraws ks + 1) }) :
    wpAny (model prog w) A (pyHash (.ref a)) Q E s := by
  have hT := hk.typeIs
  obtain ⟨o, items, n, ho, _, hd, hi⟩ := hk
  unfold pyHash
  first | unfold pyHashByItsType | skip
  first | refine wpAny_bind (wpAny_cRoomFor_or (.inr (by omega)) ?_) | skip
  refine wpAny_bind (wpAny_specialOf hT F.slot_tuple_hash.lookup ?_)
  show wpAny _ _ (if (some (Value.builtin "tuple.__hash__") == some Value.none) = true then _ else _) Q E s
  rw [if_neg (by rw [beq_builtin_none]; exact Bool.false_ne_true)]
  refine wpAny_bind (wpAny_specialOf hT F.slot_tuple_hash.lookup ?_)
  show wpAny _ _ (callSpecialIfBoundUnlessNone? (.ref a) "__hash__" _ >>= _) Q E s
  refine wpAny_bind (wpAny_callSpecialIfBoundUnlessNone?_slot hT F.slot_tuple_hash (wpAny_call_entry F.slot_tuple_hash hT F.entry_tuple_hash ?_ (F.args_tuple_hash_1 _)))
  show wpAny _ _ (Builtin.Tuple.tupleItemsOf (.ref a) >>= _) _ _ s
  refine wpAny_bind (wpAny_tupleItemsOf ho hd ?_)
  refine wpAny_bind ?_
  rw [← Array.forIn_toList]
  refine wpAny_forIn_list _
    (fun rest (b : Array Int) s' => ∃ done left, ks = done ++ left ∧ NestAre knd s.heap left rest ∧ b.toList = done.map (tupleKeyHash knd) ∧ s' = { s with toks := s.toks + nestDraws done })
    _ ?_ ?_ _ _ ⟨[], ks, rfl, hi, rfl, rfl⟩
  · rintro x rest b s' ⟨done, left, rfl, hl, hb, rfl⟩
    cases hl with
    | @cons k _ ks' _ h1 hl' =>
      refine wpAny_bind (wpAny_pyHash_tuple (ks := k) (by first | omega | (show _ + _ < _; omega)) h1 ?_)
      have e : nestDraws (done ++ [k]) = nestDraws done + (k.length + 1) := by rw [nestDraws_app]; rfl
      first
        | exact wpAny_pure ⟨done ++ [k], ks', by simp, hl', by simp [hb], by rw [e]; simp [Nat.add_assoc]⟩
        | exact wpAny_bind (wpAny_pure (wpAny_pure ⟨done ++ [k], ks', by simp, hl', by simp [hb], by rw [e]; simp [Nat.add_assoc]⟩))
  · rintro b s' ⟨done, left, rfl, hl, hb, rfl⟩
    cases hl
    rw [List.append_nil] at h
    show wpAny _ _ (retInt (Builtin.Tuple.tupleHashOf b.toList)) _ _ _
    rw [hb]
    refine wpAny_ret_mkInt ?_
    show wpAny _ _ (if (decide (-(2 : Int) ^ 63 ≤ Builtin.Tuple.tupleHashOf (done.map (tupleKeyHash knd))) && decide (Builtin.Tuple.tupleHashOf (done.map (tupleKeyHash knd)) < 2 ^ 63)) = true then _ else _) Q E _
    unfold nestHash reduceHash at h
    by_cases hr : (decide (-(2 : Int) ^ 63 ≤ Builtin.Tuple.tupleHashOf (done.map (tupleKeyHash knd))) && decide (Builtin.Tuple.tupleHashOf (done.map (tupleKeyHash knd)) < 2 ^ 63)) = true
    · rw [if_pos hr]
      rw [if_pos hr] at h
      exact wpAny_pure (by simpa [Nat.add_assoc] using h)
    · rw [if_neg hr]
      rw [if_neg hr] at h
      exact wpAny_bind (wpAny_rule (wpAny_pure (by simpa [Nat.add_assoc] using h)))
theorem nest_eq_tree {x y : List (List K)} {a b : Addr} {P : Fin → Shared → Prop} (hu : A.units + 8 < cLine) (hx : IsNestKey knd s.heap x a) (hy : IsNestKey knd s.heap y b) (h : P (.done (.ret (.bool (decide (x = y))))) s) :
    wpAny (model prog w) A (Builtin.«tuple.__eq__» ⟨[.ref a, .ref b], []⟩) P E s := by
  have hTb := hy.typeIs
  obtain ⟨oa, xs, na, hoa, _, hda, hia⟩ := hx
  obtain ⟨ob, ys, nb, hob, _, hdb, hib⟩ := hy
  show wpAny _ _ (isInstance (.ref b) (.type "tuple") >>= _) _ _ s
  refine wpAny_bind (wpAny_isInstance hTb isSubtype_tuple_tuple ?_)
  simp only [Bool.not_true, Bool.false_eq_true, if_false]
  refine wpAny_bind (wpAny_tupleItemsOf hoa hda ?_)
  refine wpAny_bind (wpAny_tupleItemsOf hob hdb ?_)
  refine wpAny_bind ?_
  refine wpAny_forIn_list _
    (fun rest r s' => r.1 = none ∧ s' = s ∧ ∃ x' y' xs' ys', rest = List.zip xs' ys' ∧ NestAre knd s.heap x' xs' ∧ NestAre knd s.heap y' ys' ∧ decide (x' = y') = decide (x = y) ∧ (xs'.length == ys'.length) = (xs.size == ys.size))
    _ ?_ ?_ _ _ ⟨rfl, rfl, x, y, xs.toList, ys.toList, rfl, hia, hib, rfl, by simp⟩
  · rintro ⟨u, v⟩ rest r s' ⟨hr, rfl, x', y', xs', ys', hz, hx', hy', hdec, hlen⟩
    cases hx' with
    | nil => simp at hz
    | @cons k1 u' x'' xs'' h1 hx'' =>
      cases hy' with
      | nil => simp at hz
      | @cons k2 v' y'' ys'' h2 hy'' =>
        simp only [List.zip_cons_cons, List.cons.injEq, Prod.mk.injEq] at hz
        obtain ⟨⟨rfl, rfl⟩, rfl⟩ := hz
        refine wpAny_bind (wpAny_eqBool_tuple (x := k1) (y := k2) (by omega) h1 h2 ?_)
        by_cases hk : k1 = k2
        · subst hk
          rw [decide_eq_true rfl]
          simp only [Bool.not_true, Bool.false_eq_true, if_false]
          refine wpAny_pure ⟨rfl, rfl, x'', y'', xs'', ys'', rfl, hx'', hy'', ?_, by simpa using hlen⟩
          rw [← hdec]
          by_cases hxy : x'' = y''
          · simp [hxy]
          · simp [hxy]
        · rw [decide_eq_false hk]
          simp only [Bool.not_false, if_true]
          have hf : decide (x = y) = false := by rw [← hdec]; simp [hk]
          rw [hf] at h
          exact wpAny_bind (wpAny_pure (wpAny_pure (wpAny_pure h)))
  · rintro ⟨r1, r2⟩ s' ⟨hr, rfl, x', y', xs', ys', hz, hx', hy', hdec, hlen⟩
    simp only at hr
    subst hr
    refine wpAny_pure ?_
    have hfin : (xs.size == ys.size) = decide (x = y) := by
      rw [← hdec, ← hlen]
      cases hx' with
      | nil =>
        cases hy' with
        | nil => simp
        | cons _ _ => simp
      | cons _ _ =>
        cases hy' with
        | nil => simp
        | cons _ _ => simp at hz
    show P (.done (.ret (.bool (xs.size == ys.size)))) s'
    rw [hfin]; exact h
theorem wpAny_eqBool_nest {x y : List (List K)} {a b : Addr} {Q : Bool → Shared → Prop} (hu : A.units + 64 < cLine) (hx : IsNestKey knd s.heap x a) (hy : IsNestKey knd s.heap y b) (h : Q (decide (x = y)) s) :
    wpAny (model prog w) A (eqBool (.ref a) (.ref b)) Q E s := by
  unfold eqBool
  try with_reducible refine wpAny_holding ?_
  show wpAny _ _ (if (Value.ref a == Value.ref b) = true then _ else _) Q E s
  by_cases hab : (Value.ref a == Value.ref b) = true
  · rw [if_pos hab]
    have e : a = b := by have := eq_of_beq hab; injection this
    subst e
    obtain rfl := hx.inj hy
    exact wpAny_bind (wpAny_rule (wpAny_pure (by simpa using h)))
  · rw [if_neg hab]
    exact wpAny_bind (wpAny_richCompare_same_room (op := .Eq) hx.typeIs hy.typeIs F.slot_tuple_eq
      (wpAny_call_entry F.slot_tuple_eq hx.typeIs F.entry_tuple_eq (nest_eq_tree (by first | omega | (show _ + _ < _; simp [Around.in1]; omega)) hx hy ⟨_, rfl, (fun e => nomatch e), wpAny_truthy_bool h⟩) (F.args_tuple_eq_2 _ _)) (by omega))
theorem wpAny_quiet_tuple (m : Nat) {ks : List K} {a : Addr} {Q : Bool → Shared → Prop} (hk : IsTupleKey knd s.heap ks a) (h : Q true s) : wpAny (model prog w) A (eqIsQuiet (m + 1) (.ref a)) Q E s := by
  have hT := hk.typeIs
  obtain ⟨o, items, n, ho, _, hd, hi⟩ := hk
  unfold eqIsQuiet
  refine wpAny_bind (wpAny_specialOf hT F.slot_tuple_eq.lookup ?_)
  show wpAny _ _ (isInstance (.ref a) (.type "tuple") >>= _) _ _ s
  refine wpAny_bind (wpAny_isInstance hT isSubtype_tuple_tuple ?_)
  simp only [Bool.not_true, Bool.false_eq_true, if_false]
  refine wpAny_bind (wpAny_seqItems ho hd ?_)
  refine wpAny_bind ?_
  show wpAny _ _ (forIn items _ _) _ _ s
  rw [← Array.forIn_toList]
  refine wpAny_forIn_list _ (fun rest r s' => r.1 = none ∧ s' = s ∧ ∀ v ∈ rest, carriedByValue v = true) _ ?_ ?_ _ _ ⟨rfl, rfl, hi.byValue⟩
  · rintro v rest r s' ⟨hr, rfl, hall⟩
    rw [eqIsQuiet_byValue _ (hall v List.mem_cons_self)]
    refine wpAny_bind (wpAny_pure ?_)
    simp only [Bool.not_true, Bool.false_eq_true, if_false]
    exact wpAny_pure ⟨rfl, rfl, fun u hu' => hall u (List.mem_cons_of_mem _ hu')⟩
  · rintro ⟨r1, r2⟩ s' ⟨hr, rfl, _⟩
    simp only at hr
    subst hr
    exact wpAny_pure h
theorem wpAny_quiet_nest (m : Nat) {ks : List (List K)} {a : Addr} {Q : Bool → Shared → Prop} (hk : IsNestKey knd s.heap ks a) (h : Q true s) : wpAny (model prog w) A (eqIsQuiet (m + 2) (.ref a)) Q E s := by
  have hT := hk.typeIs
  obtain ⟨o, items, n, ho, _, hd, hi⟩ := hk
  unfold eqIsQuiet
  refine wpAny_bind (wpAny_specialOf hT F.slot_tuple_eq.lookup ?_)
  show wpAny _ _ (isInstance (.ref a) (.type "tuple") >>= _) _ _ s
  refine wpAny_bind (wpAny_isInstance hT isSubtype_tuple_tuple ?_)
  simp only [Bool.not_true, Bool.false_eq_true, if_false]
  refine wpAny_bind (wpAny_seqItems ho hd ?_)
  refine wpAny_bind ?_
  show wpAny _ _ (forIn items _ _) _ _ s
  rw [← Array.forIn_toList]
  refine wpAny_forIn_list _ (fun rest r s' => r.1 = none ∧ s' = s ∧ ∃ x', NestAre knd s.heap x' rest) _ ?_ ?_ _ _ ⟨rfl, rfl, _, hi⟩
  · rintro v rest r s' ⟨hr, rfl, x', hall⟩
    cases hall with
    | cons h1 ht =>
      refine wpAny_bind (wpAny_quiet_tuple m h1 ?_)
      simp only [Bool.not_true, Bool.false_eq_true, if_false]
      exact wpAny_pure ⟨rfl, rfl, _, ht⟩
  · rintro ⟨r1, r2⟩ s' ⟨hr, rfl, _⟩
    simp only at hr
    subst hr
    exact wpAny_pure h
end
noncomputable def nestKind {prog : Program} {w : World} {K : Type} [DecidableEq K] (knd : KeyKind prog w K) : HeapKind prog w (List (List K)) where
  is := IsNestKey knd
  hash := nestHash knd
  draws := fun ks => nestDraws ks + 1
  room := fun A => A.units + 64 < cLine
  inj := fun hx hy => hx.inj hy
  keeps := fun x ho hd hs => x.keeps ho hd hs
  pyHash := fun hu hk h => wpAny_pyHash_nest hu hk h
  eqBool := fun hu hx hy h => wpAny_eqBool_nest hu hx hy h
  quiet := fun hk h => wpAny_quiet_nest 6 hk h
end PySem
namespace L2
open PySem PySem.Spec PyProof.Rows
theorem KN.val {K : PySem.W.Frag} {H : Hp} {kvs : List (NKey × V)} {xs : List (NKey × Addr × Value)} (r : KN K H kvs xs) (k : NKey) : RelO (valV kvs k) ((atKey xs k).map (·.2)) := by
  induction r with
  | nil => exact True.intro
  | @cons p q ps qs h t ih =>
    obtain ⟨h1, _, h2⟩ := h
    by_cases e : p.1 = k
    · have e' : q.1 = k := h1.symm.trans e
      have b : atKey (q :: qs) k = some q.2 := by simp [atKey, List.find?_cons, e']
      rw [valV_pos e, b]; exact h2
    · have e' : ¬ q.1 = k := fun z => e (h1.trans z)
      have b : atKey (q :: qs) k = atKey qs k := by simp [atKey, List.find?_cons, e']
      rw [valV_neg e, b]; exact ih
theorem KN.repl {K : PySem.W.Frag} {H : Hp} {kvs : List (NKey × V)} {xs : List (NKey × Addr × Value)} (r : KN K H kvs xs) (k : NKey) {y : V} {u : Value} (ry : RelV y u) :
    KN K H (kvs.map fun kv => if kv.1 = k then (kv.1, y) else kv) (xs.map (putAt k u)) := by
  induction r with
  | nil => exact .nil
  | @cons p q ps qs h t ih =>
    rw [List.map_cons, List.map_cons]
    refine .cons ?_ ih
    obtain ⟨h1, h2, h3⟩ := h
    unfold putAt
    by_cases e : p.1 = k
    · rw [if_pos e, if_pos (h1.symm.trans e)]; exact ⟨h1, h2, ry⟩
    · rw [if_neg e, if_neg (fun z => e (h1.trans z))]; exact ⟨h1, h2, h3⟩
theorem KN.put {K : PySem.W.Frag} {H : Hp} {kvs : List (NKey × V)} {xs : List (NKey × Addr × Value)} (r : KN K H kvs xs) (k : NKey) {b : Addr} {y : V} {u : Value} (hb : NTup K H k b) (ry : RelV y u) :
    KN K H (putK kvs k y) (storedH xs k b u) := by
  have e : (kvs.any fun kv => decide (kv.1 = k)) = (atKey xs k).isSome := by
    rw [valV_any, (r.val k).isSome_eq, Option.isSome_map]
  unfold putK storedH
  rw [e]
  by_cases q : (atKey xs k).isSome = true
  · rw [if_pos q, if_pos q]; exact r.repl k ry
  · rw [if_neg q, if_neg q]; exact Paired.snoc r ⟨rfl, hb, ry⟩
theorem ref_vals : ∀ {cs : List Addr} {us : List Value}, Vals (cs.map V.ref) us → us = cs.map Value.ref
  | [], _, r => by rw [List.map_nil] at r; cases r; rfl
  | c :: cs, _, r => by
    rw [List.map_cons] at r
    cases r with
    | @cons _ u _ us h t =>
      cases (show u = Value.ref c from h)
      rw [ref_vals t]; rfl
theorem int_items {P : Program} {w : World} : ∀ {ks : List Int} {us : List Value}, Vals (ks.map V.int) us → ItemsAre (intKind P w) ks us
  | [], _, r => by rw [List.map_nil] at r; cases r; exact .nil
  | k :: ks, _, r => by
    rw [List.map_cons] at r
    cases r with
    | @cons _ u _ us h t =>
      obtain ⟨n, e⟩ := (show ∃ t, u = Value.int k t from h)
      subst e
      exact .cons (by show Value.isInt k (.int k n) = true; simp [Value.isInt]) (int_items t)
theorem nd_ok {P : Program} {w : World} {a : Addr} {H' : Hp} {h' : Heap} {xs : List (NKey × Addr × Value)} (z : xs.length ≤ sizeLine) (hd : (a == sysModules) = false) (dd : h'.DictOfH (nestKind (intKind P w)) a xs) : ObjOk P w H' h' a (NDict a xs) := by
  obtain ⟨o, es, ep, h1, h2, h3, h4, _, h5⟩ := dd
  exact ⟨⟨z, hd, h5, o, es, ep, h1, h2, h3, h4⟩, ⟨o, h1⟩, fun g1 g2 ⟨a1, a2, a3, o', es', ep', b1, b2⟩ k => ⟨a1, a2, a3, o', es', ep', k _ b1, b2⟩⟩
section
variable {X : Cx} {pins : List (Addr × Obj)} {σ : St} {H : Hp} {s : Shared} {a b : Addr} {v : V} {u r : Value} {A : Around} {E : Value → Shared → Prop} {kvs : List (NKey × V)} {xs : List (NKey × Addr × Value)} {k : NKey}
theorem ikey_of {ks : List Int} (I : Inv X pins σ H s) (e : SqT X.K H a (ks.map V.int)) : (tupleKind (intKind X.prog X.w)).is s.heap ks a := by
  obtain ⟨its, r, ⟨o, h1, h2, n, h3⟩, _⟩ := I.tuple e
  exact ⟨o, its.toArray, n, h1, h2, h3, by simpa using int_items r⟩
theorem nest_are {ks : NKey} {cs : List Addr} (I : Inv X pins σ H s) (r : Paired (fun (k : List Int) c => SqT X.K H c (k.map V.int)) ks cs) : NestAre (intKind X.prog X.w) s.heap ks (cs.map Value.ref) := by
  induction r with
  | nil => exact .nil
  | cons h1 _ ih => exact .cons (ikey_of I h1) ih
theorem nkey_of {ks : NKey} (I : Inv X pins σ H s) (n : NTup X.K H ks a) : (nestKind (intKind X.prog X.w)).is s.heap ks a := by
  obtain ⟨cs, e, r⟩ := n
  obtain ⟨its, r2, ⟨o, h1, h2, n, h3⟩, _⟩ := I.tuple e
  exact ⟨o, its.toArray, n, h1, h2, h3, by rw [ref_vals r2]; simpa using nest_are I r⟩
theorem nd_of (I : Inv X pins σ H s) (e : H a = some (NDict a xs)) (r : KN X.K H kvs xs) : kvs.length ≤ sizeLine ∧ (a == sysModules) = false ∧ s.heap.DictOfH (nestKind (intKind X.prog X.w)) a xs := by
  obtain ⟨⟨z, y, h5, o, es, ep, h1, h2, h3, h4⟩, _⟩ := (show ObjOk X.prog X.w H s.heap a (NDict a xs) from I.hok a _ e)
  refine ⟨by rw [Paired.length r]; exact z, y, o, es, ep, h1, h2, h3, h4, fun x hx => ?_, h5⟩
  have all : ∀ {l : List (NKey × V)} {m : List (NKey × Addr × Value)}, KN X.K H l m → ∀ x ∈ m, (nestKind (intKind X.prog X.w)).is s.heap x.1 x.2.1 := by
    intro l m q
    induction q with
    | nil => intro x hx; exact nomatch hx
    | @cons p q ps qs hq t ih =>
      intro x hx
      rcases List.mem_cons.mp hx with e | hx
      · subst e
        exact nkey_of I (by rw [← hq.1]; exact hq.2.1)
      · exact ih x hx
  exact all r x hx
theorem n_room (hu : A.units + 65 < cLine) : (nestKind (intKind X.prog X.w)).room A.in1 := show A.units + 1 + 64 < cLine by omega
theorem n_getItem {Q : Value → Shared → Prop} (hu : A.units + 65 < cLine) (I : Inv X pins σ H s) (e : H a = some (NDict a xs)) (rel : KN X.K H kvs xs) (eb : NTup X.K H k b) (l : valV kvs k = some v) (h : ∀ w' s', Inv X pins σ H s' → RelV v w' → Q w' s') :
    wpAny (model X.prog X.w) A (getItem (.ref a) (.ref b)) Q E s := by
  obtain ⟨z, hd, dd⟩ := nd_of I e rel
  obtain ⟨w', hw, rw'⟩ := RelO.some_of (v := v) (o := (atKey xs k).map (·.2)) (by rw [← l]; exact rel.val k)
  obtain ⟨p, hp, hp2⟩ := Option.map_eq_some_iff.mp hw
  refine wpAny_getItem_heap (n_room hu) (nkey_of I eb) dd hp ?_
  rw [hp2]
  exact h w' _ (I.tok _) rw'
theorem n_notIn {Q : Value → Shared → Prop} (hu : A.units + 65 < cLine) (I : Inv X pins σ H s) (e : H a = some (NDict a xs)) (rel : KN X.K H kvs xs) (eb : NTup X.K H k b) (h : ∀ s', Inv X pins σ H s' → Q (.bool (!(valV kvs k).isSome)) s') :
    wpAny (model X.prog X.w) A (compareOp .NotIn (.ref b) (.ref a)) Q E s := by
  obtain ⟨z, hd, dd⟩ := nd_of I e rel
  refine wpAny_notIn_heap (n_room hu) (nkey_of I eb) hd dd ?_
  have q := (rel.val k).isSome_eq
  rw [Option.isSome_map] at q
  rw [← q]
  exact h _ (I.tok _)
theorem n_setItem {Q : Unit → Shared → Prop} (hu : A.units + 65 < cLine) (I : Inv X pins σ H s) (e : H a = some (NDict a xs)) (rel : KN X.K H kvs xs) (eb : NTup X.K H k b) (rv : RelV v r) (hl : kvs.length < sizeLine)
    (h : ∀ s', Inv X pins σ (upd H a (NDict a (storedH xs k b r))) s' → Q () s') : wpAny (model X.prog X.w) A (setItem (.ref a) (.ref b) r) Q E s := by
  obtain ⟨z, hd, dd⟩ := nd_of I e rel
  have hz : xs.length ≤ sizeLine := by rw [← Paired.length rel]; exact z
  refine wpAny_setItem_heap (hsz := hz) (n_room hu) (nkey_of I eb) dd fun h' dd' hs => ?_
  have hl2 : (storedH xs k b r).length ≤ sizeLine := by have := length_putK kvs k v; rw [← Paired.length (rel.put k eb rv)]; omega
  have he : ∃ q, h'.get? a = some q := let ⟨q, _, _, hq, _⟩ := dd'; ⟨q, hq⟩
  exact h _ (d_write I (by rw [e]; exact True.intro) hs he (nd_ok hl2 hd dd'))
theorem n_new (I : Inv X pins σ H s) (e : H a = some (.dK [])) : Inv X pins σ (upd H a (NDict a [])) s := by
  obtain ⟨z, hd, vs, rel, dd⟩ := dk_of I.hok e
  cases rel
  obtain ⟨o, es, ep, h1, h2, h3, _, h4, _⟩ := dd
  have hes : es.toList = [] := by cases h : es.toList with
    | nil => rfl
    | cons x t => rw [h] at h4; cases h4
  exact d_write (t' := s.toks) I (by rw [e]; exact True.intro) ⟨rfl, fun _ _ => rfl⟩ ⟨o, h1⟩ (nd_ok (P := X.prog) (w := X.w) (Nat.zero_le _) hd ⟨o, es, ep, h1, h2, h3, by rw [hes]; rfl, fun x hx => (nomatch hx), List.nodup_nil⟩)
end
end L2
namespace L3
open PySem PySem.Spec PyProof.Rows L2
structure Exn where
  cls : Str
  arg : Option PyData
inductive Res (α : Type) where
  | ok (a : α)
  | err (x : Exn)
  | bad
noncomputable def Res.bind {α β : Type} : Res α → (α → Res β) → Res β
  | .ok a, f => f a
  | .err x, _ => .err x
  | .bad, _ => .bad
@[simp] theorem Res.ok_bind {α β : Type} (a : α) (f : α → Res β) : (Res.ok a).bind f = f a := rfl
@[simp] theorem Res.err_bind {α β : Type} (x : Exn) (f : α → Res β) : (Res.err x : Res α).bind f = .err x := rfl
@[simp] theorem Res.bad_bind {α β : Type} (f : α → Res β) : (Res.bad : Res α).bind f = .bad := rfl
theorem Res.bind_ok {α β : Type} {r : Res α} {f : α → Res β} {b : β} (h : r.bind f = .ok b) : ∃ a, r = .ok a ∧ f a = .ok b := by
  cases r with
  | ok a => exact ⟨a, rfl, h⟩
  | err x => cases h
  | bad => cases h
noncomputable def gd {α : Type} (c : Prop) [Decidable c] (r : Res α) : Res α := if c then r else .bad
theorem gd_ok {α : Type} {c : Prop} [Decidable c] {r : Res α} {a : α} (h : gd c r = .ok a) : c ∧ r = .ok a := by
  unfold gd at h
  by_cases hc : c
  · rw [if_pos hc] at h; exact ⟨hc, h⟩
  · rw [if_neg hc] at h; cases h
theorem gd_pos {α : Type} {c : Prop} [Decidable c] {r : Res α} (h : c) : gd c r = r := if_pos h
noncomputable abbrev Ev := List (Option PyData)
inductive Out where
  | nx (Γ : Ev)
  | rt (d : PyData)
  | bk (Γ : Ev)
  | ct (Γ : Ev)
noncomputable abbrev ME := Ev → Res PyData
noncomputable abbrev MS := Ev → Res Out
noncomputable def keyD : PyData → Option Key
  | .int i => some (.inl i)
  | .str x => some (.inr x)
  | _ => none
mutual
noncomputable def Rp (K : PySem.W.Frag) (A : Hp) : PyData → V → Prop
  | .none, v => v = .non
  | .bool b, v => v = .bl b
  | .int i, v => v = .int i
  | .str x, v => v = .str x
  | .list ds, v => ∃ a vs, v = .ref a ∧ SqL K A a vs ∧ RpAll K A ds vs
  | .tuple ds, v => ∃ a vs, v = .ref a ∧ SqT K A a vs ∧ RpAll K A ds vs
  | .dict kvs, v => ∃ a u, v = .ref a ∧ A a = some (.dK u) ∧ RpKV K A kvs u
noncomputable def RpAll (K : PySem.W.Frag) (A : Hp) : List PyData → List V → Prop
  | [], vs => vs = []
  | d :: ds, vs => ∃ v r, vs = v :: r ∧ Rp K A d v ∧ RpAll K A ds r
noncomputable def RpKV (K : PySem.W.Frag) (A : Hp) : List (PyData × PyData) → List (Key × V) → Prop
  | [], u => u = []
  | (k, d) :: r, u => ∃ key v u', u = (key, v) :: u' ∧ keyD k = some key ∧ Rp K A d v ∧ RpKV K A r u'
end
mutual
theorem Rp.mono {K : PySem.W.Frag} {H H' : Hp} (e : Same H H') : ∀ (d : PyData) {v : V}, Rp K H d v → Rp K H' d v
  | .none, v, h => by rw [Rp] at h ⊢; exact h
  | .bool _, v, h => by rw [Rp] at h ⊢; exact h
  | .int _, v, h => by rw [Rp] at h ⊢; exact h
  | .str _, v, h => by rw [Rp] at h ⊢; exact h
  | .list ds, v, h => by
    rw [Rp] at h ⊢
    obtain ⟨a, vs, h1, h2, h3⟩ := h
    exact ⟨a, vs, h1, e.seq h2, RpAll.mono e ds h3⟩
  | .tuple ds, v, h => by
    rw [Rp] at h ⊢
    obtain ⟨a, vs, h1, h2, h3⟩ := h
    exact ⟨a, vs, h1, e.seqT h2, RpAll.mono e ds h3⟩
  | .dict kvs, v, h => by
    rw [Rp] at h ⊢
    obtain ⟨a, u, h1, h2, h3⟩ := h
    exact ⟨a, u, h1, e _ _ h2, RpKV.mono e kvs h3⟩
theorem RpAll.mono {K : PySem.W.Frag} {H H' : Hp} (e : Same H H') : ∀ (ds : List PyData) {vs : List V}, RpAll K H ds vs → RpAll K H' ds vs
  | [], vs, h => by rw [RpAll] at h ⊢; exact h
  | d :: ds, vs, h => by
    rw [RpAll] at h ⊢
    obtain ⟨v, r, h1, h2, h3⟩ := h
    exact ⟨v, r, h1, Rp.mono e d h2, RpAll.mono e ds h3⟩
theorem RpKV.mono {K : PySem.W.Frag} {H H' : Hp} (e : Same H H') : ∀ (kvs : List (PyData × PyData)) {u : List (Key × V)}, RpKV K H kvs u → RpKV K H' kvs u
  | [], u, h => by rw [RpKV] at h ⊢; exact h
  | (k, d) :: r, u, h => by
    rw [RpKV] at h ⊢
    obtain ⟨key, v, u', h1, h2, h3, h4⟩ := h
    exact ⟨key, v, u', h1, h2, Rp.mono e d h3, RpKV.mono e r h4⟩
end
mutual
theorem Rp.is {K : PySem.W.Frag} {H : Hp} : ∀ (d : PyData) {v : V}, d.canLay0 = true → Rp K H d v → Is K H d v
  | .none, v, _, h => by rw [Rp] at h; rw [Is]; exact h
  | .bool _, v, _, h => by rw [Rp] at h; rw [Is]; exact h
  | .int _, v, _, h => by rw [Rp] at h; rw [Is]; exact h
  | .str _, v, _, h => by rw [Rp] at h; rw [Is]; exact h
  | .list ds, v, c, h => by
    rw [Rp] at h; rw [Is]
    rw [PyData.canLay0] at c
    obtain ⟨a, vs, h1, h2, h3⟩ := h
    exact ⟨a, vs, h1, h2, RpAll.is ds c h3⟩
  | .tuple ds, v, c, h => by
    rw [Rp] at h; rw [Is]
    rw [PyData.canLay0] at c
    obtain ⟨a, vs, h1, h2, h3⟩ := h
    exact ⟨a, vs, h1, h2, RpAll.is ds c h3⟩
  | .dict _, v, c, h => by rw [PyData.canLay0] at c; cases c
theorem RpAll.is {K : PySem.W.Frag} {H : Hp} : ∀ (ds : List PyData) {vs : List V}, PyData.canLayAll0 ds = true → RpAll K H ds vs → IsAll K H ds vs
  | [], vs, _, h => by rw [RpAll] at h; rw [IsAll]; exact h
  | d :: ds, vs, c, h => by
    rw [RpAll] at h; rw [IsAll]
    rw [PyData.canLayAll0, Bool.and_eq_true] at c
    obtain ⟨v, r, h1, h2, h3⟩ := h
    exact ⟨v, r, h1, Rp.is d c.1 h2, RpAll.is ds c.2 h3⟩
end
section
variable {K : PySem.W.Frag} {A H : Hp} {v : V}
theorem Rp.int {i : Int} : Rp K A (.int i) v ↔ v = .int i := by rw [Rp]
theorem Rp.bool {b : Bool} : Rp K A (.bool b) v ↔ v = .bl b := by rw [Rp]
theorem Rp.none : Rp K A .none v ↔ v = .non := by rw [Rp]
theorem Rp.str {x : Str} : Rp K A (.str x) v ↔ v = .str x := by rw [Rp]
theorem Rp.list {ds : List PyData} : Rp K A (.list ds) v ↔ ∃ a vs, v = .ref a ∧ SqL K A a vs ∧ RpAll K A ds vs := by rw [Rp]
theorem Rp.tuple {ds : List PyData} : Rp K A (.tuple ds) v ↔ ∃ a vs, v = .ref a ∧ SqT K A a vs ∧ RpAll K A ds vs := by rw [Rp]
theorem RpAll.nil {vs : List V} : RpAll K A [] vs ↔ vs = [] := by rw [RpAll]
theorem RpAll.cons {d : PyData} {ds : List PyData} {vs : List V} : RpAll K A (d :: ds) vs ↔ ∃ v r, vs = v :: r ∧ Rp K A d v ∧ RpAll K A ds r := by rw [RpAll]
theorem RpAll.length : ∀ {ds : List PyData} {vs : List V}, RpAll K A ds vs → ds.length = vs.length
  | [], vs, h => by rw [RpAll.nil] at h; rw [h]; rfl
  | d :: ds, vs, h => by
    rw [RpAll.cons] at h
    obtain ⟨v, r, rfl, _, h⟩ := h
    rw [List.length_cons, List.length_cons, RpAll.length h]
theorem RpAll.get : ∀ {ds : List PyData} {vs : List V} {i : Nat} {x : V}, RpAll K A ds vs → vs[i]? = some x → ∃ d, ds[i]? = some d ∧ Rp K A d x
  | [], vs, i, x, h, e => by rw [RpAll.nil] at h; subst h; simp at e
  | d :: ds, vs, i, x, h, e => by
    rw [RpAll.cons] at h
    obtain ⟨v, r, rfl, h1, h⟩ := h
    match i with
    | 0 => simp at e; subst e; exact ⟨d, rfl, h1⟩
    | i + 1 =>
      have e' : r[i]? = some x := by simpa using e
      obtain ⟨d', h2, h3⟩ := RpAll.get h e'
      exact ⟨d', by simpa using h2, h3⟩
theorem RpAll.get' : ∀ {ds : List PyData} {vs : List V} {i : Nat} {d : PyData}, RpAll K A ds vs → ds[i]? = some d → ∃ x, vs[i]? = some x ∧ Rp K A d x
  | [], vs, i, x, h, e => by simp at e
  | d :: ds, vs, i, x, h, e => by
    rw [RpAll.cons] at h
    obtain ⟨v, r, rfl, h1, h⟩ := h
    match i with
    | 0 => simp at e; subst e; exact ⟨v, rfl, h1⟩
    | i + 1 =>
      have e' : ds[i]? = some x := by simpa using e
      obtain ⟨d', h2, h3⟩ := RpAll.get' h e'
      exact ⟨d', by simpa using h2, h3⟩
theorem RpAll.append : ∀ {ds es : List PyData} {vs us : List V}, RpAll K A ds vs → RpAll K A es us → RpAll K A (ds ++ es) (vs ++ us)
  | [], es, vs, us, h, g => by rw [RpAll.nil] at h; subst h; exact g
  | d :: ds, es, vs, us, h, g => by
    rw [RpAll.cons] at h
    obtain ⟨v, r, rfl, h1, h⟩ := h
    rw [List.cons_append, List.cons_append, RpAll.cons]
    exact ⟨v, r ++ us, rfl, h1, RpAll.append h g⟩
theorem RpAll.one {d : PyData} {x : V} (h : Rp K A d x) : RpAll K A [d] [x] := by rw [RpAll.cons]; exact ⟨x, [], rfl, h, RpAll.nil.mpr rfl⟩
theorem RpAll.reverse : ∀ {ds : List PyData} {vs : List V}, RpAll K A ds vs → RpAll K A ds.reverse vs.reverse
  | [], vs, h => by rw [RpAll.nil] at h; subst h; exact RpAll.nil.mpr rfl
  | d :: ds, vs, h => by
    rw [RpAll.cons] at h
    obtain ⟨v, r, rfl, h1, h⟩ := h
    rw [List.reverse_cons, List.reverse_cons]
    exact (RpAll.reverse h).append (RpAll.one h1)
theorem RpAll.ints {ns : List Int} : RpAll K A (ns.map PyData.int) (ns.map V.int) := by
  induction ns with
  | nil => exact RpAll.nil.mpr rfl
  | cons n ns ih => exact RpAll.cons.mpr ⟨_, _, rfl, Rp.int.mpr rfl, ih⟩
end
inductive Fl where
  | imm | bor | own | fix (p : Addr) | exc (C : Addr) | nst (b : Bool)
  deriving DecidableEq
noncomputable def isO : Fl → Bool
  | .own => true
  | .fix _ => true
  | _ => false
noncomputable def isX : Fl → Bool
  | .exc _ => true
  | .nst _ => true
  | _ => false
noncomputable def ExcV (A : Hp) (C : Addr) (v : V) : Prop := ∃ p ob, v = .ref p ∧ A p = some (.frz ob (.own 0)) ∧ ob.cls = .ref C
noncomputable def intsD : List PyData → Option (List Int)
  | [] => some []
  | .int i :: r => match intsD r with
    | some l => some (i :: l)
    | none => none
  | _ :: _ => none
noncomputable def keysD : List PyData → Option NKey
  | [] => some []
  | .tuple ds :: r => match intsD ds, keysD r with
    | some a, some b => some (a :: b)
    | _, _ => none
  | _ :: _ => none
noncomputable def keyN : PyData → Option NKey
  | .tuple ds => keysD ds
  | _ => none
noncomputable def RpN (K : PySem.W.Frag) (A : Hp) (kvs : List (PyData × PyData)) (xs : List (NKey × Addr × Value)) : Prop := ∃ us : List (NKey × V), KN K A us xs ∧ Paired (fun p q => keyN p.1 = some q.1 ∧ Rp K A p.2 q.2) kvs us
noncomputable def NstV (K : PySem.W.Frag) (A B H : Hp) (d : PyData) (v : V) : Prop := ∃ p xs kvs, v = .ref p ∧ d = .dict kvs ∧ H p = some (NDict p xs) ∧ A p = none ∧ B p = none ∧ RpN K A kvs xs
noncomputable def Pk (K : PySem.W.Frag) (A H : Hp) (d : PyData) (v : V) : Prop :=
  Rp K A d v ∨ (∃ p vs ds, v = .ref p ∧ d = .list ds ∧ SqL K H p vs ∧ RpAll K A ds vs) ∨ ∃ p u kvs, v = .ref p ∧ d = .dict kvs ∧ H p = some (.dK u) ∧ RpKV K A kvs u
noncomputable def OwnO (K : PySem.W.Frag) (A : Hp) (d : PyData) (o : HO) : Prop := (∃ ds vs, d = .list ds ∧ o = .lst vs ∧ RpAll K A ds vs) ∨ ∃ kvs u, d = .dict kvs ∧ o = .dK u ∧ RpKV K A kvs u
noncomputable def Own (K : PySem.W.Frag) (A B H : Hp) (d : PyData) (v : V) : Prop := ∃ p o, v = .ref p ∧ H p = some o ∧ A p = none ∧ B p = none ∧ OwnO K A d o
noncomputable def SlotV (K : PySem.W.Frag) (A B H : Hp) : Fl → PyData → V → Prop
  | .imm, d, v => Rp K A d v
  | .bor, d, v => Pk K A B d v
  | .own, d, v => Own K A B H d v
  | .fix p, d, v => v = .ref p ∧ Own K A B H d v
  | .exc C, _, v => ExcV A C v
  | .nst b, d, v => b = true → NstV K A B H d v
noncomputable def Slot (K : PySem.W.Frag) (A B H : Hp) (f : Fl) (d : Option PyData) (v : Option V) : Prop := ∀ d', d = some d' → ∃ v', v = some v' ∧ SlotV K A B H f d' v'
noncomputable abbrev fl (O : List Fl) (i : Nat) : Fl := O.getD i .imm
noncomputable abbrev gv (Γ : Ev) (i : Nat) : Option PyData := Γ.getD i none
noncomputable abbrev sv (σ : L2.St) (i : Nat) : Option V := σ.getD i none
structure StRep (K : PySem.W.Frag) (A B H : Hp) (O : List Fl) (σ : L2.St) (Γ : Ev) : Prop where
  a : Same A H
  b : Same B H
  len : Γ.length = σ.length
  slot : ∀ i, Slot K A B H (fl O i) (gv Γ i) (sv σ i)
  sep : ∀ i j, i ≠ j → isO (fl O i) = true → isO (fl O j) = true → gv Γ i ≠ none → gv Γ j ≠ none → sv σ i ≠ sv σ j
noncomputable def New (A A' B : Hp) : Prop := ∀ p, A p = none → B p ≠ none → A' p = none
structure Grow (A H A' H' : Hp) : Prop where
  aa : Same A A'
  hh : Same H H'
  ah : Same A' H'
  nw : New A A' H
theorem Grow.refl {A H : Hp} (h : Same A H) : Grow A H A H := ⟨Same.refl _, Same.refl _, h, fun _ h _ => h⟩
theorem Same.ne {H H' : Hp} (e : Same H H') {p : Addr} (h : H p ≠ none) : H' p ≠ none := by
  cases q : H p with
  | none => exact absurd q h
  | some o => rw [e p o q]; simp
theorem Grow.trans {A H A1 H1 A2 H2 : Hp} (g : Grow A H A1 H1) (g' : Grow A1 H1 A2 H2) : Grow A H A2 H2 :=
  ⟨g.aa.trans g'.aa, g.hh.trans g'.hh, g'.ah, fun p h1 h2 => g'.nw p (g.nw p h1 h2) (Same.ne g.hh h2)⟩
theorem New.mono {A A' B B' : Hp} (n : New A A' B') (s : Same B B') : New A A' B := fun p h1 h2 => n p h1 (Same.ne s h2)
theorem New.trans {A A1 A2 B : Hp} (n : New A A1 B) (m : New A1 A2 B) : New A A2 B := fun p h1 h2 => m p (n p h1 h2) h2
section
variable {K : PySem.W.Frag} {A B H A' H' : Hp} {O : List Fl} {σ : L2.St} {Γ : Ev} {d : PyData} {v : V}
theorem Pk.mono (ha : Same A A') (hh : Same H H') (h : Pk K A H d v) : Pk K A' H' d v := by
  rcases h with h | ⟨p, vs, ds, e1, e2, h1, h2⟩ | ⟨p, u, kvs, e1, e2, h1, h2⟩
  · exact .inl (Rp.mono ha d h)
  · exact .inr (.inl ⟨p, vs, ds, e1, e2, hh.seq h1, RpAll.mono ha ds h2⟩)
  · exact .inr (.inr ⟨p, u, kvs, e1, e2, hh _ _ h1, RpKV.mono ha kvs h2⟩)
theorem OwnO.mono {o : HO} (ha : Same A A') (h : OwnO K A d o) : OwnO K A' d o := by
  rcases h with ⟨ds, vs, e1, e2, h⟩ | ⟨kvs, u, e1, e2, h⟩
  · exact .inl ⟨ds, vs, e1, e2, RpAll.mono ha ds h⟩
  · exact .inr ⟨kvs, u, e1, e2, RpKV.mono ha kvs h⟩
theorem RpN.mono {kvs : List (PyData × PyData)} {xs : List (NKey × Addr × Value)} (ha : Same A A') (h : RpN K A kvs xs) : RpN K A' kvs xs := by
  obtain ⟨us, h1, h2⟩ := h
  exact ⟨us, h1.keeps fun b ys e => ha.seqT e, Paired.mapP h2 fun _ _ z => ⟨z.1, Rp.mono ha _ z.2⟩⟩
theorem OwnO.nx {o : HO} {p : Addr} {xs : List (NKey × Addr × Value)} (h : OwnO K A d o) (e : some o = some (NDict p xs)) : False := by
  rcases h with ⟨ds, vs, e1, e2, h⟩ | ⟨kvs, u, e1, e2, h⟩ <;> (rw [e2] at e; cases e)
theorem SlotV.grow (g : Grow A H A' H') {f : Fl} (h : SlotV K A B H f d v) : SlotV K A' B H' f d v := by
  cases f with
  | imm => exact Rp.mono g.aa d h
  | bor => exact Pk.mono g.aa (Same.refl _) h
  | own =>
    obtain ⟨p, o, e, h1, h2, h3, h4⟩ := h
    exact ⟨p, o, e, g.hh _ _ h1, g.nw p h2 (by rw [h1]; simp), h3, h4.mono g.aa⟩
  | fix p0 =>
    obtain ⟨e0, p, o, e, h1, h2, h3, h4⟩ := h
    exact ⟨e0, p, o, e, g.hh _ _ h1, g.nw p h2 (by rw [h1]; simp), h3, h4.mono g.aa⟩
  | exc C =>
    obtain ⟨p, ob, e, h1, h2⟩ := h
    exact ⟨p, ob, e, g.aa _ _ h1, h2⟩
  | nst b =>
    intro z
    obtain ⟨p, xs, kvs, w1, w2, w3, w4, w5, w6⟩ := h z
    exact ⟨p, xs, kvs, w1, w2, g.hh _ _ w3, g.nw p w4 (by rw [w3]; simp), w5, w6.mono g.aa⟩
theorem Slot.grow (g : Grow A H A' H') {f : Fl} {d : Option PyData} {v : Option V} (h : Slot K A B H f d v) : Slot K A' B H' f d v := fun d' e =>
  let ⟨v', e', q⟩ := h d' e; ⟨v', e', q.grow g⟩
theorem StRep.grow (g : Grow A H A' H') (r : StRep K A B H O σ Γ) : StRep K A' B H' O σ Γ :=
  ⟨g.ah, r.b.trans g.hh, r.len, fun i => (r.slot i).grow g, r.sep⟩
theorem OwnO.share {o : HO} {p : Addr} (h : OwnO K A d o) (s : Same A (upd A p o)) : Rp K (upd A p o) d (.ref p) := by
  rcases h with ⟨ds, vs, e1, e2, h⟩ | ⟨kvs, u, e1, e2, h⟩
  · subst e1; subst e2
    exact Rp.list.mpr ⟨p, vs, rfl, SqL.of upd_same, RpAll.mono s ds h⟩
  · subst e1; subst e2
    exact (by rw [Rp]; exact ⟨p, u, rfl, upd_same, RpKV.mono s kvs h⟩)
theorem Own.pk (h : Own K A B H d v) : Pk K A H d v := by
  obtain ⟨p, o, e, h1, _, _, ⟨ds, vs, e2, e3, h4⟩ | ⟨kvs, u, e2, e3, h4⟩⟩ := h
  · subst e3
    exact .inr (.inl ⟨p, vs, ds, e, e2, SqL.of h1, h4⟩)
  · subst e3
    exact .inr (.inr ⟨p, u, kvs, e, e2, h1, h4⟩)
theorem SlotV.pk (hb : Same B H) {f : Fl} (h : SlotV K A B H f d v) (hx : isX f = false) : Pk K A H d v := by
  cases f with
  | imm => exact .inl h
  | bor => exact Pk.mono (Same.refl _) hb h
  | own => exact Own.pk h
  | fix p0 => exact Own.pk h.2
  | exc C => cases hx
  | nst b => cases hx
theorem Pk.list (ha : Same A H) {ds : List PyData} (h : Pk K A H (.list ds) v) : ∃ p vs, v = .ref p ∧ SqL K H p vs ∧ RpAll K A ds vs := by
  rcases h with h | ⟨p, vs, ds', e1, e2, h1, h2⟩ | ⟨p, u, kvs, e1, e2, h1, h2⟩
  · obtain ⟨a, vs, e, h1, h2⟩ := Rp.list.mp h
    exact ⟨a, vs, e, ha.seq h1, h2⟩
  · cases e2
    exact ⟨p, vs, e1, h1, h2⟩
  · cases e2
theorem Pk.nolist (h : Pk K A H d v) (n : ∀ ds, d ≠ .list ds) (n2 : ∀ kvs, d ≠ .dict kvs) : Rp K A d v := by
  rcases h with h | ⟨p, vs, ds', e1, e2, h1, h2⟩ | ⟨p, u, kvs, e1, e2, h1, h2⟩
  · exact h
  · exact absurd e2 (n ds')
  · exact absurd e2 (n2 kvs)
theorem Pk.int {i : Int} (h : Pk K A H (.int i) v) : v = .int i := Rp.int.mp (h.nolist (fun _ z => nomatch z) (fun _ z => nomatch z))
theorem Pk.bool {i : Bool} (h : Pk K A H (.bool i) v) : v = .bl i := Rp.bool.mp (h.nolist (fun _ z => nomatch z) (fun _ z => nomatch z))
theorem Pk.none (h : Pk K A H .none v) : v = .non := Rp.none.mp (h.nolist (fun _ z => nomatch z) (fun _ z => nomatch z))
theorem Pk.str {x : Str} (h : Pk K A H (.str x) v) : v = .str x := Rp.str.mp (h.nolist (fun _ z => nomatch z) (fun _ z => nomatch z))
theorem Pk.tuple (ha : Same A H) {ds : List PyData} (h : Pk K A H (.tuple ds) v) : ∃ p vs, v = .ref p ∧ SqT K H p vs ∧ RpAll K A ds vs := by
  obtain ⟨a, vs, e, h1, h2⟩ := Rp.tuple.mp (h.nolist (fun _ z => nomatch z) (fun _ z => nomatch z))
  exact ⟨a, vs, e, ha.seqT h1, h2⟩
theorem Pk.is (ha : Same A H) (hc : SeqAt.shaped d = true) (h : Pk K A H d v) : Is K H d v := by
  have c := SeqAt.canLay_of_shaped hc
  rcases h with h | ⟨p, vs, ds', e1, e2, h1, h2⟩ | ⟨p, u, kvs, e1, e2, h1, h2⟩
  rotate_right
  · subst e2
    rw [PyData.canLay0] at c
    cases c
  · exact Is.mono ha d (Rp.is d c h)
  · subst e2
    rw [Is]
    rw [PyData.canLay0] at c
    exact ⟨p, vs, e1, h1, IsAll.mono ha ds' (RpAll.is ds' c h2)⟩
theorem Rp.dict {kvs : List (PyData × PyData)} : Rp K A (.dict kvs) v ↔ ∃ a u, v = .ref a ∧ A a = some (.dK u) ∧ RpKV K A kvs u := by rw [Rp]
theorem RpKV.nil {u : List (Key × V)} : RpKV K A [] u ↔ u = [] := by rw [RpKV]
theorem RpKV.cons {k d : PyData} {r : List (PyData × PyData)} {u : List (Key × V)} : RpKV K A ((k, d) :: r) u ↔ ∃ key v u', u = (key, v) :: u' ∧ keyD k = some key ∧ Rp K A d v ∧ RpKV K A r u' := by rw [RpKV]
theorem Pk.dict (ha : Same A H) {kvs : List (PyData × PyData)} (h : Pk K A H (.dict kvs) v) : ∃ a u, v = .ref a ∧ H a = some (.dK u) ∧ RpKV K A kvs u := by
  rcases h with h | ⟨p, vs, ds', e1, e2, h1, h2⟩ | ⟨p, u, kvs', e1, e2, h1, h2⟩
  · obtain ⟨a, u, e, h1, h2⟩ := Rp.dict.mp h
    exact ⟨a, u, e, ha _ _ h1, h2⟩
  · cases e2
  · cases e2
    exact ⟨p, u, e1, h1, h2⟩
theorem Grow.new {p : Addr} {o : HO} (ha : Same A H) (h : H p = none) : Grow A H (upd A p o) (upd H p o) :=
  ⟨Same.new (ha.free h) o, Same.new h o, fun b u q => by
    by_cases hb : b = p
    · subst hb; rw [upd_same] at q ⊢; exact q
    · rw [upd_ne hb] at q ⊢; exact ha b u q, fun b h1 h2 => by
    have hb : b ≠ p := fun z => h2 (z ▸ h)
    rw [upd_ne hb]; exact h1⟩
theorem Grow.lay {p : Addr} {o : HO} (ha : Same A H) (h : H p = none) : Grow A H A (upd H p o) :=
  ⟨Same.refl _, Same.new h o, ha.trans (Same.new h o), fun b h1 _ => h1⟩
end
end L3
namespace L3
open PySem PySem.Spec PyProof.Rows L2
noncomputable def noStar : Expr → Bool
  | .Starred _ _ => false
  | _ => true
noncomputable def noStars : List Expr → Bool
  | [] => true
  | e :: es => noStar e && noStars es
theorem star_cons {e : Expr} {es : List Expr} {env : Env} (h : noStar e = true) : starEach (e :: es) env = (false, eval e env) :: starEach es env := by
  cases e <;> first | rfl | cases h
theorem star_any : ∀ {es : List Expr} {env : Env} {pos : Pos}, noStars es = true → (backTo pos (starEach es env)).any (·.1) = false
  | [], _, _, _ => rfl
  | e :: es, env, pos, h => by
    rw [noStars, Bool.and_eq_true] at h
    rw [star_cons h.1]
    show (false || (backTo pos (starEach es env)).any (·.1)) = false
    rw [star_any h.2]
    rfl
noncomputable def tE (K : PySem.W.Frag) (O : List Fl) (m : ME) : TE := fun σ H Q => ∃ A B Γ d, StRep K A B H O σ Γ ∧ m Γ = .ok d ∧ ∀ v A' H', Grow A H A' H' → Rp K A' d v → Q v H'
noncomputable def tP (K : PySem.W.Frag) (O : List Fl) (m : ME) : TE := fun σ H Q => ∃ A B Γ d, StRep K A B H O σ Γ ∧ m Γ = .ok d ∧ ∀ v A' H', Grow A H A' H' → Pk K A' H' d v → Q v H'
noncomputable def FreshV (K : PySem.W.Frag) (H A' H' : Hp) (d : PyData) (v : V) : Prop := ∃ p o, v = .ref p ∧ H p = none ∧ H' p = some o ∧ A' p = none ∧ OwnO K A' d o
noncomputable def tF (K : PySem.W.Frag) (O : List Fl) (m : ME) : TE := fun σ H Q => ∃ A B Γ d, StRep K A B H O σ Γ ∧ m Γ = .ok d ∧ ∀ v A' H', Grow A H A' H' → FreshV K H A' H' d v → Q v H'
noncomputable def tT (K : PySem.W.Frag) (O : List Fl) (m : ME) : TT := fun σ H Q => ∃ A B Γ b, StRep K A B H O σ Γ ∧ m Γ = .ok (.bool b) ∧ ∀ A' H', Grow A H A' H' → Q b H'
section
variable {X : Cx}
theorem PE.imp {e : Expr} {t t' : TE} (h : PE X e t) (i : ∀ σ H Q, t' σ H Q → t σ H Q) : PE X e t' := fun pins s σ H Q I q => h pins s σ H Q I (i σ H Q q)
theorem PT.imp {e : Expr} {t t' : TT} (h : PT X e t) (i : ∀ σ H Q, t' σ H Q → t σ H Q) : PT X e t' := fun pins s σ H Q I q => h pins s σ H Q I (i σ H Q q)
theorem PW.imp {e : Expr} {t t' : TT} (h : PW X e t) (i : ∀ σ H Q, t' σ H Q → t σ H Q) : PW X e t' := fun w pins s σ H Q I q => h w pins s σ H Q I (i σ H Q q)
theorem PA.imp {e : List Expr} {t t' : TA} (h : PA X e t) (i : ∀ σ H Q, t' σ H Q → t σ H Q) : PA X e t' := fun pos pins s σ H Q I q => h pos pins s σ H Q I (i σ H Q q)
theorem PS.imp {e : Stmt} {t t' : TS} (h : PS X e t) (i : ∀ D σ H, t' D σ H → t D σ H) : PS X e t' := fun pins s σ H D I q => h pins s σ H D I (i D σ H q)
theorem PSs.imp {e : List Stmt} {t t' : TS} (h : PSs X e t) (i : ∀ D σ H, t' D σ H → t D σ H) : PSs X e t' := fun pins s σ H D I q => h pins s σ H D I (i D σ H q)
theorem PI.imp {tg e : Expr} {t t' : TI} (h : PI X tg e t) (i : ∀ σ H R, t' σ H R → t σ H R) : PI X tg e t' := fun pins s σ H R I q => h pins s σ H R I (i σ H R q)
end
section
variable (X : Cx)
structure QE (e : Expr) (t : TE) : Prop where
  h : PE X e t
structure QT (e : Expr) (t : TT) : Prop where
  h : PT X e t
structure QW (e : Expr) (t : TT) : Prop where
  h : PW X e t
structure QA (e : List Expr) (t : TA) : Prop where
  h : PA X e t
structure QS (e : Stmt) (t : TS) : Prop where
  h : PS X e t
structure QSs (e : List Stmt) (t : TS) : Prop where
  h : PSs X e t
structure QI (tg e : Expr) (t : TI) : Prop where
  h : PI X tg e t
structure QG (tg : Expr) (t : TG) : Prop where
  h : PG X tg t
structure QGs (tg : List Expr) (t : TGs) : Prop where
  h : PGs X tg t
structure QIfs (e : List Expr) (t : TT) : Prop where
  h : PIfs X e t
end
section
variable {X : Cx}
theorem QE.imp {e : Expr} {t t' : TE} (h : PE X e t) (i : ∀ σ H Q, t' σ H Q → t σ H Q) : QE X e t' := ⟨PE.imp h i⟩
theorem QT.imp {e : Expr} {t t' : TT} (h : PT X e t) (i : ∀ σ H Q, t' σ H Q → t σ H Q) : QT X e t' := ⟨PT.imp h i⟩
theorem QW.imp {e : Expr} {t t' : TT} (h : PW X e t) (i : ∀ σ H Q, t' σ H Q → t σ H Q) : QW X e t' := ⟨PW.imp h i⟩
theorem QA.imp {e : List Expr} {t t' : TA} (h : PA X e t) (i : ∀ σ H Q, t' σ H Q → t σ H Q) : QA X e t' := ⟨PA.imp h i⟩
theorem QS.imp {e : Stmt} {t t' : TS} (h : PS X e t) (i : ∀ D σ H, t' D σ H → t D σ H) : QS X e t' := ⟨PS.imp h i⟩
theorem QSs.imp {e : List Stmt} {t t' : TS} (h : PSs X e t) (i : ∀ D σ H, t' D σ H → t D σ H) : QSs X e t' := ⟨PSs.imp h i⟩
theorem QI.imp {tg e : Expr} {t t' : TI} (h : PI X tg e t) (i : ∀ σ H R, t' σ H R → t σ H R) : QI X tg e t' := ⟨PI.imp h i⟩
end
section
variable {X : Cx} {K : PySem.W.Frag} {O : List Fl} {m m1 m2 : ME} {e a b c : Expr} {pos : Pos}
theorem sp (h : QE X e (tE K O m)) : QE X e (tP K O m) := QE.imp h.h fun σ H Q hq__ => by obtain ⟨A, B, Γ, d, r, em, k⟩ := hq__; exact ⟨A, B, Γ, d, r, em, fun v A' H' g p => k v A' H' g (.inl p)⟩
theorem FreshV.share {A H A' H' : Hp} {d : PyData} {v : V} (g : Grow A H A' H') (h : FreshV K H A' H' d v) : ∃ A'', Grow A H A'' H' ∧ Rp K A'' d v := by
  obtain ⟨p, o, rfl, h1, h2, h3, h4⟩ := h
  have s : Same A' (upd A' p o) := Same.new h3 _
  refine ⟨upd A' p o, ⟨g.aa.trans s, g.hh, fun b u q => ?_, fun b n1 n2 => ?_⟩, h4.share s⟩
  · by_cases hb : b = p
    · subst hb; rw [upd_same] at q; rw [h2]; exact q
    · rw [upd_ne hb] at q; exact g.ah b u q
  · have hb : b ≠ p := fun z => n2 (z ▸ h1)
    rw [upd_ne hb]; exact g.nw b n1 n2
theorem sfe (h : QE X e (tF K O m)) : QE X e (tE K O m) := QE.imp h.h fun σ H Q ⟨A, B, Γ, d, r, em, k⟩ => ⟨A, B, Γ, d, r, em, fun v A' H' g p => by
  obtain ⟨A'', g', p'⟩ := p.share g
  exact k v A'' H' g' p'⟩
theorem sfp (h : QE X e (tF K O m)) : QE X e (tP K O m) := sp (sfe h)
noncomputable def eVar (i : Nat) : ME := fun Γ => match gv Γ i with
  | some d => .ok d
  | none => .bad
noncomputable def eC (d : PyData) : ME := fun _ => .ok d
theorem eVar_ok {i : Nat} {Γ : Ev} {d : PyData} (h : eVar i Γ = .ok d) : gv Γ i = some d := by
  unfold eVar at h
  cases q : gv Γ i with
  | none => rw [q] at h; cases h
  | some d' => rw [q] at h; cases h; rfl
theorem sv_get {σ : L2.St} {i : Nat} {v : V} (h : sv σ i = some v) : σ[i]? = some (some v) := by
  unfold sv at h
  rw [List.getD_eq_getElem?_getD] at h
  cases q : σ[i]? with
  | none => rw [q] at h; cases h
  | some o => rw [q] at h; exact congrArg some h
theorem sp_var (i : Nat) {x : Str} (hN : X.N[i]? = some x := by rfl) (hv : Vis X.env.scope x := by first | exact Or.inl rfl | exact Or.inr (Or.inl rfl) | exact Or.inr (Or.inr rfl)) (hd : (x == ("__debug__" : Str)) = false := by decide)
    (hcd : (x == ("__classdict__" : Str)) = false := by decide) (hx : isX (fl O i) = false := by rfl) : QE X (.Name x pos) (tP K O (eVar i)) := QE.imp (pe_var hN hv hd hcd) fun σ H Q hq__ => by
  obtain ⟨A, B, Γ, d, r, em, k⟩ := hq__
  obtain ⟨v, e1, q⟩ := r.slot i d (eVar_ok em)
  exact ⟨v, sv_get e1, k v A H (Grow.refl r.a) (q.pk r.b hx)⟩
theorem se_var (i : Nat) {x : Str} (hi : fl O i = .imm := by rfl) (hN : X.N[i]? = some x := by rfl) (hv : Vis X.env.scope x := by first | exact Or.inl rfl | exact Or.inr (Or.inl rfl) | exact Or.inr (Or.inr rfl)) (hd : (x == ("__debug__" : Str)) = false := by decide)
    (hcd : (x == ("__classdict__" : Str)) = false := by decide) : QE X (.Name x pos) (tE K O (eVar i)) := QE.imp (pe_var hN hv hd hcd) fun σ H Q hq__ => by
  obtain ⟨A, B, Γ, d, r, em, k⟩ := hq__
  obtain ⟨v, e1, q⟩ := r.slot i d (eVar_ok em)
  rw [hi] at q
  exact ⟨v, sv_get e1, k v A H (Grow.refl r.a) q⟩
theorem se_C {v : V} {d : PyData} (h : PE X e (tC v)) (hr : ∀ A, Rp K A d v) : QE X e (tE K O (eC d)) := QE.imp h fun σ H Q hq__ => by
  obtain ⟨A, B, Γ, d', r, em, k⟩ := hq__
  cases em
  exact k v A H (Grow.refl r.a) (hr A)
theorem se_int {i : Int} {j pos} : QE X (.Constant (.int i) j pos) (tE K O (eC (.int i))) := se_C pe_int fun _ => Rp.int.mpr rfl
theorem se_bl {i : Bool} {j pos} : QE X (.Constant (.bool i) j pos) (tE K O (eC (.bool i))) := se_C pe_bl fun _ => Rp.bool.mpr rfl
theorem se_non {j pos} : QE X (.Constant .none j pos) (tE K O (eC .none)) := se_C pe_non fun _ => Rp.none.mpr rfl
theorem se_glob {x : Str} {v : V} {u : Value} {d : PyData} {pos : Pos} (hg : Gl X x) (hm : X.mg x = some u) (r : RelV v u) (hr : ∀ A, Rp K A d v) (hd : (x == ("__debug__" : Str)) = false := by decide) : QE X (.Name x pos) (tE K O (eC d)) :=
  se_C (pe_glob hg hm r hd) hr
noncomputable def eBin (f : PyData → PyData → Res PyData) (a b : ME) : ME := fun Γ => (a Γ).bind fun x => (b Γ).bind fun y => f x y
noncomputable def rD (K : PySem.W.Frag) (f : PyData → PyData → Res PyData) : R2 := fun x y H Q => ∃ A d1 d2 d, f d1 d2 = .ok d ∧ Same A H ∧ Pk K A H d1 x ∧ Pk K A H d2 y ∧ ∀ v A' H', Grow A H A' H' → Rp K A' d v → Q v H'
theorem tE_bin {f : PyData → PyData → Res PyData} {σ : L2.St} {H : Hp} {Q : VK} (h : tE K O (eBin f m1 m2) σ H Q) : tOp (rD K f) (tP K O m1) (tP K O m2) σ H Q := by
  obtain ⟨A, B, Γ, d, r, em, k⟩ := h
  obtain ⟨d1, e1, em⟩ := Res.bind_ok em
  obtain ⟨d2, e2, em⟩ := Res.bind_ok em
  refine ⟨A, B, Γ, d1, r, e1, fun x A1 H1 g1 p1 => ⟨A1, B, Γ, d2, r.grow g1, e2, fun y A2 H2 g2 p2 => ⟨A2, d1, d2, d, em, g2.ah, p1.mono g2.aa g2.hh, p2, fun v A' H' g3 p3 => k v A' H' ((g1.trans g2).trans g3) p3⟩⟩⟩
theorem tT_bin {f : PyData → PyData → Res PyData} {σ : L2.St} {H : Hp} {Q : Bool → Hp → Prop} (h : tT K O (eBin f m1 m2) σ H Q) : tTest (tOp (rD K f) (tP K O m1) (tP K O m2)) σ H Q := by
  obtain ⟨A, B, Γ, bb, r, em, k⟩ := h
  exact tE_bin ⟨A, B, Γ, _, r, em, fun v A' H' g p => ⟨bb, Rp.bool.mp p, k A' H' g⟩⟩
theorem se_bin {op : Operator} {f : PyData → PyData → Res PyData} (ho : OpR X (binaryOp op) (rD K f)) (ha : QE X a (tP K O m1)) (hb : QE X b (tP K O m2)) : QE X (.BinOp a op b pos) (tE K O (eBin f m1 m2)) := QE.imp (pe_op ho ha.h hb.h) fun _ _ _ => tE_bin
theorem se_cmp {op : CmpOp} {f : PyData → PyData → Res PyData} (ho : OpR X (compareOp op) (rD K f)) (ha : QE X a (tP K O m1)) (hb : QE X b (tP K O m2)) (hm : behindInMarks op b = false) : QE X (.Compare a [op] [b] pos) (tE K O (eBin f m1 m2)) := QE.imp (pe_cmpR ho ha.h hb.h hm) fun _ _ _ => tE_bin
theorem st_cmp {op : CmpOp} {f : PyData → PyData → Res PyData} (ho : OpR X (compareOp op) (rD K f)) (ha : QE X a (tP K O m1)) (hb : QE X b (tP K O m2)) (hm : behindInMarks op b = false) : QT X (.Compare a [op] [b] pos) (tT K O (eBin f m1 m2)) := QT.imp (pt_cmpR ho ha.h hb.h hm) fun _ _ _ => tT_bin
noncomputable def eChain (f g : PyData → PyData → Res PyData) (a b c : ME) : ME := fun Γ => (a Γ).bind fun x => (b Γ).bind fun y => (f x y).bind fun t => match t with
  | .bool true => (c Γ).bind fun z => g y z
  | .bool false => .ok (.bool false)
  | _ => .bad
theorem tE_chain {f g : PyData → PyData → Res PyData} {m3 : ME} {σ : L2.St} {H : Hp} {Q : VK} (h : tE K O (eChain f g m1 m2 m3) σ H Q) : tChain (rD K f) (rD K g) (tP K O m1) (tP K O m2) (tP K O m3) σ H Q := by
  obtain ⟨A, B, Γ, d, r, em, k⟩ := h
  obtain ⟨d1, e1, em⟩ := Res.bind_ok em
  obtain ⟨d2, e2, em⟩ := Res.bind_ok em
  obtain ⟨t, e3, em⟩ := Res.bind_ok em
  refine ⟨A, B, Γ, d1, r, e1, fun x A1 H1 g1 p1 => ⟨A1, B, Γ, d2, r.grow g1, e2, fun y A2 H2 g2 p2 => ⟨A2, d1, d2, t, e3, g2.ah, p1.mono g2.aa g2.hh, p2, fun v A3 H3 g3 p3 => ?_⟩⟩⟩
  cases t with
  | bool bb =>
    refine ⟨bb, Rp.bool.mp p3, ?_⟩
    cases bb with
    | false =>
      cases em
      exact iteF (k _ A3 H3 ((g1.trans g2).trans g3) (Rp.bool.mpr rfl))
    | true =>
      obtain ⟨d3, e4, em⟩ := Res.bind_ok em
      exact iteT ⟨A3, B, Γ, d3, ((r.grow g1).grow g2).grow g3, e4, fun z A4 H4 g4 p4 => ⟨A4, d2, d3, d, em, g4.ah, (p2.mono g3.aa g3.hh).mono g4.aa g4.hh, p4, fun v A' H' g5 p5 => k v A' H' ((((g1.trans g2).trans g3).trans g4).trans g5) p5⟩⟩
  | _ => cases em
theorem se_chain {op op' : CmpOp} {f g : PyData → PyData → Res PyData} {m3 : ME} (ho : OpR X (compareOp op) (rD K f)) (ho' : OpR X (compareOp op') (rD K g)) (ha : QE X a (tP K O m1)) (hb : QE X b (tP K O m2)) (hc : QE X c (tP K O m3))
    (hm : lastMarks [op, op'] [b, c] = false := by with_unfolding_all rfl) : QE X (.Compare a [op, op'] [b, c] pos) (tE K O (eChain f g m1 m2 m3)) := QE.imp (pe_chain ho ho' ha.h hb.h hc.h hm) fun _ _ _ => tE_chain
noncomputable def eAnd (a b : ME) : ME := fun Γ => (a Γ).bind fun x => match x with
  | .bool true => b Γ
  | .bool false => .ok (.bool false)
  | _ => .bad
noncomputable def eOr (a b : ME) : ME := fun Γ => (a Γ).bind fun x => match x with
  | .bool false => b Γ
  | .bool true => .ok (.bool true)
  | _ => .bad
noncomputable def eNot (a : ME) : ME := fun Γ => (a Γ).bind fun x => match x with
  | .bool t => .ok (.bool (!t))
  | _ => .bad
theorem se_one {op} (h : QE X a (tE K O m)) : QE X (.BoolOp op [a] pos) (tE K O m) := ⟨pe_one h.h⟩
theorem se_and {rest : List Expr} (ha : QE X a (tE K O m1)) (hb : QE X (.BoolOp .And (b :: rest) pos) (tE K O m2)) : QE X (.BoolOp .And (a :: b :: rest) pos) (tE K O (eAnd m1 m2)) := QE.imp (pe_and ha.h hb.h) fun σ H Q hq__ => by
  obtain ⟨A, B, Γ, d, r, em, k⟩ := hq__
  obtain ⟨d1, e1, em⟩ := Res.bind_ok em
  refine ⟨A, B, Γ, d1, r, e1, fun v A1 H1 g1 p1 => ?_⟩
  cases d1 with
  | bool bb =>
    refine ⟨bb, Rp.bool.mp p1, ?_⟩
    cases bb with
    | true => exact iteT ⟨A1, B, Γ, d, r.grow g1, em, fun v A' H' g p => k v A' H' (g1.trans g) p⟩
    | false => cases em; exact iteF (k _ A1 H1 g1 (Rp.bool.mpr rfl))
  | _ => cases em
theorem se_not (ha : QE X a (tE K O m1)) : QE X (.UnaryOp .Not a pos) (tE K O (eNot m1)) := QE.imp (pe_not ha.h) fun σ H Q hq__ => by
  obtain ⟨A, B, Γ, d, r, em, k⟩ := hq__
  obtain ⟨d1, e1, em⟩ := Res.bind_ok em
  refine ⟨A, B, Γ, d1, r, e1, fun v A1 H1 g1 p1 => ?_⟩
  cases d1 with
  | bool bb => cases em; exact ⟨bb, Rp.bool.mp p1, k _ A1 H1 g1 (Rp.bool.mpr rfl)⟩
  | _ => cases em
theorem st_val (h : QE X e (tE K O m)) (he : ∀ whole, isTrue e X.env whole = (do let v ← whole; standAt e.pos; holding [v] (truthy v)) := by intro _; rfl) : QT X e (tT K O m) := QT.imp (pt_val h.h he) fun σ H Q ⟨A, B, Γ, bb, r, em, k⟩ =>
  ⟨A, B, Γ, _, r, em, fun v A' H' g p => ⟨bb, Rp.bool.mp p, k A' H' g⟩⟩
theorem sw_and1 (ha : QT X a (tT K O m)) : QW X (.BoolOp .And [a] pos) (tT K O m) := ⟨pw_and1 ha.h⟩
theorem sw_or1 (ha : QT X a (tT K O m)) : QW X (.BoolOp .Or [a] pos) (tT K O m) := ⟨pw_or1 ha.h⟩
theorem sw_and {rest : List Expr} (ha : QT X a (tT K O m1)) (hb : QW X (.BoolOp .And (b :: rest) pos) (tT K O m2)) : QW X (.BoolOp .And (a :: b :: rest) pos) (tT K O (eAnd m1 m2)) := QW.imp (pw_and ha.h hb.h) fun σ H Q hq__ => by
  obtain ⟨A, B, Γ, d, r, em, k⟩ := hq__
  obtain ⟨d1, e1, em⟩ := Res.bind_ok em
  cases d1 with
  | bool bb =>
    refine ⟨A, B, Γ, bb, r, e1, fun A1 H1 g1 => ?_⟩
    cases bb with
    | true => exact iteT ⟨A1, B, Γ, d, r.grow g1, em, fun A' H' g => k A' H' (g1.trans g)⟩
    | false => cases em; exact iteF (k A1 H1 g1)
  | _ => cases em
theorem sw_or {rest : List Expr} (ha : QT X a (tT K O m1)) (hb : QW X (.BoolOp .Or (b :: rest) pos) (tT K O m2)) : QW X (.BoolOp .Or (a :: b :: rest) pos) (tT K O (eOr m1 m2)) := QW.imp (pw_or ha.h hb.h) fun σ H Q hq__ => by
  obtain ⟨A, B, Γ, d, r, em, k⟩ := hq__
  obtain ⟨d1, e1, em⟩ := Res.bind_ok em
  cases d1 with
  | bool bb =>
    refine ⟨A, B, Γ, bb, r, e1, fun A1 H1 g1 => ?_⟩
    cases bb with
    | false => exact iteF ⟨A1, B, Γ, d, r.grow g1, em, fun A' H' g => k A' H' (g1.trans g)⟩
    | true => cases em; exact iteT (k A1 H1 g1)
  | _ => cases em
theorem sw_pt (h : QW X e (tT K O m)) : QT X e (tT K O m) := ⟨h.h.pt⟩
theorem st_not (ha : QT X a (tT K O m1)) : QT X (.UnaryOp .Not a pos) (tT K O (eNot m1)) := QT.imp (pt_not ha.h) fun σ H Q hq__ => by
  obtain ⟨A, B, Γ, d, r, em, k⟩ := hq__
  obtain ⟨d1, e1, em⟩ := Res.bind_ok em
  cases d1 with
  | bool bb => cases em; exact ⟨A, B, Γ, bb, r, e1, fun A1 H1 g1 => k A1 H1 g1⟩
  | _ => cases em
noncomputable def truD : PyData → Res PyData
  | .none => .ok (.bool false)
  | .bool b => .ok (.bool b)
  | .int i => .ok (.bool (i != 0))
  | .list ds => .ok (.bool (!ds.isEmpty))
  | .tuple ds => .ok (.bool (!ds.isEmpty))
  | .str x => gd (x.length ≤ sizeLine) (.ok (.bool ((x.length : Int) != 0)))
  | _ => .bad
noncomputable def eUn (f : PyData → Res PyData) (a : ME) : ME := fun Γ => (a Γ).bind f
theorem RpAll.isEmpty {A : Hp} {ds : List PyData} {vs : List V} (h : RpAll K A ds vs) : vs.isEmpty = ds.isEmpty := by
  cases ds with
  | nil => rw [RpAll.nil] at h; subst h; rfl
  | cons d ds => rw [RpAll.cons] at h; obtain ⟨v, r, rfl, _⟩ := h; rfl
theorem st_tru (h : QE X a (tP X.K O m)) (he : ∀ whole, isTrue a X.env whole = (do let v ← whole; standAt a.pos; holding [v] (truthy v)) := by intro _; rfl) : QT X a (tT X.K O (eUn truD m)) := QT.imp (pt_truth h.h he) fun σ H Q hq__ => by
  obtain ⟨A, B, Γ, bb, r, em, k⟩ := hq__
  obtain ⟨d1, e1, em⟩ := Res.bind_ok em
  refine ⟨A, B, Γ, d1, r, e1, fun v A1 H1 g1 p1 => ⟨bb, ?_, k A1 H1 g1⟩⟩
  cases d1 with
  | none => cases em; rw [p1.none]; rfl
  | bool b => cases em; rw [p1.bool]; rfl
  | int i => cases em; rw [p1.int]; rfl
  | str x =>
    obtain ⟨hz, em⟩ := gd_ok em
    cases em; rw [p1.str]; exact ⟨hz, rfl⟩
  | list ds =>
    cases em
    obtain ⟨p, vs, rfl, h1, h2⟩ := p1.list g1.ah
    exact .inl ⟨vs, h1, by rw [h2.isEmpty]⟩
  | tuple ds =>
    cases em
    obtain ⟨p, vs, rfl, h1, h2⟩ := p1.tuple g1.ah
    exact .inr (.inl ⟨vs, h1, by rw [h2.isEmpty]⟩)
  | dict _ => cases em
end
end L3
namespace L3
open PySem PySem.Spec PyProof.Rows L2
noncomputable def int2 (g : Int → Int → Res PyData) : PyData → PyData → Res PyData
  | .int a, .int b => g a b
  | _, _ => .bad
theorem int2_ok {g : Int → Int → Res PyData} {a b d : PyData} (e : int2 g a b = .ok d) : ∃ i j, a = .int i ∧ b = .int j ∧ g i j = .ok d := by
  cases a with
  | int i =>
    cases b with
    | int j => exact ⟨i, j, rfl, rfl, e⟩
    | _ => cases e
  | _ => cases e
noncomputable def addD : PyData → PyData → Res PyData
  | .int a, .int b => .ok (.int (a + b))
  | .str a, .str b => gd (a.length + b.length ≤ sizeLine) (.ok (.str (a ++ b)))
  | .list a, .list b => gd (a.length + b.length ≤ sizeLine) (.ok (.list (a ++ b)))
  | .tuple a, .tuple b => gd (a.length + b.length ≤ sizeLine) (.ok (.tuple (a ++ b)))
  | .int a, .bool b => .ok (.int (a + b2i b))
  | _, _ => .bad
noncomputable def subD : PyData → PyData → Res PyData := int2 fun a b => .ok (.int (a - b))
instance (i j : Int) : Decidable (CMul i j) := by unfold CMul; infer_instance
instance (i j : Int) : Decidable (CDiv i j) := by unfold CDiv; infer_instance
instance (i j : Int) : Decidable (CPow i j) := by unfold CPow; infer_instance
noncomputable def mulD : PyData → PyData → Res PyData := int2 fun a b => gd (CMul a b) (.ok (.int (a * b)))
noncomputable def fdivD : PyData → PyData → Res PyData := int2 fun a b => gd (CDiv a b) (.ok (.int (a / b)))
noncomputable def modD : PyData → PyData → Res PyData := int2 fun a b => gd (0 < b) (.ok (.int (a % b)))
noncomputable def shlD : PyData → PyData → Res PyData := int2 fun a b => gd (CPow a b) (.ok (.int (a * 2 ^ b.toNat)))
noncomputable def shrD : PyData → PyData → Res PyData := int2 fun a b => gd (0 ≤ b) (.ok (.int (a / 2 ^ b.toNat)))
noncomputable def andD : PyData → PyData → Res PyData := int2 fun a b => .ok (.int (Builtin.bitAnd a b))
noncomputable def orD : PyData → PyData → Res PyData := int2 fun a b => .ok (.int (Builtin.bitOr a b))
noncomputable def negD : PyData → Res PyData
  | .int a => .ok (.int (-a))
  | _ => .bad
noncomputable def ltD : PyData → PyData → Res PyData := int2 fun a b => .ok (.bool (decide (a < b)))
noncomputable def leD : PyData → PyData → Res PyData := int2 fun a b => .ok (.bool (decide (a ≤ b)))
noncomputable def gtD : PyData → PyData → Res PyData := int2 fun a b => .ok (.bool (decide (b < a)))
noncomputable def eqD (a b : PyData) : Res PyData := gd (SeqAt.shaped a = true ∧ SeqAt.shaped b = true) (.ok (.bool (PyData.eqv a b)))
noncomputable def neD (a b : PyData) : Res PyData := gd (SeqAt.shaped a = true ∧ SeqAt.shaped b = true) (.ok (.bool (!PyData.eqv a b)))
noncomputable def isNn : PyData → Bool
  | .none => true
  | _ => false
noncomputable def isND : PyData → PyData → Res PyData
  | a, .none => .ok (.bool (isNn a))
  | _, _ => .bad
noncomputable def ixD : PyData → PyData → Res PyData
  | .list ds, .int i => match atI ds i with | some d => .ok d | none => .bad
  | .tuple ds, .int i => match atI ds i with | some d => .ok d | none => .bad
  | _, _ => .bad
section
variable {X : Cx}
theorem rD_int {g : Value → Value → Sem Value} {f : PyData → PyData → Res PyData} {C : Int → Int → Prop} {h : Int → Int → Int} (ho : OpR X g (rI C fun i j => .int (h i j)))
    (hf : ∀ a b d, f a b = .ok d → ∃ i j, a = .int i ∧ b = .int j ∧ C i j ∧ d = .int (h i j)) : OpR X g (rD X.K f) := by
  intro pins s σ H x y v u Q I rx ry hq
  obtain ⟨A, d1, d2, d, e, ha, p1, p2, k⟩ := hq
  obtain ⟨i, j, rfl, rfl, hc, rfl⟩ := hf _ _ _ e
  exact ho pins s σ H x y v u Q I rx ry ⟨i, j, p1.int, p2.int, hc, k _ A H (Grow.refl ha) (Rp.int.mpr rfl)⟩
theorem rD_int0 {g : Value → Value → Sem Value} {f : PyData → PyData → Res PyData} {h : Int → Int → Int} (ho : OpR X g (rI0 fun i j => .int (h i j)))
    (hf : ∀ a b d, f a b = .ok d → ∃ i j, a = .int i ∧ b = .int j ∧ d = .int (h i j)) : OpR X g (rD X.K f) := by
  intro pins s σ H x y v u Q I rx ry hq
  obtain ⟨A, d1, d2, d, e, ha, p1, p2, k⟩ := hq
  obtain ⟨i, j, rfl, rfl, rfl⟩ := hf _ _ _ e
  exact ho pins s σ H x y v u Q I rx ry ⟨i, j, p1.int, p2.int, k _ A H (Grow.refl ha) (Rp.int.mpr rfl)⟩
theorem rD_cmp {g : Value → Value → Sem Value} {f : PyData → PyData → Res PyData} {h : Int → Int → Bool} (ho : OpR X g (rI0 fun i j => .bl (h i j)))
    (hf : ∀ a b d, f a b = .ok d → ∃ i j, a = .int i ∧ b = .int j ∧ d = .bool (h i j)) : OpR X g (rD X.K f) := by
  intro pins s σ H x y v u Q I rx ry hq
  obtain ⟨A, d1, d2, d, e, ha, p1, p2, k⟩ := hq
  obtain ⟨i, j, rfl, rfl, rfl⟩ := hf _ _ _ e
  exact ho pins s σ H x y v u Q I rx ry ⟨i, j, p1.int, p2.int, k _ A H (Grow.refl ha) (Rp.bool.mpr rfl)⟩
theorem od_sub : OpR X (binaryOp .Sub) (rD X.K subD) := rD_int0 op_sub fun a b d e => by
  obtain ⟨i, j, rfl, rfl, e⟩ := int2_ok e; cases e; exact ⟨_, _, rfl, rfl, rfl⟩
theorem od_fdiv : OpR X (binaryOp .FloorDiv) (rD X.K fdivD) := rD_int op_fdiv fun a b d e => by
  obtain ⟨i, j, rfl, rfl, e⟩ := int2_ok e; obtain ⟨hc, e⟩ := gd_ok e; cases e; exact ⟨_, _, rfl, rfl, hc, rfl⟩
theorem od_mod : OpR X (binaryOp .Mod) (rD X.K modD) := rD_int op_mod fun a b d e => by
  obtain ⟨i, j, rfl, rfl, e⟩ := int2_ok e; obtain ⟨hc, e⟩ := gd_ok e; cases e; exact ⟨_, _, rfl, rfl, hc, rfl⟩
theorem od_shl : OpR X (binaryOp .LShift) (rD X.K shlD) := rD_int op_shl fun a b d e => by
  obtain ⟨i, j, rfl, rfl, e⟩ := int2_ok e; obtain ⟨hc, e⟩ := gd_ok e; cases e; exact ⟨_, _, rfl, rfl, hc, rfl⟩
theorem od_shr : OpR X (binaryOp .RShift) (rD X.K shrD) := rD_int op_shr fun a b d e => by
  obtain ⟨i, j, rfl, rfl, e⟩ := int2_ok e; obtain ⟨hc, e⟩ := gd_ok e; cases e; exact ⟨_, _, rfl, rfl, hc, rfl⟩
theorem od_and : OpR X (binaryOp .BitAnd) (rD X.K andD) := rD_int0 op_and fun a b d e => by
  obtain ⟨i, j, rfl, rfl, e⟩ := int2_ok e; cases e; exact ⟨_, _, rfl, rfl, rfl⟩
theorem od_or : OpR X (binaryOp .BitOr) (rD X.K orD) := rD_int0 op_or fun a b d e => by
  obtain ⟨i, j, rfl, rfl, e⟩ := int2_ok e; cases e; exact ⟨_, _, rfl, rfl, rfl⟩
theorem od_lt : OpR X (compareOp .Lt) (rD X.K ltD) := rD_cmp op_lt fun a b d e => by
  obtain ⟨i, j, rfl, rfl, e⟩ := int2_ok e; cases e; exact ⟨_, _, rfl, rfl, rfl⟩
theorem od_le : OpR X (compareOp .LtE) (rD X.K leD) := rD_cmp op_le fun a b d e => by
  obtain ⟨i, j, rfl, rfl, e⟩ := int2_ok e; cases e; exact ⟨_, _, rfl, rfl, rfl⟩
theorem od_gt : OpR X (compareOp .Gt) (rD X.K gtD) := rD_cmp op_gt fun a b d e => by
  obtain ⟨i, j, rfl, rfl, e⟩ := int2_ok e; cases e; exact ⟨_, _, rfl, rfl, rfl⟩
theorem od_eq (hu : X.A.units + 64 < cLine) : OpR X (compareOp .Eq) (rD X.K eqD) := by
  intro pins s σ H x y v u Q I rx ry hq
  obtain ⟨A, d1, d2, d, e, ha, p1, p2, k⟩ := hq
  obtain ⟨⟨h1, h2⟩, e⟩ := gd_ok e
  cases e
  exact op_eqD hu pins s σ H x y v u Q I rx ry ⟨d1, d2, p1.is ha h1, p2.is ha h2, h1, h2, k _ A H (Grow.refl ha) (Rp.bool.mpr rfl)⟩
theorem od_ne (hu : X.A.units + 64 < cLine) : OpR X (compareOp .NotEq) (rD X.K neD) := by
  intro pins s σ H x y v u Q I rx ry hq
  obtain ⟨A, d1, d2, d, e, ha, p1, p2, k⟩ := hq
  obtain ⟨⟨h1, h2⟩, e⟩ := gd_ok e
  cases e
  exact op_neD hu pins s σ H x y v u Q I rx ry ⟨d1, d2, p1.is ha h1, p2.is ha h2, h1, h2, k _ A H (Grow.refl ha) (Rp.bool.mpr rfl)⟩
theorem Pk.isNone {K : PySem.W.Frag} {A H : Hp} {d : PyData} {x : V} (ha : Same A H) (p : Pk K A H d x) : decide (x = V.non) = isNn d := by
  cases d with
  | none => rw [p.none]; rfl
  | bool b => rw [p.bool]; rfl
  | int b => rw [p.int]; rfl
  | str b => rw [p.str]; rfl
  | list b => obtain ⟨q, vs, rfl, _⟩ := p.list ha; rfl
  | tuple b => obtain ⟨q, vs, rfl, _⟩ := p.tuple ha; rfl
  | dict b => obtain ⟨q, u, rfl, _⟩ := p.dict ha; rfl
noncomputable def notBD : PyData → PyData → Res PyData
  | .bool a, .bool b => .ok (.bool (!(a == b)))
  | _, _ => .bad
theorem od_notB : OpR X (compareOp .IsNot) (rD X.K notBD) := by
  intro pins s σ H x y v u Q I rx ry hq
  obtain ⟨A, d1, d2, d, e, ha, p1, p2, k⟩ := hq
  cases d1 with
  | bool a =>
    cases d2 with
    | bool b =>
      cases e
      rw [p1.bool] at rx; rw [p2.bool] at ry
      cases rx; cases ry
      refine wpAny_isNot_plain rfl ⟨.bl (!(a == b)), H, I, ?_, k _ A H (Grow.refl ha) (Rp.bool.mpr rfl)⟩
      cases a <;> cases b <;> rfl
    | _ => cases e
  | _ => cases e
theorem od_isN : OpR X (compareOp .Is) (rD X.K isND) := by
  intro pins s σ H x y v u Q I rx ry hq
  obtain ⟨A, d1, d2, d, e, ha, p1, p2, k⟩ := hq
  cases d2 with
  | none =>
    have e' := Res.ok.inj e
    subst e'
    exact op_isN pins s σ H x y v u Q I rx ry ⟨p2.none, by rw [p1.isNone ha]; exact k _ A H (Grow.refl ha) (Rp.bool.mpr rfl)⟩
  | _ => cases e
noncomputable def rCatR (K : PySem.W.Frag) : R2 := fun x y H Q => ∃ l b xs zs, x = .ref l ∧ y = .ref b ∧ SqL K H l xs ∧ SqL K H b zs ∧ xs.length + zs.length ≤ sizeLine ∧ ∀ p, H p = none → Q (.ref p) (upd H p (.lst (xs ++ zs)))
theorem op_catR : OpR X (binaryOp .Add) (rCatR X.K) := by
  intro pins s σ H x y v u Q I rx ry h
  obtain ⟨l, b, xs, zs, rfl, rfl, hH, hB, hz, q⟩ := h
  cases rx
  cases ry
  obtain ⟨its, r, pl, _⟩ := I.list hH
  obtain ⟨its2, r2, pl2, _⟩ := I.list hB
  have hl := r.length
  have hl2 := r2.length
  obtain ⟨⟨cls, dd, data, sl⟩, ho, hc, n, hd⟩ := pl.isList
  obtain ⟨⟨cls2, dd2, data2, sl2⟩, ho2, hc2, n2, hd2⟩ := pl2.isList
  simp only at hc hd hc2 hd2
  subst hc hd hc2 hd2
  have ea : its.toArray ++ its2.toArray = (its ++ its2).toArray := by simp
  refine concat_meets ⟨_, ho, rfl⟩ ⟨_, ho2, rfl⟩ noFill_list_add seq_list_add PySem.F.slot_list_add PySem.F.entry_list_add (PySem.F.args_list_add_2 _ _) (list_addW l b its.toArray its2.toArray n n2 dd dd2 sl sl2 (by simp only [List.size_toArray]; omega)) ⟨ho, ho2, ?_⟩
  rw [ea]
  exact ⟨.ref _, _, I.lnew (t' := s.toks) (r.append r2) (by rw [List.length_append]; omega), rfl, q _ I.fresh⟩
theorem op_catT0 : OpR X (binaryOp .Add) (fun x y H Q => ∃ a b ys, x = .ref a ∧ y = .ref b ∧ SqT X.K H a [] ∧ SqT X.K H b ys ∧ Q (.ref b) H) := by
  intro pins s σ H x y v u Q I rx ry h
  obtain ⟨a, b, ys, rfl, rfl, ha, hb, q⟩ := h
  cases rx
  cases ry
  obtain ⟨its, r1, p1, _⟩ := I.tuple ha
  obtain ⟨its2, r2, p2, _⟩ := I.tuple hb
  cases r1
  obtain ⟨⟨cls, dd, data, sl⟩, ho, hc, n, hd⟩ := id p1
  obtain ⟨⟨cls2, dd2, data2, sl2⟩, ho2, hc2, n2, hd2⟩ := id p2
  simp only at hc hd hc2 hd2
  subst hc hd hc2 hd2
  exact concat_meets ⟨_, ho, rfl⟩ ⟨_, ho2, rfl⟩ noFill_tuple_add seq_tuple_add PySem.F.slot_tuple_add PySem.F.entry_tuple_add (PySem.F.args_tuple_add_2 _ _)
    (tuple_addW0 a b _ its2.toArray n n2 dd dd2 sl sl2 rfl) ⟨ho, ho2, ⟨.ref b, H, I, rfl, q⟩⟩
theorem od_add : OpR X (binaryOp .Add) (rD X.K addD) := by
  intro pins s σ H x y v u Q I rx ry hq
  obtain ⟨A, d1, d2, d, e, ha, p1, p2, k⟩ := hq
  cases d1 with
  | int i =>
    cases d2 with
    | int j => cases e; exact op_add pins s σ H x y v u Q I rx ry ⟨i, j, p1.int, p2.int, k _ A H (Grow.refl ha) (Rp.int.mpr rfl)⟩
    | bool j => cases e; exact op_add_ib pins s σ H x y v u Q I rx ry ⟨i, j, p1.int, p2.bool, k _ A H (Grow.refl ha) (Rp.int.mpr rfl)⟩
    | _ => cases e
  | str i =>
    cases d2 with
    | str j =>
      obtain ⟨hc, e⟩ := gd_ok e
      cases e
      exact op_add_str pins s σ H x y v u Q I rx ry ⟨i, j, p1.str, p2.str, hc, k _ A H (Grow.refl ha) (Rp.str.mpr rfl)⟩
    | _ => cases e
  | list i =>
    cases d2 with
    | list j =>
      obtain ⟨hc, e⟩ := gd_ok e
      cases e
      obtain ⟨l1, xs, e1, h1, q1⟩ := p1.list ha
      obtain ⟨l2, ys, e2, h2, q2⟩ := p2.list ha
      refine op_catR pins s σ H x y v u Q I rx ry ⟨l1, l2, xs, ys, e1, e2, h1, h2, by rw [← q1.length, ← q2.length]; exact hc, fun p hp => ?_⟩
      have g := Grow.new (o := .lst (xs ++ ys)) ha hp
      exact k _ _ _ g (Rp.list.mpr ⟨p, _, rfl, SqL.of upd_same, (RpAll.mono g.aa _ q1).append (RpAll.mono g.aa _ q2)⟩)
    | _ => cases e
  | tuple i =>
    cases d2 with
    | tuple j =>
      obtain ⟨hc, e⟩ := gd_ok e
      cases e
      obtain ⟨l1, xs, e1, h1, q1⟩ := p1.tuple ha
      obtain ⟨l2, ys, e2, h2, q2⟩ := p2.tuple ha
      by_cases hne : i = []
      · subst hne
        have ex : xs = [] := List.eq_nil_of_length_eq_zero q1.length.symm
        subst ex
        refine op_catT0 pins s σ H x y v u Q I rx ry ⟨l1, l2, ys, e1, e2, h1, h2, ?_⟩
        rw [List.nil_append] at k
        refine k _ A H (Grow.refl ha) ?_
        have := p2.nolist (fun _ z => nomatch z) (fun _ z => nomatch z)
        rw [e2] at this
        exact this
      refine op_catT pins s σ H x y v u Q I rx ry ⟨l1, l2, xs, ys, e1, e2, h1, h2, fun z => ?_, by rw [← q1.length, ← q2.length]; exact hc, fun z => ?_, fun z p hp => ?_⟩
      · subst z
        have := q1.length
        exact hne (List.eq_nil_of_length_eq_zero this)
      · subst z
        have e0 : j = [] := List.eq_nil_of_length_eq_zero q2.length
        subst e0
        rw [List.append_nil] at k
        refine k _ A H (Grow.refl ha) ?_
        have := p1.nolist (fun _ z => nomatch z) (fun _ z => nomatch z)
        rw [e1] at this
        exact this
      · have g := Grow.new (o := .tup (xs ++ ys)) ha hp
        exact k _ _ _ g (Rp.tuple.mpr ⟨p, _, rfl, SqT.of upd_same, (RpAll.mono g.aa _ q1).append (RpAll.mono g.aa _ q2)⟩)
    | _ => cases e
  | _ => cases e
noncomputable def rRepR : R2 := fun x y H Q => ∃ l k xs, x = .ref l ∧ y = .int k ∧ Rd H l (.lst xs) ∧ -(2 ^ 63) ≤ k ∧ k < 2 ^ 63 ∧ xs.length * k.toNat ≤ sizeLine ∧
  ∀ p, H p = none → Q (.ref p) (upd H p (.lst (List.replicate k.toNat xs).flatten))
theorem op_repR : OpR X (binaryOp .Mult) rRepR := by
  intro pins s σ H x y v u Q I rx ry h
  obtain ⟨l, k, xs, rfl, rfl, hH, h1, h2, hz, q⟩ := h
  cases rx
  obtain ⟨t, rfl⟩ := ry
  obtain ⟨z, its, n, r, e⟩ := hH.ok I.hok
  have hl := r.length
  have hlen : its.toArray.size * k.toNat ≤ sizeLine := by rw [List.size_toArray, ← hl]; exact hz
  have hcap : ¬ its.toArray.size * k.toNat > (2 ^ 63 - 1) / 8 := by
    have : (sizeLine : Nat) ≤ (2 ^ 63 - 1) / 8 := by decide
    omega
  have hfit : ¬ (!Builtin.List.listFitsIndex k) = true := by
    rw [fitsIndex_both h1 h2]
    exact Bool.false_ne_true
  have hlong : ¬ Builtin.List.listTooLong (its.toArray.size * k.toNat) = true := by
    rw [notLongL hlen]
    exact Bool.false_ne_true
  have hnew : List.foldl (fun x1 x2 => x1 ++ x2) #[] (List.replicate (if its.toArray.isEmpty = true then 0 else k.toNat) its.toArray) = (List.replicate k.toNat its).flatten.toArray := by
    have f0 : ∀ m : Nat, List.foldl (fun x1 x2 => x1 ++ x2) #[] (List.replicate m its.toArray) = (List.replicate m its).flatten.toArray := fun m => by
      have := foldl_rep its m []
      rw [List.nil_append] at this
      exact this
    rw [f0]
    cases its with
    | nil => simp
    | cons a r' => rw [if_neg (by simp)]
  refine wpAny_binaryOp_repeat_ref (T := "list") (U := "int") (by decide) ⟨_, e, rfl⟩ (fun s' => typeIs_int s' k t) noFill_list_mul F.fills_int_mul F.slot_int_rmul repeat_list F.slot_int_index.lookup
    (call_meets F.slot_int_rmul (typeIs_int s k t) F.entry_int_rmul (F.args_int_rmul_2 _ _) (int___rmul___int_list k t l its.toArray n)
      ⟨e, rfl, ⟨_, e, rfl⟩, call_meets F.slot_list_mul ⟨_, e, rfl⟩ F.entry_list_mul (F.args_list_mul_2 _ _) (AutoListH.list___mul___list_int_3 l its.toArray n k t hfit hcap hlong) ⟨e, ?_⟩⟩)
  rw [hnew]
  exact ⟨.ref _, _, I.lnew (t' := s.toks) (r.rep k.toNat) (by rw [len_rep, Nat.mul_comm]; exact hz), rfl, q _ I.fresh⟩
theorem RpAll.reps {K : PySem.W.Frag} {A : Hp} {ds : List PyData} {vs : List V} (h : RpAll K A ds vs) (k : Nat) : RpAll K A (List.replicate k ds).flatten (List.replicate k vs).flatten := by
  induction k with
  | zero => exact RpAll.nil.mpr rfl
  | succ k ih => rw [List.replicate_succ, List.replicate_succ, List.flatten_cons, List.flatten_cons]; exact h.append ih
theorem od_mul : OpR X (binaryOp .Mult) (rD X.K mulD) := rD_int op_mul fun a b d e => by
  obtain ⟨i, j, rfl, rfl, e⟩ := int2_ok e; obtain ⟨hc, e⟩ := gd_ok e; cases e; exact ⟨_, _, rfl, rfl, hc, rfl⟩
noncomputable def repD : PyData → PyData → Res PyData
  | .list a, .int k => gd (-(2 ^ 63) ≤ k ∧ k < 2 ^ 63 ∧ a.length * k.toNat ≤ sizeLine) (.ok (.list (List.replicate k.toNat a).flatten))
  | _, _ => .bad
theorem sf_rep {O : List Fl} {m1 m2 : ME} {a b : Expr} {pos : Pos} (ha : QE X a (tF X.K O m1)) (hb : QE X b (tP X.K O m2)) : QE X (.BinOp a .Mult b pos) (tF X.K O (eBin repD m1 m2)) := QE.imp (pe_op op_repR ha.h hb.h) fun σ H Q hq__ => by
  obtain ⟨A, B, Γ, d, r, em, k⟩ := hq__
  obtain ⟨d1, e1, em⟩ := Res.bind_ok em
  obtain ⟨d2, e2, em⟩ := Res.bind_ok em
  refine ⟨A, B, Γ, d1, r, e1, fun x A1 H1 g1 p1 => ⟨A1, B, Γ, d2, r.grow g1, e2, fun y A2 H2 g2 p2 => ?_⟩⟩
  cases d1 with
  | list i =>
    cases d2 with
    | int j =>
      obtain ⟨hc, em⟩ := gd_ok em
      cases em
      obtain ⟨l1, o, rfl, h0, h1, h2, ⟨ds, xs, e3, rfl, q1⟩ | ⟨kvs, u, e3, _⟩⟩ := p1
      rotate_right
      · cases e3
      cases e3
      refine ⟨l1, j, xs, rfl, p2.int, .inl (g2.hh _ _ h1), hc.1, hc.2.1, by rw [← q1.length]; exact hc.2.2, fun p hp => ?_⟩
      have gg := g1.trans g2
      exact k _ _ _ (gg.trans (Grow.lay g2.ah hp)) ⟨p, _, rfl, gg.hh.free hp, upd_same, g2.ah.free hp, .inl ⟨_, _, rfl, rfl, (RpAll.mono g2.aa _ q1).reps _⟩⟩
    | _ => cases em
  | _ => cases em
theorem RpAll.atI {K : PySem.W.Frag} {A : Hp} {ds : List PyData} {vs : List V} {i : Int} {d : PyData} (h : RpAll K A ds vs) (e : L2.atI ds i = some d) : ∃ x, L2.atI vs i = some x ∧ Rp K A d x := by
  unfold L2.atI at e ⊢
  rw [← h.length]
  cases q : ixN ds.length i with
  | none => rw [q] at e; cases e
  | some j => rw [q] at e; exact h.get' e
theorem od_ix : IxR X (rD X.K ixD) := by
  intro value slice pins s σ H x y v u Q I rx ry hq hs
  obtain ⟨A, d1, d2, d, e, ha, p1, p2, k⟩ := hq
  cases d1 with
  | list ds =>
    cases d2 with
    | int i =>
      have e' : (match L2.atI ds i with | some d => Res.ok d | none => .bad) = .ok d := e
      cases q : L2.atI ds i with
      | none => rw [q] at e'; cases e'
      | some d0 =>
        rw [q] at e'
        cases e'
        obtain ⟨l, vs, e1, h1, q2⟩ := p1.list ha
        obtain ⟨z, hz, rz⟩ := q2.atI q
        exact ix_list value slice pins s σ H x y v u Q I rx ry ⟨l, vs, i, z, e1, p2.int, h1, hz, k _ A H (Grow.refl ha) rz⟩ hs
    | _ => cases e
  | tuple ds =>
    cases d2 with
    | int i =>
      have e' : (match L2.atI ds i with | some d => Res.ok d | none => .bad) = .ok d := e
      cases q : L2.atI ds i with
      | none => rw [q] at e'; cases e'
      | some d0 =>
        rw [q] at e'
        cases e'
        obtain ⟨l, vs, e1, h1, q2⟩ := p1.tuple ha
        obtain ⟨z, hz, rz⟩ := q2.atI q
        exact ix_tup value slice pins s σ H x y v u Q I rx ry ⟨l, vs, i, z, e1, p2.int, h1, hz, k _ A H (Grow.refl ha) rz⟩ hs
    | _ => cases e
  | _ => cases e
theorem se_ix {a b : Expr} {O : List Fl} {m1 m2 : ME} {pos : Pos} (ha : QE X a (tP X.K O m1)) (hb : QE X b (tP X.K O m2)) (hs : PlainIx b) : QE X (.Subscript a b pos) (tE X.K O (eBin ixD m1 m2)) := QE.imp (pe_ix od_ix ha.h hb.h hs) fun _ _ _ => tE_bin
end
end L3
namespace L3
open PySem PySem.Spec PyProof.Rows L2
noncomputable def evs : List ME → Ev → Res (List PyData)
  | [], _ => .ok []
  | m :: ms, Γ => (m Γ).bind fun d => (evs ms Γ).bind fun ds => .ok (d :: ds)
theorem evs_length : ∀ {ms : List ME} {Γ : Ev} {ds : List PyData}, evs ms Γ = .ok ds → ds.length = ms.length
  | [], _, _, h => by cases h; rfl
  | m :: ms, Γ, ds, h => by
    obtain ⟨d, _, h⟩ := Res.bind_ok h
    obtain ⟨r, e, h⟩ := Res.bind_ok h
    cases h
    rw [List.length_cons, List.length_cons, evs_length e]
noncomputable def tAi (K : PySem.W.Frag) (O : List Fl) (ms : List ME) : TA := fun σ H Q => ∃ A B Γ ds, StRep K A B H O σ Γ ∧ evs ms Γ = .ok ds ∧ ∀ vs A' H', Grow A H A' H' → RpAll K A' ds vs → Q vs H'
noncomputable def ArgV (K : PySem.W.Frag) (A H : Hp) : Fl → PyData → V → Prop
  | .imm, d, v => Rp K A d v
  | _, d, v => Pk K A H d v
noncomputable def ArgsOk (K : PySem.W.Frag) (A H : Hp) : List Fl → List PyData → List V → Prop
  | [], ds, vs => ds = [] ∧ vs = []
  | f :: fs, ds, vs => ∃ d r v s, ds = d :: r ∧ vs = v :: s ∧ ArgV K A H f d v ∧ ArgsOk K A H fs r s
noncomputable def tAr (K : PySem.W.Frag) (O : List Fl) (fs : List Fl) (ms : List ME) : TA := fun σ H Q => ∃ A B Γ ds, StRep K A B H O σ Γ ∧ evs ms Γ = .ok ds ∧ ∀ vs A' H', Grow A H A' H' → ArgsOk K A' H' fs ds vs → Q vs H'
section
variable {X : Cx} {K : PySem.W.Frag} {O : List Fl} {m : ME} {ms : List ME} {fs : List Fl} {e : Expr} {es : List Expr} {pos : Pos}
theorem si_nil : QA X [] (tAi K O []) := QA.imp pa_nil fun σ H Q hq__ => by
  obtain ⟨A, B, Γ, ds, r, em, k⟩ := hq__
  cases em
  exact k [] A H (Grow.refl r.a) (RpAll.nil.mpr rfl)
theorem si_cons (ha : QE X e (tE K O m)) (hr : QA X es (tAi K O ms)) (hs : noStar e = true := by rfl) : QA X (e :: es) (tAi K O (m :: ms)) := QA.imp (pa_cons ha.h hr.h (star_cons hs)) fun σ H Q hq__ => by
  obtain ⟨A, B, Γ, ds, r, em, k⟩ := hq__
  obtain ⟨d, e1, em⟩ := Res.bind_ok em
  obtain ⟨ds', e2, em⟩ := Res.bind_ok em
  cases em
  exact ⟨A, B, Γ, d, r, e1, fun v A1 H1 g1 p1 => ⟨A1, B, Γ, ds', r.grow g1, e2, fun vs A2 H2 g2 p2 => k (v :: vs) A2 H2 (g1.trans g2) (RpAll.cons.mpr ⟨v, vs, rfl, Rp.mono g2.aa d p1, p2⟩)⟩⟩
theorem sa_nil : QA X [] (tAr K O [] []) := QA.imp pa_nil fun σ H Q hq__ => by
  obtain ⟨A, B, Γ, ds, r, em, k⟩ := hq__
  cases em
  exact k [] A H (Grow.refl r.a) ⟨rfl, rfl⟩
theorem sa_imm (ha : QE X e (tE K O m)) (hr : QA X es (tAr K O fs ms)) (hs : noStar e = true := by rfl) : QA X (e :: es) (tAr K O (.imm :: fs) (m :: ms)) := QA.imp (pa_cons ha.h hr.h (star_cons hs)) fun σ H Q hq__ => by
  obtain ⟨A, B, Γ, ds, r, em, k⟩ := hq__
  obtain ⟨d, e1, em⟩ := Res.bind_ok em
  obtain ⟨ds', e2, em⟩ := Res.bind_ok em
  cases em
  exact ⟨A, B, Γ, d, r, e1, fun v A1 H1 g1 p1 => ⟨A1, B, Γ, ds', r.grow g1, e2, fun vs A2 H2 g2 p2 => k (v :: vs) A2 H2 (g1.trans g2) ⟨d, ds', v, vs, rfl, rfl, Rp.mono g2.aa d p1, p2⟩⟩⟩
theorem sa_bor (ha : QE X e (tP K O m)) (hr : QA X es (tAr K O fs ms)) (hs : noStar e = true := by rfl) : QA X (e :: es) (tAr K O (.bor :: fs) (m :: ms)) := QA.imp (pa_cons ha.h hr.h (star_cons hs)) fun σ H Q hq__ => by
  obtain ⟨A, B, Γ, ds, r, em, k⟩ := hq__
  obtain ⟨d, e1, em⟩ := Res.bind_ok em
  obtain ⟨ds', e2, em⟩ := Res.bind_ok em
  cases em
  exact ⟨A, B, Γ, d, r, e1, fun v A1 H1 g1 p1 => ⟨A1, B, Γ, ds', r.grow g1, e2, fun vs A2 H2 g2 p2 => k (v :: vs) A2 H2 (g1.trans g2) ⟨d, ds', v, vs, rfl, rfl, p1.mono g2.aa g2.hh, p2⟩⟩⟩
noncomputable def eTup (ms : List ME) : ME := fun Γ => (evs ms Γ).bind fun ds => .ok (.tuple ds)
noncomputable def eLst (ms : List ME) : ME := fun Γ => (evs ms Γ).bind fun ds => .ok (.list ds)
theorem se_tup {x1} (h : QA X es (tAi K O ms)) (hl : ms.length ≤ sizeLine := by first | decide | exact of_decide_eq_true rfl) : QE X (.Tuple es x1 pos) (tE K O (eTup ms)) := QE.imp (pe_tup h.h) fun σ H Q hq__ => by
  obtain ⟨A, B, Γ, d, r, em, k⟩ := hq__
  obtain ⟨ds, e1, em⟩ := Res.bind_ok em
  cases em
  refine ⟨A, B, Γ, ds, r, e1, fun vs A1 H1 g1 p1 => ⟨by rw [← p1.length, evs_length e1]; exact hl, fun p hp => ?_⟩⟩
  have g := Grow.new (o := .tup vs) g1.ah hp
  exact k _ _ _ (g1.trans g) (Rp.tuple.mpr ⟨p, vs, rfl, SqT.of upd_same, RpAll.mono g.aa ds p1⟩)
theorem sf_lst (h : QA X es (tAi K O ms)) (hl : ms.length ≤ sizeLine := by first | decide | exact of_decide_eq_true rfl) : QE X (.List es pos) (tF K O (eLst ms)) := QE.imp (pe_lst h.h) fun σ H Q hq__ => by
  obtain ⟨A, B, Γ, d, r, em, k⟩ := hq__
  obtain ⟨ds, e1, em⟩ := Res.bind_ok em
  cases em
  refine ⟨A, B, Γ, ds, r, e1, fun vs A1 H1 g1 p1 => ⟨by rw [← p1.length, evs_length e1]; exact hl, fun p hp => ?_⟩⟩
  exact k _ _ _ (g1.trans (Grow.lay g1.ah hp)) ⟨p, _, rfl, g1.hh.free hp, upd_same, g1.ah.free hp, .inl ⟨ds, vs, rfl, rfl, p1⟩⟩
noncomputable def eDct : List (Str × ME) → ME
  | [] => fun _ => .ok (.dict [])
  | (x, m) :: r => fun Γ => (m Γ).bind fun d => (eDct r Γ).bind fun e => match e with
    | .dict ds => .ok (.dict ((.str x, d) :: ds))
    | _ => .bad
theorem sf_dct0 : QE X (.Dict [] [] pos) (tF K O (eDct [])) := QE.imp pe_dnewK fun σ H Q hq__ => by
  obtain ⟨A, B, Γ, d, r, em, k⟩ := hq__
  cases em
  intro p hp
  exact k _ _ _ (Grow.lay r.a hp) ⟨p, _, rfl, hp, upd_same, r.a.free hp, .inr ⟨_, _, rfl, rfl, RpKV.nil.mpr rfl⟩⟩
theorem se_un {op : UnaryOp} {f : PyData → Res PyData} {a : Expr} {r : V → Hp → VK → Prop} (ho : UnR X (unaryOp op) r) (hf : ∀ A H d1 d x (Q : VK), f d1 = .ok d → Same A H → Pk K A H d1 x → (∀ v A' H', Grow A H A' H' → Rp K A' d v → Q v H') → r x H Q)
    (ha : QE X a (tP K O m)) : QE X (.UnaryOp op a pos) (tE K O (eUn f m)) := QE.imp (pe_un ho ha.h) fun σ H Q hq__ => by
  obtain ⟨A, B, Γ, d, r, em, k⟩ := hq__
  obtain ⟨d1, e1, em⟩ := Res.bind_ok em
  exact ⟨A, B, Γ, d1, r, e1, fun v A1 H1 g1 p1 => hf A1 H1 d1 d v Q em g1.ah p1 fun v A' H' g p => k v A' H' (g1.trans g) p⟩
theorem se_neg {a : Expr} (ha : QE X a (tP K O m)) : QE X (.UnaryOp .USub a pos) (tE K O (eUn negD m)) := se_un un_neg (fun A H d1 d x Q e hA p k => by
  cases d1 with
  | int i => cases e; exact ⟨i, p.int, k _ A H (Grow.refl hA) (Rp.int.mpr rfl)⟩
  | _ => cases e) ha
noncomputable def eFn (f : List PyData → Res PyData) (ms : List ME) : ME := fun Γ => (evs ms Γ).bind f
noncomputable def PkAll (K : PySem.W.Frag) (A H : Hp) (ds : List PyData) (vs : List V) : Prop := ArgsOk K A H (ds.map fun _ => .bor) ds vs
noncomputable def rC (K : PySem.W.Frag) (f : List PyData → Res PyData) : List V → Hp → VK → Prop := fun vs H Q => ∃ A ds d, f ds = .ok d ∧ Same A H ∧ PkAll K A H ds vs ∧ ∀ v A' H', Grow A H A' H' → Rp K A' d v → Q v H'
noncomputable def rCF (K : PySem.W.Frag) (f : List PyData → Res PyData) : List V → Hp → VK → Prop := fun vs H Q => ∃ A ds d, f ds = .ok d ∧ Same A H ∧ PkAll K A H ds vs ∧ ∀ v A' H', Grow A H A' H' → FreshV K H A' H' d v → Q v H'
noncomputable def allBor (ms : List ME) : List Fl := ms.map fun _ => .bor
theorem bor_of {Γ : Ev} {ds : List PyData} (h : evs ms Γ = .ok ds) : allBor ms = ds.map fun _ => .bor := by
  have e := evs_length h
  unfold allBor
  rw [List.map_const', List.map_const', e]
theorem tE_fn {f : List PyData → Res PyData} {σ : L2.St} {H : Hp} {Q : VK} (h : tE K O (eFn f ms) σ H Q) : tCB (rC K f) (tAr K O (allBor ms) ms) σ H Q := by
  obtain ⟨A, B, Γ, d, r, em, k⟩ := h
  obtain ⟨ds, e1, em⟩ := Res.bind_ok em
  refine ⟨A, B, Γ, ds, r, e1, fun vs A1 H1 g1 p1 => ⟨A1, ds, d, em, g1.ah, by unfold PkAll; rw [← bor_of e1]; exact p1, fun v A' H' g p => k v A' H' (g1.trans g) p⟩⟩
theorem tF_fn {f : List PyData → Res PyData} {σ : L2.St} {H : Hp} {Q : VK} (h : tF K O (eFn f ms) σ H Q) : tCB (rCF K f) (tAr K O (allBor ms) ms) σ H Q := by
  obtain ⟨A, B, Γ, d, r, em, k⟩ := h
  obtain ⟨ds, e1, em⟩ := Res.bind_ok em
  refine ⟨A, B, Γ, ds, r, e1, fun vs A1 H1 g1 p1 => ⟨A1, ds, d, em, g1.ah, by unfold PkAll; rw [← bor_of e1]; exact p1, fun v A' H' g p => k v A' H' (g1.trans g) ?_⟩⟩
  obtain ⟨q, o, e, h1, h2⟩ := p
  exact ⟨q, o, e, g1.hh.free h1, h2⟩
variable {x : Str} {p : Pos} {id : String} {f : List PyData → Res PyData}
theorem se_callB (hc : CallR X (.builtin id) (rC K f)) (hg : Gl X x) (hm : X.mg x = none) (hv : bootBuiltins x = some (.builtin id)) (ha : QA X (e :: es) (tAr K O (allBor ms) ms)) (hn : x ≠ "__name__" := by decide) (hdb : (x == ("__debug__" : Str)) = false := by decide)
    (hs : noStar e = true := by rfl) (hpl : noStars es = true := by rfl) : QE X (.Call (.Name x p) (e :: es) [] pos) (tE K O (eFn f ms)) := QE.imp (pe_callB hc hg hm hv ha.h hn hdb (star_cons hs) (star_any hpl)) fun _ _ _ => tE_fn
theorem se_callTy (hc : CallR X (.type id) (rC K f)) (hg : Gl X x) (hm : X.mg x = none) (hv : bootBuiltins x = some (.type id)) (ha : QA X (e :: es) (tAr K O (allBor ms) ms)) (hn : x ≠ "__name__" := by decide) (hdb : (x == ("__debug__" : Str)) = false := by decide)
    (hs : noStar e = true := by rfl) (hpl : noStars es = true := by rfl) : QE X (.Call (.Name x p) (e :: es) [] pos) (tE K O (eFn f ms)) := QE.imp (pe_callTy hc hg hm hv ha.h hn hdb (star_cons hs) (star_any hpl)) fun _ _ _ => tE_fn
theorem sf_callTy (hc : CallR X (.type id) (rCF K f)) (hg : Gl X x) (hm : X.mg x = none) (hv : bootBuiltins x = some (.type id)) (ha : QA X (e :: es) (tAr K O (allBor ms) ms)) (hn : x ≠ "__name__" := by decide) (hdb : (x == ("__debug__" : Str)) = false := by decide)
    (hs : noStar e = true := by rfl) (hpl : noStars es = true := by rfl) : QE X (.Call (.Name x p) (e :: es) [] pos) (tF K O (eFn f ms)) := QE.imp (pe_callTy hc hg hm hv ha.h hn hdb (star_cons hs) (star_any hpl)) fun _ _ _ => tF_fn
end
theorem PkAll.nil {K : PySem.W.Frag} {A H : Hp} {vs : List V} (h : PkAll K A H [] vs) : vs = [] := h.2
theorem PkAll.cons {K : PySem.W.Frag} {A H : Hp} {d : PyData} {ds : List PyData} {vs : List V} (h : PkAll K A H (d :: ds) vs) : ∃ v r, vs = v :: r ∧ Pk K A H d v ∧ PkAll K A H ds r := by
  obtain ⟨d', r', v, s, e1, e2, h1, h2⟩ := h
  cases e1
  exact ⟨v, s, e2, h1, h2⟩
noncomputable def lenD : List PyData → Res PyData
  | [.list ds] => .ok (.int ds.length)
  | [.tuple ds] => .ok (.int ds.length)
  | [.str x] => gd (x.length ≤ sizeLine) (.ok (.int x.length))
  | _ => .bad
noncomputable def listD : List PyData → Res PyData
  | [.list ds] => .ok (.list ds)
  | [.tuple ds] => .ok (.list ds)
  | _ => .bad
noncomputable def tupleD : List PyData → Res PyData
  | [.list ds] => .ok (.tuple ds)
  | [.tuple ds] => .ok (.tuple ds)
  | _ => .bad
section
variable {X : Cx}
theorem cd_len : CallR X (.builtin "len") (rC X.K lenD) := by
  intro pins s σ H xs us Q I r h
  obtain ⟨A, ds, d, e, ha, p, k⟩ := h
  match ds, e with
  | [.list es], e =>
    cases e
    obtain ⟨v, r', rfl, p1, p2⟩ := p.cons
    obtain rfl := p2.nil
    obtain ⟨l, vs, rfl, h1, q1⟩ := p1.list ha
    exact call_len_seq pins s σ H _ us Q I r ⟨l, vs, rfl, .inl h1, by rw [← q1.length]; exact k _ A H (Grow.refl ha) (Rp.int.mpr rfl)⟩
  | [.tuple es], e =>
    cases e
    obtain ⟨v, r', rfl, p1, p2⟩ := p.cons
    obtain rfl := p2.nil
    obtain ⟨l, vs, rfl, h1, q1⟩ := p1.tuple ha
    exact call_len_seq pins s σ H _ us Q I r ⟨l, vs, rfl, .inr h1, by rw [← q1.length]; exact k _ A H (Grow.refl ha) (Rp.int.mpr rfl)⟩
  | [.str x], e =>
    obtain ⟨hc, e⟩ := gd_ok e
    cases e
    obtain ⟨v, r', rfl, p1, p2⟩ := p.cons
    obtain rfl := p2.nil
    exact call_len_str pins s σ H _ us Q I r ⟨x, by rw [p1.str], hc, k _ A H (Grow.refl ha) (Rp.int.mpr rfl)⟩
theorem cf_list : CallR X (.type "list") (rCF X.K listD) := by
  intro pins s σ H xs us Q I r h
  obtain ⟨A, ds, d, e, ha, p, k⟩ := h
  match ds, e with
  | [.list es], e =>
    cases e
    obtain ⟨v, r', rfl, p1, p2⟩ := p.cons
    obtain rfl := p2.nil
    obtain ⟨l, vs, rfl, h1, q1⟩ := p1.list ha
    exact call_list_of pins s σ H _ us Q I r ⟨l, vs, rfl, .inl h1, fun q hq => k _ A _ (Grow.lay ha hq) ⟨q, _, rfl, hq, upd_same, ha.free hq, .inl ⟨_, _, rfl, rfl, q1⟩⟩⟩
  | [.tuple es], e =>
    cases e
    obtain ⟨v, r', rfl, p1, p2⟩ := p.cons
    obtain rfl := p2.nil
    obtain ⟨l, vs, rfl, h1, q1⟩ := p1.tuple ha
    exact call_list_of pins s σ H _ us Q I r ⟨l, vs, rfl, .inr h1, fun q hq => k _ A _ (Grow.lay ha hq) ⟨q, _, rfl, hq, upd_same, ha.free hq, .inl ⟨_, _, rfl, rfl, q1⟩⟩⟩
theorem cd_tuple : CallR X (.type "tuple") (rC X.K tupleD) := by
  intro pins s σ H xs us Q I r h
  obtain ⟨A, ds, d, e, ha, p, k⟩ := h
  match ds, e with
  | [.list es], e =>
    cases e
    obtain ⟨v, r', rfl, p1, p2⟩ := p.cons
    obtain rfl := p2.nil
    obtain ⟨l, vs, rfl, h1, q1⟩ := p1.list ha
    exact call_tuple_of pins s σ H _ us Q I r ⟨l, vs, rfl, .inl ⟨h1, fun q hq => by
      have g := Grow.new (o := .tup vs) ha hq
      exact k _ _ _ g (Rp.tuple.mpr ⟨q, vs, rfl, SqT.of upd_same, RpAll.mono g.aa _ q1⟩)⟩⟩
  | [.tuple es], e =>
    cases e
    obtain ⟨v, r', rfl, p1, p2⟩ := p.cons
    obtain rfl := p2.nil
    have p1' := p1.nolist (fun _ z => nomatch z) (fun _ z => nomatch z)
    obtain ⟨l, vs, rfl, h1, q1⟩ := p1.tuple ha
    exact call_tuple_of pins s σ H _ us Q I r ⟨l, vs, rfl, .inr ⟨h1, k _ A H (Grow.refl ha) p1'⟩⟩
end
noncomputable def tyN : PyData → String
  | .none => "NoneType"
  | .bool _ => "bool"
  | .int _ => "int"
  | .str _ => "str"
  | .list _ => "list"
  | .tuple _ => "tuple"
  | .dict _ => "dict"
noncomputable def isiD (T : String) (d : PyData) : Bool := tyN d == T || (T == "int" && tyN d == "bool")
noncomputable def eIsi (T : String) (a : ME) : ME := fun Γ => (a Γ).bind fun d => .ok (.bool (isiD T d))
section
variable {K : PySem.W.Frag}
theorem kit_self (t : String) : PySem.W.kitOne K (.type t) (.type t) = some true := by unfold PySem.W.kitOne; rw [if_pos (by simp)]
theorem kit_of {t T : String} {b : Bool} (hne : (Value.type t == Value.type T) = false) (h : (if PySem.W.kitMeta T = true then (fastBuiltinMro t).map (·.contains (Value.type T)) else none) = some b) : PySem.W.kitOne K (.type t) (.type T) = some b := by
  unfold PySem.W.kitOne PySem.W.kitCls
  rw [if_neg (by rw [hne]; exact Bool.false_ne_true)]
  exact h
noncomputable def IsiT (K : PySem.W.Frag) (T : String) : Prop := ∀ d : PyData, PySem.W.kitOne K (.type (tyN d)) (.type T) = some (isiD T d)
theorem isi_mk {T : String} (h : ∀ t ∈ ["NoneType", "bool", "int", "str", "list", "tuple", "dict"], PySem.W.kitOne K (.type t) (.type T) = some (t == T || (T == "int" && t == "bool"))) : IsiT K T := fun d => h (tyN d) (by cases d <;> simp [tyN])
theorem isi_int : IsiT K "int" := isi_mk fun t h => by
  simp only [List.mem_cons, List.not_mem_nil, or_false] at h
  rcases h with rfl | rfl | rfl | rfl | rfl | rfl | rfl <;> first | exact (kit_self _).trans (by decide +kernel) | exact kit_of (by decide +kernel) (by decide +kernel)
theorem isi_bool : IsiT K "bool" := isi_mk fun t h => by
  simp only [List.mem_cons, List.not_mem_nil, or_false] at h
  rcases h with rfl | rfl | rfl | rfl | rfl | rfl | rfl <;> first | exact (kit_self _).trans (by decide +kernel) | exact kit_of (by decide +kernel) (by decide +kernel)
theorem isi_tuple : IsiT K "tuple" := isi_mk fun t h => by
  simp only [List.mem_cons, List.not_mem_nil, or_false] at h
  rcases h with rfl | rfl | rfl | rfl | rfl | rfl | rfl <;> first | exact (kit_self _).trans (by decide +kernel) | exact kit_of (by decide +kernel) (by decide +kernel)
end
section
variable {X : Cx} {O : List Fl} {m : ME} {a b : Expr} {p pos : Pos} {T : String}
noncomputable def rIsiD (K : PySem.W.Frag) (T : String) : List V → Hp → VK → Prop := fun xs H Q => ∃ x A d, xs = [x, .ty T] ∧ Same A H ∧ Pk K A H d x ∧ Q (.bl (isiD T d)) H
theorem cd_isi (hT : IsiT X.K T) : CallR X (.builtin "isinstance") (rIsiD X.K T) := by
  intro pins s σ H xs us Q I r h
  obtain ⟨x, A, d, rfl, ha, p1, q⟩ := h
  obtain ⟨u, c, rfl, rx, rc⟩ := Vals.two r
  cases rc
  have fin : ∀ tk, EP X pins σ Q (.bool (isiD T d)) { s with toks := tk } := fun tk => ⟨.bl _, H, I.tok tk, rfl, q⟩
  have e := hT d
  cases d with
  | none => rw [p1.none] at rx; cases rx; exact PySem.W.kia_one PySem.W.kitx_none I.kIn True.intro e (fun z => nomatch z) fin
  | bool y => rw [p1.bool] at rx; cases rx; exact PySem.W.kia_one PySem.W.kitx_bool I.kIn True.intro e (fun z => nomatch z) fin
  | int i => rw [p1.int] at rx; obtain ⟨t, rfl⟩ := rx; exact PySem.W.kia_one PySem.W.kitx_int I.kIn True.intro e (fun z => nomatch z) fin
  | str y => rw [p1.str] at rx; obtain ⟨t, rfl⟩ := rx; exact PySem.W.kia_one PySem.W.kitx_str I.kIn True.intro e (fun z => nomatch z) fin
  | list ds =>
    obtain ⟨l, vs, rfl, h1, q1⟩ := p1.list ha
    cases rx
    obtain ⟨its, _, pl, _⟩ := I.list h1
    obtain ⟨o, h2, h3, _⟩ := pl.isList
    exact PySem.W.kia_one PySem.W.kitx_list I.kIn ⟨o, h2, h3⟩ e (fun z => nomatch z) fin
  | tuple ds =>
    obtain ⟨l, vs, rfl, h1, q1⟩ := p1.tuple ha
    cases rx
    obtain ⟨its, _, ⟨o, h2, h3, _⟩, _⟩ := I.tuple h1
    exact PySem.W.kia_one PySem.W.kitx_tuple I.kIn ⟨o, h2, h3⟩ e (fun z => nomatch z) fin
  | dict ds =>
    obtain ⟨l, kvs, rfl, h1, _⟩ := p1.dict ha
    cases rx
    obtain ⟨_, _, vs, _, hd⟩ : kvs.length ≤ sizeLine ∧ (l == sysModules) = false ∧ ∃ vs, KV kvs vs ∧ s.heap.DictOf (mixKind X.prog X.w) l vs := I.hok l _ h1
    obtain ⟨o, _, _, h2, h3, _⟩ := hd
    exact PySem.W.kia_one PySem.W.kitx_dict I.kIn ⟨o, h2, h3.1⟩ e (fun z => nomatch z) fin
theorem se_isi (hT : IsiT X.K T) (hg : Gl X "isinstance") (hm : X.mg "isinstance" = none) (ha : QE X a (tP X.K O m)) (hb : PE X b (tC (.ty T)))
    (h1 : starEach (a :: [b]) X.env = (false, eval a X.env) :: starEach [b] X.env := by rfl) (h2 : starEach [b] X.env = (false, eval b X.env) :: starEach [] X.env := by rfl) (hpl : (backTo pos (starEach [b] X.env)).any (·.1) = false := by rfl) :
    QE X (.Call (.Name "isinstance" p) [a, b] [] pos) (tE X.K O (eIsi T m)) :=
  QE.imp (pe_callB (cd_isi hT) hg hm (show bootBuiltins "isinstance" = some (.builtin "isinstance") by decide +kernel) (pa_cons ha.h (pa_cons hb pa_nil h2) h1) (by decide) (by decide) h1 hpl) fun σ H Q hq__ => by
    obtain ⟨A, B, Γ, d, r, em, k⟩ := hq__
    obtain ⟨d1, e1, em⟩ := Res.bind_ok em
    cases em
    exact ⟨A, B, Γ, d1, r, e1, fun v A1 H1 g1 p1 => ⟨v, A1, d1, rfl, g1.ah, p1, k _ A1 H1 g1 (Rp.bool.mpr rfl)⟩⟩
theorem pe_ty {x : Str} {T : String} {pos : Pos} (hg : Gl X x) (hm : X.mg x = none) (hv : bootBuiltins x = some (.type T)) (hn : x ≠ "__name__" := by decide) (hd : (x == ("__debug__" : Str)) = false := by decide) : PE X (.Name x pos) (tC (.ty T)) :=
  pe_bltn (v := .ty T) hg hm hv rfl hn hd
end
noncomputable def MO := Ev → Res (Option Int)
section
variable {X : Cx} {O : List Fl} {m : ME} {lo hi : Option Expr} {ml mh : MO} {a e : Expr} {p pos p2 : Pos}
section
variable {prog : Program} {w : World} {A : Around} {E : Value → Shared → Prop} {s : Shared}
end
end
end L3
namespace L3
open PySem PySem.Spec PyProof.Rows L2
theorem getD_set_eq {α : Type} {l : List α} {i : Nat} {x d : α} (h : i < l.length) : (l.set i x).getD i d = x := by
  rw [List.getD_eq_getElem?_getD, List.getElem?_set_self h]; rfl
theorem getD_set_ne {α : Type} {l : List α} {i j : Nat} {x d : α} (h : i ≠ j) : (l.set i x).getD j d = l.getD j d := by
  rw [List.getD_eq_getElem?_getD, List.getD_eq_getElem?_getD, List.getElem?_set_ne h]
section
variable {K : PySem.W.Frag} {A B H : Hp} {O : List Fl} {σ : L2.St} {Γ : Ev} {i : Nat} {d : PyData} {v : V}
theorem StRep.set (r : StRep K A B H O σ Γ) (hi : i < Γ.length) (hO : i < O.length) (p : Rp K A d v) : StRep K A B H (O.set i .imm) (σ.set i (some v)) (Γ.set i (some d)) := by
  have hs : i < σ.length := by rw [← r.len]; exact hi
  refine ⟨r.a, r.b, by rw [List.length_set, List.length_set]; exact r.len, fun j => ?_, fun j k hjk h1 h2 h3 h4 => ?_⟩
  · by_cases hj : i = j
    · subst hj
      unfold fl gv sv
      rw [getD_set_eq hO, getD_set_eq hi, getD_set_eq hs]
      exact fun d' e => ⟨v, rfl, by cases e; exact p⟩
    · unfold fl gv sv
      rw [getD_set_ne hj, getD_set_ne hj, getD_set_ne hj]
      exact r.slot j
  · have hj : i ≠ j := fun z => by subst z; unfold fl at h1; rw [getD_set_eq hO] at h1; cases h1
    have hk : i ≠ k := fun z => by subst z; unfold fl at h2; rw [getD_set_eq hO] at h2; cases h2
    unfold fl at h1 h2
    unfold gv at h3 h4
    rw [getD_set_ne hj] at h1 h3
    rw [getD_set_ne hk] at h2 h4
    unfold sv
    rw [getD_set_ne hj, getD_set_ne hk]
    exact r.sep j k hjk h1 h2 h3 h4
theorem StRep.setO {p : Addr} {o : HO} (r : StRep K A B H O σ Γ) (hi : i < Γ.length) (hO : i < O.length) (h1 : H p = some o) (h2 : A p = none) (h3 : B p = none) (h4 : OwnO K A d o)
    (hn : ∀ j, isO (fl O j) = true → gv Γ j ≠ none → sv σ j ≠ some (.ref p)) : StRep K A B H (O.set i .own) (σ.set i (some (.ref p))) (Γ.set i (some d)) := by
  have hs : i < σ.length := by rw [← r.len]; exact hi
  refine ⟨r.a, r.b, by rw [List.length_set, List.length_set]; exact r.len, fun j => ?_, fun j k hjk q1 q2 q3 q4 => ?_⟩
  · by_cases hj : i = j
    · subst hj
      unfold fl gv sv
      rw [getD_set_eq hO, getD_set_eq hi, getD_set_eq hs]
      exact fun d' e => ⟨_, rfl, by cases e; exact ⟨p, o, rfl, h1, h2, h3, h4⟩⟩
    · unfold fl gv sv
      rw [getD_set_ne hj, getD_set_ne hj, getD_set_ne hj]
      exact r.slot j
  · unfold fl at q1 q2
    unfold gv at q3 q4
    unfold sv
    by_cases hj : i = j
    · subst hj
      have hk : i ≠ k := hjk
      rw [getD_set_ne hk] at q2 q4
      rw [getD_set_eq hs, getD_set_ne hk]
      exact fun z => hn k q2 q4 z.symm
    · rw [getD_set_ne hj] at q1 q3
      rw [getD_set_ne hj]
      by_cases hk : i = k
      · subst hk
        rw [getD_set_eq hs]
        exact hn j q1 q3
      · rw [getD_set_ne hk] at q2 q4
        rw [getD_set_ne hk]
        exact r.sep j k hjk q1 q2 q3 q4
theorem StRep.own_at (r : StRep K A B H O σ Γ) {j : Nat} (h1 : isO (fl O j) = true) (h2 : gv Γ j ≠ none) : ∃ d p o, gv Γ j = some d ∧ sv σ j = some (.ref p) ∧ H p = some o ∧ A p = none ∧ B p = none ∧ OwnO K A d o := by
  cases e : gv Γ j with
  | none => exact absurd e h2
  | some d =>
    obtain ⟨v, e1, q⟩ := r.slot j d e
    cases hf : fl O j with
    | imm => rw [hf] at h1; cases h1
    | bor => rw [hf] at h1; cases h1
    | own =>
      rw [hf] at q
      obtain ⟨p, o, rfl, q⟩ := q
      exact ⟨d, p, o, rfl, e1, q⟩
    | fix p0 =>
      rw [hf] at q
      obtain ⟨_, p, o, rfl, q⟩ := q
      exact ⟨d, p, o, rfl, e1, q⟩
    | exc C => rw [hf] at h1; cases h1
    | nst b => rw [hf] at h1; cases h1
theorem StRep.fresh {A' H' : Hp} (r : StRep K A B H O σ Γ) (g : Grow A H A' H') {p : Addr} {o : HO} (hi : i < Γ.length) (hO : i < O.length) (h0 : H p = none) (h1 : H' p = some o) (h2 : A' p = none) (h4 : OwnO K A' d o) :
    StRep K A' B H' (O.set i .own) (σ.set i (some (.ref p))) (Γ.set i (some d)) := by
  refine (r.grow g).setO hi hO h1 h2 (r.b.free h0) h4 fun j q1 q2 z => ?_
  obtain ⟨d', p', o', e1, e2, e3, _⟩ := r.own_at q1 q2
  rw [e2] at z
  cases z
  rw [h0] at e3
  cases e3
theorem StRep.freeze (r : StRep K A B H O σ Γ) (hi : fl O i = .own) (hO : i < O.length) : ∃ A', Same A A' ∧ New A A' B ∧ StRep K A' B H (O.set i .imm) σ Γ := by
  by_cases hg : gv Γ i = none
  · refine ⟨A, Same.refl _, fun _ h _ => h, r.a, r.b, r.len, fun j => ?_, fun j k hjk h1 h2 h3 h4 => ?_⟩
    · by_cases hj : i = j
      · subst hj
        intro d e
        rw [hg] at e
        cases e
      · unfold fl
        rw [getD_set_ne hj]
        exact r.slot j
    · have hj : i ≠ j := fun z => by subst z; exact h3 hg
      have hk : i ≠ k := fun z => by subst z; exact h4 hg
      unfold fl at h1 h2
      rw [getD_set_ne hj] at h1
      rw [getD_set_ne hk] at h2
      exact r.sep j k hjk h1 h2 h3 h4
  · have hiO : isO (fl O i) = true := by rw [hi]; rfl
    obtain ⟨d, p, o, e1, e2, h1, h2, h3, h4⟩ := r.own_at hiO hg
    have s : Same A (upd A p o) := Same.new h2 o
    refine ⟨upd A p o, s, fun q n1 n2 => ?_, fun b u q => ?_, r.b, r.len, fun j => ?_, fun j k hjk q1 q2 q3 q4 => ?_⟩
    · have hq : q ≠ p := fun z => n2 (z ▸ h3)
      rw [upd_ne hq]; exact n1
    · by_cases hb : b = p
      · subst hb; rw [upd_same] at q; rw [h1]; exact q
      · rw [upd_ne hb] at q; exact r.a b u q
    · by_cases hj : i = j
      · subst hj
        unfold fl
        rw [getD_set_eq hO]
        intro d' e'
        rw [e1] at e'
        cases e'
        refine ⟨_, e2, ?_⟩
        exact h4.share s
      · unfold fl
        rw [getD_set_ne hj]
        intro d' e'
        obtain ⟨v', e'', q⟩ := r.slot j d' e'
        refine ⟨v', e'', ?_⟩
        cases hf : fl O j with
        | imm => rw [hf] at q; unfold fl at hf; rw [hf]; exact Rp.mono s d' q
        | bor => rw [hf] at q; unfold fl at hf; rw [hf]; exact Pk.mono s (Same.refl _) q
        | own =>
          rw [hf] at q
          have hf' := hf
          unfold fl at hf
          rw [hf]
          obtain ⟨p', o', rfl, g1, g2, g3, g4⟩ := q
          refine ⟨p', o', rfl, g1, ?_, g3, g4.mono s⟩
          have hne : p' ≠ p := fun z => by
            refine r.sep i j hj hiO (by rw [hf']; rfl) hg (by rw [e']; simp) ?_
            rw [e2, e'', z]
          rw [upd_ne hne]; exact g2
        | fix p0 =>
          rw [hf] at q
          have hf' := hf
          unfold fl at hf
          rw [hf]
          obtain ⟨q0, p', o', rfl, g1, g2, g3, g4⟩ := q
          refine ⟨q0, p', o', rfl, g1, ?_, g3, g4.mono s⟩
          have hne : p' ≠ p := fun z => by
            refine r.sep i j hj hiO (by rw [hf']; rfl) hg (by rw [e']; simp) ?_
            rw [e2, e'', z]
          rw [upd_ne hne]; exact g2
        | exc C =>
          rw [hf] at q
          unfold fl at hf
          rw [hf]
          obtain ⟨p', ob, w1, w2, w3⟩ := q
          exact ⟨p', ob, w1, s _ _ w2, w3⟩
        | nst b =>
          rw [hf] at q
          unfold fl at hf
          rw [hf]
          intro z
          obtain ⟨p', xs, kvs, w1, w2, w3, w4, w5, w6⟩ := q z
          refine ⟨p', xs, kvs, w1, w2, w3, ?_, w5, w6.mono s⟩
          have hne : p' ≠ p := fun z => by subst z; rw [h1] at w3; exact h4.nx w3
          rw [upd_ne hne]; exact w4
    · have hj : i ≠ j := fun z => by subst z; unfold fl at q1; rw [getD_set_eq hO] at q1; cases q1
      have hk : i ≠ k := fun z => by subst z; unfold fl at q2; rw [getD_set_eq hO] at q2; cases q2
      unfold fl at q1 q2
      rw [getD_set_ne hj] at q1
      rw [getD_set_ne hk] at q2
      exact r.sep j k hjk q1 q2 q3 q4
theorem StRep.change {p : Addr} {o o' : HO} {d' : PyData} (r : StRep K A B H O σ Γ) (hi : isO (fl O i) = true) (hl : i < Γ.length) (he : gv Γ i ≠ none) (hs : sv σ i = some (.ref p)) (h1 : H p = some o) (h4 : OwnO K A d' o') :
    StRep K A B (upd H p o') O σ (Γ.set i (some d')) := by
  obtain ⟨d, p', o0, e1, e2, g1, g2, g3, g4⟩ := r.own_at hi he
  rw [hs] at e2
  cases e2
  refine ⟨fun b u q => ?_, fun b u q => ?_, by rw [List.length_set]; exact r.len, fun j => ?_, fun j k hjk q1 q2 q3 q4 => ?_⟩
  · have hb : b ≠ p := fun z => by rw [z, g2] at q; cases q
    rw [upd_ne hb]; exact r.a b u q
  · have hb : b ≠ p := fun z => by rw [z, g3] at q; cases q
    rw [upd_ne hb]; exact r.b b u q
  · by_cases hj : i = j
    · subst hj
      unfold gv
      rw [getD_set_eq hl]
      intro d'' e
      cases e
      refine ⟨_, hs, ?_⟩
      cases hf : fl O i with
      | imm => rw [hf] at hi; cases hi
      | bor => rw [hf] at hi; cases hi
      | own => exact ⟨p, o', rfl, upd_same, g2, g3, h4⟩
      | fix p0 =>
        obtain ⟨v', ev, q⟩ := r.slot i d e1
        rw [hf] at q
        rw [hs] at ev
        cases ev
        exact ⟨q.1, p, o', rfl, upd_same, g2, g3, h4⟩
      | exc C => rw [hf] at hi; cases hi
      | nst b => rw [hf] at hi; cases hi
    · unfold gv
      rw [getD_set_ne hj]
      intro d'' e''
      obtain ⟨v', ev, q⟩ := r.slot j d'' e''
      refine ⟨v', ev, ?_⟩
      cases hf : fl O j with
      | imm => rw [hf] at q; exact q
      | bor => rw [hf] at q; exact q
      | own =>
        rw [hf] at q
        obtain ⟨p', o', rfl, u1, u2, u3, u4⟩ := q
        refine ⟨p', o', rfl, ?_, u2, u3, u4⟩
        have hne : p' ≠ p := fun z => by
          refine r.sep i j hj hi (by rw [hf]; rfl) he (by show gv Γ j ≠ none; unfold gv; rw [e'']; simp) ?_
          rw [hs, ev, z]
        rw [upd_ne hne]; exact u1
      | fix p0 =>
        rw [hf] at q
        obtain ⟨q0, p', o', rfl, u1, u2, u3, u4⟩ := q
        refine ⟨q0, p', o', rfl, ?_, u2, u3, u4⟩
        have hne : p' ≠ p := fun z => by
          refine r.sep i j hj hi (by rw [hf]; rfl) he (by show gv Γ j ≠ none; unfold gv; rw [e'']; simp) ?_
          rw [hs, ev, z]
        rw [upd_ne hne]; exact u1
      | exc C => rw [hf] at q; exact q
      | nst b =>
        rw [hf] at q
        intro z
        obtain ⟨p', xs, kvs, w1, w2, w3, w4, w5, w6⟩ := q z
        have hne : p' ≠ p := fun z => by subst z; rw [g1] at w3; exact g4.nx w3
        exact ⟨p', xs, kvs, w1, w2, by rw [upd_ne hne]; exact w3, w4, w5, w6⟩
  · have h3 : gv Γ j ≠ none := by
      by_cases hj : i = j
      · subst hj; exact he
      · unfold gv at q3 ⊢; rw [getD_set_ne hj] at q3; exact q3
    have h4' : gv Γ k ≠ none := by
      by_cases hk : i = k
      · subst hk; exact he
      · unfold gv at q4 ⊢; rw [getD_set_ne hk] at q4; exact q4
    exact r.sep j k hjk q1 q2 h3 h4'
theorem StRep.weak {Γ' : Ev} (r : StRep K A B H O σ Γ) (hl : Γ'.length = Γ.length) (h : ∀ j, gv Γ' j = none ∨ gv Γ' j = gv Γ j) : StRep K A B H O σ Γ' := by
  have h' : ∀ j, gv Γ' j ≠ none → gv Γ j ≠ none := fun j n => by
    rcases h j with z | z
    · exact absurd z n
    · rw [← z]; exact n
  refine ⟨r.a, r.b, hl.trans r.len, fun j d e => ?_, fun j k hjk q1 q2 q3 q4 => r.sep j k hjk q1 q2 (h' j q3) (h' k q4)⟩
  rcases h j with z | z
  · rw [z] at e; cases e
  · rw [z] at e; exact r.slot j d e
end
noncomputable def clr (l : List Nat) (Γ : Ev) : Ev := l.foldl (fun Γ i => Γ.set i none) Γ
theorem clr_ok : ∀ (l : List Nat) (Γ : Ev), (clr l Γ).length = Γ.length ∧ ∀ j, gv (clr l Γ) j = none ∨ gv (clr l Γ) j = gv Γ j
  | [], Γ => ⟨rfl, fun _ => .inr rfl⟩
  | i :: l, Γ => by
    obtain ⟨h1, h2⟩ := clr_ok l (Γ.set i none)
    refine ⟨h1.trans (List.length_set ..), fun j => ?_⟩
    rcases h2 j with z | z
    · exact .inl z
    · by_cases hj : i = j
      · subst hj
        left
        show gv (clr l (Γ.set i none)) i = none
        rw [z]
        unfold gv
        rw [List.getD_eq_getElem?_getD]
        by_cases hi : i < Γ.length
        · rw [List.getElem?_set_self hi]; rfl
        · rw [List.getElem?_eq_none (by rw [List.length_set]; omega)]; rfl
      · right
        show gv (clr l (Γ.set i none)) j = gv Γ j
        rw [z]
        unfold gv
        exact getD_set_ne hj
theorem StRep.clr {K : PySem.W.Frag} {A B H : Hp} {O : List Fl} {σ : L2.St} {Γ : Ev} (r : StRep K A B H O σ Γ) (l : List Nat) : StRep K A B H O σ (L3.clr l Γ) := r.weak (clr_ok l Γ).1 (clr_ok l Γ).2
inductive Rm where
  | f | t | m (p : Addr)
noncomputable def RetV (K : PySem.W.Frag) (rm : Rm) (B A' H' : Hp) (d : PyData) (v : V) : Prop := match rm with
  | .f => Rp K A' d v
  | .t => FreshV K B A' H' d v
  | .m p => ∃ d1 dm o, d = .tuple [d1, dm] ∧ Rp K A' d1 v ∧ H' p = some o ∧ A' p = none ∧ OwnO K A' dm o
noncomputable def OutOk (K : PySem.W.Frag) (rm : Rm) (Ol O' : List Fl) (A B : Hp) (D : Ends) : Out → Prop
  | .nx Γ' => ∀ σ' A' H', StRep K A' B H' O' σ' Γ' → Same A A' → New A A' B → D.nx σ' H'
  | .bk Γ' => ∀ σ' A' H', StRep K A' B H' Ol σ' Γ' → Same A A' → New A A' B → D.bk σ' H'
  | .ct Γ' => ∀ σ' A' H', StRep K A' B H' Ol σ' Γ' → Same A A' → New A A' B → D.ct σ' H'
  | .rt d => ∀ v A' H', Same A' H' → Same B H' → Same A A' → New A A' B → RetV K rm B A' H' d v → D.rt v H'
noncomputable def tS (K : PySem.W.Frag) (rm : Rm) (Ol O O' : List Fl) (m : MS) : TS := fun D σ H => ∃ A B Γ o, StRep K A B H O σ Γ ∧ m Γ = .ok o ∧ OutOk K rm Ol O' A B D o
section
variable {K : PySem.W.Frag} {rm : Rm} {Ol O O' : List Fl} {A B A1 H H1 : Hp} {D : Ends} {o : Out}
theorem OutOk.sub (sa : Same A A1) (nw : New A A1 B) (h : OutOk K rm Ol O' A B D o) : OutOk K rm Ol O' A1 B D o := by
  cases o with
  | nx Γ => exact fun σ' A' H' r s n => h σ' A' H' r (sa.trans s) (nw.trans n)
  | bk Γ => exact fun σ' A' H' r s n => h σ' A' H' r (sa.trans s) (nw.trans n)
  | ct Γ => exact fun σ' A' H' r s n => h σ' A' H' r (sa.trans s) (nw.trans n)
  | rt d => exact fun v A' H' s1 s2 s n => h v A' H' s1 s2 (sa.trans s) (nw.trans n)
theorem Grow.nB (g : Grow A H A1 H1) (b : Same B H) : New A A1 B := g.nw.mono b
end
noncomputable def sNil : MS := fun Γ => .ok (.nx Γ)
noncomputable def sSeq (a b : MS) : MS := fun Γ => (a Γ).bind fun o => match o with
  | .nx Γ' => b Γ'
  | .rt d => .ok (.rt d)
  | .bk Γ' => .ok (.bk Γ')
  | .ct Γ' => .ok (.ct Γ')
noncomputable def sSet (i : Nat) (m : ME) : MS := fun Γ => (m Γ).bind fun d => gd (i < Γ.length) (.ok (.nx (Γ.set i (some d))))
noncomputable def sIf (c : ME) (a b : MS) : MS := fun Γ => (c Γ).bind fun x => match x with
  | .bool true => a Γ
  | .bool false => b Γ
  | _ => .bad
noncomputable def sRet (m : ME) : MS := fun Γ => (m Γ).bind fun d => .ok (.rt d)
noncomputable def sBad : MS := fun _ => .bad
section
variable {X : Cx} {K : PySem.W.Frag} {rm : Rm} {Ol O O1 O2 O' : List Fl} {m : ME} {m1 m2 : MS} {e c : Expr} {st : Stmt} {rest a b : List Stmt} {pos : Pos}
theorem ss_nil : QSs X [] (tS K rm Ol O O sNil) := QSs.imp pss_nil fun D σ H hq__ => by
  obtain ⟨A, B, Γ, o, r, em, k⟩ := hq__
  cases em
  exact k σ A H r (Same.refl _) fun _ h _ => h
theorem ss_cons (h1 : QS X st (tS K rm Ol O O1 m1)) (h2 : QSs X rest (tS K rm Ol O1 O2 m2)) : QSs X (st :: rest) (tS K rm Ol O O2 (sSeq m1 m2)) := QSs.imp (pss_cons h1.h h2.h) fun D σ H hq__ => by
  obtain ⟨A, B, Γ, o, r, em, k⟩ := hq__
  obtain ⟨o1, e1, em⟩ := Res.bind_ok em
  cases o1 with
  | nx Γ1 => exact ⟨A, B, Γ, _, r, e1, fun σ' A' H' r' sa nw => ⟨A', B, Γ1, o, r', em, k.sub sa nw⟩⟩
  | rt d => cases em; exact ⟨A, B, Γ, _, r, e1, k⟩
  | bk d => cases em; exact ⟨A, B, Γ, _, r, e1, k⟩
  | ct d => cases em; exact ⟨A, B, Γ, _, r, e1, k⟩
theorem ss_one (h1 : QS X st (tS K rm Ol O O1 m1)) : QSs X [st] (tS K rm Ol O O1 m1) := ⟨pss_one h1.h⟩
theorem s1_frz (i : Nat) {O2 : List Fl} (h : QS X st (tS K rm Ol O2 O' m1)) (hO : O.set i .imm = O2 := by rfl) (hi : fl O i = .own := by rfl) (hl : i < O.length := by exact of_decide_eq_true rfl) : QS X st (tS K rm Ol O O' m1) := QS.imp (hO ▸ h.h) fun D σ H hq__ => by
  obtain ⟨A, B, Γ, o, r, em, k⟩ := hq__
  obtain ⟨A', sa, nw, r'⟩ := r.freeze hi hl
  exact ⟨A', B, Γ, o, r', em, k.sub sa nw⟩
theorem se_frz (i : Nat) {O2 : List Fl} (h : QSs X rest (tS K rm Ol O O' m1)) (hO : O'.set i .imm = O2 := by rfl) (hi : fl O' i = .own := by rfl) (hl : i < O'.length := by exact of_decide_eq_true rfl) : QSs X rest (tS K rm Ol O O2 m1) := hO ▸ QSs.imp h.h fun D σ H hq__ => by
  obtain ⟨A, B, Γ, o, r, em, k⟩ := hq__
  refine ⟨A, B, Γ, o, r, em, ?_⟩
  cases o with
  | nx Γ' =>
    intro σ' A' H' r' sa nw
    obtain ⟨A2, sa2, nw2, r2⟩ := r'.freeze hi hl
    exact k σ' A2 H' r2 (sa.trans sa2) (nw.trans nw2)
  | bk Γ' => exact k
  | ct Γ' => exact k
  | rt d => exact k
theorem tAsg_set {te : TE} {i : Nat} (h : ∀ σ H Q, tE K O m σ H Q → te σ H Q) (hl : i < O.length) {D : Ends} {σ : L2.St} {H : Hp} (q : tS K rm Ol O (O.set i .imm) (sSet i m) D σ H) : tAsg te (gName i) D σ H := by
  obtain ⟨A, B, Γ, o, r, em, k⟩ := q
  obtain ⟨d, e1, em⟩ := Res.bind_ok em
  obtain ⟨hi, em⟩ := gd_ok em
  cases em
  refine h σ H _ ⟨A, B, Γ, d, r, e1, fun v A' H' g p => ?_⟩
  exact k _ A' H' ((r.grow g).set hi hl p) g.aa (g.nB r.b)
theorem tAsg_setF {te : TE} {i : Nat} (h : ∀ σ H Q, tF K O m σ H Q → te σ H Q) (hl : i < O.length) {D : Ends} {σ : L2.St} {H : Hp} (q : tS K rm Ol O (O.set i .own) (sSet i m) D σ H) : tAsg te (gName i) D σ H := by
  obtain ⟨A, B, Γ, o, r, em, k⟩ := q
  obtain ⟨d, e1, em⟩ := Res.bind_ok em
  obtain ⟨hi, em⟩ := gd_ok em
  cases em
  refine h σ H _ ⟨A, B, Γ, d, r, e1, fun v A' H' g p => ?_⟩
  obtain ⟨p, o, rfl, h0, h1, h2, h4⟩ := p
  exact k _ A' H' (r.fresh g hi hl h0 h1 h2 h4) g.aa (g.nB r.b)
theorem ss_set (i : Nat) {O2 : List Fl} {x : Str} {pos' : Pos} (hN : X.N.Nodup) (hi : X.N[i]? = some x) (hx : Loc X.env.scope x) (he : QE X e (tE K O m)) (hl : i < O.length := by exact of_decide_eq_true rfl) (hs : swapsWith e (some (.Name x pos')) pos.line X.env = pure false := by rfl)
    (hf : X.fn x = true ∨ X.env.scope.names.lookup x = some .local := by first | exact .inl rfl | exact .inr rfl | assumption) (hO : O.set i .imm = O2 := by rfl) : QS X (.Assign [.Name x pos'] e pos) (tS K rm Ol O O2 (sSet i m)) :=
  hO ▸ QS.imp (ps_set hN hi hx he.h hs hf) fun D σ H => tAsg_set (fun _ _ _ z => z) hl
theorem ss_setF (i : Nat) {O2 : List Fl} {x : Str} {pos' : Pos} (hN : X.N.Nodup) (hi : X.N[i]? = some x) (hx : Loc X.env.scope x) (he : QE X e (tF K O m)) (hl : i < O.length := by exact of_decide_eq_true rfl) (hs : swapsWith e (some (.Name x pos')) pos.line X.env = pure false := by rfl)
    (hf : X.fn x = true ∨ X.env.scope.names.lookup x = some .local := by first | exact .inl rfl | exact .inr rfl | assumption) (hO : O.set i .own = O2 := by rfl) : QS X (.Assign [.Name x pos'] e pos) (tS K rm Ol O O2 (sSet i m)) :=
  hO ▸ QS.imp (ps_set hN hi hx he.h hs hf) fun D σ H => tAsg_setF (fun _ _ _ z => z) hl
theorem ss_if (hc : QT X c (tT K O m)) (ha : QSs X a (tS K rm Ol O O' m1)) (hb : QSs X b (tS K rm Ol O O' m2)) : QS X (.If c a b pos) (tS K rm Ol O O' (sIf m m1 m2)) := QS.imp (ps_if hc.h ha.h hb.h) fun D σ H hq__ => by
  obtain ⟨A, B, Γ, o, r, em, k⟩ := hq__
  obtain ⟨d1, e1, em⟩ := Res.bind_ok em
  cases d1 with
  | bool bb =>
    refine ⟨A, B, Γ, bb, r, e1, fun A1 H1 g1 => ?_⟩
    cases bb with
    | true => exact iteT ⟨A1, B, Γ, o, r.grow g1, em, k.sub g1.aa (g1.nB r.b)⟩
    | false => exact iteF ⟨A1, B, Γ, o, r.grow g1, em, k.sub g1.aa (g1.nB r.b)⟩
  | _ => cases em
theorem ss_ret (he : QE X e (tE K O m)) : QS X (.Return (some e) pos) (tS K .f Ol O O' (sRet m)) := QS.imp (ps_ret he.h) fun D σ H hq__ => by
  obtain ⟨A, B, Γ, o, r, em, k⟩ := hq__
  obtain ⟨d1, e1, em⟩ := Res.bind_ok em
  cases em
  exact ⟨A, B, Γ, d1, r, e1, fun v A' H' g p => k v A' H' g.ah (r.b.trans g.hh) g.aa (g.nB r.b) p⟩
theorem ss_retF (he : QE X e (tF K O m)) : QS X (.Return (some e) pos) (tS K .t Ol O O' (sRet m)) := QS.imp (ps_ret he.h) fun D σ H hq__ => by
  obtain ⟨A, B, Γ, o, r, em, k⟩ := hq__
  obtain ⟨d1, e1, em⟩ := Res.bind_ok em
  cases em
  refine ⟨A, B, Γ, d1, r, e1, fun v A' H' g p => k v A' H' g.ah (r.b.trans g.hh) g.aa (g.nB r.b) ?_⟩
  obtain ⟨q, o, e, h1, h2⟩ := p
  exact ⟨q, o, e, r.b.free h1, h2⟩
theorem ss_retO (i : Nat) {x : Str} {p : Pos} (hi : fl O i = .own := by rfl) (hN : X.N[i]? = some x := by rfl) (hv : Vis X.env.scope x := by first | exact Or.inl rfl | exact Or.inr (Or.inl rfl) | exact Or.inr (Or.inr rfl)) (hd : (x == ("__debug__" : Str)) = false := by decide)
    (hcd : (x == ("__classdict__" : Str)) = false := by decide) : QS X (.Return (some (.Name x p)) pos) (tS K .t Ol O O' (sRet (eVar i))) := QS.imp (ps_ret (pe_var hN hv hd hcd)) fun D σ H hq__ => by
  obtain ⟨A, B, Γ, o, r, em, k⟩ := hq__
  obtain ⟨d1, e1, em⟩ := Res.bind_ok em
  cases em
  obtain ⟨v, e2, q⟩ := r.slot i d1 (eVar_ok e1)
  rw [hi] at q
  refine ⟨v, sv_get e2, k v A H r.a r.b (Same.refl _) (fun _ h _ => h) ?_⟩
  obtain ⟨p, o, e, h1, h2, h3, h4⟩ := q
  exact ⟨p, o, e, h3, h1, h2, h4⟩
theorem ss_bad : QS X st (tS K rm Ol O O' sBad) := QS.imp ps_never fun D σ H hq__ => by obtain ⟨A, B, Γ, o, r, em, k⟩ := hq__; cases em
end
noncomputable def spF (K : PySem.W.Frag) (fs : List Fl) (rm : Rm) (f : List PyData → Res PyData) : Sp := fun vs H Q _ => ∃ A ds d, Same A H ∧ ArgsOk K A H fs ds vs ∧ f ds = .ok d ∧ ∀ v A' H', Grow A H A' H' → RetV K rm H A' H' d v → Q v H'
theorem ArgsOk.length {K : PySem.W.Frag} {A H : Hp} : ∀ {fs : List Fl} {ds : List PyData} {vs : List V}, ArgsOk K A H fs ds vs → vs.length = fs.length ∧ ds.length = fs.length
  | [], ds, vs, h => by obtain ⟨rfl, rfl⟩ := h; exact ⟨rfl, rfl⟩
  | f :: fs, ds, vs, h => by
    obtain ⟨d, r, v, s, rfl, rfl, _, h⟩ := h
    have := h.length
    exact ⟨by rw [List.length_cons, List.length_cons, this.1], by rw [List.length_cons, List.length_cons, this.2]⟩
noncomputable def eCall (f : List PyData → Res PyData) (ms : List ME) : ME := fun Γ => (evs ms Γ).bind f
section
variable {X : Cx} {k : Nat} {x : Str} {ps : List Str} {fs : List Fl} {f : List PyData → Res PyData} {O : List Fl} {ms : List ME} {p pos : Pos} {e : Expr} {es : List Expr}
theorem se_call (F : Def X.prog X.w X.K X.mg X.base k x ps (spF X.K fs .f f)) (hr : Room k X.A) (hg : Gl X x) (ha : QA X (e :: es) (tAr X.K O fs ms)) (hdb : (x == ("__debug__" : Str)) = false := by decide)
    (he : noStar e = true := by rfl) (hpl : noStars es = true := by rfl) : QE X (.Call (.Name x p) (e :: es) [] pos) (tE X.K O (eCall f ms)) :=
  QE.imp (pe_def F hr hg ha.h hdb (star_cons he) (star_any hpl)) fun σ H Q hq__ => by
    obtain ⟨A, B, Γ, d, r, em, k⟩ := hq__
    obtain ⟨ds, e1, em⟩ := Res.bind_ok em
    refine ⟨A, B, Γ, ds, r, e1, fun vs A1 H1 g1 p1 => ?_⟩
    show spF X.K fs .f f (vs ++ []) H1 Q E0
    rw [List.append_nil]
    exact ⟨A1, ds, d, g1.ah, p1, em, fun v A' H' g p => k v A' H' (g1.trans g) p⟩
theorem sf_call (F : Def X.prog X.w X.K X.mg X.base k x ps (spF X.K fs .t f)) (hr : Room k X.A) (hg : Gl X x) (ha : QA X (e :: es) (tAr X.K O fs ms)) (hdb : (x == ("__debug__" : Str)) = false := by decide)
    (he : noStar e = true := by rfl) (hpl : noStars es = true := by rfl) : QE X (.Call (.Name x p) (e :: es) [] pos) (tF X.K O (eCall f ms)) :=
  QE.imp (pe_def F hr hg ha.h hdb (star_cons he) (star_any hpl)) fun σ H Q hq__ => by
    obtain ⟨A, B, Γ, d, r, em, k⟩ := hq__
    obtain ⟨ds, e1, em⟩ := Res.bind_ok em
    refine ⟨A, B, Γ, ds, r, e1, fun vs A1 H1 g1 p1 => ?_⟩
    show spF X.K fs .t f (vs ++ []) H1 Q E0
    rw [List.append_nil]
    refine ⟨A1, ds, d, g1.ah, p1, em, fun v A' H' g p => k v A' H' (g1.trans g) ?_⟩
    obtain ⟨q, o, e, h1, h2⟩ := p
    exact ⟨q, o, e, g1.hh.free h1, h2⟩
end
noncomputable def fnR (n : Nat) (m : MS) (ds : List PyData) : Res PyData := (m (ds.map some ++ List.replicate (n - ds.length) none)).bind fun o => match o with
  | .rt d => .ok d
  | _ => .bad
section
variable {P : Program} {w : World} {K : PySem.W.Frag} {mg : Str → Option Value} {base : Heap}
theorem start_rep {fs O : List Fl} {N : List Str} {A H : Hp} : ∀ {ds : List PyData} {vs : List V}, Same A H → ArgsOk K A H fs ds vs → (∀ i, i < fs.length → (fl O i = .imm ∧ fl fs i = .imm) ∨ fl O i = .bor) → fs.length ≤ N.length →
    StRep K A H H O (L2.start N vs) (ds.map some ++ List.replicate (N.length - ds.length) none) := by
  intro ds vs ha h hO hn
  have hl := h.length
  have one : ∀ (fs : List Fl) (ds : List PyData) (vs : List V), ArgsOk K A H fs ds vs → ∀ i d, ds[i]? = some d → ∃ v, vs[i]? = some v ∧ ArgV K A H (fl fs i) d v := by
    intro fs
    induction fs with
    | nil => intro ds vs h i d e; obtain ⟨rfl, rfl⟩ := h; simp at e
    | cons f fs ih =>
      intro ds vs h i d e
      obtain ⟨d0, r, v, s, rfl, rfl, h1, h⟩ := h
      match i with
      | 0 => simp at e; subst e; exact ⟨v, rfl, h1⟩
      | i + 1 =>
        obtain ⟨v', h2, h3⟩ := ih r s h i d (by simpa using e)
        exact ⟨v', by simpa using h2, h3⟩
  have gvN : ∀ i, gv (ds.map some ++ List.replicate (N.length - ds.length) none) i = ds[i]? := fun i => by
    unfold gv
    rw [List.getD_eq_getElem?_getD]
    rcases Nat.lt_or_ge i ds.length with h | h
    · rw [List.getElem?_append_left (by simpa using h), List.getElem?_map, List.getElem?_eq_getElem h]; rfl
    · rw [List.getElem?_append_right (by simpa using h), List.getElem?_replicate, List.getElem?_eq_none h]
      split <;> rfl
  have svN : ∀ i v, vs[i]? = some v → sv (L2.start N vs) i = some v := fun i v e => by
    unfold sv L2.start
    rw [List.getD_eq_getElem?_getD]
    have h : i < vs.length := (List.getElem?_eq_some_iff.mp e).1
    rw [List.getElem?_append_left (by simpa using h), List.getElem?_map, e]; rfl
  refine ⟨ha, Same.refl _, ?_, fun i d e => ?_, fun i j hij h1 h2 h3 h4 => ?_⟩
  · unfold L2.start
    rw [List.length_append, List.length_append, List.length_map, List.length_map, List.length_replicate, List.length_replicate]
    omega
  · rw [gvN] at e
    obtain ⟨v, e1, q⟩ := one fs ds vs h i d e
    refine ⟨v, svN i v e1, ?_⟩
    have hi : i < fs.length := by rw [← hl.2]; exact (List.getElem?_eq_some_iff.mp e).1
    rcases hO i hi with ⟨z, z'⟩ | z
    · rw [z]; rw [z'] at q; exact q
    · rw [z]
      cases hf : fl fs i with
      | imm => rw [hf] at q; exact .inl q
      | bor => rw [hf] at q; exact q
      | own => rw [hf] at q; exact q
      | fix p0 => rw [hf] at q; exact q
      | exc C => rw [hf] at q; exact q
      | nst b => rw [hf] at q; exact q
  · rw [gvN] at h3
    have hi : i < fs.length := by
      rw [← hl.2]
      rcases Nat.lt_or_ge i ds.length with h | h
      · exact h
      · exact absurd (List.getElem?_eq_none h) h3
    rcases hO i hi with ⟨z, _⟩ | z <;> rw [z] at h1 <;> cases h1
theorem def_okF {x : Str} {st : Stmt} {fa : Addr} {fd : FuncData} {N ps : List Str} {k : Nat} {fs O O' Ol : List Fl} {rm : Rm} {m : MS} (F : Fun K x x st fa fd) (S : FnScope N ps (defScope st)) (hf : fs.length = ps.length) (hn : ps.length ≤ N.length)
    (hO : ∀ i, i < fs.length → (fl O i = .imm ∧ fl fs i = .imm) ∨ fl O i = .bor)
    (hbody : ∀ (f : Addr) (cdv : Value) (A : Around) (outer : List Env) (s : Shared) (H : Hp) (E : XK), Room k (A.deeper (envOfC x (defScope st) s.heap.objs.size f cdv)) →
      QSs (cxOf CX0 P w K mg base N x (defScope st) f cdv A outer s H E).nox (defBody st) (tS K rm Ol O O' m)) : FnOk P w K mg base CX0 (k + 1) fa fd ps (spF K fs rm (fnR N.length m)) := by
  refine F.ok S (fun vs H Q E h => ?_) (fun cdv A outer s H vs Q E hr h => ?_)
  · obtain ⟨A, ds, d, _, h, _⟩ := h
    rw [h.length.1, hf]
  · obtain ⟨A', ds, d, ha, h, em, q⟩ := h
    obtain ⟨o, e1, em⟩ := Res.bind_ok em
    cases o with
    | rt d' =>
      cases em
      refine ⟨_, (hbody fa cdv A outer s H E hr).h, A', H, _, _, start_rep ha h hO (by omega), e1, fun v A2 H2 s1 s2 sa nw rv => q v A2 H2 ⟨sa, s2, s1, nw⟩ rv⟩
    | _ => cases em
theorem def_ok {x : Str} {st : Stmt} {N ps : List Str} {k : Nat} {fs O O' Ol : List Fl} {rm : Rm} {m : MS} (F : At K mg x st ps) (S : FnScope N ps (defScope st)) (hf : fs.length = ps.length) (hn : ps.length ≤ N.length)
    (hO : ∀ i, i < fs.length → (fl O i = .imm ∧ fl fs i = .imm) ∨ fl O i = .bor)
    (hbody : ∀ (f : Addr) (cdv : Value) (A : Around) (outer : List Env) (s : Shared) (H : Hp) (E : XK), Room k (A.deeper (envOfC x (defScope st) s.heap.objs.size f cdv)) →
      QSs (cxOf CX0 P w K mg base N x (defScope st) f cdv A outer s H E).nox (defBody st) (tS K rm Ol O O' m)) : Def P w K mg base (k + 1) x ps (spF K fs rm (fnR N.length m)) := by
  refine F.ok S (fun vs H Q E h => ?_) (fun f cdv A outer s H vs Q E hr h => ?_)
  · obtain ⟨A, ds, d, _, h, _⟩ := h
    rw [h.length.1, hf]
  · obtain ⟨A', ds, d, ha, h, em, q⟩ := h
    obtain ⟨o, e1, em⟩ := Res.bind_ok em
    cases o with
    | rt d' =>
      cases em
      refine ⟨_, (hbody f cdv A outer s H E hr).h, A', H, _, _, start_rep ha h hO (by omega), e1, fun v A2 H2 s1 s2 sa nw rv => q v A2 H2 ⟨sa, s2, s1, nw⟩ rv⟩
    | _ => cases em
end
end L3
namespace L3
open PySem PySem.Spec PyProof.Rows L2
noncomputable abbrev MI := Ev → Res (List PyData)
structure ItOk (K : PySem.W.Frag) (A B : Hp) (J : It) (xs : List PyData) : Prop where
  go : ∀ i H, Same A H → Same B H → i < xs.length → J.go i H
  stop : ∀ H, Same A H → Same B H → J.stop xs.length H
  yld : ∀ i A2 H x H', Same A A2 → Same A2 H → Same B H → i < xs.length → J.yld i H x H' → ∃ A' d, xs[i]? = some d ∧ Grow A2 H A' H' ∧ Rp K A' d x
noncomputable def tI (K : PySem.W.Frag) (O : List Fl) (it : MI) : TI := fun σ H R => ∃ A B Γ xs, StRep K A B H O σ Γ ∧ it Γ = .ok xs ∧ ∀ J A1 H1, Grow A H A1 H1 → ItOk K A1 B J xs → R J H1
noncomputable def tIc (K : PySem.W.Frag) (O : List Fl) (it : MI) : TI := fun σ H R => ∃ A B Γ xs, StRep K A B H O σ Γ ∧ it Γ = .ok xs ∧ ∀ J A1 H1, Grow A H A1 H1 → ItOk K A1 H1 J xs → R J H1
noncomputable def tQ (K : PySem.W.Frag) (O : List Fl) (m : ME) : TE := fun σ H Q => ∃ A B Γ d, StRep K A B H O σ Γ ∧ m Γ = .ok d ∧ ∀ v A' H', Grow A H A' H' → Pk K A' B d v → Q v H'
section
variable {X : Cx} {K : PySem.W.Frag} {O : List Fl} {m : ME} {e : Expr} {pos : Pos}
theorem sq (h : QE X e (tE K O m)) : QE X e (tQ K O m) := QE.imp h.h fun σ H Q hq__ => by obtain ⟨A, B, Γ, d, r, em, k⟩ := hq__; exact ⟨A, B, Γ, d, r, em, fun v A' H' g p => k v A' H' g (.inl p)⟩
theorem sq_var (i : Nat) {x : Str} (hi : isO (fl O i) = false := by rfl) (hN : X.N[i]? = some x := by rfl) (hv : Vis X.env.scope x := by first | exact Or.inl rfl | exact Or.inr (Or.inl rfl) | exact Or.inr (Or.inr rfl)) (hd : (x == ("__debug__" : Str)) = false := by decide)
    (hcd : (x == ("__classdict__" : Str)) = false := by decide) (hx : isX (fl O i) = false := by rfl) : QE X (.Name x pos) (tQ K O (eVar i)) := QE.imp (pe_var hN hv hd hcd) fun σ H Q hq__ => by
  obtain ⟨A, B, Γ, d, r, em, k⟩ := hq__
  obtain ⟨v, e1, q⟩ := r.slot i d (eVar_ok em)
  refine ⟨v, sv_get e1, k v A H (Grow.refl r.a) ?_⟩
  cases hf : fl O i with
  | imm => rw [hf] at q; exact .inl q
  | bor => rw [hf] at q; exact q
  | own => rw [hf] at hi; cases hi
  | fix p0 => rw [hf] at hi; cases hi
  | exc C => rw [hf] at hx; cases hx
  | nst b => rw [hf] at hx; cases hx
end
theorem Pk.seqL {K : PySem.W.Frag} {A B H : Hp} {ds : List PyData} {v : V} (h : Pk K A B (.list ds) v) : ∃ p vs, v = .ref p ∧ RpAll K A ds vs ∧ ∀ H, Same A H → Same B H → SqL K H p vs := by
  rcases h with h | ⟨p, vs, ds', e1, e2, h1, h2⟩ | ⟨_, _, _, _, e2, _⟩
  · obtain ⟨a, vs, e, h1, h2⟩ := Rp.list.mp h
    exact ⟨a, vs, e, h2, fun H s _ => s.seq h1⟩
  · cases e2
    exact ⟨p, vs, e1, h2, fun H _ s => s.seq h1⟩
  · cases e2
theorem Pk.seqT {K : PySem.W.Frag} {A B H : Hp} {ds : List PyData} {v : V} (h : Pk K A B (.tuple ds) v) : ∃ p vs, v = .ref p ∧ RpAll K A ds vs ∧ ∀ H, Same A H → SqT K H p vs := by
  obtain ⟨a, vs, e, h1, h2⟩ := Rp.tuple.mp (h.nolist (fun _ z => nomatch z) (fun _ z => nomatch z))
  exact ⟨a, vs, e, h2, fun H s => s.seqT h1⟩
section
variable {K : PySem.W.Frag} {A B : Hp} {ds : List PyData} {vs : List V} {p : Addr}
theorem it_list (hr : RpAll K A ds vs) (hq : ∀ H, Same A H → Same B H → SqL K H p vs) : ItOk K A B (Itl K p) ds := by
  have hl := hr.length
  refine ⟨fun i H s1 s2 hi => ?_, fun H s1 s2 => ⟨vs, hq H s1 s2, by omega⟩, fun i A2 H x H' sa s1 s2 hi y => ?_⟩
  · exact ⟨vs, vs[i]'(by omega), hq H s1 s2, List.getElem?_eq_getElem _⟩
  · obtain ⟨rfl, y⟩ := y
    have e := y vs (hq H' (sa.trans s1) s2)
    obtain ⟨d, e1, q⟩ := hr.get e
    exact ⟨A2, d, e1, Grow.refl s1, Rp.mono sa d q⟩
theorem it_tup (hr : RpAll K A ds vs) (hq : ∀ H, Same A H → SqT K H p vs) : ItOk K A B (Itt K p) ds := by
  have hl := hr.length
  refine ⟨fun i H s1 s2 hi => ?_, fun H s1 s2 => ⟨vs, hq H s1, by omega⟩, fun i A2 H x H' sa s1 s2 hi y => ?_⟩
  · exact ⟨vs, vs[i]'(by omega), hq H s1, List.getElem?_eq_getElem _⟩
  · obtain ⟨rfl, y⟩ := y
    have e := y vs (hq H' (sa.trans s1))
    obtain ⟨d, e1, q⟩ := hr.get e
    exact ⟨A2, d, e1, Grow.refl s1, Rp.mono sa d q⟩
theorem it_range (lo : Int) (n : Nat) : ItOk K A B (Itr lo n) ((List.range n).map fun i => PyData.int (lo + (i : Nat))) := by
  have hl : ((List.range n).map fun i => PyData.int (lo + (i : Nat))).length = n := by rw [List.length_map, List.length_range]
  refine ⟨fun i H _ _ hi => (by rw [hl] at hi; exact hi), fun H _ _ => (by rw [hl]; exact Nat.le_refl _), fun i A2 H x H' sa s1 s2 hi y => ?_⟩
  obtain ⟨rfl, rfl⟩ := y
  rw [hl] at hi
  exact ⟨A2, .int (lo + (i : Nat)), by rw [List.getElem?_map, List.getElem?_range hi]; rfl, Grow.refl s1, Rp.int.mpr rfl⟩
theorem it_rev (hr : RpAll K A ds vs) (hq : ∀ H, Same A H → Same B H → SqL K H p vs) : ItOk K A B (Itv K p vs.length) ds.reverse := by
  have hl := hr.length
  refine ⟨fun i H s1 s2 hi => ?_, fun H s1 s2 => ?_, fun i A2 H x H' sa s1 s2 hi y => ?_⟩
  · rw [List.length_reverse, hl] at hi
    exact ⟨hi, vs, vs[vs.length - 1 - i]'(by omega), hq H s1 s2, List.getElem?_eq_getElem _⟩
  · rw [List.length_reverse, hl]; rfl
  · rw [List.length_reverse, hl] at hi
    obtain ⟨rfl, y⟩ := y
    have e := y vs (hq H' (sa.trans s1) s2)
    have e' : vs.reverse[i]? = some x := by rw [List.getElem?_reverse hi]; exact e
    obtain ⟨d, e1, q⟩ := hr.reverse.get e'
    exact ⟨A2, d, e1, Grow.refl s1, Rp.mono sa d q⟩
noncomputable def enumL (ds : List PyData) : List PyData := (List.range ds.length).map fun i => PyData.tuple [.int (i : Nat), ds.getD i .none]
theorem it_enum (hr : RpAll K A ds vs) (hq : ∀ H, Same A H → Same B H → SqL K H p vs) : ItOk K A B (Ite K p) (enumL ds) := by
  have hl := hr.length
  have he : (enumL ds).length = vs.length := by unfold enumL; rw [List.length_map, List.length_range, hl]
  refine ⟨fun i H s1 s2 hi => ?_, fun H s1 s2 => ⟨vs, hq H s1 s2, by omega⟩, fun i A2 H x H' sa s1 s2 hi y => ?_⟩
  · exact ⟨vs, vs[i]'(by omega), hq H s1 s2, List.getElem?_eq_getElem _⟩
  · obtain ⟨q, v, hq0, rfl, rfl, y⟩ := y
    have e := y vs (hq H (sa.trans s1) s2)
    obtain ⟨d, e1, rd⟩ := hr.get e
    have g := Grow.new (o := .tup [.int (i : Nat), v]) s1 hq0
    refine ⟨_, .tuple [.int (i : Nat), d], ?_, g, Rp.tuple.mpr ⟨q, _, rfl, SqT.of upd_same, RpAll.cons.mpr ⟨_, _, rfl, Rp.int.mpr rfl, RpAll.one (Rp.mono (sa.trans g.aa) d rd)⟩⟩⟩
    unfold enumL
    rw [List.getElem?_map, List.getElem?_range (by omega)]
    show some (PyData.tuple [PyData.int (i : Nat), ds.getD i .none]) = _
    rw [List.getD_eq_getElem?_getD, e1]
    rfl
theorem it_enumT (hr : RpAll K A ds vs) (hq : ∀ H, Same A H → SqT K H p vs) : ItOk K A B (IteT K p) (enumL ds) := by
  have hl := hr.length
  have he : (enumL ds).length = vs.length := by unfold enumL; rw [List.length_map, List.length_range, hl]
  refine ⟨fun i H s1 s2 hi => ?_, fun H s1 s2 => ⟨vs, hq H s1, by omega⟩, fun i A2 H x H' sa s1 s2 hi y => ?_⟩
  · exact ⟨vs, vs[i]'(by omega), hq H s1, List.getElem?_eq_getElem _⟩
  · obtain ⟨q, v, hq0, rfl, rfl, y⟩ := y
    have e := y vs (hq H (sa.trans s1))
    obtain ⟨d, e1, rd⟩ := hr.get e
    have g := Grow.new (o := .tup [.int (i : Nat), v]) s1 hq0
    refine ⟨_, .tuple [.int (i : Nat), d], ?_, g, Rp.tuple.mpr ⟨q, _, rfl, SqT.of upd_same, RpAll.cons.mpr ⟨_, _, rfl, Rp.int.mpr rfl, RpAll.one (Rp.mono (sa.trans g.aa) d rd)⟩⟩⟩
    unfold enumL
    rw [List.getElem?_map, List.getElem?_range (by omega)]
    show some (PyData.tuple [PyData.int (i : Nat), ds.getD i .none]) = _
    rw [List.getD_eq_getElem?_getD, e1]
    rfl
end
noncomputable def itL (m : ME) : MI := fun Γ => (m Γ).bind fun d => match d with
  | .list ds => .ok ds
  | .tuple ds => .ok ds
  | _ => .bad
noncomputable def itR1 (m : ME) : MI := fun Γ => (m Γ).bind fun d => match d with
  | .int j => gd (-(2 ^ 62) ≤ j ∧ j < 2 ^ 62) (.ok ((List.range j.toNat).map fun i => PyData.int (0 + (i : Nat))))
  | _ => .bad
noncomputable def itV (m : ME) : MI := fun Γ => (m Γ).bind fun d => match d with
  | .list ds => .ok ds.reverse
  | _ => .bad
noncomputable def itE (m : ME) : MI := fun Γ => (m Γ).bind fun d => match d with
  | .list ds => .ok (enumL ds)
  | .tuple ds => .ok (enumL ds)
  | _ => .bad
section
variable {X : Cx} {O : List Fl} {m m' : ME} {e a b tg : Expr} {pos p : Pos}
noncomputable def iSeq (K : PySem.W.Frag) (tl : TE) : TI := fun σ H R => tl σ H fun x H1 => ∃ a, x = .ref a ∧ (((∃ xs, SqL K H1 a xs) ∧ R (Itl K a) H1) ∨ ((∃ xs, SqT K H1 a xs) ∧ R (Itt K a) H1))
theorem pi_seq {l : Expr} {tl : TE} (hl : PE X l tl) : PI X tg l (iSeq X.K tl) := by
  intro pins s σ H R I h
  refine thn (hl pins s σ H _ I h) fun v s1 hq__ => ?_
  obtain ⟨x, H1, I1, r1, q1⟩ := hq__
  obtain ⟨a, e, q1⟩ := q1
  subst e
  cases r1
  rcases q1 with ⟨⟨xs, hq⟩, q⟩ | ⟨⟨xs, hq⟩, q⟩
  · obtain ⟨its, rv, p, hz⟩ := I1.list hq
    refine wpAny_pyIter_list p.isList ?_
    refine ⟨s1.heap.objs.size, [s1.heap.objs.size], _, _, H1, rfl, I1.kept (t' := s1.toks) fun b o e => Heap.get?_push_of_some _ e, turn_list a _, ⟨_, Heap.get?_push_size _ rfl, rfl, rfl⟩, fun b hb => ?_, q⟩
    have e : b = s1.heap.objs.size := by simpa using hb
    subst e
    exact I1.fpOk (Nat.le_refl _) (I1.hok.fresh (Nat.le_refl _))
  · obtain ⟨its, rv, p, hz⟩ := I1.tuple hq
    refine wpAny_pyIter_tuple (show s1.heap.IsTuple a its.toArray from p) ?_
    refine ⟨s1.heap.objs.size, [s1.heap.objs.size], _, _, H1, rfl, I1.kept (t' := s1.toks) fun b o e => Heap.get?_push_of_some _ e, turn_tuple a _, ⟨_, Heap.get?_push_size _ rfl, rfl, rfl⟩, fun b hb => ?_, q⟩
    have e : b = s1.heap.objs.size := by simpa using hb
    subst e
    exact I1.fpOk (Nat.le_refl _) (I1.hok.fresh (Nat.le_refl _))
theorem iSeq_of {K : PySem.W.Frag} {A B H1 : Hp} {d : PyData} {v : V} {R : It → Hp → Prop} {xs : List PyData} (sa : Same A H1) (sb : Same B H1) (p : Pk K A B d v) (e : (match d with | .list ds => Res.ok ds | .tuple ds => .ok ds | _ => .bad) = .ok xs)
    (k : ∀ J, ItOk K A B J xs → R J H1) : ∃ a, v = .ref a ∧ (((∃ xs, SqL K H1 a xs) ∧ R (Itl K a) H1) ∨ ((∃ xs, SqT K H1 a xs) ∧ R (Itt K a) H1)) := by
  cases d with
  | list ds =>
    cases e
    obtain ⟨q, vs, rfl, h2, h1⟩ := p.seqL (H := H1)
    exact ⟨q, rfl, .inl ⟨⟨vs, h1 H1 sa sb⟩, k _ (it_list h2 h1)⟩⟩
  | tuple ds =>
    cases e
    obtain ⟨q, vs, rfl, h2, h1⟩ := p.seqT (H := H1)
    exact ⟨q, rfl, .inr ⟨⟨vs, h1 H1 sa⟩, k _ (it_tup h2 h1)⟩⟩
  | _ => cases e
theorem si_seq (h : QE X e (tQ X.K O m)) : QI X tg e (tI X.K O (itL m)) := QI.imp (pi_seq h.h) fun σ H R hq__ => by
  obtain ⟨A, B, Γ, xs, r, em, k⟩ := hq__
  obtain ⟨d, e1, em⟩ := Res.bind_ok em
  refine ⟨A, B, Γ, d, r, e1, fun v A1 H1 g1 p1 => iSeq_of g1.ah (r.b.trans g1.hh) p1 em fun J hj => k J A1 H1 g1 hj⟩
theorem sc_seq (h : QE X e (tP X.K O m)) : QI X tg e (tIc X.K O (itL m)) := QI.imp (pi_seq h.h) fun σ H R hq__ => by
  obtain ⟨A, B, Γ, xs, r, em, k⟩ := hq__
  obtain ⟨d, e1, em⟩ := Res.bind_ok em
  refine ⟨A, B, Γ, d, r, e1, fun v A1 H1 g1 p1 => iSeq_of g1.ah (Same.refl _) p1 em fun J hj => k J A1 H1 g1 hj⟩
theorem si_range1 (hg : Gl X "range") (hm : X.mg "range" = none) (ha : QE X a (tP X.K O m)) (hs : starEach [a] X.env = [(false, eval a X.env)] := by rfl) : QI X tg (.Call (.Name "range" p) [a] [] pos) (tI X.K O (itR1 m)) :=
  QI.imp (pi_range1 hg hm (pa_cons ha.h pa_nil hs) hs) fun σ H R hq__ => by
    obtain ⟨A, B, Γ, xs, r, em, k⟩ := hq__
    obtain ⟨d, e1, em⟩ := Res.bind_ok em
    cases d with
    | int j =>
      obtain ⟨hc, em⟩ := gd_ok em
      cases em
      exact ⟨A, B, Γ, _, r, e1, fun v A1 H1 g1 p1 => ⟨j, by rw [p1.int], hc.1, hc.2, k _ A1 H1 g1 (it_range 0 _)⟩⟩
    | _ => cases em
theorem sc_range1 (hg : Gl X "range") (hm : X.mg "range" = none) (ha : QE X a (tP X.K O m)) (hs : starEach [a] X.env = [(false, eval a X.env)] := by rfl) : QI X tg (.Call (.Name "range" p) [a] [] pos) (tIc X.K O (itR1 m)) :=
  QI.imp (pi_range1 hg hm (pa_cons ha.h pa_nil hs) hs) fun σ H R hq__ => by
    obtain ⟨A, B, Γ, xs, r, em, k⟩ := hq__
    obtain ⟨d, e1, em⟩ := Res.bind_ok em
    cases d with
    | int j =>
      obtain ⟨hc, em⟩ := gd_ok em
      cases em
      exact ⟨A, B, Γ, _, r, e1, fun v A1 H1 g1 p1 => ⟨j, by rw [p1.int], hc.1, hc.2, k _ A1 H1 g1 (it_range 0 _)⟩⟩
    | _ => cases em
theorem si_rev (hg : Gl X "reversed") (hm : X.mg "reversed" = none) (ha : QE X a (tQ X.K O m)) (hs : starEach [a] X.env = [(false, eval a X.env)] := by rfl) : QI X tg (.Call (.Name "reversed" p) [a] [] pos) (tI X.K O (itV m)) :=
  QI.imp (pi_rev hg hm (pa_cons ha.h pa_nil hs) hs) fun σ H R hq__ => by
    obtain ⟨A, B, Γ, xs, r, em, k⟩ := hq__
    obtain ⟨d, e1, em⟩ := Res.bind_ok em
    cases d with
    | list ds =>
      cases em
      refine ⟨A, B, Γ, _, r, e1, fun v A1 H1 g1 p1 => ?_⟩
      obtain ⟨q, vs, rfl, h2, h1⟩ := p1.seqL (H := H1)
      exact ⟨q, vs, rfl, h1 H1 g1.ah (r.b.trans g1.hh), k _ A1 H1 g1 (it_rev h2 h1)⟩
    | _ => cases em
variable {elts : List Expr} {tpos : Pos}
theorem si_enum {x1} (hg : Gl X "enumerate") (hm : X.mg "enumerate" = none) (ha : QE X a (tQ X.K O m)) (hs : starEach [a] X.env = [(false, eval a X.env)] := by rfl) : QI X (.Tuple elts x1 tpos) (.Call (.Name "enumerate" p) [a] [] pos) (tI X.K O (itE m)) :=
  QI.imp (pi_enum2 hg hm (pa_cons ha.h pa_nil hs) hs) fun σ H R hq__ => by
    obtain ⟨A, B, Γ, xs, r, em, k⟩ := hq__
    obtain ⟨d, e1, em⟩ := Res.bind_ok em
    cases d with
    | list ds =>
      cases em
      refine ⟨A, B, Γ, _, r, e1, fun v A1 H1 g1 p1 => ?_⟩
      obtain ⟨q, vs, rfl, h2, h1⟩ := p1.seqL (H := H1)
      exact ⟨q, vs, rfl, .inl ⟨h1 H1 g1.ah (r.b.trans g1.hh), k _ A1 H1 g1 (it_enum h2 h1)⟩⟩
    | tuple ds =>
      cases em
      refine ⟨A, B, Γ, _, r, e1, fun v A1 H1 g1 p1 => ?_⟩
      obtain ⟨q, vs, rfl, h2, h1⟩ := p1.seqT (H := H1)
      exact ⟨q, vs, rfl, .inr ⟨h1 H1 g1.ah, k _ A1 H1 g1 (it_enumT h2 h1)⟩⟩
    | _ => cases em
theorem sc_enum {x1} (hg : Gl X "enumerate") (hm : X.mg "enumerate" = none) (ha : QE X a (tP X.K O m)) (hs : starEach [a] X.env = [(false, eval a X.env)] := by rfl) : QI X (.Tuple elts x1 tpos) (.Call (.Name "enumerate" p) [a] [] pos) (tIc X.K O (itE m)) :=
  QI.imp (pi_enum2 hg hm (pa_cons ha.h pa_nil hs) hs) fun σ H R hq__ => by
    obtain ⟨A, B, Γ, xs, r, em, k⟩ := hq__
    obtain ⟨d, e1, em⟩ := Res.bind_ok em
    cases d with
    | list ds =>
      cases em
      refine ⟨A, B, Γ, _, r, e1, fun v A1 H1 g1 p1 => ?_⟩
      obtain ⟨q, vs, rfl, h2, h1⟩ := p1.seqL (H := H1)
      exact ⟨q, vs, rfl, .inl ⟨h1 H1 g1.ah (Same.refl _), k _ A1 H1 g1 (it_enum h2 h1)⟩⟩
    | tuple ds =>
      cases em
      refine ⟨A, B, Γ, _, r, e1, fun v A1 H1 g1 p1 => ?_⟩
      obtain ⟨q, vs, rfl, h2, h1⟩ := p1.seqT (H := H1)
      exact ⟨q, vs, rfl, .inr ⟨h1 H1 g1.ah, k _ A1 H1 g1 (it_enumT h2 h1)⟩⟩
    | _ => cases em
end
noncomputable abbrev MG := PyData → Ev → Res Ev
noncomputable def gN (i : Nat) : MG := fun d Γ => gd (i < Γ.length) (.ok (Γ.set i (some d)))
noncomputable def gTs : List MG → List PyData → Ev → Res Ev
  | [], [], Γ => .ok Γ
  | g :: gs, d :: ds, Γ => (g d Γ).bind fun Γ' => gTs gs ds Γ'
  | _, _, _ => .bad
noncomputable def gT (gs : List MG) : MG := fun d Γ => match d with
  | .tuple ds => gTs gs ds Γ
  | _ => .bad
noncomputable def StayBut (is : List Nat) (σ σ' : L2.St) : Prop := σ'.length = σ.length ∧ ∀ j, j ∉ is → σ'[j]? = σ[j]?
theorem StayBut.trans {is js : List Nat} {σ σ' σ'' : L2.St} (h : StayBut is σ σ') (h' : StayBut js σ' σ'') : StayBut (is ++ js) σ σ'' :=
  ⟨h'.1.trans h.1, fun j hj => (h'.2 j fun z => hj (List.mem_append_right _ z)).trans (h.2 j fun z => hj (List.mem_append_left _ z))⟩
noncomputable def tG (K : PySem.W.Frag) (O O' : List Fl) (is : List Nat) (g : MG) : TG := fun v σ H Q => ∃ A B Γ d Γ', StRep K A B H O σ Γ ∧ Rp K A d v ∧ g d Γ = .ok Γ' ∧ ∀ σ', StRep K A B H O' σ' Γ' → StayBut is σ σ' → Q σ' H
noncomputable def tGs (K : PySem.W.Frag) (O O' : List Fl) (is : List Nat) (gs : List MG) : TGs := fun vs σ H Q => ∃ A B Γ ds Γ', StRep K A B H O σ Γ ∧ RpAll K A ds vs ∧ gTs gs ds Γ = .ok Γ' ∧ ∀ σ', StRep K A B H O' σ' Γ' → StayBut is σ σ' → Q σ' H
theorem PG.imp {X : Cx} {tg : Expr} {t t' : TG} (h : PG X tg t) (i : ∀ v σ H Q, t' v σ H Q → t v σ H Q) : PG X tg t' := fun pins s σ H v u Q I r q => h pins s σ H v u Q I r (i v σ H Q q)
theorem PGs.imp {X : Cx} {tg : List Expr} {t t' : TGs} (h : PGs X tg t) (i : ∀ v σ H Q, t' v σ H Q → t v σ H Q) : PGs X tg t' := fun pins s σ H v u Q I r q => h pins s σ H v u Q I r (i v σ H Q q)
theorem QG.imp {X : Cx} {tg : Expr} {t t' : TG} (h : PG X tg t) (i : ∀ v σ H Q, t' v σ H Q → t v σ H Q) : QG X tg t' := ⟨PG.imp h i⟩
theorem QGs.imp {X : Cx} {tg : List Expr} {t t' : TGs} (h : PGs X tg t) (i : ∀ v σ H Q, t' v σ H Q → t v σ H Q) : QGs X tg t' := ⟨PGs.imp h i⟩
theorem gTs_length : ∀ {gs : List MG} {ds : List PyData} {Γ Γ' : Ev}, gTs gs ds Γ = .ok Γ' → ds.length = gs.length
  | [], [], _, _, _ => rfl
  | g :: gs, d :: ds, Γ, Γ', h => by
    obtain ⟨Γ1, _, h⟩ := Res.bind_ok h
    rw [List.length_cons, List.length_cons, gTs_length h]
section
variable {X : Cx} {O O1 O2 O' : List Fl} {is js : List Nat} {g : MG} {gs : List MG} {e : Expr} {es : List Expr} {pos : Pos}
theorem sg_name (i : Nat) {O2 : List Fl} {x : Str} (hN : X.N.Nodup) (hi : X.N[i]? = some x) (hx : Loc X.env.scope x) (hl : i < O.length := by exact of_decide_eq_true rfl) (hf : X.fn x = true ∨ X.env.scope.names.lookup x = some .local := by first | exact .inl rfl | exact .inr rfl | assumption) (hO : O.set i .imm = O2 := by rfl) :
    QG X (.Name x pos) (tG X.K O O2 [i] (gN i)) := hO ▸ QG.imp (pg_name hN hi hx hf) fun v σ H Q hq__ => by
  obtain ⟨A, B, Γ, d, Γ', r, p, em, k⟩ := hq__
  obtain ⟨hi, em⟩ := gd_ok em
  cases em
  exact k _ (r.set hi hl p) ⟨List.length_set .., fun j hj => List.getElem?_set_ne (fun z => hj (by rw [z]; exact List.mem_cons_self))⟩
theorem sgs_nil : QGs X [] (tGs X.K O O [] []) := QGs.imp pgs_nil fun vs σ H Q hq__ => by
  obtain ⟨A, B, Γ, ds, Γ', r, p, em, k⟩ := hq__
  cases ds with
  | nil => cases em; exact ⟨RpAll.nil.mp p, k σ r ⟨rfl, fun _ _ => rfl⟩⟩
  | cons d ds => cases em
theorem sgs_cons (h1 : QG X e (tG X.K O O1 is g)) (h2 : QGs X es (tGs X.K O1 O2 js gs)) (hs : (assignEach (e :: es) X.env).map (·.2) = assign e X.env :: (assignEach es X.env).map (·.2) := by rfl) : QGs X (e :: es) (tGs X.K O O2 (is ++ js) (g :: gs)) := by
  refine QGs.imp (pgs_cons h1.h h2.h ?_) fun vs σ H Q ⟨A, B, Γ, ds, Γ', r, p, em, k⟩ => ?_
  · exact hs
  · cases ds with
    | nil => cases em
    | cons d ds =>
      obtain ⟨Γ1, e1, em⟩ := Res.bind_ok em
      obtain ⟨v, r', rfl, p1, p2⟩ := RpAll.cons.mp p
      exact ⟨v, r', rfl, A, B, Γ, d, Γ1, r, p1, e1, fun σ' r2 y => ⟨A, B, Γ1, ds, Γ', r2, p2, em, fun σ2 r3 y2 => k σ2 r3 (y.trans y2)⟩⟩
theorem sg_tup {k : Nat} {n : Nat} (hc : X.calm = true) (h : QGs X es (tGs X.K O O' is gs)) (hgs : gs.length = n := by rfl)
    (hn : (assignEach es X.env).length = n := by rfl) (hst : (assignEach es X.env).findIdx? (·.1) = none := by rfl) : QG X (.Tuple es k pos) (tG X.K O O' is (gT gs)) := QG.imp (pg_tup hc h.h hn hst) fun v σ H Q hq__ => by
  obtain ⟨A, B, Γ, d, Γ', r, p, em, k⟩ := hq__
  cases d with
  | tuple ds =>
    have p' := Rp.tuple.mp p
    obtain ⟨a, vs, rfl, h1, h2⟩ := p'
    exact ⟨a, vs, rfl, r.a.seqT h1, by rw [← h2.length, ← hgs]; exact gTs_length em, A, B, Γ, ds, Γ', r, h2, em, k⟩
  | _ => cases em
end
noncomputable def sAsg (g : MG) (m : ME) : MS := fun Γ => (m Γ).bind fun d => (g d Γ).bind fun Γ' => .ok (.nx Γ')
section
variable {X : Cx} {rm : Rm} {Ol O O' : List Fl} {is : List Nat} {g : MG} {m : ME} {tg e : Expr} {pos : Pos}
theorem ss_asg (he : QE X e (tE X.K O m)) (hg : QG X tg (tG X.K O O' is g)) (hs : swapsWithSole [tg] e pos.line X.env = pure false := by rfl) (hw : swappedStores [tg] e X.env = pure none := by rfl) (h1 : (assignEach [tg] X.env).map (·.2) = [assign tg X.env] := by rfl) : QS X (.Assign [tg] e pos) (tS X.K rm Ol O O' (sAsg g m)) := by
  refine QS.imp (ps_asg he.h hg.h hs hw h1) fun D σ H hq__ => ?_
  obtain ⟨A, B, Γ, o, r, em, k⟩ := hq__
  obtain ⟨d, e1, em⟩ := Res.bind_ok em
  obtain ⟨Γ', e2, em⟩ := Res.bind_ok em
  cases em
  exact ⟨A, B, Γ, d, r, e1, fun v A' H' g p => ⟨A', B, Γ, d, Γ', r.grow g, p, e2, fun σ' r' _ => k σ' A' H' r' g.aa (g.nB r.b)⟩⟩
end
noncomputable def clrOk (O Oe : List Fl) (cl : List Nat) : Bool := Oe.length == O.length && (List.range O.length).all fun j => decide (fl Oe j = fl O j) || cl.contains j
theorem clrOk_of {O Oe : List Fl} {cl : List Nat} (h : clrOk O Oe cl = true) (j : Nat) : fl Oe j = fl O j ∨ j ∈ cl := by
  unfold clrOk at h
  rw [Bool.and_eq_true, List.all_eq_true] at h
  rcases Nat.lt_or_ge j O.length with hj | hj
  · have := h.2 j (List.mem_range.mpr hj)
    rw [Bool.or_eq_true] at this
    rcases this with z | z
    · exact .inl (of_decide_eq_true z)
    · exact .inr (by simpa using z)
  · left
    unfold fl
    rw [List.getD_eq_getElem?_getD, List.getD_eq_getElem?_getD, List.getElem?_eq_none hj, List.getElem?_eq_none (by rw [show Oe.length = O.length by simpa using h.1]; exact hj)]
theorem clr_none : ∀ (l : List Nat) (Γ : Ev) (j : Nat), j ∈ l → gv (clr l Γ) j = none
  | i :: l, Γ, j, h => by
    by_cases hj : j ∈ l
    · exact clr_none l (Γ.set i none) j hj
    · have e : j = i := by
        rcases List.mem_cons.mp h with z | z
        · exact z
        · exact absurd z hj
      subst e
      rcases (clr_ok l (Γ.set j none)).2 j with z | z
      · exact z
      · show gv (clr l (Γ.set j none)) j = none
        rw [z]
        unfold gv
        rw [List.getD_eq_getElem?_getD]
        by_cases hi : j < Γ.length
        · rw [List.getElem?_set_self hi]; rfl
        · rw [List.getElem?_eq_none (by rw [List.length_set]; omega)]; rfl
theorem StRep.clrO {K : PySem.W.Frag} {A B H : Hp} {O Oe : List Fl} {σ : L2.St} {Γ : Ev} {cl : List Nat} (hE : clrOk O Oe cl = true) (r : StRep K A B H Oe σ Γ) : StRep K A B H O σ (L3.clr cl Γ) := by
  have r' := r.clr cl
  have hf : ∀ j, gv (L3.clr cl Γ) j ≠ none → fl O j = fl Oe j := fun j n => by
    rcases clrOk_of hE j with z | z
    · exact z.symm
    · exact absurd (clr_none cl Γ j z) n
  refine ⟨r'.a, r'.b, r'.len, fun j d e => ?_, fun i j hij h1 h2 h3 h4 => r'.sep i j hij (by rw [← hf i h3]; exact h1) (by rw [← hf j h4]; exact h2) h3 h4⟩
  have := r'.slot j d e
  rw [hf j (by rw [e]; simp)]
  exact this
noncomputable def forR (g : MG) (cl : List Nat) (b : MS) : List PyData → Ev → Res Out
  | [], Γ => .ok (.nx Γ)
  | x :: xs, Γ => (g x Γ).bind fun Γ1 => (b Γ1).bind fun o => match o with
    | .nx Γ2 => forR g cl b xs (clr cl Γ2)
    | .ct Γ2 => forR g cl b xs (clr cl Γ2)
    | .bk Γ2 => .ok (.nx (clr cl Γ2))
    | .rt d => .ok (.rt d)
noncomputable def sFor (it : MI) (g : MG) (cl : List Nat) (b : MS) : MS := fun Γ => (it Γ).bind fun xs => forR g cl b xs Γ
section
variable {X : Cx} {rm : Rm} {Ol O : List Fl} {is : List Nat} {g : MG} {it : MI} {cl : List Nat} {mb : MS} {tg iter : Expr} {body : List Stmt} {pos : Pos}
theorem ss_for (hp : PassesOwn (model X.prog X.w) X.A X.env X.xe) (hc : X.calm = true) (cl : List Nat) {Oe : List Fl} (hi : QI X tg iter (tI X.K O it)) (hg : QG X tg (tG X.K O O is g)) (hb : QSs X body (tS X.K rm Oe O Oe mb)) (hE : clrOk O Oe cl = true)
    (hs : ∀ x, foldedSetIterable iter X.env x = pure x := by intro _; rfl) : QS X (.For tg iter body [] pos) (tS X.K rm Ol O O (sFor it g cl mb)) := by
  refine QS.imp (ps_for hp hc hi.h hg.h hb.h hs) fun D σ H hq__ => ?_
  obtain ⟨A, B, Γ, o, r, em, k⟩ := hq__
  obtain ⟨xs, e1, em⟩ := Res.bind_ok em
  refine ⟨A, B, Γ, xs, r, e1, fun J A1 H1 g1 hj => ?_⟩
  refine ⟨fun i n σ' H' => n = xs.length - i ∧ i ≤ xs.length ∧ ∃ A2 Γ2, StRep X.K A2 B H' O σ' Γ2 ∧ Same A A2 ∧ New A A2 B ∧ Same A1 A2 ∧ forR g cl mb (xs.drop i) Γ2 = .ok o, ⟨xs.length, rfl, Nat.zero_le _, A1, Γ, r.grow g1, g1.aa, g1.nB r.b, Same.refl _, em⟩, ?_⟩
  rintro i n σ' H' ⟨rfl, hi.h, A2, Γ2, r2, sa, nw, s12, e2⟩
  by_cases hlt : i < xs.length
  · refine .inr ⟨hj.go i H' (s12.trans r2.a) r2.b hlt, fun σ'' H'' => i + 1 ≤ xs.length ∧ ∃ A3 Γ3, StRep X.K A3 B H'' O σ'' Γ3 ∧ Same A A3 ∧ New A A3 B ∧ Same A1 A3 ∧ forR g cl mb (xs.drop (i + 1)) Γ3 = .ok o, ?_, fun x H3 y => ?_⟩
    · rintro σ'' H'' ⟨h1, A3, Γ3, h2⟩
      exact ⟨xs.length - (i + 1), by omega, rfl, h1, A3, Γ3, h2⟩
    · obtain ⟨A3, d, ed, g3, p3⟩ := hj.yld i A2 H' x H3 s12 r2.a r2.b hlt y
      have hd : xs.drop i = d :: xs.drop (i + 1) := by
        rw [List.drop_eq_getElem_cons hlt]
        rw [List.getElem?_eq_getElem hlt] at ed
        cases ed
        rfl
      rw [hd] at e2
      obtain ⟨Γ3, e3, e2⟩ := Res.bind_ok e2
      obtain ⟨o3, e4, e2⟩ := Res.bind_ok e2
      have sa3 := sa.trans g3.aa
      have nw3 : New A A3 B := nw.trans (g3.nB r2.b)
      refine ⟨A3, B, Γ2, d, Γ3, r2.grow g3, p3, e3, fun σ4 r4 _ => ⟨A3, B, Γ3, o3, r4, e4, ?_⟩⟩
      have sb : ∀ {D' : Ends}, OutOk X.K rm Ol O A B D' o → OutOk X.K rm Ol O A3 B D' o := fun h => h.sub sa3 nw3
      cases o3 with
      | nx Γ4 => exact fun σ5 A5 H5 r5 s5 n5 => ⟨hlt, A5, clr cl Γ4, r5.clrO hE, sa3.trans s5, nw3.trans n5, s12.trans (g3.aa.trans s5), e2⟩
      | ct Γ4 => exact fun σ5 A5 H5 r5 s5 n5 => ⟨hlt, A5, clr cl Γ4, r5.clrO hE, sa3.trans s5, nw3.trans n5, s12.trans (g3.aa.trans s5), e2⟩
      | bk Γ4 =>
        cases e2
        exact fun σ5 A5 H5 r5 s5 n5 => k σ5 A5 H5 (r5.clrO hE) (sa3.trans s5) (nw3.trans n5)
      | rt d' =>
        cases e2
        exact fun v A5 H5 q1 q2 s5 n5 rv => k v A5 H5 q1 q2 (sa3.trans s5) (nw3.trans n5) rv
  · have e : i = xs.length := by omega
    subst e
    rw [List.drop_length] at e2
    cases e2
    exact .inl ⟨hj.stop H' (s12.trans r2.a) r2.b, k σ' A2 H' r2 sa nw⟩
end
section
variable {X : Cx} {rm : Rm} {Ol O : List Fl} {cl : List Nat} {c : Expr} {mc : ME} {mb : MS} {body : List Stmt} {pos : Pos}
end
end L3
namespace L3
open PySem PySem.Spec PyProof.Rows L2
noncomputable def compR (g : MG) (c : ME) (e : ME) (Γ : Ev) : List PyData → Res (List PyData)
  | [] => .ok []
  | x :: xs => (g x Γ).bind fun Γ1 => (c Γ1).bind fun t => match t with
    | .bool true => (e Γ1).bind fun d => (compR g c e Γ xs).bind fun ds => .ok (d :: ds)
    | .bool false => compR g c e Γ xs
    | _ => .bad
noncomputable def blockE (nt : Nat) (ix : List Nat) (Γ : Ev) : Ev := List.replicate nt none ++ ix.map (gv Γ)
noncomputable def bfl : Fl → Fl
  | .own => .bor
  | .fix _ => .bor
  | .nst _ => .nst false
  | f => f
noncomputable def blockF (nt : Nat) (ix : List Nat) (O : List Fl) : List Fl := List.replicate nt .imm ++ ix.map fun i => bfl (fl O i)
noncomputable def eComp (it : MI) (g : MG) (c e : ME) (nt : Nat) (ix : List Nat) : ME := fun Γ => (it Γ).bind fun xs => gd (xs.length < sizeLine) ((compR g c e (blockE nt ix Γ) xs).bind fun ds => .ok (.list ds))
section
variable {K : PySem.W.Frag} {A B H : Hp} {O : List Fl} {σ : L2.St} {Γ : Ev}
theorem join_sv {σ : L2.St} {i : Nat} : (σ[i]?).join = sv σ i := by
  unfold sv
  rw [List.getD_eq_getElem?_getD]
  cases σ[i]? with
  | none => rfl
  | some o => rfl
theorem block_get {α : Type} {os : List α} {ix : List Nat} {f : Nat → α} {d : α} (j : Nat) : (os ++ ix.map f).getD j d = if j < os.length then os.getD j d else match ix[j - os.length]? with | some i => f i | none => d := by
  rw [List.getD_eq_getElem?_getD]
  split
  · rename_i h
    rw [List.getElem?_append_left h, List.getD_eq_getElem?_getD]
  · rename_i h
    rw [List.getElem?_append_right (by omega), List.getElem?_map]
    cases ix[j - os.length]? <;> rfl
theorem StRep.block (r : StRep K A B H O σ Γ) {os : List (Option V)} {nt : Nat} (ho : os.length = nt) (ix : List Nat) : StRep K A H H (blockF nt ix O) (os ++ ix.map fun i => (σ[i]?).join) (blockE nt ix Γ) := by
  have fN : ∀ j, isO (fl (blockF nt ix O) j) = false := fun j => by
    unfold fl blockF
    rw [block_get, List.length_replicate]
    split
    · rw [List.getD_eq_getElem?_getD, List.getElem?_replicate]
      split <;> rfl
    · cases ix[j - nt]? with
      | none => rfl
      | some i => simp only; unfold bfl; cases fl O i <;> rfl
  refine ⟨r.a, Same.refl _, ?_, fun j d e => ?_, fun i j _ h1 _ _ _ => absurd (h1.symm.trans (fN i)) Bool.noConfusion⟩
  · unfold blockE
    rw [List.length_append, List.length_append, List.length_replicate, List.length_map, List.length_map, ho]
  · unfold gv blockE at e
    rw [block_get, List.length_replicate] at e
    split at e
    · rw [List.getD_eq_getElem?_getD, List.getElem?_replicate] at e
      split at e <;> cases e
    · rename_i hj
      cases q : ix[j - nt]? with
      | none => rw [q] at e; cases e
      | some i =>
        rw [q] at e
        obtain ⟨v, e1, sl⟩ := r.slot i d e
        refine ⟨v, ?_, ?_⟩
        · unfold sv
          rw [block_get, if_neg (by omega), ho, q]
          show (σ[i]?).join = some v
          rw [join_sv]; exact e1
        · have ef : fl (blockF nt ix O) j = bfl (fl O i) := by
            unfold fl blockF
            rw [block_get, List.length_replicate, if_neg hj, q]
          rw [ef]
          cases hf : fl O i with
          | imm => rw [hf] at sl; exact sl
          | bor => rw [hf] at sl; exact Pk.mono (Same.refl _) r.b sl
          | own => rw [hf] at sl; exact Own.pk sl
          | fix p0 => rw [hf] at sl; exact Own.pk sl.2
          | exc C => rw [hf] at sl; exact sl
          | nst b => exact fun z => nomatch z
end
theorem PIfs.imp {X : Cx} {ifs : List Expr} {t t' : TT} (h : PIfs X ifs t) (i : ∀ σ H Q, t' σ H Q → t σ H Q) : PIfs X ifs t' := fun pins s σ H Q I q => h pins s σ H Q I (i σ H Q q)
theorem QIfs.imp {X : Cx} {ifs : List Expr} {t t' : TT} (h : PIfs X ifs t) (i : ∀ σ H Q, t' σ H Q → t σ H Q) : QIfs X ifs t' := ⟨PIfs.imp h i⟩
theorem sifs_nil {X : Cx} {O : List Fl} : QIfs X [] (tT X.K O (eC (.bool true))) := QIfs.imp pifs_nil fun σ H Q hq__ => by
  obtain ⟨A, B, Γ, b, r, em, k⟩ := hq__
  cases em; exact k A H (Grow.refl r.a)
section
variable {K : PySem.W.Frag} {O Ob : List Fl} {tn : List Str} {ix : List Nat} {it : MI} {g : MG} {mc me : ME}
theorem tComp_of (hOb : Ob = blockF tn.length ix O) {nt : Nat} (hnt : nt = tn.length) {O1 : List Fl} {is : List Nat} (his : ∀ j ∈ is, j < tn.length) {σ : L2.St} {H : Hp} {Q : VK} (h : tF K O (eComp it g mc me nt ix) σ H Q) : tComp tn ix (tIc K O it) (tG K Ob O1 is g) (tT K O1 mc) (tE K O1 me) σ H Q := by
  subst hOb hnt
  obtain ⟨A, B, Γ, d, r, em, k⟩ := h
  obtain ⟨xs, e1, em⟩ := Res.bind_ok em
  obtain ⟨hz, em⟩ := gd_ok em
  obtain ⟨ds, e2, em⟩ := Res.bind_ok em
  cases em
  refine ⟨A, B, Γ, xs, r, e1, fun J A1 H1 g1 hj D hD => ?_⟩
  have r1 := r.grow g1
  have hAD : A1 D = none := g1.ah.free hD
  refine ⟨fun i n σb acc H2 => n = xs.length - i ∧ i ≤ xs.length ∧ acc.length ≤ i ∧ (∃ os : List (Option V), os.length = tn.length ∧ σb = os ++ ix.map fun i => (σ[i]?).join) ∧ ∃ A2, Same A1 A2 ∧ New A1 A2 H1 ∧ Same A2 H2 ∧ Same H1 H2 ∧ A2 D = none ∧ H2 D = some (.lst acc) ∧
    ∃ ds1 ds2, ds = ds1 ++ ds2 ∧ RpAll K A2 ds1 acc ∧ compR g mc me (blockE tn.length ix Γ) (xs.drop i) = .ok ds2, ⟨xs.length, rfl, Nat.zero_le _, Nat.zero_le _, ⟨_, List.length_replicate, rfl⟩, A1, Same.refl _, fun _ h _ => h, g1.ah.trans (Same.new hD _), Same.new hD _, hAD, upd_same, [], ds, rfl, RpAll.nil.mpr rfl, e2⟩, ?_⟩
  rintro i n σb acc H2 ⟨rfl, hi, hacc, ⟨os, ho, rfl⟩, A2, sa, nw, s2, sh, a2, hD2, ds1, ds2, rfl, rp, e3⟩
  refine ⟨hD2, ?_⟩
  by_cases hlt : i < xs.length
  · refine .inr ⟨hj.go i H2 (sa.trans s2) sh hlt, by omega, fun x H3 y => ?_⟩
    obtain ⟨A3, dx, ed, g3, p3⟩ := hj.yld i A2 H2 x H3 sa s2 sh hlt y
    have hd : xs.drop i = dx :: xs.drop (i + 1) := by
      rw [List.drop_eq_getElem_cons hlt]
      rw [List.getElem?_eq_getElem hlt] at ed
      cases ed
      rfl
    rw [hd] at e3
    obtain ⟨Γ1, e4, e3⟩ := Res.bind_ok e3
    obtain ⟨t, e5, e3⟩ := Res.bind_ok e3
    have rb : StRep K A3 H3 H3 (blockF tn.length ix O) (os ++ ix.map fun i => (σ[i]?).join) (blockE tn.length ix Γ) := by
      have rr : StRep K A3 B H3 O σ Γ := by
        refine ⟨g3.ah, r1.b.trans (sh.trans g3.hh), r1.len, fun j => ?_, r1.sep⟩
        intro d' e'
        obtain ⟨v', e'', q⟩ := r1.slot j d' e'
        refine ⟨v', e'', ?_⟩
        cases hf : fl O j with
        | imm => rw [hf] at q; exact Rp.mono (sa.trans g3.aa) d' q
        | bor => rw [hf] at q; exact Pk.mono (sa.trans g3.aa) (Same.refl _) q
        | own =>
          rw [hf] at q
          obtain ⟨p', o', rfl, u1, u2, u3, u4⟩ := q
          have n1 : A2 p' = none := nw p' u2 (by rw [u1]; simp)
          exact ⟨p', o', rfl, g3.hh _ _ (sh _ _ u1), g3.nw p' n1 (by rw [sh _ _ u1]; simp), u3, u4.mono (sa.trans g3.aa)⟩
        | fix p0 =>
          rw [hf] at q
          obtain ⟨q0, p', o', rfl, u1, u2, u3, u4⟩ := q
          have n1 : A2 p' = none := nw p' u2 (by rw [u1]; simp)
          exact ⟨q0, p', o', rfl, g3.hh _ _ (sh _ _ u1), g3.nw p' n1 (by rw [sh _ _ u1]; simp), u3, u4.mono (sa.trans g3.aa)⟩
        | exc C =>
          rw [hf] at q
          obtain ⟨p', ob, w1, w2, w3⟩ := q
          exact ⟨p', ob, w1, (sa.trans g3.aa) _ _ w2, w3⟩
        | nst b =>
          rw [hf] at q
          intro z
          obtain ⟨p', xs, kvs, w1, w2, w3, w4, w5, w6⟩ := q z
          have n1 : A2 p' = none := nw p' w4 (by rw [w3]; simp)
          exact ⟨p', xs, kvs, w1, w2, g3.hh _ _ (sh _ _ w3), g3.nw p' n1 (by rw [sh _ _ w3]; simp), w5, w6.mono (sa.trans g3.aa)⟩
      exact rr.block ho ix
    refine ⟨A3, H3, _, dx, Γ1, rb, p3, e4, fun σ4 r4 y4 => ?_⟩
    have hos : ∃ os' : List (Option V), os'.length = tn.length ∧ σ4 = os' ++ ix.map fun i => (σ[i]?).join := by
      have hl4 : σ4.length = tn.length + ix.length := by rw [y4.1, List.length_append, List.length_map, ho]
      refine ⟨σ4.take tn.length, by rw [List.length_take]; omega, List.ext_getElem? fun j => ?_⟩
      rcases Nat.lt_or_ge j tn.length with hj | hj
      · rw [List.getElem?_append_left (by rw [List.length_take]; omega), List.getElem?_take_of_lt hj]
      · rw [y4.2 j (fun z => absurd (his j z) (by omega)), List.getElem?_append_right (by omega), List.getElem?_append_right (by rw [List.length_take]; omega), List.length_take, ho]
        congr 1
        omega
    cases t with
    | bool bb =>
      refine ⟨A3, H3, Γ1, bb, r4, e5, fun A4 H4 g4 => ?_⟩
      have nw4 : New A1 A4 H1 := nw.trans ((g3.trans g4).nw.mono sh)
      have hD4 : H4 D = some (.lst acc) := g4.hh _ _ (g3.hh _ _ hD2)
      have a4 : A4 D = none := (g3.trans g4).nw D a2 (by rw [hD2]; simp)
      cases bb with
      | false =>
        refine iteF ⟨xs.length - (i + 1), by omega, rfl, hlt, by omega, hos, A4, sa.trans (g3.trans g4).aa, nw4, g4.ah, sh.trans (g3.trans g4).hh, a4, hD4, ds1, ds2, rfl, RpAll.mono (g3.trans g4).aa _ rp, e3⟩
      | true =>
        obtain ⟨dv, e6, e3⟩ := Res.bind_ok e3
        obtain ⟨ds3, e7, e3⟩ := Res.bind_ok e3
        cases e3
        refine iteT ⟨A4, H3, Γ1, dv, r4.grow g4, e6, fun v A5 H5 g5 p5 => ?_⟩
        have gg := (g3.trans g4).trans g5
        have hD5 : H5 D = some (.lst acc) := g5.hh _ _ hD4
        have a5 : A5 D = none := gg.nw D a2 (by rw [hD2]; simp)
        refine ⟨hD5, xs.length - (i + 1), by omega, rfl, hlt, by rw [List.length_append, List.length_singleton]; omega, hos, A5, sa.trans gg.aa, nw.trans (gg.nw.mono sh), fun b u q => ?_, ?_, a5, upd_same, ds1 ++ [dv], ds3, by rw [List.append_assoc]; rfl, (RpAll.mono gg.aa _ rp).append (RpAll.one p5), e7⟩
        · have hb : b ≠ D := fun z => by rw [z, a5] at q; cases q
          rw [upd_ne hb]; exact g5.ah b u q
        · exact (sh.trans gg.hh).up hD
    | _ => cases e3
  · have e : i = xs.length := by omega
    subst e
    rw [List.drop_length] at e3
    cases e3
    rw [List.append_nil] at k
    refine .inl ⟨hj.stop H2 (sa.trans s2) sh, k _ A2 H2 ⟨g1.aa.trans sa, g1.hh.trans sh, s2, fun p n1 n2 => nw p (g1.nw p n1 n2) (Same.ne g1.hh n2)⟩ ⟨D, _, rfl, g1.hh.free hD, hD2, a2, .inl ⟨ds1, acc, rfl, rfl, rp⟩⟩⟩
end
end L3
namespace L3
open PySem PySem.Spec PyProof.Rows L2
section
variable {X : Cx} {O Ob O1 : List Fl} {scope : Scope} {tn : List Str} {ix is : List Nat} {it : MI} {g : MG} {mc me : ME} {elt tg iter : Expr} {ifs : List Expr} {pos : Pos} {nt : Nat}
theorem sf_comp (tn : List Str) (ix : List Nat) (S : compOk X scope ix = true) (hc : X.calm = true) (hOb : Ob = blockF tn.length ix O) (hnt : nt = tn.length) (his : ∀ j ∈ is, j < tn.length) (hi : QI X tg iter (tIc X.K O it))
    (hg : ∀ cl C s₂ H₂ fp, QG (X.comp scope tn ix cl C s₂ H₂ fp) tg (tG X.K Ob O1 is g)) (ht : ∀ cl C s₂ H₂ fp, QIfs (X.comp scope tn ix cl C s₂ H₂ fp) ifs (tT X.K O1 mc)) (he : ∀ cl C s₂ H₂ fp, QE (X.comp scope tn ix cl C s₂ H₂ fp) elt (tE X.K O1 me))
    (hs : ∀ x, foldedSetIterable iter X.env x = pure x := by intro _; rfl) : QE X (.ListComp elt [⟨tg, iter, ifs, 0⟩] scope pos) (tF X.K O (eComp it g mc me nt ix)) :=
  QE.imp (pe_comp S hc hi.h (fun cl C s₂ H₂ fp => (hg cl C s₂ H₂ fp).h) (fun cl C s₂ H₂ fp => (ht cl C s₂ H₂ fp).h) (fun cl C s₂ H₂ fp => (he cl C s₂ H₂ fp).h) hs) fun σ H Q h => tComp_of hOb hnt his h
theorem ss_setC (i : Nat) {O2 : List Fl} (tn : List Str) (ix : List Nat) {rm : Rm} {Ol : List Fl} {y : Str} {py spos : Pos} (hN : X.N.Nodup) (hiN : X.N[i]? = some y) (hy : Loc X.env.scope y) (S : compOk X scope ix = true) (hc : X.calm = true) (hOb : Ob = blockF tn.length ix O) (hnt : nt = tn.length) (his : ∀ j ∈ is, j < tn.length) (hi : QI X tg iter (tIc X.K O it))
    (hg : ∀ cl C s₂ H₂ fp, QG (X.comp scope tn ix cl C s₂ H₂ fp) tg (tG X.K Ob O1 is g)) (ht : ∀ cl C s₂ H₂ fp, QIfs (X.comp scope tn ix cl C s₂ H₂ fp) ifs (tT X.K O1 mc)) (he : ∀ cl C s₂ H₂ fp, QE (X.comp scope tn ix cl C s₂ H₂ fp) elt (tE X.K O1 me))
    (hl : i < O.length := by exact of_decide_eq_true rfl) (hsw : swapsWith (.ListComp elt [⟨tg, iter, ifs, 0⟩] scope pos) (some (.Name y py)) spos.line X.env = pure true := by rfl)
    (hf : X.fn y = true ∨ X.env.scope.names.lookup y = some .local := by first | exact .inl rfl | exact .inr rfl | assumption)
    (hs : ∀ x, foldedSetIterable iter X.env x = pure x := by intro _; rfl) (hO : O.set i .own = O2 := by rfl) : QS X (.Assign [.Name y py] (.ListComp elt [⟨tg, iter, ifs, 0⟩] scope pos) spos) (tS X.K rm Ol O O2 (sSet i (eComp it g mc me nt ix))) :=
  hO ▸ QS.imp (ps_setC hN hiN hy S hc hi.h (fun cl C s₂ H₂ fp => (hg cl C s₂ H₂ fp).h) (fun cl C s₂ H₂ fp => (ht cl C s₂ H₂ fp).h) (fun cl C s₂ H₂ fp => (he cl C s₂ H₂ fp).h) hsw hf hs) fun D σ H => tAsg_setF (fun σ H Q h => tComp_of hOb hnt his h) hl
end
noncomputable def sApp (i : Nat) (m : ME) : MS := fun Γ => (m Γ).bind fun d => match gv Γ i with
  | some (.list ds) => gd (ds.length < sizeLine ∧ i < Γ.length) (.ok (.nx (Γ.set i (some (.list (ds ++ [d]))))))
  | _ => .bad
section
variable {X : Cx} {rm : Rm} {Ol O : List Fl} {m m' : ME} {e a b : Expr} {pos p apos cpos : Pos}
theorem own_list {K : PySem.W.Frag} {A B H : Hp} {σ : L2.St} {Γ : Ev} {i : Nat} {ds : List PyData} (r : StRep K A B H O σ Γ) (hi : isO (fl O i) = true) (he : gv Γ i = some (.list ds)) : ∃ q vs, sv σ i = some (.ref q) ∧ H q = some (.lst vs) ∧ RpAll K A ds vs := by
  obtain ⟨d, q, o, e1, e2, h1, h2, h3, ⟨ds', vs, rfl, rfl, h4⟩ | ⟨kvs, u, rfl, rfl, h4⟩⟩ := r.own_at hi (by rw [he]; simp)
  rotate_right
  · rw [he] at e1; cases e1
  rw [he] at e1
  cases e1
  exact ⟨q, vs, e2, h1, h4⟩
theorem ss_app (i : Nat) {x : Str} (he : QE X e (tE X.K O m)) (hi : isO (fl O i) = true := by rfl) (hN : X.N[i]? = some x := by rfl) (hv : Vis X.env.scope x := by first | exact Or.inl rfl | exact Or.inr (Or.inl rfl) | exact Or.inr (Or.inr rfl)) (hd : (x == ("__debug__" : Str)) = false := by decide)
    (hcd : (x == ("__classdict__" : Str)) = false := by decide) (hbase : attributeBase (.Name x p) "append" X.env (eval (.Name x p) X.env) = eval (.Name x p) X.env := by rfl)
    (hfew : ((backTo cpos (starEach (e :: []) X.env)).all (fun x => !x.1) && (backToKw cpos (keywordEach [] X.env)).all (fun x => x.1.isSome)
      && decide ((e :: []).length + ([] : List Keyword).length + (if ([] : List Keyword).isEmpty then 0 else 1) < 30)) = true := by rfl)
    (hline : (apos.endLine == cpos.line) = true := by rfl) (hs : starEach (e :: []) X.env = (false, eval e X.env) :: starEach [] X.env := by rfl) (hplain : (backTo cpos (starEach [] X.env)).any (·.1) = false := by rfl)
    (hsw : swapsWith (.Call (.Attribute (.Name x p) "append" apos) [e] [] cpos) none pos.line X.env = pure false := by rfl) :
    QS X (.Expr (.Call (.Attribute (.Name x p) "append" apos) [e] [] cpos) pos) (tS X.K rm Ol O O (sApp i m)) := by
  refine QS.imp (ps_expr (pe_bm PySem.F.plainAttrs_list PySem.F.slot_list_append PySem.F.type_list_append mt_append (pe_var hN hv hd hcd) (pa_cons he.h pa_nil hs) hbase hfew hline hs hplain) hsw) fun D σ H hq__ => ?_
  obtain ⟨A, B, Γ, o, r, em, k⟩ := hq__
  obtain ⟨d, e1, em⟩ := Res.bind_ok em
  cases hg : gv Γ i with
  | none => rw [hg] at em; cases em
  | some dl =>
    rw [hg] at em
    cases dl with
    | list ds =>
      obtain ⟨⟨hc, hlt⟩, em⟩ := gd_ok em
      cases em
      obtain ⟨q, vs, e2, h1, h4⟩ := own_list r hi hg
      refine ⟨.ref q, sv_get e2, .inl ⟨rfl, vs, SqL.of h1⟩, A, B, Γ, d, r, e1, fun v A1 H1 g1 p1 => ⟨q, vs, v, rfl, rfl, g1.hh _ _ h1, by rw [← h4.length]; exact hc, ?_⟩⟩
      exact k σ A1 _ ((r.grow g1).change hi hlt (by rw [hg]; simp) e2 (g1.hh _ _ h1) (.inl ⟨_, _, rfl, rfl, (RpAll.mono g1.aa _ h4).append (RpAll.one p1)⟩)) g1.aa (g1.nB r.b)
    | _ => cases em
end
noncomputable def intsOf : List PyData → Option (List Int)
  | [] => some []
  | .int i :: ds => (intsOf ds).map (i :: ·)
  | _ :: _ => none
theorem intsOf_eq : ∀ {ds : List PyData} {ns : List Int}, intsOf ds = some ns → ds = ns.map PyData.int
  | [], ns, h => by cases h; rfl
  | .int i :: ds, ns, h => by
    unfold intsOf at h
    cases e : intsOf ds with
    | none => rw [e] at h; cases h
    | some ms => rw [e] at h; cases h; rw [intsOf_eq e]; rfl
@[simp] theorem intsOf_map (ns : List Int) : intsOf (ns.map PyData.int) = some ns := by
  induction ns with
  | nil => rfl
  | cons n ns ih => rw [List.map_cons, intsOf, ih]; rfl
noncomputable def boolsOf : List PyData → Option (List Bool)
  | [] => some []
  | .bool i :: ds => (boolsOf ds).map (i :: ·)
  | _ :: _ => none
theorem boolsOf_eq : ∀ {ds : List PyData} {ns : List Bool}, boolsOf ds = some ns → ds = ns.map PyData.bool
  | [], ns, h => by cases h; rfl
  | .bool i :: ds, ns, h => by
    unfold boolsOf at h
    cases e : boolsOf ds with
    | none => rw [e] at h; cases h
    | some ms => rw [e] at h; cases h; rw [boolsOf_eq e]; rfl
@[simp] theorem boolsOf_map (ns : List Bool) : boolsOf (ns.map PyData.bool) = some ns := by
  induction ns with
  | nil => rfl
  | cons n ns ih => rw [List.map_cons, boolsOf, ih]; rfl
noncomputable def sumD : List PyData → Res PyData
  | [.list ds] => match intsOf ds with
    | some ns => .ok (.int ns.sum)
    | none => .bad
  | _ => .bad
noncomputable def allD : List PyData → Res PyData
  | [.list ds] => match boolsOf ds with
    | some bs => .ok (.bool (bs.all id))
    | none => .bad
  | _ => .bad
theorem RpAll.intV {K : PySem.W.Frag} {A : Hp} : ∀ {ns : List Int} {vs : List V}, RpAll K A (ns.map PyData.int) vs → vs = ns.map V.int
  | [], vs, h => by rw [List.map_nil, RpAll.nil] at h; exact h
  | n :: ns, vs, h => by
    rw [List.map_cons, RpAll.cons] at h
    obtain ⟨v, r, rfl, h1, h2⟩ := h
    rw [Rp.int.mp h1, h2.intV]; rfl
theorem RpAll.boolV {K : PySem.W.Frag} {A : Hp} : ∀ {ns : List Bool} {vs : List V}, RpAll K A (ns.map PyData.bool) vs → vs = ns.map V.bl
  | [], vs, h => by rw [List.map_nil, RpAll.nil] at h; exact h
  | n :: ns, vs, h => by
    rw [List.map_cons, RpAll.cons] at h
    obtain ⟨v, r, rfl, h1, h2⟩ := h
    rw [Rp.bool.mp h1, h2.boolV]; rfl
theorem ints_vals : ∀ {ns : List Int} {us : List Value}, Vals (ns.map V.int) us → IntsAre us ns
  | [], _, .nil => .nil
  | n :: ns, _, .cons r t => by
    obtain ⟨tk, rfl⟩ := r
    exact .cons n tk (ints_vals t)
theorem bools_vals : ∀ {ns : List Bool} {us : List Value}, Vals (ns.map V.bl) us → us = ns.map Value.bool
  | [], _, .nil => rfl
  | n :: ns, _, .cons r t => by
    rw [show _ = Value.bool n from r, bools_vals t]; rfl
section
variable {X : Cx}
theorem cd_sum (hc : X.calm = true) : CallR X (.builtin "sum") (rC X.K sumD) := by
  intro pins s σ H xs us Q I r h
  obtain ⟨A, ds, d, e, ha, p, k⟩ := h
  match ds, e with
  | [.list es], e =>
    have e' : (match intsOf es with | some ns => Res.ok (PyData.int ns.sum) | none => .bad) = .ok d := e
    cases hn : intsOf es with
    | none => rw [hn] at e'; cases e'
    | some ns =>
      rw [hn] at e'
      cases e'
      obtain rfl := intsOf_eq hn
      obtain ⟨v, r', rfl, p1, p2⟩ := p.cons
      obtain rfl := p2.nil
      obtain ⟨l, vs, rfl, h1, q1⟩ := p1.list ha
      obtain rfl := q1.intV
      obtain ⟨u, rfl, rx⟩ := Vals.one r
      cases rx
      obtain ⟨its, rv, pl, hz⟩ := I.list h1
      have hi := ints_vals rv
      have hall : AllInts its.toArray := hi.allInts
      obtain ⟨ys, ey⟩ := hall.items
      have e2 := nums_intItems ys
      refine sum_intListG (xs := ys) (I.ok.hd hc) (by rw [← ey]; exact pl.isList) fun h' tk t' hk => ?_
      have e3 : numsOf (intItems ys).toList = ns := by
        rw [← ey]
        exact hi.numsOf
      rw [e2] at e3
      rw [preSum_eq, List.take_of_length_le (by simp), e3]
      exact ⟨.int ns.sum, H, I.kept (t' := tk) hk, ⟨t', rfl⟩, k _ A H (Grow.refl ha) (Rp.int.mpr rfl)⟩
theorem truth_bools {P : Program} {w : World} {A : Around} {bs : List Bool} : TruthOf P w A (fun i v => (bs.map Value.bool).toArray[i]? = some v) (fun i => bs.getD i false) := by
  intro i v s Q E hP hQ
  have hP' : (bs.map Value.bool)[i]? = some v := by simpa using hP
  rw [List.getElem?_map] at hP'
  cases e : bs[i]? with
  | none => rw [e] at hP'; cases hP'
  | some b =>
    rw [e] at hP'
    cases hP'
    have hQ' : Q (bs.getD i false) s := hQ
    rw [List.getD_eq_getElem?_getD, e] at hQ'
    exact wpAny_truthy_bool hQ'
theorem all_range (bs : List Bool) : ((List.range bs.length).all fun i => bs.getD i false) = bs.all id := by
  rw [Bool.eq_iff_iff, List.all_eq_true, List.all_eq_true]
  refine ⟨fun h b hb => ?_, fun h i hi => ?_⟩
  · obtain ⟨i, hi, rfl⟩ := List.getElem_of_mem hb
    have := h i (List.mem_range.mpr hi)
    rw [List.getD_eq_getElem?_getD, List.getElem?_eq_getElem hi] at this
    exact this
  · have hi' := List.mem_range.mp hi
    rw [List.getD_eq_getElem?_getD, List.getElem?_eq_getElem hi']
    exact h _ (List.getElem_mem hi')
theorem cd_all (hc : X.calm = true) : CallR X (.builtin "all") (rC X.K allD) := by
  intro pins s σ H xs us Q I r h
  obtain ⟨A, ds, d, e, ha, p, k⟩ := h
  match ds, e with
  | [.list es], e =>
    have e' : (match boolsOf es with | some ns => Res.ok (PyData.bool (ns.all id)) | none => .bad) = .ok d := e
    cases hn : boolsOf es with
    | none => rw [hn] at e'; cases e'
    | some bs =>
      rw [hn] at e'
      cases e'
      obtain rfl := boolsOf_eq hn
      obtain ⟨v, r', rfl, p1, p2⟩ := p.cons
      obtain rfl := p2.nil
      obtain ⟨l, vs, rfl, h1, q1⟩ := p1.list ha
      obtain rfl := q1.boolV
      obtain ⟨u, rfl, rx⟩ := Vals.one r
      cases rx
      obtain ⟨its, rv, pl, hz⟩ := I.list h1
      obtain rfl := bools_vals rv
      have hlt := pl.lt
      refine call_all_walk (wpAny_pyIter_list pl.isList ⟨_, _, _, _, _, _, fun i => bs.getD i false, rfl, Walks.list (A := X.A.in1) (I.ok.hd hc) s.heap.objs.size l (Nat.ne_of_lt hlt) (bs.map Value.bool).toArray, ⟨⟨_, Heap.get?_push_size _ rfl, rfl, rfl⟩, pl.isList.push _⟩, truth_bools, fun h' tk hk => ?_⟩)
      have e4 : (bs.map Value.bool).toArray.size = bs.length := by simp
      rw [e4, all_range]
      exact ⟨.bl _, H, I.kept (t' := tk) fun b o q => hk b o (fun z => absurd (List.mem_singleton.mp z) (Nat.ne_of_lt (Heap.lt_size q))) (Heap.get?_push_of_some _ q), rfl, k _ A H (Grow.refl ha) (Rp.bool.mpr rfl)⟩
end
end L3
namespace L3
open PySem PySem.Spec PyProof.Rows L2
theorem law_script {K : PySem.W.Frag} {H : Hp} {a : Addr} {ns : List Int} {f : List PyData → Res PyData} {fg : Fl} {E : XK} (hm : f [.list (ns.map PyData.int)] = .ok (.bool true)) (hS : SqL K H a (ns.map V.int)) : spF K [fg] .f f [.ref a] H (fun v _ => v = .bl true) E := by
  refine ⟨H, [.list (ns.map PyData.int)], .bool true, Same.refl _, ⟨_, _, _, _, rfl, rfl, ?_, rfl, rfl⟩, hm, fun v A' H' g p => (Rp.bool (K := K) (A := A')).mp p⟩
  have q : Rp K H (.list (ns.map PyData.int)) (.ref a) := Rp.list.mpr ⟨a, _, rfl, hS, RpAll.ints⟩
  cases fg with
  | imm => exact q
  | bor => exact .inl q
  | own => exact .inl q
  | fix p0 => exact .inl q
  | exc C => exact .inl q
  | nst b => exact .inl q
end L3
namespace L2
open PySem PyProof.Rows
section
variable {prog : Program} {w : World} {A : Around} {E : Value → Shared → Prop} {s : Shared}
local macro_rules | `(tactic| walk_at "up_eq") => `(tactic| (refine congrArg (_ >>= ·) (funext fun _ => ?_); refine congrArg (_ >>= ·) (funext fun c => ?_); obtain ⟨r, m⟩ := c; cases r <;> rfl))
local macro_rules | `(tactic| walk_at "dn_eq") => `(tactic| (refine congrArg (_ >>= ·) (funext fun c => ?_); obtain ⟨r, m, e⟩ := c; cases r with
  | some r => rfl
  | none => (dsimp only; split; (refine congrArg (_ >>= ·) (funext fun _ => ?_); walk_at "up_eq"); walk_at "up_eq")))
end
end L2
namespace L2
open PySem PyProof.Rows
section
variable {prog : Program} {w : World} {A : Around} {E : Value → Shared → Prop} {s : Shared}
end
end L2
namespace L2
open PySem PyProof.Rows
section
variable {α : Type} {le : α → α → Prop}
end
section
variable {prog : Program} {w : World} {A : Around} {E : Value → Shared → Prop} {s : Shared}
end
section
variable {a b o : Array Keyed} {i j k : Nat}
end
section
variable {prog : Program} {w : World} {A : Around} {E : Value → Shared → Prop} {s : Shared}
end
end L2
namespace L2
open PySem PyProof.Rows
section
variable {a b o : Array Keyed} {i j z : Nat}
end
section
variable {prog : Program} {w : World} {A : Around} {E : Value → Shared → Prop} {s : Shared}
end
end L2
namespace L2
open PySem PyProof.Rows
section
variable {prog : Program} {w : World} {A : Around} {E : Value → Shared → Prop} {s : Shared}
end
section
variable {prog : Program} {w : World} {A : Around} {E : Value → Shared → Prop} {s : Shared}
end
end L2
namespace L2
open PySem PyProof.Rows
section
variable {prog : Program} {w : World} {A : Around} {E : Value → Shared → Prop} {s : Shared}
end
end L2
namespace L2
open PySem PyProof.Rows
section
variable {prog : Program} {w : World} {A : Around} {E : Value → Shared → Prop} {s : Shared}
end
end L2
namespace L3
open PySem PySem.Spec PyProof.Rows L2
section
variable {X : Cx}
end
open Classical in
noncomputable def eqR (h : Heap) (x : PyData) (y : Value) : Bool := if q : ∃ d as, Reads h y d as ∧ d.canLay0 = true then PyData.eqv (Classical.choose q) x else false
theorem eqR_of {h : Heap} {x d : PyData} {y : Value} {as : List Addr} (r : Reads h y d as) (hd : d.canLay0 = true) : eqR h x y = PyData.eqv d x := by
  unfold eqR
  have q : ∃ d as, Reads h y d as ∧ d.canLay0 = true := ⟨d, as, r, hd⟩
  rw [dif_pos q]
  obtain ⟨as', r', c'⟩ := Classical.choose_spec q
  rw [(PySem.Reads.unique r' d as r).1]
theorem anyR {h : Heap} {x : PyData} : ∀ {us : List Value} {ds : List PyData} {as : List Addr}, ReadsAll h us ds as → PyData.canLayAll0 ds = true → us.any (eqR h x) = ds.any fun d => PyData.eqv d x
  | _, _, _, .nil, _ => rfl
  | _, _, _, .cons r rs, c => by
    rw [PyData.canLayAll0, Bool.and_eq_true] at c
    rw [List.any_cons, List.any_cons, eqR_of r c.1, anyR rs c.2]
theorem memR {h : Heap} : ∀ {us : List Value} {ds : List PyData} {as : List Addr} {u : Value}, ReadsAll h us ds as → u ∈ us → ∃ d as, d ∈ ds ∧ Reads h u d as
  | _, _, _, u, .nil, m => nomatch m
  | _, _, _, u, .cons (d := d) r rs, m => by
    rcases List.mem_cons.mp m with rfl | m
    · exact ⟨_, _, List.mem_cons_self, r⟩
    · obtain ⟨d', as, h1, h2⟩ := memR rs m
      exact ⟨d', as, List.mem_cons_of_mem _ h1, h2⟩
noncomputable def inB (a : PyData) (ds : List PyData) : Bool := ds.any fun y => PyData.eqv y a
noncomputable def inX : PyData → PyData → Res PyData
  | a, .list ds => gd (SeqAt.shaped a = true ∧ ds.all SeqAt.shaped = true) (.ok (.bool (inB a ds)))
  | a, .tuple ds => gd (SeqAt.shaped a = true ∧ ds.all SeqAt.shaped = true) (.ok (.bool (inB a ds)))
  | _, _ => .bad
theorem all_lay : ∀ {ds : List PyData}, ds.all SeqAt.shaped = true → PyData.canLayAll0 ds = true
  | [], _ => by rw [PyData.canLayAll0]
  | d :: ds, h => by
    rw [List.all_cons, Bool.and_eq_true] at h
    rw [PyData.canLayAll0, SeqAt.canLay_of_shaped h.1, all_lay h.2]; rfl
theorem shaped_depth {d : PyData} (h : SeqAt.shaped d = true) : d.depth ≤ 64 := by
  unfold SeqAt.shaped at h
  rw [Bool.and_eq_true] at h
  exact of_decide_eq_true h.2
section
variable {X : Cx}
theorem in_any {pins : List (Addr × Obj)} {s : Shared} {σ : L2.St} {H A : Hp} {d1 : PyData} {ds : List PyData} {x : V} {v : Value} {vs : List V} {its : List Value} (hu : X.A.units + 66 < cLine) (I : Inv X pins σ H s) (rx : RelV x v) (ha : Same A H)
    (p1 : Pk X.K A H d1 x) (f1 : SeqAt.shaped d1 = true) (f2 : ds.all SeqAt.shaped = true) (q2 : RpAll X.K A ds vs) (r : Vals vs its) :
    (∀ y, y ∈ its.toArray → SeqAt.EqAt X.A.in1 s y v (eqR s.heap d1 y)) ∧ its.toArray.any (eqR s.heap d1) = inB d1 ds := by
  obtain ⟨as, r1⟩ := Is.reads I d1 (p1.is ha f1) rx
  obtain ⟨bs, r2⟩ := IsAll.reads I ds (IsAll.mono ha ds (RpAll.is ds (all_lay f2) q2)) r
  refine ⟨fun y hy => ?_, by rw [List.any_toArray, anyR r2 (all_lay f2)]; rfl⟩
  obtain ⟨d, cs, hd, ry⟩ := memR r2 (by simpa using hy)
  have hs : SeqAt.shaped d = true := List.all_eq_true.mp f2 d hd
  rw [eqR_of ry (SeqAt.canLay_of_shaped hs)]
  refine SeqAt.eqAt_reads d d1 X.A.in1 s y v cs as ry r1 (SeqAt.canLay_of_shaped hs) (SeqAt.canLay_of_shaped f1) ?_
  have := shaped_depth hs
  have e : X.A.in1.units = X.A.units + 1 := rfl
  have := Nat.min_le_left d.depth d1.depth
  omega
theorem od_inX (hu : X.A.units + 66 < cLine) : OpR X (compareOp .In) (rD X.K inX) := by
  intro pins s σ H x y v u Q I rx ry hq
  obtain ⟨A, d1, d2, d, e, ha, p1, p2, k⟩ := hq
  cases d2 with
  | list ds =>
    obtain ⟨⟨f1, f2⟩, e⟩ := gd_ok e
    have e' := Res.ok.inj e
    subst e'
    obtain ⟨l, vs, rfl, h1, q2⟩ := p2.list ha
    cases ry
    obtain ⟨its, r, pl, hz⟩ := I.list h1
    obtain ⟨w1, w2⟩ := in_any hu I rx ha p1 f1 f2 q2 r
    refine SeqAt.in_listAt (eqR s.heap d1) pl.isList w1 ?_
    rw [w2]
    exact ⟨.bl _, H, I, rfl, k _ A H (Grow.refl ha) (Rp.bool.mpr rfl)⟩
  | tuple ds =>
    obtain ⟨⟨f1, f2⟩, e⟩ := gd_ok e
    have e' := Res.ok.inj e
    subst e'
    obtain ⟨l, vs, rfl, h1, q2⟩ := p2.tuple ha
    cases ry
    obtain ⟨its, r, pl, hz⟩ := I.tuple h1
    obtain ⟨w1, w2⟩ := in_any hu I rx ha p1 f1 f2 q2 r
    refine SeqAt.in_tupleAt (eqR s.heap d1) (show s.heap.IsTuple l its.toArray from pl) w1 ?_
    rw [w2]
    exact ⟨.bl _, H, I, rfl, k _ A H (Grow.refl ha) (Rp.bool.mpr rfl)⟩
  | _ => cases e
end
theorem _root_.L2.Room.units2 {k : Nat} {A : Around} (r : Room k A) : A.units + 66 < cLine := by have := r.un; omega
end L3
namespace L3
open PySem PySem.Spec PyProof.Rows L2
noncomputable def lookD (key : Key) : List (PyData × PyData) → Option PyData
  | [] => none
  | (k, d) :: r => if keyD k = some key then some d else lookD key r
noncomputable def hasK (key : Key) : List (PyData × PyData) → Bool
  | [] => false
  | (k, _) :: r => if keyD k = some key then true else hasK key r
noncomputable def setK (key : Key) (x : PyData) : List (PyData × PyData) → List (PyData × PyData)
  | [] => []
  | (k, d) :: r => (if keyD k = some key then (k, x) else (k, d)) :: setK key x r
noncomputable def putD2 (kd : PyData) (key : Key) (x : PyData) (kvs : List (PyData × PyData)) : List (PyData × PyData) := if hasK key kvs = true then setK key x kvs else kvs ++ [(kd, x)]
theorem keyD_eq {k : PyData} {key key' : Key} (h : keyD k = some key') : keyD k = some key ↔ key' = key := by rw [h]; simp
section
variable {K : PySem.W.Frag} {A : Hp} {key : Key}
theorem RpKV.look : ∀ {kvs : List (PyData × PyData)} {u : List (Key × V)}, RpKV K A kvs u → (∀ d, lookD key kvs = some d → ∃ v, valV u key = some v ∧ Rp K A d v) ∧ (lookD key kvs = none → valV u key = none)
  | [], u, h => by
    rw [RpKV.nil] at h; subst h
    exact ⟨fun d e => (nomatch e), fun _ => rfl⟩
  | (k, d) :: r, u, h => by
    obtain ⟨key', v, u', rfl, hk, hd, hr⟩ := RpKV.cons.mp h
    unfold lookD
    by_cases e : keyD k = some key
    · have e' := (keyD_eq hk).mp e
      rw [if_pos e]
      exact ⟨fun d' z => by cases z; exact ⟨v, valV_pos (p := (key', v)) e', hd⟩, fun z => (nomatch z)⟩
    · have e' : ¬ key' = key := fun z => e ((keyD_eq hk).mpr z)
      rw [if_neg e, valV_neg (p := (key', v)) e']
      exact RpKV.look hr
theorem RpKV.has : ∀ {kvs : List (PyData × PyData)} {u : List (Key × V)}, RpKV K A kvs u → (u.any fun kv => decide (kv.1 = key)) = hasK key kvs
  | [], u, h => by rw [RpKV.nil] at h; subst h; rfl
  | (k, d) :: r, u, h => by
    obtain ⟨key', v, u', rfl, hk, hd, hr⟩ := RpKV.cons.mp h
    unfold hasK
    rw [List.any_cons, RpKV.has hr]
    by_cases e : keyD k = some key
    · rw [if_pos e, decide_eq_true ((keyD_eq hk).mp e)]; rfl
    · rw [if_neg e, decide_eq_false fun z => e ((keyD_eq hk).mpr z)]; rfl
theorem RpKV.set {x : PyData} {w : V} (hx : Rp K A x w) : ∀ {kvs : List (PyData × PyData)} {u : List (Key × V)}, RpKV K A kvs u → RpKV K A (setK key x kvs) (u.map fun kv => if kv.1 = key then (kv.1, w) else kv)
  | [], u, h => by rw [RpKV.nil] at h; subst h; exact RpKV.nil.mpr rfl
  | (k, d) :: r, u, h => by
    obtain ⟨key', v, u', rfl, hk, hd, hr⟩ := RpKV.cons.mp h
    unfold setK
    rw [List.map_cons]
    by_cases e : keyD k = some key
    · rw [if_pos e, if_pos ((keyD_eq hk).mp e)]
      exact RpKV.cons.mpr ⟨key', w, _, rfl, hk, hx, RpKV.set hx hr⟩
    · rw [if_neg e, if_neg fun z => e ((keyD_eq hk).mpr z)]
      exact RpKV.cons.mpr ⟨key', v, _, rfl, hk, hd, RpKV.set hx hr⟩
theorem RpKV.snoc {kd x : PyData} {w : V} (hk : keyD kd = some key) (hx : Rp K A x w) : ∀ {kvs : List (PyData × PyData)} {u : List (Key × V)}, RpKV K A kvs u → RpKV K A (kvs ++ [(kd, x)]) (u ++ [(key, w)])
  | [], u, h => by rw [RpKV.nil] at h; subst h; exact RpKV.cons.mpr ⟨key, w, [], rfl, hk, hx, RpKV.nil.mpr rfl⟩
  | (k, d) :: r, u, h => by
    obtain ⟨key', v, u', rfl, hk', hd, hr⟩ := RpKV.cons.mp h
    exact RpKV.cons.mpr ⟨key', v, _, rfl, hk', hd, RpKV.snoc hk hx hr⟩
theorem RpKV.put {kd x : PyData} {w : V} {kvs : List (PyData × PyData)} {u : List (Key × V)} (hk : keyD kd = some key) (hx : Rp K A x w) (h : RpKV K A kvs u) : RpKV K A (putD2 kd key x kvs) (putK u key w) := by
  unfold putD2 putK
  rw [h.has]
  by_cases e : hasK key kvs = true
  · rw [if_pos e, if_pos e]; exact h.set hx
  · rw [if_neg e, if_neg e]; exact h.snoc hk hx
theorem RpKV.length : ∀ {kvs : List (PyData × PyData)} {u : List (Key × V)}, RpKV K A kvs u → kvs.length = u.length
  | [], u, h => by rw [RpKV.nil] at h; subst h; rfl
  | (k, d) :: r, u, h => by
    obtain ⟨key', v, u', rfl, _, _, hr⟩ := RpKV.cons.mp h
    rw [List.length_cons, List.length_cons, RpKV.length hr]
end
noncomputable def inY : PyData → PyData → Res PyData
  | a, .dict kvs => match keyD a with
    | some key => .ok (.bool (lookD key kvs).isSome)
    | none => .bad
  | a, b => inX a b
section
variable {X : Cx}
theorem Pk.key {K : PySem.W.Frag} {A H : Hp} {d : PyData} {v : V} {key : Key} (p : Pk K A H d v) (h : keyD d = some key) : v = kV key := by
  cases d with
  | int i => cases h; exact p.int
  | str x => cases h; exact p.str
  | _ => cases h
theorem RpKV.some {K : PySem.W.Frag} {A : Hp} {kvs : List (PyData × PyData)} {u : List (Key × V)} {key : Key} (h : RpKV K A kvs u) : (valV u key).isSome = (lookD key kvs).isSome := by
  have := h.look (key := key)
  cases e : lookD key kvs with
  | none => rw [this.2 e]; rfl
  | some d => obtain ⟨v, e1, _⟩ := this.1 d e; rw [e1]; rfl
theorem od_inY (hu : X.A.units + 66 < cLine) : OpR X (compareOp .In) (rD X.K inY) := by
  intro pins s σ H x y v u Q I rx ry hq
  obtain ⟨A, d1, d2, d, e, ha, p1, p2, k⟩ := hq
  cases d2 with
  | dict kvs =>
    have e : (match keyD d1 with | some key => Res.ok (PyData.bool (lookD key kvs).isSome) | none => .bad) = .ok d := e
    cases hk : keyD d1 with
    | none => rw [hk] at e; cases e
    | some key =>
      rw [hk] at e
      cases e
      obtain ⟨l, w, rfl, h1, h2⟩ := p2.dict ha
      cases ry
      rw [p1.key hk] at rx
      exact d_in (by omega) I (DGet.k (k := key) h1) rx fun s' I' => ⟨.bl _, H, I', rfl, k _ A H (Grow.refl ha) (Rp.bool.mpr (by rw [h2.some]))⟩
  | list ds => exact od_inX hu pins s σ H x y v u Q I rx ry ⟨A, d1, .list ds, d, e, ha, p1, p2, k⟩
  | tuple ds => exact od_inX hu pins s σ H x y v u Q I rx ry ⟨A, d1, .tuple ds, d, e, ha, p1, p2, k⟩
  | _ => cases e
end
noncomputable def sPutD (i : Nat) (mk mv : ME) : MS := fun Γ => (mv Γ).bind fun x => (mk Γ).bind fun kd => match gv Γ i with
  | some (.dict kvs) => match keyD kd with
    | some key => gd (kvs.length < sizeLine ∧ i < Γ.length) (.ok (.nx (Γ.set i (some (.dict (putD2 kd key x kvs))))))
    | none => .bad
  | _ => .bad
section
variable {X : Cx} {rm : Rm} {Ol O : List Fl} {m m' : ME} {e a b : Expr} {pos p apos cpos : Pos}
theorem own_dict {K : PySem.W.Frag} {A B H : Hp} {σ : L2.St} {Γ : Ev} {i : Nat} {kvs : List (PyData × PyData)} (r : StRep K A B H O σ Γ) (hi : isO (fl O i) = true) (he : gv Γ i = some (.dict kvs)) : ∃ q u, sv σ i = some (.ref q) ∧ H q = some (.dK u) ∧ RpKV K A kvs u := by
  obtain ⟨d, q, o, e1, e2, h1, h2, h3, ⟨ds', vs, rfl, rfl, h4⟩ | ⟨kvs, u, rfl, rfl, h4⟩⟩ := r.own_at hi (by rw [he]; simp)
  · rw [he] at e1; cases e1
  · rw [he] at e1
    cases e1
    exact ⟨q, u, e2, h1, h4⟩
theorem Rp.key {K : PySem.W.Frag} {A : Hp} {d : PyData} {v : V} {key : Key} (p : Rp K A d v) (h : keyD d = some key) : v = kV key := Pk.key (H := A) (.inl p) h
theorem ss_dput (i : Nat) {x : Str} {xp tpos : Pos} (hu : X.A.units + 66 < cLine) (ha : QE X a (tE X.K O m)) (he : QE X e (tE X.K O m')) (hi : isO (fl O i) = true := by rfl) (hN : X.N[i]? = some x := by rfl) (hv : Vis X.env.scope x := by first | exact Or.inl rfl | exact Or.inr (Or.inl rfl) | exact Or.inr (Or.inr rfl)) (hd : (x == ("__debug__" : Str)) = false := by decide)
    (hcd : (x == ("__classdict__" : Str)) = false := by decide) (hs : swapsWith e (some (.Subscript (.Name x xp) a tpos)) pos.line X.env = pure false := by rfl) :
    QS X (.Assign [.Subscript (.Name x xp) a tpos] e pos) (tS X.K rm Ol O O (sPutD i m m')) := by
  refine QS.imp (ps_dput (by omega) (pe_var hN hv hd hcd) ha.h he.h hs) fun D σ H hq__ => ?_
  obtain ⟨A, B, Γ, o, r, em, k⟩ := hq__
  obtain ⟨d, e1, em⟩ := Res.bind_ok em
  obtain ⟨kd, e2, em⟩ := Res.bind_ok em
  cases hg : gv Γ i with
  | none => rw [hg] at em; cases em
  | some dl =>
    rw [hg] at em
    cases dl with
    | dict kvs =>
      have em' : (match keyD kd with | some key => gd (kvs.length < sizeLine ∧ i < Γ.length) (Res.ok (Out.nx (Γ.set i (some (.dict (putD2 kd key d kvs)))))) | none => .bad) = .ok o := em
      cases hk : keyD kd with
      | none => rw [hk] at em'; cases em'
      | some key =>
        rw [hk] at em'
        obtain ⟨⟨hz, hlt⟩, em'⟩ := gd_ok em'
        cases em'
        obtain ⟨q, u, e3, h2, h4⟩ := own_dict r hi hg
        refine ⟨A, B, Γ, d, r, e1, fun v A1 H1 g1 p1 => ⟨.ref q, sv_get e3, A1, B, Γ, _, r.grow g1, e2, fun w A2 H2 g2 p2 => ?_⟩⟩
        have gg := g1.trans g2
        refine ⟨q, _, rfl, by rw [Rp.key p2 hk]; exact DPut.k (gg.hh _ _ h2) (by rw [← h4.length]; exact hz), ?_⟩
        exact k σ A2 _ ((r.grow gg).change hi hlt (by rw [hg]; simp) e3 (gg.hh _ _ h2) (.inr ⟨_, _, rfl, rfl, RpKV.put hk (Rp.mono g2.aa _ p1) (RpKV.mono gg.aa _ h4)⟩)) gg.aa (gg.nB r.b)
    | _ => cases em
end
noncomputable def ixY : PyData → PyData → Res PyData
  | .dict kvs, a => match keyD a with
    | some key => match lookD key kvs with
      | some d => .ok d
      | none => .bad
    | none => .bad
  | a, b => ixD a b
section
variable {X : Cx}
theorem ix_dict : IxR X (fun x y H Q => ∃ a v, x = .ref a ∧ DGet H a y (some v) ∧ X.A.units + 1 < cLine ∧ Q v H) := by
  intro value slice pins s σ H x y v u Q I rx ry h hs
  obtain ⟨a, w, rfl, g, hu, q⟩ := h
  cases rx
  have hT := dict_typeIs I g
  unfold subscriptTail
  refine wpAny_bind ?_
  rw [getitemInPython_of_ne hT.not_modules]
  refine wpAny_bind (wpAny_specialOf hT PySem.F.slot_dict_getitem.lookup ?_)
  have fin : wpAny (model X.prog X.w) X.A (subscripted slice false (.ref a) u) (fun r s₃ => wpAny (model X.prog X.w) X.A (letTemporaryGo value (.ref a) r >>= fun _ => pure r) (EP X pins σ Q) X.xe s₃) X.xe s := by
    rw [hs]
    exact wpAny_operating (wpAny_mono (d_getItem hu I g ry fun w' s' I' rw' => (⟨w, H, I', rw', q⟩ : EP X pins σ Q w' s')) (fun r s₃ h₃ => wpAny_bind (wpAny_letTemporaryGo (wpAny_pure h₃))) fun _ _ x => x)
  first
    | exact wpAny_pure (wpAny_bind fin)
    | exact wpAny_bind (wpAny_pure (wpAny_bind fin))
    | exact wpAny_bind fin
theorem od_ixY (hu : X.A.units + 66 < cLine) : IxR X (rD X.K ixY) := by
  intro value slice pins s σ H x y v u Q I rx ry hq hs
  obtain ⟨A, d1, d2, d, e, ha, p1, p2, k⟩ := hq
  cases d1 with
  | dict kvs =>
    have e : (match keyD d2 with | some key => (match lookD key kvs with | some d => Res.ok d | none => .bad) | none => .bad) = .ok d := e
    cases hk : keyD d2 with
    | none => rw [hk] at e; cases e
    | some key =>
      rw [hk] at e
      have e : (match lookD key kvs with | some d => Res.ok d | none => .bad) = .ok d := e
      cases hl : lookD key kvs with
      | none => rw [hl] at e; cases e
      | some d0 =>
        rw [hl] at e
        cases e
        obtain ⟨l, w, rfl, h1, h2⟩ := p1.dict ha
        obtain ⟨v0, ev, rv⟩ := (h2.look (key := key)).1 d hl
        refine ix_dict value slice pins s σ H _ y v u Q I rx ry ⟨l, v0, rfl, ?_, by omega, k _ A H (Grow.refl ha) rv⟩ hs
        rw [p2.key hk, ← ev]
        exact DGet.k h1
  | list ds => exact od_ix value slice pins s σ H x y v u Q I rx ry ⟨A, .list ds, d2, d, e, ha, p1, p2, k⟩ hs
  | tuple ds => exact od_ix value slice pins s σ H x y v u Q I rx ry ⟨A, .tuple ds, d2, d, e, ha, p1, p2, k⟩ hs
  | str ds => exact od_ix value slice pins s σ H x y v u Q I rx ry ⟨A, .str ds, d2, d, e, ha, p1, p2, k⟩ hs
  | _ => cases e
theorem se_ixY {a b : Expr} {O : List Fl} {m1 m2 : ME} {pos : Pos} (hu : X.A.units + 66 < cLine) (ha : QE X a (tP X.K O m1)) (hb : QE X b (tP X.K O m2)) (hs : PlainIx b) : QE X (.Subscript a b pos) (tE X.K O (eBin ixY m1 m2)) := QE.imp (pe_ix (od_ixY hu) ha.h hb.h hs) fun _ _ _ => tE_bin
end
end L3
namespace L3
open PySem PySem.Spec PyProof.Rows L2
section
variable {X : Cx}
theorem call_range1 : CallR X (.type "range") (fun xs H Q => ∃ n, xs = [.int n] ∧ ∀ p, H p = none → Q (.ref p) (upd H p (.rng 0 n))) := by
  intro pins s σ H xs us Q I r h
  obtain ⟨n, rfl, q⟩ := h
  obtain ⟨z, rfl, t, rfl⟩ := vals1 r
  refine call_range_1 ⟨.ref s.heap.objs.size, _, I.laid (a := s.heap.objs.size) (o := .rng 0 n) (fun b o e => Heap.get?_push_of_some _ e) (Nat.le_refl _) ⟨_, _, _, Heap.get?_push_size _ rfl⟩, rfl, q _ (I.hok.fresh (Nat.le_refl _))⟩
theorem call_listR (hc : X.calm = true) : CallR X (.type "list") (fun xs H Q => ∃ p n, xs = [.ref p] ∧ H p = some (.rng 0 n) ∧ (-(2 ^ 20) ≤ n ∧ n ≤ 2 ^ 20) ∧ ∀ l, H l = none → Q (.ref l) (upd H l (.lst ((List.range n.toNat).map fun i => V.int (i : Nat))))) := by
  intro pins s σ H xs us Q I r h
  obtain ⟨p, n, rfl, he, hn, q⟩ := h
  obtain ⟨z, rfl, rx⟩ := vals1 r
  cases rx
  obtain ⟨t, u, v, eo⟩ := (show ObjOk X.prog X.w H s.heap p (.rng 0 n) from I.hok p _ he)
  refine call_list_range (n := n.toNat) (I.ok.hd hc) (show IsRange s.heap p 0 n 1 t u v from eo) (small_one (by decide) (by decide) (by omega) (by omega)) (by rw [rangeSize_one]; split <;> omega) (by omega) fun h' tk acc c hk hS hacc => ?_
  refine ⟨.ref s.heap.objs.size, _, I.laid (a := s.heap.objs.size) (o := .lst ((List.range n.toNat).map fun i => V.int (i : Nat))) (t' := tk) hk (Nat.le_refl _) ⟨?_, acc.toList, c, ?_, by simpa using hS⟩, rfl, q _ (I.hok.fresh (Nat.le_refl _))⟩
  · rw [List.length_map, List.length_range, PySem.sizeLine_eq]; omega
  · have hv : ∀ (m : Nat) (vs : List Value), vs.length = m → (∀ (j : Nat) (v : Value), vs[j]? = some v → ∃ t, v = Value.int (0 + (j : Int) * 1) t) → ∀ k : Nat, (∀ (j : Nat) (v : Value), vs[j]? = some v → ∃ t, v = Value.int (0 + (j : Int) * 1) t) → Vals ((List.range m).map fun i => V.int (i : Nat)) vs := by
      intro m
      induction m with
      | zero => intro vs h _ _ _; rw [List.length_eq_zero_iff.mp h]; exact .nil
      | succ m ih =>
        intro vs hl g k _
        rw [List.range_succ, List.map_append]
        obtain ⟨ws, x, rfl⟩ : ∃ ws x, vs = ws ++ [x] := ⟨vs.dropLast, vs.getLast (by intro z; rw [z] at hl; cases hl), (List.dropLast_concat_getLast _).symm⟩
        have hl' : ws.length = m := by simpa using hl
        refine Vals.append (ih ws hl' (fun j v e => g j v (by rw [List.getElem?_append_left (List.getElem?_eq_some_iff.mp e).1]; exact e)) 0 fun j v e => g j v (by rw [List.getElem?_append_left (List.getElem?_eq_some_iff.mp e).1]; exact e)) (.cons ?_ .nil)
        obtain ⟨t, e⟩ := g m x (by rw [List.getElem?_append_right (by omega)]; simp [hl'])
        exact ⟨t, by rw [e]; congr 1; omega⟩
    have g : ∀ (j : Nat) (v : Value), acc.toList[j]? = some v → ∃ t, v = Value.int (0 + (j : Int) * 1) t := fun j v e => hacc.2 j v (by rw [← Array.getElem?_toList]; exact e)
    exact hv n.toNat acc.toList (by rw [Array.length_toList]; exact hacc.1) g 0 g
noncomputable def lrD : PyData → Res PyData
  | .int n => gd (-(2 ^ 20) ≤ n ∧ n ≤ 2 ^ 20) (.ok (.list ((List.range n.toNat).map fun i => PyData.int (i : Nat))))
  | _ => .bad
theorem RpAll.range {K : PySem.W.Frag} {A : Hp} {n : Nat} : RpAll K A ((List.range n).map fun i => PyData.int (i : Nat)) ((List.range n).map fun i => V.int (i : Nat)) := by
  have := RpAll.ints (K := K) (A := A) (ns := (List.range n).map fun i => ((i : Nat) : Int))
  rw [List.map_map, List.map_map] at this
  exact this
theorem sf_lrange {e : Expr} {O : List Fl} {m : ME} {p p2 pos pos2 : Pos} (hc : X.calm = true) (hgl : Gl X "list") (hml : X.mg "list" = none) (hvl : bootBuiltins "list" = some (.type "list")) (hgr : Gl X "range") (hmr : X.mg "range" = none) (hvr : bootBuiltins "range" = some (.type "range")) (he : QE X e (tP X.K O m))
    (hst : noStar e = true := by rfl) : QE X (.Call (.Name "list" p) [.Call (.Name "range" p2) [e] [] pos2] [] pos) (tF X.K O (eUn lrD m)) := by
  refine QE.imp (pe_callTy (call_listR hc) hgl hml hvl (pa_cons (pe_callTy call_range1 hgr hmr hvr (pa_cons he.h pa_nil (star_cons hst)) (by decide) (by decide) (star_cons hst) (star_any rfl)) pa_nil)) fun σ H Q hq__ => ?_
  obtain ⟨A, B, Γ, d, r, em, k⟩ := hq__
  obtain ⟨d1, e1, em⟩ := Res.bind_ok em
  cases d1 with
  | int n =>
    obtain ⟨hn, em⟩ := gd_ok em
    cases em
    refine ⟨A, B, Γ, _, r, e1, fun v A1 H1 g1 p1 => ⟨n, by rw [p1.int], fun q hq => ⟨q, n, rfl, upd_same, hn, fun l hl => ?_⟩⟩⟩
    have hq1 : H1 l = none := by
      by_cases z : l = q
      · subst z; rw [upd_same] at hl; cases hl
      · rw [upd_ne z] at hl; exact hl
    have g2 := Grow.lay (o := HO.rng 0 n) g1.ah hq
    have g3 := Grow.lay (o := HO.lst ((List.range n.toNat).map fun i => V.int (i : Nat))) g2.ah hl
    exact k _ A1 _ (g1.trans (g2.trans g3)) ⟨l, _, rfl, g1.hh.free hq1, upd_same, g2.ah.free hl, .inl ⟨_, _, rfl, rfl, RpAll.range⟩⟩
  | _ => cases em
end
end L3
namespace L3
open PySem PySem.Spec PyProof.Rows L2
noncomputable def rem (H : Hp) (p : Addr) : Hp := fun b => if b = p then none else H b
theorem rem_same {H : Hp} {p : Addr} : rem H p p = none := if_pos rfl
theorem rem_ne {H : Hp} {p b : Addr} (h : b ≠ p) : rem H p b = H b := if_neg h
theorem rem_sub {H : Hp} {p : Addr} : Same (rem H p) H := fun b o e => by
  by_cases h : b = p
  · subst h; rw [rem_same] at e; cases e
  · rw [rem_ne h] at e; exact e
theorem same_rem {B H : Hp} {p : Addr} (s : Same B H) (hp : B p = none) : Same B (rem H p) := fun b o e => by
  have h : b ≠ p := fun z => by rw [z, hp] at e; cases e
  rw [rem_ne h]; exact s b o e
section
variable {K : PySem.W.Frag} {A B H A' H' : Hp} {O : List Fl} {σ : L2.St} {Γ : Ev} {i : Nat}
theorem gv_lt {Γ : Ev} {i : Nat} (h : gv Γ i ≠ none) : i < Γ.length := by
  rcases Nat.lt_or_ge i Γ.length with z | z
  · exact z
  · exact absurd (by unfold gv; rw [List.getD_eq_getElem?_getD, List.getElem?_eq_none z]; rfl) h
theorem StRep.mutate {p : Addr} {o' : HO} {dm : PyData} (r : StRep K A B H O σ Γ) (hi : isO (fl O i) = true) (he : gv Γ i ≠ none) (hs : sv σ i = some (.ref p)) (sa : Same A A') (ah : Same A' H') (hk : ∀ b u, b ≠ p → H b = some u → H' b = some u) (nw : New A A' H)
    (ap : A' p = none) (hp : H' p = some o') (ho : OwnO K A' dm o') : StRep K A' B H' O σ (Γ.set i (some dm)) := by
  obtain ⟨d, p', o0, e1, e2, g1, g2, g3, g4⟩ := r.own_at hi he
  rw [hs] at e2
  cases e2
  have hl := gv_lt he
  refine ⟨ah, fun b u q => ?_, by rw [List.length_set]; exact r.len, fun j => ?_, fun j k hjk q1 q2 q3 q4 => ?_⟩
  · have hb : b ≠ p := fun z => by rw [z, g3] at q; cases q
    exact hk b u hb (r.b b u q)
  · by_cases hj : i = j
    · subst hj
      unfold gv
      rw [getD_set_eq hl]
      intro d'' e
      cases e
      refine ⟨_, hs, ?_⟩
      cases hf : fl O i with
      | imm => rw [hf] at hi; cases hi
      | bor => rw [hf] at hi; cases hi
      | own => exact ⟨p, o', rfl, hp, ap, g3, ho⟩
      | fix p0 =>
        obtain ⟨v', ev, q⟩ := r.slot i d e1
        rw [hf] at q
        rw [hs] at ev
        cases ev
        exact ⟨q.1, p, o', rfl, hp, ap, g3, ho⟩
      | exc C => rw [hf] at hi; cases hi
      | nst b => rw [hf] at hi; cases hi
    · unfold gv
      rw [getD_set_ne hj]
      intro d'' e''
      obtain ⟨v', ev, q⟩ := r.slot j d'' e''
      refine ⟨v', ev, ?_⟩
      have hne : isO (fl O j) = true → ∀ p', v' = .ref p' → p' ≠ p := fun hf p' ez z => by
        refine r.sep i j hj hi hf he (by show gv Γ j ≠ none; unfold gv; rw [e'']; simp) ?_
        rw [hs, ev, ez, z]
      cases hf : fl O j with
      | imm => rw [hf] at q; exact Rp.mono sa d'' q
      | bor => rw [hf] at q; exact Pk.mono sa (Same.refl _) q
      | own =>
        rw [hf] at q
        obtain ⟨p', o', rfl, u1, u2, u3, u4⟩ := q
        exact ⟨p', o', rfl, hk _ _ (hne (by rw [hf]; rfl) p' rfl) u1, nw p' u2 (by rw [u1]; simp), u3, u4.mono sa⟩
      | fix p0 =>
        rw [hf] at q
        obtain ⟨q0, p', o', rfl, u1, u2, u3, u4⟩ := q
        exact ⟨q0, p', o', rfl, hk _ _ (hne (by rw [hf]; rfl) p' rfl) u1, nw p' u2 (by rw [u1]; simp), u3, u4.mono sa⟩
      | exc C =>
        rw [hf] at q
        obtain ⟨p', ob, w1, w2, w3⟩ := q
        exact ⟨p', ob, w1, sa _ _ w2, w3⟩
      | nst b =>
        rw [hf] at q
        intro z
        obtain ⟨p', xs, kvs, w1, w2, w3, w4, w5, w6⟩ := q z
        have hn : p' ≠ p := fun z => by subst z; rw [g1] at w3; exact g4.nx w3
        exact ⟨p', xs, kvs, w1, w2, hk _ _ hn w3, nw p' w4 (by rw [w3]; simp), w5, w6.mono sa⟩
  · have h3 : gv Γ j ≠ none := by
      by_cases hj : i = j
      · subst hj; exact he
      · unfold gv at q3 ⊢; rw [getD_set_ne hj] at q3; exact q3
    have h4' : gv Γ k ≠ none := by
      by_cases hk : i = k
      · subst hk; exact he
      · unfold gv at q4 ⊢; rw [getD_set_ne hk] at q4; exact q4
    exact r.sep j k hjk q1 q2 h3 h4'
end
inductive MA where
  | imm | bor | var (i : Nat) | new
noncomputable def ArgQ (K : PySem.W.Frag) (A B : Hp) (σ : L2.St) (Γ : Ev) (H0 H : Hp) : MA → PyData → V → Prop
  | .imm, d, v => Rp K A d v
  | .bor, d, v => Pk K A B d v
  | .var i, d, v => sv σ i = some v ∧ gv Γ i = some d
  | .new, d, v => ∃ p o, v = .ref p ∧ H0 p = none ∧ H p = some o ∧ A p = none ∧ OwnO K A d o
noncomputable def ArgsQ (K : PySem.W.Frag) (A B : Hp) (σ : L2.St) (Γ : Ev) (H0 H : Hp) : List MA → List PyData → List V → Prop
  | [], ds, vs => ds = [] ∧ vs = []
  | a :: as, ds, vs => ∃ d r v s, ds = d :: r ∧ vs = v :: s ∧ ArgQ K A B σ Γ H0 H a d v ∧ ArgsQ K A B σ Γ H0 H as r s
section
variable {K : PySem.W.Frag} {A B H H0 A' H' : Hp} {σ : L2.St} {Γ : Ev}
theorem ArgsQ.base (s : Same H0 H) : ∀ {as : List MA} {ds : List PyData} {vs : List V}, ArgsQ K A B σ Γ H H' as ds vs → ArgsQ K A B σ Γ H0 H' as ds vs
  | [], ds, vs, h => h
  | a :: as, ds, vs, h => by
    obtain ⟨d, r, v, t, rfl, rfl, h1, h2⟩ := h
    refine ⟨d, r, v, t, rfl, rfl, ?_, ArgsQ.base s h2⟩
    cases a with
    | new => obtain ⟨p, o, e, h0, q⟩ := h1; exact ⟨p, o, e, s.free h0, q⟩
    | imm => exact h1
    | bor => exact h1
    | var i => exact h1
theorem ArgsQ.len : ∀ {as : List MA} {ds : List PyData} {vs : List V}, ArgsQ K A B σ Γ H0 H as ds vs → ds.length = as.length ∧ vs.length = as.length
  | [], ds, vs, h => by obtain ⟨rfl, rfl⟩ := h; exact ⟨rfl, rfl⟩
  | a :: as, ds, vs, h => by
    obtain ⟨d, r, v, t, rfl, rfl, _, h2⟩ := h
    have := h2.len
    exact ⟨by rw [List.length_cons, List.length_cons, this.1], by rw [List.length_cons, List.length_cons, this.2]⟩
theorem ArgsQ.get : ∀ {as : List MA} {ds : List PyData} {vs : List V} {i : Nat} {d : PyData} {v : V} {a : MA}, ArgsQ K A B σ Γ H0 H as ds vs → as[i]? = some a → ds[i]? = some d → vs[i]? = some v → ArgQ K A B σ Γ H0 H a d v
  | [], ds, vs, i, d, v, a, h, ea, ed, ev => by simp at ea
  | b :: as, ds, vs, i, d, v, a, h, ea, ed, ev => by
    obtain ⟨d0, r, v0, t, rfl, rfl, h1, h2⟩ := h
    match i with
    | 0 => simp at ea ed ev; subst ea; subst ed; subst ev; exact h1
    | i + 1 => exact h2.get (by simpa using ea) (by simpa using ed) (by simpa using ev)
end
noncomputable def tAm (K : PySem.W.Frag) (O : List Fl) (as : List MA) (ms : List ME) : TA := fun σ H Q => ∃ A B Γ ds, StRep K A B H O σ Γ ∧ evs ms Γ = .ok ds ∧ ∀ vs A' H', Grow A H A' H' → ArgsQ K A' B σ Γ H H' as ds vs → Q vs H'
section
variable {X : Cx} {K : PySem.W.Frag} {O : List Fl} {m : ME} {ms : List ME} {as : List MA} {e : Expr} {es : List Expr} {pos : Pos}
theorem am_nil : QA X [] (tAm K O [] []) := QA.imp pa_nil fun σ H Q hq__ => by
  obtain ⟨A, B, Γ, ds, r, em, k⟩ := hq__
  cases em
  exact k [] A H (Grow.refl r.a) ⟨rfl, rfl⟩
theorem am_imm (ha : QE X e (tE K O m)) (hr : QA X es (tAm K O as ms)) (hs : noStar e = true := by rfl) : QA X (e :: es) (tAm K O (.imm :: as) (m :: ms)) := QA.imp (pa_cons ha.h hr.h (star_cons hs)) fun σ H Q hq__ => by
  obtain ⟨A, B, Γ, ds, r, em, k⟩ := hq__
  obtain ⟨d, e1, em⟩ := Res.bind_ok em
  obtain ⟨ds', e2, em⟩ := Res.bind_ok em
  cases em
  exact ⟨A, B, Γ, d, r, e1, fun v A1 H1 g1 p1 => ⟨A1, B, Γ, ds', r.grow g1, e2, fun vs A2 H2 g2 p2 => k (v :: vs) A2 H2 (g1.trans g2) ⟨d, ds', v, vs, rfl, rfl, Rp.mono g2.aa d p1, p2.base g1.hh⟩⟩⟩
theorem am_bor (ha : QE X e (tQ K O m)) (hr : QA X es (tAm K O as ms)) (hs : noStar e = true := by rfl) : QA X (e :: es) (tAm K O (.bor :: as) (m :: ms)) := QA.imp (pa_cons ha.h hr.h (star_cons hs)) fun σ H Q hq__ => by
  obtain ⟨A, B, Γ, ds, r, em, k⟩ := hq__
  obtain ⟨d, e1, em⟩ := Res.bind_ok em
  obtain ⟨ds', e2, em⟩ := Res.bind_ok em
  cases em
  exact ⟨A, B, Γ, d, r, e1, fun v A1 H1 g1 p1 => ⟨A1, B, Γ, ds', r.grow g1, e2, fun vs A2 H2 g2 p2 => k (v :: vs) A2 H2 (g1.trans g2) ⟨d, ds', v, vs, rfl, rfl, Pk.mono g2.aa (Same.refl _) p1, p2.base g1.hh⟩⟩⟩
theorem am_var (i : Nat) {x : Str} (hr : QA X es (tAm K O as ms)) (hN : X.N[i]? = some x := by rfl) (hv : Vis X.env.scope x := by first | exact Or.inl rfl | exact Or.inr (Or.inl rfl) | exact Or.inr (Or.inr rfl)) (hd : (x == ("__debug__" : Str)) = false := by decide)
    (hcd : (x == ("__classdict__" : Str)) = false := by decide) : QA X (.Name x pos :: es) (tAm K O (.var i :: as) (eVar i :: ms)) := QA.imp (pa_cons (pe_var hN hv hd hcd) hr.h (star_cons rfl)) fun σ H Q hq__ => by
  obtain ⟨A, B, Γ, ds, r, em, k⟩ := hq__
  obtain ⟨d, e1, em⟩ := Res.bind_ok em
  obtain ⟨ds', e2, em⟩ := Res.bind_ok em
  cases em
  obtain ⟨v, e3, _⟩ := r.slot i d (eVar_ok e1)
  exact ⟨v, sv_get e3, A, B, Γ, ds', r, e2, fun vs A2 H2 g2 p2 => k (v :: vs) A2 H2 g2 ⟨d, ds', v, vs, rfl, rfl, ⟨e3, eVar_ok e1⟩, p2⟩⟩
end
noncomputable def spM (K : PySem.W.Frag) (fs : List Fl) (j : Nat) (f : List PyData → Res PyData) : Sp := fun vs H Q _ => ∃ A B ds d dm p o, Same A H ∧ Same B H ∧ vs.length = fs.length ∧ ds.length = fs.length ∧ vs[j]? = some (.ref p) ∧ H p = some o ∧ A p = none ∧ B p = none ∧
  (∀ e, ds[j]? = some e → OwnO K A e o) ∧ (∀ (i : Nat) e v, i ≠ j → ds[i]? = some e → vs[i]? = some v → ArgV K A B (fl fs i) e v) ∧ f ds = .ok (.tuple [d, dm]) ∧
  ∀ v A' H' o', Same A A' → Same A' H' → (∀ b u, b ≠ p → H b = some u → H' b = some u) → New A A' H → A' p = none → H' p = some o' → OwnO K A' dm o' → Rp K A' d v → Q v H'
noncomputable def kOk : MA → Fl → Bool
  | .imm, .imm => true
  | .imm, .bor => true
  | .bor, .bor => true
  | _, _ => false
theorem ArgQ.argV {K : PySem.W.Frag} {A B H0 H : Hp} {σ : L2.St} {Γ : Ev} {a : MA} {f : Fl} {d : PyData} {v : V} (h : ArgQ K A B σ Γ H0 H a d v) (hk : kOk a f = true) : ArgV K A B f d v := by
  cases a <;> cases f <;> first | exact h | exact .inl h | cases hk
noncomputable def oneD : PyData → Option (PyData × PyData)
  | .tuple [d, dm] => some (d, dm)
  | _ => none
noncomputable def tM (K : PySem.W.Frag) (O : List Fl) (i : Nat) (f : List PyData → Res PyData) (ms : List ME) : TE := fun σ H Q => ∃ A B Γ ds d dm, StRep K A B H O σ Γ ∧ evs ms Γ = .ok ds ∧ f ds = .ok (.tuple [d, dm]) ∧
  ∀ v A' H', StRep K A' B H' O σ (Γ.set i (some dm)) → Same A A' → New A A' B → Rp K A' d v → Q v H'
section
variable {X : Cx} {k : Nat} {x : Str} {ps : List Str} {fs : List Fl} {j : Nat} {f : List PyData → Res PyData} {O : List Fl} {as : List MA} {ms : List ME} {p pos : Pos} {e : Expr} {es : List Expr}
theorem qm_call (i : Nat) (F : Def X.prog X.w X.K X.mg X.base k x ps (spM X.K fs j f)) (hr : Room k X.A) (hg : Gl X x) (ha : QA X (e :: es) (tAm X.K O as ms)) (hj : as[j]? = some (.var i)) (hi : isO (fl O i) = true) (hlen : as.length = fs.length) (hfs : ∀ l, l < fs.length → l ≠ j → kOk (as.getD l .new) (fl fs l) = true)
    (hdb : (x == ("__debug__" : Str)) = false := by decide) (he : noStar e = true := by rfl) (hpl : noStars es = true := by rfl) : QE X (.Call (.Name x p) (e :: es) [] pos) (tM X.K O i f ms) :=
  QE.imp (pe_def F hr hg ha.h hdb (star_cons he) (star_any hpl)) fun σ H Q hq__ => by
    obtain ⟨A, B, Γ, ds, d, dm, r, e1, e2, k⟩ := hq__
    refine ⟨A, B, Γ, ds, r, e1, fun vs A1 H1 g1 p1 => ?_⟩
    show spM X.K fs j f (vs ++ []) H1 Q E0
    rw [List.append_nil]
    have hl := p1.len
    have r1 := r.grow g1
    have hjl : j < as.length := (List.getElem?_eq_some_iff.mp hj).1
    have hdj : ds[j]? = some ds[j] := List.getElem?_eq_getElem (by omega)
    have hvj : vs[j]? = some vs[j] := List.getElem?_eq_getElem (by omega)
    obtain ⟨hs, hg'⟩ : sv σ i = some vs[j] ∧ gv Γ i = some ds[j] := p1.get hj hdj hvj
    have hgn : gv Γ i ≠ none := by rw [hg']; simp
    obtain ⟨d', p', o, u1, u2, u3, u4, u5, u6⟩ := r1.own_at hi hgn
    rw [hs] at u2
    rw [hg'] at u1
    have u1 : ds[j] = d' := Option.some.inj u1
    have u2 : vs[j] = .ref p' := Option.some.inj u2
    refine ⟨A1, B, ds, d, dm, p', o, g1.ah, r1.b, by omega, by omega, by rw [hvj, u2], u3, u4, u5, fun z hz => ?_, fun l z v hlj hz hv => ?_, e2, fun v A2 H2 o2 s1 s2 s3 s4 s5 s6 s7 s8 => ?_⟩
    · rw [hdj] at hz
      rw [← Option.some.inj hz, u1]; exact u6
    · have hll : l < as.length := by have := (List.getElem?_eq_some_iff.mp hz).1; omega
      have ea : as[l]? = some (as.getD l .new) := by rw [List.getD_eq_getElem?_getD, List.getElem?_eq_getElem hll]; rfl
      exact (p1.get ea hz hv).argV (hfs l (by omega) hlj)
    · exact k v A2 H2 (r1.mutate hi hgn (by rw [hs, u2]) s1 s2 s3 s4 s5 s6 s7) (g1.aa.trans s1) ((g1.nB r.b).trans (s4.mono r1.b)) s8
end
noncomputable def sSetM (x i : Nat) (f : List PyData → Res PyData) (ms : List ME) : MS := fun Γ => (evs ms Γ).bind fun ds => (f ds).bind fun r => match oneD r with
  | some (d, dm) => gd (x < Γ.length) (.ok (.nx ((Γ.set i (some dm)).set x (some d))))
  | none => .bad
theorem oneD_eq {t : PyData} {d dm : PyData} (h : oneD t = some (d, dm)) : t = .tuple [d, dm] := by
  unfold oneD at h
  split at h
  · cases h; rfl
  · cases h
section
variable {X : Cx} {K : PySem.W.Frag} {rm : Rm} {Ol O O' : List Fl} {f : List PyData → Res PyData} {ms : List ME} {m : ME} {e : Expr} {pos : Pos}
theorem ss_setM (x i : Nat) {O2 : List Fl} {y : Str} {pos' : Pos} (hN : X.N.Nodup) (hi : X.N[x]? = some y) (hx : Loc X.env.scope y) (he : QE X e (tM K O i f ms)) (hl : x < O.length) (hs : swapsWith e (some (.Name y pos')) pos.line X.env = pure false := by rfl)
    (hf : X.fn y = true ∨ X.env.scope.names.lookup y = some .local := by first | exact .inl rfl | exact .inr rfl | assumption) (hO : O.set x .imm = O2 := by rfl) : QS X (.Assign [.Name y pos'] e pos) (tS K rm Ol O O2 (sSetM x i f ms)) :=
  hO ▸ QS.imp (ps_set hN hi hx he.h hs hf) fun D σ H hq__ => by
    obtain ⟨A, B, Γ, o, r, em, k⟩ := hq__
    obtain ⟨ds, e1, em⟩ := Res.bind_ok em
    obtain ⟨t, e2, em⟩ := Res.bind_ok em
    cases h : oneD t with
    | none => rw [h] at em; cases em
    | some q =>
      obtain ⟨d, dm⟩ := q
      rw [h] at em
      obtain ⟨hxl, em⟩ := gd_ok em
      cases em
      rw [oneD_eq h] at e2
      exact ⟨A, B, Γ, ds, d, dm, r, e1, e2, fun v A' H' r' sa nw p => k _ A' H' (r'.set (by rw [List.length_set]; exact hxl) hl p) sa nw⟩
noncomputable def sAppM (k i : Nat) (f : List PyData → Res PyData) (ms : List ME) : MS := fun Γ => (evs ms Γ).bind fun ds => (f ds).bind fun r => match oneD r, gv Γ k with
  | some (d, dm), some (.list es) => gd (es.length < sizeLine) (.ok (.nx ((Γ.set i (some dm)).set k (some (.list (es ++ [d]))))))
  | _, _ => .bad
theorem ss_appM (i j : Nat) {x : Str} {apos cpos p : Pos} (hij : j ≠ i) (he : QE X e (tM X.K O j f ms)) (hi : isO (fl O i) = true := by rfl) (hN : X.N[i]? = some x := by rfl) (hv : Vis X.env.scope x := by first | exact Or.inl rfl | exact Or.inr (Or.inl rfl) | exact Or.inr (Or.inr rfl)) (hd : (x == ("__debug__" : Str)) = false := by decide)
    (hcd : (x == ("__classdict__" : Str)) = false := by decide) (hbase : attributeBase (.Name x p) "append" X.env (eval (.Name x p) X.env) = eval (.Name x p) X.env := by rfl)
    (hfew : ((backTo cpos (starEach (e :: []) X.env)).all (fun x => !x.1) && (backToKw cpos (keywordEach [] X.env)).all (fun x => x.1.isSome)
      && decide ((e :: []).length + ([] : List Keyword).length + (if ([] : List Keyword).isEmpty then 0 else 1) < 30)) = true := by rfl)
    (hline : (apos.endLine == cpos.line) = true := by rfl) (hs : starEach (e :: []) X.env = (false, eval e X.env) :: starEach [] X.env := by rfl) (hplain : (backTo cpos (starEach [] X.env)).any (·.1) = false := by rfl)
    (hsw : swapsWith (.Call (.Attribute (.Name x p) "append" apos) [e] [] cpos) none pos.line X.env = pure false := by rfl) :
    QS X (.Expr (.Call (.Attribute (.Name x p) "append" apos) [e] [] cpos) pos) (tS X.K rm Ol O O (sAppM i j f ms)) := by
  refine QS.imp (ps_expr (pe_bm PySem.F.plainAttrs_list PySem.F.slot_list_append PySem.F.type_list_append mt_append (pe_var hN hv hd hcd) (pa_cons he.h pa_nil hs) hbase hfew hline hs hplain) hsw) fun D σ H hq__ => ?_
  obtain ⟨A, B, Γ, o, r, em, k⟩ := hq__
  obtain ⟨ds, e1, em⟩ := Res.bind_ok em
  obtain ⟨t, e2, em⟩ := Res.bind_ok em
  cases h : oneD t with
  | none => rw [h] at em; cases em
  | some q =>
    obtain ⟨d, dm⟩ := q
    rw [h] at em
    rw [oneD_eq h] at e2
    cases hg : gv Γ i with
    | none => rw [hg] at em; cases em
    | some dl =>
      rw [hg] at em
      cases dl with
      | list es =>
        obtain ⟨hc, em⟩ := gd_ok em
        cases em
        obtain ⟨q, vs, e3, h1, h4⟩ := own_list r hi hg
        have hgi : gv (Γ.set j (some dm)) i = some (.list es) := by
          have := hg
          unfold gv at this ⊢
          rw [getD_set_ne hij]; exact this
        refine ⟨.ref q, sv_get e3, .inl ⟨rfl, vs, SqL.of h1⟩, A, B, Γ, ds, d, dm, r, e1, e2, fun v A1 H1 r1 sa nw p1 => ?_⟩
        obtain ⟨q', vs', e4, h5, h6⟩ := own_list r1 hi hgi
        rw [e3] at e4
        cases e4
        refine ⟨q, vs', v, rfl, rfl, h5, by rw [← h6.length]; exact hc, ?_⟩
        exact k σ A1 _ (r1.change hi (gv_lt (by rw [hgi]; simp)) (by rw [hgi]; simp) e3 h5 (.inl ⟨_, _, rfl, rfl, h6.append (RpAll.one p1)⟩)) sa nw
      | _ => cases em
noncomputable def sRetM (j : Nat) (m : ME) : MS := fun Γ => (m Γ).bind fun d => match gv Γ j with
  | some dm => .ok (.rt (.tuple [d, dm]))
  | none => .bad
theorem ss_retM (j : Nat) {p : Addr} (hj : fl O j = .fix p) (he : QE X e (tE K O m)) : QS X (.Return (some e) pos) (tS K (.m p) Ol O O' (sRetM j m)) := QS.imp (ps_ret he.h) fun D σ H hq__ => by
  obtain ⟨A, B, Γ, o, r, em, k⟩ := hq__
  obtain ⟨d1, e1, em⟩ := Res.bind_ok em
  cases hg : gv Γ j with
  | none => rw [hg] at em; cases em
  | some dm =>
    rw [hg] at em
    cases em
    refine ⟨A, B, Γ, d1, r, e1, fun v A' H' g q => k v A' H' g.ah (r.b.trans g.hh) g.aa (g.nB r.b) ?_⟩
    obtain ⟨v', _, s⟩ := (r.grow g).slot j dm hg
    rw [hj] at s
    obtain ⟨rfl, p', o', e', h1, h2, _, h4⟩ := s
    cases e'
    exact ⟨d1, dm, o', rfl, q, h1, h2, h4⟩
theorem clrOk_refl {O : List Fl} {cl : List Nat} : clrOk O O cl = true := by
  unfold clrOk
  rw [Bool.and_eq_true]
  exact ⟨beq_self_eq_true _, List.all_eq_true.mpr fun j _ => by rw [decide_eq_true rfl]; rfl⟩
end
section
variable {P : Program} {w : World} {K : PySem.W.Frag} {mg : Str → Option Value} {base : Heap}
theorem start_repM {fs O : List Fl} {N : List Str} {A B H : Hp} {ds : List PyData} {vs : List V} {j : Nat} {p : Addr} {o : HO} (ha : Same A H) (hb : Same B H) (hv : vs.length = fs.length) (hd : ds.length = fs.length) (hj : vs[j]? = some (.ref p)) (hp : H p = some o) (ap : A p = none) (bp : B p = none)
    (hown : ∀ e, ds[j]? = some e → OwnO K A e o) (hargs : ∀ (i : Nat) e v, i ≠ j → ds[i]? = some e → vs[i]? = some v → ArgV K A B (fl fs i) e v) (hOj : fl O j = .fix p) (hO : ∀ i, i < fs.length → i ≠ j → (fl O i = .imm ∧ fl fs i = .imm) ∨ fl O i = .bor) (hn : fs.length ≤ N.length) :
    StRep K A (rem H p) H O (L2.start N vs) (ds.map some ++ List.replicate (N.length - ds.length) none) := by
  have gvN : ∀ i, gv (ds.map some ++ List.replicate (N.length - ds.length) none) i = ds[i]? := fun i => by
    unfold gv
    rw [List.getD_eq_getElem?_getD]
    rcases Nat.lt_or_ge i ds.length with h | h
    · rw [List.getElem?_append_left (by simpa using h), List.getElem?_map, List.getElem?_eq_getElem h]; rfl
    · rw [List.getElem?_append_right (by simpa using h), List.getElem?_replicate, List.getElem?_eq_none h]
      split <;> rfl
  have svN : ∀ i v, vs[i]? = some v → sv (L2.start N vs) i = some v := fun i v e => by
    unfold sv L2.start
    rw [List.getD_eq_getElem?_getD]
    have h : i < vs.length := (List.getElem?_eq_some_iff.mp e).1
    rw [List.getElem?_append_left (by simpa using h), List.getElem?_map, e]; rfl
  have isj : ∀ i, i < fs.length → isO (fl O i) = true → i = j := fun i hi h => by
    rcases Classical.em (i = j) with z | z
    · exact z
    · rcases hO i hi z with ⟨q, _⟩ | q <;> rw [q] at h <;> cases h
  refine ⟨ha, rem_sub, ?_, fun i d e => ?_, fun i l hil h1 h2 h3 h4 => ?_⟩
  · unfold L2.start
    rw [List.length_append, List.length_append, List.length_map, List.length_map, List.length_replicate, List.length_replicate]
    omega
  · rw [gvN] at e
    have hi : i < fs.length := by rw [← hd]; exact (List.getElem?_eq_some_iff.mp e).1
    by_cases z : i = j
    · subst z
      exact ⟨_, svN i _ hj, by rw [hOj]; exact ⟨rfl, p, o, rfl, hp, ap, rem_same, hown d e⟩⟩
    · have ev : vs[i]? = some vs[i] := List.getElem?_eq_getElem (by omega)
      refine ⟨_, svN i _ ev, ?_⟩
      have q := hargs i d _ z e ev
      rcases hO i hi z with ⟨z1, z2⟩ | z1
      · rw [z1]; rw [z2] at q; exact q
      · rw [z1]
        cases hf : fl fs i with
        | imm => rw [hf] at q; exact .inl q
        | bor => rw [hf] at q; exact Pk.mono (Same.refl _) (same_rem hb bp) q
        | own => rw [hf] at q; exact Pk.mono (Same.refl _) (same_rem hb bp) q
        | fix p0 => rw [hf] at q; exact Pk.mono (Same.refl _) (same_rem hb bp) q
        | exc C => rw [hf] at q; exact Pk.mono (Same.refl _) (same_rem hb bp) q
        | nst b => rw [hf] at q; exact Pk.mono (Same.refl _) (same_rem hb bp) q
  · rw [gvN] at h3 h4
    have hi : i < fs.length := by
      rw [← hd]
      rcases Nat.lt_or_ge i ds.length with h | h
      · exact h
      · exact absurd (List.getElem?_eq_none h) h3
    have hl : l < fs.length := by
      rw [← hd]
      rcases Nat.lt_or_ge l ds.length with h | h
      · exact h
      · exact absurd (List.getElem?_eq_none h) h4
    exact absurd ((isj i hi h1).trans (isj l hl h2).symm) hil
theorem def_okM {x : Str} {st : Stmt} {N ps : List Str} {k : Nat} {fs Ol : List Fl} {O O' : Addr → List Fl} {j : Nat} {m : MS} (F : At K mg x st ps) (S : FnScope N ps (defScope st)) (hf : fs.length = ps.length) (hn : ps.length ≤ N.length)
    (hOj : ∀ p, fl (O p) j = .fix p) (hO : ∀ p i, i < fs.length → i ≠ j → (fl (O p) i = .imm ∧ fl fs i = .imm) ∨ fl (O p) i = .bor)
    (hbody : ∀ (p : Addr) (f : Addr) (cdv : Value) (A : Around) (outer : List Env) (s : Shared) (H : Hp) (E : XK), Room k (A.deeper (envOfC x (defScope st) s.heap.objs.size f cdv)) →
      QSs (cxOf CX0 P w K mg base N x (defScope st) f cdv A outer s H E).nox (defBody st) (tS K (.m p) Ol (O p) (O' p) m)) : Def P w K mg base (k + 1) x ps (spM K fs j (fnR N.length m)) := by
  refine F.ok S (fun vs H Q E h => ?_) (fun f cdv A outer s H vs Q E hr h => ?_)
  · obtain ⟨_, _, _, _, _, _, _, _, _, h, _⟩ := h
    rw [h, hf]
  · obtain ⟨A', B, ds, d, dm, p, o, ha, hb, hv, hd, hj, hp, ap, bp, hown, hargs, em, q⟩ := h
    obtain ⟨out, e1, em⟩ := Res.bind_ok em
    cases out with
    | rt d' =>
      cases em
      refine ⟨_, (hbody p f cdv A outer s H E hr).h, A', rem H p, _, _, start_repM ha hb hv hd hj hp ap bp hown hargs (hOj p) (hO p) (by omega), e1, fun v A2 H2 s1 s2 sa nw rv => ?_⟩
      obtain ⟨d1, dm1, o1, ed, r1, r2, r3, r4⟩ := rv
      cases ed
      refine q v A2 H2 o1 sa s1 (fun b u hbp hu => s2 b u (by rw [rem_ne hbp]; exact hu)) (fun b q1 q2 => ?_) r3 r2 r4 r1
      by_cases z : b = p
      · subst z; exact r3
      · exact nw b q1 (by rw [rem_ne z]; exact q2)
    | _ => cases em
theorem def_badM {x : Str} {st : Stmt} {N ps : List Str} {k : Nat} {fs : List Fl} {j : Nat} (F : At K mg x st ps) (S : FnScope N ps (defScope st)) : Def P w K mg base (k + 1) x ps (spM K fs j (fun _ => .bad)) := by
  refine F.ok S (fun vs H Q E h => ?_) (fun f cdv A outer s H vs Q E hr h => ?_)
  · obtain ⟨_, _, _, _, _, _, _, _, _, _, _, _, _, _, _, _, _, em, _⟩ := h
    cases em
  · obtain ⟨_, _, _, _, _, _, _, _, _, _, _, _, _, _, _, _, _, em, _⟩ := h
    cases em
end
end L3
namespace L3
open PySem PySem.Spec PyProof.Rows L2
section
variable {K : PySem.W.Frag} {A B H : Hp} {O : List Fl} {σ : L2.St} {Γ : Ev}
end
section
variable {K : PySem.W.Frag} {O Ob O1 : List Fl} {tn : List Str} {ix is : List Nat} {it : MI} {g : MG} {f : List PyData → Res PyData} {ms : List ME}
end
section
variable {X : Cx} {O Ob O1 Ol O' : List Fl} {scope : Scope} {is : List Nat} {it : MI} {g : MG} {m1 : ME} {f : List PyData → Res PyData} {ms : List ME} {e1 elt tg iter : Expr} {nt : Nat}
end
end L3
namespace L3
open PySem PySem.Spec PyProof.Rows L2
abbrev mroVE : List Value := [.type "ValueError", .type "Exception", .type "BaseException", .type "object"]
noncomputable abbrev ExcC (K : PySem.W.Frag) (C : Addr) : Prop := PySem.W.excIn K C mroVE "ValueError.__new__" = true
theorem exc_obj {K : PySem.W.Frag} {h : Heap} {C : Addr} (X : K.In h) (q : ExcC K C) : ∃ bm N nm qn bs hdct sn sub ab col dd k0 k1 k2 k3 k5 mN,
    h.get? C = some (excClassObj nm qn C N bs bm hdct sn sub ab col dd k0 k1 k2 k3 k5 "ValueError.__new__") ∧ h.Ns N mN ∧ mN "__init__" = none ∧ OwnTail h mroVE bm := by
  have q : PySem.W.excIn K C mroVE "ValueError.__new__" = true := q
  unfold PySem.W.excIn at q
  cases e : K.lookup C with
  | none => rw [e] at q; cases q
  | some ob =>
    rw [e] at q
    split at q
    · rename_i heq
      cases heq
      rename_i dd cd sl
      split at q
      · rename_i C' bm k0 k1 k2 k3 n k5 hm hs
        simp only [Bool.and_eq_true, beq_iff_eq, Bool.not_eq_true'] at q
        obtain ⟨⟨⟨⟨⟨q1, q2⟩, q3⟩, q4⟩, q5⟩, q6⟩ := q
        subst q1 q2
        obtain ⟨nm, bs, mro, nsA, qn, hd, sn, sub, ab, col, del⟩ := cd
        have hm : mro = .ref C' :: bm := hm
        have q3 : del = false := q3
        subst hm q3
        obtain ⟨l⟩ := sl
        have hs : l = [k0, k1, k2, k3, some (.builtin "ValueError.__new__"), k5] := hs
        subst hs
        exact ⟨bm, nsA, nm, qn, bs, hd, sn, sub, ab, col, dd, k0, k1, k2, k3, k5, _, X _ _ e, .of_isNs (PySem.W.isNs_of_in X q5), PySem.W.nsMap_none_of_in X q5 q6, PySem.W.tail_of_in X q4⟩
      · cases q
    · cases q
noncomputable def RaiseTo (X : Cx) (C : Addr) (XE : Hp → Prop) : Prop := ∀ (pins : List (Addr × Obj)) (σ : L2.St) (H : Hp) (s : Shared) (h' : Heap) (e : Addr) (vs : List Value), L2.Inv X pins σ H s → Heap.MadeExcOf s.heap h' e (.ref C) vs → XE H → X.xe (.ref e) { s with heap := h' }
section
variable {X : Cx}
theorem ps_raise {x : Str} {C : Addr} {e : Expr} {te : TE} {np cpos pos : Pos} {XE : Hp → Prop} (hc : X.calm = true) (hg : Gl X x) (hm : X.mg x = some (.ref C)) (hC : ExcC X.K C) (he : PE X e te) (hx : RaiseTo X C XE)
    (hs : starEach (e :: []) X.env = (false, eval e X.env) :: starEach [] X.env) (hd : (x == ("__debug__" : Str)) = false := by decide) :
    PS X (.Raise (some (.Call (.Name x np) [e] [] cpos)) none pos) (fun D σ H => te σ H fun v H1 => XE H1 ∧ [v].length = 1) := by
  intro pins s σ H D I h
  obtain ⟨bm, N, nm, qn, bs, hdct, sn, sub, ab, col, dd, k0, k1, k2, k3, k5, mN, h1, h2, h3, h4⟩ := exc_obj I.ok.mod.kin hC
  refine wpAny_Raise_call_subT (C := C) (nm := nm) (q := qn) (N := N) (bs := bs) (bm := bm) (hdct := hdct) (sn := sn) (sub := sub) (ab := ab) (col := col) (dd := dd) (k0 := k0) (k1 := k1) (k2 := k2) (k3 := k3) (k5 := k5) PySem.F.excBase_ValueError (mN := mN) (h4.hasType (by decide +kernel)) (I.ok.hd hc) (by rw [hs]; rfl) h3 (ld_glob I hg hm ⟨rfl, ?_⟩ hd)
  have hp := pa_cons he pa_nil hs cpos pins s σ H (fun vs H2 => XE H2 ∧ vs.length = 1) I h
  rw [hs] at hp ⊢
  refine Calls.evalArgs_plain (thn hp fun us s2 z => ?_)
  obtain ⟨vs, H2, I2, r, q, hl⟩ := z
  refine ⟨rfl, by rw [← r.length, hl]; decide, I2.bk _ _ h1, h2.keeps I2.bk, h4.keeps I2.bk, fun h' ea hm' => hx pins σ H2 s2 h' ea us I2 hm' q⟩
end
noncomputable def CXE (P : Program) (w : World) : CXT := fun outer H s E e s' => ∃ (ea t C : Addr) (B : Heap) (H' : Hp), e = .ref ea ∧ s'.os = s.os ∧ AllBare s'.gens ∧ Heap.FlyingW B outer ea (.ref C) (.ref t) s'.heap ∧
  (∀ b o, s.heap.get? b = some o → b ∉ frs outer → H b = none → B.get? b = some o) ∧ HOk P w H' B ∧ Un (frs outer) [] H H' s.heap s'.heap ∧ E (.ref C) none H'
theorem notFields_of_frame {base h : Heap} {l : List Env} (F : h.FunFrames base l) {b : Addr} (hb : b ∈ frs l) : ∃ o, h.get? b = some o ∧ ∀ vs, o.data ≠ .fields vs := (F.mem hb).2
theorem raise_cxOf {P : Program} {w : World} {K : PySem.W.Frag} {mg : Str → Option Value} {base : Heap} {N : List Str} {qual : Str} {scope : Scope} {f : Addr} {cd : Value} {A : Around} {outer : List Env} {s : Shared} {H : Hp} {E : XK} {C : Addr} :
    RaiseTo (cxOf (CXE P w) P w K mg base N qual scope f cd A outer s H E) C (fun H1 => E (.ref C) none H1) := by
  intro pins σ H1 s2 h' e vs I hm hE
  have hstk : s2.heap.FunFrames base (envOfC qual scope s.heap.objs.size f cd :: outer) := I.stack
  have hfree : ∀ b ∈ frs (envOfC qual scope s.heap.objs.size f cd :: outer), H1 b = none := I.stkFree
  have hbase : Un (frs outer) [] H H1 s.heap s2.heap := I.base
  have hloc : s.heap.objs.size ≤ (envOfC qual scope s.heap.objs.size f cd).locals := I.ok.above
  have hin : ∀ b, b ∈ frs (envOfC qual scope s.heap.objs.size f cd :: outer) → b = s.heap.objs.size ∨ b ∈ frs outer := fun b hb => by
    have hb : b ∈ (envOfC qual scope s.heap.objs.size f cd :: outer).filterMap (·.frame) := hb
    obtain ⟨en, he, hf⟩ := List.mem_filterMap.mp hb
    rcases List.mem_cons.mp he with rfl | he
    · left; exact (Option.some.inj hf).symm
    · right; exact List.mem_filterMap.mpr ⟨en, he, hf⟩
  let B := PySem.W.hideAll s2.heap (frs (envOfC qual scope s.heap.objs.size f cd :: outer))
  have hB : ∀ b o, s2.heap.get? b = some o → b ∉ frs (envOfC qual scope s.heap.objs.size f cd :: outer) → B.get? b = some o := fun b o e n => PySem.W.hideAll_get _ e n
  have old : ∀ b o, s.heap.get? b = some o → b ∉ frs outer → b ∉ frs (envOfC qual scope s.heap.objs.size f cd :: outer) := fun b o e n z => by
    rcases hin b z with q | q
    · subst q; exact absurd (Heap.lt_size e) (Nat.lt_irrefl _)
    · exact n q
  show wpAny (model P w) _ (leaving (envOfC qual scope s.heap.objs.size f cd) (.ref e)) _ _ _
  refine wpAny_leaves_madeW (base := B) (h := s2.heap) (L := s.heap.objs.size) (cls := .ref C) I.ok.frames rfl (fun b o q => PySem.W.of_hideAll _ q) (PySem.W.funFrames_hide hstk fun en he a ha => List.mem_filterMap.mpr ⟨en, he, ha⟩) hm fun h'' t x1 x2 x3 x4 => ?_
  have toB : HOk P w H1 B := fun a o ea => ((I.hok a o ea).stay (H' := H1) (h' := B) (fun b u hb hu => hB b u hu fun z => by
      have := hfree b z
      rcases hb with rfl | hb
      · rw [ea] at this; cases this
      · rw [hb] at this; cases this) (fun _ q => q) fun _ _ q => q)
  refine ⟨e, t, C, B, H1, rfl, I.os, I.bare, x1, fun b o eb n hn => hB b o (hbase.keep b o eb hn n (by simp)) (old b o eb n), toB, ⟨fun b o eb hn n _ => x1.1 _ _ (hB b o (hbase.keep b o eb hn n (by simp)) (old b o eb n)), fun b o eb hn hb _ => ?_, fun b o eb hn _ => hbase.free b o eb hn (by simp), fun b o eb _ => ?_, hbase.tups, hbase.frzs, hbase.tbls⟩, hE⟩
  · obtain ⟨sl, q⟩ := hbase.slot b o eb hn hb (by simp)
    have hbs : b ∈ frs (envOfC qual scope s.heap.objs.size f cd :: outer) := by
      obtain ⟨en, he, hf⟩ := List.mem_filterMap.mp (show b ∈ outer.filterMap (·.frame) from hb)
      exact List.mem_filterMap.mpr ⟨en, List.mem_cons_of_mem _ he, hf⟩
    obtain ⟨o', ho', hd⟩ := notFields_of_frame hstk hbs
    rw [q] at ho'
    cases ho'
    obtain ⟨sl', q'⟩ := x4 b _ (hm.keeps b _ q) hd
    exact ⟨sl', q'⟩
  · obtain ⟨o', q⟩ := hbase.there b o eb (by simp)
    by_cases hb : b ∈ frs (envOfC qual scope s.heap.objs.size f cd :: outer)
    · obtain ⟨o2, ho2, hd⟩ := notFields_of_frame hstk hb
      obtain ⟨sl', q'⟩ := x4 b _ (hm.keeps b _ ho2) hd
      exact ⟨_, q'⟩
    · exact ⟨o', x1.1 _ _ (hB b o' q hb)⟩
noncomputable abbrev MZ := Ev → Res Str
noncomputable def zNo : MZ := fun _ => .bad
noncomputable def zRaise (c : Str) : MZ := fun _ => .ok c
noncomputable def zSeq (m1 : MS) (z1 z2 : MZ) : MZ := fun Γ => match m1 Γ with
  | .ok (.nx Γ') => z2 Γ'
  | _ => z1 Γ
noncomputable def zIf (c : ME) (z1 z2 : MZ) : MZ := fun Γ => (c Γ).bind fun x => match x with
  | .bool true => z1 Γ
  | .bool false => z2 Γ
  | _ => .bad
noncomputable def tZ (K : PySem.W.Frag) (O : List Fl) (XE : Str → Hp → Prop) (z : MZ) : TS := fun D σ H => ∃ A B Γ c, StRep K A B H O σ Γ ∧ z Γ = .ok c ∧ ∀ A' H', Same A' H' → Same B H' → Same A A' → New A A' B → XE c H'
section
variable {X : Cx} {K : PySem.W.Frag} {rm : Rm} {Ol O O1 O2 : List Fl} {XE : Str → Hp → Prop} {m1 : MS} {m : ME} {z z1 z2 : MZ} {c : Expr} {st : Stmt} {rest a b : List Stmt} {pos : Pos}
theorem szs_no : QSs X rest (tZ K O XE zNo) := QSs.imp pss_never fun D σ H hq__ => by obtain ⟨A, B, Γ, c, r, em, k⟩ := hq__; cases em
theorem sz_raise {x msg : Str} {j} {C : Addr} {np p2 cpos pos : Pos} (hc : X.calm = true) (hg : Gl X x) (hm : X.mg x = some (.ref C)) (hC : ExcC X.K C) (hx : RaiseTo X C (XE x)) (hd : (x == ("__debug__" : Str)) = false := by decide) :
    QS X (.Raise (some (.Call (.Name x np) [.Constant (.str msg) j p2] [] cpos)) none pos) (tZ K O XE (zRaise x)) := QS.imp (ps_raise hc hg hm hC pe_str hx rfl hd) fun D σ H hq__ => by
  obtain ⟨A, B, Γ, c, r, em, k⟩ := hq__
  cases em
  exact ⟨k A H r.a r.b (Same.refl _) fun _ h _ => h, rfl⟩
theorem sz_cons (h1 : QS X st (tS K rm Ol O O1 m1)) (h1z : QS X st (tZ K O XE z1)) (h2z : QSs X rest (tZ K O1 XE z2)) : QSs X (st :: rest) (tZ K O XE (zSeq m1 z1 z2)) := by
  refine ⟨fun pins s σ H D I h => ?_⟩
  obtain ⟨A, B, Γ, c, r, em, k⟩ := h
  have em : (match m1 Γ with | .ok (.nx Γ') => z2 Γ' | _ => z1 Γ) = .ok c := em
  by_cases hq : ∃ Γ', m1 Γ = .ok (.nx Γ')
  · obtain ⟨Γ', hq⟩ := hq
    rw [hq] at em
    exact pss_cons h1.h h2z.h pins s σ H D I ⟨A, B, Γ, _, r, hq, fun σ' A' H' r' sa nw => ⟨A', B, Γ', c, r', em, fun A2 H2 q1 q2 q3 q4 => k A2 H2 q1 q2 (sa.trans q3) (nw.trans q4)⟩⟩
  · have em : z1 Γ = .ok c := by
      revert em
      split
      · rename_i Γ' e; exact absurd ⟨Γ', e⟩ hq
      · exact id
    exact pss_cons h1z.h (pss_never (X := X)) pins s σ H D I ⟨A, B, Γ, c, r, em, k⟩
theorem sz_if (hc : QT X c (tT K O m)) (ha : QSs X a (tZ K O XE z1)) (hb : QSs X b (tZ K O XE z2)) : QS X (.If c a b pos) (tZ K O XE (zIf m z1 z2)) := QS.imp (ps_if hc.h ha.h hb.h) fun D σ H hq__ => by
  obtain ⟨A, B, Γ, c, r, em, k⟩ := hq__
  obtain ⟨d1, e1, em⟩ := Res.bind_ok em
  cases d1 with
  | bool bb =>
    refine ⟨A, B, Γ, bb, r, e1, fun A1 H1 g1 => ?_⟩
    cases bb with
    | true => exact iteT ⟨A1, B, Γ, c, r.grow g1, em, fun A2 H2 q1 q2 q3 q4 => k A2 H2 q1 q2 (g1.aa.trans q3) ((g1.nB r.b).trans q4)⟩
    | false => exact iteF ⟨A1, B, Γ, c, r.grow g1, em, fun A2 H2 q1 q2 q3 q4 => k A2 H2 q1 q2 (g1.aa.trans q3) ((g1.nB r.b).trans q4)⟩
  | _ => cases em
end
noncomputable def spZ (K : PySem.W.Frag) (fs : List Fl) (cl : Str → Addr) (zf : List PyData → Res Str) : Sp := fun vs H _ E => ∃ A ds c, Same A H ∧ ArgsOk K A H fs ds vs ∧ zf ds = .ok c ∧ ∀ A' H', Grow A H A' H' → E (.ref (cl c)) none H'
noncomputable def fnZ (n : Nat) (z : MZ) (ds : List PyData) : Res Str := z (ds.map some ++ List.replicate (n - ds.length) none)
structure DefX (P : Program) (w : World) (K : PySem.W.Frag) (mg : Str → Option Value) (base : Heap) (k : Nat) (x : Str) (ps : List Str) (sp : Sp) : Prop where
  ex : ∃ f fd, FnOk P w K mg base (CXE P w) k f fd ps sp ∧ Binds K fd ps [] ∧ PySem.W.keepIn K (.ref f) = true ∧ mg x = some (.ref f)
section
variable {P : Program} {w : World} {K : PySem.W.Frag} {mg : Str → Option Value} {base : Heap}
theorem def_okZ {x : Str} {st : Stmt} {N ps : List Str} {k : Nat} {fs O : List Fl} {cl : Str → Addr} {z : MZ} (F : At K mg x st ps) (S : FnScope N ps (defScope st)) (hf : fs.length = ps.length) (hn : ps.length ≤ N.length)
    (hO : ∀ i, i < fs.length → (fl O i = .imm ∧ fl fs i = .imm) ∨ fl O i = .bor)
    (hbody : ∀ (f : Addr) (cdv : Value) (A : Around) (outer : List Env) (s : Shared) (H : Hp) (E : XK), Room k (A.deeper (envOfC x (defScope st) s.heap.objs.size f cdv)) →
      QSs (cxOf (CXE P w) P w K mg base N x (defScope st) f cdv A outer s H E) (defBody st) (tZ K O (fun c H1 => E (.ref (cl c)) none H1) z)) : DefX P w K mg base (k + 1) x ps (spZ K fs cl (fnZ N.length z)) := by
  obtain ⟨f, fd, F, b, m⟩ := F.ex
  obtain ⟨oc, od, kV, doc, pm, an, cdv, ct, osl, rfl, lk, hcd⟩ := F.ex
  refine ⟨f, _, fn_of lk hcd S (fun vs H Q E h => ?_) (fun A outer s H vs Q E hr h => ?_), b, F.kp, m⟩
  · obtain ⟨A, ds, c, _, h, _⟩ := h
    rw [h.length.1, hf]
  · obtain ⟨A', ds, c, ha, h, em, q⟩ := h
    exact ⟨_, (hbody f cdv A outer s H E hr).h, A', H, _, c, start_rep ha h hO (by omega), em, fun A2 H2 q1 q2 q3 q4 => q A2 H2 ⟨q3, q2, q1, q4⟩⟩
end
end L3
namespace L3
open PySem PySem.Spec PyProof.Rows L2
theorem hok_there {P : Program} {w : World} {H : Hp} {h : Heap} {a : Addr} {o : HO} (ok : HOk P w H h) (e : H a = some o) : ∃ u, h.get? a = some u := by
  have x := ok a o e
  cases o with
  | lst xs => obtain ⟨_, _, _, _, e⟩ := x; exact ⟨_, e⟩
  | tup xs => obtain ⟨_, _, _, p⟩ := x; obtain ⟨o, e, _⟩ := p; exact ⟨_, e⟩
  | dK kvs => obtain ⟨_, _, _, _, o, _, _, e, _⟩ := x; exact ⟨_, e⟩
  | dT kvs => obtain ⟨_, _, _, _, o, _, _, e, _⟩ := x; exact ⟨_, e⟩
  | set S n => obtain ⟨o, _, _, _, e, _⟩ := x; exact ⟨_, e⟩
  | ins C dx fs => obtain ⟨_, _, _, e, _⟩ := x; exact ⟨_, e⟩
  | own y => obtain ⟨_, e⟩ := x; exact ⟨_, e⟩
  | xd fs => obtain ⟨_, ⟨_, _, _, e, _⟩, _⟩ := x; exact ⟨_, e⟩
  | rng lo hi => obtain ⟨_, _, _, e⟩ := x; exact ⟨_, e⟩
  | frz ob u => obtain ⟨e, _⟩ := x; exact ⟨_, e⟩
  | tbl ps => exact ⟨_, (show h.get? a = some _ from x)⟩
  | met f y => exact ⟨_, (show h.get? a = some _ from x)⟩
  | ext φ => obtain ⟨_, ⟨_, e⟩, _⟩ := x; exact ⟨_, e⟩
section
variable {X : Cx} {pins : List (Addr × Obj)} {σ : L2.St} {H : Hp} {s : Shared} {O : List Fl} {Γ : Ev} {A B : Hp}
theorem callX {k : Nat} {f : Str} {ps : List Str} {fs : List Fl} {cl : Str → Addr} {zf : List PyData → Res Str} {ms : List ME} {p pos : Pos} {e : Expr} {es : List Expr} {ds : List PyData} {c : Str} {Ex : Value → Shared → Prop}
    (I : L2.Inv X pins σ H s) (F : DefX X.prog X.w X.K X.mg X.base k f ps (spZ X.K fs cl zf)) (hr : Room k X.A) (hg : Gl X f) (ha : QA X (e :: es) (tAr X.K O fs ms)) (hnx : ∀ er s', ¬ X.xe er s') (r : StRep X.K A B H O σ Γ) (e1 : evs ms Γ = .ok ds) (ez : zf ds = .ok c)
    (k : ∀ er s' s1 H1 A1, L2.Inv X pins σ H1 s1 → Grow A H A1 H1 → CXE X.prog X.w X.stack H1 s1 (fun cv _ H' => cv = .ref (cl c) ∧ ∃ A', Grow A1 H1 A' H') er s' → Ex er s')
    (hdb : (f == ("__debug__" : Str)) = false := by decide) (he : noStar e = true := by rfl) (hpl : noStars es = true := by rfl) :
    wpAny (model X.prog X.w) X.A (eval (.Call (.Name f p) (e :: es) [] pos) X.env) (fun _ _ => False) Ex s := by
  obtain ⟨fa, fd, F, hb, kp, hm⟩ := F.ex
  refine wpAny_Call_Name_kw (ld_glob I hg hm ?_ hdb)
  refine PySem.W.callWith_K (h₀ := X.base) I.ok.mod.kin kp (wpAny_mono (ha.h pos pins s σ H (fun vs H1 => ∃ A1, Grow A H A1 H1 ∧ ArgsOk X.K A1 H1 fs ds vs) I ⟨A, B, Γ, ds, r, e1, fun vs A1 H1 g p => ⟨A1, g, p⟩⟩) (fun us s1 z => ?_) fun er s' z => absurd z (hnx er s')) (star_cons he) (star_any hpl)
  obtain ⟨vs, H1, I1, rv, A1, g1, p1⟩ := z
  refine ⟨I1.kIn, ?_⟩
  have hl : us.length = ps.length := by
    rw [← rv.length]
    exact F.len vs H1 (fun _ _ => False) (fun _ _ _ => True) ⟨A1, ds, c, g1.ah, p1, ez, fun _ _ _ => trivial⟩
  refine wpAny_call (codeAny_mono (F.run X.A X.stack s1 H1 ⟨us, []⟩ us vs (fun _ _ => False) (fun cv _ H' => cv = .ref (cl c) ∧ ∃ A', Grow A1 H1 A' H') hr I1.env0 (by have := hb s1 us I1.kIn (by rw [List.append_nil]; exact hl); rw [List.append_nil] at this; exact this) rv ⟨A1, ds, c, g1.ah, p1, ez, fun A' H' g => ⟨rfl, A', g⟩⟩) fun rr s' hq => ?_)
  cases rr with
  | error er => exact k er s' s1 H1 A1 I1 g1 hq
  | ok fl =>
    cases fl with
    | ret u => obtain ⟨v, H', _, _, _, _, _, q⟩ := hq; exact q.elim
    | next => exact hq.elim
    | brk => exact hq.elim
    | cont => exact hq.elim
end
section
variable {M : Model} {A : Around} {E : Value → Shared → Prop} {K : PySem.W.Frag}
theorem looks_isType {h : Heap} {Ci : Addr} (X : K.In h) (e : (PySem.W.clsIn K Ci).isSome = true) : PySem.W.Looks M h (isType (.ref Ci)) true := by
  unfold PySem.W.clsIn at e
  split at e
  · rename_i c' d' cd' sl' ho
    intro A' Q' E' s' k q
    unfold isType loadHead
    exact wpAny_bind (wpAny_loadPart (k _ _ (X _ _ ho)) (wpAny_pure q))
  · cases e
theorem looks_typeE {h : Heap} {ea C : Addr} {ob : Obj} (he : h.get? ea = some ob) (hcl : ob.cls = .ref C) : PySem.W.Looks M h (typeOf (Value.ref ea)) (.ref C) := by
  intro A' Q' E' s' k q
  unfold typeOf
  exact wpAny_bind (wpAny_loadPart (k _ _ he) (wpAny_pure (by rw [hcl]; exact q)))
end
section
variable {X : Cx} {pins : List (Addr × Obj)} {σ : L2.St} {H : Hp} {s : Shared} {ea : Addr} {ob : Obj}
end
end L3
namespace L3
open PySem PySem.Spec PyProof.Rows L2
section
variable {X : Cx} {pins : List (Addr × Obj)} {σ : L2.St} {H : Hp} {s : Shared}
end
section
variable {X : Cx} {pins : List (Addr × Obj)} {σ : L2.St} {H : Hp} {s : Shared}
end
section
variable {X : Cx} {ea C : Addr} {ob : Obj}
end
section
variable {X : Cx} {k : Nat} {fn : Str} {ps : List Str} {fs : List Fl} {f : List PyData → Res PyData} {zf : List PyData → Res Str} {O Ol : List Fl} {rm : Rm} {ms : List ME} {pf pc pos px pa : Pos} {e : Expr} {es : List Expr}
end
end L3
namespace L3
open PySem PySem.Spec PyProof.Rows L2
end L3
namespace L3
open PySem PySem.Spec PyProof.Rows L2
end L3
namespace L3
open PySem PySem.Spec PyProof.Rows L2
end L3
namespace L2
open PySem PySem.Spec PyProof.Rows
open Builtin Builtin.Str
section
variable {prog : Program} {w : World} {A : Around} {E : Value → Shared → Prop} {s : Shared}
end
section
variable {X : Cx} {tg : Expr}
end
end L2
namespace L3
open PySem PySem.Spec PyProof.Rows L2
section
variable {X : Cx} {O : List Fl} {m m' : ME} {e a b tg : Expr} {pos p : Pos}
end
section
variable {X : Cx} {rm : Rm} {Ol O O' : List Fl} {is : List Nat} {g : MG} {tg : Expr} {p apos cpos pos : Pos}
end
end L3
namespace L2
open PySem PySem.Spec PyProof.Rows
end L2
namespace L3
open PySem PySem.Spec PyProof.Rows L2
section
variable {X : Cx} {k : Nat} {x : Str} {ps : List Str} {fs : List Fl} {f : List PyData → Res PyData} {O : List Fl} {ms : List ME} {p pos : Pos} {e : Expr} {es : List Expr}
end
section
variable {X : Cx} {K : PySem.W.Frag} {rm : Rm} {Ol O O' : List Fl} {m1 m2 : MS} {sts : List Stmt}
end
end L3
namespace L2
open PySem PySem.Spec PyProof.Rows
noncomputable def ItrS (lo c : Int) (n : Nat) : It := ⟨fun i _ => i < n, fun i H x H' => H' = H ∧ x = .int (lo + i * c), fun i _ => n ≤ i⟩
theorem turn_rangeS {P : Program} {w : World} {K : PySem.W.Frag} {tg : Expr} (it : Addr) (lo c : Int) (n : Nat) : Turn P w K tg (ItrS lo c n) [it] it (fun i h => IsRangeIter h it (lo + (i : Nat) * c) ((n : Int) - (i : Nat)) c) where
  mem := by simp
  obj := fun i h st b hb => by
    have e : b = it := by simpa using hb
    subst e
    exact ⟨_, st, fun v z => by
      have z' : Data.fields _ = Data.cell v := z
      cases z'⟩
  keep := fun i h h' st k => k it (by simp) _ st
  item := by
    intro X hP hw hK hc i pins s σ H E I hf st hg
    subst hP hw hK
    obtain ⟨f0, f1, f2, f3, f4, f5⟩ := hf it (by simp)
    have W := Walks.range (prog := X.prog) (w := X.w) (I.ok.hd hc) it lo c n
    refine W.item i s _ _ hg st fun v h' tk hv st' kk => ?_
    obtain ⟨t, rfl⟩ := hv
    have I1 : Inv X pins σ H { s with heap := h', toks := tk } := I.turned (fun b o hb e => kk b o (by simpa using hb) e) f0 f1 f3 f4 f5
    refine ⟨_, rfl, go_of (s := { s with heap := h', toks := tk }) (n := "range_iterator") st' rfl rfl (by decide) ⟨.int (lo + i * c), H, I1, ⟨t, rfl⟩, ⟨rfl, rfl⟩, st', fun b hb => (hf b hb).1⟩⟩
  done := by
    intro X hP hw hK hc i pins s σ H E I hf st hg
    subst hP hw hK
    obtain ⟨f0, f1, f2, f3, f4, f5⟩ := hf it (by simp)
    exact wpAny_pyNext_range_end (I.ok.hd hc) st (by have : n ≤ i := hg; omega) fun h' eb => ⟨rfl, I.turned (t' := s.toks) (fun b o hb e => eb b o hb e) f0 f1 f3 f4 f5⟩
  self := fun _ _ _ _ _ st h => wpAny_pyIter_rangeiter st h
section
variable {X : Cx} {tg : Expr}
theorem range_itS {pins : List (Addr × Obj)} {σ : St} {H : Hp} {s : Shared} {R : It → Hp → Prop} {E : Value → Shared → Prop} {lo hi c : Int} {t u v : Tok} {tk : Nat} (I : Inv X pins σ H s) (hs : Builtin.Range.small lo hi c = true) (h0 : 0 ≤ Builtin.Range.rangeSize lo hi c)
    (q : R (ItrS lo c (Builtin.Range.rangeSize lo hi c).toNat) H) : wpAny (model X.prog X.w) X.A (pyIter (.ref s.heap.objs.size)) (PIE X pins σ tg R) E { s with heap := s.heap.push { cls := .type "range", data := .fields #[.int lo t, .int hi u, .int c v] }, toks := tk } := by
  refine wpAny_pyIter_range (IsRange.new ..) hs ?_
  have I1 : Inv X pins σ H { s with heap := s.heap.push { cls := .type "range", data := .fields #[.int lo t, .int hi u, .int c v] }, toks := tk } := I.kept fun b o e => Heap.get?_push_of_some _ e
  refine ⟨(s.heap.push { cls := .type "range", data := .fields #[.int lo t, .int hi u, .int c v] }).objs.size, [(s.heap.push { cls := .type "range", data := .fields #[.int lo t, .int hi u, .int c v] }).objs.size], _, _, H, rfl,
    I1.kept (t' := tk) fun b o e => Heap.get?_push_of_some _ e, turn_rangeS _ lo c (Builtin.Range.rangeSize lo hi c).toNat, ?_, fun b hb => ?_, q⟩
  · have e1 : lo + ((0 : Nat) : Int) * c = lo := by simp
    have e2 : (((Builtin.Range.rangeSize lo hi c).toNat : Nat) : Int) - ((0 : Nat) : Int) = Builtin.Range.rangeSize lo hi c := by omega
    show IsRangeIter _ _ (lo + ((0 : Nat) : Int) * c) ((((Builtin.Range.rangeSize lo hi c).toNat : Nat) : Int) - ((0 : Nat) : Int)) c
    rw [e1, e2]
    exact Heap.get?_push_size _ rfl
  · have e : b = (s.heap.push { cls := .type "range", data := .fields #[.int lo t, .int hi u, .int c v] }).objs.size := by simpa using hb
    subst e
    exact I1.fpOk (Nat.le_refl _) (I1.hok.fresh (Nat.le_refl _))
noncomputable def iRng3 (ta : TA) : TI := fun σ H R => ta σ H fun vs H1 => ∃ i j c : Int, vs = [.int i, .int j, .int c] ∧ (c ≠ 0 ∧ c.natAbs < 1073741824 ∧ Builtin.Range.small i j c = true ∧ 0 ≤ Builtin.Range.rangeSize i j c) ∧ R (ItrS i c (Builtin.Range.rangeSize i j c).toNat) H1
theorem pi_range3 {a b c : Expr} {ta : TA} {p pos : Pos} (hg : Gl X "range") (hm : X.mg "range" = none) (ha : PA X [a, b, c] ta) (hs : starEach [a, b, c] X.env = [(false, eval a X.env), (false, eval b X.env), (false, eval c X.env)] := by rfl) (hs2 : starEach [b, c] X.env = [(false, eval b X.env), (false, eval c X.env)] := by rfl) :
    PI X tg (.Call (.Name "range" p) [a, b, c] [] pos) (iRng3 ta) := by
  intro pins s σ H R I h
  refine Call_ (ld_blt I hg hm boot_range (PyProof.Rows.callWith_type1 (thn (ha pos pins s σ H _ I h) fun us s1 hq__ => ?_) (by rw [hs, hs2]) (by rw [hs2]; rfl)))
  obtain ⟨vs, H1, I1, r1, q1⟩ := hq__
  obtain ⟨i, j, k, e, ⟨q0, q1, q2, q3⟩, q⟩ := q1
  subst e
  cases r1 with
  | cons r rr =>
    cases rr with
    | cons r' rr =>
      cases rr with
      | cons r'' rr =>
        cases rr
        obtain ⟨t, rfl⟩ := r
        obtain ⟨t', rfl⟩ := r'
        obtain ⟨t'', rfl⟩ := r''
        exact call_range_3 q0 (range_itS I1 q2 q3 q) (.inl (PyProof.noPylong_small q1))
end
end L2
namespace L3
open PySem PySem.Spec PyProof.Rows L2
section
variable {X : Cx} {O : List Fl} {m m' m'' : ME} {e a b c tg : Expr} {pos p : Pos} {K : PySem.W.Frag} {A B : Hp}
theorem it_rangeS (lo c : Int) (n : Nat) : ItOk K A B (ItrS lo c n) ((List.range n).map fun i => PyData.int (lo + (i : Nat) * c)) := by
  have hl : ((List.range n).map fun i => PyData.int (lo + (i : Nat) * c)).length = n := by rw [List.length_map, List.length_range]
  refine ⟨fun i H _ _ hi => (by rw [hl] at hi; exact hi), fun H _ _ => (by rw [hl]; exact Nat.le_refl _), fun i A2 H x H' sa s1 s2 hi y => ?_⟩
  obtain ⟨rfl, rfl⟩ := y
  rw [hl] at hi
  exact ⟨A2, .int (lo + (i : Nat) * c), by rw [List.getElem?_map, List.getElem?_range hi]; rfl, Grow.refl s1, Rp.int.mpr rfl⟩
noncomputable def rng3 (d d' d'' : PyData) : Res (List PyData) := match d, d', d'' with
  | .int i, .int j, .int c => gd (c ≠ 0 ∧ c.natAbs < 1073741824 ∧ Builtin.Range.small i j c = true ∧ 0 ≤ Builtin.Range.rangeSize i j c) (.ok ((List.range (Builtin.Range.rangeSize i j c).toNat).map fun k => PyData.int (i + (k : Nat) * c)))
  | _, _, _ => .bad
noncomputable def itR3 (m m' m'' : ME) : MI := fun Γ => (m Γ).bind fun d => (m' Γ).bind fun d' => (m'' Γ).bind fun d'' => rng3 d d' d''
theorem rng3_ok {d d' d'' : PyData} {xs : List PyData} (h : rng3 d d' d'' = .ok xs) : ∃ i j c : Int, d = .int i ∧ d' = .int j ∧ d'' = .int c ∧ (c ≠ 0 ∧ c.natAbs < 1073741824 ∧ Builtin.Range.small i j c = true ∧ 0 ≤ Builtin.Range.rangeSize i j c) ∧ xs = (List.range (Builtin.Range.rangeSize i j c).toNat).map fun k => PyData.int (i + (k : Nat) * c) := by
  unfold rng3 at h
  split at h
  · obtain ⟨hc, em⟩ := gd_ok h
    cases em
    exact ⟨_, _, _, rfl, rfl, rfl, hc, rfl⟩
  · cases h
theorem si_range3 (hg : Gl X "range") (hm : X.mg "range" = none) (ha : QE X a (tP X.K O m)) (hb : QE X b (tP X.K O m')) (hc : QE X c (tP X.K O m'')) (hs : starEach [a, b, c] X.env = [(false, eval a X.env), (false, eval b X.env), (false, eval c X.env)] := by rfl) (hs2 : starEach [b, c] X.env = [(false, eval b X.env), (false, eval c X.env)] := by rfl) (hs3 : starEach [c] X.env = [(false, eval c X.env)] := by rfl) :
    QI X tg (.Call (.Name "range" p) [a, b, c] [] pos) (tI X.K O (itR3 m m' m'')) :=
  QI.imp (pi_range3 hg hm (pa_cons ha.h (pa_cons hb.h (pa_cons hc.h pa_nil hs3) (by rw [hs2, hs3])) (by rw [hs, hs2])) hs hs2) fun σ H R hq__ => by
    obtain ⟨A, B, Γ, xs, r, em, k⟩ := hq__
    obtain ⟨d, e1, em⟩ := Res.bind_ok em
    obtain ⟨d', e2, em⟩ := Res.bind_ok em
    obtain ⟨d'', e3, em⟩ := Res.bind_ok em
    obtain ⟨i, j, s, rfl, rfl, rfl, hc, rfl⟩ := rng3_ok em
    exact ⟨A, B, Γ, _, r, e1, fun v A1 H1 g1 p1 => ⟨A1, B, Γ, _, r.grow g1, e2, fun v' A2 H2 g2 p2 => ⟨A2, B, Γ, _, (r.grow g1).grow g2, e3, fun v'' A3 H3 g3 p3 => ⟨i, j, s, by rw [p1.int, p2.int, p3.int], hc, k _ A3 H3 ((g1.trans g2).trans g3) (it_rangeS i s _)⟩⟩⟩⟩
theorem sc_range3 (hg : Gl X "range") (hm : X.mg "range" = none) (ha : QE X a (tP X.K O m)) (hb : QE X b (tP X.K O m')) (hc : QE X c (tP X.K O m'')) (hs : starEach [a, b, c] X.env = [(false, eval a X.env), (false, eval b X.env), (false, eval c X.env)] := by rfl) (hs2 : starEach [b, c] X.env = [(false, eval b X.env), (false, eval c X.env)] := by rfl) (hs3 : starEach [c] X.env = [(false, eval c X.env)] := by rfl) :
    QI X tg (.Call (.Name "range" p) [a, b, c] [] pos) (tIc X.K O (itR3 m m' m'')) :=
  QI.imp (pi_range3 hg hm (pa_cons ha.h (pa_cons hb.h (pa_cons hc.h pa_nil hs3) (by rw [hs2, hs3])) (by rw [hs, hs2])) hs hs2) fun σ H R hq__ => by
    obtain ⟨A, B, Γ, xs, r, em, k⟩ := hq__
    obtain ⟨d, e1, em⟩ := Res.bind_ok em
    obtain ⟨d', e2, em⟩ := Res.bind_ok em
    obtain ⟨d'', e3, em⟩ := Res.bind_ok em
    obtain ⟨i, j, s, rfl, rfl, rfl, hc, rfl⟩ := rng3_ok em
    exact ⟨A, B, Γ, _, r, e1, fun v A1 H1 g1 p1 => ⟨A1, B, Γ, _, r.grow g1, e2, fun v' A2 H2 g2 p2 => ⟨A2, B, Γ, _, (r.grow g1).grow g2, e3, fun v'' A3 H3 g3 p3 => ⟨i, j, s, by rw [p1.int, p2.int, p3.int], hc, k _ A3 H3 ((g1.trans g2).trans g3) (it_rangeS i s _)⟩⟩⟩⟩
noncomputable def invD : PyData → Res PyData
  | .int a => .ok (.int (Builtin.bitNot a))
  | _ => .bad
theorem se_inv {a : Expr} (ha : QE X a (tP K O m)) : QE X (.UnaryOp .Invert a pos) (tE K O (eUn invD m)) := se_un un_inv (fun A H d1 d x Q e hA p k => by
  cases d1 with
  | int i => cases e; exact ⟨i, p.int, k _ A H (Grow.refl hA) (Rp.int.mpr rfl)⟩
  | _ => cases e) ha
end
end L3
namespace L2
open PySem
end L2
namespace L2
open PySem PySem.Spec PyProof.Rows
section
variable {P : Program} {w : World} {A : Around} {E : Value → Shared → Prop} {s : Shared}
end
end L2
namespace L2
open PySem PySem.Spec PyProof.Rows
section
variable {P : Program} {w : World} {A : Around} {R : Result → Shared → Prop} {I : Addr} {fp wr : List Addr} {G : Array GenState → Array GenState → Prop} {n : Nat} {Pv : Nat → Value → Prop} {St : Nat → Shared → Prop}
end
section
variable {P : Program} {w : World} {A : Around} {E : Value → Shared → Prop} {s : Shared}
end
end L2
namespace L2
open PySem PySem.Spec PyProof.Rows
section
variable {P : Program} {w : World} {A : Around} {E : Value → Shared → Prop} {s : Shared}
end
end L2
namespace L2
open PySem PySem.Spec PyProof.Rows
section
variable {X : Cx} {pins : List (Addr × Obj)} {σ : St} {H : Hp} {s s' : Shared}
variable {e : Expr} {ta : TA} {p pos : Pos}
end
end L2
namespace L3
open PySem PySem.Spec PyProof.Rows L2
section
variable {X : Cx} {O : List Fl} {m : ME} {e : Expr} {p p2 pos pos2 : Pos}
end
end L3
namespace L2
open PySem PySem.Spec PyProof.Rows
section
variable {P : Program} {w : World} {A : Around} {E : Value → Shared → Prop} {s : Shared}
end
end L2
namespace L2
open PySem PySem.Spec PyProof.Rows
section
variable {P : Program} {w : World} {A : Around} {E : Value → Shared → Prop} {s : Shared}
end
end L2
namespace L2
open PySem PySem.Spec PyProof.Rows
section
variable {P : Program} {w : World} {A : Around} {E : Value → Shared → Prop} {s : Shared}
end
end L2
namespace L2
open PySem PySem.Spec PyProof.Rows
section
variable {P : Program} {w : World} {A : Around} {E : Value → Shared → Prop} {s : Shared}
end
end L2
namespace L2
open PySem PySem.Spec PyProof.Rows
section
variable {X : Cx} {a b : Expr} {pos : Pos}
end
end L2
namespace L3
open PySem PySem.Spec PyProof.Rows L2
section
variable {X : Cx} {O : List Fl} {m m' : ME} {e e' : Expr} {p p2 p3 pos pos2 pos3 pos4 : Pos}
end
end L3
namespace L2
open PySem PySem.Spec PyProof.Rows
section
variable {P : Program} {w : World} {A : Around} {E : Value → Shared → Prop} {s : Shared}
end
end L2
namespace L3
open PySem PySem.Spec PyProof.Rows L2
section
variable {X : Cx} {rm : Rm} {Ol O : List Fl} {m m' : ME} {e a b : Expr} {pos p apos cpos : Pos}
end
end L3
namespace L3
open PySem PySem.Spec PyProof.Rows L2
section
variable {P : Program} {w : World} {K : PySem.W.Frag} {mg : Str → Option Value} {base : Heap}
end
end L3
namespace L3
open PySem PySem.Spec PyProof.Rows L2
section
variable {X : Cx} {D : List (Str × PyData)}
end
section
variable {X : Cx} {D : List (Str × PyData)} {O : List Fl}
end
end L3
namespace L3
open PySem PySem.Spec PyProof.Rows L2
section
variable {X : Cx} {O : List Fl} {ks : List (Option Expr)} {vs : List Expr} {R : List (Str × ME)}
end
section
variable {X : Cx} {O Ol : List Fl} {rm : Rm} {a e : Expr} {m m' : ME} {pos : Pos}
end
end L3
namespace L3
open PySem PySem.Spec PyProof.Rows L2
noncomputable def lookN (key : NKey) : List (PyData × PyData) → Option PyData
  | [] => none
  | (k, d) :: r => if keyN k = some key then some d else lookN key r
noncomputable def hasN (key : NKey) : List (PyData × PyData) → Bool
  | [] => false
  | (k, _) :: r => if keyN k = some key then true else hasN key r
noncomputable def setN (key : NKey) (x : PyData) : List (PyData × PyData) → List (PyData × PyData)
  | [] => []
  | (k, d) :: r => (if keyN k = some key then (k, x) else (k, d)) :: setN key x r
noncomputable def putN (kd : PyData) (key : NKey) (x : PyData) (kvs : List (PyData × PyData)) : List (PyData × PyData) := if hasN key kvs = true then setN key x kvs else kvs ++ [(kd, x)]
noncomputable abbrev NP (K : PySem.W.Frag) (A : Hp) : List (PyData × PyData) → List (NKey × V) → Prop := Paired fun p q => keyN p.1 = some q.1 ∧ Rp K A p.2 q.2
section
variable {K : PySem.W.Frag} {A : Hp} {key : NKey} {kvs : List (PyData × PyData)} {us : List (NKey × V)}
theorem keyN_eq {k : PyData} {key key' : NKey} (h : keyN k = some key') : keyN k = some key ↔ key' = key := by rw [h]; simp
theorem NP.look (h : NP K A kvs us) : (∀ d, lookN key kvs = some d → ∃ v, valV us key = some v ∧ Rp K A d v) ∧ (lookN key kvs = none → valV us key = none) := by
  induction h with
  | nil => exact ⟨fun d e => (nomatch e), fun _ => rfl⟩
  | @cons p q ps qs hq t ih =>
    obtain ⟨hk, hd⟩ := hq
    obtain ⟨k, d⟩ := p
    unfold lookN
    by_cases e : keyN k = some key
    · have e' := (keyN_eq hk).mp e
      rw [if_pos e]
      exact ⟨fun d' z => by cases z; exact ⟨q.2, valV_pos e', hd⟩, fun z => (nomatch z)⟩
    · have e' : ¬ q.1 = key := fun z => e ((keyN_eq hk).mpr z)
      rw [if_neg e, valV_neg e']
      exact ih
theorem NP.any (h : NP K A kvs us) : (valV us key).isSome = (lookN key kvs).isSome := by
  have := h.look (key := key)
  cases e : lookN key kvs with
  | none => rw [this.2 e]; rfl
  | some d => obtain ⟨v, e1, _⟩ := this.1 d e; rw [e1]; rfl
theorem NP.has (h : NP K A kvs us) : (us.any fun kv => decide (kv.1 = key)) = hasN key kvs := by
  induction h with
  | nil => rfl
  | @cons p q ps qs hq t ih =>
    obtain ⟨hk, hd⟩ := hq
    obtain ⟨k, d⟩ := p
    unfold hasN
    rw [List.any_cons, ih]
    by_cases e : keyN k = some key
    · rw [if_pos e, decide_eq_true ((keyN_eq hk).mp e)]; rfl
    · rw [if_neg e, decide_eq_false fun z => e ((keyN_eq hk).mpr z)]; rfl
theorem NP.set {x : PyData} {w : V} (hx : Rp K A x w) (h : NP K A kvs us) : NP K A (setN key x kvs) (us.map fun kv => if kv.1 = key then (kv.1, w) else kv) := by
  induction h with
  | nil => exact .nil
  | @cons p q ps qs hq t ih =>
    obtain ⟨hk, hd⟩ := hq
    obtain ⟨k, d⟩ := p
    unfold setN
    rw [List.map_cons]
    by_cases e : keyN k = some key
    · rw [if_pos e, if_pos ((keyN_eq hk).mp e)]; exact .cons ⟨hk, hx⟩ ih
    · rw [if_neg e, if_neg fun z => e ((keyN_eq hk).mpr z)]; exact .cons ⟨hk, hd⟩ ih
theorem NP.put {kd x : PyData} {w : V} (hk : keyN kd = some key) (hx : Rp K A x w) (h : NP K A kvs us) : NP K A (putN kd key x kvs) (putK us key w) := by
  unfold putN putK
  rw [h.has]
  by_cases e : hasN key kvs = true
  · rw [if_pos e, if_pos e]; exact h.set hx
  · rw [if_neg e, if_neg e]; exact Paired.snoc h ⟨hk, hx⟩
theorem RpAll.nints : ∀ {ds : List PyData} {vs : List V} {ns : List Int}, RpAll K A ds vs → intsD ds = some ns → vs = ns.map V.int
  | [], vs, ns, h, e => by rw [RpAll.nil] at h; cases e; exact h
  | .int i :: r, vs, ns, h, e => by
    obtain ⟨v, rest, rfl, h1, h2⟩ := RpAll.cons.mp h
    unfold intsD at e
    cases e1 : intsD r with
    | none => rw [e1] at e; cases e
    | some l =>
      rw [e1] at e
      cases e
      rw [Rp.int.mp h1, RpAll.nints h2 e1]; rfl
  | .none :: r, vs, ns, h, e => by cases e
  | .bool _ :: r, vs, ns, h, e => by cases e
  | .str _ :: r, vs, ns, h, e => by cases e
  | .list _ :: r, vs, ns, h, e => by cases e
  | .tuple _ :: r, vs, ns, h, e => by cases e
  | .dict _ :: r, vs, ns, h, e => by cases e
theorem RpAll.nkeys : ∀ {ds : List PyData} {vs : List V} {key : NKey}, RpAll K A ds vs → keysD ds = some key → ∃ cs : List Addr, vs = cs.map V.ref ∧ Paired (fun (k : List Int) c => SqT K A c (k.map V.int)) key cs
  | [], vs, key, h, e => by rw [RpAll.nil] at h; cases e; exact ⟨[], h, .nil⟩
  | .tuple ds :: r, vs, key, h, e => by
    obtain ⟨v, rest, rfl, h1, h2⟩ := RpAll.cons.mp h
    obtain ⟨a, ws, rfl, h3, h4⟩ := Rp.tuple.mp h1
    unfold keysD at e
    cases e1 : intsD ds with
    | none => rw [e1] at e; cases e
    | some l =>
      cases e2 : keysD r with
      | none => rw [e1, e2] at e; cases e
      | some l2 =>
        rw [e1, e2] at e
        cases e
        obtain ⟨cs, rfl, hp⟩ := RpAll.nkeys h2 e2
        rw [RpAll.nints h4 e1] at h3
        exact ⟨a :: cs, rfl, .cons h3 hp⟩
  | .none :: r, vs, key, h, e => by cases e
  | .bool _ :: r, vs, key, h, e => by cases e
  | .str _ :: r, vs, key, h, e => by cases e
  | .list _ :: r, vs, key, h, e => by cases e
  | .int _ :: r, vs, key, h, e => by cases e
  | .dict _ :: r, vs, key, h, e => by cases e
theorem Rp.nkey {kd : PyData} {v : V} (h : Rp K A kd v) (hk : keyN kd = some key) : ∃ b, v = .ref b ∧ NTup K A key b := by
  cases kd with
  | tuple ds =>
    obtain ⟨a, vs, rfl, h1, h2⟩ := Rp.tuple.mp h
    obtain ⟨cs, rfl, hp⟩ := RpAll.nkeys h2 hk
    exact ⟨a, rfl, cs, h1, hp⟩
  | _ => cases hk
end
section
variable {K : PySem.W.Frag} {A B H : Hp} {O : List Fl} {σ : L2.St} {Γ : Ev} {i : Nat}
theorem StRep.nst_at (r : StRep K A B H O σ Γ) (hi : fl O i = .nst true) {kvs : List (PyData × PyData)} (he : gv Γ i = some (.dict kvs)) :
    ∃ p xs, sv σ i = some (.ref p) ∧ H p = some (NDict p xs) ∧ A p = none ∧ B p = none ∧ RpN K A kvs xs := by
  obtain ⟨v, e1, q⟩ := r.slot i _ he
  rw [hi] at q
  obtain ⟨p, xs, kvs', rfl, w2, w3, w4, w5, w6⟩ := q rfl
  cases w2
  exact ⟨p, xs, e1, w3, w4, w5, w6⟩
theorem StRep.nput {p : Addr} {xs xs' : List (NKey × Addr × Value)} {kvs' : List (PyData × PyData)} (r : StRep K A B H O σ Γ) (hi : fl O i = .nst true) (hl : i < Γ.length) (hs : sv σ i = some (.ref p)) (h1 : H p = some (NDict p xs)) (h2 : A p = none) (h3 : B p = none) (h4 : RpN K A kvs' xs')
    (hone : ∀ j, i ≠ j → fl O j ≠ .nst true) : StRep K A B (upd H p (NDict p xs')) O σ (Γ.set i (some (.dict kvs'))) := by
  refine ⟨fun b u q => ?_, fun b u q => ?_, by rw [List.length_set]; exact r.len, fun j => ?_, fun j k hjk q1 q2 q3 q4 => ?_⟩
  · rw [upd_ne (fun z => by rw [z, h2] at q; cases q)]; exact r.a b u q
  · rw [upd_ne (fun z => by rw [z, h3] at q; cases q)]; exact r.b b u q
  · by_cases hj : i = j
    · subst hj
      unfold gv
      rw [getD_set_eq hl]
      intro d e
      cases e
      refine ⟨_, hs, ?_⟩
      rw [hi]
      exact fun _ => ⟨p, xs', kvs', rfl, rfl, upd_same, h2, h3, h4⟩
    · unfold gv
      rw [getD_set_ne hj]
      intro d e
      obtain ⟨v, ev, q⟩ := r.slot j d e
      refine ⟨v, ev, ?_⟩
      cases hf : fl O j with
      | imm => rw [hf] at q; exact q
      | bor => rw [hf] at q; exact q
      | own =>
        rw [hf] at q
        obtain ⟨p', o', rfl, u1, u2, u3, u4⟩ := q
        have hne : p' ≠ p := fun z => by subst z; rw [u1] at h1; exact u4.nx h1
        exact ⟨p', o', rfl, by rw [upd_ne hne]; exact u1, u2, u3, u4⟩
      | fix p0 =>
        rw [hf] at q
        obtain ⟨q0, p', o', rfl, u1, u2, u3, u4⟩ := q
        have hne : p' ≠ p := fun z => by subst z; rw [u1] at h1; exact u4.nx h1
        exact ⟨q0, p', o', rfl, by rw [upd_ne hne]; exact u1, u2, u3, u4⟩
      | exc C => rw [hf] at q; exact q
      | nst b =>
        cases b with
        | true => exact absurd hf (hone j hj)
        | false => exact fun z => nomatch z
  · have g : ∀ l, isO (fl O l) = true → gv (Γ.set i (some (.dict kvs'))) l ≠ none → gv Γ l ≠ none := fun l h z => by
      have hl : i ≠ l := fun z => by subst z; rw [hi] at h; cases h
      unfold gv at z ⊢
      rwa [getD_set_ne hl] at z
    exact r.sep j k hjk q1 q2 (g j q1 q3) (g k q2 q4)
theorem StRep.nestle (r : StRep K A B H O σ Γ) (hi : fl O i = .own) (hO : i < O.length) (he : gv Γ i = some (.dict [])) :
    ∃ p, H p = some (.dK []) ∧ StRep K A B (upd H p (NDict p [])) (O.set i (.nst true)) σ Γ := by
  obtain ⟨d, p, o, e1, e2, h1, h2, h3, h4⟩ := r.own_at (by rw [hi]; rfl) (by rw [he]; simp)
  rw [he] at e1
  cases e1
  rcases h4 with ⟨ds, vs, z, _⟩ | ⟨kvs, u, z, rfl, h4⟩
  · cases z
  cases z
  rw [RpKV.nil] at h4
  subst h4
  refine ⟨p, h1, fun b u q => ?_, fun b u q => ?_, r.len, fun j => ?_, fun j k hjk q1 q2 q3 q4 => ?_⟩
  · rw [upd_ne (fun z => by rw [z, h2] at q; cases q)]; exact r.a b u q
  · rw [upd_ne (fun z => by rw [z, h3] at q; cases q)]; exact r.b b u q
  · by_cases hj : i = j
    · subst hj
      unfold fl
      rw [getD_set_eq hO]
      intro d e
      rw [he] at e
      cases e
      exact ⟨_, e2, fun _ => ⟨p, [], [], rfl, rfl, upd_same, h2, h3, [], .nil, .nil⟩⟩
    · unfold fl
      rw [getD_set_ne hj]
      intro d e
      obtain ⟨v, ev, q⟩ := r.slot j d e
      refine ⟨v, ev, ?_⟩
      have hne : isO (fl O j) = true → ∀ p', v = .ref p' → p' ≠ p := fun hf p' ez z => by
        refine r.sep i j hj (by rw [hi]; rfl) hf (by rw [he]; simp) (by rw [e]; simp) ?_
        rw [e2, ev, ez, z]
      cases hf : fl O j with
      | imm => unfold fl at hf; rw [hf]; rw [show fl O j = .imm from hf] at q; exact q
      | bor => unfold fl at hf; rw [hf]; rw [show fl O j = .bor from hf] at q; exact q
      | own =>
        have hn := hne (by rw [hf]; rfl)
        unfold fl at hf; rw [hf]; rw [show fl O j = .own from hf] at q
        obtain ⟨p', o', rfl, u1, u2, u3, u4⟩ := q
        exact ⟨p', o', rfl, by rw [upd_ne (hn p' rfl)]; exact u1, u2, u3, u4⟩
      | fix p0 =>
        have hn := hne (by rw [hf]; rfl)
        unfold fl at hf; rw [hf]; rw [show fl O j = .fix p0 from hf] at q
        obtain ⟨q0, p', o', rfl, u1, u2, u3, u4⟩ := q
        exact ⟨q0, p', o', rfl, by rw [upd_ne (hn p' rfl)]; exact u1, u2, u3, u4⟩
      | exc C => unfold fl at hf; rw [hf]; rw [show fl O j = .exc C from hf] at q; exact q
      | nst b =>
        unfold fl at hf; rw [hf]; rw [show fl O j = .nst b from hf] at q
        intro z
        obtain ⟨p', xs, kvs, w1, w2, w3, w4, w5, w6⟩ := q z
        have hn : p' ≠ p := fun z => by subst z; rw [h1] at w3; cases w3
        exact ⟨p', xs, kvs, w1, w2, by rw [upd_ne hn]; exact w3, w4, w5, w6⟩
  · have hj : i ≠ j := fun z => by subst z; unfold fl at q1; rw [getD_set_eq hO] at q1; cases q1
    have hk : i ≠ k := fun z => by subst z; unfold fl at q2; rw [getD_set_eq hO] at q2; cases q2
    unfold fl at q1 q2
    rw [getD_set_ne hj] at q1
    rw [getD_set_ne hk] at q2
    exact r.sep j k hjk q1 q2 q3 q4
end
end L3
namespace L3
open PySem PySem.Spec PyProof.Rows L2
noncomputable def eNotInN (i : Nat) (m : ME) : ME := fun Γ => (m Γ).bind fun kd => match gv Γ i with
  | some (.dict kvs) => match keyN kd with
    | some key => .ok (.bool (!(lookN key kvs).isSome))
    | none => .bad
  | _ => .bad
noncomputable def eIxN (i : Nat) (m : ME) : ME := fun Γ => (m Γ).bind fun kd => match gv Γ i with
  | some (.dict kvs) => match keyN kd with
    | some key => match lookN key kvs with
      | some d => .ok d
      | none => .bad
    | none => .bad
  | _ => .bad
noncomputable def sPutN (i : Nat) (mk mv : ME) : MS := fun Γ => (mv Γ).bind fun x => (mk Γ).bind fun kd => match gv Γ i with
  | some (.dict kvs) => match keyN kd with
    | some key => gd (kvs.length < sizeLine ∧ i < Γ.length) (.ok (.nx (Γ.set i (some (.dict (putN kd key x kvs))))))
    | none => .bad
  | _ => .bad
section
variable {X : Cx} {rm : Rm} {Ol O : List Fl} {m m' : ME} {e a b : Expr} {pos : Pos} {i : Nat} {x : Str} {xp tpos : Pos}
noncomputable def rNotN (K : PySem.W.Frag) : R2 := fun x y H Q => ∃ b p xs us k, x = .ref b ∧ y = .ref p ∧ H p = some (NDict p xs) ∧ KN K H us xs ∧ NTup K H k b ∧ Q (.bl (!(valV us k).isSome)) H
theorem op_notInN (hu : X.A.units + 66 < cLine) : OpR X (compareOp .NotIn) (rNotN X.K) := by
  intro pins s σ H x y v u Q I rx ry h
  obtain ⟨b, p, xs, us, k, rfl, rfl, h1, h2, h3, q⟩ := h
  cases (show v = Value.ref b from rx)
  cases (show u = Value.ref p from ry)
  exact n_notIn (by omega) I h1 h2 h3 fun s' I' => ⟨.bl _, H, I', rfl, q⟩
noncomputable def rIxN (K : PySem.W.Frag) : R2 := fun x y H Q => ∃ p b xs us k v, x = .ref p ∧ y = .ref b ∧ H p = some (NDict p xs) ∧ KN K H us xs ∧ NTup K H k b ∧ valV us k = some v ∧ Q v H
theorem ix_N (hu : X.A.units + 66 < cLine) : IxR X (rIxN X.K) := by
  intro value slice pins s σ H x y v u Q I rx ry h hs
  obtain ⟨p, b, xs, us, k, w, rfl, rfl, h1, h2, h3, h4, q⟩ := h
  cases (show v = Value.ref p from rx)
  cases (show u = Value.ref b from ry)
  have hT := (nd_of I h1 h2).2.2.typeIs
  unfold subscriptTail
  refine wpAny_bind ?_
  rw [getitemInPython_of_ne hT.not_modules]
  refine wpAny_bind (wpAny_specialOf hT PySem.F.slot_dict_getitem.lookup ?_)
  have fin : wpAny (model X.prog X.w) X.A (subscripted slice false (.ref p) (.ref b)) (fun r s₃ => wpAny (model X.prog X.w) X.A (letTemporaryGo value (.ref p) r >>= fun _ => pure r) (EP X pins σ Q) X.xe s₃) X.xe s := by
    rw [hs]
    exact wpAny_operating (wpAny_mono (n_getItem (by omega) I h1 h2 h3 h4 fun w' s' I' rw' => (⟨w, H, I', rw', q⟩ : EP X pins σ Q w' s')) (fun r s₃ h₃ => wpAny_bind (wpAny_letTemporaryGo (wpAny_pure h₃))) fun _ _ x => x)
  first
    | exact wpAny_pure (wpAny_bind fin)
    | exact wpAny_bind (wpAny_pure (wpAny_bind fin))
    | exact wpAny_bind fin
noncomputable def sNPutT (K : PySem.W.Frag) (td ty tv : TE) : TS := fun D σ H => tv σ H fun v H1 => td σ H1 fun x H2 => ty σ H2 fun y H3 => ∃ a b xs us k, x = .ref a ∧ y = .ref b ∧ H3 a = some (NDict a xs) ∧ KN K H3 us xs ∧ NTup K H3 k b ∧ us.length < sizeLine ∧
  ∀ r, RelV v r → D.nx σ (upd H3 a (NDict a (storedH xs k b r)))
theorem ps_nput {td ty tv : TE} {o i value : Expr} {pos' : Pos} (hu : X.A.units + 66 < cLine) (ho : PE X o td) (hi : PE X i ty) (hv : PE X value tv) (hs : swapsWith value (some (.Subscript o i pos')) pos.line X.env = pure false) :
    PS X (.Assign [.Subscript o i pos'] value pos) (sNPutT X.K td ty tv) := by
  intro pins s σ H D I h
  refine wpAny_Assign_Subscript (thn (hv pins s σ H _ I h) fun r s1 ⟨v, H1, I1, rv, q1⟩ => thn (ho pins s1 σ H1 _ I1 q1) fun u s2 ⟨x, H2, I2, rx, q2⟩ => thn (hi pins s2 σ H2 _ I2 q2) fun iv s3 hq__ => ?_) hs
  obtain ⟨y, H3, I3, ry, a, b, xs, us, k, ex, ey, h1, h2, h3, hl, q3⟩ := hq__
  subst ex ey
  obtain rfl : u = Value.ref a := rx
  obtain rfl : iv = Value.ref b := ry
  exact n_setItem (by omega) I3 h1 h2 h3 rv hl fun s4 I4 => ⟨σ, _, I4, q3 r rv⟩
theorem st_notInN (i : Nat) (hu : X.A.units + 66 < cLine) (ha : QE X a (tE X.K O m)) (hi : fl O i = .nst true := by rfl) (hN : X.N[i]? = some x := by rfl) (hv : Vis X.env.scope x := by first | exact Or.inl rfl | exact Or.inr (Or.inl rfl) | exact Or.inr (Or.inr rfl)) (hd : (x == ("__debug__" : Str)) = false := by decide)
    (hcd : (x == ("__classdict__" : Str)) = false := by decide) : QT X (.Compare a [.NotIn] [.Name x xp] pos) (tT X.K O (eNotInN i m)) :=
  QT.imp (pt_cmpR (op_notInN hu) ha.h (pe_var hN hv hd hcd) rfl) fun σ H Q hq__ => by
    obtain ⟨A, B, Γ, bb, r, em, k⟩ := hq__
    obtain ⟨kd, e1, em⟩ := Res.bind_ok em
    cases hg : gv Γ i with
    | none => rw [hg] at em; cases em
    | some dl =>
      rw [hg] at em
      cases dl with
      | dict kvs =>
        have em : (match keyN kd with | some key => Res.ok (PyData.bool (!(lookN key kvs).isSome)) | none => .bad) = .ok (.bool bb) := em
        cases hk : keyN kd with
        | none => rw [hk] at em; cases em
        | some key =>
          rw [hk] at em
          cases em
          obtain ⟨p, xs, e3, h1, h2, h3, us, h4, h5⟩ := r.nst_at hi hg
          refine ⟨A, B, Γ, kd, r, e1, fun v A1 H1 g1 p1 => ⟨.ref p, sv_get e3, ?_⟩⟩
          obtain ⟨b, rfl, nt⟩ := Rp.nkey p1 hk
          exact ⟨b, p, xs, us, key, rfl, rfl, g1.hh _ _ h1, h4.keeps fun _ _ e => (g1.aa.trans g1.ah).seqT e, nt.keeps fun _ _ e => g1.ah.seqT e, _, by rw [NP.any h5], k A1 H1 g1⟩
      | _ => cases em
theorem se_ixN (i : Nat) (hu : X.A.units + 66 < cLine) (ha : QE X a (tE X.K O m)) (hs : PlainIx a) (hi : fl O i = .nst true := by rfl) (hN : X.N[i]? = some x := by rfl) (hv : Vis X.env.scope x := by first | exact Or.inl rfl | exact Or.inr (Or.inl rfl) | exact Or.inr (Or.inr rfl)) (hd : (x == ("__debug__" : Str)) = false := by decide)
    (hcd : (x == ("__classdict__" : Str)) = false := by decide) : QE X (.Subscript (.Name x xp) a pos) (tE X.K O (eIxN i m)) :=
  QE.imp (pe_ix (ix_N hu) (pe_var hN hv hd hcd) ha.h hs) fun σ H Q hq__ => by
    obtain ⟨A, B, Γ, d, r, em, k⟩ := hq__
    obtain ⟨kd, e1, em⟩ := Res.bind_ok em
    cases hg : gv Γ i with
    | none => rw [hg] at em; cases em
    | some dl =>
      rw [hg] at em
      cases dl with
      | dict kvs =>
        have em : (match keyN kd with | some key => (match lookN key kvs with | some d => Res.ok d | none => .bad) | none => .bad) = .ok d := em
        cases hk : keyN kd with
        | none => rw [hk] at em; cases em
        | some key =>
          rw [hk] at em
          have em : (match lookN key kvs with | some d => Res.ok d | none => .bad) = .ok d := em
          cases hl : lookN key kvs with
          | none => rw [hl] at em; cases em
          | some d0 =>
            rw [hl] at em
            cases em
            obtain ⟨p, xs, e3, h1, h2, h3, us, h4, h5⟩ := r.nst_at hi hg
            obtain ⟨v0, ev, rv⟩ := (NP.look (key := key) h5).1 d hl
            refine ⟨.ref p, sv_get e3, A, B, Γ, kd, r, e1, fun v A1 H1 g1 p1 => ?_⟩
            obtain ⟨b, rfl, nt⟩ := Rp.nkey p1 hk
            exact ⟨p, b, xs, us, key, v0, rfl, rfl, g1.hh _ _ h1, h4.keeps fun _ _ e => (g1.aa.trans g1.ah).seqT e, nt.keeps fun _ _ e => g1.ah.seqT e, ev, k _ A1 H1 g1 (Rp.mono g1.aa _ rv)⟩
      | _ => cases em
noncomputable def oneN (O : List Fl) (i : Nat) : Bool := (List.range O.length).all fun j => j == i || !decide (fl O j = .nst true)
theorem oneN_of {j : Nat} (h : oneN O i = true) (hj : i ≠ j) : fl O j ≠ .nst true := fun z => by
  have hl : j < O.length := by
    rcases Nat.lt_or_ge j O.length with z' | z'
    · exact z'
    · unfold fl at z; rw [List.getD_eq_getElem?_getD, List.getElem?_eq_none z'] at z; cases z
  have := List.all_eq_true.mp h j (List.mem_range.mpr hl)
  rw [decide_eq_true z] at this
  simp at this
  exact hj this.symm
theorem ss_nput (i : Nat) (hu : X.A.units + 66 < cLine) (ha : QE X a (tE X.K O m)) (he : QE X e (tE X.K O m')) (hi : fl O i = .nst true := by rfl) (hone : oneN O i = true := by rfl) (hN : X.N[i]? = some x := by rfl) (hv : Vis X.env.scope x := by first | exact Or.inl rfl | exact Or.inr (Or.inl rfl) | exact Or.inr (Or.inr rfl)) (hd : (x == ("__debug__" : Str)) = false := by decide)
    (hcd : (x == ("__classdict__" : Str)) = false := by decide) (hs : swapsWith e (some (.Subscript (.Name x xp) a tpos)) pos.line X.env = pure false := by rfl) :
    QS X (.Assign [.Subscript (.Name x xp) a tpos] e pos) (tS X.K rm Ol O O (sPutN i m m')) := by
  refine QS.imp (ps_nput hu (pe_var hN hv hd hcd) ha.h he.h hs) fun D σ H hq__ => ?_
  obtain ⟨A, B, Γ, o, r, em, k⟩ := hq__
  obtain ⟨d, e1, em⟩ := Res.bind_ok em
  obtain ⟨kd, e2, em⟩ := Res.bind_ok em
  cases hg : gv Γ i with
  | none => rw [hg] at em; cases em
  | some dl =>
    rw [hg] at em
    cases dl with
    | dict kvs =>
      have em' : (match keyN kd with | some key => gd (kvs.length < sizeLine ∧ i < Γ.length) (Res.ok (Out.nx (Γ.set i (some (.dict (putN kd key d kvs)))))) | none => .bad) = .ok o := em
      cases hk : keyN kd with
      | none => rw [hk] at em'; cases em'
      | some key =>
        rw [hk] at em'
        obtain ⟨⟨hz, hlt⟩, em'⟩ := gd_ok em'
        cases em'
        obtain ⟨q, xs, e3, h1, h2, h3, us, h4, h5⟩ := r.nst_at hi hg
        refine ⟨A, B, Γ, d, r, e1, fun v A1 H1 g1 p1 => ⟨.ref q, sv_get e3, A1, B, Γ, _, r.grow g1, e2, fun w A2 H2 g2 p2 => ?_⟩⟩
        have gg := g1.trans g2
        obtain ⟨b, rfl, nt⟩ := Rp.nkey p2 hk
        have h4' : KN X.K A2 us xs := h4.keeps fun _ _ e => gg.aa.seqT e
        have h5' : NP X.K A2 kvs us := Paired.mapP h5 fun _ _ z => ⟨z.1, Rp.mono gg.aa _ z.2⟩
        refine ⟨q, b, xs, us, key, rfl, rfl, gg.hh _ _ h1, h4'.keeps fun _ _ e => gg.ah.seqT e, nt.keeps fun _ _ e => gg.ah.seqT e, by rw [← Paired.length h5]; exact hz, fun rr hr => ?_⟩
        exact k σ A2 _ ((r.grow gg).nput hi hlt e3 (gg.hh _ _ h1) (gg.nw q h2 (by rw [h1]; simp)) h3 ⟨_, h4'.put key nt hr, NP.put hk (Rp.mono g2.aa _ p1) h5'⟩ fun j hj => oneN_of hone hj) gg.aa (gg.nB r.b)
    | _ => cases em
theorem ss_nest {st : Stmt} {O1 O2 : List Fl} (i : Nat) (h : QS X st (tS X.K rm Ol O O1 (sSet i (eDct [])))) (hi : fl O1 i = .own := by rfl) (hl : i < O1.length := by exact of_decide_eq_true rfl) (hO : O1.set i (.nst true) = O2 := by rfl) : QS X st (tS X.K rm Ol O O2 (sSet i (eDct []))) := by
  subst hO
  refine ⟨fun pins s σ H D I ⟨A, B, Γ, o, r, em, k⟩ => ?_⟩
  have em0 := em
  obtain ⟨d, e1, em⟩ := Res.bind_ok em
  obtain ⟨hlt, em⟩ := gd_ok em
  cases em
  cases e1
  refine thn (h.h pins s σ H ⟨fun σ' H' => ∃ p, H' p = some (.dK []) ∧ D.nx σ' (upd H' p (NDict p [])), D.rt, D.bk, D.ct⟩ I ⟨A, B, Γ, _, r, em0, fun σ' A' H' r' sa nw => ?_⟩) fun f s' q => ?_
  · obtain ⟨p, hp, r2⟩ := r'.nestle hi hl (by unfold gv; rw [getD_set_eq hlt])
    exact ⟨p, hp, k σ' A' _ r2 sa nw⟩
  · cases f with
    | next =>
      obtain ⟨σ', H', I', p, hp, hq⟩ := q
      exact ⟨σ', _, n_new I' hp, hq⟩
    | brk => exact q
    | cont => exact q
    | ret u => exact q
end
end L3
namespace L3
open PySem PySem.Spec PyProof.Rows L2
noncomputable def eDctK (mk mv : ME) : ME := fun Γ => (mk Γ).bind fun kd => (mv Γ).bind fun d => match keyD kd with
  | some _ => .ok (.dict [(kd, d)])
  | none => .bad
theorem sf_dctK {X : Cx} {O : List Fl} {mk mv : ME} {pos : Pos} {kx v : Expr} (hk : QE X kx (tE X.K O mk)) (hv : QE X v (tE X.K O mv)) : QE X (.Dict [some kx] [v] pos) (tF X.K O (eDctK mk mv)) :=
  QE.imp (pe_disp (pps_cons hk.h hv.h pps_nil) rfl rfl (fun z => nomatch z) (by show 1 ≤ 15; decide)) fun σ H Q hq__ => by
    obtain ⟨A, B, Γ, d, r, em, k⟩ := hq__
    obtain ⟨kd, e0, em⟩ := Res.bind_ok em
    obtain ⟨d1, e1, em⟩ := Res.bind_ok em
    cases hkk : keyD kd with
    | none => rw [hkk] at em; cases em
    | some key =>
      rw [hkk] at em
      cases em
      intro p hp
      have g0 : Grow A H A (upd H p (.dK [])) := Grow.lay r.a hp
      refine ⟨A, B, Γ, kd, r.grow g0, e0, fun kv A1 H1 g1 p1 => ⟨A1, B, Γ, d1, (r.grow g0).grow g1, e1, fun v A2 H2 g2 p2 => ⟨(g1.trans g2).hh _ _ upd_same, [(key, v)], by rw [Rp.key p1 hkk]; rfl, by show 1 ≤ 15; decide, ?_⟩⟩⟩
      have g12 := g1.trans g2
      have pa : A2 p = none := g12.4 p (r.a.free hp) (by rw [upd_same]; exact fun z => nomatch z)
      have gg : Grow A H A2 (upd H2 p (.dK (mergeK [] [(key, v)]))) := by
        refine ⟨g12.aa, fun b o q => ?_, fun b o q => ?_, fun b q1 q2 => ?_⟩
        · have hb : b ≠ p := ne_of_none q hp
          rw [upd_ne hb]
          exact g12.hh _ _ (by rw [upd_ne hb]; exact q)
        · have hb : b ≠ p := ne_of_none q pa
          rw [upd_ne hb]; exact g2.ah _ _ q
        · have hb : b ≠ p := fun z => q2 (z ▸ hp)
          exact g12.4 b q1 (by rw [upd_ne hb]; exact q2)
      exact k _ _ _ gg ⟨p, _, rfl, hp, upd_same, pa, .inr ⟨_, [(key, v)], rfl, rfl, RpKV.cons.mpr ⟨_, v, [], rfl, hkk, p2, RpKV.nil.mpr rfl⟩⟩⟩
end L3
namespace L2
open PySem PySem.Spec PyProof.Rows
section
variable {prog : Program} {w : World} {A : Around} {E : Value → Shared → Prop} {s : Shared}
end
section
variable {X : Cx} {pos : Pos}
end
end L2
namespace L3
open PySem PySem.Spec PyProof.Rows L2
section
variable {X : Cx} {O O' : List Fl} {is : List Nat} {gs : List MG} {es : List Expr} {pos : Pos}
end
end L3
namespace L2
open PySem PySem.Spec PyProof.Rows
open Builtin Builtin.Str
section
variable {X : Cx}
end
end L2
namespace L3
open PySem PySem.Spec PyProof.Rows L2
section
variable {X : Cx} {O : List Fl} {m m' : ME} {a b : Expr} {pos p : Pos} {K : PySem.W.Frag} {A B : Hp} {ds es : List PyData} {vs ws : List V} {q q' : Addr}
variable {elts : List Expr} {tpos : Pos}
end
end L3
namespace L2
open PySem PySem.Spec PyProof.Rows PySem.Calls
section
variable {prog : Program} {w : World} {A : Around} {E : Value → Shared → Prop} {s : Shared}
end
end L2
namespace L2
open PySem PySem.Spec PyProof.Rows
section
variable {X : Cx} {pins : List (Addr × Obj)} {σ : St} {H : Hp} {s s' : Shared} {e : Expr} {ta : TA} {p pos : Pos}
end
end L2
namespace L3
open PySem PySem.Spec PyProof.Rows L2
section
variable {X : Cx} {O : List Fl} {m : ME} {e : Expr} {p p2 pos pos2 : Pos}
end
end L3
namespace L2
open PySem PySem.Spec PyProof.Rows
open AutoSeq1 (wpAny_loadPart')
section
variable {prog : Program} {w : World} {A : Around} {E : Value → Shared → Prop} {s : Shared}
end
end L2
namespace L3
open PySem PySem.Spec PyProof.Rows L2
section
variable {X : Cx}
end
end L3
namespace L3
open PySem PySem.Spec PyProof.Rows L2
theorem len0 {α : Type} {P : List α → Prop} (h : P []) (us : List α) (e : us.length = 0) : P us := by
  rw [List.length_eq_zero_iff.mp e]; exact h
theorem len1 {α : Type} {P : List α → Prop} (h : ∀ a0, P [a0]) (us : List α) (e : us.length = 1) : P us := by
  cases us with
  | nil => cases e
  | cons a r => exact len0 (P := fun r => P (a :: r)) (h a) r (Nat.succ.inj e)
theorem len2 {α : Type} {P : List α → Prop} (h : ∀ a0 a1, P [a0, a1]) (us : List α) (e : us.length = 2) : P us := by
  cases us with
  | nil => cases e
  | cons a r => exact len1 (P := fun r => P (a :: r)) (fun b0 => h a b0) r (Nat.succ.inj e)
theorem len3 {α : Type} {P : List α → Prop} (h : ∀ a0 a1 a2, P [a0, a1, a2]) (us : List α) (e : us.length = 3) : P us := by
  cases us with
  | nil => cases e
  | cons a r => exact len2 (P := fun r => P (a :: r)) (fun b0 b1 => h a b0 b1) r (Nat.succ.inj e)
theorem len4 {α : Type} {P : List α → Prop} (h : ∀ a0 a1 a2 a3, P [a0, a1, a2, a3]) (us : List α) (e : us.length = 4) : P us := by
  cases us with
  | nil => cases e
  | cons a r => exact len3 (P := fun r => P (a :: r)) (fun b0 b1 b2 => h a b0 b1 b2) r (Nat.succ.inj e)
theorem bok1 {x : Str} {st : Stmt} {ps : List Str} (h : ∀ (kV doc pm : Value) (an : Option Addr) (cdv ct : Value) (a0 : Value), bindArgs (PySem.W.fnOf x x (defArgs st) (defBody st) (defScope st) .none kV doc pm an cdv ct) ⟨[a0], []⟩ = pure (ps.zip [a0])) (hp : ps.length = 1) :
    ∀ (kV doc pm : Value) (an : Option Addr) (cdv ct : Value) (us : List Value), us.length = ps.length → bindArgs (PySem.W.fnOf x x (defArgs st) (defBody st) (defScope st) .none kV doc pm an cdv ct) ⟨us, []⟩ = pure (ps.zip us) := fun kV doc pm an cdv ct us hl =>
  len1 (P := fun us => bindArgs (PySem.W.fnOf x x (defArgs st) (defBody st) (defScope st) .none kV doc pm an cdv ct) ⟨us, []⟩ = pure (ps.zip us)) (h kV doc pm an cdv ct) us (hl.trans hp)
theorem bok2 {x : Str} {st : Stmt} {ps : List Str} (h : ∀ (kV doc pm : Value) (an : Option Addr) (cdv ct : Value) (a0 a1 : Value), bindArgs (PySem.W.fnOf x x (defArgs st) (defBody st) (defScope st) .none kV doc pm an cdv ct) ⟨[a0, a1], []⟩ = pure (ps.zip [a0, a1])) (hp : ps.length = 2) :
    ∀ (kV doc pm : Value) (an : Option Addr) (cdv ct : Value) (us : List Value), us.length = ps.length → bindArgs (PySem.W.fnOf x x (defArgs st) (defBody st) (defScope st) .none kV doc pm an cdv ct) ⟨us, []⟩ = pure (ps.zip us) := fun kV doc pm an cdv ct us hl =>
  len2 (P := fun us => bindArgs (PySem.W.fnOf x x (defArgs st) (defBody st) (defScope st) .none kV doc pm an cdv ct) ⟨us, []⟩ = pure (ps.zip us)) (h kV doc pm an cdv ct) us (hl.trans hp)
theorem bok3 {x : Str} {st : Stmt} {ps : List Str} (h : ∀ (kV doc pm : Value) (an : Option Addr) (cdv ct : Value) (a0 a1 a2 : Value), bindArgs (PySem.W.fnOf x x (defArgs st) (defBody st) (defScope st) .none kV doc pm an cdv ct) ⟨[a0, a1, a2], []⟩ = pure (ps.zip [a0, a1, a2])) (hp : ps.length = 3) :
    ∀ (kV doc pm : Value) (an : Option Addr) (cdv ct : Value) (us : List Value), us.length = ps.length → bindArgs (PySem.W.fnOf x x (defArgs st) (defBody st) (defScope st) .none kV doc pm an cdv ct) ⟨us, []⟩ = pure (ps.zip us) := fun kV doc pm an cdv ct us hl =>
  len3 (P := fun us => bindArgs (PySem.W.fnOf x x (defArgs st) (defBody st) (defScope st) .none kV doc pm an cdv ct) ⟨us, []⟩ = pure (ps.zip us)) (h kV doc pm an cdv ct) us (hl.trans hp)
theorem bok4 {x : Str} {st : Stmt} {ps : List Str} (h : ∀ (kV doc pm : Value) (an : Option Addr) (cdv ct : Value) (a0 a1 a2 a3 : Value), bindArgs (PySem.W.fnOf x x (defArgs st) (defBody st) (defScope st) .none kV doc pm an cdv ct) ⟨[a0, a1, a2, a3], []⟩ = pure (ps.zip [a0, a1, a2, a3])) (hp : ps.length = 4) :
    ∀ (kV doc pm : Value) (an : Option Addr) (cdv ct : Value) (us : List Value), us.length = ps.length → bindArgs (PySem.W.fnOf x x (defArgs st) (defBody st) (defScope st) .none kV doc pm an cdv ct) ⟨us, []⟩ = pure (ps.zip us) := fun kV doc pm an cdv ct us hl =>
  len4 (P := fun us => bindArgs (PySem.W.fnOf x x (defArgs st) (defBody st) (defScope st) .none kV doc pm an cdv ct) ⟨us, []⟩ = pure (ps.zip us)) (h kV doc pm an cdv ct) us (hl.trans hp)
section
variable {X : Cx} {O : List Fl} {m mk : ME} {a st : Expr} {p2 pos : Pos} {te ts : TE}
end
end L3
namespace L3
open PySem PySem.Spec PyProof.Rows L2
section
variable {X : Cx} {pins : List (Addr × Obj)} {σ : L2.St} {H : Hp} {s : Shared} {ea : Addr} {ob : Obj}
end
noncomputable abbrev Cx.inM (X : Cx) (ea : Addr) : Cx := { X with A := X.A.mark (some (.ref ea)), calm := false, xe := fun _ _ => False }
section
variable {X : Cx} {pins : List (Addr × Obj)} {σ : L2.St} {H : Hp} {s : Shared} {ea : Addr}
theorem inM_in (I : L2.Inv X pins σ H s) : L2.Inv (Cx.inM X ea) pins σ H s :=
  ⟨⟨I.ok.mod, I.ok.kind, I.ok.glob, I.ok.blt, I.ok.above, I.ok.inj, I.ok.has, I.ok.cab, (fun z => nomatch z), I.ok.frames, I.ok.stk, I.ok.exf, I.ok.bs, I.ok.bsz, I.ok.noex, I.ok.exfs, I.ok.funs, I.ok.frf⟩, I.os, I.bare, I.base, I.loc, I.cell, I.free, I.freeC, I.pin, I.hok, I.len⟩
theorem inM_out (ok : X.Ok) (I : L2.Inv (Cx.inM X ea) pins σ H s) : L2.Inv X pins σ H s :=
  ⟨ok, I.os, I.bare, I.base, I.loc, I.cell, I.free, I.freeC, I.pin, I.hok, I.len⟩
end
section
variable {M : Model} {A : Around} {E : Value → Shared → Prop} {K : PySem.W.Frag}
structure SupMatch (K : PySem.W.Frag) (C T : Addr) : Prop where
  cls : (PySem.W.clsIn K T).isSome = true
  typ : PySem.W.typeIn K (.ref T) = some (.type "type")
  base : PySem.W.subIn K (.ref T) (.type "BaseException") = some true
  yes : PySem.W.subIn K (.ref C) (.ref T) = some true
theorem match_sup {s : Shared} {ea C T : Addr} {ob : Obj} {Q : Bool → Shared → Prop} (X : K.In s.heap) (he : s.heap.get? ea = some ob) (hcl : ob.cls = .ref C) (h : SupMatch K C T) (q : Q true s) :
    wpAny M A (excMatches (.ref ea) (.ref T)) Q E s := by
  have nt : PySem.W.Looks M s.heap (isInstance (.ref T) (.type "tuple")) false := (PySem.W.looks_typeIn X h.typ).andThen (PySem.W.looks_subIn X (show PySem.W.subIn [] (.type "type") (.type "tuple") = some false by decide +kernel))
  unfold excMatches
  refine wpAny_bind (nt.at ?_)
  dsimp only; rw [if_neg (by decide)]
  refine wpAny_bind (wpAny_pure ?_)
  rw [List.forIn_cons]
  refine wpAny_bind (wpAny_bind (wpAny_bind ?_))
  unfold isExcClass
  refine wpAny_bind ((looks_isType X h.cls).at ?_)
  rw [if_pos rfl]
  refine (PySem.W.looks_subIn X h.base).at ?_
  show wpAny _ _ (if (!true) = true then _ else _) _ _ _
  rw [if_neg (by decide)]
  refine wpAny_pure ?_
  refine wpAny_pure ?_
  refine wpAny_bind ((looks_typeE he hcl).at ?_)
  rw [List.forIn_cons]
  refine wpAny_bind (wpAny_bind (wpAny_bind ((PySem.W.looks_subIn X h.yes).at ?_)))
  rw [if_pos rfl]
  exact wpAny_pure (wpAny_pure (wpAny_pure q))
end
section
variable {X : Cx} {pins : List (Addr × Obj)} {σ : L2.St} {H : Hp} {s : Shared}
end
end L3
namespace L3
open PySem PySem.Spec PySem.Calls PyProof.Rows L2 Builtin Builtin.ObjectAttr Builtin.Getset_descriptor
section
variable {prog : Program} {w : World} {A : Around} {E : Value → Shared → Prop} {s : Shared} {K : PySem.W.Frag} {x C : Addr} {ob : Obj}
end
end L3
namespace L3
open PySem PySem.Spec PySem.Calls PyProof.Rows L2 Builtin Builtin.ObjectAttr
section
variable {prog : Program} {w : World} {A : Around} {E : Value → Shared → Prop} {s : Shared} {K : PySem.W.Frag} {x C : Addr} {ob : Obj} {c : Value} {Q : Value → Shared → Prop}
end
section
variable {X : Cx} {C : Addr} {O : List Fl} {K : PySem.W.Frag}
end
section
variable {P : Program} {w : World} {K : PySem.W.Frag} {mg : Str → Option Value} {base : Heap}
end
section
variable {X : Cx} {C : Addr} {O : List Fl} {k : Nat} {fn : Str} {ps : List Str} {f : List PyData → Res PyData}
end
end L3
namespace L3
open PySem PySem.Spec PyProof.Rows L2
structure XS (X : Cx) (O : List Fl) (C : Addr) (st : Stmt) (z : MZ) : Prop where
  h : ∀ (pins : List (Addr × Obj)) (s : Shared) (σ : L2.St) (H A B : Hp) (Γ : Ev) (c : Str) (Ex : Value → Shared → Prop), L2.Inv X pins σ H s → StRep X.K A B H O σ Γ → z Γ = .ok c →
    (∀ er s' s1 H1 A1, L2.Inv X pins σ H1 s1 → Grow A H A1 H1 → CXE X.prog X.w X.stack H1 s1 (fun cv _ H' => cv = .ref C ∧ ∃ A', Grow A1 H1 A' H') er s' → Ex er s') →
    wpAny (model X.prog X.w) X.A (exec st X.env) (fun _ _ => False) Ex s
noncomputable def zCall (zf : List PyData → Res Str) (ms : List ME) : MZ := fun Γ => (evs ms Γ).bind zf
section
variable {X : Cx} {k : Nat} {fn : Str} {ps : List Str} {fs : List Fl} {zf : List PyData → Res Str} {O Ol : List Fl} {rm : Rm} {ms : List ME} {pf pc pos px pa : Pos} {e : Expr} {es : List Expr} {C : Addr}
theorem xs_set {xn : Str} (hnx : ∀ er s', ¬ X.xe er s') (F : DefX X.prog X.w X.K X.mg X.base k fn ps (spZ X.K fs (fun _ => C) zf)) (hr : Room k X.A) (hg : Gl X fn) (ha : QA X (e :: es) (tAr X.K O fs ms))
    (hdb : (fn == ("__debug__" : Str)) = false := by decide) (he : noStar e = true := by rfl) (hpl : noStars es = true := by rfl) (hs : swapsWith (.Call (.Name fn pf) (e :: es) [] pc) (some (.Name xn px)) pa.line X.env = pure false := by rfl) :
    XS X O C (.Assign [.Name xn px] (.Call (.Name fn pf) (e :: es) [] pc) pa) (zCall zf ms) := ⟨fun pins s σ H A B Γ c Ex I r ez k => by
  obtain ⟨ds, e1, ez⟩ := Res.bind_ok ez
  exact wpAny_Assign_Name (wpAny_mono (callX I F hr hg ha hnx r e1 ez k hdb he hpl) (fun v s1 z => z.elim) fun er s1 z => z) hs⟩
end
section
variable {X : Cx} {O O1 O' Ol : List Fl} {rm : Rm} {C TA : Addr} {st : Stmt} {rest : List Stmt} {m1 mn mx : MS} {z : MZ} {T en yn : Str} {np pos2 px pe pa pos : Pos}
end
end L3
namespace L3
open PySem PySem.Spec PyProof.Rows L2
end L3
namespace L3
open PySem PySem.Spec PyProof.Rows L2
section
variable {X : Cx} {pins : List (Addr × Obj)} {σ : L2.St} {H : Hp} {s : Shared}
theorem handleN {C TA : Addr} {A1 : Hp} {er : Value} {s' : Shared} {D : Ends} {T yn : Str} {iy : Nat} {kj} {np pos2 px pe pa : Pos} (hst : X.stack = X.env :: X.outer) (hfm : X.env.frame = some X.env.locals) (hex : X.ex = []) (I : L2.Inv X pins σ H s)
    (h : CXE X.prog X.w X.stack H s (fun cv _ H' => cv = .ref C ∧ ∃ A', Grow A1 H A' H') er s') (hN : X.N.Nodup) (hiyn : X.N[iy]? = some yn) (hly : Loc X.env.scope yn)
    (hC : SupMatch X.K C TA) (hg : Gl X T) (hm : X.mg T = some (.ref TA)) (hd : (T == ("__debug__" : Str)) = false)
    (hs : swapsWith (.Constant .none kj pe) (some (.Name yn px)) pa.line X.env = pure false) (hf : X.fn yn = true ∨ X.env.scope.names.lookup yn = some .local)
    (k : ∀ H' A', Grow A1 H A' H' → D.nx (σ.set iy (some .non)) H') :
    wpAny (model X.prog X.w) X.A (noteFrame er X.env) (fun _ s₂ => wpAny (model X.prog X.w) X.A (setFlight er none) (fun _ s₃ => wpAny (model X.prog X.w) X.A (handleBy er X.env [.ExceptHandler (some (.Name T np)) none [.Assign [.Name yn px] (.Constant .none kj pe) pa] pos2]) (SP X pins D) X.xe s₃) X.xe s₂) X.xe s' := by
  obtain ⟨ea, t, C', B, H', rfl, os, bare, fly, inB, hokB, un, hC', A', gr⟩ := h
  cases hC'
  rw [hst] at fly
  have hfr : ∀ b ∈ frs X.stack, ∃ o, s'.heap.get? b = some o ∧ ∀ vs, o.data ≠ .fields vs := fun b hb => notFields_of_frame fly.2.2.1 (by rw [hst] at hb; exact hb)
  have inv : ∀ (h : Heap) (tk : Nat), Heap.FlyingW B (X.env :: X.outer) ea (.ref C) (.ref t) h → s'.heap.UpToSlots h → L2.Inv X pins σ H' { s' with heap := h, toks := tk } := fun h5 tk fly5 up => by
    have hok5 : HOk X.prog X.w H' h5 := hokB.kept fun b u e => fly5.1 b u e
    refine I.call' (s' := { s' with heap := h5, toks := tk }) os ⟨fun b o e hn hb _ => fly5.1 _ _ (inB b o e hb hn), fun b o e hn hb _ => ?_, un.free, fun b o e hb => ?_, un.tups, un.frzs, un.tbls⟩ hok5 bare fun b z => absurd z (by simp)
    · obtain ⟨sl, q⟩ := un.slot b o e hn hb (by simp)
      obtain ⟨o', ho', hd⟩ := hfr b hb
      rw [q] at ho'
      cases ho'
      obtain ⟨sl', q'⟩ := up b _ q hd
      exact ⟨sl', q'⟩
    · by_cases hf : b ∈ frs X.stack
      · obtain ⟨o', ho', hd⟩ := hfr b hf
        obtain ⟨sl', q'⟩ := up b _ ho' hd
        exact ⟨_, q'⟩
      · cases hH : H b with
        | none => exact ⟨o, fly5.1 _ _ (inB b o e hf hH)⟩
        | some u => exact hok_there hok5 (gr.hh b u hH)
  have hea : H' ea = none := by
    cases q : H' ea with
    | none => rfl
    | some u =>
      obtain ⟨o, z⟩ := hok_there hokB q
      rw [fly.2.1] at z; cases z
  have heaH : H ea = none := by
    cases q : H ea with
    | none => rfl
    | some u => rw [gr.hh ea u q] at hea; cases hea
  have exc : ∀ h, Heap.FlyingW B (X.env :: X.outer) ea (.ref C) (.ref t) h → ∃ ob, h.get? ea = some ob ∧ ob.cls = .ref C ∧ (∃ vs, ob.data = .fields vs) ∧ ∀ b ∈ frs X.stack, ea ≠ b := fun h5 fly5 => by
    obtain ⟨f1, f2, f3, oe, vs, T, oT, ts, e1, e2, e3, _⟩ := fly5
    refine ⟨oe, e1, e2.1, ⟨vs, e3⟩, fun b hb z => ?_⟩
    subst z
    obtain ⟨o, ho, hd⟩ := notFields_of_frame f3 (by rw [hst] at hb; exact hb)
    rw [e1] at ho
    cases ho
    exact hd vs e3
  have nfr : ∀ b ∈ frs X.stack, ea ≠ b := by
    obtain ⟨_, _, _, _, q⟩ := exc _ fly
    exact q
  have old : s.heap.get? ea = none := by
    cases q : s.heap.get? ea with
    | none => rfl
    | some o =>
      have := inB ea o q (fun z => nfr ea z rfl) heaH
      rw [fly.2.1] at this; cases this
  have old0 : X.s₀.heap.get? ea = none := by
    cases q : X.s₀.heap.get? ea with
    | none => rfl
    | some o =>
      obtain ⟨o', z⟩ := I.base.there ea o q (by rw [hex]; simp)
      rw [old] at z; cases z
  have hloc : ea ≠ X.env.locals := nfr _ (by rw [hst]; exact List.mem_filterMap.mpr ⟨_, List.mem_cons_self, hfm⟩)
  have hpin : ∀ p ∈ X.pn ++ pins, p.1 ≠ ea := fun p hp z => by
    have := (I.pin p hp).1
    rw [z, old] at this; cases this
  refine wpAny_looks_onW (by rw [I.ok.frames, hst]) hfm fly fun h4 held4 up4 => ?_
  refine wpAny_landsW held4 fun h5 fly5 up5 => ?_
  have up := up4.trans up5
  obtain ⟨ob, eob, cob, dob, nfo⟩ := exc h5 fly5
  have Im : L2.Inv (Cx.inM X ea) pins σ H' { s' with heap := h5, toks := s'.toks } := inM_in (inv h5 s'.toks fly5 up)
  refine wpAny_handleBy_cons (codeAny_handlers_test (ld_glob (X := Cx.inM X ea) Im hg hm ?_ hd)) (by intro z; cases z)
  refine match_sup (K := X.K) Im.kIn eob cob hC (codeAny_handlers_suite (lands_againW fly5 fun h7 fly7 up7 => ?_))
  have Im7 : L2.Inv (Cx.inM X ea) pins σ H' { s' with heap := h7, toks := s'.toks } := inM_in (inv h7 s'.toks fly7 (up.trans up7))
  have hb := pss_one (ps_set (X := Cx.inM X ea) hN hiyn hly (pe_non (X := Cx.inM X ea)) hs hf) pins _ σ H' { nx := fun σ9 H9 => σ9 = σ.set iy (some .non) ∧ H9 = H', rt := fun _ _ => False } Im7 ⟨rfl, rfl⟩
  refine wpAny_mono hb (fun f s9 z => ?_) fun _ _ z => z.elim
  cases f with
  | next =>
    obtain ⟨σ9, H9, I9, e9, e10⟩ := z
    rw [e9, e10] at I9
    exact ⟨_, _, inM_out I.ok I9, k H' A' gr⟩
  | ret u => obtain ⟨_, _, _, _, _, q⟩ := z; exact q.elim
  | brk => obtain ⟨_, _, _, q⟩ := z; exact q.elim
  | cont => obtain ⟨_, _, _, q⟩ := z; exact q.elim
end
noncomputable def sTryN (iy : Nat) (m1 : MS) (z : MZ) : MS := fun Γ => match m1 Γ with
  | .ok (.nx Γ') => .ok (.nx Γ')
  | _ => (z Γ).bind fun _ => gd (iy < Γ.length) (.ok (.nx (Γ.set iy (some .none))))
section
variable {X : Cx} {O O1 Ol : List Fl} {rm : Rm} {C TA : Addr} {st : Stmt} {m1 : MS} {z : MZ} {T yn : Str} {kj} {np pos2 px pe pa pos : Pos}
theorem ss_tryN (iy : Nat) (hnx : ∀ er s', ¬ X.xe er s') (hst : X.stack = X.env :: X.outer) (hfm : X.env.frame = some X.env.locals) (hex : X.ex = []) (hN : X.N.Nodup)
    (hn : QS X st (tS X.K rm Ol O O1 m1)) (hz : XS X O C st z) (hiyn : X.N[iy]? = some yn) (hly : Loc X.env.scope yn) (hC : SupMatch X.K C TA) (hg : Gl X T) (hm : X.mg T = some (.ref TA)) (hy : iy < O.length) (hO : O.set iy .imm = O1 := by rfl)
    (hd : (T == ("__debug__" : Str)) = false := by decide) (hs : swapsWith (.Constant .none kj pe) (some (.Name yn px)) pa.line X.env = pure false := by rfl) (hf : X.fn yn = true ∨ X.env.scope.names.lookup yn = some .local := by first | exact .inr rfl | exact .inl rfl) :
    QS X (.Try [st] [.ExceptHandler (some (.Name T np)) none [.Assign [.Name yn px] (.Constant .none kj pe) pa] pos2] [] [] pos) (tS X.K rm Ol O O1 (sTryN iy m1 z)) := by
  subst hO
  refine ⟨fun pins s σ H D I h => ?_⟩
  obtain ⟨A, B, Γ, o, r, em, k⟩ := h
  have em : (match m1 Γ with | .ok (.nx Γ') => .ok (.nx Γ') | _ => (z Γ).bind fun _ => gd (iy < Γ.length) (.ok (.nx (Γ.set iy (some .none))))) = Res.ok o := em
  by_cases hq : ∃ Γ', m1 Γ = .ok (.nx Γ')
  · obtain ⟨Γ', hq⟩ := hq
    rw [hq] at em
    cases em
    refine wpAny_Try_except (wpAny_mono (pss_one hn.h pins s σ H D I ⟨A, B, Γ, _, r, hq, k⟩) (fun fl s1 z => ?_) fun er s1 z => absurd z (hnx er s1))
    cases fl with
    | next => exact wpAny_execs_nil z
    | ret v => exact z
    | brk => exact z
    | cont => exact z
  · have em : (z Γ).bind (fun _ => gd (iy < Γ.length) (.ok (.nx (Γ.set iy (some .none))))) = Res.ok o := by
      revert em
      split
      · rename_i Γ' e; exact absurd ⟨Γ', e⟩ hq
      · exact id
    obtain ⟨c, ez, em⟩ := Res.bind_ok em
    obtain ⟨hyl, em⟩ := gd_ok em
    cases em
    refine wpAny_Try_except (wpAny_execs_cons (wpAny_mono (hz.h pins s σ H A B Γ c _ I r ez fun er s' s1 H1 A1 I1 g1 hx => handleN (D := D) hst hfm hex I1 hx hN hiyn hly hC hg hm hd hs hf fun H2 A2 g2 => ?_) (fun _ _ z => z.elim) fun _ _ z => z))
    have gg := g1.trans g2
    exact k _ A2 _ ((r.grow gg).set hyl hy (Rp.none.mpr rfl)) gg.aa (gg.nB r.b)
end
end L3
namespace L3
open PySem PySem.Spec PyProof.Rows L2
section
variable {X : Cx} {pins : List (Addr × Obj)} {σ : L2.St} {H A B : Hp} {s : Shared} {Γ : Ev} {O : List Fl}
end
section
variable {X : Cx} {k : Nat} {fn : Str} {ps : List Str} {fs : List Fl} {cl : Str → Addr} {zf : List PyData → Res Str} {O Ol : List Fl} {rm : Rm} {ms : List ME} {pf pc pos px pa : Pos} {e tg : Expr} {es : List Expr} {XE : Str → Hp → Prop} {body : List Stmt}
end
section
variable {X : Cx} {rm : Rm} {O : List Fl} {is : List Nat} {g : MG} {it : MI} {cl : List Nat} {mb : MS} {zb : MZ} {tg iter : Expr} {body : List Stmt} {pos : Pos} {XE : Str → Hp → Prop}
end
end L3
namespace L3
open PySem PySem.Spec PyProof.Rows L2
section
variable {X : Cx} {O : List Fl} {m : ME} {e : Expr} {p p2 pos pos2 : Pos}
end
end L3
namespace Gk
noncomputable def gnum (xs : List Int) : Int := xs.foldr (fun f n => 2 * n + f) 0
theorem gnum_cons (x : Int) (xs : List Int) : gnum (x :: xs) = 2 * gnum xs + x := rfl
theorem gnum_nonneg : ∀ {xs : List Int}, (∀ x ∈ xs, 0 ≤ x) → 0 ≤ gnum xs
  | [], _ => Int.le_refl 0
  | x :: xs, h => by
    have h1 := h x (by simp)
    have h2 := gnum_nonneg fun y hy => h y (List.mem_cons_of_mem _ hy)
    rw [gnum_cons]; omega
theorem two_pos (n : Nat) : (0 : Int) < 2 ^ n := Int.pow_pos (by decide)
theorem gnum_snoc (xs : List Int) (y : Int) : gnum (xs ++ [y]) = gnum xs + 2 ^ xs.length * y := by
  induction xs with
  | nil => simp [gnum]
  | cons x xs ih =>
    rw [List.cons_append, gnum_cons, ih, gnum_cons, List.length_cons, Int.pow_succ]
    have : (2 : Int) ^ xs.length * 2 * y = 2 * (2 ^ xs.length * y) := by rw [Int.mul_comm ((2 : Int) ^ xs.length) 2, Int.mul_assoc]
    rw [this]; omega
theorem gnum_rev (xs : List Int) : xs.reverse.foldl (fun n f => 2 * n + f) 0 = gnum xs := by
  rw [List.foldl_reverse]; rfl
noncomputable def bitI (b p : Int) : Int := b / 2 ^ p.toNat % 2
theorem bitI_01 (b p : Int) : bitI b p = 0 ∨ bitI b p = 1 := by unfold bitI; omega
theorem bitI_nonneg (b p : Int) : 0 ≤ bitI b p := by unfold bitI; omega
theorem bitI_le (b p : Int) : bitI b p ≤ 1 := by unfold bitI; omega
noncomputable def bitsOf (k r : Nat) : List Int := (List.range k).map fun j => ((r / 2 ^ j % 2 : Nat) : Int)
theorem bitsOf_length (k r : Nat) : (bitsOf k r).length = k := by simp [bitsOf]
theorem bitsOf_01 {k r : Nat} {x : Int} (h : x ∈ bitsOf k r) : x = 0 ∨ x = 1 := by
  unfold bitsOf at h
  obtain ⟨j, _, e⟩ := List.mem_map.mp h
  omega
theorem bitsOf_succ (k r : Nat) : bitsOf (k + 1) r = bitsOf k r ++ [((r / 2 ^ k % 2 : Nat) : Int)] := by
  unfold bitsOf; rw [List.range_succ, List.map_append]; rfl
theorem gnum_bitsOf (k r : Nat) : gnum (bitsOf k r) = ((r % 2 ^ k : Nat) : Int) := by
  induction k with
  | zero => simp [bitsOf, gnum, Nat.mod_one]
  | succ k ih =>
    rw [bitsOf_succ, gnum_snoc, ih, bitsOf_length, Nat.pow_succ, Nat.mod_mul]
    have e : ((2 : Int) ^ k) = (((2 ^ k : Nat)) : Int) := by simp
    rw [e, ← Int.natCast_mul]; omega
theorem gnum_bitsOf_lt {k r : Nat} (h : r < 2 ^ k) : gnum (bitsOf k r) = (r : Int) := by
  rw [gnum_bitsOf, Nat.mod_eq_of_lt h]
noncomputable def gather (b : Int) : Nat → Int
  | 0 => 0
  | n + 1 => gather b n + 2 ^ n * bitI b n
theorem gather_mod (b : Int) (n : Nat) : gather b n = b % 2 ^ n := by
  induction n with
  | zero => simp [gather, Int.emod_one]
  | succ n ih =>
    have hp := two_pos n
    rw [gather, ih, bitI, Int.toNat_natCast, Int.pow_succ]
    have h1 := Int.emod_add_mul_ediv b (2 ^ n)
    have h2 := Int.emod_add_mul_ediv (b / 2 ^ n) 2
    have h3 : b = (b % 2 ^ n + 2 ^ n * (b / 2 ^ n % 2)) + 2 ^ n * 2 * (b / 2 ^ n / 2) := by
      have e : 2 ^ n * (b / 2 ^ n) = 2 ^ n * (b / 2 ^ n % 2) + 2 ^ n * 2 * (b / 2 ^ n / 2) := by
        rw [Int.mul_assoc, ← Int.mul_add, h2]
      omega
    have h4 := Int.emod_nonneg b (Int.ne_of_gt hp)
    have h5 := Int.emod_lt_of_pos b hp
    have h6 : (b / 2 ^ n % 2 = 0) ∨ (b / 2 ^ n % 2 = 1) := by omega
    have h7 : (b % 2 ^ n + 2 ^ n * (b / 2 ^ n % 2)) % (2 ^ n * 2) = b % (2 ^ n * 2) := by
      have e := congrArg (· % ((2 : Int) ^ n * 2)) h3
      simp only [Int.add_mul_emod_self_left] at e
      exact e.symm
    rw [← h7]
    refine (Int.emod_eq_of_lt ?_ ?_).symm
    · rcases h6 with h | h <;> rw [h] <;> omega
    · rcases h6 with h | h <;> rw [h] <;> omega
theorem gather_all {b : Int} {n : Nat} (h0 : 0 ≤ b) (h1 : b < 2 ^ n) : gather b n = b := by
  rw [gather_mod, Int.emod_eq_of_lt h0 h1]
end Gk
namespace Gk
noncomputable def All01 (xs : List Int) : Prop := ∀ x ∈ xs, x = 0 ∨ x = 1
theorem All01.nn {xs : List Int} (h : All01 xs) : ∀ x ∈ xs, 0 ≤ x := fun x hx => by rcases h x hx with z | z <;> omega
theorem All01.tail {x : Int} {xs : List Int} (h : All01 (x :: xs)) : All01 xs := fun y hy => h y (List.mem_cons_of_mem _ hy)
theorem All01.map {α : Type} {l : List α} {f : α → Int} (h : ∀ a ∈ l, f a = 0 ∨ f a = 1) : All01 (l.map f) := fun x hx => by
  obtain ⟨a, ha, rfl⟩ := List.mem_map.mp hx
  exact h a ha
theorem gnum_lt : ∀ {xs : List Int}, All01 xs → gnum xs < 2 ^ xs.length
  | [], _ => by decide
  | x :: xs, h => by
    have h1 := gnum_lt h.tail
    have h2 := h x (by simp)
    rw [gnum_cons, List.length_cons, Int.pow_succ]
    omega
theorem bitI_zero (b : Int) : bitI b 0 = b % 2 := by unfold bitI; simp
theorem bitI_succ (b : Int) (n : Nat) : bitI b ((n + 1 : Nat) : Int) = bitI (b / 2) (n : Nat) := by
  unfold bitI
  rw [Int.toNat_natCast, Int.toNat_natCast, Nat.add_comm, Int.pow_add, Int.pow_one' , ← Int.ediv_ediv_of_nonneg (by decide)]
where
  Int.pow_one' : (2 : Int) ^ 1 = 2 := by decide
theorem gnum_bit : ∀ {xs : List Int} {r : Nat} {x : Int}, All01 xs → xs[r]? = some x → bitI (gnum xs) (r : Nat) = x
  | [], r, x, _, h => by simp at h
  | y :: xs, 0, x, h, e => by
    have h2 := h y (by simp)
    have e' : y = x := by simpa using e
    rw [gnum_cons]
    show bitI (2 * gnum xs + y) 0 = x
    rw [bitI_zero]
    omega
  | y :: xs, r + 1, x, h, e => by
    have h2 := h y (by simp)
    rw [gnum_cons, bitI_succ]
    have e2 : (2 * gnum xs + y) / 2 = gnum xs := by omega
    rw [e2]
    exact gnum_bit h.tail (by simpa using e)
theorem gnum_bits {b : Int} {m : Nat} (h0 : 0 ≤ b) (h1 : b < 2 ^ m) : gnum ((List.range m).map fun r => bitI b ((r : Nat) : Int)) = b := by
  have key : ∀ m : Nat, gnum ((List.range m).map fun r => bitI b ((r : Nat) : Int)) = gather b m := by
    intro m
    induction m with
    | zero => rfl
    | succ m ih =>
      rw [List.range_succ, List.map_append, List.map_singleton, gnum_snoc, ih, List.length_map, List.length_range]
      rfl
  rw [key, gather_all h0 h1]
theorem bits_ext {b c : Int} {m : Nat} (h0 : 0 ≤ b) (h1 : b < 2 ^ m) (k0 : 0 ≤ c) (k1 : c < 2 ^ m) (h : ∀ r : Nat, r < m → bitI b (r : Nat) = bitI c (r : Nat)) : b = c := by
  rw [← gnum_bits h0 h1, ← gnum_bits k0 k1]
  congr 1
  exact List.map_congr_left fun r hr => h r (List.mem_range.mp hr)
noncomputable def tab (m : Nat) (f : Nat → Int) : Int := gnum ((List.range m).map f)
theorem tab_01 {m : Nat} {f : Nat → Int} (h : ∀ r, f r = 0 ∨ f r = 1) : All01 ((List.range m).map f) := All01.map fun a _ => h a
theorem tab_nonneg {m : Nat} {f : Nat → Int} (h : ∀ r, f r = 0 ∨ f r = 1) : 0 ≤ tab m f := gnum_nonneg (tab_01 h).nn
theorem tab_lt {m : Nat} {f : Nat → Int} (h : ∀ r, f r = 0 ∨ f r = 1) : tab m f < 2 ^ m := by
  have := gnum_lt (tab_01 (m := m) h)
  rw [List.length_map, List.length_range] at this
  exact this
theorem tab_bit {m : Nat} {f : Nat → Int} (h : ∀ r, f r = 0 ∨ f r = 1) {r : Nat} (hr : r < m) : bitI (tab m f) (r : Nat) = f r :=
  gnum_bit (tab_01 h) (by rw [List.getElem?_map, List.getElem?_range hr]; rfl)
theorem tab_eq {m : Nat} {f : Nat → Int} {b : Int} (h : ∀ r, f r = 0 ∨ f r = 1) (h0 : 0 ≤ b) (h1 : b < 2 ^ m) (e : ∀ r, r < m → f r = bitI b (r : Nat)) : tab m f = b :=
  bits_ext (tab_nonneg h) (tab_lt h) h0 h1 fun r hr => by rw [tab_bit h hr, e r hr]
theorem tab_congr {m : Nat} {f g : Nat → Int} (e : ∀ r, r < m → f r = g r) : tab m f = tab m g := by
  unfold tab; congr 1; exact List.map_congr_left fun r hr => e r (List.mem_range.mp hr)
theorem compl_bit {b : Int} : ∀ {m r : Nat}, 0 ≤ b → b < 2 ^ m → r < m → bitI (2 ^ m - 1 - b) (r : Nat) = 1 - bitI b (r : Nat) := by
  intro m
  induction m generalizing b with
  | zero => intro r _ _ h; omega
  | succ m ih =>
    intro r h0 h1 hr
    rw [Int.pow_succ] at h1 ⊢
    have hp := two_pos m
    cases r with
    | zero =>
      show bitI _ 0 = 1 - bitI _ 0
      rw [bitI_zero, bitI_zero]
      omega
    | succ r =>
      rw [bitI_succ, bitI_succ]
      have e : (2 ^ m * 2 - 1 - b) / 2 = 2 ^ m - 1 - b / 2 := by omega
      rw [e]
      exact ih (by omega) (by omega) (by omega)
noncomputable def inTab (n j : Nat) : Int := tab (2 ^ n) fun r => bitI (r : Nat) (j : Nat)
noncomputable def putI (b : Int) (ts : List Int) (n : Nat) : Int := tab (2 ^ n) fun r => bitI b (gnum (ts.map fun t => bitI t (r : Nat)))
theorem inTab_bit {n j r : Nat} (h : r < 2 ^ n) : bitI (inTab n j) (r : Nat) = bitI (r : Nat) (j : Nat) := tab_bit (fun _ => bitI_01 _ _) h
theorem inTab_nonneg (n j : Nat) : 0 ≤ inTab n j := tab_nonneg fun _ => bitI_01 _ _
theorem inTab_lt (n j : Nat) : inTab n j < 2 ^ 2 ^ n := tab_lt fun _ => bitI_01 _ _
theorem putI_bit {b : Int} {ts : List Int} {n r : Nat} (h : r < 2 ^ n) : bitI (putI b ts n) (r : Nat) = bitI b (gnum (ts.map fun t => bitI t (r : Nat))) := tab_bit (fun _ => bitI_01 _ _) h
theorem putI_nonneg (b : Int) (ts : List Int) (n : Nat) : 0 ≤ putI b ts n := tab_nonneg fun _ => bitI_01 _ _
theorem putI_lt (b : Int) (ts : List Int) (n : Nat) : putI b ts n < 2 ^ 2 ^ n := tab_lt fun _ => bitI_01 _ _
theorem bitI_nat (r j : Nat) : bitI (r : Nat) (j : Nat) = ((r / 2 ^ j % 2 : Nat) : Int) := by
  unfold bitI
  rw [Int.toNat_natCast]
  simp
theorem row_of_bits {n r : Nat} : (List.range n).map (fun j => bitI (r : Nat) (j : Nat)) = bitsOf n r := by
  unfold bitsOf
  exact List.map_congr_left fun j _ => bitI_nat r j
end Gk
namespace Gk
theorem bitsOf_gnum {xs : List Int} (h : All01 xs) : bitsOf xs.length (gnum xs).toNat = xs := by
  refine List.ext_getElem (bitsOf_length _ _) fun j h1 h2 => ?_
  have hb := gnum_bit h (List.getElem?_eq_getElem h2)
  have hnn := gnum_nonneg h.nn
  have e : (bitsOf xs.length (gnum xs).toNat)[j] = bitI (((gnum xs).toNat : Nat) : Int) (j : Nat) := by
    simp only [bitsOf, List.getElem_map, List.getElem_range, bitI_nat]
  rw [e, Int.toNat_of_nonneg hnn]
  exact hb
theorem row_of {xs : List Int} (h : All01 xs) : ∃ r : Nat, r < 2 ^ xs.length ∧ gnum xs = (r : Nat) ∧ bitsOf xs.length r = xs := by
  have hnn := gnum_nonneg h.nn
  have hlt := gnum_lt h
  refine ⟨(gnum xs).toNat, ?_, (Int.toNat_of_nonneg hnn).symm, bitsOf_gnum h⟩
  have e : ((2 : Int) ^ xs.length) = (((2 ^ xs.length : Nat)) : Int) := by simp
  omega
theorem All01.bitsOf {k r : Nat} : All01 (bitsOf k r) := fun _ hx => bitsOf_01 hx
noncomputable def flip01 (xs : List Int) : List Int := xs.map fun x => 1 - x
theorem All01.flip {xs : List Int} (h : All01 xs) : All01 (flip01 xs) := All01.map fun x hx => by rcases h x hx with z | z <;> omega
theorem flip_flip (xs : List Int) : flip01 (flip01 xs) = xs := by
  unfold flip01
  rw [List.map_map]
  have e : ((fun x : Int => 1 - x) ∘ fun x => 1 - x) = id := by funext x; show 1 - (1 - x) = x; omega
  rw [e, List.map_id]
theorem flip_length (xs : List Int) : (flip01 xs).length = xs.length := List.length_map _
noncomputable def turnI (n : Nat) (b : Int) : Int := 2 ^ 2 ^ n - 1 - putI b ((List.range n).map fun j => 2 ^ 2 ^ n - 1 - inTab n j) n
theorem turnI_nonneg (n : Nat) (b : Int) : 0 ≤ turnI n b := by
  have := putI_lt b ((List.range n).map fun j => 2 ^ 2 ^ n - 1 - inTab n j) n
  unfold turnI; omega
theorem turnI_lt (n : Nat) (b : Int) : turnI n b < 2 ^ 2 ^ n := by
  have := putI_nonneg b ((List.range n).map fun j => 2 ^ 2 ^ n - 1 - inTab n j) n
  unfold turnI; omega
theorem turn_row {n r : Nat} {b : Int} (hr : r < 2 ^ n) : bitI (turnI n b) (r : Nat) = 1 - bitI b (gnum (flip01 (bitsOf n r))) := by
  unfold turnI
  rw [compl_bit (putI_nonneg _ _ _) (putI_lt _ _ _) hr, putI_bit hr]
  congr 3
  unfold flip01
  rw [← row_of_bits, List.map_map, List.map_map]
  refine List.map_congr_left fun j _ => ?_
  show bitI (2 ^ 2 ^ n - 1 - inTab n j) (r : Nat) = 1 - bitI (r : Nat) (j : Nat)
  rw [compl_bit (inTab_nonneg n j) (inTab_lt n j) hr, inTab_bit hr]
theorem turn_val {b : Int} {xs : List Int} (h : All01 xs) : bitI (turnI xs.length b) (gnum xs) = 1 - bitI b (gnum (flip01 xs)) := by
  obtain ⟨r, hr, e1, e2⟩ := row_of h
  rw [e1, turn_row hr, e2]
end Gk
namespace Gk
theorem bitI_z (r : Int) : bitI 0 r = 0 := by unfold bitI; simp
end Gk
namespace Gk
end Gk
namespace Prog
open PySem L3
noncomputable def m_is_whole : List PyData → Res PyData := fnR 1 (sRet (eAnd (eIsi "int" (eVar 0)) (eNot (eIsi "bool" (eVar 0)))))
noncomputable def m_is_below : List PyData → Res PyData := fnR 2 (sRet (eAnd (eCall m_is_whole [(eVar 0)]) (eChain leD ltD (eC (.int 0)) (eVar 0) (eVar 1))))
noncomputable def m_is_tuple : List PyData → Res PyData := fnR 2 (sRet (eAnd (eIsi "tuple" (eVar 0)) (eBin eqD (eFn lenD [(eVar 0)]) (eVar 1))))
noncomputable def m_row_count : List PyData → Res PyData := fnR 3 (sSeq (sSet 1 (eC (.int 1)))
    (sSeq (sFor (itR1 (eVar 0)) (gN 2) [2] (sSet 1 (eBin mulD (eC (.int 2)) (eVar 1))))
    (sRet (eVar 1))))
noncomputable def m_table_limit : List PyData → Res PyData := fnR 3 (sSeq (sSet 1 (eC (.int 2)))
    (sSeq (sFor (itR1 (eVar 0)) (gN 2) [2] (sSet 1 (eBin mulD (eVar 1) (eVar 1))))
    (sRet (eVar 1))))
noncomputable def m_full_table : List PyData → Res PyData := fnR 1 (sRet (eBin subD (eCall m_table_limit [(eVar 0)]) (eC (.int 1))))
noncomputable def m_is_gate : List PyData → Res PyData := fnR 1 (sRet (eAnd (eCall m_is_tuple [(eVar 0), (eC (.int 2))]) (eAnd (eCall m_is_below [(eBin ixD (eVar 0) (eC (.int 0))), (eBin addD (eC (.int 4)) (eC (.int 1)))]) (eCall m_is_below [(eBin ixD (eVar 0) (eC (.int 1))), (eCall m_table_limit [(eBin ixD (eVar 0) (eC (.int 0)))])]))))
noncomputable def m_bit : List PyData → Res PyData := fnR 2 (sRet (eBin andD (eBin shrD (eVar 0) (eVar 1)) (eC (.int 1))))
noncomputable def m_number_of : List PyData → Res PyData := fnR 3 (sSeq (sSet 1 (eC (.int 0)))
    (sSeq (sFor (itV (eVar 0)) (gN 2) [2] (sSet 1 (eBin addD (eBin mulD (eC (.int 2)) (eVar 1)) (eVar 2))))
    (sRet (eVar 1))))
noncomputable def m_input_table : List PyData → Res PyData := fnR 2 (sRet (eCall m_number_of [(eComp (itR1 (eCall m_row_count [(eVar 0)])) (gN 0) (eC (.bool true)) (eCall m_bit [(eVar 0), (eVar 1)]) 1 [1])]))
noncomputable def m_input_tables : List PyData → Res PyData := fnR 1 (sRet (eComp (itR1 (eVar 0)) (gN 0) (eC (.bool true)) (eCall m_input_table [(eVar 1), (eVar 0)]) 1 [0]))
noncomputable def m_put_all : List PyData → Res PyData := fnR 5 (sSeq (sSet 3 (eComp (itR1 (eCall m_row_count [(eBin ixD (eVar 0) (eC (.int 0)))])) (gN 0) (eC (.bool true)) (eBin mulD (eVar 1) (eCall m_bit [(eBin ixD (eVar 2) (eC (.int 1))), (eVar 0)])) 1 [2, 0]))
    (sSeq (sFor (itL (eVar 1)) (gN 4) [4] (sSet 3 (eComp (itR3 (eC (.int 0)) (eFn lenD [(eVar 3)]) (eC (.int 2))) (gN 0) (eC (.bool true)) (eBin orD (eBin andD (eBin ixD (eVar 1) (eVar 0)) (eUn invD (eVar 2))) (eBin andD (eBin ixD (eVar 1) (eBin addD (eVar 0) (eC (.int 1)))) (eVar 2))) 1 [3, 4])))
    (sRet (eBin ixD (eVar 3) (eC (.int 0))))))
noncomputable def m_put : List PyData → Res PyData := fnR 3 (sRet (eCall m_put_all [(eVar 0), (eVar 1), (eCall m_full_table [(eVar 2)])]))
noncomputable def m_turned : List PyData → Res PyData := fnR 4 (sSeq (sSet 1 (eBin ixD (eVar 0) (eC (.int 0))))
    (sSeq (sSet 2 (eCall m_full_table [(eVar 1)]))
    (sSeq (sSet 3 (eComp (itL (eCall m_input_tables [(eVar 1)])) (gN 0) (eC (.bool true)) (eBin subD (eVar 1) (eVar 0)) 1 [2]))
    (sRet (eTup [(eVar 1), (eBin subD (eVar 2) (eCall m_put [(eVar 0), (eVar 3), (eVar 1)]))])))))
noncomputable def m_is_step : List PyData → Res PyData := fnR 3 (sSeq (sIf (eOr (eNot (eUn truD (eCall m_is_tuple [(eVar 0), (eC (.int 2))]))) (eNot (eUn truD (eCall m_is_gate [(eBin ixD (eVar 0) (eC (.int 0)))])))) (sRet (eC (.bool false))) sNil)
    (sSeq (sSet 2 (eBin ixD (eVar 0) (eC (.int 0))))
    (sSeq (sIf (eNot (eUn truD (eCall m_is_tuple [(eBin ixD (eVar 0) (eC (.int 1))), (eBin ixD (eVar 2) (eC (.int 0)))]))) (sRet (eC (.bool false))) sNil)
    (sRet (eFn allD [(eComp (itL (eBin ixD (eVar 0) (eC (.int 1)))) (gN 0) (eC (.bool true)) (eCall m_is_below [(eVar 0), (eVar 1)]) 1 [1])])))))
noncomputable def m_is_circuit : List PyData → Res PyData := fnR 5 (sSeq (sIf (eOr (eNot (eUn truD (eCall m_is_tuple [(eVar 0), (eC (.int 3))]))) (eNot (eUn truD (eCall m_is_below [(eBin ixD (eVar 0) (eC (.int 0))), (eBin addD (eC (.int 4)) (eC (.int 1)))])))) (sRet (eC (.bool false))) sNil)
    (sSeq (sSet 1 (eBin ixD (eVar 0) (eC (.int 0))))
    (sSeq (sSet 2 (eBin ixD (eVar 0) (eC (.int 1))))
    (sSeq (sIf (eOr (eNot (eIsi "tuple" (eVar 2))) (eBin gtD (eFn lenD [(eVar 2)]) (eC (.int 600)))) (sRet (eC (.bool false))) sNil)
    (sSeq (sFor (itE (eVar 2)) (gT [(gN 3), (gN 4)]) [3, 4] (sIf (eNot (eUn truD (eCall m_is_step [(eVar 4), (eBin addD (eVar 1) (eVar 3))]))) (sRet (eC (.bool false))) sNil))
    (sRet (eCall m_is_below [(eBin ixD (eVar 0) (eC (.int 2))), (eBin addD (eVar 1) (eFn lenD [(eVar 2)]))])))))))
noncomputable def m_wires : List PyData → Res PyData := fnR 4 (sSeq (sSet 1 (eBin ixD (eVar 0) (eC (.int 0))))
    (sSeq (sSet 2 (eCall m_input_tables [(eVar 1)]))
    (sSeq (sFor (itL (eBin ixD (eVar 0) (eC (.int 1)))) (gN 3) [3] (sApp 2 (eCall m_put [(eBin ixD (eVar 3) (eC (.int 0))), (eComp (itL (eBin ixD (eVar 3) (eC (.int 1)))) (gN 0) (eC (.bool true)) (eBin ixD (eVar 1) (eVar 0)) 1 [2]), (eVar 1)])))
    (sRet (eVar 2)))))
noncomputable def m_gate_of : List PyData → Res PyData := fnR 1 (sRet (eTup [(eBin ixD (eVar 0) (eC (.int 0))), (eBin ixD (eCall m_wires [(eVar 0)]) (eBin ixD (eVar 0) (eC (.int 2))))]))
noncomputable def m_renamed : List PyData → Res PyData := fnR 2 (sRet (eTup [(eBin ixD (eVar 0) (eC (.int 0))), (eFn tupleD [(eComp (itL (eBin ixD (eVar 0) (eC (.int 1)))) (gN 0) (eC (.bool true)) (eBin ixY (eVar 1) (eVar 0)) 1 [1])])]))
noncomputable def m_add_circuit : List PyData → Res PyData := fnR 6 (sSeq (sSet 4 (eFn listD [(eVar 3)]))
    (sSeq (sFor (itL (eBin ixD (eVar 2) (eC (.int 1)))) (gN 5) [5] (sSeq (sApp 0 (eCall m_renamed [(eVar 5), (eVar 4)]))
    (sApp 4 (eBin subD (eBin addD (eVar 1) (eFn lenD [(eVar 0)])) (eC (.int 1))))))
    (sRetM 0 (eBin ixD (eVar 4) (eBin ixD (eVar 2) (eC (.int 2)))))))
noncomputable def m_joined : List PyData → Res PyData := fnR 7 (sSeq (sIf (eBin gtD (eBin addD (eFn lenD [(eBin ixD (eVar 0) (eC (.int 1)))]) (eFn sumD [(eComp (itL (eVar 1)) (gN 0) (eC (.bool true)) (eFn lenD [(eBin ixD (eVar 0) (eC (.int 1)))]) 1 [])])) (eC (.int 600))) sBad sNil)
    (sSeq (sIf (eBin eqD (eFn lenD [(eVar 1)]) (eC (.int 0))) (sRet (eVar 0)) sNil)
    (sSeq (sSet 2 (eBin ixD (eBin ixD (eVar 1) (eC (.int 0))) (eC (.int 0))))
    (sSeq (sSet 3 (eLst []))
    (sSeq (sSet 4 (eLst []))
    (sSeq (sFor (itL (eVar 1)) (gN 5) [5] (sAppM 4 3 m_add_circuit [(eVar 3), (eVar 2), (eVar 5), (eUn lrD (eVar 2))]))
    (sSeq (sSetM 6 3 m_add_circuit [(eVar 3), (eVar 2), (eVar 0), (eVar 4)])
    (sRet (eTup [(eVar 2), (eFn tupleD [(eVar 3)]), (eVar 6)])))))))))
noncomputable def m_without_doubles : List PyData → Res PyData := fnR 7 (sSeq (sSet 1 (eBin ixD (eVar 0) (eC (.int 0))))
    (sSeq (sSet 2 (eUn lrD (eVar 1)))
    (sSeq (sSet 3 (eLst []))
    (sSeq (sSet 4 (eDct []))
    (sSeq (sFor (itL (eBin ixD (eVar 0) (eC (.int 1)))) (gN 5) [5, 6] (sSeq (sSet 6 (eCall m_renamed [(eVar 5), (eVar 2)]))
    (sSeq (sIf (eNotInN 4 (eVar 6)) (sSeq (sPutN 4 (eVar 6) (eBin addD (eVar 1) (eFn lenD [(eVar 3)])))
    (sApp 3 (eVar 6))) sNil)
    (sApp 2 (eIxN 4 (eVar 6))))))
    (sRet (eTup [(eVar 1), (eFn tupleD [(eVar 3)]), (eBin ixD (eVar 2) (eBin ixD (eVar 0) (eC (.int 2))))])))))))
noncomputable def m_used_wires : List PyData → Res PyData := fnR 6 (sSeq (sSet 1 (eBin ixD (eVar 0) (eC (.int 0))))
    (sSeq (sSet 2 (eBin ixD (eVar 0) (eC (.int 1))))
    (sSeq (sSet 3 (eDctK (eBin ixD (eVar 0) (eC (.int 2))) (eC (.bool true))))
    (sSeq (sFor (itR3 (eBin subD (eFn lenD [(eVar 2)]) (eC (.int 1))) (eUn negD (eC (.int 1))) (eUn negD (eC (.int 1)))) (gN 4) [4, 5] (sIf (eBin inY (eBin addD (eVar 1) (eVar 4)) (eVar 3)) (sFor (itL (eBin ixD (eBin ixD (eVar 2) (eVar 4)) (eC (.int 1)))) (gN 5) [5] (sPutD 3 (eVar 5) (eC (.bool true)))) sNil))
    (sRet (eVar 3))))))
noncomputable def m_without_unused : List PyData → Res PyData := fnR 8 (sSeq (sSet 1 (eBin ixD (eVar 0) (eC (.int 0))))
    (sSeq (sSet 2 (eCall m_used_wires [(eVar 0)]))
    (sSeq (sSet 3 (eDct []))
    (sSeq (sFor (itR1 (eVar 1)) (gN 4) [4] (sPutD 3 (eVar 4) (eVar 4)))
    (sSeq (sSet 5 (eLst []))
    (sSeq (sFor (itE (eBin ixD (eVar 0) (eC (.int 1)))) (gT [(gN 6), (gN 7)]) [6, 7] (sIf (eBin inY (eBin addD (eVar 1) (eVar 6)) (eVar 2)) (sSeq (sApp 5 (eCall m_renamed [(eVar 7), (eVar 3)]))
    (sPutD 3 (eBin addD (eVar 1) (eVar 6)) (eBin subD (eBin addD (eVar 1) (eFn lenD [(eVar 5)])) (eC (.int 1))))) sNil))
    (sRet (eTup [(eVar 1), (eFn tupleD [(eVar 5)]), (eBin ixY (eVar 3) (eBin ixD (eVar 0) (eC (.int 2))))]))))))))
noncomputable def m_shared : List PyData → Res PyData := fnR 1 (sRet (eCall m_without_unused [(eCall m_without_doubles [(eVar 0)])]))
noncomputable def m_turned_circuit : List PyData → Res PyData := fnR 2 (sSeq (sSet 1 (eComp (itL (eBin ixD (eVar 0) (eC (.int 1)))) (gN 0) (eC (.bool true)) (eTup [(eCall m_turned [(eBin ixD (eVar 0) (eC (.int 0)))]), (eBin ixD (eVar 0) (eC (.int 1)))]) 1 []))
    (sRet (eTup [(eBin ixD (eVar 0) (eC (.int 0))), (eFn tupleD [(eVar 1)]), (eBin ixD (eVar 0) (eC (.int 2)))])))
noncomputable def m_spread_size : List PyData → Res PyData := fnR 3 (sSeq (sSet 1 (eBin repD (eLst [(eC (.int 0))]) (eBin ixD (eVar 0) (eC (.int 0)))))
    (sSeq (sFor (itL (eBin ixD (eVar 0) (eC (.int 1)))) (gN 2) [2] (sApp 1 (eBin addD (eC (.int 1)) (eFn sumD [(eComp (itL (eBin ixD (eVar 2) (eC (.int 1)))) (gN 0) (eC (.bool true)) (eBin ixD (eVar 1) (eVar 0)) 1 [1])]))))
    (sRet (eBin ixD (eVar 1) (eBin ixD (eVar 0) (eC (.int 2)))))))
noncomputable def m_spread : List PyData → Res PyData := fnR 3 (sSeq (sIf (eBin gtD (eCall m_spread_size [(eVar 0)]) (eC (.int 300))) sBad sNil)
    (sSeq (sSet 1 (eUn lrD (eBin ixD (eVar 0) (eC (.int 0)))))
    (sSeq (sFor (itL (eBin ixD (eVar 0) (eC (.int 1)))) (gN 2) [2] (sApp 1 (eTup [(eBin ixD (eVar 2) (eC (.int 0))), (eFn tupleD [(eComp (itL (eBin ixD (eVar 2) (eC (.int 1)))) (gN 0) (eC (.bool true)) (eBin ixD (eVar 1) (eVar 0)) 1 [1])])])))
    (sRet (eBin ixD (eVar 1) (eBin ixD (eVar 0) (eC (.int 2))))))))
noncomputable def m_add_tree : Nat → List PyData → Res PyData
  | 0 => fun _ => .bad
  | fu + 1 => fnR 5 (sSeq (sIf (eUn truD (eCall m_is_whole [(eVar 2)])) (sRetM 0 (eVar 2)) sNil)
    (sSeq (sSet 3 (eLst []))
    (sSeq (sFor (itL (eBin ixD (eVar 2) (eC (.int 1)))) (gN 4) [4] (sAppM 3 0 (m_add_tree fu) [(eVar 0), (eVar 1), (eVar 4)]))
    (sSeq (sApp 0 (eTup [(eBin ixD (eVar 2) (eC (.int 0))), (eFn tupleD [(eVar 3)])]))
    (sRetM 0 (eBin subD (eBin addD (eVar 1) (eFn lenD [(eVar 0)])) (eC (.int 1))))))))
noncomputable def m_tree_circuit : List PyData → Res PyData := fnR 4 (sSeq (sSet 2 (eLst []))
    (sSeq (sSetM 3 2 (m_add_tree 100) [(eVar 2), (eVar 1), (eVar 0)])
    (sRet (eTup [(eVar 1), (eFn tupleD [(eVar 2)]), (eVar 3)]))))
end Prog
theorem L2.sizeLine_eq : PySem.sizeLine = 16777216 := by decide
namespace L3
open PySem L2
theorem gv_zero {o : Option PyData} {Γ : Ev} : gv (o :: Γ) 0 = o := rfl
theorem gv_succ {o : Option PyData} {Γ : Ev} {i : Nat} : gv (o :: Γ) (i + 1) = gv Γ i := rfl
theorem eVar_zero {d : PyData} {Γ : Ev} : eVar 0 (some d :: Γ) = .ok d := rfl
theorem eVar_succ {o : Option PyData} {Γ : Ev} {i : Nat} : eVar (i + 1) (o :: Γ) = eVar i Γ := rfl
theorem eC_app {d : PyData} {Γ : Ev} : eC d Γ = .ok d := rfl
theorem eBin_app {f : PyData → PyData → Res PyData} {a b : ME} {Γ : Ev} : eBin f a b Γ = (a Γ).bind fun x => (b Γ).bind fun y => f x y := rfl
theorem eUn_app {f : PyData → Res PyData} {a : ME} {Γ : Ev} : eUn f a Γ = (a Γ).bind f := rfl
theorem eFn_app {f : List PyData → Res PyData} {ms : List ME} {Γ : Ev} : eFn f ms Γ = (evs ms Γ).bind f := rfl
theorem eCall_app {f : List PyData → Res PyData} {ms : List ME} {Γ : Ev} : eCall f ms Γ = (evs ms Γ).bind f := rfl
theorem evs_nil {Γ : Ev} : evs [] Γ = .ok [] := rfl
theorem evs_cons {m : ME} {ms : List ME} {Γ : Ev} : evs (m :: ms) Γ = (m Γ).bind fun d => (evs ms Γ).bind fun ds => .ok (d :: ds) := rfl
theorem eTup_app {ms : List ME} {Γ : Ev} : eTup ms Γ = (evs ms Γ).bind fun ds => .ok (.tuple ds) := rfl
theorem eLst_app {ms : List ME} {Γ : Ev} : eLst ms Γ = (evs ms Γ).bind fun ds => .ok (.list ds) := rfl
theorem eIsi_app {T : String} {a : ME} {Γ : Ev} : eIsi T a Γ = (a Γ).bind fun d => .ok (.bool (isiD T d)) := rfl
noncomputable def bT (x : PyData) (a b : Res PyData) : Res PyData := match x with
  | .bool true => a
  | .bool false => b
  | _ => .bad
noncomputable def bS (x : PyData) (a b : Res Out) : Res Out := match x with
  | .bool true => a
  | .bool false => b
  | _ => .bad
theorem bT_true {a b : Res PyData} : bT (.bool true) a b = a := rfl
theorem bT_false {a b : Res PyData} : bT (.bool false) a b = b := rfl
theorem bS_true {a b : Res Out} : bS (.bool true) a b = a := rfl
theorem bS_false {a b : Res Out} : bS (.bool false) a b = b := rfl
theorem bT_dec {c : Bool} {a b : Res PyData} : bT (.bool c) a b = if c = true then a else b := by cases c <;> rfl
theorem bS_dec {c : Bool} {a b : Res Out} : bS (.bool c) a b = if c = true then a else b := by cases c <;> rfl
theorem eAnd_app {a b : ME} {Γ : Ev} : eAnd a b Γ = (a Γ).bind fun x => bT x (b Γ) (.ok (.bool false)) := by
  unfold eAnd bT; rfl
theorem eOr_app {a b : ME} {Γ : Ev} : eOr a b Γ = (a Γ).bind fun x => bT x (.ok (.bool true)) (b Γ) := by
  unfold eOr; congr 1; funext x; cases x <;> first | rfl | (rename_i b; cases b <;> rfl)
noncomputable def notD : PyData → Res PyData
  | .bool t => .ok (.bool (!t))
  | _ => .bad
theorem notD_app {t : Bool} : notD (.bool t) = .ok (.bool (!t)) := rfl
theorem eNot_app {a : ME} {Γ : Ev} : eNot a Γ = (a Γ).bind notD := rfl
noncomputable def seqO (b : MS) : Out → Res Out
  | .nx Γ' => b Γ'
  | .rt d => .ok (.rt d)
  | .bk Γ' => .ok (.bk Γ')
  | .ct Γ' => .ok (.ct Γ')
theorem seqO_nx {b : MS} {Γ : Ev} : seqO b (.nx Γ) = b Γ := rfl
theorem seqO_rt {b : MS} {d : PyData} : seqO b (.rt d) = .ok (.rt d) := rfl
theorem sSeq_app {a b : MS} {Γ : Ev} : sSeq a b Γ = (a Γ).bind (seqO b) := by
  unfold sSeq seqO; rfl
theorem gd_true {α : Type} {r : Res α} : gd True r = r := rfl
theorem sSet_app {i : Nat} {m : ME} {Γ : Ev} : sSet i m Γ = (m Γ).bind fun d => gd (i < Γ.length) (.ok (.nx (Γ.set i (some d)))) := rfl
theorem sIf_app {c : ME} {a b : MS} {Γ : Ev} : sIf c a b Γ = (c Γ).bind fun x => bS x (a Γ) (b Γ) := by
  unfold sIf bS; rfl
theorem sRet_app {m : ME} {Γ : Ev} : sRet m Γ = (m Γ).bind fun d => .ok (.rt d) := rfl
theorem sNil_app {Γ : Ev} : sNil Γ = .ok (.nx Γ) := rfl
theorem sAsg_app {g : MG} {m : ME} {Γ : Ev} : sAsg g m Γ = (m Γ).bind fun d => (g d Γ).bind fun Γ' => .ok (.nx Γ') := rfl
theorem sFor_app {it : MI} {g : MG} {cl : List Nat} {b : MS} {Γ : Ev} : sFor it g cl b Γ = (it Γ).bind fun xs => forR g cl b xs Γ := rfl
noncomputable def fin : Out → Res PyData
  | .rt d => .ok d
  | _ => .bad
theorem fin_rt {d : PyData} : fin (.rt d) = .ok d := rfl
theorem fnR_app {n : Nat} {m : MS} {ds : List PyData} : fnR n m ds = (m (ds.map some ++ List.replicate (n - ds.length) none)).bind fin := by
  unfold fnR; rfl
noncomputable def appD (Γ : Ev) (i : Nat) (d : PyData) : Option PyData → Res Out
  | some (.list ds) => gd (ds.length < sizeLine ∧ i < Γ.length) (.ok (.nx (Γ.set i (some (.list (ds ++ [d]))))))
  | _ => .bad
theorem appD_app {Γ : Ev} {i : Nat} {d : PyData} {ds : List PyData} : appD Γ i d (some (.list ds)) = gd (ds.length < sizeLine ∧ i < Γ.length) (.ok (.nx (Γ.set i (some (.list (ds ++ [d])))))) := rfl
theorem sApp_app {i : Nat} {m : ME} {Γ : Ev} : sApp i m Γ = (m Γ).bind fun d => appD Γ i d (gv Γ i) := by
  unfold sApp appD; rfl
theorem gN_app {i : Nat} {d : PyData} {Γ : Ev} : gN i d Γ = gd (i < Γ.length) (.ok (Γ.set i (some d))) := rfl
theorem gT_app {gs : List MG} {ds : List PyData} {Γ : Ev} : gT gs (.tuple ds) Γ = gTs gs ds Γ := rfl
theorem gTs_nil {Γ : Ev} : gTs [] [] Γ = .ok Γ := rfl
theorem gTs_cons {g : MG} {gs : List MG} {d : PyData} {ds : List PyData} {Γ : Ev} : gTs (g :: gs) (d :: ds) Γ = (g d Γ).bind fun Γ' => gTs gs ds Γ' := rfl
noncomputable def seqD : PyData → Res (List PyData)
  | .list ds => .ok ds
  | .tuple ds => .ok ds
  | _ => .bad
theorem seqD_list {ds : List PyData} : seqD (.list ds) = .ok ds := rfl
theorem seqD_tuple {ds : List PyData} : seqD (.tuple ds) = .ok ds := rfl
theorem itL_app {m : ME} {Γ : Ev} : itL m Γ = (m Γ).bind seqD := by
  unfold itL seqD; rfl
noncomputable def upN (n : Nat) : List PyData := (List.range n).map fun i => PyData.int (i : Nat)
noncomputable def rng1 : PyData → Res (List PyData)
  | .int j => gd (-(2 ^ 62) ≤ j ∧ j < 2 ^ 62) (.ok (upN j.toNat))
  | _ => .bad
theorem rng1_app {j : Int} : rng1 (.int j) = gd (-(2 ^ 62) ≤ j ∧ j < 2 ^ 62) (.ok (upN j.toNat)) := rfl
theorem rng1_nat {n : Nat} (h : n < 2 ^ 62) : rng1 (.int (n : Nat)) = .ok (upN n) := by
  rw [rng1_app, gd_pos (by omega), Int.toNat_natCast]
theorem itR1_app {m : ME} {Γ : Ev} : itR1 m Γ = (m Γ).bind rng1 := by
  unfold itR1; congr 1; funext d
  cases d with
  | int j => show gd _ _ = gd _ _; congr 2; unfold upN; simp only [Int.zero_add]
  | _ => rfl
noncomputable def revD : PyData → Res (List PyData)
  | .list ds => .ok ds.reverse
  | _ => .bad
theorem revD_app {ds : List PyData} : revD (.list ds) = .ok ds.reverse := rfl
theorem itV_app {m : ME} {Γ : Ev} : itV m Γ = (m Γ).bind revD := by
  unfold itV revD; rfl
theorem clr_nil {Γ : Ev} : clr [] Γ = Γ := rfl
theorem clr_cons {i : Nat} {l : List Nat} {Γ : Ev} : clr (i :: l) Γ = clr l (Γ.set i none) := rfl
theorem addD_int {a b : Int} : addD (.int a) (.int b) = .ok (.int (a + b)) := rfl
theorem subD_int {a b : Int} : subD (.int a) (.int b) = .ok (.int (a - b)) := rfl
theorem mulD_int {a b : Int} : mulD (.int a) (.int b) = gd (CMul a b) (.ok (.int (a * b))) := rfl
theorem fdivD_int {a b : Int} : fdivD (.int a) (.int b) = gd (CDiv a b) (.ok (.int (a / b))) := rfl
theorem modD_int {a b : Int} : modD (.int a) (.int b) = gd (0 < b) (.ok (.int (a % b))) := rfl
theorem shlD_int {a b : Int} : shlD (.int a) (.int b) = gd (CPow a b) (.ok (.int (a * 2 ^ b.toNat))) := rfl
theorem shrD_int {a b : Int} : shrD (.int a) (.int b) = gd (0 ≤ b) (.ok (.int (a / 2 ^ b.toNat))) := rfl
theorem andD_int {a b : Int} : andD (.int a) (.int b) = .ok (.int (Builtin.bitAnd a b)) := rfl
theorem ltD_int {a b : Int} : ltD (.int a) (.int b) = .ok (.bool (decide (a < b))) := rfl
theorem leD_int {a b : Int} : leD (.int a) (.int b) = .ok (.bool (decide (a ≤ b))) := rfl
theorem gtD_int {a b : Int} : gtD (.int a) (.int b) = .ok (.bool (decide (b < a))) := rfl
theorem shaped_int {a : Int} : SeqAt.shaped (.int a) = true := by unfold SeqAt.shaped; rw [PyData.canLay0, PyData.depth]; rfl
theorem eqD_int {a b : Int} : eqD (.int a) (.int b) = .ok (.bool (decide (a = b))) := by
  unfold eqD; rw [gd_pos ⟨shaped_int, shaped_int⟩, PyData.eqv]; congr 2
mutual
noncomputable def plain : PyData → Bool
  | .int _ => true
  | .none => true
  | .list ds => plains ds
  | .tuple ds => plains ds
  | .bool _ => false
  | .str _ => false
  | .dict _ => false
noncomputable def plains : List PyData → Bool
  | [] => true
  | d :: ds => plain d && plains ds
end
mutual
theorem plain_lay : ∀ (d : PyData), plain d = true → d.canLay0 = true
  | .int _, _ => by rw [PyData.canLay0]
  | .none, _ => by rw [PyData.canLay0]
  | .list ds, h => by rw [PyData.canLay0]; exact plains_lay ds (by rw [plain] at h; exact h)
  | .tuple ds, h => by rw [PyData.canLay0]; exact plains_lay ds (by rw [plain] at h; exact h)
  | .bool _, h => by rw [plain] at h; cases h
  | .str _, h => by rw [plain] at h; cases h
  | .dict _, h => by rw [plain] at h; cases h
theorem plains_lay : ∀ (ds : List PyData), plains ds = true → PyData.canLayAll0 ds = true
  | [], _ => by rw [PyData.canLayAll0]
  | d :: ds, h => by
    rw [plains, Bool.and_eq_true] at h
    rw [PyData.canLayAll0, plain_lay d h.1, plains_lay ds h.2]; rfl
end
mutual
theorem plain_eqv : ∀ (d e : PyData), plain d = true → plain e = true → (PyData.eqv d e = true ↔ d = e)
  | .int a, .int b, _, _ => by rw [PyData.eqv]; simp
  | .none, .none, _, _ => by rw [PyData.eqv]; simp
  | .list ds, .list es, h, g => by
    rw [plain] at h g
    rw [PyData.eqv, plains_eqv ds es h g]
    exact ⟨fun z => by rw [z], fun z => by cases z; rfl⟩
  | .tuple ds, .tuple es, h, g => by
    rw [plain] at h g
    rw [PyData.eqv, plains_eqv ds es h g]
    exact ⟨fun z => by rw [z], fun z => by cases z; rfl⟩
  | .int _, .none, _, _ | .int _, .list _, _, _ | .int _, .tuple _, _, _ | .none, .int _, _, _ | .none, .list _, _, _ | .none, .tuple _, _, _
  | .list _, .int _, _, _ | .list _, .none, _, _ | .list _, .tuple _, _, _ | .tuple _, .int _, _, _ | .tuple _, .none, _, _ | .tuple _, .list _, _, _ => by
    rw [PyData.eqv]; exact ⟨(fun z => nomatch z), (fun z => nomatch z)⟩
  | .bool _, _, h, _ => by rw [plain] at h; cases h
  | .str _, _, h, _ => by rw [plain] at h; cases h
  | .dict _, _, h, _ => by rw [plain] at h; cases h
  | _, .bool _, _, h => by rw [plain] at h; cases h
  | _, .str _, _, h => by rw [plain] at h; cases h
  | _, .dict _, _, h => by rw [plain] at h; cases h
theorem plains_eqv : ∀ (ds es : List PyData), plains ds = true → plains es = true → (PyData.eqvAll ds es = true ↔ ds = es)
  | [], [], _, _ => by rw [PyData.eqvAll]; simp
  | [], _ :: _, _, _ => by rw [PyData.eqvAll]; simp
  | _ :: _, [], _, _ => by rw [PyData.eqvAll]; simp
  | d :: ds, e :: es, h, g => by
    rw [plains, Bool.and_eq_true] at h g
    rw [PyData.eqvAll, Bool.and_eq_true, plain_eqv d e h.1 g.1, plains_eqv ds es h.2 g.2]
    simp
end
theorem shaped_of {d : PyData} (h : plain d = true) (hd : d.depth ≤ 64) : SeqAt.shaped d = true := by
  unfold SeqAt.shaped; rw [plain_lay d h, decide_eq_true hd]; rfl
theorem eqD_plain {a b : PyData} (ha : plain a = true) (hb : plain b = true) (da : a.depth ≤ 64) (db : b.depth ≤ 64) : (eqD a b = .ok (.bool true) ↔ a = b) ∧ (eqD a b = .ok (.bool false) ↔ a ≠ b) ∧ (neD a b = .ok (.bool true) ↔ a ≠ b) ∧ (neD a b = .ok (.bool false) ↔ a = b) := by
  unfold eqD neD
  rw [gd_pos ⟨shaped_of ha da, shaped_of hb db⟩, gd_pos ⟨shaped_of ha da, shaped_of hb db⟩]
  have h := plain_eqv a b ha hb
  cases q : PyData.eqv a b with
  | true => have e := h.mp q; simp [e]
  | false => have e : a ≠ b := fun z => by rw [h.mpr z] at q; cases q
             simp [e]
theorem eqD_same {a : PyData} (ha : plain a = true) (da : a.depth ≤ 64) : eqD a a = .ok (.bool true) := (eqD_plain ha ha da da).1.mpr rfl
theorem plains_ints : ∀ ns : List Int, plains (ns.map PyData.int) = true
  | [] => by rw [List.map_nil, plains]
  | n :: ns => by rw [List.map_cons, plains, plain, plains_ints ns]; rfl
theorem plain_ints (ns : List Int) : plain (.list (ns.map PyData.int)) = true := by rw [plain]; exact plains_ints ns
theorem plain_tints (ns : List Int) : plain (.tuple (ns.map PyData.int)) = true := by rw [plain]; exact plains_ints ns
theorem depth_list_ints (ns : List Int) : (PyData.list (ns.map PyData.int)).depth ≤ 64 := by rw [PyData.depth, depth_ints]; decide
theorem depth_tuple_ints (ns : List Int) : (PyData.tuple (ns.map PyData.int)).depth ≤ 64 := by rw [PyData.depth, depth_ints]; decide
theorem map_int_inj {a b : List Int} (h : a.map PyData.int = b.map PyData.int) : a = b := by
  have := intsOf_map a
  rw [h, intsOf_map] at this
  exact (Option.some.inj this).symm
theorem neD_lints {a b : List Int} : neD (.list (a.map PyData.int)) (.list (b.map PyData.int)) = .ok (.bool (!decide (a = b))) := by
  have h := eqD_plain (plain_ints a) (plain_ints b) (depth_list_ints a) (depth_list_ints b)
  by_cases e : a = b
  · subst e; rw [h.2.2.2.mpr rfl]; simp
  · rw [h.2.2.1.mpr fun z => e (map_int_inj (PyData.list.inj z))]; simp [e]
noncomputable def clrO (cl : List Nat) : Out → Res Out
  | .nx Γ => .ok (.nx (clr cl Γ))
  | .ct Γ => .ok (.nx (clr cl Γ))
  | .bk Γ => .ok (.bk (clr cl Γ))
  | .rt d => .ok (.rt d)
theorem clrO_nx {cl : List Nat} {Γ : Ev} : clrO cl (.nx Γ) = .ok (.nx (clr cl Γ)) := rfl
noncomputable def Goes (r : Res Out) (P : Ev → Prop) : Prop := ∃ Γ, r = .ok (.nx Γ) ∧ P Γ
theorem Goes_ok {Γ : Ev} {P : Ev → Prop} : Goes (.ok (.nx Γ)) P ↔ P Γ := ⟨fun hq__ => by obtain ⟨Γ', e, h⟩ := hq__; cases e; exact h, fun h => ⟨Γ, rfl, h⟩⟩
theorem turn_ok {g : MG} {cl : List Nat} {b : MS} {x : PyData} {xs : List PyData} {Γ Γ' : Ev} (h : ((g x Γ).bind b).bind (clrO cl) = .ok (.nx Γ')) : forR g cl b (x :: xs) Γ = forR g cl b xs Γ' := by
  obtain ⟨o, h1, h2⟩ := Res.bind_ok h
  obtain ⟨Γ1, h3, h4⟩ := Res.bind_ok h1
  rw [forR, h3, Res.ok_bind, h4, Res.ok_bind]
  cases o <;> cases h2 <;> rfl
theorem forR_inv {g : MG} {cl : List Nat} {b : MS} (I : Nat → Ev → Prop) : ∀ {xs : List PyData} {Γ : Ev}, I 0 Γ →
    (∀ i x Γ, xs[i]? = some x → I i Γ → Goes (((g x Γ).bind b).bind (clrO cl)) (I (i + 1))) → ∃ Γ', forR g cl b xs Γ = .ok (.nx Γ') ∧ I xs.length Γ' := by
  intro xs
  induction xs generalizing I with
  | nil => intro Γ h0 _; exact ⟨Γ, rfl, h0⟩
  | cons x xs ih =>
    intro Γ h0 hs
    obtain ⟨Γ2, e, h2⟩ := hs 0 x Γ rfl h0
    obtain ⟨Γ', e3, h3⟩ := ih (fun i => I (i + 1)) h2 fun i y Γ hy h => hs (i + 1) y Γ (by simpa using hy) h
    refine ⟨Γ', ?_, h3⟩
    rw [turn_ok e]
    exact e3
theorem forR_eq {g : MG} {cl : List Nat} {b : MS} {xs : List PyData} {Γ : Ev} (S : Nat → Ev) (h0 : Γ = S 0)
    (h : ∀ i x, xs[i]? = some x → ((g x (S i)).bind b).bind (clrO cl) = .ok (.nx (S (i + 1)))) : forR g cl b xs Γ = .ok (.nx (S xs.length)) := by
  obtain ⟨Γ', e, h'⟩ := forR_inv (g := g) (cl := cl) (b := b) (fun i Γ => Γ = S i) (xs := xs) (Γ := Γ) h0 fun i x Γ hx hI => by
    subst hI
    exact ⟨_, h i x hx, rfl⟩
  rw [e, h']
theorem forR_bind {α : Type} {g : MG} {cl : List Nat} {b : MS} {xs : List PyData} {Γ : Ev} {f : Out → Res α} {r : Res α} (S : Nat → Ev) (h0 : Γ = S 0)
    (h : ∀ i x, xs[i]? = some x → ((g x (S i)).bind b).bind (clrO cl) = .ok (.nx (S (i + 1)))) (k : f (.nx (S xs.length)) = r) : (forR g cl b xs Γ).bind f = r := by
  rw [forR_eq S h0 h]; exact k
theorem forR_binv {α : Type} {g : MG} {cl : List Nat} {b : MS} {xs : List PyData} {Γ : Ev} {f : Out → Res α} {r : Res α} (I : Nat → Ev → Prop) (h0 : I 0 Γ)
    (h : ∀ i x Γ, xs[i]? = some x → I i Γ → Goes (((g x Γ).bind b).bind (clrO cl)) (I (i + 1))) (k : ∀ Γ, I xs.length Γ → f (.nx Γ) = r) : (forR g cl b xs Γ).bind f = r := by
  obtain ⟨Γ', e, h'⟩ := forR_inv I h0 h
  rw [e]; exact k Γ' h'
theorem Res.bind_assoc {α β γ : Type} {r : Res α} {f : α → Res β} {g : β → Res γ} : (r.bind f).bind g = r.bind fun a => (f a).bind g := by cases r <;> rfl
theorem compR_map {g : MG} {e : ME} {Γ : Ev} (F : PyData → PyData) : ∀ {xs : List PyData}, (∀ x ∈ xs, (g x Γ).bind e = .ok (F x)) → compR g (eC (.bool true)) e Γ xs = .ok (xs.map F)
  | [], _ => rfl
  | x :: xs, h => by
    obtain ⟨Γ1, e1, e2⟩ := Res.bind_ok (h x List.mem_cons_self)
    rw [compR, e1, Res.ok_bind, eC_app, Res.ok_bind]
    show (e Γ1).bind _ = _
    rw [e2, Res.ok_bind, compR_map F fun y hy => h y (List.mem_cons_of_mem _ hy)]
    rfl
theorem eComp_map {it : MI} {g : MG} {e : ME} {nt : Nat} {ix : List Nat} {Γ : Ev} {xs : List PyData} (F : PyData → PyData) (hi : it Γ = .ok xs) (hz : xs.length < sizeLine) (h : ∀ x ∈ xs, (g x (blockE nt ix Γ)).bind e = .ok (F x)) :
    eComp it g (eC (.bool true)) e nt ix Γ = .ok (.list (xs.map F)) := by
  unfold eComp
  rw [hi, Res.ok_bind, gd_pos hz, compR_map F h]
  rfl
theorem eComp_upN {it : MI} {g : MG} {e : ME} {nt : Nat} {ix : List Nat} {Γ : Ev} {n : Nat} (F : Nat → PyData) (hi : it Γ = .ok (upN n)) (hz : n < sizeLine) (h : ∀ i, i < n → (g (.int (i : Nat)) (blockE nt ix Γ)).bind e = .ok (F i)) :
    eComp it g (eC (.bool true)) e nt ix Γ = .ok (.list ((List.range n).map F)) := by
  have e1 : (upN n).map (fun d => match d with | .int i => F i.toNat | _ => .none) = (List.range n).map F := by
    unfold upN
    rw [List.map_map]
    refine List.map_congr_left fun i _ => ?_
    show F ((i : Nat) : Int).toNat = F i
    rw [Int.toNat_natCast]
  rw [← e1]
  refine eComp_map _ hi (by unfold upN; rw [List.length_map, List.length_range]; exact hz) fun x hx => ?_
  obtain ⟨i, hi, rfl⟩ := List.mem_map.mp hx
  show _ = Res.ok (F ((i : Nat) : Int).toNat)
  rw [Int.toNat_natCast]
  exact h i (List.mem_range.mp hi)
theorem eComp_ints {it : MI} {g : MG} {e : ME} {nt : Nat} {ix : List Nat} {Γ : Ev} {ns : List Int} (F : Int → PyData) (hi : it Γ = .ok (ns.map PyData.int)) (hz : ns.length < sizeLine) (h : ∀ x ∈ ns, (g (.int x) (blockE nt ix Γ)).bind e = .ok (F x)) :
    eComp it g (eC (.bool true)) e nt ix Γ = .ok (.list (ns.map F)) := by
  have e1 : (ns.map PyData.int).map (fun d => match d with | .int i => F i | _ => .none) = ns.map F := by
    rw [List.map_map]; rfl
  rw [← e1]
  refine eComp_map _ hi (by rw [List.length_map]; exact hz) fun x hx => ?_
  obtain ⟨i, hi, rfl⟩ := List.mem_map.mp hx
  exact h i hi
theorem upN_get {n i : Nat} {x : PyData} (h : (upN n)[i]? = some x) : i < n ∧ x = .int (i : Nat) := by
  unfold upN at h
  rw [List.getElem?_map] at h
  rcases Nat.lt_or_ge i n with hi | hi
  · rw [List.getElem?_range hi] at h; exact ⟨hi, (Option.some.inj h).symm⟩
  · rw [List.getElem?_eq_none (by rw [List.length_range]; exact hi)] at h; cases h
theorem upN_length (n : Nat) : (upN n).length = n := by unfold upN; rw [List.length_map, List.length_range]
theorem ints_get {ns : List Int} {i : Nat} {x : PyData} (h : (ns.map PyData.int)[i]? = some x) : ∃ v, x = .int v ∧ ns[i]? = some v := by
  rw [List.getElem?_map] at h
  cases e : ns[i]? with
  | none => rw [e] at h; cases h
  | some v => rw [e] at h; exact ⟨v, (Option.some.inj h).symm, rfl⟩
theorem blockE_app {nt : Nat} {ix : List Nat} {Γ : Ev} : blockE nt ix Γ = List.replicate nt none ++ ix.map (gv Γ) := rfl
theorem ixD_list {ds : List PyData} {i : Nat} {d : PyData} (h : ds[i]? = some d) : ixD (.list ds) (.int (i : Nat)) = .ok d := by
  show (match L2.atI ds (i : Nat) with | some d => Res.ok d | none => .bad) = _
  rw [L2.atI_nat h]
theorem ixD_tuple {ds : List PyData} {i : Nat} {d : PyData} (h : ds[i]? = some d) : ixD (.tuple ds) (.int (i : Nat)) = .ok d := by
  show (match L2.atI ds (i : Nat) with | some d => Res.ok d | none => .bad) = _
  rw [L2.atI_nat h]
theorem lenD_list {ds : List PyData} : lenD [.list ds] = .ok (.int ds.length) := rfl
theorem lenD_tuple {ds : List PyData} : lenD [.tuple ds] = .ok (.int ds.length) := rfl
theorem listD_list {ds : List PyData} : listD [.list ds] = .ok (.list ds) := rfl
theorem tupleD_list {ds : List PyData} : tupleD [.list ds] = .ok (.tuple ds) := rfl
theorem truD_bool {b : Bool} : truD (.bool b) = .ok (.bool b) := rfl
noncomputable def enmD : PyData → Res (List PyData)
  | .list ds => .ok (enumL ds)
  | .tuple ds => .ok (enumL ds)
  | _ => .bad
theorem enmD_app {ds : List PyData} : enmD (.list ds) = .ok (enumL ds) := rfl
theorem enmD_tup {ds : List PyData} : enmD (.tuple ds) = .ok (enumL ds) := rfl
theorem itE_app {m : ME} {Γ : Ev} : itE m Γ = (m Γ).bind enmD := by
  unfold itE enmD; rfl
theorem enumL_length (ds : List PyData) : (enumL ds).length = ds.length := by unfold enumL; rw [List.length_map, List.length_range]
theorem enumL_get {ds : List PyData} {i : Nat} {x : PyData} (h : (enumL ds)[i]? = some x) : ∃ d, ds[i]? = some d ∧ x = .tuple [.int (i : Nat), d] := by
  unfold enumL at h
  rw [List.getElem?_map] at h
  rcases Nat.lt_or_ge i ds.length with hi | hi
  · rw [List.getElem?_range hi] at h
    refine ⟨ds[i], List.getElem?_eq_getElem hi, ?_⟩
    have e : PyData.tuple [.int (i : Nat), ds.getD i .none] = x := Option.some.inj h
    rw [← e, List.getD_eq_getElem?_getD, List.getElem?_eq_getElem hi]
    rfl
  · rw [List.getElem?_eq_none (by rw [List.length_range]; exact hi)] at h; cases h
theorem isi_int_none : isiD "int" (.none) = false := rfl
theorem isi_int_bool {b : Bool} : isiD "int" (.bool b) = true := rfl
theorem isi_int_int {i : Int} : isiD "int" (.int i) = true := rfl
theorem isi_int_str {x : Str} : isiD "int" (.str x) = false := rfl
theorem isi_int_list {ds : List PyData} : isiD "int" (.list ds) = false := rfl
theorem isi_int_tuple {ds : List PyData} : isiD "int" (.tuple ds) = false := rfl
theorem isi_int_dict {ds : List (PyData × PyData)} : isiD "int" (.dict ds) = false := rfl
theorem isi_bool_none : isiD "bool" (.none) = false := rfl
theorem isi_bool_bool {b : Bool} : isiD "bool" (.bool b) = true := rfl
theorem isi_bool_int {i : Int} : isiD "bool" (.int i) = false := rfl
theorem isi_bool_str {x : Str} : isiD "bool" (.str x) = false := rfl
theorem isi_bool_list {ds : List PyData} : isiD "bool" (.list ds) = false := rfl
theorem isi_bool_tuple {ds : List PyData} : isiD "bool" (.tuple ds) = false := rfl
theorem isi_bool_dict {ds : List (PyData × PyData)} : isiD "bool" (.dict ds) = false := rfl
theorem isi_tuple_none : isiD "tuple" (.none) = false := rfl
theorem isi_tuple_bool {b : Bool} : isiD "tuple" (.bool b) = false := rfl
theorem isi_tuple_int {i : Int} : isiD "tuple" (.int i) = false := rfl
theorem isi_tuple_str {x : Str} : isiD "tuple" (.str x) = false := rfl
theorem isi_tuple_list {ds : List PyData} : isiD "tuple" (.list ds) = false := rfl
theorem isi_tuple_tuple {ds : List PyData} : isiD "tuple" (.tuple ds) = true := rfl
theorem isi_tuple_dict {ds : List (PyData × PyData)} : isiD "tuple" (.dict ds) = false := rfl
theorem eChain_app {f g : PyData → PyData → Res PyData} {a b c : ME} {Γ : Ev} : eChain f g a b c Γ = (a Γ).bind fun x => (b Γ).bind fun y => (f x y).bind fun t => bT t ((c Γ).bind fun z => g y z) (.ok (.bool false)) := by
  unfold eChain bT; rfl
theorem pick {α : Type} {P : α → Prop} {l : List α} {i : Nat} (h : i < l.length) (hl : ∀ x ∈ l, P x) : ∃ x, l[i]? = some x ∧ P x := ⟨l[i], List.getElem?_eq_getElem h, hl _ (List.getElem_mem h)⟩
theorem compR_enc {α : Type} {g : MG} {c e : ME} {Γ : Ev} (enc : α → PyData) (p : α → Bool) (F : α → PyData) : ∀ {xs : List α}, (∀ a ∈ xs, (g (enc a) Γ).bind c = .ok (.bool (p a))) → (∀ a ∈ xs, p a = true → (g (enc a) Γ).bind e = .ok (F a)) → compR g c e Γ (xs.map enc) = .ok ((xs.filter p).map F)
  | [], _, _ => rfl
  | x :: xs, h, h' => by
    obtain ⟨Γ1, e1, e2⟩ := Res.bind_ok (h x List.mem_cons_self)
    rw [List.map_cons, compR, e1, Res.ok_bind, e2, Res.ok_bind]
    have ih := compR_enc enc p F (fun y hy => h y (List.mem_cons_of_mem _ hy)) (fun y hy => h' y (List.mem_cons_of_mem _ hy))
    cases hp : p x with
    | true =>
      have e3 := h' x List.mem_cons_self hp
      rw [e1, Res.ok_bind] at e3
      show (e Γ1).bind _ = _
      rw [e3, Res.ok_bind, ih, List.filter_cons_of_pos hp]
      rfl
    | false =>
      show compR g c e Γ (xs.map enc) = _
      rw [ih, List.filter_cons_of_neg (by rw [hp]; exact Bool.false_ne_true)]
theorem eComp_encF {α : Type} {it : MI} {g : MG} {c e : ME} {nt : Nat} {ix : List Nat} {Γ : Ev} {xs : List α} (enc : α → PyData) (p : α → Bool) (F : α → PyData) (hi : it Γ = .ok (xs.map enc)) (hz : xs.length < sizeLine)
    (h : ∀ a ∈ xs, (g (enc a) (blockE nt ix Γ)).bind c = .ok (.bool (p a))) (h' : ∀ a ∈ xs, p a = true → (g (enc a) (blockE nt ix Γ)).bind e = .ok (F a)) : eComp it g c e nt ix Γ = .ok (.list ((xs.filter p).map F)) := by
  unfold eComp
  rw [hi, Res.ok_bind, gd_pos (by rw [List.length_map]; exact hz), compR_enc enc p F h h']
  rfl
theorem eComp_enc {α : Type} {it : MI} {g : MG} {e : ME} {nt : Nat} {ix : List Nat} {Γ : Ev} {xs : List α} (enc : α → PyData) (F : α → PyData) (hi : it Γ = .ok (xs.map enc)) (hz : xs.length < sizeLine)
    (h : ∀ a ∈ xs, (g (enc a) (blockE nt ix Γ)).bind e = .ok (F a)) : eComp it g (eC (.bool true)) e nt ix Γ = .ok (.list (xs.map F)) := by
  rw [eComp_encF enc (fun _ => true) F hi hz (fun a ha => ?_) fun a ha _ => h a ha, List.filter_eq_self.mpr fun _ _ => rfl]
  obtain ⟨Γ1, e1, e2⟩ := Res.bind_ok (h a ha)
  rw [e1]; rfl
theorem enc_get {α : Type} {enc : α → PyData} {xs : List α} {i : Nat} {x : PyData} (h : (xs.map enc)[i]? = some x) : ∃ a, xs[i]? = some a ∧ x = enc a := by
  rw [List.getElem?_map] at h
  cases e : xs[i]? with
  | none => rw [e] at h; cases h
  | some v => rw [e] at h; exact ⟨v, rfl, (Option.some.inj h).symm⟩
noncomputable def Gives {α : Type} (r : Res α) (P : α → Prop) : Prop := ∃ a, r = .ok a ∧ P a
theorem Gives_ok {α : Type} {a : α} {P : α → Prop} : Gives (.ok a) P ↔ P a := ⟨fun hq__ => by obtain ⟨b, e, h⟩ := hq__; cases e; exact h, fun h => ⟨a, rfl, h⟩⟩
theorem forR_gives {α : Type} {g : MG} {cl : List Nat} {b : MS} {xs : List PyData} {Γ : Ev} {f : Out → Res α} {P : α → Prop} (I : Nat → Ev → Prop) (h0 : I 0 Γ)
    (h : ∀ i x Γ, xs[i]? = some x → I i Γ → Goes (((g x Γ).bind b).bind (clrO cl)) (I (i + 1))) (k : ∀ Γ, I xs.length Γ → Gives (f (.nx Γ)) P) : Gives ((forR g cl b xs Γ).bind f) P := by
  obtain ⟨Γ', e, h'⟩ := forR_inv I h0 h
  rw [e]; exact k Γ' h'
theorem forR_goes {g : MG} {cl : List Nat} {b : MS} {xs : List PyData} {Γ : Ev} {f : Out → Res Out} {P : Ev → Prop} (I : Nat → Ev → Prop) (h0 : I 0 Γ)
    (h : ∀ i x Γ, xs[i]? = some x → I i Γ → Goes (((g x Γ).bind b).bind (clrO cl)) (I (i + 1))) (k : ∀ Γ, I xs.length Γ → Goes (f (.nx Γ)) P) : Goes ((forR g cl b xs Γ).bind f) P := by
  obtain ⟨Γ', e, h'⟩ := forR_inv I h0 h
  rw [e]; exact k Γ' h'
theorem ixD_t0 {a : PyData} {ds : List PyData} : ixD (.tuple (a :: ds)) (.int 0) = .ok a := ixD_tuple (i := 0) rfl
theorem ixD_t1 {a b : PyData} {ds : List PyData} : ixD (.tuple (a :: b :: ds)) (.int 1) = .ok b := ixD_tuple (i := 1) rfl
theorem ixD_t2 {a b c : PyData} {ds : List PyData} : ixD (.tuple (a :: b :: c :: ds)) (.int 2) = .ok c := ixD_tuple (i := 2) rfl
noncomputable def dG (n : Nat) (b : Int) : PyData := .tuple [.int (n : Nat), .int b]
noncomputable def dL (ns : List Int) : PyData := .list (ns.map PyData.int)
theorem ix0 {n : Nat} {b : Int} : ixD (dG n b) (.int 0) = .ok (.int (n : Nat)) := rfl
theorem ix1 {n : Nat} {b : Int} : ixD (dG n b) (.int 1) = .ok (.int b) := rfl
theorem lenD_dL {ns : List Int} : lenD [dL ns] = .ok (.int ns.length) := by unfold dL; rw [lenD_list, List.length_map]
theorem seqD_dL {ns : List Int} : seqD (dL ns) = .ok (ns.map PyData.int) := rfl
theorem listD_dL {ns : List Int} : listD [dL ns] = .ok (dL ns) := rfl
theorem neD_dL {a b : List Int} : neD (dL a) (dL b) = .ok (.bool (!decide (a = b))) := neD_lints
theorem plain_dG {n : Nat} {b : Int} : plain (dG n b) = true := plain_tints [(n : Nat), b]
theorem depth_dG {n : Nat} {b : Int} : (dG n b).depth ≤ 64 := depth_tuple_ints [(n : Nat), b]
theorem forR_findE {α : Type} {g : MG} {cl : List Nat} {b : MS} {Γ : Ev} {d : PyData} (enc : α → PyData) (p : α → Bool) : ∀ {xs : List α}, (∀ a ∈ xs, ((g (enc a) Γ).bind b).bind (clrO cl) = if p a = true then .ok (.rt d) else .ok (.nx Γ)) →
    forR g cl b (xs.map enc) Γ = if xs.any p = true then .ok (.rt d) else .ok (.nx Γ)
  | [], _ => rfl
  | x :: xs, h => by
    have h1 := h x List.mem_cons_self
    have ih := forR_findE enc p (xs := xs) fun y hy => h y (List.mem_cons_of_mem _ hy)
    rw [List.map_cons]
    cases hp : p x with
    | true =>
      rw [if_pos hp] at h1
      obtain ⟨o, h2, h3⟩ := Res.bind_ok h1
      obtain ⟨Γ1, h4, h5⟩ := Res.bind_ok h2
      rw [List.any_cons, hp, Bool.true_or, if_pos rfl, forR, h4, Res.ok_bind, h5, Res.ok_bind]
      cases o <;> cases h3
      rfl
    | false =>
      rw [if_neg (by rw [hp]; exact Bool.false_ne_true)] at h1
      rw [turn_ok h1, ih, List.any_cons, hp, Bool.false_or]
end L3
namespace L3
open PySem L2
noncomputable def rtM (d : PyData) : Option PyData → Res Out
  | some dm => .ok (.rt (.tuple [d, dm]))
  | none => .bad
theorem rtM_app {d dm : PyData} : rtM d (some dm) = .ok (.rt (.tuple [d, dm])) := rfl
theorem sRetM_app {j : Nat} {m : ME} {Γ : Ev} : sRetM j m Γ = (m Γ).bind fun d => rtM d (gv Γ j) := by
  unfold sRetM rtM; rfl
noncomputable def stM (Γ : Ev) (x i : Nat) (r : PyData) : Res Out := match oneD r with
  | some (d, dm) => gd (x < Γ.length) (.ok (.nx ((Γ.set i (some dm)).set x (some d))))
  | none => .bad
theorem stM_app {Γ : Ev} {x i : Nat} {d dm : PyData} : stM Γ x i (.tuple [d, dm]) = gd (x < Γ.length) (.ok (.nx ((Γ.set i (some dm)).set x (some d)))) := rfl
theorem sSetM_app {x i : Nat} {f : List PyData → Res PyData} {ms : List ME} {Γ : Ev} : sSetM x i f ms Γ = (evs ms Γ).bind fun ds => (f ds).bind (stM Γ x i) := rfl
noncomputable def apM (Γ : Ev) (k i : Nat) (o : Option PyData) (r : PyData) : Res Out := match oneD r, o with
  | some (d, dm), some (.list es) => gd (es.length < sizeLine) (.ok (.nx ((Γ.set i (some dm)).set k (some (.list (es ++ [d]))))))
  | _, _ => .bad
theorem apM_app {Γ : Ev} {k i : Nat} {d dm : PyData} {es : List PyData} : apM Γ k i (some (.list es)) (.tuple [d, dm]) = gd (es.length < sizeLine) (.ok (.nx ((Γ.set i (some dm)).set k (some (.list (es ++ [d])))))) := rfl
theorem sAppM_app {k i : Nat} {f : List PyData → Res PyData} {ms : List ME} {Γ : Ev} : sAppM k i f ms Γ = (evs ms Γ).bind fun ds => (f ds).bind (apM Γ k i (gv Γ k)) := rfl
theorem lrD_app {n : Int} : lrD (.int n) = gd (-(2 ^ 20) ≤ n ∧ n ≤ 2 ^ 20) (.ok (.list (upN n.toNat))) := rfl
end L3
set_option hygiene false in
local macro_rules | `(tactic| walk_at "ev") => `(tactic| simp (config := { decide := true, implicitDefEqProofs := false }) only [L3.fnR_app, L3.sSeq_app, L3.seqO_nx, L3.seqO_rt, L3.gd_true, L3.revD_app, L3.sSet_app, L3.sIf_app, L3.sRet_app, L3.sNil_app, L3.sAsg_app, L3.sFor_app, L3.sApp_app, L3.appD_app, L3.sRetM_app, L3.rtM_app, L3.sSetM_app, L3.stM_app, L3.sAppM_app, L3.apM_app, L3.lrD_app, L3.itE_app, L3.enmD_app, L3.gv_zero, L3.gv_succ, L3.eVar_zero, L3.eVar_succ, L3.eC_app, L3.eBin_app, L3.eUn_app, L3.eFn_app, L3.eCall_app, L3.evs_nil, L3.evs_cons, L3.eTup_app, L3.eLst_app, L3.eIsi_app, L3.eAnd_app, L3.eOr_app, L3.eNot_app, L3.eChain_app, L3.isi_int_none, L3.isi_int_bool, L3.isi_int_int, L3.isi_int_str, L3.isi_int_list, L3.isi_int_tuple, L3.isi_int_dict, L3.isi_bool_none, L3.isi_bool_bool, L3.isi_bool_int, L3.isi_bool_str, L3.isi_bool_list, L3.isi_bool_tuple, L3.isi_bool_dict, L3.isi_tuple_none, L3.isi_tuple_bool, L3.isi_tuple_int, L3.isi_tuple_str, L3.isi_tuple_list, L3.isi_tuple_tuple, L3.isi_tuple_dict, L3.notD_app, L3.itL_app, L3.itR1_app, L3.itV_app, L3.seqD_list, L3.seqD_tuple, L3.gN_app, L3.gT_app, L3.gTs_nil, L3.gTs_cons, L3.clr_nil, L3.clrO_nx, L3.Goes_ok, L3.Gives_ok, L3.clr_cons, L3.blockE_app, L3.Res.ok_bind, L3.Res.bind_assoc, L3.Res.bad_bind, L3.fin_rt, L3.bT_true, L3.bT_false, L3.bS_true, L3.bS_false, L3.addD_int, L3.subD_int, L3.mulD_int, L3.fdivD_int, L3.modD_int, L3.shlD_int, L3.shrD_int, L3.andD_int, L3.ltD_int, L3.leD_int, L3.gtD_int, L3.eqD_int, L3.ixD_t0, L3.ixD_t1, L3.ixD_t2, L3.ix0, L3.ix1, L3.lenD_dL, L3.seqD_dL, L3.listD_dL, L3.neD_dL, L3.lenD_list, L3.lenD_tuple, L3.listD_list, L3.tupleD_list, L3.truD_bool, decide_false, decide_true, if_true, if_false, Bool.not_true, Bool.not_false, and_true, true_and, List.map_cons, List.map_nil, List.length_cons, List.length_nil, List.length_map, List.length_range, List.replicate_succ, List.replicate_zero, List.cons_append, List.nil_append, List.set_cons_zero, List.set_cons_succ, Nat.reduceSub, Nat.reduceAdd, Nat.zero_add])
set_option hygiene false in
local macro_rules | `(tactic| walk_at "gd") => `(tactic| (rw [L3.gd_pos (by first | omega (config := {}) | (unfold L2.CMul; omega (config := {})) | (unfold L2.CDiv; omega (config := {})) | (unfold L2.CPow; omega (config := {})) | (simp (config := { decide := true }) only [L2.sizeLine_eq, List.length_append, List.length_map, List.length_range, List.length_take, List.length_drop, List.length_cons, List.length_nil]; omega (config := {})))]))
set_option hygiene false in
local macro_rules | `(tactic| walk_at "go") => `(tactic| (repeat (first | walk_at "ev" | walk_at "gd")))
namespace Prog
open PySem L2 L3 Gk
theorem p_bit {a p : Int} (hp : 0 ≤ p) : m_bit [.int a, .int p] = .ok (.int (bitI a p)) := by
  unfold m_bit
  walk_at "ev"
  rw [gd_pos hp]
  walk_at "ev"
  rw [PyProof.Rows.bitAnd_m1]
  rfl
theorem p_number_of {xs : List Int} : m_number_of [dL xs] = .ok (.int (gnum xs)) := by
  unfold m_number_of dL
  walk_at "ev"
  refine forR_bind (fun i => [some (.list (xs.map PyData.int)), some (.int ((xs.reverse.take i).foldl (fun n f => 2 * n + f) 0)), none]) rfl (fun i x hx => ?_) ?_
  rotate_left
  · walk_at "ev"
    rw [List.length_reverse, List.length_map, ← List.length_reverse, List.take_length, gnum_rev]
  · rw [← List.map_reverse] at hx
    obtain ⟨v, rfl, hv⟩ := ints_get hx
    walk_at "ev"
    rw [gd_pos (.inl ⟨by decide, by decide⟩)]
    walk_at "ev"
    rw [List.take_add_one, hv, List.foldl_append]
    rfl
theorem p_row_count {n : Nat} (hn : n ≤ 100) : m_row_count [.int (n : Nat)] = .ok (.int (2 ^ n)) := by
  unfold m_row_count
  walk_at "ev"
  rw [rng1_nat (by omega)]
  walk_at "ev"
  refine forR_bind (fun i => [some (.int (n : Nat)), some (.int (2 ^ i)), none]) rfl (fun i x hx => ?_) ?_
  · obtain ⟨_, rfl⟩ := upN_get hx
    walk_at "ev"
    rw [gd_pos (.inl ⟨by decide, by decide⟩)]
    walk_at "ev"
    rw [show (2 : Int) * 2 ^ i = 2 ^ (i + 1) by rw [Int.pow_succ, Int.mul_comm]]
  · rw [upN_length]
    walk_at "ev"
theorem p_table_limit {n : Nat} (hn : n ≤ 4) : m_table_limit [.int (n : Nat)] = .ok (.int (2 ^ 2 ^ n)) := by
  unfold m_table_limit
  walk_at "ev"
  rw [rng1_nat (by omega)]
  walk_at "ev"
  refine forR_bind (fun i => [some (.int (n : Nat)), some (.int (2 ^ 2 ^ i)), none]) rfl (fun i x hx => ?_) ?_
  · obtain ⟨hi, rfl⟩ := upN_get hx
    walk_at "ev"
    have hb : (2 : Int) ^ 2 ^ i ≤ 65536 ∧ 0 < (2 : Int) ^ 2 ^ i := by
      have : i = 0 ∨ i = 1 ∨ i = 2 ∨ i = 3 := by omega
      rcases this with rfl | rfl | rfl | rfl <;> decide
    rw [gd_pos (.inl ⟨by omega, by omega⟩)]
    walk_at "ev"
    rw [show (2 : Int) ^ 2 ^ i * 2 ^ 2 ^ i = 2 ^ 2 ^ (i + 1) by rw [← Int.pow_add, Nat.pow_succ]; congr 1; omega]
  · rw [upN_length]
    walk_at "ev"
theorem p_full_table {n : Nat} (hn : n ≤ 4) : m_full_table [.int (n : Nat)] = .ok (.int (2 ^ 2 ^ n - 1)) := by
  unfold m_full_table
  walk_at "ev"
  rw [p_table_limit hn]
  walk_at "ev"
theorem small_pow {n : Nat} (h : n ≤ 4) : 2 ^ n ≤ 16 := by
  have : n = 0 ∨ n = 1 ∨ n = 2 ∨ n = 3 ∨ n = 4 := by omega
  rcases this with rfl | rfl | rfl | rfl | rfl <;> decide
theorem rng1_pow {n : Nat} (h : n ≤ 4) : rng1 (.int (2 ^ n)) = .ok (upN (2 ^ n)) := by
  have e : ((2 : Int) ^ n) = (((2 ^ n : Nat)) : Int) := by simp
  have := small_pow h
  rw [e, rng1_nat (by omega)]
theorem size_pow {n : Nat} (h : n ≤ 4) : 2 ^ n < sizeLine := by
  have := small_pow h
  exact Nat.lt_of_le_of_lt this (by decide)
theorem size_le {n : Nat} (h : n ≤ 100000) : n < sizeLine := Nat.lt_of_le_of_lt h (by decide)
theorem map_int {n : Nat} {f : Nat → Int} : (List.range n).map (fun i => PyData.int (f i)) = ((List.range n).map f).map PyData.int := by rw [List.map_map]; rfl
theorem p_input_table {n j : Nat} (hn : n ≤ 4) : m_input_table [.int (n : Nat), .int (j : Nat)] = .ok (.int (inTab n j)) := by
  unfold m_input_table
  walk_at "ev"
  rw [eComp_upN (n := 2 ^ n) (fun i => .int (bitI (i : Nat) (j : Nat))) ?_ (size_pow hn) fun i _ => ?_]
  · walk_at "ev"
    rw [map_int]
    exact (congrArg (fun r => r.bind fun d => Res.ok d) (p_number_of (xs := (List.range (2 ^ n)).map fun i => bitI (i : Nat) (j : Nat)))).trans rfl
  · walk_at "ev"
    rw [p_row_count (by omega)]
    walk_at "ev"
    exact rng1_pow hn
  · walk_at "ev"
    rw [p_bit (by omega)]
theorem p_input_tables {n : Nat} (hn : n ≤ 4) : m_input_tables [.int (n : Nat)] = .ok (dL ((List.range n).map fun j => inTab n j)) := by
  unfold m_input_tables
  walk_at "ev"
  rw [eComp_upN (n := n) (fun j => .int (inTab n j)) ?_ (size_le (by omega)) fun i _ => ?_]
  · walk_at "ev"
    rw [map_int]; rfl
  · walk_at "ev"
    exact rng1_nat (by omega)
  · walk_at "ev"
    rw [p_input_table hn]
theorem bAnd_halves (x y : Int) : Builtin.bitAnd x y / 2 = Builtin.bitAnd (x / 2) (y / 2) ∧ Builtin.bitAnd x y % 2 = (x % 2) * (y % 2) := by
  have h := PySem.W.kbt_halves x y
  have hx : x % 2 = 0 ∨ x % 2 = 1 := by omega
  have hy : y % 2 = 0 ∨ y % 2 = 1 := by omega
  rcases hx with hx | hx <;> rcases hy with hy | hy <;> simp only [hx, hy] at h ⊢ <;> (try simp at h) <;> omega
theorem bNot_halves (x : Int) : Builtin.bitNot x / 2 = Builtin.bitNot (x / 2) ∧ Builtin.bitNot x % 2 = 1 - x % 2 := by
  unfold Builtin.bitNot; omega
theorem bOr_halves (x y : Int) : Builtin.bitOr x y / 2 = Builtin.bitOr (x / 2) (y / 2) ∧ Builtin.bitOr x y % 2 = 1 - (1 - x % 2) * (1 - y % 2) := by
  unfold Builtin.bitOr
  obtain ⟨a1, a2⟩ := bNot_halves (Builtin.bitAnd (Builtin.bitNot x) (Builtin.bitNot y))
  obtain ⟨b1, b2⟩ := bAnd_halves (Builtin.bitNot x) (Builtin.bitNot y)
  obtain ⟨c1, c2⟩ := bNot_halves x
  obtain ⟨d1, d2⟩ := bNot_halves y
  rw [a1, a2, b1, b2, c1, c2, d1, d2]
  exact ⟨rfl, rfl⟩
noncomputable def muxI (x y t : Int) : Int := Builtin.bitOr (Builtin.bitAnd x (Builtin.bitNot t)) (Builtin.bitAnd y t)
theorem mux_halves (x y t : Int) : muxI x y t / 2 = muxI (x / 2) (y / 2) (t / 2) ∧ muxI x y t % 2 = if t % 2 = 1 then y % 2 else x % 2 := by
  unfold muxI
  obtain ⟨a1, a2⟩ := bOr_halves (Builtin.bitAnd x (Builtin.bitNot t)) (Builtin.bitAnd y t)
  obtain ⟨b1, b2⟩ := bAnd_halves x (Builtin.bitNot t)
  obtain ⟨c1, c2⟩ := bAnd_halves y t
  obtain ⟨d1, d2⟩ := bNot_halves t
  rw [a1, a2, b1, b2, c1, c2, d1, d2]
  refine ⟨rfl, ?_⟩
  have ht : t % 2 = 0 ∨ t % 2 = 1 := by omega
  rcases ht with ht | ht <;> rw [ht] <;> simp <;> omega
theorem bAnd_zero (x : Int) : Builtin.bitAnd 0 x = 0 := by
  have := PySem.W.kbt_mask' x 0
  simpa using this
theorem tab_succ {W : Nat} {f : Nat → Int} : tab (W + 1) f = 2 * tab W (fun r => f (r + 1)) + f 0 := by
  unfold tab
  rw [List.range_succ_eq_map, List.map_cons, gnum_cons, List.map_map]
  rfl
theorem mux_tab {f g : Nat → Int} (t : Int) (hf : ∀ r, f r = 0 ∨ f r = 1) (hg : ∀ r, g r = 0 ∨ g r = 1) : ∀ W : Nat, muxI (tab W f) (tab W g) t = tab W fun r => if bitI t (r : Nat) = 1 then g r else f r
  | 0 => by
    show muxI 0 0 t = 0
    unfold muxI
    rw [bAnd_zero, bAnd_zero]
    rfl
  | W + 1 => by
    have ih := mux_tab (f := fun r => f (r + 1)) (g := fun r => g (r + 1)) (t / 2) (fun r => hf (r + 1)) (fun r => hg (r + 1)) W
    rw [tab_succ, tab_succ, tab_succ]
    have f0 := hf 0
    have g0 := hg 0
    obtain ⟨h1, h2⟩ := mux_halves (2 * tab W (fun r => f (r + 1)) + f 0) (2 * tab W (fun r => g (r + 1)) + g 0) t
    rw [show (2 * tab W (fun r => f (r + 1)) + f 0) / 2 = tab W (fun r => f (r + 1)) by omega, show (2 * tab W (fun r => g (r + 1)) + g 0) / 2 = tab W (fun r => g (r + 1)) by omega, ih] at h1
    rw [show (2 * tab W (fun r => f (r + 1)) + f 0) % 2 = f 0 by omega, show (2 * tab W (fun r => g (r + 1)) + g 0) % 2 = g 0 by omega] at h2
    have e : (fun r : Nat => if bitI t ((r + 1 : Nat) : Int) = 1 then g (r + 1) else f (r + 1)) = fun r : Nat => if bitI (t / 2) (r : Nat) = 1 then g (r + 1) else f (r + 1) := by
      funext r; rw [bitI_succ]
    rw [e, show bitI t ((0 : Nat) : Int) = t % 2 from bitI_zero t]
    omega
theorem tab_const (c : Int) : ∀ W : Nat, tab W (fun _ => c) = (2 ^ W - 1) * c
  | 0 => by simp [tab, gnum]
  | W + 1 => by
    rw [tab_succ, tab_const c W, Int.pow_succ]
    have : (2 ^ W * 2 - 1) * c = 2 * ((2 ^ W - 1) * c) + c := by
      rw [Int.sub_mul, Int.sub_mul, Int.mul_sub, Int.mul_assoc, Int.mul_left_comm (2 ^ W) 2 c]; omega
    rw [this]
theorem fits_small {x : Int} (h0 : 0 ≤ x) (h1 : x < 4000) : Builtin.Range.rangeFitsLong x = true := by
  unfold Builtin.Range.rangeFitsLong
  rw [decide_eq_true (show -(2 ^ 63) ≤ x by omega), decide_eq_true (show x < 2 ^ 63 by omega)]
  rfl
theorem rng3_two {n : Nat} (h : n < 1000) : rng3 (.int 0) (.int ((2 * n : Nat) : Int)) (.int 2) = .ok ((List.range n).map fun (k : Nat) => PyData.int (((2 * k : Nat)) : Int)) := by
  have e : Builtin.Range.rangeSize 0 ((2 * n : Nat) : Int) 2 = (n : Nat) := by
    unfold Builtin.Range.rangeSize
    rw [if_pos (by decide)]
    split <;> omega
  have hs : Builtin.Range.small 0 ((2 * n : Nat) : Int) 2 = true := by
    unfold Builtin.Range.small
    rw [e, fits_small (by decide) (by decide), fits_small (by omega) (by omega), fits_small (by decide) (by decide), fits_small (by omega) (by omega), if_pos (by decide), fits_small (by omega) (by omega), Bool.or_true]
    rfl
  have e2 : rng3 (.int 0) (.int ((2 * n : Nat) : Int)) (.int 2) = gd ((2 : Int) ≠ 0 ∧ (2 : Int).natAbs < 1073741824 ∧ Builtin.Range.small 0 ((2 * n : Nat) : Int) 2 = true ∧ 0 ≤ Builtin.Range.rangeSize 0 ((2 * n : Nat) : Int) 2) (.ok ((List.range (Builtin.Range.rangeSize 0 ((2 * n : Nat) : Int) 2).toNat).map fun k => PyData.int (0 + (k : Nat) * 2))) := rfl
  have c3 : (2 : Int) ≠ 0 ∧ (2 : Int).natAbs < 1073741824 ∧ Builtin.Range.small 0 ((2 * n : Nat) : Int) 2 = true ∧ 0 ≤ Builtin.Range.rangeSize 0 ((2 * n : Nat) : Int) 2 := ⟨by omega, by omega, hs, by rw [e]; omega⟩
  refine e2.trans ((gd_pos c3).trans ?_)
  rw [e, Int.toNat_natCast]
  refine congrArg Res.ok (List.map_congr_left fun k _ => congrArg PyData.int ?_)
  omega
noncomputable def givI (W N : Nat) (F : Int → Nat → Int) : List Int := (List.range N).map fun p => tab W (F (p : Nat))
theorem givI_at {W N : Nat} {F : Int → Nat → Int} {p : Nat} (h : p < N) : ((givI W N F).map PyData.int)[p]? = some (.int (tab W (F (p : Nat)))) := by
  unfold givI
  rw [List.map_map, List.getElem?_map, List.getElem?_range h]
  rfl
noncomputable def nextF (t : Int) (F : Int → Nat → Int) : Int → Nat → Int := fun p r => F (2 * p + bitI t (r : Nat)) r
noncomputable def foldF : List Int → (Int → Nat → Int) → Int → Nat → Int
  | [], F => F
  | t :: ts, F => foldF ts (nextF t F)
theorem foldF_01 : ∀ {ts : List Int} {F : Int → Nat → Int}, (∀ p r, F p r = 0 ∨ F p r = 1) → ∀ p r, foldF ts F p r = 0 ∨ foldF ts F p r = 1
  | [], F, h => h
  | t :: ts, F, h => foldF_01 (ts := ts) fun p r => h _ r
theorem foldF_snoc : ∀ {ts : List Int} {t : Int} {F : Int → Nat → Int}, foldF (ts ++ [t]) F = nextF t (foldF ts F)
  | [], t, F => rfl
  | u :: ts, t, F => foldF_snoc (ts := ts)
theorem foldF_eq : ∀ {ts : List Int} {F : Int → Nat → Int} {p : Int} {r : Nat}, foldF ts F p r = F (2 ^ ts.length * p + gnum (ts.map fun t => bitI t (r : Nat))) r
  | [], F, p, r => by show F p r = F (2 ^ 0 * p + 0) r; simp
  | t :: ts, F, p, r => by
    show foldF ts (nextF t F) p r = _
    rw [foldF_eq]
    unfold nextF
    rw [List.map_cons, gnum_cons, List.length_cons, Int.pow_succ]
    congr 1
    rw [Int.mul_comm (2 ^ ts.length) 2, Int.mul_assoc]
    omega
theorem p_put_all {m W : Nat} {b : Int} {ts : List Int} (hl : ts.length = m) (hm : m ≤ 4) : m_put_all [dG m b, dL ts, .int (2 ^ W - 1)] = .ok (.int (tab W fun r => bitI b (gnum (ts.map fun t => bitI t (r : Nat))))) := by
  have hp : ∀ i, 2 ^ (m - i) ≤ 16 := fun i => by have := small_pow (n := m - i) (by omega); omega
  unfold m_put_all
  walk_at "ev"
  rw [eComp_upN (n := 2 ^ m) (fun p => .int (tab W fun _ => bitI b (p : Nat))) ?_ (size_pow hm) fun i _ => ?_]
  rotate_left
  · walk_at "ev"
    rw [p_row_count (by omega)]
    walk_at "ev"
    exact rng1_pow hm
  · walk_at "ev"
    rw [p_bit (by omega)]
    walk_at "ev"
    have cm : CMul (2 ^ W - 1) (bitI b (i : Nat)) := .inr ⟨by have := bitI_nonneg b (i : Nat); omega, by have := bitI_le b (i : Nat); omega⟩
    rw [gd_pos cm, tab_const]
  walk_at "ev"
  rw [map_int]
  refine forR_bind (fun i => [some (dG m b), some (dL ts), some (.int (2 ^ W - 1)), some (dL (givI W (2 ^ (m - i)) (foldF (ts.take i) fun p r => bitI b p))), none]) rfl (fun i x hx => ?_) ?_
  rotate_left
  · rw [List.length_map, hl, Nat.sub_self, ← hl, List.take_length]
    unfold dL
    walk_at "ev"
    rw [show (PyData.int 0) = .int ((0 : Nat) : Int) from rfl, ixD_list (givI_at (by decide))]
    walk_at "ev"
    congr 2
    refine tab_congr fun r hr => ?_
    rw [foldF_eq]
    congr 1
    simp
  · obtain ⟨t, rfl, ht⟩ := ints_get hx
    have hi : i < ts.length := (List.getElem?_eq_some_iff.mp ht).1
    have e2 : 2 ^ (m - i) = 2 * 2 ^ (m - (i + 1)) := by rw [show m - i = (m - (i + 1)) + 1 by omega, Nat.pow_succ]; omega
    have p16 := hp (i + 1)
    have F01 : ∀ p r, foldF (ts.take i) (fun p r => bitI b p) p r = 0 ∨ foldF (ts.take i) (fun p r => bitI b p) p r = 1 := foldF_01 fun p r => bitI_01 b p
    walk_at "ev"
    rw [eComp_enc (α := Nat) (xs := List.range (2 ^ (m - (i + 1)))) (fun k => .int ((2 * k : Nat) : Int)) (fun k => .int (tab W (foldF (ts.take (i + 1)) (fun p r => bitI b p) (k : Nat)))) ?_ (size_le (by rw [List.length_range]; omega)) fun k hk => ?_]
    · walk_at "ev"
      rw [map_int]
      rfl
    · unfold itR3
      walk_at "ev"
      rw [show (givI W (2 ^ (m - i)) (foldF (ts.take i) fun p r => bitI b p)).length = 2 * 2 ^ (m - (i + 1)) by unfold givI; rw [List.length_map, List.length_range, e2]]
      exact rng3_two (by omega)
    · have hk' := List.mem_range.mp hk
      unfold dL
      walk_at "ev"
      rw [ixD_list (givI_at (by omega)), show ((2 * k : Nat) : Int) + 1 = ((2 * k + 1 : Nat) : Int) by omega, ixD_list (givI_at (by omega))]
      walk_at "ev"
      show Res.ok (PyData.int (muxI (tab W _) (tab W _) t)) = _
      rw [mux_tab t (F01 _) (F01 _)]
      congr 2
      refine tab_congr fun r hr => ?_
      rw [List.take_add_one, ht]
      show _ = foldF (ts.take i ++ [t]) _ _ _
      rw [foldF_snoc]
      unfold nextF
      rcases bitI_01 t (r : Nat) with h | h <;> rw [h]
      · rw [if_neg (by decide)]; congr 1 <;> omega
      · rw [if_pos rfl]; congr 1 <;> omega
theorem p_put {m : Nat} {b : Int} {ts : List Int} {n : Nat} (hl : ts.length = m) (hm : m ≤ 4) (hn : n ≤ 4) : m_put [dG m b, dL ts, .int (n : Nat)] = .ok (.int (putI b ts n)) := by
  unfold m_put
  walk_at "ev"
  rw [p_full_table hn]
  walk_at "ev"
  rw [p_put_all hl hm]
  rfl
theorem p_turned {n : Nat} {b : Int} (hn : n ≤ 4) : m_turned [dG n b] = .ok (dG n (turnI n b)) := by
  unfold m_turned
  walk_at "ev"
  rw [p_full_table hn]
  walk_at "ev"
  rw [eComp_ints (ns := (List.range n).map fun j => inTab n j) (fun t => .int (2 ^ 2 ^ n - 1 - t)) ?_ (size_le (by rw [List.length_map, List.length_range]; omega)) fun t _ => ?_]
  · walk_at "ev"
    rw [show ((List.range n).map fun j => inTab n j).map (fun t => PyData.int (2 ^ 2 ^ n - 1 - t)) = ((List.range n).map fun j => 2 ^ 2 ^ n - 1 - inTab n j).map PyData.int by rw [List.map_map, List.map_map]; rfl]
    rw [show PyData.list (((List.range n).map fun j => 2 ^ 2 ^ n - 1 - inTab n j).map PyData.int) = dL ((List.range n).map fun j => 2 ^ 2 ^ n - 1 - inTab n j) from rfl, p_put (by rw [List.length_map, List.length_range]) hn hn]
    walk_at "ev"
    rfl
  · walk_at "ev"
    rw [p_input_tables hn]
    rfl
  · walk_at "ev"
theorem beyond {n : Nat} (h : n ≤ 4) : ixD (.list [.int 2, .int 4, .int 16, .int 256, .int 65536]) (.int (n : Nat)) = .ok (.int (2 ^ 2 ^ n)) := by
  have : n = 0 ∨ n = 1 ∨ n = 2 ∨ n = 3 ∨ n = 4 := by omega
  rcases this with rfl | rfl | rfl | rfl | rfl <;> rfl
theorem modN (a : Int) {m : Int} (h : 0 < m) : ∃ n : Nat, a % m = (n : Nat) ∧ (n : Int) < m :=
  ⟨(a % m).toNat, by have := Int.emod_nonneg a (show m ≠ 0 by omega); omega, by have := Int.emod_lt_of_pos a h; have := Int.emod_nonneg a (show m ≠ 0 by omega); omega⟩
end Prog
namespace Prog
open PySem L2 L3 Gk
structure CStep where
  m : Nat
  b : Int
  ws : List Nat
noncomputable def dN (ks : List Nat) : List PyData := ks.map fun k => PyData.int (k : Nat)
noncomputable def CStep.d (s : CStep) : PyData := .tuple [dG s.m s.b, .tuple (dN s.ws)]
structure CStep.Ok (t : Nat) (s : CStep) : Prop where
  m4 : s.m ≤ 4
  len : s.ws.length = s.m
  lt : ∀ k ∈ s.ws, k < t
  b0 : 0 ≤ s.b
  b1 : s.b < 2 ^ 2 ^ s.m
noncomputable def StepsOk (n : Nat) (ss : List CStep) : Prop := ∀ (i : Nat) (s : CStep), ss[i]? = some s → s.Ok (n + i)
noncomputable def dC (n : Nat) (ss : List CStep) (o : Nat) : PyData := .tuple [.int (n : Nat), .tuple (ss.map CStep.d), .int (o : Nat)]
noncomputable def stepW (n : Nat) (ts : List Int) (s : CStep) : List Int := ts ++ [putI s.b (s.ws.map fun k => ts.getD k 0) n]
noncomputable def wiresI (n : Nat) (ss : List CStep) : List Int := ss.foldl (stepW n) ((List.range n).map fun j => inTab n j)
noncomputable def stepV (vs : List Int) (s : CStep) : List Int := vs ++ [bitI s.b (gnum (s.ws.map fun k => vs.getD k 0))]
noncomputable def valsI (n : Nat) (ss : List CStep) (r : Nat) : List Int := ss.foldl stepV (bitsOf n r)
theorem wires_snoc {n : Nat} {ss : List CStep} {s : CStep} : wiresI n (ss ++ [s]) = stepW n (wiresI n ss) s := by unfold wiresI; rw [List.foldl_append]; rfl
theorem vals_snoc {n : Nat} {ss : List CStep} {s : CStep} {r : Nat} : valsI n (ss ++ [s]) r = stepV (valsI n ss r) s := by unfold valsI; rw [List.foldl_append]; rfl
theorem snoc_ind {α : Type} {P : List α → Prop} (h0 : P []) (h : ∀ l a, P l → P (l ++ [a])) (l : List α) : P l := by
  have : ∀ k : Nat, ∀ l : List α, l.length = k → P l := by
    intro k
    induction k with
    | zero => intro l hl; rw [List.length_eq_zero_iff.mp hl]; exact h0
    | succ k ih =>
      intro l hl
      have hne : l ≠ [] := fun z => by rw [z] at hl; cases hl
      rw [← List.dropLast_concat_getLast hne]
      exact h _ _ (ih _ (by rw [List.length_dropLast, hl]; rfl))
  exact this _ l rfl
theorem wires_length {n : Nat} {ss : List CStep} : (wiresI n ss).length = n + ss.length := by
  induction ss using snoc_ind with
  | h0 => unfold wiresI; simp
  | h l a ih => rw [wires_snoc]; unfold stepW; rw [List.length_append, ih, List.length_append]; simp; omega
theorem vals_length {n : Nat} {ss : List CStep} {r : Nat} : (valsI n ss r).length = n + ss.length := by
  induction ss using snoc_ind with
  | h0 => unfold valsI; simp [bitsOf_length]
  | h l a ih => rw [vals_snoc]; unfold stepV; rw [List.length_append, ih, List.length_append]; simp; omega
theorem vals_01 {n : Nat} {ss : List CStep} {r : Nat} : All01 (valsI n ss r) := by
  induction ss using snoc_ind with
  | h0 => unfold valsI; exact All01.bitsOf
  | h l a ih =>
    rw [vals_snoc]; unfold stepV
    intro x hx
    rcases List.mem_append.mp hx with z | z
    · exact ih x z
    · rw [List.mem_singleton.mp z]; exact bitI_01 _ _
theorem getD_01 {vs : List Int} (h : All01 vs) (k : Nat) : vs.getD k 0 = 0 ∨ vs.getD k 0 = 1 := by
  rw [List.getD_eq_getElem?_getD]
  cases e : vs[k]? with
  | none => exact .inl rfl
  | some x => exact h x (List.mem_of_getElem? e)
theorem wires_bound {n : Nat} {ss : List CStep} : ∀ t ∈ wiresI n ss, 0 ≤ t ∧ t < 2 ^ 2 ^ n := by
  induction ss using snoc_ind with
  | h0 =>
    intro t ht
    obtain ⟨j, _, rfl⟩ := List.mem_map.mp ht
    exact ⟨inTab_nonneg _ _, inTab_lt _ _⟩
  | h l a ih =>
    rw [wires_snoc]; unfold stepW
    intro t ht
    rcases List.mem_append.mp ht with z | z
    · exact ih t z
    · rw [List.mem_singleton.mp z]; exact ⟨putI_nonneg _ _ _, putI_lt _ _ _⟩
theorem wires_vals {n r : Nat} {ss : List CStep} (hr : r < 2 ^ n) : (wiresI n ss).map (fun t => bitI t (r : Nat)) = valsI n ss r := by
  induction ss using snoc_ind with
  | h0 =>
    show ((List.range n).map fun j => inTab n j).map _ = bitsOf n r
    rw [List.map_map, ← row_of_bits]
    exact List.map_congr_left fun j _ => inTab_bit hr
  | h l a ih =>
    rw [wires_snoc, vals_snoc]
    unfold stepW stepV
    rw [List.map_append, ih]
    congr 1
    show [bitI (putI _ _ n) (r : Nat)] = _
    rw [putI_bit hr, List.map_map]
    congr 3
    refine List.map_congr_left fun k _ => ?_
    show bitI ((wiresI n l).getD k 0) (r : Nat) = (valsI n l r).getD k 0
    rw [← ih, List.getD_eq_getElem?_getD, List.getD_eq_getElem?_getD, List.getElem?_map]
    cases (wiresI n l)[k]? with
    | none => exact bitI_z _
    | some x => rfl
theorem wires_tab {n : Nat} {ss : List CStep} {i : Nat} : (wiresI n ss).getD i 0 = tab (2 ^ n) fun r => (valsI n ss r).getD i 0 := by
  have hb : 0 ≤ (wiresI n ss).getD i 0 ∧ (wiresI n ss).getD i 0 < 2 ^ 2 ^ n := by
    rw [List.getD_eq_getElem?_getD]
    cases e : (wiresI n ss)[i]? with
    | none => exact ⟨Int.le_refl _, two_pos _⟩
    | some x => exact wires_bound x (List.mem_of_getElem? e)
  refine (tab_eq (fun r => getD_01 vals_01 i) hb.1 hb.2 fun r hr => ?_).symm
  rw [← wires_vals hr, List.getD_eq_getElem?_getD, List.getD_eq_getElem?_getD, List.getElem?_map]
  cases (wiresI n ss)[i]? with
  | none => exact (bitI_z _).symm
  | some x => rfl
theorem list_ext_getD {xs ys : List Int} (hl : xs.length = ys.length) (h : ∀ i, i < xs.length → xs.getD i 0 = ys.getD i 0) : xs = ys := by
  refine List.ext_getElem hl fun i h1 h2 => ?_
  have := h i h1
  rw [List.getD_eq_getElem?_getD, List.getD_eq_getElem?_getD, List.getElem?_eq_getElem h1, List.getElem?_eq_getElem h2] at this
  exact this
theorem StepsOk.nil {n : Nat} : StepsOk n [] := fun i s h => by cases h
theorem StepsOk.snoc {n : Nat} {ss : List CStep} {s : CStep} (h : StepsOk n ss) (hs : s.Ok (n + ss.length)) : StepsOk n (ss ++ [s]) := fun i t ht => by
  rcases Nat.lt_or_ge i ss.length with hi | hi
  · rw [List.getElem?_append_left hi] at ht; exact h i t ht
  · rw [List.getElem?_append_right hi] at ht
    have : i - ss.length = 0 := by
      have := (List.getElem?_eq_some_iff.mp ht).1
      simp at this; omega
    rw [this] at ht
    have e : s = t := Option.some.inj ht
    subst e
    rw [show i = ss.length by omega]; exact hs
theorem CStep.Ok.mono {t u : Nat} {s : CStep} (h : s.Ok t) (k : t ≤ u) : s.Ok u := ⟨h.m4, h.len, fun x hx => Nat.lt_of_lt_of_le (h.lt x hx) k, h.b0, h.b1⟩
theorem getD_ix {ts : List Int} {k : Nat} (h : k < ts.length) : ixD (dL ts) (.int (k : Nat)) = .ok (.int (ts.getD k 0)) := by
  unfold dL
  refine ixD_list (i := k) ?_
  rw [List.getElem?_map, List.getD_eq_getElem?_getD, List.getElem?_eq_getElem h]; rfl
theorem steps_take {ss : List CStep} {i : Nat} {s : CStep} (h : ss[i]? = some s) : ss.take (i + 1) = ss.take i ++ [s] := by
  rw [List.take_add_one, h]; rfl
theorem p_wires {n : Nat} {ss : List CStep} {o : PyData} (hn : n ≤ 4) (hs : StepsOk n ss) (hl : ss.length ≤ 10000) : m_wires [.tuple [.int (n : Nat), .tuple (ss.map CStep.d), o]] = .ok (dL (wiresI n ss)) := by
  unfold m_wires
  walk_at "ev"
  rw [p_input_tables hn]
  walk_at "ev"
  refine forR_bind (fun i => [some (.tuple [.int (n : Nat), .tuple (ss.map CStep.d), o]), some (.int (n : Nat)), some (dL (wiresI n (ss.take i))), none]) rfl (fun i x hx => ?_) ?_
  · obtain ⟨s, h1, rfl⟩ := enc_get hx
    have ok := hs i s h1
    have hi := (List.getElem?_eq_some_iff.mp h1).1
    have hw : (wiresI n (ss.take i)).length = n + i := by rw [wires_length, List.length_take]; omega
    have m4 := ok.m4
    unfold CStep.d
    walk_at "ev"
    rw [eComp_enc (α := Nat) (xs := s.ws) (fun k => .int (k : Nat)) (fun k => .int ((wiresI n (ss.take i)).getD k 0)) ?_ (size_le (by rw [ok.len]; omega)) fun k hk => ?_]
    · rw [show s.ws.map (fun k => PyData.int ((wiresI n (ss.take i)).getD k 0)) = (s.ws.map fun k => (wiresI n (ss.take i)).getD k 0).map PyData.int by rw [List.map_map]; rfl]
      rw [show PyData.list ((s.ws.map fun k => (wiresI n (ss.take i)).getD k 0).map PyData.int) = dL (s.ws.map fun k => (wiresI n (ss.take i)).getD k 0) from rfl]
      walk_at "ev"
      rw [p_put (by rw [List.length_map, ok.len]) (by omega) hn]
      unfold dL
      walk_at "ev"
      rw [gd_pos (size_le (by rw [hw]; omega))]
      walk_at "ev"
      rw [steps_take h1, wires_snoc]
      unfold stepW
      rw [List.map_append]
      rfl
    · walk_at "ev"
      rfl
    · have := ok.lt k hk
      walk_at "ev"
      rw [getD_ix (by rw [hw]; omega)]
  · rw [List.length_map, List.take_length]
    walk_at "ev"
theorem p_gate_of {n : Nat} {ss : List CStep} {o : Nat} (hn : n ≤ 4) (hs : StepsOk n ss) (hl : ss.length ≤ 10000) (ho : o < n + ss.length) : m_gate_of [dC n ss o] = .ok (dG n ((wiresI n ss).getD o 0)) := by
  unfold m_gate_of dC
  walk_at "ev"
  rw [p_wires hn hs hl]
  walk_at "ev"
  rw [getD_ix (by rw [wires_length]; exact ho)]
  walk_at "ev"
  rfl
theorem sumD_ints {xs : List Int} : sumD [.list (xs.map PyData.int)] = .ok (.int xs.sum) := by
  show (match intsOf (xs.map PyData.int) with | some ns => Res.ok (PyData.int ns.sum) | none => .bad) = _
  rw [intsOf_map]
theorem sum_powers : ∀ (xs : List Int), ((List.range xs.length).map fun i => xs.getD i 0 * 2 ^ i).sum = gnum xs := by
  intro xs
  induction xs using snoc_ind with
  | h0 => rfl
  | h l a ih =>
    rw [List.length_append, List.length_singleton, List.range_succ, List.map_append, List.sum_append, gnum_snoc, ← ih]
    congr 1
    · congr 1
      refine List.map_congr_left fun i hi => ?_
      rw [List.getD_eq_getElem?_getD, List.getD_eq_getElem?_getD, List.getElem?_append_left (List.mem_range.mp hi)]
    · show List.sum [(l ++ [a]).getD l.length 0 * 2 ^ l.length] = _
      rw [List.getD_eq_getElem?_getD, List.getElem?_append_right (Nat.le_refl _), Nat.sub_self]
      show a * 2 ^ l.length + 0 = _
      rw [Int.add_zero, Int.mul_comm]
theorem bitAnd1 (b : Int) (k : Nat) : Builtin.bitAnd (b / 2 ^ k) 1 = bitI b (k : Nat) := by
  rw [PyProof.Rows.bitAnd_m1]; unfold bitI; rw [Int.toNat_natCast]
end Prog
namespace Prog
open PySem L2 L3 Gk
theorem ixC0 {n : Nat} {ss : List CStep} {o : Nat} : ixD (dC n ss o) (.int 0) = .ok (.int (n : Nat)) := rfl
theorem ixC1 {n : Nat} {ss : List CStep} {o : Nat} : ixD (dC n ss o) (.int 1) = .ok (.tuple (ss.map CStep.d)) := rfl
theorem ixC2 {n : Nat} {ss : List CStep} {o : Nat} : ixD (dC n ss o) (.int 2) = .ok (.int (o : Nat)) := rfl
theorem gnum_flip (xs : List Int) : gnum (flip01 xs) = 2 ^ xs.length - 1 - gnum xs := by
  induction xs with
  | nil => rfl
  | cons x xs ih =>
    show gnum ((1 - x) :: flip01 xs) = _
    rw [gnum_cons, ih, gnum_cons, List.length_cons, Int.pow_succ]
    omega
theorem flip_row {n r : Nat} (h : r < 2 ^ n) : flip01 (bitsOf n r) = bitsOf n (2 ^ n - 1 - r) := by
  have e := bitsOf_gnum (All01.flip (All01.bitsOf (k := n) (r := r)))
  rw [flip_length, bitsOf_length, gnum_flip, bitsOf_length, gnum_bitsOf_lt h] at e
  rw [← e]
  congr 1
  have : ((2 : Int) ^ n) = ((2 ^ n : Nat) : Int) := (Int.natCast_pow 2 n).symm
  rw [this]
  omega
noncomputable def turnS (s : CStep) : CStep := ⟨s.m, turnI s.m s.b, s.ws⟩
theorem turnS_ok {t : Nat} {s : CStep} (h : s.Ok t) : (turnS s).Ok t := ⟨h.m4, h.len, h.lt, turnI_nonneg _ _, turnI_lt _ _⟩
theorem turn_steps_ok {n : Nat} {ss : List CStep} (h : StepsOk n ss) : StepsOk n (ss.map turnS) := fun i s e => by
  rw [List.getElem?_map] at e
  cases q : ss[i]? with
  | none => rw [q] at e; cases e
  | some s' => rw [q] at e; cases e; exact turnS_ok (h i s' q)
theorem getD_flip {vs : List Int} {k : Nat} (h : k < vs.length) : (flip01 vs).getD k 0 = 1 - vs.getD k 0 := by
  unfold flip01
  rw [List.getD_eq_getElem?_getD, List.getElem?_map, List.getElem?_eq_getElem h, List.getD_eq_getElem?_getD, List.getElem?_eq_getElem h]
  rfl
theorem StepsOk.init {n : Nat} {ss : List CStep} {s : CStep} (h : StepsOk n (ss ++ [s])) : StepsOk n ss ∧ s.Ok (n + ss.length) := by
  refine ⟨fun i t e => h i t ?_, h ss.length s ?_⟩
  · rw [List.getElem?_append_left (List.getElem?_eq_some_iff.mp e).1]; exact e
  · rw [List.getElem?_append_right (Nat.le_refl _), Nat.sub_self]; rfl
theorem turn_vals {n r : Nat} (hr : r < 2 ^ n) (ss : List CStep) : StepsOk n ss → valsI n (ss.map turnS) r = flip01 (valsI n ss (2 ^ n - 1 - r)) := by
  induction ss using snoc_ind with
  | h0 =>
    intro _
    show bitsOf n r = flip01 (bitsOf n (2 ^ n - 1 - r))
    have hp : 0 < 2 ^ n := Nat.two_pow_pos n
    rw [flip_row (show 2 ^ n - 1 - r < 2 ^ n by omega)]
    congr 1; omega
  | h ss s ih =>
    intro h
    obtain ⟨h1, h2⟩ := h.init
    rw [List.map_append, List.map_cons, List.map_nil, vals_snoc, vals_snoc, ih h1]
    have hv : (valsI n ss (2 ^ n - 1 - r)).length = n + ss.length := vals_length
    have h01 := vals_01 (n := n) (ss := ss) (r := 2 ^ n - 1 - r)
    generalize valsI n ss (2 ^ n - 1 - r) = vs at hv h01
    show flip01 vs ++ [bitI (turnI s.m s.b) (gnum (s.ws.map fun k => (flip01 vs).getD k 0))] = flip01 (vs ++ [bitI s.b (gnum (s.ws.map fun k => vs.getD k 0))])
    have e1 : (s.ws.map fun k => (flip01 vs).getD k 0) = flip01 (s.ws.map fun k => vs.getD k 0) := by
      unfold flip01
      rw [List.map_map]
      refine List.map_congr_left fun k hk => ?_
      exact getD_flip (by rw [hv]; exact h2.lt k hk)
    have e2 : All01 (s.ws.map fun k => vs.getD k 0) := All01.map fun k _ => getD_01 h01 k
    have e3 := turn_val (b := s.b) (All01.flip e2)
    rw [flip_length, List.length_map, h2.len, Gk.flip_flip] at e3
    rw [e1, e3]
    unfold flip01
    rw [List.map_append]
    rfl
theorem p_turned_circuit {n : Nat} {ss : List CStep} {o : Nat} (hs : StepsOk n ss) (hl : ss.length ≤ 10000) : m_turned_circuit [dC n ss o] = .ok (dC n (ss.map turnS) o) := by
  unfold m_turned_circuit
  walk_at "ev"
  rw [eComp_enc (xs := ss) CStep.d (fun s => (turnS s).d) ?_ (size_le (by omega)) fun s hs' => ?_]
  · walk_at "ev"
    rw [ixC0, ixC2]
    walk_at "ev"
    rw [show ss.map (fun s => (turnS s).d) = (ss.map turnS).map CStep.d by rw [List.map_map]; rfl]
    rfl
  · walk_at "ev"
    rw [ixC1]
    walk_at "ev"
  · obtain ⟨i, hi⟩ := List.mem_iff_getElem?.mp hs'
    unfold CStep.d
    walk_at "ev"
    rw [p_turned (hs i s hi).m4]
    walk_at "ev"
    rfl
end Prog
namespace Prog
open PySem L2 L3 Gk
noncomputable def wholeB : PyData → Bool
  | .int _ => true
  | _ => false
noncomputable def belowB (d : PyData) (b : Int) : Bool := match d with
  | .int i => decide (0 ≤ i) && decide (i < b)
  | _ => false
noncomputable def tupB (d : PyData) (n : Int) : Bool := match d with
  | .tuple ds => decide ((ds.length : Int) = n)
  | _ => false
noncomputable def pairB (a b : PyData) : Bool := match a with
  | .int i => match b with
    | .int j => decide (0 ≤ i ∧ i < 5 ∧ 0 ≤ j ∧ j < 2 ^ 2 ^ i.toNat)
    | _ => false
  | _ => false
noncomputable def gateB : PyData → Bool
  | .tuple [a, b] => pairB a b
  | _ => false
theorem p_is_whole (d : PyData) : m_is_whole [d] = .ok (.bool (wholeB d)) := by
  unfold m_is_whole
  cases d <;> walk_at "ev" <;> rfl
theorem and_res {a b : Bool} : (if a = true then Res.ok (PyData.bool b) else .ok (.bool false)) = .ok (.bool (a && b)) := by cases a <;> rfl
theorem p_is_below (d : PyData) (b : Int) : m_is_below [d, .int b] = .ok (.bool (belowB d b)) := by
  unfold m_is_below
  walk_at "ev"
  rw [p_is_whole]
  cases d with
  | int i =>
    unfold wholeB belowB
    walk_at "ev"
    rw [bT_dec, and_res]
    walk_at "ev"
  | _ => unfold wholeB belowB; walk_at "ev"
theorem p_is_tuple (d : PyData) (n : Int) : m_is_tuple [d, .int n] = .ok (.bool (tupB d n)) := by
  unfold m_is_tuple
  cases d with
  | tuple ds => unfold tupB; walk_at "ev"
  | _ => unfold tupB; walk_at "ev"
theorem p_is_gate (d : PyData) : m_is_gate [d] = .ok (.bool (gateB d)) := by
  unfold m_is_gate
  walk_at "ev"
  rw [p_is_tuple]
  cases d with
  | tuple ds =>
    match ds with
    | [] => rfl
    | [a] => rfl
    | a :: b :: c :: r =>
      have e : tupB (.tuple (a :: b :: c :: r)) 2 = false := by
        show decide (((a :: b :: c :: r).length : Int) = 2) = false
        refine decide_eq_false ?_
        simp only [List.length_cons]; omega
      rw [e]
      rfl
    | [a, b] =>
      have e : tupB (.tuple [a, b]) 2 = true := rfl
      rw [e]
      walk_at "ev"
      rw [p_is_below]
      cases a with
      | int i =>
        by_cases hi : 0 ≤ i ∧ i < 5
        · obtain ⟨n, rfl⟩ : ∃ n : Nat, i = (n : Nat) := ⟨i.toNat, by omega⟩
          have e2 : belowB (.int (n : Nat)) 5 = true := by unfold belowB; simp; omega
          have e3 : belowB (.int (n : Nat)) (4 + 1) = true := e2
          simp only [e2, e3]
          walk_at "ev"
          rw [p_table_limit (by omega)]
          walk_at "ev"
          rw [p_is_below]
          walk_at "ev"
          cases b with
          | int j =>
            show Res.ok (PyData.bool (decide (0 ≤ j) && decide (j < 2 ^ 2 ^ n))) = Res.ok (PyData.bool (decide (0 ≤ ((n : Nat) : Int) ∧ ((n : Nat) : Int) < 5 ∧ 0 ≤ j ∧ j < 2 ^ 2 ^ ((n : Nat) : Int).toNat)))
            rw [Int.toNat_natCast]
            congr 2
            rw [← Bool.decide_and]
            exact decide_eq_decide.mpr ⟨fun h => ⟨hi.1, hi.2, h⟩, fun h => h.2.2⟩
          | _ => rfl
        · have e2 : belowB (.int i) 5 = false := by
            show (decide (0 ≤ i) && decide (i < 5)) = false
            rw [← Bool.decide_and]; exact decide_eq_false hi
          have e3 : belowB (.int i) (4 + 1) = false := e2
          simp only [e2, e3]
          walk_at "ev"
          cases b with
          | int j =>
            show _ = Res.ok (PyData.bool (decide (0 ≤ i ∧ i < 5 ∧ 0 ≤ j ∧ j < 2 ^ 2 ^ i.toNat)))
            rw [decide_eq_false fun h => hi ⟨h.1, h.2.1⟩]
          | _ => rfl
      | _ =>
        rfl
  | _ => rfl
noncomputable def wiresB (ws : PyData) (m t : Int) : Bool := match ws with
  | .tuple ds => decide ((ds.length : Int) = m) && ds.all fun d => belowB d t
  | _ => false
noncomputable def inpI : PyData → Int
  | .tuple (.int i :: _) => i
  | _ => 0
noncomputable def stepB (d : PyData) (t : Int) : Bool := match d with
  | .tuple [g, ws] => gateB g && wiresB ws (inpI g) t
  | _ => false
theorem gateB_ok {g : PyData} (h : gateB g = true) : ∃ (n : Nat) (b : Int), g = dG n b ∧ n ≤ 4 := by
  cases g with
  | tuple ds =>
    match ds with
    | [] => cases h
    | [a] => cases h
    | a :: b :: c :: r => cases h
    | [a, b] =>
      cases a with
      | int i =>
        cases b with
        | int j =>
          have h : decide (0 ≤ i ∧ i < 5 ∧ 0 ≤ j ∧ j < 2 ^ 2 ^ i.toNat) = true := h
          have h := of_decide_eq_true h
          exact ⟨i.toNat, j, by unfold dG; rw [Int.toNat_of_nonneg h.1], by omega⟩
        | _ => cases h
      | _ => cases h
  | _ => cases h
theorem allD_bools {α : Type} {xs : List α} {f : α → Bool} : allD [.list (xs.map fun a => PyData.bool (f a))] = .ok (.bool (xs.all f)) := by
  show (match boolsOf (xs.map fun a => PyData.bool (f a)) with | some bs => Res.ok (PyData.bool (bs.all id)) | none => .bad) = _
  rw [show xs.map (fun a => PyData.bool (f a)) = (xs.map f).map PyData.bool by rw [List.map_map]; rfl, boolsOf_map]
  show Res.ok (PyData.bool ((xs.map f).all id)) = _
  rw [List.all_map]
  rfl
theorem p_is_step (d : PyData) (t : Int) : m_is_step [d, .int t] = .ok (.bool (stepB d t)) := by
  unfold m_is_step
  walk_at "ev"
  rw [p_is_tuple]
  cases d with
  | tuple ds =>
    match ds with
    | [] => rfl
    | [a] => rfl
    | a :: b :: c :: r =>
      have e : tupB (.tuple (a :: b :: c :: r)) 2 = false := by
        show decide (((a :: b :: c :: r).length : Int) = 2) = false
        refine decide_eq_false ?_
        simp only [List.length_cons]; omega
      rw [e]
      rfl
    | [g, ws] =>
      have e : tupB (.tuple [g, ws]) 2 = true := rfl
      rw [e]
      walk_at "ev"
      rw [p_is_gate]
      show _ = Res.ok (PyData.bool (gateB g && wiresB ws (inpI g) t))
      cases hg : gateB g with
      | false => rfl
      | true =>
        obtain ⟨n, b, rfl, hn⟩ := gateB_ok hg
        walk_at "ev"
        rw [p_is_tuple, show inpI (dG n b) = (n : Nat) from rfl]
        cases ws with
        | tuple ds =>
          show _ = Res.ok (PyData.bool (true && (decide ((ds.length : Int) = (n : Nat)) && ds.all fun d => belowB d t)))
          unfold tupB
          by_cases hl : ((ds.length : Nat) : Int) = (n : Nat)
          · rw [show (match PyData.tuple ds with | .tuple ds => decide ((ds.length : Int) = (n : Nat)) | _ => false) = true from decide_eq_true hl, decide_eq_true hl]
            walk_at "ev"
            rw [eComp_map (xs := ds) (fun d => .bool (belowB d t)) ?_ (size_le (by omega)) fun x _ => ?_]
            · walk_at "ev"
              rw [allD_bools]
              rfl
            · walk_at "ev"
            · walk_at "ev"
              rw [p_is_below]
          · rw [show (match PyData.tuple ds with | .tuple ds => decide ((ds.length : Int) = (n : Nat)) | _ => false) = false from decide_eq_false hl, decide_eq_false hl]
            rfl
        | _ => rfl
  | _ => rfl
noncomputable def circB (d : PyData) : Bool := match d with
  | .tuple [a, ss, o] => match a with
    | .int n => match ss with
      | .tuple ds => (decide (0 ≤ n) && decide (n < 5)) && decide (ds.length ≤ 600) && (List.range ds.length).all (fun i => stepB (ds.getD i .none) (n + (i : Nat))) && belowB o (n + ds.length)
      | _ => false
    | _ => false
  | _ => false
theorem p_is_circuit (d : PyData) : m_is_circuit [d] = .ok (.bool (circB d)) := by
  unfold m_is_circuit
  walk_at "ev"
  rw [p_is_tuple]
  cases d with
  | tuple ds =>
    match ds with
    | [] => rfl
    | [a] => rfl
    | [a, b] => rfl
    | a :: b :: c :: e :: r =>
      have e : tupB (.tuple (a :: b :: c :: e :: r)) 3 = false := by
        show decide (((a :: b :: c :: e :: r).length : Int) = 3) = false
        refine decide_eq_false ?_
        simp only [List.length_cons]; omega
      rw [e]
      rfl
    | [a, ss, o] =>
      have e : tupB (.tuple [a, ss, o]) 3 = true := rfl
      rw [e]
      walk_at "ev"
      rw [p_is_below]
      cases a with
      | int n =>
        have eb : belowB (.int n) (4 + 1) = (decide (0 ≤ n) && decide (n < 5)) := rfl
        rw [eb]
        cases hn : (decide (0 ≤ n) && decide (n < 5)) with
        | false =>
          cases ss with
          | tuple ds =>
            show _ = Res.ok (PyData.bool ((decide (0 ≤ n) && decide (n < 5)) && decide (ds.length ≤ 600) && (List.range ds.length).all (fun i => stepB (ds.getD i .none) (n + (i : Nat))) && belowB o (n + ds.length)))
            rw [hn]
            rfl
          | _ => rfl
        | true =>
          walk_at "ev"
          cases ss with
          | tuple ds =>
            show _ = Res.ok (PyData.bool ((decide (0 ≤ n) && decide (n < 5)) && decide (ds.length ≤ 600) && (List.range ds.length).all (fun i => stepB (ds.getD i .none) (n + (i : Nat))) && belowB o (n + ds.length)))
            rw [hn]
            walk_at "ev"
            by_cases hl : ds.length ≤ 600
            · rw [decide_eq_false (show ¬ (600 : Int) < ds.length by omega), decide_eq_true hl]
              walk_at "ev"
              rw [enmD_tup]
              walk_at "ev"
              unfold enumL
              rw [forR_findE (α := Nat) (d := .bool false) (fun i => PyData.tuple [.int (i : Nat), ds.getD i .none]) (fun i => !stepB (ds.getD i .none) (n + (i : Nat))) fun i hi => ?_]
              · have ea : (List.range ds.length).any (fun i => !stepB (ds.getD i .none) (n + (i : Nat))) = !((List.range ds.length).all fun i => stepB (ds.getD i .none) (n + (i : Nat))) := by
                  rw [List.all_eq_not_any_not, Bool.not_not]
                rw [ea]
                cases hs : (List.range ds.length).all (fun i => stepB (ds.getD i .none) (n + (i : Nat))) with
                | true =>
                  walk_at "ev"
                  rw [p_is_below]
                  rfl
                | false => rfl
              · walk_at "ev"
                rw [p_is_step]
                walk_at "ev"
                rw [bS_dec]
                cases stepB (ds.getD i .none) (n + (i : Nat)) <;> rfl
            · rw [decide_eq_true (show (600 : Int) < ds.length by omega), decide_eq_false hl]
              rfl
          | _ => rfl
      | _ => rfl
  | _ => rfl
end Prog
namespace Prog
open PySem L2 L3 Gk
theorem take_snoc {α : Type} {l : List α} {i : Nat} {x : α} (h : l[i]? = some x) : l.take (i + 1) = l.take i ++ [x] := by
  rw [List.take_succ, h]; rfl
end Prog
namespace Prog
open PySem L2 L3 Gk
noncomputable def dT (m : Nat) (b : Int) (ds : List PyData) : PyData := .tuple [dG m b, .tuple ds]
noncomputable def TreeOk (n : Nat) : Nat → PyData → Prop
  | 0, d => ∃ i : Nat, i < n ∧ d = .int (i : Nat)
  | k + 1, d => (∃ i : Nat, i < n ∧ d = .int (i : Nat)) ∨ ∃ (m : Nat) (b : Int) (ds : List PyData), m ≤ 4 ∧ 0 ≤ b ∧ b < 2 ^ 2 ^ m ∧ ds.length = m ∧ d = dT m b ds ∧ ∀ e ∈ ds, TreeOk n k e
theorem TreeOk.inp {n k i : Nat} (h : i < n) : TreeOk n k (.int (i : Nat)) := by
  cases k with
  | zero => exact ⟨i, h, rfl⟩
  | succ k => exact .inl ⟨i, h, rfl⟩
noncomputable def cntT : Nat → PyData → Int
  | _, .int _ => 0
  | k + 1, .tuple [_, .tuple ds] => 1 + (ds.map (cntT k)).sum
  | _, _ => 0
theorem cntT_int {k : Nat} {i : Int} : cntT k (.int i) = 0 := by cases k <;> rfl
theorem cntT_node {k m : Nat} {b : Int} {ds : List PyData} : cntT (k + 1) (dT m b ds) = 1 + (ds.map (cntT k)).sum := rfl
theorem sum_take {α : Type} {xs : List α} {f : α → Int} {i : Nat} {x : α} (h : xs[i]? = some x) : ((xs.take (i + 1)).map f).sum = ((xs.take i).map f).sum + f x := by
  rw [List.take_succ, h, List.map_append, List.sum_append]
  simp
theorem p_is_whole_int {i : Int} : m_is_whole [.int i] = .ok (.bool true) := by
  unfold m_is_whole
  walk_at "ev"
theorem p_is_whole_tup {ds : List PyData} : m_is_whole [.tuple ds] = .ok (.bool false) := by
  unfold m_is_whole
  walk_at "ev"
end Prog
namespace Prog
open PySem L2 L3 Gk
noncomputable def ren (n1 t : Nat) (hs : List Nat) (w : Nat) : Nat := if w < n1 then hs.getD w 0 else t + (w - n1)
noncomputable def mv (n1 t : Nat) (hs : List Nat) (s : CStep) : CStep := ⟨s.m, s.b, s.ws.map (ren n1 t hs)⟩
theorem dN_ix {ks : List Nat} {w : Nat} (h : w < ks.length) : ixD (.list (dN ks)) (.int (w : Nat)) = .ok (.int (ks.getD w 0 : Nat)) := by
  refine ixD_list ?_
  unfold dN
  rw [List.getElem?_map, List.getElem?_eq_getElem h, List.getD_eq_getElem?_getD, List.getElem?_eq_getElem h]
  rfl
theorem dN_app {a b : List Nat} : dN (a ++ b) = dN a ++ dN b := by unfold dN; rw [List.map_append]
theorem dN_len {a : List Nat} : (dN a).length = a.length := by unfold dN; rw [List.length_map]
theorem names_getD {hs : List Nat} {n1 t i w : Nat} (hh : hs.length = n1) (hw : w < n1 + i) : (hs ++ (List.range i).map (t + ·)).getD w 0 = ren n1 t hs w := by
  unfold ren
  rw [List.getD_eq_getElem?_getD]
  by_cases h : w < n1
  · rw [if_pos h, List.getElem?_append_left (by omega), List.getD_eq_getElem?_getD]
  · rw [if_neg h, List.getElem?_append_right (by omega), List.getElem?_map, List.getElem?_range (by omega), hh]
    rfl
theorem p_renamed {s : CStep} {ks : List Nat} (hw : ∀ w ∈ s.ws, w < ks.length) (hl : s.ws.length ≤ 100) : m_renamed [s.d, .list (dN ks)] = .ok (CStep.mk s.m s.b (s.ws.map fun w => ks.getD w 0)).d := by
  unfold m_renamed CStep.d
  walk_at "ev"
  rw [eComp_enc (xs := s.ws) (fun w => PyData.int (w : Nat)) (fun w => .int (ks.getD w 0 : Nat)) ?_ (size_le (by omega)) fun w hw' => ?_]
  rotate_left
  · walk_at "ev"
    rfl
  · walk_at "ev"
    exact dN_ix (hw w hw')
  walk_at "ev"
  unfold dN
  rw [List.map_map]
  rfl
theorem p_add {n n1 o : Nat} {acc ss : List CStep} {hs : List Nat} (h1 : StepsOk n1 ss) (hh : hs.length = n1) (ha : acc.length ≤ 5000) (hl : ss.length ≤ 5000) (ho : o < n1 + ss.length) (hn : n1 ≤ 100) :
    m_add_circuit [.list (acc.map CStep.d), .int (n : Nat), dC n1 ss o, .list (dN hs)] = .ok (.tuple [.int (ren n1 (n + acc.length) hs o : Nat), .list ((acc ++ ss.map (mv n1 (n + acc.length) hs)).map CStep.d)]) := by
  unfold m_add_circuit
  walk_at "ev"
  rw [ixC1]
  walk_at "ev"
  refine forR_bind (fun i => [some (.list ((acc ++ (ss.take i).map (mv n1 (n + acc.length) hs)).map CStep.d)), some (.int (n : Nat)), some (dC n1 ss o), some (.list (dN hs)), some (.list (dN (hs ++ (List.range i).map (n + acc.length + ·)))), none]) ?_ (fun i x hx => ?_) ?_
  · rw [List.take_zero, List.map_nil, List.append_nil, List.range_zero, List.map_nil, List.append_nil]
  · obtain ⟨s, e, rfl⟩ := enc_get hx
    have ok := h1 i s e
    have hi := (List.getElem?_eq_some_iff.mp e).1
    have m4 := ok.m4
    have ln := ok.len
    walk_at "ev"
    rw [p_renamed (fun w hw => by have := ok.lt w hw; rw [List.length_append, List.length_map, List.length_range]; omega) (by omega)]
    have e1 : (CStep.mk s.m s.b (s.ws.map fun w => (hs ++ (List.range i).map (n + acc.length + ·)).getD w 0)) = mv n1 (n + acc.length) hs s := by
      unfold mv
      congr 1
      exact List.map_congr_left fun w hw => names_getD hh (ok.lt w hw)
    have e2 : (acc ++ (ss.take i).map (mv n1 (n + acc.length) hs)).length = acc.length + i := by
      rw [List.length_append, List.length_map, List.length_take]; omega
    rw [e1]
    walk_at "ev"
    rw [gd_pos (size_le (by omega))]
    walk_at "ev"
    rw [gd_pos (size_le (by rw [dN_len, List.length_append, List.length_map, List.length_range]; omega))]
    walk_at "ev"
    have e3 : ((n : Nat) : Int) + (((acc ++ (ss.take i).map (mv n1 (n + acc.length) hs)).map CStep.d ++ [(mv n1 (n + acc.length) hs s).d]).length : Nat) - 1 = ((n + acc.length + i : Nat) : Nat) := by
      rw [List.length_append, List.length_map, e2, List.length_singleton]; omega
    have e4 : (acc ++ (ss.take (i + 1)).map (mv n1 (n + acc.length) hs)).map CStep.d = (acc ++ (ss.take i).map (mv n1 (n + acc.length) hs)).map CStep.d ++ [(mv n1 (n + acc.length) hs s).d] := by
      rw [steps_take e, List.map_append (f := mv n1 (n + acc.length) hs), ← List.append_assoc]
      exact List.map_append
    have e5 : dN (hs ++ (List.range (i + 1)).map (n + acc.length + ·)) = dN (hs ++ (List.range i).map (n + acc.length + ·)) ++ [.int (n + acc.length + i : Nat)] := by
      rw [List.range_succ, List.map_append, ← List.append_assoc]
      exact dN_app
    rw [e3, e4, e5]
  · rw [List.length_map, List.take_length]
    walk_at "ev"
    rw [ixC2]
    walk_at "ev"
    rw [dN_ix (by rw [List.length_append, List.length_map, List.length_range]; omega), names_getD hh ho]
    walk_at "ev"
theorem vals_low {n r w : Nat} (hw : w < n) (ss : List CStep) : (valsI n ss r).getD w 0 = (bitsOf n r).getD w 0 := by
  induction ss using snoc_ind with
  | h0 => rfl
  | h ss s ih =>
    rw [vals_snoc, ← ih]
    unfold stepV
    have := vals_length (n := n) (ss := ss) (r := r)
    rw [List.getD_eq_getElem?_getD, List.getElem?_append_left (by omega), List.getD_eq_getElem?_getD]
theorem getD_left {xs ys : List Int} {w : Nat} (h : w < xs.length) : (xs ++ ys).getD w 0 = xs.getD w 0 := by
  rw [List.getD_eq_getElem?_getD, List.getElem?_append_left h, List.getD_eq_getElem?_getD]
theorem getD_map {α : Type} {f : Nat → Int} {hs : List Nat} {w : Nat} (h : w < hs.length) : (hs.map f).getD w 0 = f (hs.getD w 0) := by
  rw [List.getD_eq_getElem?_getD, List.getElem?_map, List.getElem?_eq_getElem h, List.getD_eq_getElem?_getD, List.getElem?_eq_getElem h]
  rfl
theorem ren_val {n1 w k : Nat} {hs : List Nat} {A B : List Int} (hh : hs.length = n1) (hlt : ∀ x ∈ hs, x < A.length) (hB : B.length = n1 + k) (hb : ∀ w, w < n1 → B.getD w 0 = A.getD (hs.getD w 0) 0) (hw : w < n1 + k) :
    (A ++ B.drop n1).getD (ren n1 A.length hs w) 0 = B.getD w 0 := by
  unfold ren
  by_cases h : w < n1
  · have hx : hs.getD w 0 < A.length := by
      rw [List.getD_eq_getElem?_getD, List.getElem?_eq_getElem (by omega)]
      exact hlt _ (List.getElem_mem _)
    rw [if_pos h, hb w h, getD_left hx]
  · rw [if_neg h, List.getD_eq_getElem?_getD, List.getElem?_append_right (by omega), List.getElem?_drop, List.getD_eq_getElem?_getD]
    congr 2
    omega
theorem mv_vals {n n1 r r' : Nat} {acc : List CStep} {hs : List Nat} (hh : hs.length = n1) (hlt : ∀ x ∈ hs, x < n + acc.length) (hb : bitsOf n1 r' = hs.map fun w => (valsI n acc r).getD w 0) (ss : List CStep) :
    StepsOk n1 ss → valsI n (acc ++ ss.map (mv n1 (n + acc.length) hs)) r = valsI n acc r ++ (valsI n1 ss r').drop n1 := by
  have hA := vals_length (n := n) (ss := acc) (r := r)
  induction ss using snoc_ind with
  | h0 =>
    intro _
    rw [List.map_nil, List.append_nil, show valsI n1 [] r' = bitsOf n1 r' from rfl, List.drop_of_length_le (by rw [bitsOf_length]; exact Nat.le_refl _), List.append_nil]
  | h ss s ih =>
    intro h
    obtain ⟨h1, h2⟩ := h.init
    have hB := vals_length (n := n1) (ss := ss) (r := r')
    rw [List.map_append, List.map_cons, List.map_nil, ← List.append_assoc, vals_snoc, vals_snoc, ih h1]
    unfold stepV
    have key : ∀ w ∈ s.ws, (valsI n acc r ++ (valsI n1 ss r').drop n1).getD (ren n1 (n + acc.length) hs w) 0 = (valsI n1 ss r').getD w 0 := fun w hw => by
      have := ren_val (k := ss.length) (w := w) (A := valsI n acc r) (B := valsI n1 ss r') hh (fun x hx => by rw [hA]; exact hlt x hx) hB (fun u hu => by rw [vals_low hu, hb, getD_map (α := Nat) (by omega)]) (h2.lt w hw)
      rw [hA] at this
      exact this
    rw [List.append_assoc, List.drop_append_of_le_length (by omega)]
    congr 2
    show [bitI s.b (gnum ((s.ws.map (ren n1 (n + acc.length) hs)).map fun k => _))] = _
    rw [List.map_map]
    congr 3
    exact List.map_congr_left fun w hw => key w hw
theorem mv_ok {n n1 : Nat} {acc ss : List CStep} {hs : List Nat} (ha : StepsOk n acc) (h1 : StepsOk n1 ss) (hh : hs.length = n1) (hlt : ∀ x ∈ hs, x < n + acc.length) : StepsOk n (acc ++ ss.map (mv n1 (n + acc.length) hs)) := fun i s e => by
  by_cases h : i < acc.length
  · rw [List.getElem?_append_left h] at e
    exact ha i s e
  · rw [List.getElem?_append_right (by omega), List.getElem?_map] at e
    cases q : ss[i - acc.length]? with
    | none => rw [q] at e; cases e
    | some s' =>
      rw [q] at e
      cases e
      have ok := h1 _ _ q
      refine ⟨ok.m4, by show (s'.ws.map _).length = s'.m; rw [List.length_map, ok.len], fun w hw => ?_, ok.b0, ok.b1⟩
      obtain ⟨u, hu, rfl⟩ := List.mem_map.mp hw
      have := ok.lt u hu
      unfold ren
      by_cases hn : u < n1
      · rw [if_pos hn, List.getD_eq_getElem?_getD, List.getElem?_eq_getElem (by omega)]
        have := hlt _ (List.getElem_mem (l := hs) (n := u) (by omega))
        show hs[u] < _
        omega
      · rw [if_neg hn]; omega
theorem ren_lt {n1 t k w : Nat} {hs : List Nat} (hh : hs.length = n1) (hlt : ∀ x ∈ hs, x < t) (hw : w < n1 + k) : ren n1 t hs w < t + k := by
  unfold ren
  by_cases hn : w < n1
  · rw [if_pos hn, List.getD_eq_getElem?_getD, List.getElem?_eq_getElem (by omega)]
    have := hlt _ (List.getElem_mem (l := hs) (n := w) (by omega))
    show hs[w] < _
    omega
  · rw [if_neg hn]; omega
noncomputable abbrev Part := List CStep × Nat
noncomputable def Part.d (n : Nat) (p : Part) : PyData := dC n p.1 p.2
structure Part.Ok (n : Nat) (p : Part) : Prop where
  st : StepsOk n p.1
  le : p.1.length ≤ 600
  lt : p.2 < n + p.1.length
noncomputable def addP (n : Nat) (a : List CStep × List Nat) (p : Part) : List CStep × List Nat := (a.1 ++ p.1.map (mv n (n + a.1.length) (List.range n)), a.2 ++ [ren n (n + a.1.length) (List.range n) p.2])
noncomputable def stP (n : Nat) (ps : List Part) : List CStep × List Nat := ps.foldl (addP n) ([], [])
theorem stP_snoc {n : Nat} {ps : List Part} {p : Part} : stP n (ps ++ [p]) = addP n (stP n ps) p := by unfold stP; rw [List.foldl_append]; rfl
theorem part_take {ps : List Part} {i : Nat} {p : Part} (h : ps[i]? = some p) : ps.take (i + 1) = ps.take i ++ [p] := by
  rw [List.take_add_one, h]; rfl
theorem stP_ok {n : Nat} (ps : List Part) : (∀ p ∈ ps, p.Ok n) → StepsOk n (stP n ps).1 ∧ (∀ x ∈ (stP n ps).2, x < n + (stP n ps).1.length) ∧ (stP n ps).2.length = ps.length ∧ (stP n ps).1.length ≤ 600 * ps.length ∧
    (((stP n ps).1.length : Nat) : Int) = (ps.map fun p => ((p.1.length : Nat) : Int)).sum ∧ ∀ r, ((stP n ps).2.map fun w => (valsI n (stP n ps).1 r).getD w 0) = ps.map fun p => (valsI n p.1 r).getD p.2 0 := by
  induction ps using snoc_ind with
  | h0 => exact fun _ => ⟨StepsOk.nil, fun x hx => (nomatch hx), rfl, Nat.zero_le _, rfl, fun _ => rfl⟩
  | h ps p ih =>
    intro h
    obtain ⟨i1, i2, i3, i4, i5, i6⟩ := ih fun q hq => h q (List.mem_append_left _ hq)
    have hp := h p (List.mem_append_right _ (List.mem_singleton.mpr rfl))
    rw [stP_snoc]
    generalize stP n ps = a at i1 i2 i3 i4 i5 i6
    have hr : ∀ x ∈ List.range n, x < n + a.1.length := fun x hx => by have := List.mem_range.mp hx; omega
    have hl := List.length_range (n := n)
    have hle := hp.le
    have hL : (a.1 ++ p.1.map (mv n (n + a.1.length) (List.range n))).length = a.1.length + p.1.length := by rw [List.length_append, List.length_map]
    refine ⟨mv_ok i1 hp.st hl hr, fun x hx => ?_, ?_, ?_, ?_, fun r => ?_⟩
    · show x < n + (a.1 ++ _).length
      rw [hL]
      rcases List.mem_append.mp hx with z | z
      · have := i2 x z; omega
      · rw [List.mem_singleton.mp z]
        have := ren_lt (t := n + a.1.length) (k := p.1.length) hl hr hp.lt
        omega
    · show (a.2 ++ [_]).length = _
      rw [List.length_append, List.length_append, i3]; rfl
    · show (a.1 ++ _).length ≤ _
      rw [hL, List.length_append, List.length_singleton]; omega
    · show (((a.1 ++ _).length : Nat) : Int) = _
      rw [hL, List.map_append, List.sum_append, ← i5]
      show _ = _ + (((p.1.length : Nat) : Int) + 0)
      omega
    · have hv := mv_vals (n := n) (n1 := n) (r := r) (r' := r) (acc := a.1) hl hr (by
        refine list_ext_getD (by rw [bitsOf_length, List.length_map, hl]) fun i hi => ?_
        rw [bitsOf_length] at hi
        rw [getD_map (α := Nat) (by omega), List.getD_eq_getElem?_getD (l := List.range n), List.getElem?_range hi]
        exact (vals_low hi _).symm) p.1 hp.st
      have hA := vals_length (n := n) (ss := a.1) (r := r)
      show (a.2 ++ [_]).map (fun w => (valsI n (a.1 ++ _) r).getD w 0) = _
      rw [hv, List.map_append, List.map_append, ← i6 r]
      congr 1
      · exact List.map_congr_left fun w hw => getD_left (by rw [hA]; exact i2 w hw)
      · show [_] = [_]
        congr 1
        have := ren_val (k := p.1.length) (w := p.2) (A := valsI n a.1 r) (B := valsI n p.1 r) hl (fun x hx => by rw [hA]; exact hr x hx) vals_length (fun u hu => by
          rw [List.getD_eq_getElem?_getD (l := List.range n), List.getElem?_range hu]
          show _ = (valsI n a.1 r).getD u 0
          rw [vals_low hu, vals_low hu]) hp.lt
        rw [hA] at this
        exact this
noncomputable def tot (ps : List Part) : Int := (ps.map fun p => ((p.1.length : Nat) : Int)).sum
theorem tot_sum {ps : List Part} : sumD [.list (ps.map fun p => PyData.int ((p.1.length : Nat) : Int))] = .ok (.int (tot ps)) := by
  rw [show (ps.map fun p => PyData.int ((p.1.length : Nat) : Int)) = (ps.map fun p => ((p.1.length : Nat) : Int)).map PyData.int by rw [List.map_map]; rfl, sumD_ints]
  rfl
noncomputable def joinS (n n0 : Nat) (ss : List CStep) (ps : List Part) : List CStep := (stP n ps).1 ++ ss.map (mv n0 (n + (stP n ps).1.length) (stP n ps).2)
noncomputable def joinO (n n0 o : Nat) (ps : List Part) : Nat := ren n0 (n + (stP n ps).1.length) (stP n ps).2 o
theorem p_joined {n n0 o : Nat} {ss : List CStep} {ps : List Part} (hn : n ≤ 100) (hn0 : n0 ≤ 100) (hs : StepsOk n0 ss) (hl : ss.length ≤ 600) (ho : o < n0 + ss.length) (hps : ∀ p ∈ ps, p.Ok n) (hk : ps.length = n0) (hp : 0 < n0) (hk4 : n0 ≤ 4) (ht : ((ss.length : Nat) : Int) + tot ps ≤ 600) :
    m_joined [dC n0 ss o, .list (ps.map (Part.d n))] = .ok (dC n (joinS n n0 ss ps) (joinO n n0 o ps)) := by
  unfold m_joined
  walk_at "ev"
  rw [ixC1]
  walk_at "ev"
  rw [eComp_enc (xs := ps) (Part.d n) (fun p => PyData.int ((p.1.length : Nat) : Int)) ?_ (size_le (by omega)) fun p _ => ?_]
  rotate_left
  · walk_at "ev"
  · walk_at "ev"
    unfold Part.d
    rw [ixC1]
    walk_at "ev"
  walk_at "ev"
  rw [tot_sum]
  walk_at "ev"
  rw [decide_eq_false (by omega)]
  walk_at "ev"
  rw [decide_eq_false (by omega)]
  walk_at "ev"
  obtain ⟨p0, h0, _⟩ := pick (P := fun _ => True) (l := ps) (i := 0) (by omega) fun _ _ => trivial
  rw [show ixD (.list (ps.map (Part.d n))) (.int 0) = .ok (Part.d n p0) from ixD_list (i := 0) (by rw [List.getElem?_map, h0]; rfl)]
  walk_at "ev"
  rw [show ixD (Part.d n p0) (.int 0) = .ok (.int (n : Nat)) from ixC0]
  walk_at "ev"
  refine forR_bind (fun i => [some (dC n0 ss o), some (.list (ps.map (Part.d n))), some (.int (n : Nat)), some (.list ((stP n (ps.take i)).1.map CStep.d)), some (.list (dN (stP n (ps.take i)).2)), none, none]) rfl (fun i x hx => ?_) ?_
  · obtain ⟨p, e, rfl⟩ := enc_get hx
    have hi := (List.getElem?_eq_some_iff.mp e).1
    have hpo := hps p (List.mem_of_getElem? e)
    obtain ⟨i1, i2, i3, i4, _, _⟩ := stP_ok (n := n) (ps.take i) fun q hq => hps q (List.mem_of_mem_take hq)
    have ht : (ps.take i).length = i := by rw [List.length_take]; omega
    rw [ht] at i3 i4
    have hle := hpo.le
    walk_at "ev"
    rw [gd_pos (by omega)]
    walk_at "ev"
    rw [show PyData.list (upN ((n : Nat) : Int).toNat) = .list (dN (List.range n)) from rfl, show Part.d n p = dC n p.1 p.2 from rfl, p_add hpo.st List.length_range (by omega) (by omega) hpo.lt hn]
    walk_at "ev"
    rw [gd_pos (size_le (by rw [dN_len]; omega))]
    walk_at "ev"
    rw [part_take e, stP_snoc]
    unfold addP
    rw [dN_app]
    rfl
  · rw [List.length_map, List.take_length]
    obtain ⟨i1, i2, i3, i4, i5, _⟩ := stP_ok (n := n) ps hps
    walk_at "ev"
    rw [p_add hs (i3.trans hk) (by omega) (by omega) ho hn0]
    walk_at "ev"
    rfl
theorem joined_ok {n n0 o : Nat} {ss : List CStep} {ps : List Part} (hs : StepsOk n0 ss) (ho : o < n0 + ss.length) (hps : ∀ p ∈ ps, p.Ok n) (hk : ps.length = n0) : StepsOk n (joinS n n0 ss ps) ∧ joinO n n0 o ps < n + (joinS n n0 ss ps).length ∧ (((joinS n n0 ss ps).length : Nat) : Int) = ss.length + tot ps := by
  obtain ⟨i1, i2, i3, i4, i5, _⟩ := stP_ok (n := n) ps hps
  have hL : (joinS n n0 ss ps).length = (stP n ps).1.length + ss.length := by unfold joinS; rw [List.length_append, List.length_map]
  refine ⟨mv_ok i1 hs (i3.trans hk) i2, ?_, ?_⟩
  · have := ren_lt (k := ss.length) (i3.trans hk) i2 ho
    unfold joinO
    omega
  · unfold tot
    rw [hL, ← i5]; omega
theorem joined_val {n n0 o r : Nat} {ss : List CStep} {ps : List Part} (hs : StepsOk n0 ss) (ho : o < n0 + ss.length) (hps : ∀ p ∈ ps, p.Ok n) (hk : ps.length = n0) :
    (valsI n (joinS n n0 ss ps) r).getD (joinO n n0 o ps) 0 = (valsI n0 ss (gnum (ps.map fun p => (valsI n p.1 r).getD p.2 0)).toNat).getD o 0 := by
  obtain ⟨i1, i2, i3, i4, i5, i6⟩ := stP_ok (n := n) ps hps
  have h01 : All01 (ps.map fun p => (valsI n p.1 r).getD p.2 0) := fun x hx => by
    obtain ⟨p, _, rfl⟩ := List.mem_map.mp hx
    exact getD_01 vals_01 _
  have hb := bitsOf_gnum h01
  rw [List.length_map, hk] at hb
  have hA := vals_length (n := n) (ss := (stP n ps).1) (r := r)
  have hv := mv_vals (n := n) (n1 := n0) (r := r) (acc := (stP n ps).1) (i3.trans hk) i2 (hb.trans (i6 r).symm) ss hs
  unfold joinS joinO
  rw [hv]
  have := ren_val (k := ss.length) (w := o) (A := valsI n (stP n ps).1 r) (B := valsI n0 ss (gnum (ps.map fun p => (valsI n p.1 r).getD p.2 0)).toNat) (i3.trans hk) (fun x hx => by rw [hA]; exact i2 x hx) vals_length (fun u hu => by
    rw [vals_low hu, hb, ← i6 r, getD_map (α := Nat) (by omega)]) ho
  rw [hA] at this
  exact this
end Prog
namespace Prog
open PySem L2 L3 Gk
noncomputable def cntS (cs : List Int) (s : CStep) : List Int := cs ++ [1 + (s.ws.map fun w => cs.getD w 0).sum]
noncomputable def cntI (n : Nat) (ss : List CStep) : List Int := ss.foldl cntS (List.replicate n 0)
theorem cnt_snoc {n : Nat} {ss : List CStep} {s : CStep} : cntI n (ss ++ [s]) = cntS (cntI n ss) s := by unfold cntI; rw [List.foldl_append]; rfl
theorem cnt_length {n : Nat} {ss : List CStep} : (cntI n ss).length = n + ss.length := by
  induction ss using snoc_ind with
  | h0 => exact List.length_replicate
  | h ss s ih => rw [cnt_snoc]; unfold cntS; rw [List.length_append, ih, List.length_append]; rfl
noncomputable def treS (ts : List PyData) (s : CStep) : List PyData := ts ++ [.tuple [dG s.m s.b, .tuple (s.ws.map fun w => ts.getD w .none)]]
noncomputable def treI (n : Nat) (ss : List CStep) : List PyData := ss.foldl treS (upN n)
theorem tre_snoc {n : Nat} {ss : List CStep} {s : CStep} : treI n (ss ++ [s]) = treS (treI n ss) s := by unfold treI; rw [List.foldl_append]; rfl
theorem tre_length {n : Nat} {ss : List CStep} : (treI n ss).length = n + ss.length := by
  induction ss using snoc_ind with
  | h0 => exact upN_length n
  | h ss s ih => rw [tre_snoc]; unfold treS; rw [List.length_append, ih, List.length_append]; rfl
theorem pd_left {xs ys : List PyData} {w : Nat} (h : w < xs.length) : (xs ++ ys).getD w .none = xs.getD w .none := by
  rw [List.getD_eq_getElem?_getD, List.getElem?_append_left h, List.getD_eq_getElem?_getD]
theorem tre_low {n w : Nat} (hw : w < n) (ss : List CStep) : (treI n ss).getD w .none = .int (w : Nat) := by
  induction ss using snoc_ind with
  | h0 =>
    show (upN n).getD w .none = _
    unfold upN
    rw [List.getD_eq_getElem?_getD, List.getElem?_map, List.getElem?_range hw]
    rfl
  | h ss s ih =>
    rw [tre_snoc, ← ih]
    exact pd_left (by rw [tre_length]; omega)
theorem tre_at {n : Nat} (ss : List CStep) : StepsOk n ss → ∀ {i : Nat} {s : CStep}, ss[i]? = some s → (treI n ss).getD (n + i) .none = .tuple [dG s.m s.b, .tuple (s.ws.map fun w => (treI n ss).getD w .none)] := by
  induction ss using snoc_ind with
  | h0 => intro _ i s e; cases e
  | h ss t ih =>
    intro h i s e
    obtain ⟨h1, h2⟩ := h.init
    have hl := tre_length (n := n) (ss := ss)
    have ok := h i s e
    rw [tre_snoc]
    by_cases hi : i < ss.length
    · rw [List.getElem?_append_left hi] at e
      unfold treS
      rw [pd_left (by omega), ih h1 e]
      congr 3
      exact congrArg PyData.tuple (List.map_congr_left fun w hw => (pd_left (xs := treI n ss) (w := w) (by have := ok.lt w hw; omega)).symm)
    · have hi2 : i = ss.length := by
        have := (List.getElem?_eq_some_iff.mp e).1
        rw [List.length_append, List.length_singleton] at this
        omega
      subst hi2
      rw [List.getElem?_append_right (Nat.le_refl _), Nat.sub_self] at e
      cases e
      unfold treS
      rw [List.getD_eq_getElem?_getD, List.getElem?_append_right (by omega), hl, Nat.sub_self]
      show PyData.tuple _ = _
      congr 3
      exact congrArg PyData.tuple (List.map_congr_left fun w hw => (pd_left (xs := treI n ss) (w := w) (by have := ok.lt w hw; omega)).symm)
theorem ixD_pd {ts : List PyData} {w : Nat} (h : w < ts.length) : ixD (.list ts) (.int (w : Nat)) = .ok (ts.getD w .none) := by
  refine ixD_list ?_
  rw [List.getElem?_eq_getElem h, List.getD_eq_getElem?_getD, List.getElem?_eq_getElem h]
  rfl
theorem sum_map {α : Type} {ws : List α} {f : α → Int} : sumD [.list (ws.map fun w => PyData.int (f w))] = .ok (.int (ws.map f).sum) := by
  rw [show (ws.map fun w => PyData.int (f w)) = (ws.map f).map PyData.int by rw [List.map_map]; rfl, sumD_ints]
theorem repD_okS {a : List PyData} {k : Int} (h : -(2 ^ 63) ≤ k ∧ k < 2 ^ 63 ∧ a.length * k.toNat ≤ sizeLine) : repD (.list a) (.int k) = .ok (.list (List.replicate k.toNat a).flatten) := gd_pos h
theorem rep1S {n : Nat} {x : PyData} (hn : n ≤ 100) : repD (.list [x]) (.int (n : Nat)) = .ok (.list (List.replicate n x)) := by
  rw [repD_okS ⟨by omega, by omega, by rw [Int.toNat_natCast, List.length_singleton, Nat.one_mul]; exact Nat.le_of_lt (size_le (by omega))⟩, Int.toNat_natCast]
  congr 2
  clear hn
  induction n with
  | zero => rfl
  | succ n ih => rw [List.replicate_succ, List.flatten_cons, ih, List.replicate_succ]; rfl
theorem rep0 {n : Nat} (hn : n ≤ 100) : repD (.list [.int 0]) (.int (n : Nat)) = .ok (dL (List.replicate n 0)) := by
  rw [rep1S hn]
  unfold dL
  rw [List.map_replicate]
theorem p_size {n o : Nat} {ss : List CStep} (hn : n ≤ 100) (hs : StepsOk n ss) (hl : ss.length ≤ 5000) (ho : o < n + ss.length) : m_spread_size [dC n ss o] = .ok (.int ((cntI n ss).getD o 0)) := by
  unfold m_spread_size
  walk_at "ev"
  rw [ixC0]
  walk_at "ev"
  rw [rep0 hn]
  walk_at "ev"
  rw [ixC1]
  walk_at "ev"
  refine forR_bind (fun i => [some (dC n ss o), some (dL (cntI n (ss.take i))), none]) rfl (fun i x hx => ?_) ?_
  · obtain ⟨s, e, rfl⟩ := enc_get hx
    have ok := hs i s e
    have hi := (List.getElem?_eq_some_iff.mp e).1
    have m4 := ok.m4
    have ln := ok.len
    have hc : (cntI n (ss.take i)).length = n + i := by rw [cnt_length, List.length_take]; omega
    unfold CStep.d
    walk_at "ev"
    rw [eComp_enc (xs := s.ws) (fun w => PyData.int (w : Nat)) (fun w => .int ((cntI n (ss.take i)).getD w 0)) ?_ (size_le (by omega)) fun w hw => ?_]
    rotate_left
    · walk_at "ev"
      rfl
    · walk_at "ev"
      rw [getD_ix (by have := ok.lt w hw; omega)]
    walk_at "ev"
    rw [sum_map]
    unfold dL
    walk_at "ev"
    rw [gd_pos (size_le (by omega))]
    walk_at "ev"
    rw [steps_take e, cnt_snoc]
    unfold cntS
    rw [List.map_append]
    rfl
  · rw [List.length_map, List.take_length]
    walk_at "ev"
    rw [ixC2]
    walk_at "ev"
    rw [getD_ix (by rw [cnt_length]; exact ho)]
    walk_at "ev"
theorem p_spread {n o : Nat} {ss : List CStep} (hn : n ≤ 100) (hs : StepsOk n ss) (hl : ss.length ≤ 5000) (ho : o < n + ss.length) (hb : ¬ 300 < (cntI n ss).getD o 0) : m_spread [dC n ss o] = .ok ((treI n ss).getD o .none) := by
  unfold m_spread
  walk_at "ev"
  rw [p_size hn hs hl ho]
  walk_at "ev"
  rw [decide_eq_false hb]
  walk_at "ev"
  rw [ixC0]
  walk_at "ev"
  rw [gd_pos (by omega), Int.toNat_natCast]
  walk_at "ev"
  rw [ixC1]
  walk_at "ev"
  refine forR_bind (fun i => [some (dC n ss o), some (.list (treI n (ss.take i))), none]) rfl (fun i x hx => ?_) ?_
  · obtain ⟨s, e, rfl⟩ := enc_get hx
    have ok := hs i s e
    have hi := (List.getElem?_eq_some_iff.mp e).1
    have m4 := ok.m4
    have ln := ok.len
    have hc : (treI n (ss.take i)).length = n + i := by rw [tre_length, List.length_take]; omega
    unfold CStep.d
    walk_at "ev"
    rw [eComp_enc (xs := s.ws) (fun w => PyData.int (w : Nat)) (fun w => (treI n (ss.take i)).getD w .none) ?_ (size_le (by omega)) fun w hw => ?_]
    rotate_left
    · walk_at "ev"
      rfl
    · walk_at "ev"
      rw [ixD_pd (by have := ok.lt w hw; omega)]
    walk_at "ev"
    rw [gd_pos (size_le (by omega))]
    walk_at "ev"
    rw [steps_take e, tre_snoc]
    rfl
  · rw [List.length_map, List.take_length]
    walk_at "ev"
    rw [ixC2]
    walk_at "ev"
    rw [ixD_pd (by rw [tre_length]; exact ho)]
    walk_at "ev"
end Prog
namespace Prog
open PySem L2 L3 Gk
noncomputable def kidsT (f : List CStep → PyData → List CStep × Nat) (acc : List CStep) (ds : List PyData) : List CStep × List Nat := ds.foldl (fun a d => ((f a.1 d).1, a.2 ++ [(f a.1 d).2])) (acc, [])
noncomputable def addT (n : Nat) : Nat → List CStep → PyData → List CStep × Nat
  | 0 => fun acc d => match d with
    | .int i => (acc, i.toNat)
    | _ => (acc, 0)
  | k + 1 => fun acc d => match d with
    | .int i => (acc, i.toNat)
    | .tuple [.tuple [.int m, .int b], .tuple ds] => ((kidsT (addT n k) acc ds).1 ++ [⟨m.toNat, b, (kidsT (addT n k) acc ds).2⟩], n + (kidsT (addT n k) acc ds).1.length)
    | _ => (acc, 0)
theorem addT_int {n k i : Nat} {acc : List CStep} : addT n k acc (.int (i : Nat)) = (acc, i) := by cases k <;> rfl
theorem addT_node {n k m : Nat} {b : Int} {ds : List PyData} {acc : List CStep} : addT n (k + 1) acc (dT m b ds) = ((kidsT (addT n k) acc ds).1 ++ [⟨m, b, (kidsT (addT n k) acc ds).2⟩], n + (kidsT (addT n k) acc ds).1.length) := rfl
theorem kids_snoc {f : List CStep → PyData → List CStep × Nat} {acc : List CStep} {ds : List PyData} {d : PyData} : kidsT f acc (ds ++ [d]) = ((f (kidsT f acc ds).1 d).1, (kidsT f acc ds).2 ++ [(f (kidsT f acc ds).1 d).2]) := by
  unfold kidsT; rw [List.foldl_append]; rfl
noncomputable def foldW {β : Type} (φ : Nat → Int → List β → β) (z : β) (base : List β) (ss : List CStep) : List β := ss.foldl (fun xs s => xs ++ [φ s.m s.b (s.ws.map fun w => xs.getD w z)]) base
section
variable {β : Type} {φ : Nat → Int → List β → β} {z : β} {base : List β} {n : Nat}
theorem fold_snoc {ss : List CStep} {s : CStep} : foldW φ z base (ss ++ [s]) = foldW φ z base ss ++ [φ s.m s.b (s.ws.map fun w => (foldW φ z base ss).getD w z)] := by unfold foldW; rw [List.foldl_append]; rfl
theorem fold_length (hb : base.length = n) {ss : List CStep} : (foldW φ z base ss).length = n + ss.length := by
  induction ss using snoc_ind with
  | h0 => exact hb
  | h ss s ih => rw [fold_snoc, List.length_append, ih, List.length_append]; rfl
theorem b_left {xs ys : List β} {w : Nat} (h : w < xs.length) : (xs ++ ys).getD w z = xs.getD w z := by
  rw [List.getD_eq_getElem?_getD, List.getElem?_append_left h, List.getD_eq_getElem?_getD]
theorem fold_pre (hb : base.length = n) {acc : List CStep} {w : Nat} (hw : w < n + acc.length) (more : List CStep) : (foldW φ z base (acc ++ more)).getD w z = (foldW φ z base acc).getD w z := by
  induction more using snoc_ind with
  | h0 => rw [List.append_nil]
  | h ss s ih =>
    rw [← List.append_assoc, fold_snoc, b_left (by rw [fold_length hb, List.length_append]; omega), ih]
structure Kid (φ : Nat → Int → List β → β) (z : β) (base : List β) (n : Nat) (acc : List CStep) (q : List CStep × Nat) (g : β) (c : Int) : Prop where
  pre : ∃ more, q.1 = acc ++ more
  ok : StepsOk n q.1
  lt : q.2 < n + q.1.length
  val : (foldW φ z base q.1).getD q.2 z = g
  len : ((q.1.length : Nat) : Int) = acc.length + c
structure Kids (φ : Nat → Int → List β → β) (z : β) (base : List β) (n : Nat) (acc : List CStep) (q : List CStep × List Nat) (gs : List β) (c : Int) : Prop where
  pre : ∃ more, q.1 = acc ++ more
  ok : StepsOk n q.1
  lt : ∀ w ∈ q.2, w < n + q.1.length
  val : (q.2.map fun w => (foldW φ z base q.1).getD w z) = gs
  len : ((q.1.length : Nat) : Int) = acc.length + c
theorem kids_ok (hb : base.length = n) {f : List CStep → PyData → List CStep × Nat} {G : PyData → β} {C : PyData → Int} {acc : List CStep} (ha : StepsOk n acc) (ds : List PyData) :
    (∀ d ∈ ds, ∀ acc, StepsOk n acc → Kid φ z base n acc (f acc d) (G d) (C d)) → Kids φ z base n acc (kidsT f acc ds) (ds.map G) (ds.map C).sum := by
  induction ds using snoc_ind with
  | h0 => exact fun _ => ⟨⟨[], (List.append_nil _).symm⟩, ha, fun w hw => (nomatch hw), rfl, by show ((acc.length : Nat) : Int) = acc.length + (0 : Int); omega⟩
  | h ds d ih =>
    intro h
    obtain ⟨⟨m1, p1⟩, o1, l1, v1, n1⟩ := ih fun e he => h e (List.mem_append_left _ he)
    obtain ⟨⟨m2, p2⟩, o2, l2, v2, n2⟩ := h d (List.mem_append_right _ (List.mem_singleton.mpr rfl)) _ o1
    rw [kids_snoc]
    generalize kidsT f acc ds = a at p1 o1 l1 v1 n1 p2 o2 l2 v2 n2
    generalize f a.1 d = q at p2 o2 l2 v2 n2
    refine ⟨⟨m1 ++ m2, by show q.1 = _; rw [p2, p1, List.append_assoc]⟩, o2, fun w hw => ?_, ?_, ?_⟩
    · show w < n + q.1.length
      rcases List.mem_append.mp hw with hw | hw
      · have := l1 w hw
        rw [p2, List.length_append]; omega
      · rw [List.mem_singleton.mp hw]; exact l2
    · show (a.2 ++ [q.2]).map (fun w => (foldW φ z base q.1).getD w z) = _
      rw [List.map_append, List.map_append, ← v1, List.map_cons, List.map_nil, List.map_cons, List.map_nil, ← v2]
      congr 1
      refine List.map_congr_left fun w hw => ?_
      rw [p2]
      exact fold_pre hb (l1 w hw) _
    · show ((q.1.length : Nat) : Int) = _
      rw [n2, n1, List.map_append, List.sum_append]
      show _ = _ + (_ + (C d + 0))
      omega
theorem addT_ok (hb : base.length = n) {G : Nat → PyData → β} (h0 : ∀ k i : Nat, i < n → G k (.int (i : Nat)) = base.getD i z) (h1 : ∀ k m b ds, G (k + 1) (dT m b ds) = φ m b (ds.map (G k))) :
    ∀ {k : Nat} {d : PyData} {acc : List CStep}, TreeOk n k d → StepsOk n acc → Kid φ z base n acc (addT n k acc d) (G k d) (cntT k d) := by
  have inp : ∀ {k i : Nat} {acc : List CStep}, i < n → StepsOk n acc → Kid φ z base n acc (addT n k acc (.int (i : Nat))) (G k (.int (i : Nat))) (cntT k (.int (i : Nat))) := fun {k i acc} hi ha => by
    rw [addT_int, cntT_int, h0 k i hi]
    refine ⟨⟨[], (List.append_nil _).symm⟩, ha, by show i < n + acc.length; omega, ?_, by show ((acc.length : Nat) : Int) = acc.length + (0 : Int); omega⟩
    have := fold_pre (φ := φ) (z := z) hb (acc := []) (w := i) (by show i < n + 0; omega) acc
    exact this
  intro k
  induction k with
  | zero =>
    intro d acc h ha
    obtain ⟨i, hi, rfl⟩ := h
    exact inp hi ha
  | succ k ih =>
    intro d acc h ha
    rcases h with ⟨i, hi, rfl⟩ | ⟨m, b, ds, hm, b0, b1, hl, rfl, hk⟩
    · exact inp hi ha
    · obtain ⟨⟨m1, p1⟩, o1, l1, v1, n1⟩ := kids_ok (φ := φ) (z := z) hb (f := addT n k) (G := G k) (C := cntT k) ha ds fun d hd acc ha => ih (hk d hd) ha
      rw [addT_node, cntT_node, h1]
      have hkl : (kidsT (addT n k) acc ds).2.length = m := by
        have := congrArg List.length v1
        rw [List.length_map, List.length_map] at this
        omega
      generalize kidsT (addT n k) acc ds = a at p1 o1 l1 v1 n1 hkl
      refine ⟨⟨m1 ++ [⟨m, b, a.2⟩], by show a.1 ++ _ = _; rw [p1, List.append_assoc]⟩, o1.snoc ⟨hm, hkl, l1, b0, b1⟩, by show n + a.1.length < n + (a.1 ++ _).length; rw [List.length_append]; show _ < _ + (_ + 1); omega, ?_, ?_⟩
      · show (foldW φ z base (a.1 ++ [⟨m, b, a.2⟩])).getD (n + a.1.length) z = _
        rw [fold_snoc, List.getD_eq_getElem?_getD, List.getElem?_append_right (by rw [fold_length hb]; exact Nat.le_refl _), fold_length hb, Nat.sub_self]
        show φ m b (a.2.map fun w => (foldW φ z base a.1).getD w z) = _
        rw [v1]
      · show (((a.1 ++ _).length : Nat) : Int) = _
        rw [List.length_append, List.length_singleton]
        omega
end
theorem p_add_tree {n : Nat} : ∀ {k : Nat} {d : PyData} {acc : List CStep} {fu : Nat}, TreeOk n k d → StepsOk n acc → k < fu → ((acc.length : Nat) : Int) + cntT k d ≤ 5000 →
    m_add_tree fu [.list (acc.map CStep.d), .int (n : Nat), d] = .ok (.tuple [.int ((addT n k acc d).2 : Nat), .list ((addT n k acc d).1.map CStep.d)]) := by
  have ADD : ∀ {k : Nat} {d : PyData} {acc : List CStep}, TreeOk n k d → StepsOk n acc → Kid (fun _ _ xs => 1 + xs.sum) 0 (List.replicate n (0 : Int)) n acc (addT n k acc d) (cntT k d) (cntT k d) :=
    addT_ok (G := cntT) List.length_replicate (fun k i hi => by rw [cntT_int, List.getD_eq_getElem?_getD, List.getElem?_replicate_of_lt hi]; rfl) fun k m b ds => cntT_node
  have inp : ∀ (k i fu : Nat) (acc : List CStep), m_add_tree (fu + 1) [.list (acc.map CStep.d), .int (n : Nat), .int (i : Nat)] = .ok (.tuple [.int ((addT n k acc (.int (i : Nat))).2 : Nat), .list ((addT n k acc (.int (i : Nat))).1.map CStep.d)]) := fun k i fu acc => by
    rw [addT_int]
    unfold m_add_tree
    walk_at "ev"
    rw [p_is_whole_int]
    walk_at "ev"
  intro k
  induction k with
  | zero =>
    intro d acc fu h ha hf hz
    obtain ⟨i, hi, rfl⟩ := h
    obtain ⟨fu, rfl⟩ : ∃ f, fu = f + 1 := ⟨fu - 1, by omega⟩
    exact inp 0 i fu acc
  | succ k ih =>
    intro d acc fu h ha hf hz
    obtain ⟨fu, rfl⟩ : ∃ f, fu = f + 1 := ⟨fu - 1, by omega⟩
    rcases h with ⟨i, hi, rfl⟩ | ⟨m, b, ds, hm, b0, b1, hl, rfl, hk⟩
    · exact inp (k + 1) i fu acc
    · rw [cntT_node] at hz
      rw [addT_node]
      unfold m_add_tree dT
      walk_at "ev"
      rw [p_is_whole_tup]
      walk_at "ev"
      have KO : ∀ i, Kids (fun _ _ xs => 1 + xs.sum) 0 (List.replicate n (0 : Int)) n acc (kidsT (addT n k) acc (ds.take i)) ((ds.take i).map (cntT k)) ((ds.take i).map (cntT k)).sum := fun i =>
        kids_ok List.length_replicate ha _ fun d hd acc ha => ADD (hk d (List.mem_of_mem_take hd)) ha
      have SUM : ∀ i, ((ds.take i).map (cntT k)).sum ≤ (ds.map (cntT k)).sum := fun i => by
        have e : ds.map (cntT k) = (ds.take i).map (cntT k) ++ (ds.drop i).map (cntT k) := by rw [← List.map_append, List.take_append_drop]
        have p : ∀ (l : List Int), (∀ x ∈ l, 0 ≤ x) → 0 ≤ l.sum := fun l => by
          induction l with
          | nil => exact fun _ => Int.le_refl _
          | cons x l ih => intro h; rw [List.sum_cons]; have := h x List.mem_cons_self; have := ih fun y hy => h y (List.mem_cons_of_mem _ hy); omega
        have q := p ((ds.drop i).map (cntT k)) fun x hx => by
          obtain ⟨d, hd, rfl⟩ := List.mem_map.mp hx
          have K := ADD (hk d (List.mem_of_mem_drop hd)) (StepsOk.nil (n := n))
          have := K.len
          show 0 ≤ cntT k d
          have e0 : ((([] : List CStep).length : Nat) : Int) = 0 := rfl
          omega
        rw [e, List.sum_append]; omega
      refine forR_bind (fun i => [some (.list ((kidsT (addT n k) acc (ds.take i)).1.map CStep.d)), some (.int (n : Nat)), some (.tuple [dG m b, .tuple ds]), some (.list (dN (kidsT (addT n k) acc (ds.take i)).2)), none]) rfl (fun i x hx => ?_) ?_
      · have hi := (List.getElem?_eq_some_iff.mp hx).1
        have K := KO i
        have S1 := SUM (i + 1)
        rw [sum_take hx] at S1
        have kl : (kidsT (addT n k) acc (ds.take i)).2.length ≤ 4 := by
          have := congrArg List.length K.val
          rw [List.length_map, List.length_map, List.length_take] at this
          omega
        have e5 : ds.take (i + 1) = ds.take i ++ [x] := by rw [List.take_add_one, hx]; rfl
        rw [e5, kids_snoc]
        have kn := K.len
        have ko := K.ok
        generalize kidsT (addT n k) acc (ds.take i) = a at kn ko kl
        walk_at "ev"
        rw [ih (hk x (List.mem_of_getElem? hx)) ko (by omega) (by omega)]
        walk_at "ev"
        rw [gd_pos (size_le (by rw [dN_len]; omega))]
        walk_at "ev"
        rw [dN_app]
        rfl
      · rw [List.take_length]
        have K := KO ds.length
        rw [List.take_length] at K
        have kn := K.len
        generalize kidsT (addT n k) acc ds = a at kn
        walk_at "ev"
        rw [gd_pos (size_le (by omega))]
        walk_at "ev"
        rw [show ((n : Nat) : Int) + ((a.1.map CStep.d ++ [PyData.tuple [dG m b, .tuple (dN a.2)]]).length : Nat) - 1 = ((n + a.1.length : Nat) : Nat) by rw [List.length_append, List.length_map, List.length_singleton]; omega, List.map_append]
        rfl
theorem p_tree_circuit {n k : Nat} {d : PyData} (h : TreeOk n k d) (hf : k < 100) (hz : cntT k d ≤ 5000) : m_tree_circuit [d, .int (n : Nat)] = .ok (dC n (addT n k [] d).1 (addT n k [] d).2) := by
  unfold m_tree_circuit
  walk_at "ev"
  rw [show PyData.list [] = .list (([] : List CStep).map CStep.d) from rfl, p_add_tree h StepsOk.nil hf (by show ((0 : Nat) : Int) + _ ≤ _; omega)]
  walk_at "ev"
  rfl
end Prog
namespace Prog
open PySem L2 L3 Gk
noncomputable def kS (s : CStep) : NKey := [[(s.m : Int), s.b], s.ws.map fun w => ((w : Nat) : Int)]
theorem natI_inj : ∀ {a b : List Nat}, (a.map fun w => ((w : Nat) : Int)) = (b.map fun w => ((w : Nat) : Int)) → a = b
  | [], [], _ => rfl
  | [], _ :: _, e => by cases e
  | _ :: _, [], e => by cases e
  | x :: xs, y :: ys, e => by
    rw [List.map_cons, List.map_cons] at e
    injection e with e1 e2
    rw [Int.ofNat.inj e1, natI_inj e2]
theorem kS_inj {s t : CStep} (h : kS s = kS t) : s = t := by
  obtain ⟨m, b, ws⟩ := s
  obtain ⟨m', b', ws'⟩ := t
  unfold kS at h
  injection h with h1 h2
  injection h1 with h3 h4
  injection h4 with h5 _
  injection h2 with h6 _
  rw [show m = m' from Int.ofNat.inj h3, show b = b' from h5, show ws = ws' from natI_inj h6]
theorem intsD_dN : ∀ ks : List Nat, intsD (dN ks) = some (ks.map fun w => ((w : Nat) : Int))
  | [] => rfl
  | k :: ks => by
    show (match intsD (dN ks) with | some l => some (((k : Nat) : Int) :: l) | none => none) = _
    rw [intsD_dN ks]; rfl
theorem keyN_d (s : CStep) : keyN s.d = some (kS s) := by
  show (match intsD [PyData.int (s.m : Nat), .int s.b], keysD [.tuple (dN s.ws)] with | some a, some b => some (a :: b) | _, _ => none) = _
  have e : keysD [.tuple (dN s.ws)] = some [s.ws.map fun w => ((w : Nat) : Int)] := by
    show (match intsD (dN s.ws), keysD [] with | some a, some b => some (a :: b) | _, _ => none) = _
    rw [intsD_dN]; rfl
  rw [e]; rfl
noncomputable def stK : Nat → List CStep → List (PyData × PyData)
  | _, [] => []
  | k, s :: r => (s.d, .int (k : Nat)) :: stK (k + 1) r
noncomputable def plc (t : CStep) : List CStep → Option Nat
  | [] => none
  | s :: r => if kS s = kS t then some 0 else (plc t r).map (· + 1)
theorem look_stK (t : CStep) : ∀ (k : Nat) (acc : List CStep), lookN (kS t) (stK k acc) = (plc t acc).map fun i => PyData.int ((k + i : Nat) : Int)
  | k, [] => rfl
  | k, s :: r => by
    unfold stK lookN plc
    by_cases h : kS s = kS t
    · rw [if_pos (by rw [keyN_d, h]), if_pos h]; rfl
    · rw [if_neg (by rw [keyN_d]; exact fun z => h (Option.some.inj z)), if_neg h, look_stK t (k + 1) r, Option.map_map]
      congr 1
      funext i
      show PyData.int _ = PyData.int _
      congr 2
      simp; omega
theorem has_stK (t : CStep) : ∀ (k : Nat) (acc : List CStep), hasN (kS t) (stK k acc) = (plc t acc).isSome
  | k, [] => rfl
  | k, s :: r => by
    unfold stK hasN plc
    by_cases h : kS s = kS t
    · rw [if_pos (by rw [keyN_d, h]), if_pos h]; rfl
    · rw [if_neg (by rw [keyN_d]; exact fun z => h (Option.some.inj z)), if_neg h, has_stK t (k + 1) r, Option.isSome_map]
theorem stK_snoc (t : CStep) : ∀ (k : Nat) (acc : List CStep), stK k (acc ++ [t]) = stK k acc ++ [(t.d, PyData.int ((k + acc.length : Nat) : Int))]
  | k, [] => rfl
  | k, s :: r => by
    rw [List.cons_append, stK, stK_snoc t (k + 1) r, stK, List.cons_append, List.length_cons]
    congr 4
    congr 2
    omega
theorem stK_len : ∀ (k : Nat) (acc : List CStep), (stK k acc).length = acc.length
  | k, [] => rfl
  | k, s :: r => by rw [stK, List.length_cons, stK_len, List.length_cons]
theorem plc_get {t : CStep} : ∀ {acc : List CStep} {i : Nat}, plc t acc = some i → acc[i]? = some t
  | [], i, h => by cases h
  | s :: r, i, h => by
    unfold plc at h
    by_cases e : kS s = kS t
    · rw [if_pos e] at h; cases h; rw [kS_inj e]; rfl
    · rw [if_neg e] at h
      obtain ⟨j, h1, rfl⟩ := Option.map_eq_some_iff.mp h
      rw [List.getElem?_cons_succ]; exact plc_get h1
noncomputable def rnS (ks : List Nat) (s : CStep) : CStep := ⟨s.m, s.b, s.ws.map fun w => ks.getD w 0⟩
noncomputable def dbl1 (n : Nat) (a : List CStep × List Nat) (s : CStep) : List CStep × List Nat := match plc (rnS a.2 s) a.1 with
  | some i => (a.1, a.2 ++ [n + i])
  | none => (a.1 ++ [rnS a.2 s], a.2 ++ [n + a.1.length])
noncomputable def dblL (n : Nat) (ss : List CStep) : List CStep × List Nat := ss.foldl (dbl1 n) ([], List.range n)
theorem dblL_snoc {n : Nat} {ss : List CStep} {s : CStep} : dblL n (ss ++ [s]) = dbl1 n (dblL n ss) s := by unfold dblL; rw [List.foldl_append]; rfl
theorem fold_at {β : Type} {φ : Nat → Int → List β → β} {z : β} {base : List β} {n : Nat} (hb : base.length = n) (l : List CStep) : StepsOk n l → ∀ i t, l[i]? = some t → (foldW φ z base l).getD (n + i) z = φ t.m t.b (t.ws.map fun k => (foldW φ z base l).getD k z) := by
  refine snoc_ind (P := fun l => StepsOk n l → ∀ i t, l[i]? = some t → (foldW φ z base l).getD (n + i) z = φ t.m t.b (t.ws.map fun k => (foldW φ z base l).getD k z)) (fun _ i t h => by cases h) (fun l s ih hs i t h => ?_) l
  have hok := hs i t h
  obtain ⟨h0, _⟩ := StepsOk.init hs
  have hi := (List.getElem?_eq_some_iff.mp h).1
  rw [List.length_append, List.length_singleton] at hi
  have vl : (foldW φ z base l).length = n + l.length := fold_length hb
  have e : (t.ws.map fun k => (foldW φ z base (l ++ [s])).getD k z) = t.ws.map fun k => (foldW φ z base l).getD k z := List.map_congr_left fun k hk => by
    have := hok.lt k hk
    rw [fold_snoc]; exact b_left (by omega)
  rw [e, fold_snoc]
  by_cases hl : i < l.length
  · rw [List.getElem?_append_left hl] at h
    rw [b_left (by omega)]
    exact ih h0 i t h
  · have ei : i = l.length := by omega
    subst ei
    rw [List.getElem?_append_right (Nat.le_refl _), Nat.sub_self] at h
    cases h
    rw [← vl, List.getD_eq_getElem?_getD, List.getElem?_append_right (Nat.le_refl _), Nat.sub_self]
    rfl
theorem n_left {xs : List Nat} {y w : Nat} (h : w < xs.length) : (xs ++ [y]).getD w 0 = xs.getD w 0 := b_left h
theorem b_last {β : Type} {z : β} {xs : List β} {y : β} : (xs ++ [y]).getD xs.length z = y := by
  rw [List.getD_eq_getElem?_getD, List.getElem?_append_right (Nat.le_refl _), Nat.sub_self]; rfl
theorem n_mem {xs : List Nat} {w : Nat} (h : w < xs.length) : xs.getD w 0 ∈ xs := by
  rw [List.getD_eq_getElem?_getD, List.getElem?_eq_getElem h]; exact List.getElem_mem h
theorem fold_last {β : Type} {φ : Nat → Int → List β → β} {z : β} {base : List β} {n : Nat} (hb : base.length = n) {l : List CStep} {s : CStep} : (foldW φ z base (l ++ [s])).getD (n + l.length) z = φ s.m s.b (s.ws.map fun k => (foldW φ z base l).getD k z) := by
  rw [fold_snoc, ← fold_length (φ := φ) (z := z) hb (ss := l)]; exact b_last
theorem rnS_ok {n : Nat} {ss : List CStep} {s : CStep} {a : List CStep × List Nat} (hok : s.Ok (n + ss.length)) (i2 : a.2.length = n + ss.length) (i4 : ∀ x ∈ a.2, x < n + a.1.length) : (rnS a.2 s).Ok (n + a.1.length) := ⟨hok.m4, by show (s.ws.map _).length = _; rw [List.length_map]; exact hok.len, fun k hk => by
  obtain ⟨w, hw, rfl⟩ := List.mem_map.mp hk
  exact i4 _ (n_mem (by rw [i2]; exact hok.lt w hw)), hok.b0, hok.b1⟩
theorem dblL_ok {n : Nat} (ss : List CStep) : StepsOk n ss → StepsOk n (dblL n ss).1 ∧ (dblL n ss).2.length = n + ss.length ∧ (dblL n ss).1.length ≤ ss.length ∧ (∀ x ∈ (dblL n ss).2, x < n + (dblL n ss).1.length) := by
  refine snoc_ind (P := fun ss => StepsOk n ss → StepsOk n (dblL n ss).1 ∧ (dblL n ss).2.length = n + ss.length ∧ (dblL n ss).1.length ≤ ss.length ∧ (∀ x ∈ (dblL n ss).2, x < n + (dblL n ss).1.length)) ?_ ?_ ss
  · intro _
    exact ⟨StepsOk.nil, by show (List.range n).length = _; rw [List.length_range]; rfl, Nat.le_refl _, fun x hx => by have := List.mem_range.mp hx; exact this⟩
  · intro ss s ih hs
    obtain ⟨h0, hok⟩ := StepsOk.init hs
    obtain ⟨i1, i2, i3, i4⟩ := ih h0
    rw [dblL_snoc]
    generalize dblL n ss = a at i1 i2 i3 i4
    have ok1 := rnS_ok hok i2 i4
    unfold dbl1
    cases hp : plc (rnS a.2 s) a.1 with
    | none =>
      refine ⟨i1.snoc ok1, by simp [i2]; omega, by simp; omega, fun x hx => ?_⟩
      show x < n + (a.1 ++ [_]).length
      rw [List.length_append, List.length_singleton]
      rcases List.mem_append.mp hx with hx | hx
      · have := i4 x hx; omega
      · rw [List.mem_singleton.mp hx]; omega
    | some i =>
      have hi := (List.getElem?_eq_some_iff.mp (plc_get hp)).1
      refine ⟨i1, by simp [i2]; omega, by simp; omega, fun x hx => ?_⟩
      rcases List.mem_append.mp hx with hx | hx
      · exact i4 x hx
      · rw [List.mem_singleton.mp hx]; show n + i < n + a.1.length; omega
theorem dblL_fold {β : Type} {φ : Nat → Int → List β → β} {z : β} {base : List β} {n : Nat} (hb : base.length = n) (ss : List CStep) : StepsOk n ss → ∀ w, w < n + ss.length → (foldW φ z base (dblL n ss).1).getD ((dblL n ss).2.getD w 0) z = (foldW φ z base ss).getD w z := by
  refine snoc_ind (P := fun ss => StepsOk n ss → ∀ w, w < n + ss.length → (foldW φ z base (dblL n ss).1).getD ((dblL n ss).2.getD w 0) z = (foldW φ z base ss).getD w z) ?_ ?_ ss
  · intro _ w hw
    show (foldW φ z base []).getD ((List.range n).getD w 0) z = _
    have hw : w < n := hw
    rw [List.getD_eq_getElem?_getD (l := List.range n), List.getElem?_range hw]
    rfl
  · intro ss s ih hs w hw
    obtain ⟨h0, hok⟩ := StepsOk.init hs
    have i5 := ih h0
    obtain ⟨i1, i2, i3, i4⟩ := dblL_ok ss h0
    rw [dblL_snoc]
    generalize dblL n ss = a at i1 i2 i3 i4 i5
    have hv : ((rnS a.2 s).ws.map fun k => (foldW φ z base a.1).getD k z) = s.ws.map fun k => (foldW φ z base ss).getD k z := by
      show (s.ws.map _).map _ = _
      rw [List.map_map]
      exact List.map_congr_left fun w hw => i5 w (hok.lt w hw)
    have a2 : ∀ w, w < n + ss.length → a.2.getD w 0 < n + a.1.length := fun w hw => i4 _ (n_mem (by rw [i2]; exact hw))
    rw [List.length_append, List.length_singleton] at hw
    by_cases hlt : w < n + ss.length
    · rw [fold_pre hb hlt, ← i5 w hlt]
      unfold dbl1
      cases hp : plc (rnS a.2 s) a.1 with
      | none =>
        show (foldW φ z base (a.1 ++ [_])).getD ((a.2 ++ [_]).getD w 0) z = _
        rw [n_left (by omega), fold_pre hb (a2 w hlt)]
      | some i =>
        show (foldW φ z base a.1).getD ((a.2 ++ [_]).getD w 0) z = _
        rw [n_left (by omega)]
    · have e : w = n + ss.length := by omega
      subst e
      rw [fold_last hb, ← i2, ← hv]
      unfold dbl1
      cases hp : plc (rnS a.2 s) a.1 with
      | none =>
        show (foldW φ z base (a.1 ++ [_])).getD ((a.2 ++ [_]).getD _ 0) z = _
        rw [b_last, fold_last hb]; rfl
      | some i =>
        show (foldW φ z base a.1).getD ((a.2 ++ [_]).getD _ 0) z = _
        rw [b_last, fold_at hb a.1 i1 i _ (plc_get hp)]; rfl
section
variable {i k : Nat} {m m' : ME} {Γ : Ev} {t : CStep} {acc : List CStep}
theorem notInN_ok (h : m Γ = .ok t.d) (hg : gv Γ i = some (.dict (stK k acc))) : eNotInN i m Γ = .ok (.bool (!(plc t acc).isSome)) := by
  unfold eNotInN
  rw [h, Res.ok_bind, hg]
  show (match keyN t.d with | some key => Res.ok (PyData.bool (!(lookN key (stK k acc)).isSome)) | none => .bad) = _
  rw [keyN_d]
  show Res.ok (PyData.bool (!(lookN (kS t) (stK k acc)).isSome)) = _
  rw [look_stK, Option.isSome_map]
theorem ixN_ok {j : Nat} (h : m Γ = .ok t.d) (hg : gv Γ i = some (.dict (stK k acc))) (hp : plc t acc = some j) : eIxN i m Γ = .ok (.int ((k + j : Nat) : Int)) := by
  unfold eIxN
  rw [h, Res.ok_bind, hg]
  show (match keyN t.d with | some key => (match lookN key (stK k acc) with | some d => Res.ok d | none => .bad) | none => .bad) = _
  rw [keyN_d]
  show (match lookN (kS t) (stK k acc) with | some d => Res.ok d | none => .bad) = _
  rw [look_stK, hp]; rfl
theorem putN_ok (h : m Γ = .ok t.d) (h' : m' Γ = .ok (.int ((k + acc.length : Nat) : Int))) (hg : gv Γ i = some (.dict (stK k acc))) (hp : plc t acc = none) (hl : acc.length ≤ 100000) (hi : i < Γ.length) : sPutN i m m' Γ = .ok (.nx (Γ.set i (some (.dict (stK k (acc ++ [t])))))) := by
  unfold sPutN
  rw [h', Res.ok_bind, h, Res.ok_bind, hg]
  show (match keyN t.d with | some key => gd ((stK k acc).length < sizeLine ∧ i < Γ.length) (Res.ok (Out.nx (Γ.set i (some (.dict (putN t.d key _ (stK k acc))))))) | none => .bad) = _
  rw [keyN_d]
  show gd ((stK k acc).length < sizeLine ∧ i < Γ.length) (Res.ok (Out.nx (Γ.set i (some (.dict (putN t.d (kS t) _ (stK k acc))))))) = _
  rw [gd_pos ⟨by rw [stK_len]; exact Nat.lt_of_le_of_lt hl (by rw [L2.sizeLine_eq]; decide), hi⟩]
  unfold putN
  rw [has_stK, hp, if_neg (by decide), stK_snoc]
end
theorem plc_end {t : CStep} : ∀ {acc : List CStep}, plc t acc = none → plc t (acc ++ [t]) = some acc.length
  | [], _ => by show (if kS t = kS t then some 0 else _) = _; rw [if_pos rfl]; rfl
  | s :: r, h => by
    unfold plc at h
    by_cases e : kS s = kS t
    · rw [if_pos e] at h; cases h
    · rw [if_neg e] at h
      show (if kS s = kS t then some 0 else (plc t (r ++ [t])).map (· + 1)) = _
      rw [if_neg e, plc_end (Option.map_eq_none_iff.mp h)]; rfl
theorem p_doubles {n o : Nat} {ss : List CStep} (hs : StepsOk n ss) (hn : n ≤ 100) (hl : ss.length ≤ 5000) (ho : o < n + ss.length) : m_without_doubles [dC n ss o] = .ok (dC n (dblL n ss).1 ((dblL n ss).2.getD o 0)) := by
  unfold m_without_doubles
  walk_at "ev"
  rw [ixC0]
  walk_at "ev"
  rw [gd_pos (by omega)]
  walk_at "ev"
  rw [ixC1]
  walk_at "ev"
  refine forR_bind (fun i => [some (dC n ss o), some (.int (n : Nat)), some (.list (dN (dblL n (ss.take i)).2)), some (.list ((dblL n (ss.take i)).1.map CStep.d)), some (.dict (stK n (dblL n (ss.take i)).1)), none, none]) ?_ (fun i x hx => ?_) ?_
  · rw [List.take_zero, Int.toNat_natCast]
    rfl
  · obtain ⟨s, e, rfl⟩ := enc_get hx
    have ok := hs i s e
    have hi := (List.getElem?_eq_some_iff.mp e).1
    have m4 := ok.m4
    have ln := ok.len
    obtain ⟨_, d2, d3, d4⟩ := dblL_ok (n := n) (ss.take i) fun j t h => by
      rw [List.getElem?_take] at h
      split at h
      · exact hs j t h
      · cases h
    rw [List.length_take, Nat.min_eq_left (by omega)] at d2 d3
    rw [steps_take e, dblL_snoc]
    generalize dblL n (ss.take i) = a at d2 d3 d4
    walk_at "ev"
    rw [p_renamed (fun w hw => by have := ok.lt w hw; rw [d2]; exact this) (by omega)]
    rw [show CStep.mk s.m s.b (s.ws.map fun w => a.2.getD w 0) = rnS a.2 s from rfl]
    generalize ht : rnS a.2 s = t
    walk_at "ev"
    rw [notInN_ok (t := t) (k := n) (acc := a.1) rfl rfl]
    unfold dbl1
    rw [ht]
    cases hp : plc t a.1 with
    | none =>
      rw [show (PyData.bool !(none : Option Nat).isSome) = .bool true from rfl]
      walk_at "ev"
      rw [putN_ok (t := t) (k := n) (acc := a.1) rfl (by walk_at "ev"; rfl) rfl hp (by omega) (of_decide_eq_true rfl)]
      walk_at "ev"
      rw [gd_pos (size_le (by omega))]
      walk_at "ev"
      rw [ixN_ok (t := t) (k := n) (acc := a.1 ++ [t]) rfl rfl (plc_end hp)]
      walk_at "ev"
      rw [gd_pos (size_le (by rw [dN_len]; omega))]
      walk_at "ev"
      rw [dN_app, List.map_append]
      rfl
    | some j =>
      rw [show (PyData.bool !(some j).isSome) = .bool false from rfl]
      walk_at "ev"
      rw [ixN_ok (t := t) (k := n) (acc := a.1) rfl rfl hp]
      walk_at "ev"
      rw [gd_pos (size_le (by rw [dN_len]; omega))]
      walk_at "ev"
      rw [dN_app]
      rfl
  · rw [List.length_map, List.take_length]
    walk_at "ev"
    rw [ixC2]
    walk_at "ev"
    rw [dN_ix (by rw [(dblL_ok ss hs).2.1]; exact ho)]
    rfl
end Prog
namespace Prog
open PySem L2 L3 Gk
noncomputable def mk (ks : List Int) : List (PyData × PyData) := ks.map fun k => (PyData.int k, PyData.bool true)
noncomputable def insK (x : Int) (ks : List Int) : List Int := if x ∈ ks then ks else ks ++ [x]
theorem mk_has {x : Int} : ∀ ks : List Int, hasK (.inl x) (mk ks) = decide (x ∈ ks)
  | [] => rfl
  | k :: ks => by
    show (if keyD (PyData.int k) = some (.inl x) then true else hasK (.inl x) (mk ks)) = _
    rw [mk_has ks]
    by_cases h : k = x
    · subst h
      rw [if_pos (show keyD (PyData.int k) = some (.inl k) from rfl), decide_eq_true List.mem_cons_self]
    · rw [if_neg (show ¬ (keyD (PyData.int k) = some (.inl x)) from fun z => h (Sum.inl.inj (Option.some.inj z)))]
      have : (x ∈ k :: ks) ↔ x ∈ ks := ⟨fun z => (List.mem_cons.mp z).resolve_left (fun e => h e.symm), List.mem_cons_of_mem _⟩
      exact decide_eq_decide.mpr this.symm
theorem mk_look {x : Int} : ∀ ks : List Int, (lookD (.inl x) (mk ks)).isSome = decide (x ∈ ks)
  | [] => rfl
  | k :: ks => by
    show (if keyD (PyData.int k) = some (.inl x) then some (PyData.bool true) else lookD (.inl x) (mk ks)).isSome = _
    by_cases h : k = x
    · subst h
      rw [if_pos (show keyD (PyData.int k) = some (.inl k) from rfl), decide_eq_true List.mem_cons_self]; rfl
    · rw [if_neg (show ¬ (keyD (PyData.int k) = some (.inl x)) from fun z => h (Sum.inl.inj (Option.some.inj z))), mk_look ks]
      have : (x ∈ k :: ks) ↔ x ∈ ks := ⟨fun z => (List.mem_cons.mp z).resolve_left (fun e => h e.symm), List.mem_cons_of_mem _⟩
      exact decide_eq_decide.mpr this.symm
theorem mk_set {x : Int} : ∀ ks : List Int, setK (.inl x) (.bool true) (mk ks) = mk ks
  | [] => rfl
  | k :: ks => by
    show (if keyD (PyData.int k) = some (.inl x) then (PyData.int k, PyData.bool true) else (PyData.int k, PyData.bool true)) :: setK (.inl x) (.bool true) (mk ks) = (PyData.int k, PyData.bool true) :: mk ks
    rw [mk_set ks, ite_self]
theorem mk_put {x : Int} {ks : List Int} : putD2 (.int x) (.inl x) (.bool true) (mk ks) = mk (insK x ks) := by
  unfold putD2 insK
  rw [mk_has]
  by_cases h : x ∈ ks
  · rw [if_pos (decide_eq_true h), if_pos h, mk_set]
  · rw [if_neg (by rw [decide_eq_true_eq]; exact h), if_neg h]
    unfold mk
    rw [List.map_append]
    rfl
theorem insK_len {x : Int} {ks : List Int} : (insK x ks).length ≤ ks.length + 1 := by
  unfold insK
  split
  · omega
  · rw [List.length_append]; exact Nat.le_refl _
theorem insK_mem {x y : Int} {ks : List Int} : y ∈ insK x ks ↔ y = x ∨ y ∈ ks := by
  unfold insK
  split
  · rename_i h
    exact ⟨.inr, fun z => z.elim (fun e => e ▸ h) id⟩
  · rw [List.mem_append, List.mem_singleton]
    exact Or.comm
theorem mk_len {ks : List Int} : (mk ks).length = ks.length := by unfold mk; rw [List.length_map]
theorem sPutD_ok {i : Nat} {m1 m2 : ME} {Γ : Ev} {x : Int} {ks : List Int} (h2 : m2 Γ = .ok (.bool true)) (h1 : m1 Γ = .ok (.int x)) (hg : gv Γ i = some (.dict (mk ks))) (hl : ks.length ≤ 100000) (hi : i < Γ.length) : sPutD i m1 m2 Γ = .ok (.nx (Γ.set i (some (.dict (mk (insK x ks)))))) := by
  unfold sPutD
  rw [h2, h1]
  show (match gv Γ i with
    | some (.dict kvs) => (match keyD (.int x) with
      | some key => gd (kvs.length < sizeLine ∧ i < Γ.length) (.ok (Out.nx (Γ.set i (some (.dict (putD2 (.int x) key (.bool true) kvs))))))
      | none => .bad)
    | _ => Res.bad) = _
  rw [hg]
  show gd ((mk ks).length < sizeLine ∧ i < Γ.length) (.ok (Out.nx (Γ.set i (some (.dict (putD2 (.int x) (.inl x) (.bool true) (mk ks))))))) = _
  rw [gd_pos ⟨size_le (by rw [mk_len]; exact hl), hi⟩, mk_put]
theorem repD_ok {a : List PyData} {k : Int} (h : -(2 ^ 63) ≤ k ∧ k < 2 ^ 63 ∧ a.length * k.toNat ≤ sizeLine) : repD (.list a) (.int k) = .ok (.list (List.replicate k.toNat a).flatten) := gd_pos h
theorem rep1 {n : Nat} {x : PyData} (hn : n ≤ 100) : repD (.list [x]) (.int (n : Nat)) = .ok (.list (List.replicate n x)) := by
  rw [repD_ok ⟨by omega, by omega, by rw [Int.toNat_natCast, List.length_singleton, Nat.one_mul]; exact Nat.le_of_lt (size_le (by omega))⟩, Int.toNat_natCast]
  congr 2
  clear hn
  induction n with
  | zero => rfl
  | succ n ih => rw [List.replicate_succ, List.flatten_cons, ih, List.replicate_succ]; rfl
end Prog
namespace Prog
open PySem L2 L3 Gk
end Prog
namespace Prog
open PySem L2 L3 Gk
end Prog
namespace Prog
open PySem L2 L3 Gk
theorem in_mk {x : Int} {ks : List Int} : inY (.int x) (.dict (mk ks)) = .ok (.bool (decide (x ∈ ks))) := by
  show Res.ok (PyData.bool ((lookD (.inl x) (mk ks)).isSome)) = _
  rw [mk_look]
end Prog
namespace Prog
open PySem L2 L3 Gk
theorem rng3_down {k : Nat} (h : k ≤ 100000) : rng3 (.int (((k : Nat) : Int) - 1)) (.int (-1)) (.int (-1)) = .ok ((List.range k).map fun i => PyData.int (((k : Nat) : Int) - 1 - (i : Nat))) := by
  have e : Builtin.Range.rangeSize (((k : Nat) : Int) - 1) (-1) (-1) = ((k : Nat) : Int) := by
    unfold Builtin.Range.rangeSize
    simp
    omega
  show gd ((-1 : Int) ≠ 0 ∧ (-1 : Int).natAbs < 1073741824 ∧ Builtin.Range.small (((k : Nat) : Int) - 1) (-1) (-1) = true ∧ 0 ≤ Builtin.Range.rangeSize (((k : Nat) : Int) - 1) (-1) (-1)) (Res.ok ((List.range (Builtin.Range.rangeSize (((k : Nat) : Int) - 1) (-1) (-1)).toNat).map fun j => PyData.int (((k : Nat) : Int) - 1 + (j : Nat) * (-1)))) = _
  rw [e, gd_pos ⟨by decide, by decide, by unfold Builtin.Range.small; simp only [e, Builtin.Range.rangeFitsLong]; simp; omega, by omega⟩, Int.toNat_natCast]
  congr 1
  exact List.map_congr_left fun i _ => by congr 1; omega
noncomputable def insAll (U : List Int) (ws : List Nat) : List Int := ws.foldl (fun U w => insK ((w : Nat) : Int) U) U
theorem insAll_snoc {U : List Int} {ws : List Nat} {w : Nat} : insAll U (ws ++ [w]) = insK ((w : Nat) : Int) (insAll U ws) := by unfold insAll; rw [List.foldl_append]; rfl
theorem insAll_mem {U : List Int} {x : Int} (ws : List Nat) : x ∈ insAll U ws ↔ x ∈ U ∨ ∃ w ∈ ws, x = ((w : Nat) : Int) := by
  induction ws using snoc_ind with
  | h0 => simp [insAll]
  | h ws w ih =>
    rw [insAll_snoc, insK_mem, ih]
    constructor
    · rintro (rfl | h | ⟨v, hv, rfl⟩)
      · exact .inr ⟨w, by simp, rfl⟩
      · exact .inl h
      · exact .inr ⟨v, by simp [hv], rfl⟩
    · rintro (h | ⟨v, hv, rfl⟩)
      · exact .inr (.inl h)
      · rcases List.mem_append.mp hv with hv | hv
        · exact .inr (.inr ⟨v, hv, rfl⟩)
        · rw [List.mem_singleton.mp hv]; exact .inl rfl
theorem insAll_len {U : List Int} (ws : List Nat) : (insAll U ws).length ≤ U.length + ws.length := by
  induction ws using snoc_ind with
  | h0 => exact Nat.le_refl _
  | h ws w ih => rw [insAll_snoc, List.length_append, List.length_singleton]; have := insK_len (x := ((w : Nat) : Int)) (ks := insAll U ws); omega
noncomputable def useL (n : Nat) (ss : List CStep) (o : Nat) : Nat → List Int
  | 0 => [((o : Nat) : Int)]
  | i + 1 => if ((n + (ss.length - 1 - i) : Nat) : Int) ∈ useL n ss o i then insAll (useL n ss o i) ((ss[ss.length - 1 - i]?.map CStep.ws).getD []) else useL n ss o i
theorem useL_len {n o : Nat} {ss : List CStep} (hs : StepsOk n ss) : ∀ i, (useL n ss o i).length ≤ 1 + 4 * i
  | 0 => Nat.le_refl _
  | i + 1 => by
    have ih := useL_len (o := o) hs i
    unfold useL
    split
    · cases e : ss[ss.length - 1 - i]? with
      | none => have := insAll_len (U := useL n ss o i) []; simp at this ⊢; omega
      | some s =>
        have := insAll_len (U := useL n ss o i) s.ws
        have ok := hs _ s e
        have := ok.len
        have := ok.m4
        simp; omega
    · omega
theorem p_used {n o : Nat} {ss : List CStep} (hs : StepsOk n ss) (hl : ss.length ≤ 5000) : m_used_wires [dC n ss o] = .ok (.dict (mk (useL n ss o ss.length))) := by
  unfold m_used_wires
  walk_at "ev"
  rw [ixC0]
  walk_at "ev"
  rw [ixC1]
  walk_at "ev"
  rw [show ∀ Γ : Ev, gv Γ 0 = some (dC n ss o) → eDctK (eBin ixD (eVar 0) (eC (.int 2))) (eC (.bool true)) Γ = .ok (.dict (mk [((o : Nat) : Int)])) from fun Γ h => by
    unfold eDctK
    rw [show (eBin ixD (eVar 0) (eC (.int 2))) Γ = .ok (.int (o : Nat)) by unfold eBin eVar; rw [h]; rfl]
    rfl]
  · walk_at "ev"
    rw [show ∀ Γ : Ev, gv Γ 2 = some (.tuple (ss.map CStep.d)) → itR3 (eBin subD (eFn lenD [(eVar 2)]) (eC (.int 1))) (eUn negD (eC (.int 1))) (eUn negD (eC (.int 1))) Γ = .ok ((List.range ss.length).map fun i => PyData.int (((ss.length : Nat) : Int) - 1 - (i : Nat))) from fun Γ h => by
      unfold itR3
      rw [show (eBin subD (eFn lenD [(eVar 2)]) (eC (.int 1))) Γ = .ok (.int (((ss.length : Nat) : Int) - 1)) by
        show ((eFn lenD [(eVar 2)]) Γ).bind _ = _
        rw [show (eFn lenD [(eVar 2)]) Γ = .ok (.int (ss.length : Nat)) by
          unfold eFn evs eVar
          rw [h]
          show lenD [.tuple (ss.map CStep.d)] = _
          rw [lenD_tuple, List.length_map]]
        rfl]
      exact rng3_down (by omega)]
    · walk_at "ev"
      refine forR_bind (fun i => [some (dC n ss o), some (.int (n : Nat)), some (.tuple (ss.map CStep.d)), some (.dict (mk (useL n ss o i))), none, none]) rfl (fun i x hx => ?_) ?_
      · obtain ⟨i', ei, rfl⟩ := enc_get hx
        obtain ⟨hi, ei'⟩ : i < ss.length ∧ i' = i := by
          have := (List.getElem?_eq_some_iff.mp ei)
          obtain ⟨h1, h2⟩ := this
          rw [List.length_range] at h1
          rw [List.getElem_range] at h2
          exact ⟨h1, h2.symm⟩
        rw [ei']
        have hu := useL_len (o := o) hs i
        walk_at "ev"
        rw [show ((n : Nat) : Int) + (((ss.length : Nat) : Int) - 1 - (i : Nat)) = ((n + (ss.length - 1 - i) : Nat) : Int) by omega, in_mk]
        rw [show useL n ss o (i + 1) = if ((n + (ss.length - 1 - i) : Nat) : Int) ∈ useL n ss o i then insAll (useL n ss o i) ((ss[ss.length - 1 - i]?.map CStep.ws).getD []) else useL n ss o i from rfl]
        by_cases hm : ((n + (ss.length - 1 - i) : Nat) : Int) ∈ useL n ss o i
        · rw [if_pos hm, decide_eq_true hm]
          generalize useL n ss o i = U at hu
          have hlt : ss.length - 1 - i < ss.length := by omega
          have es : ss[ss.length - 1 - i]? = some ss[ss.length - 1 - i] := List.getElem?_eq_getElem hlt
          generalize ss[ss.length - 1 - i] = s at es
          have ok := hs _ s es
          have ln := ok.len
          have m4 := ok.m4
          walk_at "ev"
          rw [show ((ss.length : Nat) : Int) - 1 - (i : Nat) = ((ss.length - 1 - i : Nat) : Int) by omega, ixD_tuple (i := ss.length - 1 - i) (by rw [List.getElem?_map, es]; rfl), es]
          walk_at "ev"
          rw [show ixD s.d (.int 1) = .ok (.tuple (dN s.ws)) from rfl]
          walk_at "ev"
          refine forR_bind (fun j => [some (dC n ss o), some (.int (n : Nat)), some (.tuple (ss.map CStep.d)), some (.dict (mk (insAll U (s.ws.take j)))), some (.int ((ss.length - 1 - i : Nat) : Int)), none]) rfl (fun j x hx => ?_) ?_
          · obtain ⟨w, ew, rfl⟩ := enc_get hx
            have := insAll_len (U := U) (s.ws.take j)
            rw [List.length_take] at this
            walk_at "ev"
            rw [sPutD_ok (x := ((w : Nat) : Int)) (ks := insAll U (s.ws.take j)) rfl rfl rfl (by omega) (of_decide_eq_true rfl)]
            walk_at "ev"
            rw [take_snoc ew, insAll_snoc]
          · rw [show (dN s.ws).length = s.ws.length from dN_len, List.take_length]
            walk_at "ev"
            rfl
        · rw [if_neg hm, decide_eq_false hm]
          walk_at "ev"
      · rw [List.length_map, List.length_range]
        walk_at "ev"
    · rfl
  · rfl
section
variable {n o : Nat} {ss : List CStep} {x : Int}
theorem useL_step {i : Nat} (h : x ∈ useL n ss o i) : x ∈ useL n ss o (i + 1) := by
  unfold useL
  split
  · exact (insAll_mem _).mpr (.inl h)
  · exact h
theorem useL_mono {i : Nat} : ∀ d, x ∈ useL n ss o i → x ∈ useL n ss o (i + d)
  | 0, h => h
  | d + 1, h => useL_step (useL_mono d h)
theorem useL_out : ∀ i, ((o : Nat) : Int) ∈ useL n ss o i
  | 0 => List.mem_singleton.mpr rfl
  | i + 1 => useL_step (useL_out i)
theorem useL_old (hs : StepsOk n ss) {i : Nat} : ∀ d, i + d ≤ ss.length → x ∈ useL n ss o (i + d) → x ∈ useL n ss o i ∨ x < ((n + (ss.length - 1 - i) : Nat) : Int)
  | 0, _, h => .inl h
  | d + 1, hd, h => by
    have h : x ∈ useL n ss o (i + d + 1) := h
    unfold useL at h
    split at h
    · rcases (insAll_mem _).mp h with h | ⟨w, hw, rfl⟩
      · exact useL_old hs d (by omega) h
      · have hlt : ss.length - 1 - (i + d) < ss.length := by omega
        rw [List.getElem?_eq_getElem hlt] at hw
        have := (hs _ _ (List.getElem?_eq_getElem hlt)).lt w hw
        right
        omega
    · exact useL_old hs d (by omega) h
theorem useL_closed (hs : StepsOk n ss) {j : Nat} {s : CStep} (e : ss[j]? = some s) (h : ((n + j : Nat) : Int) ∈ useL n ss o ss.length) : ∀ w ∈ s.ws, ((w : Nat) : Int) ∈ useL n ss o ss.length := fun w hw => by
  have hj := (List.getElem?_eq_some_iff.mp e).1
  obtain ⟨i, hi⟩ : ∃ i, i = ss.length - 1 - j := ⟨_, rfl⟩
  have hj' : ss.length - 1 - i = j := by omega
  have h1 : ((n + j : Nat) : Int) ∈ useL n ss o i := by
    rcases useL_old hs (i := i) (ss.length - i) (by omega) (by rw [show i + (ss.length - i) = ss.length by omega]; exact h) with h | h
    · exact h
    · rw [hj'] at h; omega
  have h2 : ((w : Nat) : Int) ∈ useL n ss o (i + 1) := by
    unfold useL
    rw [hj', if_pos h1, e]
    exact (insAll_mem _).mpr (.inr ⟨w, hw, rfl⟩)
  have := useL_mono (ss.length - (i + 1)) h2
  rwa [show i + 1 + (ss.length - (i + 1)) = ss.length by omega] at this
end
end Prog
namespace Prog
open PySem L2 L3 Gk
noncomputable def dP (ps : List (Nat × Nat)) : List (PyData × PyData) := ps.map fun p => (PyData.int (p.1 : Nat), PyData.int (p.2 : Nat))
noncomputable def lkP (w : Nat) : List (Nat × Nat) → Option Nat
  | [] => none
  | p :: r => if p.1 = w then some p.2 else lkP w r
theorem look_dP (w : Nat) : ∀ ps : List (Nat × Nat), lookD (.inl ((w : Nat) : Int)) (dP ps) = (lkP w ps).map fun v => PyData.int (v : Nat)
  | [] => rfl
  | p :: r => by
    show (if keyD (PyData.int (p.1 : Nat)) = some (.inl ((w : Nat) : Int)) then some (PyData.int (p.2 : Nat)) else lookD (.inl ((w : Nat) : Int)) (dP r)) = _
    unfold lkP
    by_cases h : p.1 = w
    · rw [if_pos (by rw [h]; rfl), if_pos h]; rfl
    · rw [if_neg (show ¬ (keyD (PyData.int (p.1 : Nat)) = some (.inl ((w : Nat) : Int))) from fun z => h (Int.ofNat.inj (Sum.inl.inj (Option.some.inj z)))), if_neg h, look_dP w r]
theorem has_dP (w : Nat) : ∀ ps : List (Nat × Nat), hasK (.inl ((w : Nat) : Int)) (dP ps) = (lkP w ps).isSome
  | [] => rfl
  | p :: r => by
    show (if keyD (PyData.int (p.1 : Nat)) = some (.inl ((w : Nat) : Int)) then true else hasK (.inl ((w : Nat) : Int)) (dP r)) = _
    unfold lkP
    by_cases h : p.1 = w
    · rw [if_pos (by rw [h]; rfl), if_pos h]; rfl
    · rw [if_neg (show ¬ (keyD (PyData.int (p.1 : Nat)) = some (.inl ((w : Nat) : Int))) from fun z => h (Int.ofNat.inj (Sum.inl.inj (Option.some.inj z)))), if_neg h, has_dP w r]
theorem lkP_app {w k v : Nat} : ∀ {ps : List (Nat × Nat)}, lkP w (ps ++ [(k, v)]) = match lkP w ps with | some u => some u | none => if k = w then some v else none
  | [] => rfl
  | p :: r => by
    show (if p.1 = w then some p.2 else lkP w (r ++ [(k, v)])) = match (if p.1 = w then some p.2 else lkP w r) with | some u => some u | none => if k = w then some v else none
    by_cases h : p.1 = w
    · rw [if_pos h, if_pos h]
    · rw [if_neg h, if_neg h, lkP_app]
theorem putP {i k v : Nat} {m m' : ME} {Γ : Ev} {ps : List (Nat × Nat)} (h : m Γ = .ok (.int (k : Nat))) (h' : m' Γ = .ok (.int (v : Nat))) (hg : gv Γ i = some (.dict (dP ps))) (hn : lkP k ps = none) (hl : ps.length ≤ 100000) (hi : i < Γ.length) :
    sPutD i m m' Γ = .ok (.nx (Γ.set i (some (.dict (dP (ps ++ [(k, v)])))))) := by
  unfold sPutD
  rw [h', Res.ok_bind, h, Res.ok_bind, hg]
  show gd ((dP ps).length < sizeLine ∧ i < Γ.length) (Res.ok (Out.nx (Γ.set i (some (.dict (putD2 (.int (k : Nat)) (.inl ((k : Nat) : Int)) (.int (v : Nat)) (dP ps))))))) = _
  rw [gd_pos ⟨size_le (by unfold dP; rw [List.length_map]; exact hl), hi⟩]
  unfold putD2
  rw [has_dP, hn, if_neg (by decide)]
  unfold dP
  rw [List.map_append]
  rfl
noncomputable def rnP (ps : List (Nat × Nat)) (s : CStep) : CStep := ⟨s.m, s.b, s.ws.map fun w => (lkP w ps).getD 0⟩
theorem p_renamedP {s : CStep} {ps : List (Nat × Nat)} (hw : ∀ w ∈ s.ws, (lkP w ps).isSome = true) (hl : s.ws.length ≤ 100) : m_renamed [s.d, .dict (dP ps)] = .ok (rnP ps s).d := by
  unfold m_renamed CStep.d
  walk_at "ev"
  rw [eComp_enc (xs := s.ws) (fun w => PyData.int (w : Nat)) (fun w => .int ((lkP w ps).getD 0 : Nat)) ?_ (size_le (by omega)) fun w hw' => ?_]
  rotate_left
  · walk_at "ev"
    rfl
  · walk_at "ev"
    show (match lookD (.inl ((w : Nat) : Int)) (dP ps) with | some d => Res.ok d | none => .bad) = _
    rw [look_dP]
    obtain ⟨v, e⟩ := Option.isSome_iff_exists.mp (hw w hw')
    rw [e]; rfl
  walk_at "ev"
  unfold rnP dN
  rw [List.map_map]
  rfl
noncomputable def unuK (n : Nat) (U : List Int) (ss : List CStep) : Nat → List CStep × List (Nat × Nat)
  | 0 => ([], (List.range n).map fun j => (j, j))
  | i + 1 => if ((n + i : Nat) : Int) ∈ U then ((unuK n U ss i).1 ++ [rnP (unuK n U ss i).2 (ss.getD i ⟨0, 0, []⟩)], (unuK n U ss i).2 ++ [(n + i, n + (unuK n U ss i).1.length)]) else unuK n U ss i
theorem lkP_diag {w : Nat} : ∀ l : List Nat, lkP w (l.map fun j => (j, j)) = if w ∈ l then some w else none
  | [] => rfl
  | j :: r => by
    show (if j = w then some j else lkP w (r.map fun j => (j, j))) = _
    rw [lkP_diag r]
    by_cases h : j = w
    · rw [if_pos h, if_pos (by rw [h]; exact List.mem_cons_self), h]
    · rw [if_neg h]
      by_cases h2 : w ∈ r
      · rw [if_pos h2, if_pos (List.mem_cons_of_mem _ h2)]
      · rw [if_neg h2, if_neg (fun z => (List.mem_cons.mp z).elim (fun z => h z.symm) h2)]
theorem unuK_in {n i : Nat} {U : List Int} {ss : List CStep} (h : ((n + i : Nat) : Int) ∈ U) : unuK n U ss (i + 1) = ((unuK n U ss i).1 ++ [rnP (unuK n U ss i).2 (ss.getD i ⟨0, 0, []⟩)], (unuK n U ss i).2 ++ [(n + i, n + (unuK n U ss i).1.length)]) := by
  show (if _ then _ else _) = _
  rw [if_pos h]
theorem unuK_out {n i : Nat} {U : List Int} {ss : List CStep} (h : ((n + i : Nat) : Int) ∉ U) : unuK n U ss (i + 1) = unuK n U ss i := by
  show (if _ then _ else _) = _
  rw [if_neg h]
structure UnuOk (n : Nat) (U : List Int) (i : Nat) (a : List CStep × List (Nat × Nat)) : Prop where
  st : StepsOk n a.1
  len : a.1.length ≤ i
  pl : a.2.length ≤ n + i
  has : ∀ w, w < n + i → (w < n ∨ ((w : Nat) : Int) ∈ U) → ∃ v, lkP w a.2 = some v ∧ v < n + a.1.length
  new : ∀ w, n + i ≤ w → lkP w a.2 = none
noncomputable def Clos (n : Nat) (U : List Int) (ss : List CStep) : Prop := ∀ j s, ss[j]? = some s → ((n + j : Nat) : Int) ∈ U → ∀ w ∈ s.ws, w < n ∨ ((w : Nat) : Int) ∈ U
theorem unuK_ok {n : Nat} {U : List Int} {ss : List CStep} (hs : StepsOk n ss) (hc : Clos n U ss) : ∀ i, i ≤ ss.length → UnuOk n U i (unuK n U ss i)
  | 0, _ => by
    refine ⟨StepsOk.nil, Nat.le_refl _, by show ((List.range n).map _).length ≤ _; rw [List.length_map, List.length_range]; exact Nat.le_refl _, fun w hw _ => ⟨w, ?_, hw⟩, fun w hw => ?_⟩
    · show lkP w ((List.range n).map fun j => (j, j)) = _
      rw [lkP_diag, if_pos (List.mem_range.mpr (show w < n from hw))]
    · show lkP w ((List.range n).map fun j => (j, j)) = _
      rw [lkP_diag, if_neg (fun z => by have := List.mem_range.mp z; omega)]
  | i + 1, hi => by
    obtain ⟨a1, a2, a3, a4, a5⟩ := unuK_ok hs hc i (by omega)
    by_cases h : ((n + i : Nat) : Int) ∈ U
    · have es : ss[i]? = some ss[i] := List.getElem?_eq_getElem (by omega)
      rw [unuK_in h, show ss.getD i ⟨0, 0, []⟩ = ss[i] by rw [List.getD_eq_getElem?_getD, es]; rfl]
      generalize ss[i] = s at es
      have ok := hs i s es
      have cl := hc i s es h
      generalize unuK n U ss i = a at a1 a2 a3 a4 a5
      refine ⟨a1.snoc ⟨ok.m4, by show (s.ws.map _).length = _; rw [List.length_map]; exact ok.len, fun k hk => ?_, ok.b0, ok.b1⟩, by simp; omega, by simp; omega, fun w hw hu => ?_, fun w hw => ?_⟩
      · obtain ⟨w, hw, rfl⟩ := List.mem_map.mp hk
        obtain ⟨v, e, hv⟩ := a4 w (ok.lt w hw) (cl w hw)
        rw [e]; exact hv
      · rw [List.length_append, List.length_singleton]
        by_cases hlt : w < n + i
        · obtain ⟨v, e, hv⟩ := a4 w hlt hu
          exact ⟨v, by rw [lkP_app, e], by omega⟩
        · have ew : w = n + i := by omega
          subst ew
          exact ⟨n + a.1.length, by rw [lkP_app, a5 _ (Nat.le_refl _), if_pos rfl], by omega⟩
      · rw [lkP_app, a5 w (by omega)]
        show (if n + i = w then _ else _) = _
        rw [if_neg (by omega)]
    · rw [unuK_out h]
      refine ⟨a1, by omega, by omega, fun w hw hu => a4 w ?_ hu, fun w hw => a5 w (by omega)⟩
      rcases Nat.lt_or_ge w (n + i) with z | z
      · exact z
      · have ew : w = n + i := by omega
        subst ew
        rcases hu with hu | hu
        · omega
        · exact absurd hu h
theorem unuK_fold {β : Type} {φ : Nat → Int → List β → β} {z : β} {base : List β} {n : Nat} {U : List Int} {ss : List CStep} (hb : base.length = n) (hs : StepsOk n ss) (hc : Clos n U ss) : ∀ i, i ≤ ss.length → ∀ w v, w < n + i → (w < n ∨ ((w : Nat) : Int) ∈ U) → lkP w (unuK n U ss i).2 = some v → (foldW φ z base (unuK n U ss i).1).getD v z = (foldW φ z base ss).getD w z
  | 0, _, w, v, hw, _, e => by
    have e : lkP w ((List.range n).map fun j => (j, j)) = some v := e
    rw [lkP_diag, if_pos (List.mem_range.mpr (show w < n from hw))] at e
    cases e
    show (foldW φ z base []).getD w z = _
    have := fold_pre (φ := φ) (z := z) hb (acc := []) (w := w) hw ss
    exact this.symm
  | i + 1, hi, w, v, hw, hu, e => by
    obtain ⟨a1, a2, a3, a4, a5⟩ := unuK_ok hs hc i (by omega)
    have ih := unuK_fold (φ := φ) (z := z) hb hs hc i (by omega)
    by_cases h : ((n + i : Nat) : Int) ∈ U
    · have es : ss[i]? = some ss[i] := List.getElem?_eq_getElem (by omega)
      rw [unuK_in h, show ss.getD i ⟨0, 0, []⟩ = ss[i] by rw [List.getD_eq_getElem?_getD, es]; rfl] at e ⊢
      generalize ss[i] = s at es e
      have ok := hs i s es
      have cl := hc i s es h
      generalize unuK n U ss i = a at a1 a2 a3 a4 a5 ih e
      rw [lkP_app] at e
      by_cases hlt : w < n + i
      · obtain ⟨v', e', hv⟩ := a4 w hlt hu
        rw [e'] at e
        cases e
        rw [fold_pre hb hv]
        exact ih w v hlt hu e'
      · have ew : w = n + i := by omega
        subst ew
        rw [a5 _ (Nat.le_refl _), if_pos rfl] at e
        cases e
        rw [fold_last hb, fold_at hb ss hs i s es]
        show φ s.m s.b ((s.ws.map _).map _) = _
        rw [List.map_map]
        congr 1
        refine List.map_congr_left fun w hw => ?_
        obtain ⟨v, e, hv⟩ := a4 w (ok.lt w hw) (cl w hw)
        show (foldW φ z base a.1).getD ((lkP w a.2).getD 0) z = _
        rw [e]
        exact ih w v (ok.lt w hw) (cl w hw) e
    · rw [unuK_out h] at e ⊢
      refine ih w v ?_ hu e
      rcases Nat.lt_or_ge w (n + i) with y | y
      · exact y
      · have ew : w = n + i := by omega
        subst ew
        rcases hu with hu | hu
        · omega
        · exact absurd hu h
theorem p_unused {n o : Nat} {ss : List CStep} (hs : StepsOk n ss) (hn : n ≤ 100) (hl : ss.length ≤ 5000) (ho : o < n + ss.length) :
    m_without_unused [dC n ss o] = .ok (dC n (unuK n (useL n ss o ss.length) ss ss.length).1 ((lkP o (unuK n (useL n ss o ss.length) ss ss.length).2).getD 0)) := by
  have hc : Clos n (useL n ss o ss.length) ss := fun j s e h w hw => .inr (useL_closed hs e h w hw)
  have ho' := useL_out (n := n) (ss := ss) (o := o) ss.length
  unfold m_without_unused
  walk_at "ev"
  rw [ixC0]
  walk_at "ev"
  rw [p_used hs hl]
  generalize useL n ss o ss.length = U at hc ho'
  walk_at "ev"
  rw [rng1_nat (by omega)]
  walk_at "ev"
  refine forR_bind (fun i => [some (dC n ss o), some (.int (n : Nat)), some (.dict (mk U)), some (.dict (dP ((List.range i).map fun j => (j, j)))), none, none, none, none]) rfl (fun i x hx => ?_) ?_
  · obtain ⟨hi, rfl⟩ := upN_get hx
    walk_at "ev"
    rw [putP (k := i) (v := i) (ps := (List.range i).map fun j => (j, j)) rfl rfl rfl (by rw [lkP_diag, if_neg (fun z => by have := List.mem_range.mp z; omega)]) (by rw [List.length_map, List.length_range]; omega) (of_decide_eq_true rfl)]
    walk_at "ev"
    rw [List.range_succ, List.map_append]
    rfl
  · rw [upN_length]
    walk_at "ev"
    rw [ixC1]
    walk_at "ev"
    rw [enmD_tup]
    walk_at "ev"
    refine forR_bind (fun i => [some (dC n ss o), some (.int (n : Nat)), some (.dict (mk U)), some (.dict (dP (unuK n U ss i).2)), none, some (.list ((unuK n U ss i).1.map CStep.d)), none, none]) rfl (fun i x hx => ?_) ?_
    · obtain ⟨d, hd, rfl⟩ := enumL_get hx
      obtain ⟨s, es, rfl⟩ := enc_get hd
      have hi := (List.getElem?_eq_some_iff.mp es).1
      have ok := hs i s es
      have m4 := ok.m4
      have ln := ok.len
      have u := unuK_ok hs hc i (by omega)
      have u2 := u.len
      have u3 := u.pl
      walk_at "ev"
      rw [show ((n : Nat) : Int) + (i : Nat) = ((n + i : Nat) : Int) by omega, in_mk]
      by_cases h : ((n + i : Nat) : Int) ∈ U
      · rw [decide_eq_true h, unuK_in h, show ss.getD i ⟨0, 0, []⟩ = s by rw [List.getD_eq_getElem?_getD, es]; rfl]
        have cl := hc i s es h
        generalize unuK n U ss i = a at u u2 u3
        walk_at "ev"
        rw [p_renamedP (fun w hw => by obtain ⟨v, e, _⟩ := u.has w (ok.lt w hw) (cl w hw); rw [e]; rfl) (by omega)]
        walk_at "ev"
        rw [gd_pos (size_le (by omega))]
        walk_at "ev"
        rw [putP (k := n + i) (v := n + a.1.length) (ps := a.2) (by walk_at "ev"; congr 1) (by walk_at "ev"; congr 2; rw [List.length_append, List.length_map, List.length_singleton]; omega) rfl (u.new _ (Nat.le_refl _)) (by omega) (of_decide_eq_true rfl)]
        walk_at "ev"
        rw [List.map_append]
        rfl
      · rw [decide_eq_false h, unuK_out h]
        walk_at "ev"
    · rw [enumL_length, List.length_map]
      have u := unuK_ok hs hc ss.length (Nat.le_refl _)
      obtain ⟨v, e, _⟩ := u.has o ho (.inr ho')
      walk_at "ev"
      rw [ixC2]
      walk_at "ev"
      rw [show ixY (.dict (dP (unuK n U ss ss.length).2)) (.int (o : Nat)) = .ok (.int (v : Nat)) from by
        show (match lookD (.inl ((o : Nat) : Int)) (dP (unuK n U ss ss.length).2) with | some d => Res.ok d | none => .bad) = _
        rw [look_dP, e]; rfl, e]
      rfl
end Prog
namespace Prog
open PySem L2 L3 Gk
structure Alike (n : Nat) (ss : List CStep) (o : Nat) (ss' : List CStep) (o' : Nat) : Prop where
  ok : StepsOk n ss'
  lt : o' < n + ss'.length
  same : ∀ {β : Type} (φ : Nat → Int → List β → β) (z : β) (base : List β), base.length = n → (foldW φ z base ss').getD o' z = (foldW φ z base ss).getD o z
theorem p_shared {n o : Nat} {ss : List CStep} (hs : StepsOk n ss) (hn : n ≤ 100) (hl : ss.length ≤ 5000) (ho : o < n + ss.length) :
    ∃ (ss' : List CStep) (o' : Nat), m_shared [dC n ss o] = .ok (dC n ss' o') ∧ Alike n ss o ss' o' ∧ ss'.length ≤ ss.length := by
  obtain ⟨i1, i2, i3, i4⟩ := dblL_ok ss hs
  have i5 : ∀ {β : Type} (φ : Nat → Int → List β → β) (z : β) (base : List β), base.length = n → (foldW φ z base (dblL n ss).1).getD ((dblL n ss).2.getD o 0) z = (foldW φ z base ss).getD o z := fun φ z base hb => dblL_fold hb ss hs o ho
  have ho1 : (dblL n ss).2.getD o 0 < n + (dblL n ss).1.length := i4 _ (n_mem (by rw [i2]; exact ho))
  have e1 := p_doubles hs hn hl ho
  generalize (dblL n ss).2.getD o 0 = o1 at i5 ho1 e1
  generalize (dblL n ss).1 = s1 at i1 i3 i5 ho1 e1
  have e2 := p_unused i1 hn (by omega) ho1
  have hc : Clos n (useL n s1 o1 s1.length) s1 := fun j s e h w hw => .inr (useL_closed i1 e h w hw)
  have ho' := useL_out (n := n) (ss := s1) (o := o1) s1.length
  have u := unuK_ok i1 hc s1.length (Nat.le_refl _)
  obtain ⟨v, ev, hv⟩ := u.has o1 ho1 (.inr ho')
  refine ⟨(unuK n (useL n s1 o1 s1.length) s1 s1.length).1, v, ?_, ⟨u.st, hv, fun φ z base hb => ?_⟩, Nat.le_trans u.len i3⟩
  · unfold m_shared
    walk_at "ev"
    rw [e1]
    walk_at "ev"
    rw [e2, ev]
    walk_at "ev"
    rfl
  · rw [← i5 φ z base hb]
    exact unuK_fold hb i1 hc _ (Nat.le_refl _) o1 v ho1 (.inr ho') ev
noncomputable def maxL (l : List Nat) : Nat := l.foldr max 0
theorem maxL_le : ∀ {l : List Nat} {x : Nat}, x ∈ l → x ≤ maxL l
  | y :: l, x, h => by
    show x ≤ max y (maxL l)
    rcases List.mem_cons.mp h with rfl | h
    · exact Nat.le_max_left _ _
    · exact Nat.le_trans (maxL_le h) (Nat.le_max_right _ _)
noncomputable def depW (n : Nat) (ss : List CStep) : List Nat := foldW (fun _ _ xs => 1 + maxL xs) 0 (List.replicate n 0) ss
noncomputable def goT {β : Type} (φ : Nat → Int → List β → β) (z : β) (base : List β) : Nat → PyData → β
  | _, .int i => base.getD i.toNat z
  | k + 1, .tuple [.tuple [.int m, .int b], .tuple ds] => φ m.toNat b (ds.map (goT φ z base k))
  | _, _ => z
section
variable {β : Type} {φ : Nat → Int → List β → β} {z : β} {base : List β} {n : Nat} {ss : List CStep}
theorem goT_int {k i : Nat} : goT φ z base k (.int (i : Nat)) = base.getD i z := by cases k <;> rfl
theorem goT_node {k m : Nat} {b : Int} {ds : List PyData} : goT φ z base (k + 1) (dT m b ds) = φ m b (ds.map (goT φ z base k)) := rfl
theorem fold_low (hb : base.length = n) {w : Nat} (hw : w < n) : (foldW φ z base ss).getD w z = base.getD w z := by
  have := fold_pre (φ := φ) (z := z) hb (acc := []) (w := w) hw ss
  exact this
theorem tre_go (hb : base.length = n) (hs : StepsOk n ss) : ∀ (t w : Nat), w ≤ t → w < n + ss.length → ∀ k, (depW n ss).getD w 0 ≤ k → TreeOk n k ((treI n ss).getD w .none) ∧ goT φ z base k ((treI n ss).getD w .none) = (foldW φ z base ss).getD w z := by
  have step : ∀ t : Nat, (∀ w, w < t → w < n + ss.length → ∀ k, (depW n ss).getD w 0 ≤ k → TreeOk n k ((treI n ss).getD w .none) ∧ goT φ z base k ((treI n ss).getD w .none) = (foldW φ z base ss).getD w z) →
      t < n + ss.length → ∀ k, (depW n ss).getD t 0 ≤ k → TreeOk n k ((treI n ss).getD t .none) ∧ goT φ z base k ((treI n ss).getD t .none) = (foldW φ z base ss).getD t z := fun t ih ht k hk => by
    by_cases h : t < n
    · rw [tre_low h, goT_int, fold_low hb h]
      exact ⟨TreeOk.inp h, rfl⟩
    · obtain ⟨i, rfl⟩ : ∃ i, t = n + i := ⟨t - n, by omega⟩
      have es : ss[i]? = some ss[i] := List.getElem?_eq_getElem (by omega)
      generalize ss[i] = s at es
      have ok := hs i s es
      rw [show (depW n ss).getD (n + i) 0 = 1 + maxL (s.ws.map fun w => (depW n ss).getD w 0) from fold_at List.length_replicate ss hs i s es] at hk
      obtain ⟨k, rfl⟩ : ∃ j, k = j + 1 := ⟨k - 1, by omega⟩
      have kid : ∀ w ∈ s.ws, TreeOk n k ((treI n ss).getD w .none) ∧ goT φ z base k ((treI n ss).getD w .none) = (foldW φ z base ss).getD w z := fun w hw => by
        have hlt := ok.lt w hw
        have := maxL_le (List.mem_map_of_mem (f := fun w => (depW n ss).getD w 0) hw)
        exact ih w hlt (by omega) k (by omega)
      rw [tre_at ss hs es, fold_at hb ss hs i s es]
      refine ⟨.inr ⟨s.m, s.b, _, ok.m4, ok.b0, ok.b1, by rw [List.length_map]; exact ok.len, rfl, fun e he => ?_⟩, ?_⟩
      · obtain ⟨w, hw, rfl⟩ := List.mem_map.mp he
        exact (kid w hw).1
      · show goT φ z base (k + 1) (dT s.m s.b _) = _
        rw [goT_node, List.map_map]
        congr 1
        exact List.map_congr_left fun w hw => (kid w hw).2
  intro t
  induction t with
  | zero => intro w hw hl; obtain rfl : w = 0 := by omega
            exact step 0 (fun w hw => absurd hw (Nat.not_lt_zero _)) hl
  | succ t ih =>
    intro w hw hl
    exact step w (fun v hv hl' => ih v (by omega) hl') hl
end
theorem spread_alike {n o : Nat} {ss : List CStep} (hs : StepsOk n ss) (hn : n ≤ 100) (hl : ss.length ≤ 5000) (ho : o < n + ss.length) (hd : (depW n ss).getD o 0 ≤ 90) (hc : ¬ 300 < (cntI n ss).getD o 0) :
    ∃ (t : PyData) (ss' : List CStep) (o' : Nat), m_spread [dC n ss o] = .ok t ∧ isNn t = false ∧ m_tree_circuit [t, .int (n : Nat)] = .ok (dC n ss' o') ∧ Alike n ss o ss' o' ∧ ss'.length ≤ 300 := by
  have T := fun {β : Type} (φ : Nat → Int → List β → β) (z : β) (base : List β) (hb : base.length = n) => tre_go (φ := φ) (z := z) (base := base) hb hs o o (Nat.le_refl _) ho 90 hd
  have tok := (T (fun _ _ xs => 1 + maxL xs) 0 (List.replicate n 0) List.length_replicate).1
  have A := fun {β : Type} (φ : Nat → Int → List β → β) (z : β) (base : List β) (hb : base.length = n) => addT_ok (φ := φ) (z := z) (base := base) (G := goT φ z base) hb (fun k i hi => goT_int) (fun k m b ds => goT_node) tok (StepsOk.nil (n := n))
  have CT : ∀ (k : Nat) (d : PyData), TreeOk n k d → cntT k d = goT (fun _ _ xs => 1 + xs.sum) 0 (List.replicate n (0 : Int)) k d := fun k => by
    induction k with
    | zero =>
      rintro d ⟨i, hi, rfl⟩
      rw [cntT_int, goT_int, List.getD_eq_getElem?_getD, List.getElem?_replicate_of_lt hi]; rfl
    | succ k ih =>
      rintro d (⟨i, hi, rfl⟩ | ⟨m, b, ds, _, _, _, _, rfl, hk⟩)
      · rw [cntT_int, goT_int, List.getD_eq_getElem?_getD, List.getElem?_replicate_of_lt hi]; rfl
      · rw [cntT_node, goT_node]
        congr 2
        exact List.map_congr_left fun e he => ih e (hk e he)
  have cn : cntT 90 ((treI n ss).getD o .none) = (cntI n ss).getD o 0 := by
    rw [CT _ _ tok]
    exact (T (fun _ _ xs => 1 + xs.sum) 0 (List.replicate n (0 : Int)) List.length_replicate).2
  have K := A (fun _ _ xs => 1 + maxL xs) 0 (List.replicate n 0) List.length_replicate
  have kl := K.len
  refine ⟨(treI n ss).getD o .none, (addT n 90 [] ((treI n ss).getD o .none)).1, (addT n 90 [] ((treI n ss).getD o .none)).2, p_spread hn hs hl ho hc, ?_, p_tree_circuit tok (by decide) (by omega), ⟨K.ok, K.lt, fun φ z base hb => ?_⟩, ?_⟩
  · rcases tok with ⟨i, _, e⟩ | ⟨m, b, ds, _, _, _, _, e, _⟩ <;> rw [e] <;> rfl
  · rw [(A φ z base hb).val, (T φ z base hb).2]
  · rw [cn] at kl
    have : (((addT n 90 [] ((treI n ss).getD o .none)).1.length : Nat) : Int) = ((0 : Nat) : Int) + (cntI n ss).getD o 0 := kl
    omega
theorem dep_le {n : Nat} (ss : List CStep) : StepsOk n ss → ∀ w, w < n + ss.length → (depW n ss).getD w 0 ≤ ss.length := by
  refine snoc_ind (P := fun ss => StepsOk n ss → ∀ w, w < n + ss.length → (depW n ss).getD w 0 ≤ ss.length) ?_ ?_ ss
  · intro _ w hw
    have hw : w < n := hw
    show (List.replicate n 0).getD w 0 ≤ 0
    rw [List.getD_eq_getElem?_getD, List.getElem?_replicate_of_lt hw]
    exact Nat.le_refl _
  · intro ss s ih hs w hw
    obtain ⟨h0, hok⟩ := hs.init
    rw [List.length_append, List.length_singleton] at hw ⊢
    unfold depW at ih ⊢
    by_cases hlt : w < n + ss.length
    · rw [fold_pre List.length_replicate hlt]
      have := ih h0 w hlt
      omega
    · have e : w = n + ss.length := by omega
      subst e
      rw [fold_last List.length_replicate]
      have : ∀ l : List Nat, (∀ x ∈ l, x ≤ ss.length) → maxL l ≤ ss.length := fun l => by
        induction l with
        | nil => exact fun _ => Nat.zero_le _
        | cons x l ih => exact fun h => Nat.max_le.mpr ⟨h x List.mem_cons_self, ih fun y hy => h y (List.mem_cons_of_mem _ hy)⟩
      have := this (s.ws.map fun k => (foldW (fun _ _ xs => 1 + maxL xs) 0 (List.replicate n 0) ss).getD k 0) fun x hx => by
        obtain ⟨v, hv, rfl⟩ := List.mem_map.mp hx
        exact ih h0 v (hok.lt v hv)
      omega
theorem dep_turn {n : Nat} {ss : List CStep} : depW n (ss.map turnS) = depW n ss := by
  unfold depW foldW
  rw [List.foldl_map]
  rfl
theorem mv_fold {β : Type} {φ : Nat → Int → List β → β} {z : β} {base : List β} {n : Nat} {hs : List Nat} (hb : base.length = n) (hh : hs.length = n) (hlt : ∀ x ∈ hs, x < n) (he : ∀ w, w < n → base.getD (hs.getD w 0) z = base.getD w z) (ss : List CStep) :
    StepsOk n ss → ∀ w, w < n + ss.length → (foldW φ z base (ss.map (mv n n hs))).getD (ren n n hs w) z = (foldW φ z base ss).getD w z := by
  refine snoc_ind (P := fun ss => StepsOk n ss → ∀ w, w < n + ss.length → (foldW φ z base (ss.map (mv n n hs))).getD (ren n n hs w) z = (foldW φ z base ss).getD w z) ?_ ?_ ss
  · intro _ w hw
    have hw : w < n := hw
    unfold ren
    rw [if_pos hw]
    exact he w hw
  · intro ss s ih hss w hw
    obtain ⟨h0, hok⟩ := hss.init
    rw [List.length_append, List.length_singleton] at hw
    rw [List.map_append, List.map_cons, List.map_nil]
    by_cases hl : w < n + ss.length
    · rw [fold_pre hb hl, fold_pre hb (by rw [List.length_map]; exact ren_lt hh hlt hl)]
      exact ih h0 w hl
    · have e : w = n + ss.length := by omega
      subst e
      have er : ren n n hs (n + ss.length) = n + (ss.map (mv n n hs)).length := by
        unfold ren
        rw [if_neg (by omega), List.length_map]; omega
      rw [er, fold_last hb, fold_last hb]
      show φ s.m s.b ((s.ws.map _).map _) = _
      rw [List.map_map]
      congr 1
      exact List.map_congr_left fun v hv => ih h0 v (hok.lt v hv)
noncomputable def wireP (w : Nat) : Part := ([], w)
theorem stP_wires {n : Nat} (hs : List Nat) : (∀ x ∈ hs, x < n) → stP n (hs.map wireP) = ([], hs) := by
  refine snoc_ind (P := fun hs => (∀ x ∈ hs, x < n) → stP n (hs.map wireP) = ([], hs)) (fun _ => rfl) (fun hs w ih h => ?_) hs
  rw [List.map_append, List.map_cons, List.map_nil, stP_snoc, ih fun x hx => h x (List.mem_append_left _ hx)]
  have hw := h w (List.mem_append_right _ (List.mem_singleton.mpr rfl))
  show (([] : List CStep), hs ++ [ren n (n + 0) (List.range n) w]) = _
  unfold ren
  rw [if_pos hw, List.getD_eq_getElem?_getD, List.getElem?_range hw]
  rfl
theorem tot_wires (hs : List Nat) : tot (hs.map wireP) = 0 := by
  induction hs with
  | nil => rfl
  | cons w hs ih => unfold tot at ih ⊢; rw [List.map_cons, List.map_cons, List.sum_cons, ih]; rfl
theorem circB_ok {n o : Nat} {ss : List CStep} (hn : n ≤ 4) (hs : StepsOk n ss) (hl : ss.length ≤ 600) (ho : o < n + ss.length) : circB (dC n ss o) = true := by
  show ((decide ((0 : Int) ≤ (n : Nat)) && decide (((n : Nat) : Int) < 5)) && decide ((ss.map CStep.d).length ≤ 600) && (List.range (ss.map CStep.d).length).all (fun i => stepB ((ss.map CStep.d).getD i .none) (((n : Nat) : Int) + (i : Nat))) && belowB (.int (o : Nat)) (((n : Nat) : Int) + (ss.map CStep.d).length)) = true
  rw [List.length_map, decide_eq_true (by omega), decide_eq_true (by omega), decide_eq_true hl]
  have e : belowB (.int (o : Nat)) (((n : Nat) : Int) + (ss.length : Nat)) = true := decide_eq_true (by omega)
  rw [e, Bool.and_true, Bool.true_and, Bool.true_and, Bool.true_and, List.all_eq_true]
  intro i hi
  have hi := List.mem_range.mp hi
  have es : ss[i]? = some ss[i] := List.getElem?_eq_getElem hi
  rw [List.getD_eq_getElem?_getD, List.getElem?_map, es]
  generalize ss[i] = s at es
  have ok := hs i s es
  have m4 := ok.m4
  have ln := ok.len
  show (gateB (dG s.m s.b) && wiresB (.tuple (dN s.ws)) (inpI (dG s.m s.b)) _) = true
  rw [Bool.and_eq_true]
  constructor
  · exact decide_eq_true ⟨by omega, by omega, ok.b0, by rw [Int.toNat_natCast]; exact ok.b1⟩
  · show (decide (((dN s.ws).length : Int) = ((s.m : Nat) : Int)) && (dN s.ws).all fun d => belowB d _) = true
    rw [dN_len, decide_eq_true (by omega), Bool.true_and, List.all_eq_true]
    intro d hd
    obtain ⟨w, hw, rfl⟩ := List.mem_map.mp hd
    have := ok.lt w hw
    exact decide_eq_true (by omega)
end Prog
namespace Law
open PySem PySem.Spec PyProof.Rows L2 L3 Prog
noncomputable def z_spread : List PyData → Res Str := fnZ 3 (zSeq (sIf (eBin gtD (eCall m_spread_size [(eVar 0)]) (eC (.int 300))) sBad sNil) (zIf (eBin gtD (eCall m_spread_size [(eVar 0)]) (eC (.int 300))) (zSeq sBad (zRaise "TooBig") zNo) zNo) zNo)
noncomputable def m_law_cell_at : List PyData → Res PyData := fnR 2 (sSeq (sIf (eBin ltD (eVar 1) (eFn lenD [(eVar 0)])) (sRet (eBin ixD (eVar 0) (eVar 1))) sNil)
    (sSeq (sIf (eBin eqD (eFn lenD [(eVar 0)]) (eC (.int 0))) (sRet (eBin addD (eBin mulD (eBin mulD (eVar 1) (eVar 1)) (eC (.int 48271))) (eBin mulD (eC (.int 7)) (eVar 1)))) sNil)
    (sRet (eBin addD (eBin fdivD (eBin ixD (eVar 0) (eBin modD (eVar 1) (eFn lenD [(eVar 0)]))) (eBin addD (eC (.int 1)) (eBin fdivD (eVar 1) (eFn lenD [(eVar 0)])))) (eBin mulD (eBin mulD (eVar 1) (eVar 1)) (eC (.int 7919)))))))
noncomputable def m_law_gate : List PyData → Res PyData := fnR 3 (sSeq (sSet 1 (eBin ixD (eLst [(eC (.int 2)), (eC (.int 2)), (eC (.int 1)), (eC (.int 3)), (eC (.int 2)), (eC (.int 2)), (eC (.int 3)), (eC (.int 1)), (eC (.int 0)), (eC (.int 4))]) (eBin modD (eVar 0) (eC (.int 10)))))
    (sSeq (sSet 0 (eBin fdivD (eVar 0) (eC (.int 10))))
    (sSeq (sSet 2 (eLst [(eC (.int 8)), (eC (.int 14)), (eC (.int 6)), (eC (.int 7)), (eC (.int 9)), (eC (.int 1)), (eC (.int 11)), (eC (.int 2))]))
    (sSeq (sIf (eAnd (eBin eqD (eVar 1) (eC (.int 2))) (eBin eqD (eBin modD (eVar 0) (eC (.int 3))) (eC (.int 0)))) (sRet (eTup [(eC (.int 2)), (eBin ixD (eVar 2) (eBin modD (eBin fdivD (eVar 0) (eC (.int 3))) (eC (.int 8))))])) sNil)
    (sRet (eTup [(eVar 1), (eBin modD (eBin addD (eBin mulD (eBin fdivD (eVar 0) (eC (.int 3))) (eC (.int 40503))) (eVar 0)) (eBin ixD (eLst [(eC (.int 2)), (eC (.int 4)), (eC (.int 16)), (eC (.int 256)), (eC (.int 65536))]) (eVar 1)))]))))))
noncomputable def m_law_circuit : List PyData → Res PyData := fnR 12 (sSeq (sSet 4 (eLst []))
    (sSeq (sFor (itR1 (eBin modD (eCall m_law_cell_at [(eVar 0), (eVar 1)]) (eBin addD (eVar 3) (eC (.int 1))))) (gN 5) [5, 6, 7, 8, 9] (sSeq (sSet 6 (eCall m_law_cell_at [(eVar 0), (eBin addD (eBin addD (eVar 1) (eC (.int 1))) (eVar 5))]))
    (sSeq (sSet 7 (eCall m_law_gate [(eVar 6)]))
    (sSeq (sIf (eBin eqD (eBin addD (eVar 2) (eVar 5)) (eC (.int 0))) (sSet 7 (eTup [(eC (.int 0)), (eBin modD (eBin fdivD (eVar 6) (eC (.int 10))) (eC (.int 2)))])) sNil)
    (sSeq (sSet 8 (eLst []))
    (sSeq (sFor (itR1 (eBin ixD (eVar 7) (eC (.int 0)))) (gN 9) [9] (sApp 8 (eBin modD (eBin addD (eBin fdivD (eVar 6) (eC (.int 7))) (eBin mulD (eBin fdivD (eVar 6) (eBin addD (eC (.int 11)) (eBin mulD (eC (.int 6)) (eVar 9)))) (eBin addD (eVar 9) (eC (.int 1))))) (eBin addD (eVar 2) (eVar 5)))))
    (sSeq (sIf (eAnd (eBin gtD (eVar 5) (eC (.int 1))) (eBin eqD (eBin modD (eBin fdivD (eVar 6) (eC (.int 13))) (eC (.int 5))) (eC (.int 0)))) (sAsg (gT [(gN 7), (gN 8)]) (eBin ixD (eVar 4) (eBin modD (eBin fdivD (eVar 6) (eC (.int 65))) (eVar 5)))) sNil)
    (sApp 4 (eTup [(eVar 7), (eFn tupleD [(eVar 8)])])))))))))
    (sSeq (sIf (eBin eqD (eBin addD (eVar 2) (eFn lenD [(eVar 4)])) (eC (.int 0))) (sSet 4 (eLst [(eTup [(eTup [(eC (.int 0)), (eC (.int 1))]), (eTup [])])])) sNil)
    (sSeq (sSet 10 (eBin addD (eVar 2) (eFn lenD [(eVar 4)])))
    (sSeq (sSet 11 (eBin subD (eVar 10) (eC (.int 1))))
    (sSeq (sIf (eBin eqD (eBin modD (eCall m_law_cell_at [(eVar 0), (eBin addD (eBin addD (eVar 1) (eVar 3)) (eC (.int 1)))]) (eC (.int 5))) (eC (.int 1))) (sSet 11 (eBin modD (eBin fdivD (eCall m_law_cell_at [(eVar 0), (eBin addD (eBin addD (eVar 1) (eVar 3)) (eC (.int 1)))]) (eC (.int 5))) (eVar 10))) sNil)
    (sRet (eTup [(eVar 2), (eFn tupleD [(eVar 4)]), (eVar 11)]))))))))
noncomputable def m_law_out : List PyData → Res PyData := fnR 6 (sSeq (sSet 2 (eComp (itR1 (eBin ixD (eVar 0) (eC (.int 0)))) (gN 0) (eC (.bool true)) (eBin andD (eBin shrD (eVar 1) (eVar 0)) (eC (.int 1))) 1 [1]))
    (sSeq (sFor (itL (eBin ixD (eVar 0) (eC (.int 1)))) (gT [(gN 3), (gN 4)]) [3, 4, 5] (sSeq (sSet 5 (eFn sumD [(eComp (itE (eVar 4)) (gT [(gN 0), (gN 1)]) (eC (.bool true)) (eBin shlD (eBin ixD (eVar 2) (eVar 1)) (eVar 0)) 2 [2])]))
    (sApp 2 (eBin andD (eBin shrD (eBin ixD (eVar 3) (eC (.int 1))) (eVar 5)) (eC (.int 1))))))
    (sRet (eBin ixD (eVar 2) (eBin ixD (eVar 0) (eC (.int 2)))))))
noncomputable def m_law_ordered : List PyData → Res PyData := fnR 2 (sRet (eFn sumD [(eComp (itE (eVar 1)) (gT [(gN 0), (gN 1)]) (eC (.bool true)) (eBin shlD (eBin andD (eBin shrD (eVar 2) (eVar 1)) (eC (.int 1))) (eVar 0)) 2 [0])]))
noncomputable def m_law_spread : List PyData → Res PyData := fnR 2 (sSeq (sSet 1 (eC .none))
    (sSeq (sTryN 1 (sSet 1 (eCall m_spread [(eVar 0)])) (zCall z_spread [(eVar 0)]))
    (sSeq (sIf (eBin isND (eVar 1) (eC .none)) (sRet (eVar 0)) sNil)
    (sRet (eCall m_tree_circuit [(eVar 1), (eBin ixD (eVar 0) (eC (.int 0)))])))))
noncomputable def m_law_changed : List PyData → Res PyData := fnR 8 (sSeq (sSet 3 (eBin ixD (eVar 0) (eC (.int 0))))
    (sSeq (sSet 4 (eFn lenD [(eVar 1)]))
    (sSeq (sIf (eBin eqD (eBin modD (eVar 2) (eC (.int 4))) (eC (.int 0))) (sRet (eTup [(eCall m_shared [(eVar 0)]), (eFn listD [(eVar 1)]), (eFn lenD [(eBin ixD (eVar 0) (eC (.int 1)))])])) sNil)
    (sSeq (sIf (eBin eqD (eBin modD (eVar 2) (eC (.int 4))) (eC (.int 1))) (sRet (eTup [(eCall m_turned_circuit [(eVar 0)]), (eComp (itR1 (eVar 4)) (gN 0) (eC (.bool true)) (eBin subD (eC (.int 1)) (eBin ixD (eVar 1) (eBin subD (eBin subD (eVar 2) (eC (.int 1))) (eVar 0)))) 1 [1, 4]), (eFn lenD [(eBin ixD (eVar 0) (eC (.int 1)))])])) sNil)
    (sSeq (sIf (eBin eqD (eBin modD (eVar 2) (eC (.int 4))) (eC (.int 2))) (sSeq (sSet 5 (eComp (itR1 (eVar 3)) (gN 0) (eC (.bool true)) (eBin modD (eBin fdivD (eVar 1) (eBin addD (eC (.int 4)) (eBin mulD (eC (.int 3)) (eVar 0)))) (eVar 2)) 1 [2, 3]))
    (sSeq (sSet 6 (eComp (itL (eVar 5)) (gN 0) (eC (.bool true)) (eTup [(eVar 1), (eTup []), (eVar 0)]) 1 [3]))
    (sSeq (sSet 7 (eComp (itR1 (eVar 4)) (gN 0) (eC (.bool true)) (eBin ixD (eVar 1) (eCall m_law_ordered [(eVar 0), (eVar 2)])) 1 [1, 5]))
    (sRet (eTup [(eCall m_joined [(eVar 0), (eVar 6)]), (eVar 7), (eFn lenD [(eBin ixD (eVar 0) (eC (.int 1)))])]))))) sNil)
    (sRet (eTup [(eCall m_law_spread [(eVar 0)]), (eFn listD [(eVar 1)]), (eBin addD (eC (.int 300)) (eFn lenD [(eBin ixD (eVar 0) (eC (.int 1)))]))])))))))
noncomputable def m_law : List PyData → Res PyData := fnR 5 (sSeq (sSet 1 (eCall m_law_circuit [(eVar 0), (eC (.int 1)), (eBin modD (eCall m_law_cell_at [(eVar 0), (eC (.int 0))]) (eC (.int 5))), (eC (.int 12))]))
    (sSeq (sSet 2 (eComp (itR1 (eBin shlD (eC (.int 1)) (eBin ixD (eVar 1) (eC (.int 0))))) (gN 0) (eC (.bool true)) (eCall m_law_out [(eVar 1), (eVar 0)]) 1 [1]))
    (sSeq (sFor (itR1 (eBin addD (eC (.int 2)) (eBin modD (eCall m_law_cell_at [(eVar 0), (eC (.int 50))]) (eC (.int 11))))) (gN 3) [3, 4] (sSeq (sAsg (gT [(gN 1), (gN 2), (gN 4)]) (eCall m_law_changed [(eVar 1), (eVar 2), (eCall m_law_cell_at [(eVar 0), (eBin addD (eC (.int 20)) (eVar 3))])]))
    (sSeq (sIf (eOr (eBin notBD (eCall m_is_circuit [(eVar 1)]) (eC (.bool true))) (eBin gtD (eFn lenD [(eBin ixD (eVar 1) (eC (.int 1)))]) (eVar 4))) (sRet (eC (.bool false))) sNil)
    (sIf (eBin neD (eComp (itR1 (eFn lenD [(eVar 2)])) (gN 0) (eC (.bool true)) (eCall m_law_out [(eVar 1), (eVar 0)]) 1 [1]) (eVar 2)) (sRet (eC (.bool false))) sNil))))
    (sRet (eBin eqD (eCall m_gate_of [(eVar 1)]) (eTup [(eBin ixD (eVar 1) (eC (.int 0))), (eFn sumD [(eComp (itE (eVar 2)) (gT [(gN 0), (gN 1)]) (eC (.bool true)) (eBin shlD (eVar 1) (eVar 0)) 2 [])])]))))))
end Law
namespace Law
open PySem L2 L3 Prog Gk
theorem l_cell (ns : List Int) (hns : ns.length ≤ 63) {k : Nat} (hk : k ≤ 10000) : ∃ c : Int, m_law_cell_at [dL ns, .int (k : Nat)] = .ok (.int c) := by
  unfold m_law_cell_at
  walk_at "ev"
  rw [bS_dec]
  by_cases h : k < ns.length
  · rw [if_pos (decide_eq_true (by omega)), getD_ix h]
    walk_at "ev"
    exact ⟨_, rfl⟩
  · rw [if_neg (by rw [decide_eq_true_eq]; omega)]
    walk_at "ev"
    rw [bS_dec]
    have hk2 : ((k : Nat) : Int) * (k : Nat) ≤ 10000 * 10000 := Int.mul_le_mul (by omega) (by omega) (by omega) (by omega)
    have hk0 : 0 ≤ ((k : Nat) : Int) * (k : Nat) := Int.mul_nonneg (by omega) (by omega)
    by_cases h0 : ns.length = 0
    · rw [if_pos (decide_eq_true (by omega))]
      walk_at "go"
      exact ⟨_, rfl⟩
    · rw [if_neg (by rw [decide_eq_true_eq]; omega)]
      have hp : (0 : Int) < ns.length := by omega
      obtain ⟨q, eq, hq⟩ := modN ((k : Nat) : Int) hp
      have hd : ((k : Nat) : Int) / ns.length ≤ 10000 := Int.le_trans (Int.ediv_le_self _ (by omega)) (by omega)
      have hd0 : 0 ≤ ((k : Nat) : Int) / ns.length := Int.ediv_nonneg (by omega) (by omega)
      walk_at "ev"
      rw [gd_pos hp]
      walk_at "ev"
      rw [eq, getD_ix (by omega)]
      walk_at "ev"
      rw [gd_pos (show CDiv ((k : Nat) : Int) ns.length from ⟨hp, by omega⟩)]
      walk_at "ev"
      rw [gd_pos (show CDiv (ns.getD q 0) (1 + ((k : Nat) : Int) / ns.length) from ⟨by omega, by omega⟩)]
      walk_at "go"
      exact ⟨_, rfl⟩
theorem ten {v : Int} (h : 0 ≤ v ∧ v < 10) : ∃ n : Nat, n ≤ 4 ∧ ixD (.list [.int 2, .int 2, .int 1, .int 3, .int 2, .int 2, .int 3, .int 1, .int 0, .int 4]) (.int v) = .ok (.int (n : Nat)) := by
  have : v = 0 ∨ v = 1 ∨ v = 2 ∨ v = 3 ∨ v = 4 ∨ v = 5 ∨ v = 6 ∨ v = 7 ∨ v = 8 ∨ v = 9 := by omega
  rcases this with rfl | rfl | rfl | rfl | rfl | rfl | rfl | rfl | rfl | rfl
  · exact ⟨2, by decide, rfl⟩
  · exact ⟨2, by decide, rfl⟩
  · exact ⟨1, by decide, rfl⟩
  · exact ⟨3, by decide, rfl⟩
  · exact ⟨2, by decide, rfl⟩
  · exact ⟨2, by decide, rfl⟩
  · exact ⟨3, by decide, rfl⟩
  · exact ⟨1, by decide, rfl⟩
  · exact ⟨0, by decide, rfl⟩
  · exact ⟨4, by decide, rfl⟩
theorem eight {v : Int} (h : 0 ≤ v ∧ v < 8) : ∃ x : Int, 0 ≤ x ∧ x < 16 ∧ ixD (.list [.int 8, .int 14, .int 6, .int 7, .int 9, .int 1, .int 11, .int 2]) (.int v) = .ok (.int x) := by
  have : v = 0 ∨ v = 1 ∨ v = 2 ∨ v = 3 ∨ v = 4 ∨ v = 5 ∨ v = 6 ∨ v = 7 := by omega
  rcases this with rfl | rfl | rfl | rfl | rfl | rfl | rfl | rfl <;> exact ⟨_, by decide, by decide, rfl⟩
theorem and_res {a b : Bool} : (if a = true then Res.ok (PyData.bool b) else .ok (.bool false)) = .ok (.bool (a && b)) := by cases a <;> rfl
theorem l_gate (c : Int) : ∃ (m : Nat) (b : Int), m ≤ 4 ∧ 0 ≤ b ∧ b < 2 ^ 2 ^ m ∧ m_law_gate [.int c] = .ok (dG m b) := by
  unfold m_law_gate
  walk_at "go"
  obtain ⟨m, hm, em⟩ := ten (v := c % 10) ⟨Int.emod_nonneg _ (by decide), Int.emod_lt_of_pos _ (by decide)⟩
  rw [em]
  walk_at "go"
  rw [bT_dec, and_res]
  have h2 := two_pos (2 ^ m)
  generalize (decide (((m : Nat) : Int) = 2) && decide (c / 10 % 3 = 0)) = t
  cases t with
  | true =>
    obtain ⟨x, x0, x1, ex⟩ := eight (v := c / 10 / 3 % 8) ⟨Int.emod_nonneg _ (by decide), Int.emod_lt_of_pos _ (by decide)⟩
    rw [ex]
    walk_at "go"
    exact ⟨2, x, by decide, x0, x1, rfl⟩
  | false =>
    walk_at "go"
    rw [beyond hm]
    walk_at "go"
    exact ⟨m, _, hm, Int.emod_nonneg _ (by omega), Int.emod_lt_of_pos _ h2, rfl⟩
theorem Goes.two {α : Type} {c : Bool} {x y : Res Out} {f : Out → Res Out} {P : Ev → Prop} (V : α → Prop) (E : α → Ev) (hx : c = true → ∃ v, V v ∧ x = .ok (.nx (E v))) (hy : c = false → ∃ v, V v ∧ y = .ok (.nx (E v)))
    (k : ∀ v, V v → Goes (f (.nx (E v))) P) : Goes ((bS (.bool c) x y).bind f) P := by
  cases c with
  | true => obtain ⟨v, h, e⟩ := hx rfl; rw [bS_true, e]; exact k v h
  | false => obtain ⟨v, h, e⟩ := hy rfl; rw [bS_false, e]; exact k v h
theorem Gives.two {α β : Type} {c : Bool} {x y : Res Out} {f : Out → Res β} {P : β → Prop} (V : α → Prop) (E : α → Ev) (hx : c = true → ∃ v, V v ∧ x = .ok (.nx (E v))) (hy : c = false → ∃ v, V v ∧ y = .ok (.nx (E v)))
    (k : ∀ v, V v → L3.Gives (f (.nx (E v))) P) : L3.Gives ((bS (.bool c) x y).bind f) P := by
  cases c with
  | true => obtain ⟨v, h, e⟩ := hx rfl; rw [bS_true, e]; exact k v h
  | false => obtain ⟨v, h, e⟩ := hy rfl; rw [bS_false, e]; exact k v h
noncomputable def wiresD (w : CStep × Bool) : PyData := if w.2 = true then .tuple (dN w.1.ws) else .list (dN w.1.ws)
theorem tupleD_wires {w : CStep × Bool} : tupleD [wiresD w] = .ok (.tuple (dN w.1.ws)) := by
  obtain ⟨s, b⟩ := w
  cases b <;> rfl
theorem l_circuit (ns : List Int) (hns : ns.length ≤ 63) {a n k : Nat} (ha : a ≤ 1000) (hn : n ≤ 4) (hk : k ≤ 1000) : ∃ (ss : List CStep) (o : Nat), m_law_circuit [dL ns, .int (a : Nat), .int (n : Nat), .int (k : Nat)] = .ok (dC n ss o) ∧ StepsOk n ss ∧ ss.length ≤ k + 1 ∧ o < n + ss.length := by
  suffices h : Gives (m_law_circuit [dL ns, .int (a : Nat), .int (n : Nat), .int (k : Nat)]) fun d => ∃ (ss : List CStep) (o : Nat), d = dC n ss o ∧ StepsOk n ss ∧ ss.length ≤ k + 1 ∧ o < n + ss.length by
    obtain ⟨d, e, ss, o, rfl, h⟩ := h
    exact ⟨ss, o, e, h⟩
  unfold m_law_circuit
  walk_at "ev"
  obtain ⟨c0, e0⟩ := l_cell ns hns (k := a) (by omega)
  obtain ⟨q, eq, hq⟩ := modN c0 (m := ((k : Nat) : Int) + 1) (by omega)
  rw [e0]
  walk_at "go"
  rw [eq, rng1_nat (by omega)]
  walk_at "ev"
  refine forR_gives (fun i Γ => ∃ ss : List CStep, Γ = [some (dL ns), some (.int (a : Nat)), some (.int (n : Nat)), some (.int (k : Nat)), some (.list (ss.map CStep.d)), none, none, none, none, none, none, none] ∧ ss.length = i ∧ StepsOk n ss) ⟨[], rfl, rfl, StepsOk.nil⟩ (fun i x Γ hx hI => ?_) fun Γ hI => ?_
  · obtain ⟨ss, rfl, hl, hss⟩ := hI
    obtain ⟨hi, rfl⟩ := upN_get hx
    walk_at "ev"
    have e1 : ((a : Nat) : Int) + 1 + (i : Nat) = ((a + 1 + i : Nat) : Nat) := by omega
    obtain ⟨c, ec⟩ := l_cell ns hns (k := a + 1 + i) (by omega)
    rw [e1, ec]
    walk_at "ev"
    obtain ⟨m, b, hm, gb0, gb1, eg⟩ := l_gate c
    rw [eg]
    walk_at "ev"
    refine Goes.two (α := Nat × Int) (fun v => v.1 ≤ 4 ∧ (n + i = 0 → v.1 = 0) ∧ 0 ≤ v.2 ∧ v.2 < 2 ^ 2 ^ v.1) (fun v => [some (dL ns), some (.int (a : Nat)), some (.int (n : Nat)), some (.int (k : Nat)), some (.list (ss.map CStep.d)), some (.int (i : Nat)), some (.int c), some (dG v.1 v.2), none, none, none, none]) (fun h => ?_) (fun h => ?_) fun v hv => ?_
    · refine ⟨(0, c / 10 % 2), ⟨by show (0 : Nat) ≤ 4; decide, fun _ => rfl, Int.emod_nonneg _ (by decide), Int.emod_lt_of_pos _ (by decide)⟩, ?_⟩
      walk_at "go"
      rfl
    · have := of_decide_eq_false h
      exact ⟨(m, b), ⟨hm, fun z => absurd (show ((n : Nat) : Int) + (i : Nat) = 0 by omega) this, gb0, gb1⟩, rfl⟩
    obtain ⟨m, b⟩ := v
    obtain ⟨hm, h0, vb0, vb1⟩ := hv
    replace vb0 : 0 ≤ b := vb0
    replace vb1 : b < 2 ^ 2 ^ m := vb1
    replace hm : m ≤ 4 := hm
    replace h0 : n + i = 0 → m = 0 := h0
    walk_at "ev"
    rw [rng1_nat (show m < 2 ^ 62 by omega)]
    walk_at "ev"
    refine forR_goes (fun j Γ => ∃ ws : List Nat, Γ = [some (dL ns), some (.int (a : Nat)), some (.int (n : Nat)), some (.int (k : Nat)), some (.list (ss.map CStep.d)), some (.int (i : Nat)), some (.int c), some (dG m b), some (.list (dN ws)), none, none, none] ∧ ws.length = j ∧ ∀ w ∈ ws, w < n + i) ⟨[], rfl, rfl, fun w hw => nomatch hw⟩ (fun j x Γ hx hI => ?_) fun Γ hI => ?_
    · obtain ⟨ws, rfl, hwl, hws⟩ := hI
      obtain ⟨hj, rfl⟩ := upN_get hx
      have hpos : (0 : Int) < ((n : Nat) : Int) + (i : Nat) := by
        rcases Nat.eq_zero_or_pos (n + i) with z | z
        · have := h0 z; omega
        · omega
      obtain ⟨w, ew, hw⟩ := modN (c / 7 + c / (11 + 6 * (j : Nat)) * ((j : Nat) + 1)) hpos
      have hz : (dN ws).length < sizeLine := size_le (by unfold dN; rw [List.length_map]; omega)
      walk_at "go"
      rw [ew]
      refine ⟨ws ++ [w], by unfold dN; rw [List.map_append]; rfl, by rw [List.length_append, hwl]; rfl, fun u hu => ?_⟩
      rcases List.mem_append.mp hu with z | z
      · exact hws u z
      · rw [List.mem_singleton.mp z]; omega
    · obtain ⟨ws, rfl, hwl, hws⟩ := hI
      rw [upN_length] at hwl
      walk_at "go"
      rw [bT_dec, and_res]
      refine Goes.two (α := CStep × Bool) (fun v => v.1.Ok (n + i)) (fun v => [some (dL ns), some (.int (a : Nat)), some (.int (n : Nat)), some (.int (k : Nat)), some (.list (ss.map CStep.d)), some (.int (i : Nat)), some (.int c), some (dG v.1.m v.1.b), some (wiresD v), none, none, none]) (fun h => ?_) (fun h => ?_) fun v hv => ?_
      · have hi1 : (1 : Int) < (i : Nat) := by
          rw [Bool.and_eq_true] at h
          exact of_decide_eq_true h.1
        obtain ⟨p, ep, hp⟩ := modN (c / 65) (m := ((i : Nat) : Int)) (by omega)
        have hp' : p < ss.length := by omega
        have ok := hss p ss[p] (List.getElem?_eq_getElem hp')
        refine ⟨(ss[p], true), ok.mono (by omega), ?_⟩
        walk_at "go"
        rw [ep, ixD_list (i := p) (d := ss[p].d) (by rw [List.getElem?_map, List.getElem?_eq_getElem hp']; rfl)]
        unfold CStep.d
        walk_at "go"
        rfl
      · exact ⟨(⟨m, b, ws⟩, false), ⟨hm, hwl, hws, vb0, vb1⟩, rfl⟩
      · walk_at "ev"
        rw [tupleD_wires]
        have hz : ss.length < sizeLine := size_le (by omega)
        walk_at "ev"
        rw [gd_pos hz]
        walk_at "ev"
        refine ⟨ss ++ [v.1], by rw [List.map_append]; rfl, by rw [List.length_append, hl]; rfl, hss.snoc (by rw [hl]; exact hv)⟩
  · obtain ⟨ss, rfl, hl, hss⟩ := hI
    rw [upN_length] at hl
    walk_at "ev"
    refine Gives.two (α := List CStep) (fun v => StepsOk n v ∧ v.length ≤ k + 1 ∧ 0 < n + v.length) (fun v => [some (dL ns), some (.int (a : Nat)), some (.int (n : Nat)), some (.int (k : Nat)), some (.list (v.map CStep.d)), none, none, none, none, none, none, none]) (fun h => ?_) (fun h => ?_) fun v hv => ?_
    · refine ⟨[⟨0, 1, []⟩], ⟨StepsOk.nil.snoc ⟨by show (0 : Nat) ≤ 4; decide, rfl, fun w hw => (nomatch hw), by show (0 : Int) ≤ 1; decide, by show (1 : Int) < 2 ^ 2 ^ 0; decide⟩, by show 1 ≤ k + 1; omega, by show 0 < n + 1; omega⟩, rfl⟩
    · have := of_decide_eq_false h
      exact ⟨ss, ⟨hss, by omega, by omega⟩, rfl⟩
    · obtain ⟨v1, v2, v3⟩ := hv
      obtain ⟨c1, e1⟩ := l_cell ns hns (k := a + k + 1) (by omega)
      have e2 : ((a : Nat) : Int) + (k : Nat) + 1 = ((a + k + 1 : Nat) : Nat) := by omega
      walk_at "ev"
      rw [e2, e1]
      walk_at "go"
      refine Gives.two (α := Nat) (fun o => o < n + v.length) (fun o => [some (dL ns), some (.int (a : Nat)), some (.int (n : Nat)), some (.int (k : Nat)), some (.list (v.map CStep.d)), none, none, none, none, none, some (.int (((n : Nat) : Int) + (v.length : Nat))), some (.int (o : Nat))]) (fun h => ?_) (fun h => ?_) fun o ho => ?_
      · obtain ⟨o, eo, ho⟩ := modN (c1 / 5) (m := ((n : Nat) : Int) + (v.length : Nat)) (by omega)
        refine ⟨o, by omega, ?_⟩
        walk_at "go"
        rw [eo]
      · refine ⟨n + v.length - 1, by omega, ?_⟩
        rw [show ((n + v.length - 1 : Nat) : Int) = ((n : Nat) : Int) + (v.length : Nat) - 1 by omega]
      · walk_at "ev"
        exact ⟨v, o, rfl, v1, v2, ho⟩
theorem enum_dN {ws : List Nat} : enumL (dN ws) = (List.range ws.length).map fun i => PyData.tuple [.int (i : Nat), .int (ws.getD i 0 : Nat)] := by
  unfold enumL dN
  rw [List.length_map]
  refine List.map_congr_left fun i hi => ?_
  have hi := List.mem_range.mp hi
  rw [List.getD_eq_getElem?_getD, List.getD_eq_getElem?_getD, List.getElem?_map, List.getElem?_eq_getElem hi]
  rfl
theorem l_out {n r : Nat} {ss : List CStep} {o : Nat} (hn : n ≤ 4) (hs : StepsOk n ss) (hl : ss.length ≤ 10000) (ho : o < n + ss.length) : m_law_out [dC n ss o, .int (r : Nat)] = .ok (.int ((valsI n ss r).getD o 0)) := by
  unfold m_law_out dC
  walk_at "ev"
  rw [eComp_upN (n := n) (fun i => .int (bitI (r : Nat) (i : Nat))) ?_ (size_le (by omega)) fun i _ => ?_]
  rotate_left
  · walk_at "ev"
    exact rng1_nat (by omega)
  · walk_at "go"
    rw [Int.toNat_natCast, bitAnd1]
  walk_at "ev"
  rw [map_int, row_of_bits]
  refine forR_bind (fun i => [some (.tuple [.int (n : Nat), .tuple (ss.map CStep.d), .int (o : Nat)]), some (.int (r : Nat)), some (dL (valsI n (ss.take i) r)), none, none, none]) rfl (fun i x hx => ?_) ?_
  · obtain ⟨s, h1, rfl⟩ := enc_get hx
    have ok := hs i s h1
    have hi := (List.getElem?_eq_some_iff.mp h1).1
    have hv : (valsI n (ss.take i) r).length = n + i := by rw [vals_length, List.length_take]; omega
    have m4 := ok.m4
    have h01 := vals_01 (n := n) (ss := ss.take i) (r := r)
    unfold CStep.d
    walk_at "ev"
    rw [eComp_enc (α := Nat) (xs := List.range s.ws.length) (fun i => PyData.tuple [.int (i : Nat), .int (s.ws.getD i 0 : Nat)]) (fun j => .int ((s.ws.map fun k => (valsI n (ss.take i) r).getD k 0).getD j 0 * 2 ^ j)) ?_ (size_le (by rw [List.length_range, ok.len]; omega)) fun j hj => ?_]
    rotate_left
    · walk_at "ev"
      rw [enmD_tup, enum_dN]
    · have hj := List.mem_range.mp hj
      have hk := ok.lt s.ws[j] (List.getElem_mem hj)
      have hg : s.ws.getD j 0 = s.ws[j] := by rw [List.getD_eq_getElem?_getD, List.getElem?_eq_getElem hj]; rfl
      have ge := getD_01 h01 s.ws[j]
      walk_at "ev"
      rw [hg, getD_ix (by omega)]
      walk_at "ev"
      rw [gd_pos (show CPow _ _ from ⟨by omega, by have := ok.len; omega, by omega⟩), Int.toNat_natCast]
      rw [List.getD_eq_getElem?_getD (l := s.ws.map _), List.getElem?_map, List.getElem?_eq_getElem hj]
      rfl
    walk_at "ev"
    rw [map_int, sumD_ints]
    have e2 := sum_powers (s.ws.map fun k => (valsI n (ss.take i) r).getD k 0)
    rw [List.length_map] at e2
    rw [e2]
    have g0 : 0 ≤ gnum (s.ws.map fun k => (valsI n (ss.take i) r).getD k 0) := gnum_nonneg fun x hx => by
      obtain ⟨k, _, rfl⟩ := List.mem_map.mp hx
      rcases getD_01 h01 k with z | z <;> omega
    unfold dL
    walk_at "ev"
    rw [gd_pos g0]
    walk_at "ev"
    rw [gd_pos (size_le (by omega)), PyProof.Rows.bitAnd_m1]
    walk_at "ev"
    rw [steps_take h1, vals_snoc]
    unfold stepV
    rw [List.map_append]
    rfl
  · rw [List.length_map, List.take_length]
    walk_at "ev"
    rw [getD_ix (by rw [vals_length]; exact ho)]
    walk_at "ev"
theorem z_guard {C : ME} {Γ : Ev} {T : Str} (h : C Γ = .ok (.bool true)) : zSeq (sIf C sBad sNil) (zIf C (zSeq sBad (zRaise T) zNo) zNo) zNo Γ = .ok T := by
  have e : sIf C sBad sNil Γ = .bad := by rw [sIf_app, h]; rfl
  unfold zSeq zIf
  rw [e, h]
  rfl
noncomputable def vlI (n : Nat) (ss : List CStep) (o : Nat) : List Int := (List.range (2 ^ n)).map fun r => (valsI n ss r).getD o 0
theorem vlI_len {n o : Nat} {ss : List CStep} : (vlI n ss o).length = 2 ^ n := by unfold vlI; rw [List.length_map, List.length_range]
structure CirOk (n : Nat) (ss : List CStep) (o : Nat) : Prop where
  n4 : n ≤ 4
  st : StepsOk n ss
  le : ss.length ≤ 300
  lt : o < n + ss.length
  dp : (depW n ss).getD o 0 ≤ 20
theorem same_vals {n o o' : Nat} {ss ss' : List CStep} (h : Alike n ss o ss' o') : vlI n ss' o' = vlI n ss o := by
  unfold vlI
  exact List.map_congr_left fun r _ => h.same (fun _ b xs => bitI b (gnum xs)) 0 (bitsOf n r) (bitsOf_length n r)
theorem CirOk.alike {n o o' : Nat} {ss ss' : List CStep} (C : CirOk n ss o) (h : Alike n ss o ss' o') (hl : ss'.length ≤ 300) : CirOk n ss' o' :=
  ⟨C.n4, h.ok, hl, h.lt, by have := h.same (fun _ _ xs => 1 + maxL xs) 0 (List.replicate n 0) List.length_replicate; have := C.dp; unfold depW at *; omega⟩
theorem two_le {n : Nat} (h : n ≤ 4) : 2 ^ n ≤ 16 := Nat.pow_le_pow_right (by decide) h
theorem guard_val {n o : Nat} {ss : List CStep} (hn : n ≤ 100) (hs : StepsOk n ss) (hl : ss.length ≤ 5000) (ho : o < n + ss.length) :
    eBin gtD (eCall m_spread_size [(eVar 0)]) (eC (.int 300)) [some (dC n ss o), none, none] = .ok (.bool (decide (300 < (cntI n ss).getD o 0))) := by
  walk_at "ev"
  rw [p_size hn hs hl ho]
  walk_at "ev"
theorem big_m {n o : Nat} {ss : List CStep} (hn : n ≤ 100) (hs : StepsOk n ss) (hl : ss.length ≤ 5000) (ho : o < n + ss.length) (hb : 300 < (cntI n ss).getD o 0) : m_spread [dC n ss o] = .bad := by
  unfold m_spread
  walk_at "ev"
  rw [p_size hn hs hl ho]
  walk_at "ev"
  rw [decide_eq_true hb]
  walk_at "ev"
  rfl
theorem big_z {n o : Nat} {ss : List CStep} (hn : n ≤ 100) (hs : StepsOk n ss) (hl : ss.length ≤ 5000) (ho : o < n + ss.length) (hb : 300 < (cntI n ss).getD o 0) : z_spread [dC n ss o] = .ok "TooBig" := by
  have e := guard_val hn hs hl ho
  rw [decide_eq_true hb] at e
  unfold z_spread fnZ
  show zSeq (sIf (eBin gtD (eCall m_spread_size [(eVar 0)]) (eC (.int 300))) sBad sNil) (zIf (eBin gtD (eCall m_spread_size [(eVar 0)]) (eC (.int 300))) (zSeq sBad (zRaise "TooBig") zNo) zNo) zNo [some (dC n ss o), none, none] = _
  exact z_guard e
theorem sTryN_no {iy : Nat} {m1 : MS} {z : MZ} {Γ : Ev} {T : Str} (h1 : m1 Γ = .bad) (hz : z Γ = .ok T) (hi : iy < Γ.length) : sTryN iy m1 z Γ = .ok (.nx (Γ.set iy (some .none))) := by
  unfold sTryN
  rw [h1]
  show (z Γ).bind _ = _
  rw [hz]
  exact gd_pos hi
theorem sTryN_ok {iy : Nat} {m1 : MS} {z : MZ} {Γ Γ' : Ev} (h1 : m1 Γ = .ok (.nx Γ')) : sTryN iy m1 z Γ = .ok (.nx Γ') := by
  unfold sTryN
  rw [h1]
theorem zCall_ok {zf : List PyData → Res Str} {ms : List ME} {Γ : Ev} {ds : List PyData} {T : Str} (h : evs ms Γ = .ok ds) (hz : zf ds = .ok T) : zCall zf ms Γ = .ok T := by
  unfold zCall
  rw [h, Res.ok_bind, hz]
theorem l_spread {n o : Nat} {ss : List CStep} (C : CirOk n ss o) : ∃ (ss' : List CStep) (o' : Nat), m_law_spread [dC n ss o] = .ok (dC n ss' o') ∧ Alike n ss o ss' o' ∧ ss'.length ≤ 300 := by
  have hn := C.n4
  have hl := C.le
  have dp := C.dp
  unfold m_law_spread
  by_cases hc : 300 < (cntI n ss).getD o 0
  · refine ⟨ss, o, ?_, ⟨C.st, C.lt, fun _ _ _ _ => rfl⟩, hl⟩
    have eb : (sSet 1 (eCall m_spread [eVar 0])) [some (dC n ss o), some .none] = .bad := by
      walk_at "ev"
      rw [big_m (by omega) C.st (by omega) C.lt hc]
      walk_at "ev"
    have ez := big_z (by omega) C.st (by omega) C.lt hc
    have et : sTryN 1 (sSet 1 (eCall m_spread [eVar 0])) (zCall z_spread [eVar 0]) [some (dC n ss o), some PyData.none] = .ok (.nx [some (dC n ss o), some .none]) := sTryN_no eb (zCall_ok (ds := [dC n ss o]) (by walk_at "ev") ez) (of_decide_eq_true rfl)
    walk_at "ev"
    rw [et]
    walk_at "ev"
    rw [show isND .none .none = .ok (.bool true) from rfl]
    walk_at "ev"
  · obtain ⟨t, ss', o', e1, e2, e3, e4, e5⟩ := spread_alike C.st (by omega) (by omega) C.lt (by omega) hc
    refine ⟨ss', o', ?_, e4, e5⟩
    have et : sTryN 1 (sSet 1 (eCall m_spread [eVar 0])) (zCall z_spread [eVar 0]) [some (dC n ss o), some PyData.none] = .ok (.nx [some (dC n ss o), some t]) := sTryN_ok (by
      walk_at "ev"
      rw [e1]
      walk_at "ev")
    walk_at "ev"
    rw [et]
    walk_at "ev"
    rw [show isND t .none = .ok (.bool false) by show Res.ok (PyData.bool (isNn t)) = _; rw [e2]]
    walk_at "ev"
    rw [ixC0]
    walk_at "ev"
    rw [e3]
    walk_at "ev"
theorem l_ordered {r : Nat} {os : List Nat} (hl : os.length ≤ 4) : m_law_ordered [.int (r : Nat), .list (dN os)] = .ok (.int (gnum (os.map fun w => bitI (r : Nat) (w : Nat)))) := by
  unfold m_law_ordered
  walk_at "ev"
  rw [eComp_enc (α := Nat) (xs := List.range os.length) (fun i => PyData.tuple [.int (i : Nat), .int (os.getD i 0 : Nat)]) (fun j => .int ((os.map fun w => bitI (r : Nat) (w : Nat)).getD j 0 * 2 ^ j)) ?_ (size_le (by rw [List.length_range]; omega)) fun j hj => ?_]
  rotate_left
  · walk_at "ev"
    rw [enum_dN]
  · have hj := List.mem_range.mp hj
    walk_at "go"
    rw [Int.toNat_natCast, Int.toNat_natCast, bitAnd1, List.getD_eq_getElem?_getD (l := List.map _ _), List.getElem?_map, List.getD_eq_getElem?_getD, List.getElem?_eq_getElem hj]
    have := bitI_01 ((r : Nat) : Int) ((os[j] : Nat) : Int)
    exact gd_pos (show CPow _ _ from ⟨by omega, by omega, by show (bitI (r : Nat) (os[j] : Nat)).natAbs < _; omega⟩)
  walk_at "ev"
  rw [map_int, sumD_ints]
  have e2 := sum_powers (os.map fun w => bitI (r : Nat) (w : Nat))
  rw [List.length_map] at e2
  rw [e2]
  walk_at "ev"
theorem enum_dL {xs : List Int} : enumL (xs.map PyData.int) = (List.range xs.length).map fun i => PyData.tuple [.int (i : Nat), .int (xs.getD i 0)] := by
  unfold enumL
  rw [List.length_map]
  refine List.map_congr_left fun i hi => ?_
  have hi := List.mem_range.mp hi
  rw [List.getD_eq_getElem?_getD, List.getD_eq_getElem?_getD, List.getElem?_map, List.getElem?_eq_getElem hi]
  rfl
theorem l_joined {n o : Nat} {ss : List CStep} {os : List Nat} (C : CirOk n ss o) (ol : os.length = n) (olt : ∀ x ∈ os, x < n) : ∃ (ss' : List CStep) (o' : Nat), m_joined [dC n ss o, .list ((os.map wireP).map (Part.d n))] = .ok (dC n ss' o') ∧ CirOk n ss' o' ∧ ss'.length = ss.length ∧
    ∀ r, (valsI n ss' r).getD o' 0 = (valsI n ss (gnum (os.map fun w => bitI (r : Nat) (w : Nat))).toNat).getD o 0 := by
  have hn := C.n4
  have hl := C.le
  have hps : ∀ p ∈ os.map wireP, p.Ok n := fun p hp => by
    obtain ⟨w, hw, rfl⟩ := List.mem_map.mp hp
    exact ⟨StepsOk.nil, Nat.zero_le _, by show w < n + 0; exact olt w hw⟩
  have hk : (os.map wireP).length = n := by rw [List.length_map]; exact ol
  have hst := stP_wires (n := n) os olt
  have eS : joinS n n ss (os.map wireP) = ss.map (mv n n os) := by unfold joinS; rw [hst]; rfl
  have eO : joinO n n o (os.map wireP) = ren n n os o := by unfold joinO; rw [hst]; rfl
  obtain ⟨j1, j2, j3⟩ := joined_ok (n := n) C.st C.lt hps hk
  have jv := fun r => joined_val (n := n) (r := r) C.st C.lt hps hk
  rw [tot_wires] at j3
  rw [eS] at j1
  rw [eS, eO] at j2
  rw [eS] at j3
  have e0 : ∀ w, w < n → (List.replicate n 0).getD (os.getD w 0) 0 = (List.replicate n 0).getD w 0 := fun w hw => by
    have : os.getD w 0 < n := olt _ (n_mem (by omega))
    rw [List.getD_eq_getElem?_getD, List.getElem?_replicate_of_lt this, List.getD_eq_getElem?_getD, List.getElem?_replicate_of_lt hw]
  have dp : (depW n (ss.map (mv n n os))).getD (ren n n os o) 0 = (depW n ss).getD o 0 := mv_fold List.length_replicate ol olt e0 ss C.st o C.lt
  refine ⟨ss.map (mv n n os), ren n n os o, ?_, ⟨hn, j1, by omega, j2, by rw [dp]; exact C.dp⟩, by omega, fun r => ?_⟩
  · rcases Nat.eq_zero_or_pos n with hz | hp
    · subst hz
      have eo : os = [] := List.eq_nil_of_length_eq_zero ol
      subst eo
      have em : ss.map (mv 0 0 []) = ss := by
        rw [show (mv 0 0 [] : CStep → CStep) = id from funext fun s => by
          obtain ⟨m, b, ws⟩ := s
          show CStep.mk m b (ws.map (ren 0 0 [])) = _
          rw [show (ren 0 0 [] : Nat → Nat) = id from funext fun w => by unfold ren; rw [if_neg (Nat.not_lt_zero _)]; show 0 + (w - 0) = w; omega, List.map_id]
          rfl, List.map_id]
      rw [em, show ren 0 0 [] o = o by unfold ren; rw [if_neg (Nat.not_lt_zero _)]; omega]
      unfold m_joined
      walk_at "ev"
      rw [ixC1]
      walk_at "ev"
      rw [eComp_enc (xs := ([] : List Nat)) (fun w => PyData.int (w : Nat)) (fun w => PyData.int (w : Nat)) ?_ (size_le (by decide)) fun w hw => (nomatch hw)]
      · walk_at "ev"
        rw [show sumD [.list []] = .ok (.int 0) from rfl]
        walk_at "ev"
        rw [decide_eq_false (by omega)]
        walk_at "ev"
      · rfl
    · rw [p_joined (n := n) (by omega) (by omega) C.st (by omega) C.lt hps hk hp hn (by rw [tot_wires]; omega), eS, eO]
  · have := jv r
    rw [eS, eO] at this
    rw [this]
    congr 4
    rw [List.map_map]
    refine List.map_congr_left fun w hw => ?_
    show (bitsOf n r).getD w 0 = _
    rw [← row_of_bits, List.getD_eq_getElem?_getD, List.getElem?_map, List.getElem?_range (olt w hw)]
    rfl
theorem l_changed {n o : Nat} {ss : List CStep} (C : CirOk n ss o) (c : Int) : ∃ (ss' : List CStep) (o' : Nat) (mo : Int), m_law_changed [dC n ss o, dL (vlI n ss o), .int c] = .ok (.tuple [dC n ss' o', dL (vlI n ss' o'), .int mo]) ∧ CirOk n ss' o' ∧ ((ss'.length : Nat) : Int) ≤ mo := by
  have hn := C.n4
  have hl := C.le
  have h16 := two_le hn
  have vl := vlI_len (n := n) (o := o) (ss := ss)
  unfold m_law_changed
  walk_at "ev"
  rw [ixC0]
  walk_at "go"
  rw [bS_dec]
  by_cases h0 : c % 4 = 0
  · rw [if_pos (decide_eq_true h0)]
    obtain ⟨ss', o', e1, e2, e3⟩ := p_shared C.st (by omega) (by omega) C.lt
    refine ⟨ss', o', ((ss.length : Nat) : Int), ?_, C.alike e2 (by omega), by omega⟩
    rw [e1]
    walk_at "ev"
    rw [ixC1]
    walk_at "ev"
    rw [same_vals e2]
  rw [if_neg (by rw [decide_eq_true_eq]; exact h0)]
  walk_at "go"
  rw [bS_dec]
  by_cases h1 : c % 4 = 1
  · rw [if_pos (decide_eq_true h1)]
    refine ⟨ss.map turnS, o, ((ss.length : Nat) : Int), ?_, ⟨hn, turn_steps_ok C.st, by rw [List.length_map]; exact hl, by rw [List.length_map]; exact C.lt, by rw [dep_turn]; exact C.dp⟩, by rw [List.length_map]; omega⟩
    rw [p_turned_circuit C.st (by omega)]
    walk_at "ev"
    rw [vl, eComp_upN (n := 2 ^ n) (fun r => .int ((valsI n (ss.map turnS) r).getD o 0)) ?_ (size_le (by omega)) fun r hr => ?_]
    rotate_left
    · walk_at "ev"
      exact rng1_nat (by omega)
    · walk_at "ev"
      rw [show ((2 ^ n : Nat) : Int) - 1 - (r : Nat) = ((2 ^ n - 1 - r : Nat) : Nat) by omega, getD_ix (by omega)]
      walk_at "ev"
      rw [turn_vals hr ss C.st, getD_flip (by rw [vals_length]; exact C.lt)]
      unfold vlI
      rw [List.getD_eq_getElem?_getD (l := List.map _ _), List.getElem?_map, List.getElem?_range (by omega)]
      rfl
    walk_at "ev"
    rw [ixC1]
    walk_at "ev"
    rw [map_int]
    rfl
  rw [if_neg (by rw [decide_eq_true_eq]; exact h1)]
  walk_at "go"
  by_cases h2 : c % 4 = 2
  · rw [decide_eq_true h2]
    obtain ⟨os, eo, ol, olt⟩ : ∃ os : List Nat, eComp (itR1 (eVar 3)) (gN 0) (eC (PyData.bool true)) (eBin modD (eBin fdivD (eVar 1) (eBin addD (eC (PyData.int 4)) (eBin mulD (eC (PyData.int 3)) (eVar 0)))) (eVar 2)) 1 [2, 3]
        [some (dC n ss o), some (dL (vlI n ss o)), some (PyData.int c), some (PyData.int n), some (PyData.int (vlI n ss o).length), none, none, none] = .ok (.list (dN os)) ∧ os.length = n ∧ ∀ x ∈ os, x < n := by
      refine ⟨(List.range n).map fun i => (c / (4 + 3 * (i : Nat)) % n).toNat, ?_, by rw [List.length_map, List.length_range], fun x hx => ?_⟩
      · rw [eComp_upN (n := n) (fun i => .int ((c / (4 + 3 * (i : Nat)) % n).toNat : Nat)) ?_ (size_le (by omega)) fun i hi => ?_]
        · unfold dN
          rw [List.map_map]
          rfl
        · walk_at "ev"
          exact rng1_nat (by omega)
        · walk_at "go"
          rw [Int.toNat_of_nonneg (Int.emod_nonneg _ (by omega))]
      · obtain ⟨i, hi, rfl⟩ := List.mem_map.mp hx
        have := List.mem_range.mp hi
        have := Int.emod_lt_of_pos (c / (4 + 3 * (i : Nat))) (show (0 : Int) < n by omega)
        omega
    walk_at "ev"
    rw [eo]
    walk_at "ev"
    rw [eComp_enc (xs := os) (fun w => PyData.int (w : Nat)) (fun w => Part.d n (wireP w)) ?_ (size_le (by omega)) fun w hw => ?_]
    rotate_left
    · walk_at "ev"
      rfl
    · walk_at "ev"
      rfl
    walk_at "ev"
    have rl : ∀ r, r < 2 ^ n → gnum (os.map fun w => bitI (r : Nat) (w : Nat)) = ((gnum (os.map fun w => bitI (r : Nat) (w : Nat))).toNat : Nat) ∧ (gnum (os.map fun w => bitI (r : Nat) (w : Nat))).toNat < 2 ^ n := fun r hr => by
      have h01 : All01 (os.map fun w => bitI (r : Nat) (w : Nat)) := fun x hx => by obtain ⟨w, _, rfl⟩ := List.mem_map.mp hx; exact bitI_01 _ _
      have g0 := gnum_nonneg fun x hx => by rcases h01 x hx with z | z <;> omega
      have g1 := gnum_lt h01
      rw [List.length_map, ol, show ((2 : Int) ^ n) = ((2 ^ n : Nat) : Int) from (Int.natCast_pow 2 n).symm] at g1
      generalize gnum (os.map fun w => bitI (r : Nat) (w : Nat)) = g at g0 g1
      omega
    rw [vl, eComp_upN (n := 2 ^ n) (fun r => .int ((vlI n ss o).getD (gnum (os.map fun w => bitI (r : Nat) (w : Nat))).toNat 0)) ?_ (size_le (by omega)) fun r hr => ?_]
    rotate_left
    · walk_at "ev"
      exact rng1_nat (by omega)
    · walk_at "ev"
      rw [l_ordered (by omega)]
      walk_at "ev"
      rw [(rl r hr).1, getD_ix (by rw [vl]; exact (rl r hr).2), Int.toNat_natCast]
    walk_at "ev"
    obtain ⟨ss', o', e1, e2, e3, e4⟩ := l_joined C ol olt
    refine ⟨ss', o', ((ss.length : Nat) : Int), ?_, e2, by omega⟩
    rw [List.map_map] at e1
    rw [show m_joined [dC n ss o, .list (os.map fun w => Part.d n (wireP w))] = .ok (dC n ss' o') from e1]
    walk_at "ev"
    rw [ixC1]
    walk_at "ev"
    have ev : vlI n ss' o' = (List.range (2 ^ n)).map fun r => (vlI n ss o).getD (gnum (os.map fun w => bitI (r : Nat) (w : Nat))).toNat 0 := List.map_congr_left fun r hr => by
      rw [e4 r]
      unfold vlI
      rw [List.getD_eq_getElem?_getD (l := List.map _ _), List.getElem?_map, List.getElem?_range (rl r (List.mem_range.mp hr)).2]
      rfl
    rw [map_int, ev]
    rfl
  · rw [decide_eq_false h2]
    obtain ⟨ss', o', e1, e2, e3⟩ := l_spread C
    refine ⟨ss', o', 300 + ((ss.length : Nat) : Int), ?_, C.alike e2 e3, by omega⟩
    walk_at "ev"
    rw [e1]
    walk_at "ev"
    rw [ixC1]
    walk_at "ev"
    rw [same_vals e2]
theorem main (ns : List Int) (h : ns.length ≤ 63) : m_law [.list (ns.map PyData.int)] = .ok (.bool true) := by
  show m_law [dL ns] = _
  unfold m_law
  obtain ⟨c0, e0⟩ := l_cell ns h (k := 0) (by decide)
  rw [show ((0 : Nat) : Int) = 0 from rfl] at e0
  obtain ⟨n, en, hn⟩ := modN c0 (m := 5) (by decide)
  have hn : n ≤ 4 := by omega
  walk_at "ev"
  rw [e0]
  walk_at "go"
  rw [en]
  obtain ⟨ss, o, ec, hs, hl, ho⟩ := l_circuit ns h (a := 1) (n := n) (k := 12) (by decide) hn (by decide)
  rw [show m_law_circuit [dL ns, .int 1, .int (n : Nat), .int 12] = .ok (dC n ss o) from ec]
  have C : CirOk n ss o := ⟨hn, hs, by omega, ho, by have := dep_le ss hs o ho; omega⟩
  have h16 := two_le hn
  walk_at "ev"
  rw [eComp_upN (n := 2 ^ n) (fun r => .int ((valsI n ss r).getD o 0)) ?_ (size_le (by omega)) fun r hr => ?_]
  rotate_left
  · walk_at "go"
    rw [ixC0]
    walk_at "go"
    rw [Int.toNat_natCast, Int.one_mul, show ((2 : Int) ^ n) = ((2 ^ n : Nat) : Int) from (Int.natCast_pow 2 n).symm]
    exact rng1_nat (by omega)
  · walk_at "ev"
    rw [l_out hn hs (by omega) ho]
  walk_at "ev"
  rw [map_int]
  obtain ⟨c50, e50⟩ := l_cell ns h (k := 50) (by decide)
  rw [show ((50 : Nat) : Int) = 50 from rfl] at e50
  rw [e50]
  walk_at "go"
  obtain ⟨q, eq, hq⟩ := modN c50 (m := 11) (by decide)
  rw [eq, show (2 : Int) + (q : Nat) = ((2 + q : Nat) : Nat) by omega, rng1_nat (by omega)]
  walk_at "ev"
  refine forR_binv (fun i Γ => ∃ (ss : List CStep) (o : Nat), CirOk n ss o ∧ Γ = [some (dL ns), some (dC n ss o), some (dL (vlI n ss o)), none, none]) ⟨ss, o, C, rfl⟩ (fun i x Γ hx hI => ?_) (fun Γ hI => ?_)
  · clear ec hs hl ho C ss o
    obtain ⟨ss, o, C, rfl⟩ := hI
    obtain ⟨hi, rfl⟩ := upN_get hx
    walk_at "ev"
    obtain ⟨c, ecl⟩ := l_cell ns h (k := 20 + i) (by omega)
    rw [show (20 : Int) + (i : Nat) = ((20 + i : Nat) : Nat) by omega, ecl]
    walk_at "ev"
    obtain ⟨ss', o', mo, e1, C', hm⟩ := l_changed C c
    rw [e1]
    have hl' := C'.le
    walk_at "ev"
    rw [p_is_circuit, circB_ok hn C'.st (by omega) C'.lt]
    walk_at "ev"
    rw [show notBD (.bool true) (.bool true) = .ok (.bool false) from rfl]
    walk_at "ev"
    rw [ixC1]
    walk_at "ev"
    rw [decide_eq_false (by omega)]
    walk_at "ev"
    rw [eComp_upN (n := 2 ^ n) (fun r => .int ((valsI n ss' r).getD o' 0)) ?_ (size_le (by omega)) fun r hr => ?_]
    rotate_left
    · walk_at "ev"
      rw [vlI_len]
      exact rng1_nat (by omega)
    · walk_at "ev"
      rw [l_out hn C'.st (by omega) C'.lt]
    walk_at "ev"
    rw [map_int, show neD (.list (((List.range (2 ^ n)).map fun r => (valsI n ss' r).getD o' 0).map PyData.int)) (dL (vlI n ss' o')) = .ok (.bool false) from by
      have := neD_dL (a := vlI n ss' o') (b := vlI n ss' o')
      rw [decide_eq_true rfl] at this
      exact this]
    walk_at "ev"
    exact ⟨ss', o', C', rfl⟩
  · clear ec hs hl ho C ss o
    obtain ⟨ss, o, C, rfl⟩ := hI
    have hl := C.le
    walk_at "ev"
    rw [p_gate_of hn C.st (by omega) C.lt]
    rw [ixC0]
    walk_at "ev"
    rw [eComp_enc (α := Nat) (xs := List.range (2 ^ n)) (fun i => PyData.tuple [.int (i : Nat), .int ((vlI n ss o).getD i 0)]) (fun j => .int ((vlI n ss o).getD j 0 * 2 ^ j)) ?_ (size_le (by rw [List.length_range]; omega)) fun j hj => ?_]
    rotate_left
    · walk_at "ev"
      rw [← vlI_len (n := n) (ss := ss) (o := o)]
      exact congrArg Res.ok enum_dL
    · have hj := List.mem_range.mp hj
      walk_at "go"
      rw [Int.toNat_natCast]
      have h01 : All01 (vlI n ss o) := fun x hx => by
        obtain ⟨r, _, rfl⟩ := List.mem_map.mp hx
        exact getD_01 vals_01 _
      have := getD_01 h01 j
      exact gd_pos (show CPow _ _ from ⟨by omega, by omega, by omega⟩)
    walk_at "ev"
    rw [map_int, sumD_ints]
    have e2 := sum_powers (vlI n ss o)
    rw [vlI_len] at e2
    rw [e2]
    walk_at "ev"
    have e3 : gnum (vlI n ss o) = (wiresI n ss).getD o 0 := wires_tab.symm
    rw [e3, show eqD (dG n ((wiresI n ss).getD o 0)) (.tuple [.int (n : Nat), .int ((wiresI n ss).getD o 0)]) = .ok (.bool true) from eqD_same plain_dG depth_dG]
    rfl
end Law
namespace Law
open PySem PySem.Spec PyProof.Rows L2 L3 Prog
noncomputable def top (i : Nat) : Stmt := PySem.Challenge.pw_gatekin_k19_whole_said_alike.main.body.getD i (.Pass ⟨0, 0, 0, 0⟩)
noncomputable abbrev s_is_whole : Stmt := top 2
noncomputable abbrev s_is_below : Stmt := top 3
noncomputable abbrev s_is_tuple : Stmt := top 4
noncomputable abbrev s_row_count : Stmt := top 5
noncomputable abbrev s_table_limit : Stmt := top 6
noncomputable abbrev s_full_table : Stmt := top 7
noncomputable abbrev s_is_gate : Stmt := top 8
noncomputable abbrev s_bit : Stmt := top 9
noncomputable abbrev s_number_of : Stmt := top 10
noncomputable abbrev s_input_table : Stmt := top 11
noncomputable abbrev s_input_tables : Stmt := top 12
noncomputable abbrev s_put_all : Stmt := top 13
noncomputable abbrev s_put : Stmt := top 14
noncomputable abbrev s_turned : Stmt := top 15
noncomputable abbrev s_is_step : Stmt := top 18
noncomputable abbrev s_is_circuit : Stmt := top 19
noncomputable abbrev s_wires : Stmt := top 20
noncomputable abbrev s_gate_of : Stmt := top 21
noncomputable abbrev s_renamed : Stmt := top 26
noncomputable abbrev s_add_circuit : Stmt := top 27
noncomputable abbrev s_joined : Stmt := top 28
noncomputable abbrev s_without_doubles : Stmt := top 29
noncomputable abbrev s_used_wires : Stmt := top 30
noncomputable abbrev s_without_unused : Stmt := top 31
noncomputable abbrev s_shared : Stmt := top 32
noncomputable abbrev s_turned_circuit : Stmt := top 33
noncomputable abbrev s_spread_size : Stmt := top 36
noncomputable abbrev s_spread : Stmt := top 37
noncomputable abbrev s_add_tree : Stmt := top 38
noncomputable abbrev s_tree_circuit : Stmt := top 39
noncomputable abbrev s_law_cell_at : Stmt := top 41
noncomputable abbrev s_law_gate : Stmt := top 42
noncomputable abbrev s_law_circuit : Stmt := top 43
noncomputable abbrev s_law_out : Stmt := top 44
noncomputable abbrev s_law_ordered : Stmt := top 45
noncomputable abbrev s_law_spread : Stmt := top 46
noncomputable abbrev s_law_changed : Stmt := top 47
noncomputable abbrev s_law : Stmt := top 48
theorem sc_is_whole : FnScope ["thing"] ["thing"] (defScope s_is_whole) := ⟨rfl, rfl, rfl, by decide +kernel, rfl, by decide +kernel, by decide +kernel⟩
theorem sc_is_below : FnScope ["thing", "bound"] ["thing", "bound"] (defScope s_is_below) := ⟨rfl, rfl, rfl, by decide +kernel, rfl, by decide +kernel, by decide +kernel⟩
theorem sc_is_tuple : FnScope ["thing", "length"] ["thing", "length"] (defScope s_is_tuple) := ⟨rfl, rfl, rfl, by decide +kernel, rfl, by decide +kernel, by decide +kernel⟩
theorem sc_row_count : FnScope ["inputs", "count", "j"] ["inputs"] (defScope s_row_count) := ⟨rfl, rfl, rfl, by decide +kernel, rfl, by decide +kernel, by decide +kernel⟩
theorem sc_table_limit : FnScope ["inputs", "limit", "j"] ["inputs"] (defScope s_table_limit) := ⟨rfl, rfl, rfl, by decide +kernel, rfl, by decide +kernel, by decide +kernel⟩
theorem sc_full_table : FnScope ["inputs"] ["inputs"] (defScope s_full_table) := ⟨rfl, rfl, rfl, by decide +kernel, rfl, by decide +kernel, by decide +kernel⟩
theorem sc_is_gate : FnScope ["thing"] ["thing"] (defScope s_is_gate) := ⟨rfl, rfl, rfl, by decide +kernel, rfl, by decide +kernel, by decide +kernel⟩
theorem sc_bit : FnScope ["number", "place"] ["number", "place"] (defScope s_bit) := ⟨rfl, rfl, rfl, by decide +kernel, rfl, by decide +kernel, by decide +kernel⟩
theorem sc_number_of : FnScope ["figures", "number", "figure"] ["figures"] (defScope s_number_of) := ⟨rfl, rfl, rfl, by decide +kernel, rfl, by decide +kernel, by decide +kernel⟩
theorem sc_input_table : FnScope ["inputs", "j"] ["inputs", "j"] (defScope s_input_table) := ⟨rfl, rfl, rfl, by decide +kernel, rfl, by decide +kernel, by decide +kernel⟩
theorem sc_input_tables : FnScope ["inputs"] ["inputs"] (defScope s_input_tables) := ⟨rfl, rfl, rfl, by decide +kernel, rfl, by decide +kernel, by decide +kernel⟩
theorem sc_put_all : FnScope ["gate", "numbers", "full", "given", "number"] ["gate", "numbers", "full"] (defScope s_put_all) := ⟨rfl, rfl, rfl, by decide +kernel, rfl, by decide +kernel, by decide +kernel⟩
theorem sc_put : FnScope ["gate", "tables", "inputs"] ["gate", "tables", "inputs"] (defScope s_put) := ⟨rfl, rfl, rfl, by decide +kernel, rfl, by decide +kernel, by decide +kernel⟩
theorem sc_turned : FnScope ["gate", "inputs", "full", "exchanged"] ["gate"] (defScope s_turned) := ⟨rfl, rfl, rfl, by decide +kernel, rfl, by decide +kernel, by decide +kernel⟩
theorem sc_is_step : FnScope ["thing", "bound", "gate"] ["thing", "bound"] (defScope s_is_step) := ⟨rfl, rfl, rfl, by decide +kernel, rfl, by decide +kernel, by decide +kernel⟩
theorem sc_is_circuit : FnScope ["thing", "inputs", "steps", "s", "step"] ["thing"] (defScope s_is_circuit) := ⟨rfl, rfl, rfl, by decide +kernel, rfl, by decide +kernel, by decide +kernel⟩
theorem sc_wires : FnScope ["circuit", "inputs", "tables", "step"] ["circuit"] (defScope s_wires) := ⟨rfl, rfl, rfl, by decide +kernel, rfl, by decide +kernel, by decide +kernel⟩
theorem sc_gate_of : FnScope ["circuit"] ["circuit"] (defScope s_gate_of) := ⟨rfl, rfl, rfl, by decide +kernel, rfl, by decide +kernel, by decide +kernel⟩
theorem sc_renamed : FnScope ["step", "names"] ["step", "names"] (defScope s_renamed) := ⟨rfl, rfl, rfl, by decide +kernel, rfl, by decide +kernel, by decide +kernel⟩
theorem sc_add_circuit : FnScope ["steps", "inputs", "circuit", "starts", "names", "step"] ["steps", "inputs", "circuit", "starts"] (defScope s_add_circuit) := ⟨rfl, rfl, rfl, by decide +kernel, rfl, by decide +kernel, by decide +kernel⟩
theorem sc_joined : FnScope ["circuit", "parts", "inputs", "steps", "outs", "part", "out"] ["circuit", "parts"] (defScope s_joined) := ⟨rfl, rfl, rfl, by decide +kernel, rfl, by decide +kernel, by decide +kernel⟩
theorem sc_without_doubles : FnScope ["circuit", "inputs", "names", "steps", "stayed", "old", "step"] ["circuit"] (defScope s_without_doubles) := ⟨rfl, rfl, rfl, by decide +kernel, rfl, by decide +kernel, by decide +kernel⟩
theorem sc_used_wires : FnScope ["circuit", "inputs", "steps", "used", "s", "wire"] ["circuit"] (defScope s_used_wires) := ⟨rfl, rfl, rfl, by decide +kernel, rfl, by decide +kernel, by decide +kernel⟩
theorem sc_without_unused : FnScope ["circuit", "inputs", "used", "names", "j", "steps", "s", "step"] ["circuit"] (defScope s_without_unused) := ⟨rfl, rfl, rfl, by decide +kernel, rfl, by decide +kernel, by decide +kernel⟩
theorem sc_shared : FnScope ["circuit"] ["circuit"] (defScope s_shared) := ⟨rfl, rfl, rfl, by decide +kernel, rfl, by decide +kernel, by decide +kernel⟩
theorem sc_turned_circuit : FnScope ["circuit", "steps"] ["circuit"] (defScope s_turned_circuit) := ⟨rfl, rfl, rfl, by decide +kernel, rfl, by decide +kernel, by decide +kernel⟩
theorem sc_spread_size : FnScope ["circuit", "sizes", "step"] ["circuit"] (defScope s_spread_size) := ⟨rfl, rfl, rfl, by decide +kernel, rfl, by decide +kernel, by decide +kernel⟩
theorem sc_spread : FnScope ["circuit", "trees", "step"] ["circuit"] (defScope s_spread) := ⟨rfl, rfl, rfl, by decide +kernel, rfl, by decide +kernel, by decide +kernel⟩
theorem sc_add_tree : FnScope ["steps", "inputs", "tree", "ends", "part"] ["steps", "inputs", "tree"] (defScope s_add_tree) := ⟨rfl, rfl, rfl, by decide +kernel, rfl, by decide +kernel, by decide +kernel⟩
theorem sc_tree_circuit : FnScope ["tree", "inputs", "steps", "out"] ["tree", "inputs"] (defScope s_tree_circuit) := ⟨rfl, rfl, rfl, by decide +kernel, rfl, by decide +kernel, by decide +kernel⟩
theorem sc_law_cell_at : FnScope ["_law_script", "_law_k"] ["_law_script", "_law_k"] (defScope s_law_cell_at) := ⟨rfl, rfl, rfl, by decide +kernel, rfl, by decide +kernel, by decide +kernel⟩
theorem sc_law_gate : FnScope ["_law_cell", "_law_inputs", "_law_some"] ["_law_cell"] (defScope s_law_gate) := ⟨rfl, rfl, rfl, by decide +kernel, rfl, by decide +kernel, by decide +kernel⟩
theorem sc_law_circuit : FnScope ["_law_script", "_law_start", "_law_inputs", "_law_most", "_law_steps", "_law_k", "_law_cell", "_law_gate_here", "_law_some", "_law_j", "_law_beyond", "_law_out_here"] ["_law_script", "_law_start", "_law_inputs", "_law_most"] (defScope s_law_circuit) := ⟨rfl, rfl, rfl, by decide +kernel, rfl, by decide +kernel, by decide +kernel⟩
theorem sc_law_out : FnScope ["_law_circuit_here", "_law_row", "_law_found", "_law_gate_here", "_law_some", "_law_at"] ["_law_circuit_here", "_law_row"] (defScope s_law_out) := ⟨rfl, rfl, rfl, by decide +kernel, rfl, by decide +kernel, by decide +kernel⟩
theorem sc_law_ordered : FnScope ["_law_row", "_law_order"] ["_law_row", "_law_order"] (defScope s_law_ordered) := ⟨rfl, rfl, rfl, by decide +kernel, rfl, by decide +kernel, by decide +kernel⟩
theorem sc_law_spread : FnScope ["_law_circuit_here", "_law_found"] ["_law_circuit_here"] (defScope s_law_spread) := ⟨rfl, rfl, rfl, by decide +kernel, rfl, by decide +kernel, by decide +kernel⟩
theorem sc_law_changed : FnScope ["_law_circuit_here", "_law_values", "_law_cell", "_law_inputs", "_law_rows", "_law_order", "_law_parts", "_law_later"] ["_law_circuit_here", "_law_values", "_law_cell"] (defScope s_law_changed) := ⟨rfl, rfl, rfl, by decide +kernel, rfl, by decide +kernel, by decide +kernel⟩
theorem sc_law : FnScope ["_law_script", "_law_circuit_here", "_law_values", "_law_k", "_law_most"] ["_law_script"] (defScope s_law) := ⟨rfl, rfl, rfl, by decide +kernel, rfl, by decide +kernel, by decide +kernel⟩
section
variable {P : Program} {w : World} {K : PySem.W.Frag} {mg : Str → Option Value} {base : Heap}
theorem ok_is_whole (F : At K mg "is_whole" s_is_whole ["thing"]) (z_bool : mg "bool" = none) (z_int : mg "int" = none) (z_isinstance : mg "isinstance" = none) : Def P w K mg base 1 "is_whole" ["thing"] (spF K [.bor] .f m_is_whole) :=
  def_ok (N := ["thing"]) (fs := [.bor]) (O := [.bor]) (O' := []) (Ol := []) (rm := .f) F sc_is_whole rfl (by decide) (by decide) fun f cdv A outer s H E hr =>
  (ss_one (ss_ret (se_and (se_isi isi_int rfl z_isinstance (sp_var 0) (pe_ty rfl z_int (show bootBuiltins "int" = some (.type "int") by decide +kernel))) (se_one (se_not (se_isi isi_bool rfl z_isinstance (sp_var 0) (pe_ty rfl z_bool (show bootBuiltins "bool" = some (.type "bool") by decide +kernel))))))))
theorem ok_is_below (F : At K mg "is_below" s_is_below ["thing", "bound"]) (d_is_whole : Def P w K mg base 1 "is_whole" ["thing"] (spF K [.bor] .f m_is_whole)) : Def P w K mg base 2 "is_below" ["thing", "bound"] (spF K [.bor, .bor] .f m_is_below) :=
  def_ok (N := ["thing", "bound"]) (fs := [.bor, .bor]) (O := [.bor, .bor]) (O' := []) (Ol := []) (rm := .f) F sc_is_below rfl (by decide) (by decide) fun f cdv A outer s H E hr =>
  (ss_one (ss_ret (se_and (se_call d_is_whole (hr.mono (by decide)) rfl (sa_bor (sp_var 0) sa_nil)) (se_one (se_chain od_le od_lt (sp se_int) (sp_var 0) (sp_var 1))))))
theorem ok_is_tuple (F : At K mg "is_tuple" s_is_tuple ["thing", "length"]) (z_isinstance : mg "isinstance" = none) (z_len : mg "len" = none) (z_tuple : mg "tuple" = none) : Def P w K mg base 1 "is_tuple" ["thing", "length"] (spF K [.bor, .bor] .f m_is_tuple) :=
  def_ok (N := ["thing", "length"]) (fs := [.bor, .bor]) (O := [.bor, .bor]) (O' := []) (Ol := []) (rm := .f) F sc_is_tuple rfl (by decide) (by decide) fun f cdv A outer s H E hr =>
  (ss_one (ss_ret (se_and (se_isi isi_tuple rfl z_isinstance (sp_var 0) (pe_ty rfl z_tuple (show bootBuiltins "tuple" = some (.type "tuple") by decide +kernel))) (se_one (se_cmp (od_eq hr.units) (sp (se_callB cd_len rfl z_len (show bootBuiltins "len" = some (.builtin "len") by decide +kernel) (sa_bor (sp_var 0) sa_nil))) (sp_var 1) (nomark _))))))
theorem ok_row_count (F : At K mg "row_count" s_row_count ["inputs"]) (z_range : mg "range" = none) : Def P w K mg base 1 "row_count" ["inputs"] (spF K [.bor] .f m_row_count) :=
  def_ok (N := ["inputs", "count", "j"]) (fs := [.bor]) (O := [.bor, .imm, .imm]) (O' := []) (Ol := []) (rm := .f) F sc_row_count rfl (by decide) (by decide) fun f cdv A outer s H E hr =>
  (ss_cons (O1 := [.bor, .imm, .imm]) (ss_set 1 sc_row_count.nd rfl (Or.inl rfl) se_int)
    (ss_cons (O1 := [.bor, .imm, .imm]) (ss_for PassesOwn.never rfl [2] (Oe := [.bor, .imm, .imm]) (si_range1 rfl z_range (sp_var 0)) (sg_name 2 sc_row_count.nd rfl (Or.inl rfl)) (ss_one (ss_set 1 sc_row_count.nd rfl (Or.inl rfl) (se_bin od_mul (sp se_int) (sp_var 1)))) (by decide))
    (ss_one (ss_ret (se_var 1)))))
theorem ok_table_limit (F : At K mg "table_limit" s_table_limit ["inputs"]) (z_range : mg "range" = none) : Def P w K mg base 1 "table_limit" ["inputs"] (spF K [.bor] .f m_table_limit) :=
  def_ok (N := ["inputs", "limit", "j"]) (fs := [.bor]) (O := [.bor, .imm, .imm]) (O' := []) (Ol := []) (rm := .f) F sc_table_limit rfl (by decide) (by decide) fun f cdv A outer s H E hr =>
  (ss_cons (O1 := [.bor, .imm, .imm]) (ss_set 1 sc_table_limit.nd rfl (Or.inl rfl) se_int)
    (ss_cons (O1 := [.bor, .imm, .imm]) (ss_for PassesOwn.never rfl [2] (Oe := [.bor, .imm, .imm]) (si_range1 rfl z_range (sp_var 0)) (sg_name 2 sc_table_limit.nd rfl (Or.inl rfl)) (ss_one (ss_set 1 sc_table_limit.nd rfl (Or.inl rfl) (se_bin od_mul (sp_var 1) (sp_var 1)))) (by decide))
    (ss_one (ss_ret (se_var 1)))))
theorem ok_full_table (F : At K mg "full_table" s_full_table ["inputs"]) (d_table_limit : Def P w K mg base 1 "table_limit" ["inputs"] (spF K [.bor] .f m_table_limit)) : Def P w K mg base 2 "full_table" ["inputs"] (spF K [.bor] .f m_full_table) :=
  def_ok (N := ["inputs"]) (fs := [.bor]) (O := [.bor]) (O' := []) (Ol := []) (rm := .f) F sc_full_table rfl (by decide) (by decide) fun f cdv A outer s H E hr =>
  (ss_one (ss_ret (se_bin od_sub (sp (se_call d_table_limit (hr.mono (by decide)) rfl (sa_bor (sp_var 0) sa_nil))) (sp se_int))))
theorem ok_is_gate (F : At K mg "is_gate" s_is_gate ["thing"]) (d_is_tuple : Def P w K mg base 1 "is_tuple" ["thing", "length"] (spF K [.bor, .bor] .f m_is_tuple)) (d_is_below : Def P w K mg base 2 "is_below" ["thing", "bound"] (spF K [.bor, .bor] .f m_is_below)) (d_table_limit : Def P w K mg base 1 "table_limit" ["inputs"] (spF K [.bor] .f m_table_limit)) {v_MOST_INPUTS : Value} (g_MOST_INPUTS : mg "MOST_INPUTS" = some v_MOST_INPUTS) (r_MOST_INPUTS : RelV (.int 4) v_MOST_INPUTS) : Def P w K mg base 3 "is_gate" ["thing"] (spF K [.bor] .f m_is_gate) :=
  def_ok (N := ["thing"]) (fs := [.bor]) (O := [.bor]) (O' := []) (Ol := []) (rm := .f) F sc_is_gate rfl (by decide) (by decide) fun f cdv A outer s H E hr =>
  (ss_one (ss_ret (se_and (se_call d_is_tuple (hr.mono (by decide)) rfl (sa_bor (sp_var 0) (sa_bor (sp se_int) sa_nil))) (se_and (se_call d_is_below (hr.mono (by decide)) rfl (sa_bor (sp (se_ix (sp_var 0) (sp se_int) (fun _ _ => rfl))) (sa_bor (sp (se_bin od_add (sp (se_glob rfl g_MOST_INPUTS r_MOST_INPUTS (fun _ => Rp.int.mpr rfl))) (sp se_int))) sa_nil))) (se_one (se_call d_is_below (hr.mono (by decide)) rfl (sa_bor (sp (se_ix (sp_var 0) (sp se_int) (fun _ _ => rfl))) (sa_bor (sp (se_call d_table_limit (hr.mono (by decide)) rfl (sa_bor (sp (se_ix (sp_var 0) (sp se_int) (fun _ _ => rfl))) sa_nil))) sa_nil))))))))
theorem ok_bit (F : At K mg "bit" s_bit ["number", "place"]) : Def P w K mg base 1 "bit" ["number", "place"] (spF K [.bor, .bor] .f m_bit) :=
  def_ok (N := ["number", "place"]) (fs := [.bor, .bor]) (O := [.bor, .bor]) (O' := []) (Ol := []) (rm := .f) F sc_bit rfl (by decide) (by decide) fun f cdv A outer s H E hr =>
  (ss_one (ss_ret (se_bin od_and (sp (se_bin od_shr (sp_var 0) (sp_var 1))) (sp se_int))))
theorem ok_number_of (F : At K mg "number_of" s_number_of ["figures"]) (z_reversed : mg "reversed" = none) : Def P w K mg base 1 "number_of" ["figures"] (spF K [.bor] .f m_number_of) :=
  def_ok (N := ["figures", "number", "figure"]) (fs := [.bor]) (O := [.bor, .imm, .imm]) (O' := []) (Ol := []) (rm := .f) F sc_number_of rfl (by decide) (by decide) fun f cdv A outer s H E hr =>
  (ss_cons (O1 := [.bor, .imm, .imm]) (ss_set 1 sc_number_of.nd rfl (Or.inl rfl) se_int)
    (ss_cons (O1 := [.bor, .imm, .imm]) (ss_for PassesOwn.never rfl [2] (Oe := [.bor, .imm, .imm]) (si_rev rfl z_reversed (sq_var 0)) (sg_name 2 sc_number_of.nd rfl (Or.inl rfl)) (ss_one (ss_set 1 sc_number_of.nd rfl (Or.inl rfl) (se_bin od_add (sp (se_bin od_mul (sp se_int) (sp_var 1))) (sp_var 2)))) (by decide))
    (ss_one (ss_ret (se_var 1)))))
theorem ok_input_table (F : At K mg "input_table" s_input_table ["inputs", "j"]) (d_number_of : Def P w K mg base 1 "number_of" ["figures"] (spF K [.bor] .f m_number_of)) (d_bit : Def P w K mg base 1 "bit" ["number", "place"] (spF K [.bor, .bor] .f m_bit)) (d_row_count : Def P w K mg base 1 "row_count" ["inputs"] (spF K [.bor] .f m_row_count)) (z_range : mg "range" = none) : Def P w K mg base 2 "input_table" ["inputs", "j"] (spF K [.bor, .bor] .f m_input_table) :=
  def_ok (N := ["inputs", "j"]) (fs := [.bor, .bor]) (O := [.bor, .bor]) (O' := []) (Ol := []) (rm := .f) F sc_input_table rfl (by decide) (by decide) fun f cdv A outer s H E hr =>
  (ss_one (ss_ret (se_call d_number_of (hr.mono (by decide)) rfl (sa_bor (sfp (sf_comp ["row"] [1] (Ob := [.imm, .bor]) (O1 := [.imm, .bor]) (is := [0]) rfl rfl rfl rfl (by decide) (sc_range1 rfl z_range (sp (se_call d_row_count (hr.mono (by decide)) rfl (sa_bor (sp_var 0) sa_nil)))) (fun _ _ _ _ _ => (sg_name 0 (show List.Nodup (["row", "j"] : List Str) by decide +kernel) rfl (Or.inl rfl))) (fun _ _ _ _ _ => sifs_nil) (fun _ _ _ _ _ => (se_call d_bit (hr.mono (by decide)) rfl (sa_bor (sp_var 0) (sa_bor (sp_var 1) sa_nil)))))) sa_nil))))
theorem ok_input_tables (F : At K mg "input_tables" s_input_tables ["inputs"]) (d_input_table : Def P w K mg base 2 "input_table" ["inputs", "j"] (spF K [.bor, .bor] .f m_input_table)) (z_range : mg "range" = none) : Def P w K mg base 3 "input_tables" ["inputs"] (spF K [.bor] .t m_input_tables) :=
  def_ok (N := ["inputs"]) (fs := [.bor]) (O := [.bor]) (O' := []) (Ol := []) (rm := .t) F sc_input_tables rfl (by decide) (by decide) fun f cdv A outer s H E hr =>
  (ss_one (ss_retF (sf_comp ["j"] [0] (Ob := [.imm, .bor]) (O1 := [.imm, .bor]) (is := [0]) rfl rfl rfl rfl (by decide) (sc_range1 rfl z_range (sp_var 0)) (fun _ _ _ _ _ => (sg_name 0 (show List.Nodup (["j", "inputs"] : List Str) by decide +kernel) rfl (Or.inl rfl))) (fun _ _ _ _ _ => sifs_nil) (fun _ _ _ _ _ => (se_call d_input_table (hr.mono (by decide)) rfl (sa_bor (sp_var 1) (sa_bor (sp_var 0) sa_nil)))))))
theorem ok_put_all (F : At K mg "put_all" s_put_all ["gate", "numbers", "full"]) (d_bit : Def P w K mg base 1 "bit" ["number", "place"] (spF K [.bor, .bor] .f m_bit)) (d_row_count : Def P w K mg base 1 "row_count" ["inputs"] (spF K [.bor] .f m_row_count)) (z_len : mg "len" = none) (z_range : mg "range" = none) : Def P w K mg base 2 "put_all" ["gate", "numbers", "full"] (spF K [.bor, .bor, .bor] .f m_put_all) :=
  def_ok (N := ["gate", "numbers", "full", "given", "number"]) (fs := [.bor, .bor, .bor]) (O := [.bor, .bor, .bor, .imm, .imm]) (O' := []) (Ol := []) (rm := .f) F sc_put_all rfl (by decide) (by decide) fun f cdv A outer s H E hr =>
  (ss_cons (O1 := [.bor, .bor, .bor, .imm, .imm]) (ss_set 3 sc_put_all.nd rfl (Or.inr rfl) (sfe (sf_comp ["place"] [2, 0] (Ob := [.imm, .bor, .bor]) (O1 := [.imm, .bor, .bor]) (is := [0]) rfl rfl rfl rfl (by decide) (sc_range1 rfl z_range (sp (se_call d_row_count (hr.mono (by decide)) rfl (sa_bor (sp (se_ix (sp_var 0) (sp se_int) (fun _ _ => rfl))) sa_nil)))) (fun _ _ _ _ _ => (sg_name 0 (show List.Nodup (["place", "full", "gate"] : List Str) by decide +kernel) rfl (Or.inl rfl))) (fun _ _ _ _ _ => sifs_nil) (fun _ _ _ _ _ => (se_bin od_mul (sp_var 1) (sp (se_call d_bit (hr.mono (by decide)) rfl (sa_bor (sp (se_ix (sp_var 2) (sp se_int) (fun _ _ => rfl))) (sa_bor (sp_var 0) sa_nil)))))))))
    (ss_cons (O1 := [.bor, .bor, .bor, .imm, .imm]) (ss_for PassesOwn.never rfl [4] (Oe := [.bor, .bor, .bor, .imm, .imm]) (si_seq (sq_var 1)) (sg_name 4 sc_put_all.nd rfl (Or.inr rfl)) (ss_one (ss_set 3 sc_put_all.nd rfl (Or.inr rfl) (sfe (sf_comp ["k"] [3, 4] (Ob := [.imm, .imm, .imm]) (O1 := [.imm, .imm, .imm]) (is := [0]) rfl rfl rfl rfl (by decide) (sc_range3 rfl z_range (sp se_int) (sp (se_callB cd_len rfl z_len (show bootBuiltins "len" = some (.builtin "len") by decide +kernel) (sa_bor (sp_var 3) sa_nil))) (sp se_int)) (fun _ _ _ _ _ => (sg_name 0 (show List.Nodup (["k", "given", "number"] : List Str) by decide +kernel) rfl (Or.inl rfl))) (fun _ _ _ _ _ => sifs_nil) (fun _ _ _ _ _ => (se_bin od_or (sp (se_bin od_and (sp (se_ix (sp_var 1) (sp_var 0) (fun _ _ => rfl))) (sp (se_inv (sp_var 2))))) (sp (se_bin od_and (sp (se_ix (sp_var 1) (sp (se_bin od_add (sp_var 0) (sp se_int))) (fun _ _ => rfl))) (sp_var 2))))))))) (by decide))
    (ss_one (ss_ret (se_ix (sp_var 3) (sp se_int) (fun _ _ => rfl))))))
theorem ok_put (F : At K mg "put" s_put ["gate", "tables", "inputs"]) (d_put_all : Def P w K mg base 2 "put_all" ["gate", "numbers", "full"] (spF K [.bor, .bor, .bor] .f m_put_all)) (d_full_table : Def P w K mg base 2 "full_table" ["inputs"] (spF K [.bor] .f m_full_table)) : Def P w K mg base 3 "put" ["gate", "tables", "inputs"] (spF K [.bor, .bor, .bor] .f m_put) :=
  def_ok (N := ["gate", "tables", "inputs"]) (fs := [.bor, .bor, .bor]) (O := [.bor, .bor, .bor]) (O' := []) (Ol := []) (rm := .f) F sc_put rfl (by decide) (by decide) fun f cdv A outer s H E hr =>
  (ss_one (ss_ret (se_call d_put_all (hr.mono (by decide)) rfl (sa_bor (sp_var 0) (sa_bor (sp_var 1) (sa_bor (sp (se_call d_full_table (hr.mono (by decide)) rfl (sa_bor (sp_var 2) sa_nil))) sa_nil))))))
theorem ok_turned (F : At K mg "turned" s_turned ["gate"]) (d_full_table : Def P w K mg base 2 "full_table" ["inputs"] (spF K [.bor] .f m_full_table)) (d_input_tables : Def P w K mg base 3 "input_tables" ["inputs"] (spF K [.bor] .t m_input_tables)) (d_put : Def P w K mg base 3 "put" ["gate", "tables", "inputs"] (spF K [.bor, .bor, .bor] .f m_put)) : Def P w K mg base 4 "turned" ["gate"] (spF K [.bor] .f m_turned) :=
  def_ok (N := ["gate", "inputs", "full", "exchanged"]) (fs := [.bor]) (O := [.bor, .imm, .imm, .imm]) (O' := []) (Ol := []) (rm := .f) F sc_turned rfl (by decide) (by decide) fun f cdv A outer s H E hr =>
  (ss_cons (O1 := [.bor, .imm, .imm, .imm]) (ss_set 1 sc_turned.nd rfl (Or.inl rfl) (se_ix (sp_var 0) (sp se_int) (fun _ _ => rfl)))
    (ss_cons (O1 := [.bor, .imm, .imm, .imm]) (ss_set 2 sc_turned.nd rfl (Or.inr rfl) (se_call d_full_table (hr.mono (by decide)) rfl (sa_bor (sp_var 1) sa_nil)))
    (ss_cons (O1 := [.bor, .imm, .imm, .own]) (ss_setC 3 ["table"] [2] (Ob := [.imm, .imm]) (O1 := [.imm, .imm]) (is := [0]) sc_turned.nd rfl (Or.inl rfl) rfl rfl rfl rfl (by decide) (sc_seq (sfp (sf_call d_input_tables (hr.mono (by decide)) rfl (sa_bor (sp_var 1) sa_nil)))) (fun _ _ _ _ _ => (sg_name 0 (show List.Nodup (["table", "full"] : List Str) by decide +kernel) rfl (Or.inl rfl))) (fun _ _ _ _ _ => sifs_nil) (fun _ _ _ _ _ => (se_bin od_sub (sp_var 1) (sp_var 0))))
    (ss_one (ss_ret (se_tup (si_cons (se_var 1) (si_cons (se_bin od_sub (sp_var 2) (sp (se_call d_put (hr.mono (by decide)) rfl (sa_bor (sp_var 0) (sa_bor (sp_var 3) (sa_bor (sp_var 1) sa_nil)))))) si_nil))))))))
theorem ok_is_step (F : At K mg "is_step" s_is_step ["thing", "bound"]) (d_is_tuple : Def P w K mg base 1 "is_tuple" ["thing", "length"] (spF K [.bor, .bor] .f m_is_tuple)) (d_is_gate : Def P w K mg base 3 "is_gate" ["thing"] (spF K [.bor] .f m_is_gate)) (d_is_below : Def P w K mg base 2 "is_below" ["thing", "bound"] (spF K [.bor, .bor] .f m_is_below)) (z_all : mg "all" = none) : Def P w K mg base 4 "is_step" ["thing", "bound"] (spF K [.bor, .bor] .f m_is_step) :=
  def_ok (N := ["thing", "bound", "gate"]) (fs := [.bor, .bor]) (O := [.bor, .bor, .imm]) (O' := []) (Ol := []) (rm := .f) F sc_is_step rfl (by decide) (by decide) fun f cdv A outer s H E hr =>
  (ss_cons (O1 := [.bor, .bor, .imm]) (ss_if (sw_pt (sw_or (st_not (st_tru (sp (se_call d_is_tuple (hr.mono (by decide)) rfl (sa_bor (sp_var 0) (sa_bor (sp se_int) sa_nil)))))) (sw_or1 (st_not (st_tru (sp (se_call d_is_gate (hr.mono (by decide)) rfl (sa_bor (sp (se_ix (sp_var 0) (sp se_int) (fun _ _ => rfl))) sa_nil)))))))) (ss_one (ss_ret se_bl)) ss_nil)
    (ss_cons (O1 := [.bor, .bor, .imm]) (ss_set 2 sc_is_step.nd rfl (Or.inl rfl) (se_ix (sp_var 0) (sp se_int) (fun _ _ => rfl)))
    (ss_cons (O1 := [.bor, .bor, .imm]) (ss_if (st_not (st_tru (sp (se_call d_is_tuple (hr.mono (by decide)) rfl (sa_bor (sp (se_ix (sp_var 0) (sp se_int) (fun _ _ => rfl))) (sa_bor (sp (se_ix (sp_var 2) (sp se_int) (fun _ _ => rfl))) sa_nil)))))) (ss_one (ss_ret se_bl)) ss_nil)
    (ss_one (ss_ret (se_callB (cd_all rfl) rfl z_all (show bootBuiltins "all" = some (.builtin "all") by decide +kernel) (sa_bor (sfp (sf_comp ["wire"] [1] (Ob := [.imm, .bor]) (O1 := [.imm, .bor]) (is := [0]) rfl rfl rfl rfl (by decide) (sc_seq (sp (se_ix (sp_var 0) (sp se_int) (fun _ _ => rfl)))) (fun _ _ _ _ _ => (sg_name 0 (show List.Nodup (["wire", "bound"] : List Str) by decide +kernel) rfl (Or.inl rfl))) (fun _ _ _ _ _ => sifs_nil) (fun _ _ _ _ _ => (se_call d_is_below (hr.mono (by decide)) rfl (sa_bor (sp_var 0) (sa_bor (sp_var 1) sa_nil)))))) sa_nil)))))))
theorem ok_is_circuit (F : At K mg "is_circuit" s_is_circuit ["thing"]) (d_is_below : Def P w K mg base 2 "is_below" ["thing", "bound"] (spF K [.bor, .bor] .f m_is_below)) (d_is_tuple : Def P w K mg base 1 "is_tuple" ["thing", "length"] (spF K [.bor, .bor] .f m_is_tuple)) (d_is_step : Def P w K mg base 4 "is_step" ["thing", "bound"] (spF K [.bor, .bor] .f m_is_step)) (z_enumerate : mg "enumerate" = none) (z_isinstance : mg "isinstance" = none) (z_len : mg "len" = none) (z_tuple : mg "tuple" = none) {v_MOST_INPUTS : Value} (g_MOST_INPUTS : mg "MOST_INPUTS" = some v_MOST_INPUTS) (r_MOST_INPUTS : RelV (.int 4) v_MOST_INPUTS) {v_MOST_STEPS : Value} (g_MOST_STEPS : mg "MOST_STEPS" = some v_MOST_STEPS) (r_MOST_STEPS : RelV (.int 600) v_MOST_STEPS) : Def P w K mg base 5 "is_circuit" ["thing"] (spF K [.bor] .f m_is_circuit) :=
  def_ok (N := ["thing", "inputs", "steps", "s", "step"]) (fs := [.bor]) (O := [.bor, .imm, .imm, .imm, .imm]) (O' := []) (Ol := []) (rm := .f) F sc_is_circuit rfl (by decide) (by decide) fun f cdv A outer s H E hr =>
  (ss_cons (O1 := [.bor, .imm, .imm, .imm, .imm]) (ss_if (sw_pt (sw_or (st_not (st_tru (sp (se_call d_is_tuple (hr.mono (by decide)) rfl (sa_bor (sp_var 0) (sa_bor (sp se_int) sa_nil)))))) (sw_or1 (st_not (st_tru (sp (se_call d_is_below (hr.mono (by decide)) rfl (sa_bor (sp (se_ix (sp_var 0) (sp se_int) (fun _ _ => rfl))) (sa_bor (sp (se_bin od_add (sp (se_glob rfl g_MOST_INPUTS r_MOST_INPUTS (fun _ => Rp.int.mpr rfl))) (sp se_int))) sa_nil))))))))) (ss_one (ss_ret se_bl)) ss_nil)
    (ss_cons (O1 := [.bor, .imm, .imm, .imm, .imm]) (ss_set 1 sc_is_circuit.nd rfl (Or.inl rfl) (se_ix (sp_var 0) (sp se_int) (fun _ _ => rfl)))
    (ss_cons (O1 := [.bor, .imm, .imm, .imm, .imm]) (ss_set 2 sc_is_circuit.nd rfl (Or.inl rfl) (se_ix (sp_var 0) (sp se_int) (fun _ _ => rfl)))
    (ss_cons (O1 := [.bor, .imm, .imm, .imm, .imm]) (ss_if (sw_pt (sw_or (st_not (st_val (se_isi isi_tuple rfl z_isinstance (sp_var 2) (pe_ty rfl z_tuple (show bootBuiltins "tuple" = some (.type "tuple") by decide +kernel))))) (sw_or1 (st_cmp od_gt (sp (se_callB cd_len rfl z_len (show bootBuiltins "len" = some (.builtin "len") by decide +kernel) (sa_bor (sp_var 2) sa_nil))) (sp (se_glob rfl g_MOST_STEPS r_MOST_STEPS (fun _ => Rp.int.mpr rfl))) (nomark _))))) (ss_one (ss_ret se_bl)) ss_nil)
    (ss_cons (O1 := [.bor, .imm, .imm, .imm, .imm]) (ss_for PassesOwn.never rfl [3, 4] (Oe := [.bor, .imm, .imm, .imm, .imm]) (si_enum rfl z_enumerate (sq_var 2)) (sg_tup rfl (sgs_cons (O1 := [.bor, .imm, .imm, .imm, .imm]) (sg_name 3 sc_is_circuit.nd rfl (Or.inl rfl)) (sgs_cons (O1 := [.bor, .imm, .imm, .imm, .imm]) (sg_name 4 sc_is_circuit.nd rfl (Or.inl rfl)) sgs_nil))) (ss_one (ss_if (st_not (st_tru (sp (se_call d_is_step (hr.mono (by decide)) rfl (sa_bor (sp_var 4) (sa_bor (sp (se_bin od_add (sp_var 1) (sp_var 3))) sa_nil)))))) (ss_one (ss_ret se_bl)) ss_nil)) (by decide))
    (ss_one (ss_ret (se_call d_is_below (hr.mono (by decide)) rfl (sa_bor (sp (se_ix (sp_var 0) (sp se_int) (fun _ _ => rfl))) (sa_bor (sp (se_bin od_add (sp_var 1) (sp (se_callB cd_len rfl z_len (show bootBuiltins "len" = some (.builtin "len") by decide +kernel) (sa_bor (sp_var 2) sa_nil))))) sa_nil))))))))))
theorem ok_wires (F : At K mg "wires" s_wires ["circuit"]) (d_input_tables : Def P w K mg base 3 "input_tables" ["inputs"] (spF K [.bor] .t m_input_tables)) (d_put : Def P w K mg base 3 "put" ["gate", "tables", "inputs"] (spF K [.bor, .bor, .bor] .f m_put)) : Def P w K mg base 4 "wires" ["circuit"] (spF K [.bor] .t m_wires) :=
  def_ok (N := ["circuit", "inputs", "tables", "step"]) (fs := [.bor]) (O := [.bor, .imm, .own, .imm]) (O' := []) (Ol := []) (rm := .t) F sc_wires rfl (by decide) (by decide) fun f cdv A outer s H E hr =>
  (ss_cons (O1 := [.bor, .imm, .own, .imm]) (ss_set 1 sc_wires.nd rfl (Or.inl rfl) (se_ix (sp_var 0) (sp se_int) (fun _ _ => rfl)))
    (ss_cons (O1 := [.bor, .imm, .own, .imm]) (ss_setF 2 sc_wires.nd rfl (Or.inr rfl) (sf_call d_input_tables (hr.mono (by decide)) rfl (sa_bor (sp_var 1) sa_nil)))
    (ss_cons (O1 := [.bor, .imm, .own, .imm]) (ss_for PassesOwn.never rfl [3] (Oe := [.bor, .imm, .own, .imm]) (si_seq (sq (se_ix (sp_var 0) (sp se_int) (fun _ _ => rfl)))) (sg_name 3 sc_wires.nd rfl (Or.inl rfl)) (ss_one (ss_app 2 (se_call d_put (hr.mono (by decide)) rfl (sa_bor (sp (se_ix (sp_var 3) (sp se_int) (fun _ _ => rfl))) (sa_bor (sfp (sf_comp ["wire"] [2] (Ob := [.imm, .bor]) (O1 := [.imm, .bor]) (is := [0]) rfl rfl rfl rfl (by decide) (sc_seq (sp (se_ix (sp_var 3) (sp se_int) (fun _ _ => rfl)))) (fun _ _ _ _ _ => (sg_name 0 (show List.Nodup (["wire", "tables"] : List Str) by decide +kernel) rfl (Or.inl rfl))) (fun _ _ _ _ _ => sifs_nil) (fun _ _ _ _ _ => (se_ix (sp_var 1) (sp_var 0) (fun _ _ => rfl))))) (sa_bor (sp_var 1) sa_nil)))))) (by decide))
    (ss_one (ss_retO 2)))))
theorem ok_gate_of (F : At K mg "gate_of" s_gate_of ["circuit"]) (d_wires : Def P w K mg base 4 "wires" ["circuit"] (spF K [.bor] .t m_wires)) : Def P w K mg base 5 "gate_of" ["circuit"] (spF K [.bor] .f m_gate_of) :=
  def_ok (N := ["circuit"]) (fs := [.bor]) (O := [.bor]) (O' := []) (Ol := []) (rm := .f) F sc_gate_of rfl (by decide) (by decide) fun f cdv A outer s H E hr =>
  (ss_one (ss_ret (se_tup (si_cons (se_ix (sp_var 0) (sp se_int) (fun _ _ => rfl)) (si_cons (se_ix (sfp (sf_call d_wires (hr.mono (by decide)) rfl (sa_bor (sp_var 0) sa_nil))) (sp (se_ix (sp_var 0) (sp se_int) (fun _ _ => rfl))) (fun _ _ => rfl)) si_nil)))))
theorem ok_renamed (F : At K mg "renamed" s_renamed ["step", "names"]) (z_tuple : mg "tuple" = none) : Def P w K mg base 1 "renamed" ["step", "names"] (spF K [.bor, .bor] .f m_renamed) :=
  def_ok (N := ["step", "names"]) (fs := [.bor, .bor]) (O := [.bor, .bor]) (O' := []) (Ol := []) (rm := .f) F sc_renamed rfl (by decide) (by decide) fun f cdv A outer s H E hr =>
  (ss_one (ss_ret (se_tup (si_cons (se_ix (sp_var 0) (sp se_int) (fun _ _ => rfl)) (si_cons (se_callTy cd_tuple rfl z_tuple (show bootBuiltins "tuple" = some (.type "tuple") by decide +kernel) (sa_bor (sfp (sf_comp ["wire"] [1] (Ob := [.imm, .bor]) (O1 := [.imm, .bor]) (is := [0]) rfl rfl rfl rfl (by decide) (sc_seq (sp (se_ix (sp_var 0) (sp se_int) (fun _ _ => rfl)))) (fun _ _ _ _ _ => (sg_name 0 (show List.Nodup (["wire", "names"] : List Str) by decide +kernel) rfl (Or.inl rfl))) (fun _ _ _ _ _ => sifs_nil) (fun _ _ _ _ _ => (se_ixY hr.units2 (sp_var 1) (sp_var 0) (fun _ _ => rfl))))) sa_nil)) si_nil)))))
theorem ok_add_circuit (F : At K mg "add_circuit" s_add_circuit ["steps", "inputs", "circuit", "starts"]) (d_renamed : Def P w K mg base 1 "renamed" ["step", "names"] (spF K [.bor, .bor] .f m_renamed)) (z_len : mg "len" = none) (z_list : mg "list" = none) : Def P w K mg base 2 "add_circuit" ["steps", "inputs", "circuit", "starts"] (spM K [.bor, .bor, .bor, .bor] 0 m_add_circuit) :=
  def_okM (N := ["steps", "inputs", "circuit", "starts", "names", "step"]) (fs := [.bor, .bor, .bor, .bor]) (O := fun p => [.fix p, .bor, .bor, .bor, .own, .imm]) (O' := fun _ => []) (Ol := []) (j := 0) F sc_add_circuit rfl (by decide) (fun _ => rfl) (fun p => of_decide_eq_true rfl) fun p f cdv A outer s H E hr =>
  (ss_cons (O1 := [.fix p, .bor, .bor, .bor, .own, .imm]) (ss_setF 4 sc_add_circuit.nd rfl (Or.inl rfl) (sf_callTy cf_list rfl z_list (show bootBuiltins "list" = some (.type "list") by decide +kernel) (sa_bor (sp_var 3) sa_nil)))
    (ss_cons (O1 := [.fix p, .bor, .bor, .bor, .own, .imm]) (ss_for PassesOwn.never rfl [5] (Oe := [.fix p, .bor, .bor, .bor, .own, .imm]) (si_seq (sq (se_ix (sp_var 2) (sp se_int) (fun _ _ => rfl)))) (sg_name 5 sc_add_circuit.nd rfl (Or.inl rfl)) (ss_cons (O1 := [.fix p, .bor, .bor, .bor, .own, .imm]) (ss_app 0 (se_call d_renamed (hr.mono (by decide)) rfl (sa_bor (sp_var 5) (sa_bor (sp_var 4) sa_nil))))
    (ss_one (ss_app 4 (se_bin od_sub (sp (se_bin od_add (sp_var 1) (sp (se_callB cd_len rfl z_len (show bootBuiltins "len" = some (.builtin "len") by decide +kernel) (sa_bor (sp_var 0) sa_nil))))) (sp se_int))))) clrOk_refl)
    (ss_one (ss_retM 0 rfl (se_ix (sp_var 4) (sp (se_ix (sp_var 2) (sp se_int) (fun _ _ => rfl))) (fun _ _ => rfl))))))
theorem ok_joined (F : At K mg "joined" s_joined ["circuit", "parts"]) (d_add_circuit : Def P w K mg base 2 "add_circuit" ["steps", "inputs", "circuit", "starts"] (spM K [.bor, .bor, .bor, .bor] 0 m_add_circuit)) (z_len : mg "len" = none) (z_list : mg "list" = none) (z_range : mg "range" = none) (z_sum : mg "sum" = none) (z_tuple : mg "tuple" = none) {v_MOST_STEPS : Value} (g_MOST_STEPS : mg "MOST_STEPS" = some v_MOST_STEPS) (r_MOST_STEPS : RelV (.int 600) v_MOST_STEPS) : Def P w K mg base 3 "joined" ["circuit", "parts"] (spF K [.imm, .bor] .f m_joined) :=
  def_ok (N := ["circuit", "parts", "inputs", "steps", "outs", "part", "out"]) (fs := [.imm, .bor]) (O := [.imm, .bor, .imm, .own, .own, .imm, .imm]) (O' := []) (Ol := []) (rm := .f) F sc_joined rfl (by decide) (by decide) fun f cdv A outer s H E hr =>
  (ss_cons (O1 := [.imm, .bor, .imm, .own, .own, .imm, .imm]) (ss_if (st_cmp od_gt (sp (se_bin od_add (sp (se_callB cd_len rfl z_len (show bootBuiltins "len" = some (.builtin "len") by decide +kernel) (sa_bor (sp (se_ix (sp_var 0) (sp se_int) (fun _ _ => rfl))) sa_nil))) (sp (se_callB (cd_sum rfl) rfl z_sum (show bootBuiltins "sum" = some (.builtin "sum") by decide +kernel) (sa_bor (sfp (sf_comp ["part"] [] (Ob := [.imm]) (O1 := [.imm]) (is := [0]) rfl rfl rfl rfl (by decide) (sc_seq (sp_var 1)) (fun _ _ _ _ _ => (sg_name 0 (show List.Nodup (["part"] : List Str) by decide +kernel) rfl (Or.inl rfl))) (fun _ _ _ _ _ => sifs_nil) (fun _ _ _ _ _ => (se_callB cd_len rfl z_len (show bootBuiltins "len" = some (.builtin "len") by decide +kernel) (sa_bor (sp (se_ix (sp_var 0) (sp se_int) (fun _ _ => rfl))) sa_nil))))) sa_nil))))) (sp (se_glob rfl g_MOST_STEPS r_MOST_STEPS (fun _ => Rp.int.mpr rfl))) (nomark _)) (ss_one ss_bad) ss_nil)
    (ss_cons (O1 := [.imm, .bor, .imm, .own, .own, .imm, .imm]) (ss_if (st_cmp (od_eq hr.units) (sp (se_callB cd_len rfl z_len (show bootBuiltins "len" = some (.builtin "len") by decide +kernel) (sa_bor (sp_var 1) sa_nil))) (sp se_int) (nomark _)) (ss_one (ss_ret (se_var 0))) ss_nil)
    (ss_cons (O1 := [.imm, .bor, .imm, .own, .own, .imm, .imm]) (ss_set 2 sc_joined.nd rfl (Or.inl rfl) (se_ix (sp (se_ix (sp_var 1) (sp se_int) (fun _ _ => rfl))) (sp se_int) (fun _ _ => rfl)))
    (ss_cons (O1 := [.imm, .bor, .imm, .own, .own, .imm, .imm]) (ss_setF 3 sc_joined.nd rfl (Or.inl rfl) (sf_lst si_nil))
    (ss_cons (O1 := [.imm, .bor, .imm, .own, .own, .imm, .imm]) (ss_setF 4 sc_joined.nd rfl (Or.inl rfl) (sf_lst si_nil))
    (ss_cons (O1 := [.imm, .bor, .imm, .own, .own, .imm, .imm]) (ss_for PassesOwn.never rfl [5] (Oe := [.imm, .bor, .imm, .own, .own, .imm, .imm]) (si_seq (sq_var 1)) (sg_name 5 sc_joined.nd rfl (Or.inl rfl)) (ss_one (ss_appM 4 3 (by decide) (qm_call 3 d_add_circuit (hr.mono (by decide)) rfl (am_var 3 (am_bor (sq_var 2) (am_bor (sq_var 5) (am_bor (sq (sfe (sf_lrange rfl rfl z_list (show bootBuiltins "list" = some (.type "list") by decide +kernel) rfl z_range (show bootBuiltins "range" = some (.type "range") by decide +kernel) (sp_var 2)))) am_nil)))) rfl rfl rfl (by decide)))) (by decide))
    (ss_cons (O1 := [.imm, .bor, .imm, .own, .imm, .imm, .imm]) (s1_frz 4 (O2 := [.imm, .bor, .imm, .own, .imm, .imm, .imm]) (ss_setM 6 3 sc_joined.nd rfl (Or.inl rfl) (qm_call 3 d_add_circuit (hr.mono (by decide)) rfl (am_var 3 (am_bor (sq_var 2) (am_bor (sq_var 0) (am_bor (sq_var 4) am_nil)))) rfl rfl rfl (by decide)) (of_decide_eq_true rfl)))
    (ss_one (ss_ret (se_tup (si_cons (se_var 2) (si_cons (se_callTy cd_tuple rfl z_tuple (show bootBuiltins "tuple" = some (.type "tuple") by decide +kernel) (sa_bor (sp_var 3) sa_nil)) (si_cons (se_var 6) si_nil)))))))))))))
theorem ok_without_doubles (F : At K mg "without_doubles" s_without_doubles ["circuit"]) (d_renamed : Def P w K mg base 1 "renamed" ["step", "names"] (spF K [.bor, .bor] .f m_renamed)) (z_len : mg "len" = none) (z_list : mg "list" = none) (z_range : mg "range" = none) (z_tuple : mg "tuple" = none) : Def P w K mg base 2 "without_doubles" ["circuit"] (spF K [.bor] .f m_without_doubles) :=
  def_ok (N := ["circuit", "inputs", "names", "steps", "stayed", "old", "step"]) (fs := [.bor]) (O := [.bor, .imm, .own, .own, .own, .imm, .imm]) (O' := []) (Ol := []) (rm := .f) F sc_without_doubles rfl (by decide) (by decide) fun f cdv A outer s H E hr =>
  (ss_cons (O1 := [.bor, .imm, .own, .own, .own, .imm, .imm]) (ss_set 1 sc_without_doubles.nd rfl (Or.inl rfl) (se_ix (sp_var 0) (sp se_int) (fun _ _ => rfl)))
    (ss_cons (O1 := [.bor, .imm, .own, .own, .own, .imm, .imm]) (ss_setF 2 sc_without_doubles.nd rfl (Or.inl rfl) (sf_lrange rfl rfl z_list (show bootBuiltins "list" = some (.type "list") by decide +kernel) rfl z_range (show bootBuiltins "range" = some (.type "range") by decide +kernel) (sp_var 1)))
    (ss_cons (O1 := [.bor, .imm, .own, .own, .own, .imm, .imm]) (ss_setF 3 sc_without_doubles.nd rfl (Or.inl rfl) (sf_lst si_nil))
    (ss_cons (O1 := [.bor, .imm, .own, .own, .nst true, .imm, .imm]) (ss_nest 4 (O1 := [.bor, .imm, .own, .own, .own, .imm, .imm]) (ss_setF 4 sc_without_doubles.nd rfl (Or.inl rfl) sf_dct0))
    (ss_cons (O1 := [.bor, .imm, .own, .own, .nst true, .imm, .imm]) (ss_for PassesOwn.never rfl [5, 6] (Oe := [.bor, .imm, .own, .own, .nst true, .imm, .imm]) (si_seq (sq (se_ix (sp_var 0) (sp se_int) (fun _ _ => rfl)))) (sg_name 5 sc_without_doubles.nd rfl (Or.inl rfl)) (ss_cons (O1 := [.bor, .imm, .own, .own, .nst true, .imm, .imm]) (ss_set 6 sc_without_doubles.nd rfl (Or.inl rfl) (se_call d_renamed (hr.mono (by decide)) rfl (sa_bor (sp_var 5) (sa_bor (sp_var 2) sa_nil))))
    (ss_cons (O1 := [.bor, .imm, .own, .own, .nst true, .imm, .imm]) (ss_if (st_notInN 4 hr.units2 (se_var 6)) (ss_cons (O1 := [.bor, .imm, .own, .own, .nst true, .imm, .imm]) (ss_nput 4 hr.units2 (se_var 6) (se_bin od_add (sp_var 1) (sp (se_callB cd_len rfl z_len (show bootBuiltins "len" = some (.builtin "len") by decide +kernel) (sa_bor (sp_var 3) sa_nil)))))
    (ss_one (ss_app 3 (se_var 6)))) ss_nil)
    (ss_one (ss_app 2 (se_ixN 4 hr.units2 (se_var 6) (fun _ _ => rfl)))))) (by decide))
    (ss_one (ss_ret (se_tup (si_cons (se_var 1) (si_cons (se_callTy cd_tuple rfl z_tuple (show bootBuiltins "tuple" = some (.type "tuple") by decide +kernel) (sa_bor (sp_var 3) sa_nil)) (si_cons (se_ix (sp_var 2) (sp (se_ix (sp_var 0) (sp se_int) (fun _ _ => rfl))) (fun _ _ => rfl)) si_nil)))))))))))
theorem ok_used_wires (F : At K mg "used_wires" s_used_wires ["circuit"]) (z_len : mg "len" = none) (z_range : mg "range" = none) : Def P w K mg base 1 "used_wires" ["circuit"] (spF K [.bor] .t m_used_wires) :=
  def_ok (N := ["circuit", "inputs", "steps", "used", "s", "wire"]) (fs := [.bor]) (O := [.bor, .imm, .imm, .own, .imm, .imm]) (O' := []) (Ol := []) (rm := .t) F sc_used_wires rfl (by decide) (by decide) fun f cdv A outer s H E hr =>
  (ss_cons (O1 := [.bor, .imm, .imm, .own, .imm, .imm]) (ss_set 1 sc_used_wires.nd rfl (Or.inl rfl) (se_ix (sp_var 0) (sp se_int) (fun _ _ => rfl)))
    (ss_cons (O1 := [.bor, .imm, .imm, .own, .imm, .imm]) (ss_set 2 sc_used_wires.nd rfl (Or.inl rfl) (se_ix (sp_var 0) (sp se_int) (fun _ _ => rfl)))
    (ss_cons (O1 := [.bor, .imm, .imm, .own, .imm, .imm]) (ss_setF 3 sc_used_wires.nd rfl (Or.inl rfl) (sf_dctK (se_ix (sp_var 0) (sp se_int) (fun _ _ => rfl)) se_bl))
    (ss_cons (O1 := [.bor, .imm, .imm, .own, .imm, .imm]) (ss_for PassesOwn.never rfl [4, 5] (Oe := [.bor, .imm, .imm, .own, .imm, .imm]) (si_range3 rfl z_range (sp (se_bin od_sub (sp (se_callB cd_len rfl z_len (show bootBuiltins "len" = some (.builtin "len") by decide +kernel) (sa_bor (sp_var 2) sa_nil))) (sp se_int))) (sp (se_neg (sp se_int))) (sp (se_neg (sp se_int)))) (sg_name 4 sc_used_wires.nd rfl (Or.inl rfl)) (ss_one (ss_if (st_cmp (od_inY hr.units2) (sp (se_bin od_add (sp_var 1) (sp_var 4))) (sp_var 3) rfl) (ss_one (ss_for PassesOwn.never rfl [5] (Oe := [.bor, .imm, .imm, .own, .imm, .imm]) (si_seq (sq (se_ix (sp (se_ix (sp_var 2) (sp_var 4) (fun _ _ => rfl))) (sp se_int) (fun _ _ => rfl)))) (sg_name 5 sc_used_wires.nd rfl (Or.inl rfl)) (ss_one (ss_dput 3 hr.units2 (se_var 5) se_bl)) (by decide))) ss_nil)) (by decide))
    (ss_one (ss_retO 3))))))
theorem ok_without_unused (F : At K mg "without_unused" s_without_unused ["circuit"]) (d_used_wires : Def P w K mg base 1 "used_wires" ["circuit"] (spF K [.bor] .t m_used_wires)) (d_renamed : Def P w K mg base 1 "renamed" ["step", "names"] (spF K [.bor, .bor] .f m_renamed)) (z_enumerate : mg "enumerate" = none) (z_len : mg "len" = none) (z_range : mg "range" = none) (z_tuple : mg "tuple" = none) : Def P w K mg base 2 "without_unused" ["circuit"] (spF K [.bor] .f m_without_unused) :=
  def_ok (N := ["circuit", "inputs", "used", "names", "j", "steps", "s", "step"]) (fs := [.bor]) (O := [.bor, .imm, .imm, .own, .imm, .own, .imm, .imm]) (O' := []) (Ol := []) (rm := .f) F sc_without_unused rfl (by decide) (by decide) fun f cdv A outer s H E hr =>
  (ss_cons (O1 := [.bor, .imm, .imm, .own, .imm, .own, .imm, .imm]) (ss_set 1 sc_without_unused.nd rfl (Or.inl rfl) (se_ix (sp_var 0) (sp se_int) (fun _ _ => rfl)))
    (ss_cons (O1 := [.bor, .imm, .imm, .own, .imm, .own, .imm, .imm]) (ss_set 2 sc_without_unused.nd rfl (Or.inl rfl) (sfe (sf_call d_used_wires (hr.mono (by decide)) rfl (sa_bor (sp_var 0) sa_nil))))
    (ss_cons (O1 := [.bor, .imm, .imm, .own, .imm, .own, .imm, .imm]) (ss_setF 3 sc_without_unused.nd rfl (Or.inl rfl) sf_dct0)
    (ss_cons (O1 := [.bor, .imm, .imm, .own, .imm, .own, .imm, .imm]) (ss_for PassesOwn.never rfl [4] (Oe := [.bor, .imm, .imm, .own, .imm, .own, .imm, .imm]) (si_range1 rfl z_range (sp_var 1)) (sg_name 4 sc_without_unused.nd rfl (Or.inl rfl)) (ss_one (ss_dput 3 hr.units2 (se_var 4) (se_var 4))) (by decide))
    (ss_cons (O1 := [.bor, .imm, .imm, .own, .imm, .own, .imm, .imm]) (ss_setF 5 sc_without_unused.nd rfl (Or.inl rfl) (sf_lst si_nil))
    (ss_cons (O1 := [.bor, .imm, .imm, .own, .imm, .own, .imm, .imm]) (ss_for PassesOwn.never rfl [6, 7] (Oe := [.bor, .imm, .imm, .own, .imm, .own, .imm, .imm]) (si_enum rfl z_enumerate (sq (se_ix (sp_var 0) (sp se_int) (fun _ _ => rfl)))) (sg_tup rfl (sgs_cons (O1 := [.bor, .imm, .imm, .own, .imm, .own, .imm, .imm]) (sg_name 6 sc_without_unused.nd rfl (Or.inl rfl)) (sgs_cons (O1 := [.bor, .imm, .imm, .own, .imm, .own, .imm, .imm]) (sg_name 7 sc_without_unused.nd rfl (Or.inl rfl)) sgs_nil))) (ss_one (ss_if (st_cmp (od_inY hr.units2) (sp (se_bin od_add (sp_var 1) (sp_var 6))) (sp_var 2) rfl) (ss_cons (O1 := [.bor, .imm, .imm, .own, .imm, .own, .imm, .imm]) (ss_app 5 (se_call d_renamed (hr.mono (by decide)) rfl (sa_bor (sp_var 7) (sa_bor (sp_var 3) sa_nil))))
    (ss_one (ss_dput 3 hr.units2 (se_bin od_add (sp_var 1) (sp_var 6)) (se_bin od_sub (sp (se_bin od_add (sp_var 1) (sp (se_callB cd_len rfl z_len (show bootBuiltins "len" = some (.builtin "len") by decide +kernel) (sa_bor (sp_var 5) sa_nil))))) (sp se_int))))) ss_nil)) (by decide))
    (ss_one (ss_ret (se_tup (si_cons (se_var 1) (si_cons (se_callTy cd_tuple rfl z_tuple (show bootBuiltins "tuple" = some (.type "tuple") by decide +kernel) (sa_bor (sp_var 5) sa_nil)) (si_cons (se_ixY hr.units2 (sp_var 3) (sp (se_ix (sp_var 0) (sp se_int) (fun _ _ => rfl))) (fun _ _ => rfl)) si_nil))))))))))))
theorem ok_shared (F : At K mg "shared" s_shared ["circuit"]) (d_without_unused : Def P w K mg base 2 "without_unused" ["circuit"] (spF K [.bor] .f m_without_unused)) (d_without_doubles : Def P w K mg base 2 "without_doubles" ["circuit"] (spF K [.bor] .f m_without_doubles)) : Def P w K mg base 3 "shared" ["circuit"] (spF K [.bor] .f m_shared) :=
  def_ok (N := ["circuit"]) (fs := [.bor]) (O := [.bor]) (O' := []) (Ol := []) (rm := .f) F sc_shared rfl (by decide) (by decide) fun f cdv A outer s H E hr =>
  (ss_one (ss_ret (se_call d_without_unused (hr.mono (by decide)) rfl (sa_bor (sp (se_call d_without_doubles (hr.mono (by decide)) rfl (sa_bor (sp_var 0) sa_nil))) sa_nil))))
theorem ok_turned_circuit (F : At K mg "turned_circuit" s_turned_circuit ["circuit"]) (d_turned : Def P w K mg base 4 "turned" ["gate"] (spF K [.bor] .f m_turned)) (z_tuple : mg "tuple" = none) : Def P w K mg base 5 "turned_circuit" ["circuit"] (spF K [.bor] .f m_turned_circuit) :=
  def_ok (N := ["circuit", "steps"]) (fs := [.bor]) (O := [.bor, .imm]) (O' := []) (Ol := []) (rm := .f) F sc_turned_circuit rfl (by decide) (by decide) fun f cdv A outer s H E hr =>
  (ss_cons (O1 := [.bor, .own]) (ss_setC 1 ["step"] [] (Ob := [.imm]) (O1 := [.imm]) (is := [0]) sc_turned_circuit.nd rfl (Or.inl rfl) rfl rfl rfl rfl (by decide) (sc_seq (sp (se_ix (sp_var 0) (sp se_int) (fun _ _ => rfl)))) (fun _ _ _ _ _ => (sg_name 0 (show List.Nodup (["step"] : List Str) by decide +kernel) rfl (Or.inl rfl))) (fun _ _ _ _ _ => sifs_nil) (fun _ _ _ _ _ => (se_tup (si_cons (se_call d_turned (hr.mono (by decide)) rfl (sa_bor (sp (se_ix (sp_var 0) (sp se_int) (fun _ _ => rfl))) sa_nil)) (si_cons (se_ix (sp_var 0) (sp se_int) (fun _ _ => rfl)) si_nil)))))
    (ss_one (ss_ret (se_tup (si_cons (se_ix (sp_var 0) (sp se_int) (fun _ _ => rfl)) (si_cons (se_callTy cd_tuple rfl z_tuple (show bootBuiltins "tuple" = some (.type "tuple") by decide +kernel) (sa_bor (sp_var 1) sa_nil)) (si_cons (se_ix (sp_var 0) (sp se_int) (fun _ _ => rfl)) si_nil)))))))
theorem ok_spread_size (F : At K mg "spread_size" s_spread_size ["circuit"]) (z_sum : mg "sum" = none) : Def P w K mg base 1 "spread_size" ["circuit"] (spF K [.bor] .f m_spread_size) :=
  def_ok (N := ["circuit", "sizes", "step"]) (fs := [.bor]) (O := [.bor, .own, .imm]) (O' := []) (Ol := []) (rm := .f) F sc_spread_size rfl (by decide) (by decide) fun f cdv A outer s H E hr =>
  (ss_cons (O1 := [.bor, .own, .imm]) (ss_setF 1 sc_spread_size.nd rfl (Or.inr rfl) (sf_rep (sf_lst (si_cons se_int si_nil)) (sp (se_ix (sp_var 0) (sp se_int) (fun _ _ => rfl)))))
    (ss_cons (O1 := [.bor, .own, .imm]) (ss_for PassesOwn.never rfl [2] (Oe := [.bor, .own, .imm]) (si_seq (sq (se_ix (sp_var 0) (sp se_int) (fun _ _ => rfl)))) (sg_name 2 sc_spread_size.nd rfl (Or.inl rfl)) (ss_one (ss_app 1 (se_bin od_add (sp se_int) (sp (se_callB (cd_sum rfl) rfl z_sum (show bootBuiltins "sum" = some (.builtin "sum") by decide +kernel) (sa_bor (sfp (sf_comp ["wire"] [1] (Ob := [.imm, .bor]) (O1 := [.imm, .bor]) (is := [0]) rfl rfl rfl rfl (by decide) (sc_seq (sp (se_ix (sp_var 2) (sp se_int) (fun _ _ => rfl)))) (fun _ _ _ _ _ => (sg_name 0 (show List.Nodup (["wire", "sizes"] : List Str) by decide +kernel) rfl (Or.inl rfl))) (fun _ _ _ _ _ => sifs_nil) (fun _ _ _ _ _ => (se_ix (sp_var 1) (sp_var 0) (fun _ _ => rfl))))) sa_nil)))))) (by decide))
    (ss_one (ss_ret (se_ix (sp_var 1) (sp (se_ix (sp_var 0) (sp se_int) (fun _ _ => rfl))) (fun _ _ => rfl))))))
theorem okz_spread (F : At K mg "spread" s_spread ["circuit"]) (d_spread_size : Def P w K mg base 1 "spread_size" ["circuit"] (spF K [.bor] .f m_spread_size)) {v_MOST_GATES : Value} (g_MOST_GATES : mg "MOST_GATES" = some v_MOST_GATES) (r_MOST_GATES : RelV (.int 300) v_MOST_GATES) {c_TooBig : Addr} (g_TooBig : mg "TooBig" = some (.ref c_TooBig)) (xc_TooBig : ExcC K c_TooBig) : DefX P w K mg base 2 "spread" ["circuit"] (spZ K [.bor] (fun _ => c_TooBig) z_spread) :=
  def_okZ (N := ["circuit", "trees", "step"]) (fs := [.bor]) (O := [.bor, .own, .imm]) F sc_spread rfl (by decide) (by decide) fun f cdv A outer s H E hr =>
  (sz_cons (rm := .f) (Ol := []) (O1 := [.bor, .own, .imm]) (ss_if (st_cmp od_gt (sp (se_call d_spread_size (hr.mono (by decide)) rfl (sa_bor (sp_var 0) sa_nil))) (sp (se_glob rfl g_MOST_GATES r_MOST_GATES (fun _ => Rp.int.mpr rfl))) (nomark _)) (ss_one ss_bad) ss_nil) (sz_if (st_cmp od_gt (sp (se_call d_spread_size (hr.mono (by decide)) rfl (sa_bor (sp_var 0) sa_nil))) (sp (se_glob rfl g_MOST_GATES r_MOST_GATES (fun _ => Rp.int.mpr rfl))) (nomark _)) (sz_cons (rm := .f) (Ol := []) (O1 := [.bor, .own, .imm]) ss_bad (sz_raise rfl rfl g_TooBig xc_TooBig raise_cxOf) szs_no) szs_no) szs_no)
theorem ok_spread (F : At K mg "spread" s_spread ["circuit"]) (d_spread_size : Def P w K mg base 1 "spread_size" ["circuit"] (spF K [.bor] .f m_spread_size)) (z_list : mg "list" = none) (z_range : mg "range" = none) (z_tuple : mg "tuple" = none) {v_MOST_GATES : Value} (g_MOST_GATES : mg "MOST_GATES" = some v_MOST_GATES) (r_MOST_GATES : RelV (.int 300) v_MOST_GATES) : Def P w K mg base 2 "spread" ["circuit"] (spF K [.bor] .f m_spread) :=
  def_ok (N := ["circuit", "trees", "step"]) (fs := [.bor]) (O := [.bor, .own, .imm]) (O' := []) (Ol := []) (rm := .f) F sc_spread rfl (by decide) (by decide) fun f cdv A outer s H E hr =>
  (ss_cons (O1 := [.bor, .own, .imm]) (ss_if (st_cmp od_gt (sp (se_call d_spread_size (hr.mono (by decide)) rfl (sa_bor (sp_var 0) sa_nil))) (sp (se_glob rfl g_MOST_GATES r_MOST_GATES (fun _ => Rp.int.mpr rfl))) (nomark _)) (ss_one ss_bad) ss_nil)
    (ss_cons (O1 := [.bor, .own, .imm]) (ss_setF 1 sc_spread.nd rfl (Or.inr rfl) (sf_lrange rfl rfl z_list (show bootBuiltins "list" = some (.type "list") by decide +kernel) rfl z_range (show bootBuiltins "range" = some (.type "range") by decide +kernel) (sp (se_ix (sp_var 0) (sp se_int) (fun _ _ => rfl)))))
    (ss_cons (O1 := [.bor, .own, .imm]) (ss_for PassesOwn.never rfl [2] (Oe := [.bor, .own, .imm]) (si_seq (sq (se_ix (sp_var 0) (sp se_int) (fun _ _ => rfl)))) (sg_name 2 sc_spread.nd rfl (Or.inl rfl)) (ss_one (ss_app 1 (se_tup (si_cons (se_ix (sp_var 2) (sp se_int) (fun _ _ => rfl)) (si_cons (se_callTy cd_tuple rfl z_tuple (show bootBuiltins "tuple" = some (.type "tuple") by decide +kernel) (sa_bor (sfp (sf_comp ["wire"] [1] (Ob := [.imm, .bor]) (O1 := [.imm, .bor]) (is := [0]) rfl rfl rfl rfl (by decide) (sc_seq (sp (se_ix (sp_var 2) (sp se_int) (fun _ _ => rfl)))) (fun _ _ _ _ _ => (sg_name 0 (show List.Nodup (["wire", "trees"] : List Str) by decide +kernel) rfl (Or.inl rfl))) (fun _ _ _ _ _ => sifs_nil) (fun _ _ _ _ _ => (se_ix (sp_var 1) (sp_var 0) (fun _ _ => rfl))))) sa_nil)) si_nil))))) (by decide))
    (ss_one (ss_ret (se_ix (sp_var 1) (sp (se_ix (sp_var 0) (sp se_int) (fun _ _ => rfl))) (fun _ _ => rfl)))))))
theorem ok_add_tree (F : At K mg "add_tree" s_add_tree ["steps", "inputs", "tree"]) (d_is_whole : Def P w K mg base 1 "is_whole" ["thing"] (spF K [.bor] .f m_is_whole)) (z_len : mg "len" = none) (z_tuple : mg "tuple" = none) : ∀ fu : Nat, Def P w K mg base (2 + fu) "add_tree" ["steps", "inputs", "tree"] (spM K [.bor, .bor, .imm] 0 (m_add_tree fu))
  | 0 => def_badM (k := 1) F sc_add_tree
  | fu + 1 => have d_add_tree := ok_add_tree F d_is_whole z_len z_tuple fu
  def_okM (k := 2 + fu) (N := ["steps", "inputs", "tree", "ends", "part"]) (fs := [.bor, .bor, .imm]) (O := fun p => [.fix p, .bor, .imm, .own, .imm]) (O' := fun _ => []) (Ol := []) (j := 0) F sc_add_tree rfl (by decide) (fun _ => rfl) (fun p => of_decide_eq_true rfl) fun p f cdv A outer s H E hr =>
  (ss_cons (O1 := [.fix p, .bor, .imm, .own, .imm]) (ss_if (st_tru (sp (se_call d_is_whole (hr.mono (by omega)) rfl (sa_bor (sp_var 2) sa_nil)))) (ss_one (ss_retM 0 rfl (se_var 2))) ss_nil)
    (ss_cons (O1 := [.fix p, .bor, .imm, .own, .imm]) (ss_setF 3 sc_add_tree.nd rfl (Or.inl rfl) (sf_lst si_nil))
    (ss_cons (O1 := [.fix p, .bor, .imm, .own, .imm]) (ss_for PassesOwn.never rfl [4] (Oe := [.fix p, .bor, .imm, .own, .imm]) (si_seq (sq (se_ix (sp_var 2) (sp se_int) (fun _ _ => rfl)))) (sg_name 4 sc_add_tree.nd rfl (Or.inl rfl)) (ss_one (ss_appM 3 0 (by decide) (qm_call 0 d_add_tree (hr.mono (by omega)) rfl (am_var 0 (am_bor (sq_var 1) (am_imm (se_var 4) am_nil))) rfl rfl rfl (by decide)))) clrOk_refl)
    (ss_cons (O1 := [.fix p, .bor, .imm, .own, .imm]) (ss_app 0 (se_tup (si_cons (se_ix (sp_var 2) (sp se_int) (fun _ _ => rfl)) (si_cons (se_callTy cd_tuple rfl z_tuple (show bootBuiltins "tuple" = some (.type "tuple") by decide +kernel) (sa_bor (sp_var 3) sa_nil)) si_nil))))
    (ss_one (ss_retM 0 rfl (se_bin od_sub (sp (se_bin od_add (sp_var 1) (sp (se_callB cd_len rfl z_len (show bootBuiltins "len" = some (.builtin "len") by decide +kernel) (sa_bor (sp_var 0) sa_nil))))) (sp se_int))))))))
theorem ok_tree_circuit (F : At K mg "tree_circuit" s_tree_circuit ["tree", "inputs"]) (d_add_tree : Def P w K mg base 102 "add_tree" ["steps", "inputs", "tree"] (spM K [.bor, .bor, .imm] 0 (m_add_tree 100))) (z_tuple : mg "tuple" = none) : Def P w K mg base 103 "tree_circuit" ["tree", "inputs"] (spF K [.imm, .imm] .f m_tree_circuit) :=
  def_ok (N := ["tree", "inputs", "steps", "out"]) (fs := [.imm, .imm]) (O := [.imm, .imm, .own, .imm]) (O' := []) (Ol := []) (rm := .f) F sc_tree_circuit rfl (by decide) (by decide) fun f cdv A outer s H E hr =>
  (ss_cons (O1 := [.imm, .imm, .own, .imm]) (ss_setF 2 sc_tree_circuit.nd rfl (Or.inl rfl) (sf_lst si_nil))
    (ss_cons (O1 := [.imm, .imm, .own, .imm]) (ss_setM 3 2 sc_tree_circuit.nd rfl (Or.inl rfl) (qm_call 2 d_add_tree (hr.mono (by decide)) rfl (am_var 2 (am_bor (sq_var 1) (am_imm (se_var 0) am_nil))) rfl rfl rfl (by decide)) (of_decide_eq_true rfl))
    (ss_one (ss_ret (se_tup (si_cons (se_var 1) (si_cons (se_callTy cd_tuple rfl z_tuple (show bootBuiltins "tuple" = some (.type "tuple") by decide +kernel) (sa_bor (sp_var 2) sa_nil)) (si_cons (se_var 3) si_nil))))))))
theorem ok_law_cell_at (F : At K mg "_law_cell_at" s_law_cell_at ["_law_script", "_law_k"]) (z_len : mg "len" = none) : Def P w K mg base 1 "_law_cell_at" ["_law_script", "_law_k"] (spF K [.bor, .bor] .f m_law_cell_at) :=
  def_ok (N := ["_law_script", "_law_k"]) (fs := [.bor, .bor]) (O := [.bor, .bor]) (O' := []) (Ol := []) (rm := .f) F sc_law_cell_at rfl (by decide) (by decide) fun f cdv A outer s H E hr =>
  (ss_cons (O1 := [.bor, .bor]) (ss_if (st_cmp od_lt (sp_var 1) (sp (se_callB cd_len rfl z_len (show bootBuiltins "len" = some (.builtin "len") by decide +kernel) (sa_bor (sp_var 0) sa_nil))) (nomark _)) (ss_one (ss_ret (se_ix (sp_var 0) (sp_var 1) (fun _ _ => rfl)))) ss_nil)
    (ss_cons (O1 := [.bor, .bor]) (ss_if (st_cmp (od_eq hr.units) (sp (se_callB cd_len rfl z_len (show bootBuiltins "len" = some (.builtin "len") by decide +kernel) (sa_bor (sp_var 0) sa_nil))) (sp se_int) (nomark _)) (ss_one (ss_ret (se_bin od_add (sp (se_bin od_mul (sp (se_bin od_mul (sp_var 1) (sp_var 1))) (sp se_int))) (sp (se_bin od_mul (sp se_int) (sp_var 1)))))) ss_nil)
    (ss_one (ss_ret (se_bin od_add (sp (se_bin od_fdiv (sp (se_ix (sp_var 0) (sp (se_bin od_mod (sp_var 1) (sp (se_callB cd_len rfl z_len (show bootBuiltins "len" = some (.builtin "len") by decide +kernel) (sa_bor (sp_var 0) sa_nil))))) (fun _ _ => rfl))) (sp (se_bin od_add (sp se_int) (sp (se_bin od_fdiv (sp_var 1) (sp (se_callB cd_len rfl z_len (show bootBuiltins "len" = some (.builtin "len") by decide +kernel) (sa_bor (sp_var 0) sa_nil))))))))) (sp (se_bin od_mul (sp (se_bin od_mul (sp_var 1) (sp_var 1))) (sp se_int))))))))
theorem ok_law_gate (F : At K mg "_law_gate" s_law_gate ["_law_cell"]) : Def P w K mg base 1 "_law_gate" ["_law_cell"] (spF K [.imm] .f m_law_gate) :=
  def_ok (N := ["_law_cell", "_law_inputs", "_law_some"]) (fs := [.imm]) (O := [.imm, .imm, .imm]) (O' := []) (Ol := []) (rm := .f) F sc_law_gate rfl (by decide) (by decide) fun f cdv A outer s H E hr =>
  (ss_cons (O1 := [.imm, .imm, .imm]) (ss_set 1 sc_law_gate.nd rfl (Or.inl rfl) (se_ix (sfp (sf_lst (si_cons se_int (si_cons se_int (si_cons se_int (si_cons se_int (si_cons se_int (si_cons se_int (si_cons se_int (si_cons se_int (si_cons se_int (si_cons se_int si_nil)))))))))))) (sp (se_bin od_mod (sp_var 0) (sp se_int))) (fun _ _ => rfl)))
    (ss_cons (O1 := [.imm, .imm, .imm]) (ss_set 0 sc_law_gate.nd rfl (Or.inl rfl) (se_bin od_fdiv (sp_var 0) (sp se_int)))
    (ss_cons (O1 := [.imm, .imm, .imm]) (ss_set 2 sc_law_gate.nd rfl (Or.inl rfl) (sfe (sf_lst (si_cons se_int (si_cons se_int (si_cons se_int (si_cons se_int (si_cons se_int (si_cons se_int (si_cons se_int (si_cons se_int si_nil)))))))))))
    (ss_cons (O1 := [.imm, .imm, .imm]) (ss_if (sw_pt (sw_and (st_cmp (od_eq hr.units) (sp_var 1) (sp se_int) (nomark _)) (sw_and1 (st_cmp (od_eq hr.units) (sp (se_bin od_mod (sp_var 0) (sp se_int))) (sp se_int) (nomark _))))) (ss_one (ss_ret (se_tup (si_cons se_int (si_cons (se_ix (sp_var 2) (sp (se_bin od_mod (sp (se_bin od_fdiv (sp_var 0) (sp se_int))) (sp se_int))) (fun _ _ => rfl)) si_nil))))) ss_nil)
    (ss_one (ss_ret (se_tup (si_cons (se_var 1) (si_cons (se_bin od_mod (sp (se_bin od_add (sp (se_bin od_mul (sp (se_bin od_fdiv (sp_var 0) (sp se_int))) (sp se_int))) (sp_var 0))) (sp (se_ix (sfp (sf_lst (si_cons se_int (si_cons se_int (si_cons se_int (si_cons se_int (si_cons se_int si_nil))))))) (sp_var 1) (fun _ _ => rfl)))) si_nil)))))))))
theorem ok_law_circuit (F : At K mg "_law_circuit" s_law_circuit ["_law_script", "_law_start", "_law_inputs", "_law_most"]) (d__law_cell_at : Def P w K mg base 1 "_law_cell_at" ["_law_script", "_law_k"] (spF K [.bor, .bor] .f m_law_cell_at)) (d__law_gate : Def P w K mg base 1 "_law_gate" ["_law_cell"] (spF K [.imm] .f m_law_gate)) (z_len : mg "len" = none) (z_range : mg "range" = none) (z_tuple : mg "tuple" = none) : Def P w K mg base 2 "_law_circuit" ["_law_script", "_law_start", "_law_inputs", "_law_most"] (spF K [.bor, .bor, .imm, .bor] .f m_law_circuit) :=
  def_ok (N := ["_law_script", "_law_start", "_law_inputs", "_law_most", "_law_steps", "_law_k", "_law_cell", "_law_gate_here", "_law_some", "_law_j", "_law_beyond", "_law_out_here"]) (fs := [.bor, .bor, .imm, .bor]) (O := [.bor, .bor, .imm, .bor, .own, .imm, .imm, .imm, .own, .imm, .imm, .imm]) (O' := []) (Ol := []) (rm := .f) F sc_law_circuit rfl (by decide) (by decide) fun f cdv A outer s H E hr =>
  (ss_cons (O1 := [.bor, .bor, .imm, .bor, .own, .imm, .imm, .imm, .own, .imm, .imm, .imm]) (ss_setF 4 sc_law_circuit.nd rfl (Or.inl rfl) (sf_lst si_nil))
    (ss_cons (O1 := [.bor, .bor, .imm, .bor, .own, .imm, .imm, .imm, .own, .imm, .imm, .imm]) (ss_for PassesOwn.never rfl [5, 6, 7, 8, 9] (Oe := [.bor, .bor, .imm, .bor, .own, .imm, .imm, .imm, .imm, .imm, .imm, .imm]) (si_range1 rfl z_range (sp (se_bin od_mod (sp (se_call d__law_cell_at (hr.mono (by decide)) rfl (sa_bor (sp_var 0) (sa_bor (sp_var 1) sa_nil)))) (sp (se_bin od_add (sp_var 3) (sp se_int)))))) (sg_name 5 sc_law_circuit.nd rfl (Or.inl rfl)) (ss_cons (O1 := [.bor, .bor, .imm, .bor, .own, .imm, .imm, .imm, .own, .imm, .imm, .imm]) (ss_set 6 sc_law_circuit.nd rfl (Or.inl rfl) (se_call d__law_cell_at (hr.mono (by decide)) rfl (sa_bor (sp_var 0) (sa_bor (sp (se_bin od_add (sp (se_bin od_add (sp_var 1) (sp se_int))) (sp_var 5))) sa_nil))))
    (ss_cons (O1 := [.bor, .bor, .imm, .bor, .own, .imm, .imm, .imm, .own, .imm, .imm, .imm]) (ss_set 7 sc_law_circuit.nd rfl (Or.inl rfl) (se_call d__law_gate (hr.mono (by decide)) rfl (sa_imm (se_var 6) sa_nil)))
    (ss_cons (O1 := [.bor, .bor, .imm, .bor, .own, .imm, .imm, .imm, .own, .imm, .imm, .imm]) (ss_if (st_cmp (od_eq hr.units) (sp (se_bin od_add (sp_var 2) (sp_var 5))) (sp se_int) (nomark _)) (ss_one (ss_set 7 sc_law_circuit.nd rfl (Or.inl rfl) (se_tup (si_cons se_int (si_cons (se_bin od_mod (sp (se_bin od_fdiv (sp_var 6) (sp se_int))) (sp se_int)) si_nil))))) ss_nil)
    (ss_cons (O1 := [.bor, .bor, .imm, .bor, .own, .imm, .imm, .imm, .own, .imm, .imm, .imm]) (ss_setF 8 sc_law_circuit.nd rfl (Or.inl rfl) (sf_lst si_nil))
    (ss_cons (O1 := [.bor, .bor, .imm, .bor, .own, .imm, .imm, .imm, .own, .imm, .imm, .imm]) (ss_for PassesOwn.never rfl [9] (Oe := [.bor, .bor, .imm, .bor, .own, .imm, .imm, .imm, .own, .imm, .imm, .imm]) (si_range1 rfl z_range (sp (se_ix (sp_var 7) (sp se_int) (fun _ _ => rfl)))) (sg_name 9 sc_law_circuit.nd rfl (Or.inl rfl)) (ss_one (ss_app 8 (se_bin od_mod (sp (se_bin od_add (sp (se_bin od_fdiv (sp_var 6) (sp se_int))) (sp (se_bin od_mul (sp (se_bin od_fdiv (sp_var 6) (sp (se_bin od_add (sp se_int) (sp (se_bin od_mul (sp se_int) (sp_var 9))))))) (sp (se_bin od_add (sp_var 9) (sp se_int))))))) (sp (se_bin od_add (sp_var 2) (sp_var 5)))))) (by decide))
    (ss_cons (O1 := [.bor, .bor, .imm, .bor, .own, .imm, .imm, .imm, .imm, .imm, .imm, .imm]) (ss_if (sw_pt (sw_and (st_cmp od_gt (sp_var 5) (sp se_int) (nomark _)) (sw_and1 (st_cmp (od_eq hr.units) (sp (se_bin od_mod (sp (se_bin od_fdiv (sp_var 6) (sp se_int))) (sp se_int))) (sp se_int) (nomark _))))) (ss_one (ss_asg (se_ix (sp_var 4) (sp (se_bin od_mod (sp (se_bin od_fdiv (sp_var 6) (sp se_int))) (sp_var 5))) (fun _ _ => rfl)) (sg_tup rfl (sgs_cons (O1 := [.bor, .bor, .imm, .bor, .own, .imm, .imm, .imm, .own, .imm, .imm, .imm]) (sg_name 7 sc_law_circuit.nd rfl (Or.inl rfl)) (sgs_cons (O1 := [.bor, .bor, .imm, .bor, .own, .imm, .imm, .imm, .imm, .imm, .imm, .imm]) (sg_name 8 sc_law_circuit.nd rfl (Or.inl rfl)) sgs_nil))))) (se_frz 8 (O' := [.bor, .bor, .imm, .bor, .own, .imm, .imm, .imm, .own, .imm, .imm, .imm]) ss_nil))
    (ss_one (ss_app 4 (se_tup (si_cons (se_var 7) (si_cons (se_callTy cd_tuple rfl z_tuple (show bootBuiltins "tuple" = some (.type "tuple") by decide +kernel) (sa_bor (sp_var 8) sa_nil)) si_nil))))))))))) (by decide))
    (ss_cons (O1 := [.bor, .bor, .imm, .bor, .own, .imm, .imm, .imm, .own, .imm, .imm, .imm]) (ss_if (st_cmp (od_eq hr.units) (sp (se_bin od_add (sp_var 2) (sp (se_callB cd_len rfl z_len (show bootBuiltins "len" = some (.builtin "len") by decide +kernel) (sa_bor (sp_var 4) sa_nil))))) (sp se_int) (nomark _)) (ss_one (ss_setF 4 sc_law_circuit.nd rfl (Or.inl rfl) (sf_lst (si_cons (se_tup (si_cons (se_tup (si_cons se_int (si_cons se_int si_nil))) (si_cons (se_tup si_nil) si_nil))) si_nil)))) ss_nil)
    (ss_cons (O1 := [.bor, .bor, .imm, .bor, .own, .imm, .imm, .imm, .own, .imm, .imm, .imm]) (ss_set 10 sc_law_circuit.nd rfl (Or.inl rfl) (se_bin od_add (sp_var 2) (sp (se_callB cd_len rfl z_len (show bootBuiltins "len" = some (.builtin "len") by decide +kernel) (sa_bor (sp_var 4) sa_nil)))))
    (ss_cons (O1 := [.bor, .bor, .imm, .bor, .own, .imm, .imm, .imm, .own, .imm, .imm, .imm]) (ss_set 11 sc_law_circuit.nd rfl (Or.inl rfl) (se_bin od_sub (sp_var 10) (sp se_int)))
    (ss_cons (O1 := [.bor, .bor, .imm, .bor, .own, .imm, .imm, .imm, .own, .imm, .imm, .imm]) (ss_if (st_cmp (od_eq hr.units) (sp (se_bin od_mod (sp (se_call d__law_cell_at (hr.mono (by decide)) rfl (sa_bor (sp_var 0) (sa_bor (sp (se_bin od_add (sp (se_bin od_add (sp_var 1) (sp_var 3))) (sp se_int))) sa_nil)))) (sp se_int))) (sp se_int) (nomark _)) (ss_one (ss_set 11 sc_law_circuit.nd rfl (Or.inl rfl) (se_bin od_mod (sp (se_bin od_fdiv (sp (se_call d__law_cell_at (hr.mono (by decide)) rfl (sa_bor (sp_var 0) (sa_bor (sp (se_bin od_add (sp (se_bin od_add (sp_var 1) (sp_var 3))) (sp se_int))) sa_nil)))) (sp se_int))) (sp_var 10)))) ss_nil)
    (ss_one (ss_ret (se_tup (si_cons (se_var 2) (si_cons (se_callTy cd_tuple rfl z_tuple (show bootBuiltins "tuple" = some (.type "tuple") by decide +kernel) (sa_bor (sp_var 4) sa_nil)) (si_cons (se_var 11) si_nil))))))))))))
theorem ok_law_out (F : At K mg "_law_out" s_law_out ["_law_circuit_here", "_law_row"]) (z_enumerate : mg "enumerate" = none) (z_range : mg "range" = none) (z_sum : mg "sum" = none) : Def P w K mg base 1 "_law_out" ["_law_circuit_here", "_law_row"] (spF K [.bor, .bor] .f m_law_out) :=
  def_ok (N := ["_law_circuit_here", "_law_row", "_law_found", "_law_gate_here", "_law_some", "_law_at"]) (fs := [.bor, .bor]) (O := [.bor, .bor, .own, .imm, .imm, .imm]) (O' := []) (Ol := []) (rm := .f) F sc_law_out rfl (by decide) (by decide) fun f cdv A outer s H E hr =>
  (ss_cons (O1 := [.bor, .bor, .own, .imm, .imm, .imm]) (ss_setF 2 sc_law_out.nd rfl (Or.inr rfl) (sf_comp ["_law_j"] [1] (Ob := [.imm, .bor]) (O1 := [.imm, .bor]) (is := [0]) rfl rfl rfl rfl (by decide) (sc_range1 rfl z_range (sp (se_ix (sp_var 0) (sp se_int) (fun _ _ => rfl)))) (fun _ _ _ _ _ => (sg_name 0 (show List.Nodup (["_law_j", "_law_row"] : List Str) by decide +kernel) rfl (Or.inl rfl))) (fun _ _ _ _ _ => sifs_nil) (fun _ _ _ _ _ => (se_bin od_and (sp (se_bin od_shr (sp_var 1) (sp_var 0))) (sp se_int)))))
    (ss_cons (O1 := [.bor, .bor, .own, .imm, .imm, .imm]) (ss_for PassesOwn.never rfl [3, 4, 5] (Oe := [.bor, .bor, .own, .imm, .imm, .imm]) (si_seq (sq (se_ix (sp_var 0) (sp se_int) (fun _ _ => rfl)))) (sg_tup rfl (sgs_cons (O1 := [.bor, .bor, .own, .imm, .imm, .imm]) (sg_name 3 sc_law_out.nd rfl (Or.inl rfl)) (sgs_cons (O1 := [.bor, .bor, .own, .imm, .imm, .imm]) (sg_name 4 sc_law_out.nd rfl (Or.inl rfl)) sgs_nil))) (ss_cons (O1 := [.bor, .bor, .own, .imm, .imm, .imm]) (ss_set 5 sc_law_out.nd rfl (Or.inl rfl) (se_callB (cd_sum rfl) rfl z_sum (show bootBuiltins "sum" = some (.builtin "sum") by decide +kernel) (sa_bor (sfp (sf_comp ["_law_k", "_law_wire"] [2] (Ob := [.imm, .imm, .bor]) (O1 := [.imm, .imm, .bor]) (is := [0, 1]) rfl rfl rfl rfl (by decide) (sc_enum rfl z_enumerate (sp_var 4)) (fun _ _ _ _ _ => (sg_tup rfl (sgs_cons (O1 := [.imm, .imm, .bor]) (sg_name 0 (show List.Nodup (["_law_k", "_law_wire", "_law_found"] : List Str) by decide +kernel) rfl (Or.inl rfl)) (sgs_cons (O1 := [.imm, .imm, .bor]) (sg_name 1 (show List.Nodup (["_law_k", "_law_wire", "_law_found"] : List Str) by decide +kernel) rfl (Or.inl rfl)) sgs_nil)))) (fun _ _ _ _ _ => sifs_nil) (fun _ _ _ _ _ => (se_bin od_shl (sp (se_ix (sp_var 2) (sp_var 1) (fun _ _ => rfl))) (sp_var 0))))) sa_nil)))
    (ss_one (ss_app 2 (se_bin od_and (sp (se_bin od_shr (sp (se_ix (sp_var 3) (sp se_int) (fun _ _ => rfl))) (sp_var 5))) (sp se_int))))) (by decide))
    (ss_one (ss_ret (se_ix (sp_var 2) (sp (se_ix (sp_var 0) (sp se_int) (fun _ _ => rfl))) (fun _ _ => rfl))))))
theorem ok_law_ordered (F : At K mg "_law_ordered" s_law_ordered ["_law_row", "_law_order"]) (z_enumerate : mg "enumerate" = none) (z_sum : mg "sum" = none) : Def P w K mg base 1 "_law_ordered" ["_law_row", "_law_order"] (spF K [.bor, .bor] .f m_law_ordered) :=
  def_ok (N := ["_law_row", "_law_order"]) (fs := [.bor, .bor]) (O := [.bor, .bor]) (O' := []) (Ol := []) (rm := .f) F sc_law_ordered rfl (by decide) (by decide) fun f cdv A outer s H E hr =>
  (ss_one (ss_ret (se_callB (cd_sum rfl) rfl z_sum (show bootBuiltins "sum" = some (.builtin "sum") by decide +kernel) (sa_bor (sfp (sf_comp ["_law_k", "_law_at"] [0] (Ob := [.imm, .imm, .bor]) (O1 := [.imm, .imm, .bor]) (is := [0, 1]) rfl rfl rfl rfl (by decide) (sc_enum rfl z_enumerate (sp_var 1)) (fun _ _ _ _ _ => (sg_tup rfl (sgs_cons (O1 := [.imm, .imm, .bor]) (sg_name 0 (show List.Nodup (["_law_k", "_law_at", "_law_row"] : List Str) by decide +kernel) rfl (Or.inl rfl)) (sgs_cons (O1 := [.imm, .imm, .bor]) (sg_name 1 (show List.Nodup (["_law_k", "_law_at", "_law_row"] : List Str) by decide +kernel) rfl (Or.inl rfl)) sgs_nil)))) (fun _ _ _ _ _ => sifs_nil) (fun _ _ _ _ _ => (se_bin od_shl (sp (se_bin od_and (sp (se_bin od_shr (sp_var 2) (sp_var 1))) (sp se_int))) (sp_var 0))))) sa_nil))))
theorem ok_law_spread (F : At K mg "_law_spread" s_law_spread ["_law_circuit_here"]) (d_tree_circuit : Def P w K mg base 103 "tree_circuit" ["tree", "inputs"] (spF K [.imm, .imm] .f m_tree_circuit)) (d_spread : Def P w K mg base 2 "spread" ["circuit"] (spF K [.bor] .f m_spread)) {c_TooBig : Addr} (g_TooBig : mg "TooBig" = some (.ref c_TooBig)) (sm_TooBig : SupMatch K c_TooBig c_TooBig) (dz_spread : DefX P w K mg base 2 "spread" ["circuit"] (spZ K [.bor] (fun _ => c_TooBig) z_spread)) : Def P w K mg base 104 "_law_spread" ["_law_circuit_here"] (spF K [.imm] .f m_law_spread) :=
  def_ok (N := ["_law_circuit_here", "_law_found"]) (fs := [.imm]) (O := [.imm, .imm]) (O' := []) (Ol := []) (rm := .f) F sc_law_spread rfl (by decide) (by decide) fun f cdv A outer s H E hr =>
  (ss_cons (O1 := [.imm, .imm]) (ss_set 1 sc_law_spread.nd rfl (Or.inl rfl) se_non)
    (ss_cons (O1 := [.imm, .imm]) (ss_tryN 1 (fun _ _ h => h) rfl rfl rfl sc_law_spread.nd (ss_set 1 sc_law_spread.nd rfl (Or.inl rfl) (se_call d_spread (hr.mono (by decide)) rfl (sa_bor (sp_var 0) sa_nil))) (xs_set (fun _ _ h => h) dz_spread (hr.mono (by decide)) rfl (sa_bor (sp_var 0) sa_nil)) rfl (Or.inl rfl) sm_TooBig rfl g_TooBig (of_decide_eq_true rfl))
    (ss_cons (O1 := [.imm, .imm]) (ss_if (st_cmp od_isN (sp_var 1) (sp se_non) (nomark _)) (ss_one (ss_ret (se_var 0))) ss_nil)
    (ss_one (ss_ret (se_call d_tree_circuit (hr.mono (by decide)) rfl (sa_imm (se_var 1) (sa_imm (se_ix (sp_var 0) (sp se_int) (fun _ _ => rfl)) sa_nil))))))))
theorem ok_law_changed (F : At K mg "_law_changed" s_law_changed ["_law_circuit_here", "_law_values", "_law_cell"]) (d__law_spread : Def P w K mg base 104 "_law_spread" ["_law_circuit_here"] (spF K [.imm] .f m_law_spread)) (d_shared : Def P w K mg base 3 "shared" ["circuit"] (spF K [.bor] .f m_shared)) (d_turned_circuit : Def P w K mg base 5 "turned_circuit" ["circuit"] (spF K [.bor] .f m_turned_circuit)) (d_joined : Def P w K mg base 3 "joined" ["circuit", "parts"] (spF K [.imm, .bor] .f m_joined)) (d__law_ordered : Def P w K mg base 1 "_law_ordered" ["_law_row", "_law_order"] (spF K [.bor, .bor] .f m_law_ordered)) (z_len : mg "len" = none) (z_list : mg "list" = none) (z_range : mg "range" = none) : Def P w K mg base 105 "_law_changed" ["_law_circuit_here", "_law_values", "_law_cell"] (spF K [.imm, .bor, .bor] .f m_law_changed) :=
  def_ok (N := ["_law_circuit_here", "_law_values", "_law_cell", "_law_inputs", "_law_rows", "_law_order", "_law_parts", "_law_later"]) (fs := [.imm, .bor, .bor]) (O := [.imm, .bor, .bor, .imm, .imm, .imm, .imm, .imm]) (O' := []) (Ol := []) (rm := .f) F sc_law_changed rfl (by decide) (by decide) fun f cdv A outer s H E hr =>
  (ss_cons (O1 := [.imm, .bor, .bor, .imm, .imm, .imm, .imm, .imm]) (ss_set 3 sc_law_changed.nd rfl (Or.inr rfl) (se_ix (sp_var 0) (sp se_int) (fun _ _ => rfl)))
    (ss_cons (O1 := [.imm, .bor, .bor, .imm, .imm, .imm, .imm, .imm]) (ss_set 4 sc_law_changed.nd rfl (Or.inr rfl) (se_callB cd_len rfl z_len (show bootBuiltins "len" = some (.builtin "len") by decide +kernel) (sa_bor (sp_var 1) sa_nil)))
    (ss_cons (O1 := [.imm, .bor, .bor, .imm, .imm, .imm, .imm, .imm]) (ss_if (st_cmp (od_eq hr.units) (sp (se_bin od_mod (sp_var 2) (sp se_int))) (sp se_int) (nomark _)) (ss_one (ss_ret (se_tup (si_cons (se_call d_shared (hr.mono (by decide)) rfl (sa_bor (sp_var 0) sa_nil)) (si_cons (sfe (sf_callTy cf_list rfl z_list (show bootBuiltins "list" = some (.type "list") by decide +kernel) (sa_bor (sp_var 1) sa_nil))) (si_cons (se_callB cd_len rfl z_len (show bootBuiltins "len" = some (.builtin "len") by decide +kernel) (sa_bor (sp (se_ix (sp_var 0) (sp se_int) (fun _ _ => rfl))) sa_nil)) si_nil)))))) ss_nil)
    (ss_cons (O1 := [.imm, .bor, .bor, .imm, .imm, .imm, .imm, .imm]) (ss_if (st_cmp (od_eq hr.units) (sp (se_bin od_mod (sp_var 2) (sp se_int))) (sp se_int) (nomark _)) (ss_one (ss_ret (se_tup (si_cons (se_call d_turned_circuit (hr.mono (by decide)) rfl (sa_bor (sp_var 0) sa_nil)) (si_cons (sfe (sf_comp ["_law_row"] [1, 4] (Ob := [.imm, .bor, .imm]) (O1 := [.imm, .bor, .imm]) (is := [0]) rfl rfl rfl rfl (by decide) (sc_range1 rfl z_range (sp_var 4)) (fun _ _ _ _ _ => (sg_name 0 (show List.Nodup (["_law_row", "_law_values", "_law_rows"] : List Str) by decide +kernel) rfl (Or.inl rfl))) (fun _ _ _ _ _ => sifs_nil) (fun _ _ _ _ _ => (se_bin od_sub (sp se_int) (sp (se_ix (sp_var 1) (sp (se_bin od_sub (sp (se_bin od_sub (sp_var 2) (sp se_int))) (sp_var 0))) (fun _ _ => rfl))))))) (si_cons (se_callB cd_len rfl z_len (show bootBuiltins "len" = some (.builtin "len") by decide +kernel) (sa_bor (sp (se_ix (sp_var 0) (sp se_int) (fun _ _ => rfl))) sa_nil)) si_nil)))))) ss_nil)
    (ss_cons (O1 := [.imm, .bor, .bor, .imm, .imm, .imm, .imm, .imm]) (ss_if (st_cmp (od_eq hr.units) (sp (se_bin od_mod (sp_var 2) (sp se_int))) (sp se_int) (nomark _)) (ss_cons (O1 := [.imm, .bor, .bor, .imm, .imm, .imm, .imm, .imm]) (ss_set 5 sc_law_changed.nd rfl (Or.inr rfl) (sfe (sf_comp ["_law_k"] [2, 3] (Ob := [.imm, .bor, .imm]) (O1 := [.imm, .bor, .imm]) (is := [0]) rfl rfl rfl rfl (by decide) (sc_range1 rfl z_range (sp_var 3)) (fun _ _ _ _ _ => (sg_name 0 (show List.Nodup (["_law_k", "_law_cell", "_law_inputs"] : List Str) by decide +kernel) rfl (Or.inl rfl))) (fun _ _ _ _ _ => sifs_nil) (fun _ _ _ _ _ => (se_bin od_mod (sp (se_bin od_fdiv (sp_var 1) (sp (se_bin od_add (sp se_int) (sp (se_bin od_mul (sp se_int) (sp_var 0))))))) (sp_var 2))))))
    (ss_cons (O1 := [.imm, .bor, .bor, .imm, .imm, .imm, .own, .imm]) (ss_setC 6 ["_law_at"] [3] (Ob := [.imm, .imm]) (O1 := [.imm, .imm]) (is := [0]) sc_law_changed.nd rfl (Or.inl rfl) rfl rfl rfl rfl (by decide) (sc_seq (sp_var 5)) (fun _ _ _ _ _ => (sg_name 0 (show List.Nodup (["_law_at", "_law_inputs"] : List Str) by decide +kernel) rfl (Or.inl rfl))) (fun _ _ _ _ _ => sifs_nil) (fun _ _ _ _ _ => (se_tup (si_cons (se_var 1) (si_cons (se_tup si_nil) (si_cons (se_var 0) si_nil))))))
    (ss_cons (O1 := [.imm, .bor, .bor, .imm, .imm, .imm, .own, .own]) (ss_setC 7 ["_law_row"] [1, 5] (Ob := [.imm, .bor, .imm]) (O1 := [.imm, .bor, .imm]) (is := [0]) sc_law_changed.nd rfl (Or.inl rfl) rfl rfl rfl rfl (by decide) (sc_range1 rfl z_range (sp_var 4)) (fun _ _ _ _ _ => (sg_name 0 (show List.Nodup (["_law_row", "_law_values", "_law_order"] : List Str) by decide +kernel) rfl (Or.inl rfl))) (fun _ _ _ _ _ => sifs_nil) (fun _ _ _ _ _ => (se_ix (sp_var 1) (sp (se_call d__law_ordered (hr.mono (by decide)) rfl (sa_bor (sp_var 0) (sa_bor (sp_var 2) sa_nil)))) (fun _ _ => rfl))))
    (ss_one (s1_frz 7 (O2 := [.imm, .bor, .bor, .imm, .imm, .imm, .own, .imm]) (ss_ret (se_tup (si_cons (se_call d_joined (hr.mono (by decide)) rfl (sa_imm (se_var 0) (sa_bor (sp_var 6) sa_nil))) (si_cons (se_var 7) (si_cons (se_callB cd_len rfl z_len (show bootBuiltins "len" = some (.builtin "len") by decide +kernel) (sa_bor (sp (se_ix (sp_var 0) (sp se_int) (fun _ _ => rfl))) sa_nil)) si_nil)))))))))) ss_nil)
    (ss_one (ss_ret (se_tup (si_cons (se_call d__law_spread (hr.mono (by decide)) rfl (sa_imm (se_var 0) sa_nil)) (si_cons (sfe (sf_callTy cf_list rfl z_list (show bootBuiltins "list" = some (.type "list") by decide +kernel) (sa_bor (sp_var 1) sa_nil))) (si_cons (se_bin od_add (sp se_int) (sp (se_callB cd_len rfl z_len (show bootBuiltins "len" = some (.builtin "len") by decide +kernel) (sa_bor (sp (se_ix (sp_var 0) (sp se_int) (fun _ _ => rfl))) sa_nil)))) si_nil)))))))))))
theorem ok_law {fa : Addr} {fd : FuncData} (F : Fun K "law" "law" s_law fa fd) (d__law_circuit : Def P w K mg base 2 "_law_circuit" ["_law_script", "_law_start", "_law_inputs", "_law_most"] (spF K [.bor, .bor, .imm, .bor] .f m_law_circuit)) (d__law_out : Def P w K mg base 1 "_law_out" ["_law_circuit_here", "_law_row"] (spF K [.bor, .bor] .f m_law_out)) (d__law_changed : Def P w K mg base 105 "_law_changed" ["_law_circuit_here", "_law_values", "_law_cell"] (spF K [.imm, .bor, .bor] .f m_law_changed)) (d_gate_of : Def P w K mg base 5 "gate_of" ["circuit"] (spF K [.bor] .f m_gate_of)) (d__law_cell_at : Def P w K mg base 1 "_law_cell_at" ["_law_script", "_law_k"] (spF K [.bor, .bor] .f m_law_cell_at)) (d_is_circuit : Def P w K mg base 5 "is_circuit" ["thing"] (spF K [.bor] .f m_is_circuit)) (z_enumerate : mg "enumerate" = none) (z_len : mg "len" = none) (z_range : mg "range" = none) (z_sum : mg "sum" = none) : FnOk P w K mg base CX0 106 fa fd ["_law_script"] (spF K [.bor] .f m_law) :=
  def_okF (N := ["_law_script", "_law_circuit_here", "_law_values", "_law_k", "_law_most"]) (fs := [.bor]) (O := [.bor, .imm, .imm, .imm, .imm]) (O' := []) (Ol := []) (rm := .f) F sc_law rfl (by decide) (by decide) fun f cdv A outer s H E hr =>
  (ss_cons (O1 := [.bor, .imm, .imm, .imm, .imm]) (ss_set 1 sc_law.nd rfl (Or.inr rfl) (se_call d__law_circuit (hr.mono (by decide)) rfl (sa_bor (sp_var 0) (sa_bor (sp se_int) (sa_imm (se_bin od_mod (sp (se_call d__law_cell_at (hr.mono (by decide)) rfl (sa_bor (sp_var 0) (sa_bor (sp se_int) sa_nil)))) (sp se_int)) (sa_bor (sp se_int) sa_nil))))))
    (ss_cons (O1 := [.bor, .imm, .own, .imm, .imm]) (ss_setC 2 ["_law_row"] [1] (Ob := [.imm, .imm]) (O1 := [.imm, .imm]) (is := [0]) sc_law.nd rfl (Or.inl rfl) rfl rfl rfl rfl (by decide) (sc_range1 rfl z_range (sp (se_bin od_shl (sp se_int) (sp (se_ix (sp_var 1) (sp se_int) (fun _ _ => rfl)))))) (fun _ _ _ _ _ => (sg_name 0 (show List.Nodup (["_law_row", "_law_circuit_here"] : List Str) by decide +kernel) rfl (Or.inl rfl))) (fun _ _ _ _ _ => sifs_nil) (fun _ _ _ _ _ => (se_call d__law_out (hr.mono (by decide)) rfl (sa_bor (sp_var 1) (sa_bor (sp_var 0) sa_nil)))))
    (ss_cons (O1 := [.bor, .imm, .imm, .imm, .imm]) (s1_frz 2 (O2 := [.bor, .imm, .imm, .imm, .imm]) (ss_for PassesOwn.never rfl [3, 4] (Oe := [.bor, .imm, .imm, .imm, .imm]) (si_range1 rfl z_range (sp (se_bin od_add (sp se_int) (sp (se_bin od_mod (sp (se_call d__law_cell_at (hr.mono (by decide)) rfl (sa_bor (sp_var 0) (sa_bor (sp se_int) sa_nil)))) (sp se_int)))))) (sg_name 3 sc_law.nd rfl (Or.inl rfl)) (ss_cons (O1 := [.bor, .imm, .imm, .imm, .imm]) (ss_asg (se_call d__law_changed (hr.mono (by decide)) rfl (sa_imm (se_var 1) (sa_bor (sp_var 2) (sa_bor (sp (se_call d__law_cell_at (hr.mono (by decide)) rfl (sa_bor (sp_var 0) (sa_bor (sp (se_bin od_add (sp se_int) (sp_var 3))) sa_nil)))) sa_nil)))) (sg_tup rfl (sgs_cons (O1 := [.bor, .imm, .imm, .imm, .imm]) (sg_name 1 sc_law.nd rfl (Or.inr rfl)) (sgs_cons (O1 := [.bor, .imm, .imm, .imm, .imm]) (sg_name 2 sc_law.nd rfl (Or.inl rfl)) (sgs_cons (O1 := [.bor, .imm, .imm, .imm, .imm]) (sg_name 4 sc_law.nd rfl (Or.inl rfl)) sgs_nil)))))
    (ss_cons (O1 := [.bor, .imm, .imm, .imm, .imm]) (ss_if (sw_pt (sw_or (st_cmp od_notB (sp (se_call d_is_circuit (hr.mono (by decide)) rfl (sa_bor (sp_var 1) sa_nil))) (sp se_bl) (nomark _)) (sw_or1 (st_cmp od_gt (sp (se_callB cd_len rfl z_len (show bootBuiltins "len" = some (.builtin "len") by decide +kernel) (sa_bor (sp (se_ix (sp_var 1) (sp se_int) (fun _ _ => rfl))) sa_nil))) (sp_var 4) (nomark _))))) (ss_one (ss_ret se_bl)) ss_nil)
    (ss_one (ss_if (st_cmp (od_ne hr.units) (sfp (sf_comp ["_law_row"] [1] (Ob := [.imm, .imm]) (O1 := [.imm, .imm]) (is := [0]) rfl rfl rfl rfl (by decide) (sc_range1 rfl z_range (sp (se_callB cd_len rfl z_len (show bootBuiltins "len" = some (.builtin "len") by decide +kernel) (sa_bor (sp_var 2) sa_nil)))) (fun _ _ _ _ _ => (sg_name 0 (show List.Nodup (["_law_row", "_law_circuit_here"] : List Str) by decide +kernel) rfl (Or.inl rfl))) (fun _ _ _ _ _ => sifs_nil) (fun _ _ _ _ _ => (se_call d__law_out (hr.mono (by decide)) rfl (sa_bor (sp_var 1) (sa_bor (sp_var 0) sa_nil)))))) (sp_var 2) (nomark _)) (ss_one (ss_ret se_bl)) ss_nil)))) (by decide)))
    (ss_one (ss_ret (se_cmp (od_eq hr.units) (sp (se_call d_gate_of (hr.mono (by decide)) rfl (sa_bor (sp_var 1) sa_nil))) (sp (se_tup (si_cons (se_ix (sp_var 1) (sp se_int) (fun _ _ => rfl)) (si_cons (se_callB (cd_sum rfl) rfl z_sum (show bootBuiltins "sum" = some (.builtin "sum") by decide +kernel) (sa_bor (sfp (sf_comp ["_law_row", "_law_bit"] [] (Ob := [.imm, .imm]) (O1 := [.imm, .imm]) (is := [0, 1]) rfl rfl rfl rfl (by decide) (sc_enum rfl z_enumerate (sp_var 2)) (fun _ _ _ _ _ => (sg_tup rfl (sgs_cons (O1 := [.imm, .imm]) (sg_name 0 (show List.Nodup (["_law_row", "_law_bit"] : List Str) by decide +kernel) rfl (Or.inl rfl)) (sgs_cons (O1 := [.imm, .imm]) (sg_name 1 (show List.Nodup (["_law_row", "_law_bit"] : List Str) by decide +kernel) rfl (Or.inl rfl)) sgs_nil)))) (fun _ _ _ _ _ => sifs_nil) (fun _ _ _ _ _ => (se_bin od_shl (sp_var 1) (sp_var 0))))) sa_nil)) si_nil)))) (nomark _)))))))
end
theorem all_mk {l : PySem.W.OpenLaw} {w : World} {K : PySem.W.Frag} {h : Heap} {mg : Str → Option Value} {fa : Addr} (X : K.In h) (G : h.Ns mainGlobals mg) (hfa : mg "law" = some (.ref fa))
    {f0 : Addr} {od0 an0 : Option Addr} {sl0 : Array (Option Value)} {oc0 kV0 dc0 pm0 cd0 ct0 : Value}
    {f1 : Addr} {od1 an1 : Option Addr} {sl1 : Array (Option Value)} {oc1 kV1 dc1 pm1 cd1 ct1 : Value}
    {f2 : Addr} {od2 an2 : Option Addr} {sl2 : Array (Option Value)} {oc2 kV2 dc2 pm2 cd2 ct2 : Value}
    {f3 : Addr} {od3 an3 : Option Addr} {sl3 : Array (Option Value)} {oc3 kV3 dc3 pm3 cd3 ct3 : Value}
    {f4 : Addr} {od4 an4 : Option Addr} {sl4 : Array (Option Value)} {oc4 kV4 dc4 pm4 cd4 ct4 : Value}
    {f5 : Addr} {od5 an5 : Option Addr} {sl5 : Array (Option Value)} {oc5 kV5 dc5 pm5 cd5 ct5 : Value}
    {f6 : Addr} {od6 an6 : Option Addr} {sl6 : Array (Option Value)} {oc6 kV6 dc6 pm6 cd6 ct6 : Value}
    {f7 : Addr} {od7 an7 : Option Addr} {sl7 : Array (Option Value)} {oc7 kV7 dc7 pm7 cd7 ct7 : Value}
    {f8 : Addr} {od8 an8 : Option Addr} {sl8 : Array (Option Value)} {oc8 kV8 dc8 pm8 cd8 ct8 : Value}
    {f9 : Addr} {od9 an9 : Option Addr} {sl9 : Array (Option Value)} {oc9 kV9 dc9 pm9 cd9 ct9 : Value}
    {f10 : Addr} {od10 an10 : Option Addr} {sl10 : Array (Option Value)} {oc10 kV10 dc10 pm10 cd10 ct10 : Value}
    {f11 : Addr} {od11 an11 : Option Addr} {sl11 : Array (Option Value)} {oc11 kV11 dc11 pm11 cd11 ct11 : Value}
    {f12 : Addr} {od12 an12 : Option Addr} {sl12 : Array (Option Value)} {oc12 kV12 dc12 pm12 cd12 ct12 : Value}
    {f13 : Addr} {od13 an13 : Option Addr} {sl13 : Array (Option Value)} {oc13 kV13 dc13 pm13 cd13 ct13 : Value}
    {f14 : Addr} {od14 an14 : Option Addr} {sl14 : Array (Option Value)} {oc14 kV14 dc14 pm14 cd14 ct14 : Value}
    {f15 : Addr} {od15 an15 : Option Addr} {sl15 : Array (Option Value)} {oc15 kV15 dc15 pm15 cd15 ct15 : Value}
    {f16 : Addr} {od16 an16 : Option Addr} {sl16 : Array (Option Value)} {oc16 kV16 dc16 pm16 cd16 ct16 : Value}
    {f17 : Addr} {od17 an17 : Option Addr} {sl17 : Array (Option Value)} {oc17 kV17 dc17 pm17 cd17 ct17 : Value}
    {f18 : Addr} {od18 an18 : Option Addr} {sl18 : Array (Option Value)} {oc18 kV18 dc18 pm18 cd18 ct18 : Value}
    {f19 : Addr} {od19 an19 : Option Addr} {sl19 : Array (Option Value)} {oc19 kV19 dc19 pm19 cd19 ct19 : Value}
    {f20 : Addr} {od20 an20 : Option Addr} {sl20 : Array (Option Value)} {oc20 kV20 dc20 pm20 cd20 ct20 : Value}
    {f21 : Addr} {od21 an21 : Option Addr} {sl21 : Array (Option Value)} {oc21 kV21 dc21 pm21 cd21 ct21 : Value}
    {f22 : Addr} {od22 an22 : Option Addr} {sl22 : Array (Option Value)} {oc22 kV22 dc22 pm22 cd22 ct22 : Value}
    {f23 : Addr} {od23 an23 : Option Addr} {sl23 : Array (Option Value)} {oc23 kV23 dc23 pm23 cd23 ct23 : Value}
    {f24 : Addr} {od24 an24 : Option Addr} {sl24 : Array (Option Value)} {oc24 kV24 dc24 pm24 cd24 ct24 : Value}
    {f25 : Addr} {od25 an25 : Option Addr} {sl25 : Array (Option Value)} {oc25 kV25 dc25 pm25 cd25 ct25 : Value}
    {f26 : Addr} {od26 an26 : Option Addr} {sl26 : Array (Option Value)} {oc26 kV26 dc26 pm26 cd26 ct26 : Value}
    {f27 : Addr} {od27 an27 : Option Addr} {sl27 : Array (Option Value)} {oc27 kV27 dc27 pm27 cd27 ct27 : Value}
    {f28 : Addr} {od28 an28 : Option Addr} {sl28 : Array (Option Value)} {oc28 kV28 dc28 pm28 cd28 ct28 : Value}
    {f29 : Addr} {od29 an29 : Option Addr} {sl29 : Array (Option Value)} {oc29 kV29 dc29 pm29 cd29 ct29 : Value}
    {f30 : Addr} {od30 an30 : Option Addr} {sl30 : Array (Option Value)} {oc30 kV30 dc30 pm30 cd30 ct30 : Value}
    {f31 : Addr} {od31 an31 : Option Addr} {sl31 : Array (Option Value)} {oc31 kV31 dc31 pm31 cd31 ct31 : Value}
    {f32 : Addr} {od32 an32 : Option Addr} {sl32 : Array (Option Value)} {oc32 kV32 dc32 pm32 cd32 ct32 : Value}
    {f33 : Addr} {od33 an33 : Option Addr} {sl33 : Array (Option Value)} {oc33 kV33 dc33 pm33 cd33 ct33 : Value}
    {f34 : Addr} {od34 an34 : Option Addr} {sl34 : Array (Option Value)} {oc34 kV34 dc34 pm34 cd34 ct34 : Value}
    {f35 : Addr} {od35 an35 : Option Addr} {sl35 : Array (Option Value)} {oc35 kV35 dc35 pm35 cd35 ct35 : Value}
    {f36 : Addr} {od36 an36 : Option Addr} {sl36 : Array (Option Value)} {oc36 kV36 dc36 pm36 cd36 ct36 : Value}
    {f37 : Addr} {od37 an37 : Option Addr} {sl37 : Array (Option Value)} {oc37 kV37 dc37 pm37 cd37 ct37 : Value}
    {t_MOST_GATES : Tok}
    {t_MOST_INPUTS : Tok}
    {t_MOST_STEPS : Tok}
    {e_TooBig : Addr}
    (a0 : PySem.W.nsIn K mainGlobals "is_whole" = some (some (.ref f0))) (l0 : K.lookup f0 = some ⟨oc0, od0, .func (PySem.W.fnOf "is_whole" "is_whole" (defArgs s_is_whole) (defBody s_is_whole) (defScope s_is_whole) .none kV0 dc0 pm0 an0 cd0 ct0), sl0⟩) (c0 : PySem.W.codeIn K cd0 "is_whole" = true) (k0 : PySem.W.keepIn K (.ref f0) = true)
    (a1 : PySem.W.nsIn K mainGlobals "is_below" = some (some (.ref f1))) (l1 : K.lookup f1 = some ⟨oc1, od1, .func (PySem.W.fnOf "is_below" "is_below" (defArgs s_is_below) (defBody s_is_below) (defScope s_is_below) .none kV1 dc1 pm1 an1 cd1 ct1), sl1⟩) (c1 : PySem.W.codeIn K cd1 "is_below" = true) (k1 : PySem.W.keepIn K (.ref f1) = true)
    (a2 : PySem.W.nsIn K mainGlobals "is_tuple" = some (some (.ref f2))) (l2 : K.lookup f2 = some ⟨oc2, od2, .func (PySem.W.fnOf "is_tuple" "is_tuple" (defArgs s_is_tuple) (defBody s_is_tuple) (defScope s_is_tuple) .none kV2 dc2 pm2 an2 cd2 ct2), sl2⟩) (c2 : PySem.W.codeIn K cd2 "is_tuple" = true) (k2 : PySem.W.keepIn K (.ref f2) = true)
    (a3 : PySem.W.nsIn K mainGlobals "row_count" = some (some (.ref f3))) (l3 : K.lookup f3 = some ⟨oc3, od3, .func (PySem.W.fnOf "row_count" "row_count" (defArgs s_row_count) (defBody s_row_count) (defScope s_row_count) .none kV3 dc3 pm3 an3 cd3 ct3), sl3⟩) (c3 : PySem.W.codeIn K cd3 "row_count" = true) (k3 : PySem.W.keepIn K (.ref f3) = true)
    (a4 : PySem.W.nsIn K mainGlobals "table_limit" = some (some (.ref f4))) (l4 : K.lookup f4 = some ⟨oc4, od4, .func (PySem.W.fnOf "table_limit" "table_limit" (defArgs s_table_limit) (defBody s_table_limit) (defScope s_table_limit) .none kV4 dc4 pm4 an4 cd4 ct4), sl4⟩) (c4 : PySem.W.codeIn K cd4 "table_limit" = true) (k4 : PySem.W.keepIn K (.ref f4) = true)
    (a5 : PySem.W.nsIn K mainGlobals "full_table" = some (some (.ref f5))) (l5 : K.lookup f5 = some ⟨oc5, od5, .func (PySem.W.fnOf "full_table" "full_table" (defArgs s_full_table) (defBody s_full_table) (defScope s_full_table) .none kV5 dc5 pm5 an5 cd5 ct5), sl5⟩) (c5 : PySem.W.codeIn K cd5 "full_table" = true) (k5 : PySem.W.keepIn K (.ref f5) = true)
    (a6 : PySem.W.nsIn K mainGlobals "is_gate" = some (some (.ref f6))) (l6 : K.lookup f6 = some ⟨oc6, od6, .func (PySem.W.fnOf "is_gate" "is_gate" (defArgs s_is_gate) (defBody s_is_gate) (defScope s_is_gate) .none kV6 dc6 pm6 an6 cd6 ct6), sl6⟩) (c6 : PySem.W.codeIn K cd6 "is_gate" = true) (k6 : PySem.W.keepIn K (.ref f6) = true)
    (a7 : PySem.W.nsIn K mainGlobals "bit" = some (some (.ref f7))) (l7 : K.lookup f7 = some ⟨oc7, od7, .func (PySem.W.fnOf "bit" "bit" (defArgs s_bit) (defBody s_bit) (defScope s_bit) .none kV7 dc7 pm7 an7 cd7 ct7), sl7⟩) (c7 : PySem.W.codeIn K cd7 "bit" = true) (k7 : PySem.W.keepIn K (.ref f7) = true)
    (a8 : PySem.W.nsIn K mainGlobals "number_of" = some (some (.ref f8))) (l8 : K.lookup f8 = some ⟨oc8, od8, .func (PySem.W.fnOf "number_of" "number_of" (defArgs s_number_of) (defBody s_number_of) (defScope s_number_of) .none kV8 dc8 pm8 an8 cd8 ct8), sl8⟩) (c8 : PySem.W.codeIn K cd8 "number_of" = true) (k8 : PySem.W.keepIn K (.ref f8) = true)
    (a9 : PySem.W.nsIn K mainGlobals "input_table" = some (some (.ref f9))) (l9 : K.lookup f9 = some ⟨oc9, od9, .func (PySem.W.fnOf "input_table" "input_table" (defArgs s_input_table) (defBody s_input_table) (defScope s_input_table) .none kV9 dc9 pm9 an9 cd9 ct9), sl9⟩) (c9 : PySem.W.codeIn K cd9 "input_table" = true) (k9 : PySem.W.keepIn K (.ref f9) = true)
    (a10 : PySem.W.nsIn K mainGlobals "input_tables" = some (some (.ref f10))) (l10 : K.lookup f10 = some ⟨oc10, od10, .func (PySem.W.fnOf "input_tables" "input_tables" (defArgs s_input_tables) (defBody s_input_tables) (defScope s_input_tables) .none kV10 dc10 pm10 an10 cd10 ct10), sl10⟩) (c10 : PySem.W.codeIn K cd10 "input_tables" = true) (k10 : PySem.W.keepIn K (.ref f10) = true)
    (a11 : PySem.W.nsIn K mainGlobals "put_all" = some (some (.ref f11))) (l11 : K.lookup f11 = some ⟨oc11, od11, .func (PySem.W.fnOf "put_all" "put_all" (defArgs s_put_all) (defBody s_put_all) (defScope s_put_all) .none kV11 dc11 pm11 an11 cd11 ct11), sl11⟩) (c11 : PySem.W.codeIn K cd11 "put_all" = true) (k11 : PySem.W.keepIn K (.ref f11) = true)
    (a12 : PySem.W.nsIn K mainGlobals "put" = some (some (.ref f12))) (l12 : K.lookup f12 = some ⟨oc12, od12, .func (PySem.W.fnOf "put" "put" (defArgs s_put) (defBody s_put) (defScope s_put) .none kV12 dc12 pm12 an12 cd12 ct12), sl12⟩) (c12 : PySem.W.codeIn K cd12 "put" = true) (k12 : PySem.W.keepIn K (.ref f12) = true)
    (a13 : PySem.W.nsIn K mainGlobals "turned" = some (some (.ref f13))) (l13 : K.lookup f13 = some ⟨oc13, od13, .func (PySem.W.fnOf "turned" "turned" (defArgs s_turned) (defBody s_turned) (defScope s_turned) .none kV13 dc13 pm13 an13 cd13 ct13), sl13⟩) (c13 : PySem.W.codeIn K cd13 "turned" = true) (k13 : PySem.W.keepIn K (.ref f13) = true)
    (a14 : PySem.W.nsIn K mainGlobals "is_step" = some (some (.ref f14))) (l14 : K.lookup f14 = some ⟨oc14, od14, .func (PySem.W.fnOf "is_step" "is_step" (defArgs s_is_step) (defBody s_is_step) (defScope s_is_step) .none kV14 dc14 pm14 an14 cd14 ct14), sl14⟩) (c14 : PySem.W.codeIn K cd14 "is_step" = true) (k14 : PySem.W.keepIn K (.ref f14) = true)
    (a15 : PySem.W.nsIn K mainGlobals "is_circuit" = some (some (.ref f15))) (l15 : K.lookup f15 = some ⟨oc15, od15, .func (PySem.W.fnOf "is_circuit" "is_circuit" (defArgs s_is_circuit) (defBody s_is_circuit) (defScope s_is_circuit) .none kV15 dc15 pm15 an15 cd15 ct15), sl15⟩) (c15 : PySem.W.codeIn K cd15 "is_circuit" = true) (k15 : PySem.W.keepIn K (.ref f15) = true)
    (a16 : PySem.W.nsIn K mainGlobals "wires" = some (some (.ref f16))) (l16 : K.lookup f16 = some ⟨oc16, od16, .func (PySem.W.fnOf "wires" "wires" (defArgs s_wires) (defBody s_wires) (defScope s_wires) .none kV16 dc16 pm16 an16 cd16 ct16), sl16⟩) (c16 : PySem.W.codeIn K cd16 "wires" = true) (k16 : PySem.W.keepIn K (.ref f16) = true)
    (a17 : PySem.W.nsIn K mainGlobals "gate_of" = some (some (.ref f17))) (l17 : K.lookup f17 = some ⟨oc17, od17, .func (PySem.W.fnOf "gate_of" "gate_of" (defArgs s_gate_of) (defBody s_gate_of) (defScope s_gate_of) .none kV17 dc17 pm17 an17 cd17 ct17), sl17⟩) (c17 : PySem.W.codeIn K cd17 "gate_of" = true) (k17 : PySem.W.keepIn K (.ref f17) = true)
    (a18 : PySem.W.nsIn K mainGlobals "renamed" = some (some (.ref f18))) (l18 : K.lookup f18 = some ⟨oc18, od18, .func (PySem.W.fnOf "renamed" "renamed" (defArgs s_renamed) (defBody s_renamed) (defScope s_renamed) .none kV18 dc18 pm18 an18 cd18 ct18), sl18⟩) (c18 : PySem.W.codeIn K cd18 "renamed" = true) (k18 : PySem.W.keepIn K (.ref f18) = true)
    (a19 : PySem.W.nsIn K mainGlobals "add_circuit" = some (some (.ref f19))) (l19 : K.lookup f19 = some ⟨oc19, od19, .func (PySem.W.fnOf "add_circuit" "add_circuit" (defArgs s_add_circuit) (defBody s_add_circuit) (defScope s_add_circuit) .none kV19 dc19 pm19 an19 cd19 ct19), sl19⟩) (c19 : PySem.W.codeIn K cd19 "add_circuit" = true) (k19 : PySem.W.keepIn K (.ref f19) = true)
    (a20 : PySem.W.nsIn K mainGlobals "joined" = some (some (.ref f20))) (l20 : K.lookup f20 = some ⟨oc20, od20, .func (PySem.W.fnOf "joined" "joined" (defArgs s_joined) (defBody s_joined) (defScope s_joined) .none kV20 dc20 pm20 an20 cd20 ct20), sl20⟩) (c20 : PySem.W.codeIn K cd20 "joined" = true) (k20 : PySem.W.keepIn K (.ref f20) = true)
    (a21 : PySem.W.nsIn K mainGlobals "without_doubles" = some (some (.ref f21))) (l21 : K.lookup f21 = some ⟨oc21, od21, .func (PySem.W.fnOf "without_doubles" "without_doubles" (defArgs s_without_doubles) (defBody s_without_doubles) (defScope s_without_doubles) .none kV21 dc21 pm21 an21 cd21 ct21), sl21⟩) (c21 : PySem.W.codeIn K cd21 "without_doubles" = true) (k21 : PySem.W.keepIn K (.ref f21) = true)
    (a22 : PySem.W.nsIn K mainGlobals "used_wires" = some (some (.ref f22))) (l22 : K.lookup f22 = some ⟨oc22, od22, .func (PySem.W.fnOf "used_wires" "used_wires" (defArgs s_used_wires) (defBody s_used_wires) (defScope s_used_wires) .none kV22 dc22 pm22 an22 cd22 ct22), sl22⟩) (c22 : PySem.W.codeIn K cd22 "used_wires" = true) (k22 : PySem.W.keepIn K (.ref f22) = true)
    (a23 : PySem.W.nsIn K mainGlobals "without_unused" = some (some (.ref f23))) (l23 : K.lookup f23 = some ⟨oc23, od23, .func (PySem.W.fnOf "without_unused" "without_unused" (defArgs s_without_unused) (defBody s_without_unused) (defScope s_without_unused) .none kV23 dc23 pm23 an23 cd23 ct23), sl23⟩) (c23 : PySem.W.codeIn K cd23 "without_unused" = true) (k23 : PySem.W.keepIn K (.ref f23) = true)
    (a24 : PySem.W.nsIn K mainGlobals "shared" = some (some (.ref f24))) (l24 : K.lookup f24 = some ⟨oc24, od24, .func (PySem.W.fnOf "shared" "shared" (defArgs s_shared) (defBody s_shared) (defScope s_shared) .none kV24 dc24 pm24 an24 cd24 ct24), sl24⟩) (c24 : PySem.W.codeIn K cd24 "shared" = true) (k24 : PySem.W.keepIn K (.ref f24) = true)
    (a25 : PySem.W.nsIn K mainGlobals "turned_circuit" = some (some (.ref f25))) (l25 : K.lookup f25 = some ⟨oc25, od25, .func (PySem.W.fnOf "turned_circuit" "turned_circuit" (defArgs s_turned_circuit) (defBody s_turned_circuit) (defScope s_turned_circuit) .none kV25 dc25 pm25 an25 cd25 ct25), sl25⟩) (c25 : PySem.W.codeIn K cd25 "turned_circuit" = true) (k25 : PySem.W.keepIn K (.ref f25) = true)
    (a26 : PySem.W.nsIn K mainGlobals "spread_size" = some (some (.ref f26))) (l26 : K.lookup f26 = some ⟨oc26, od26, .func (PySem.W.fnOf "spread_size" "spread_size" (defArgs s_spread_size) (defBody s_spread_size) (defScope s_spread_size) .none kV26 dc26 pm26 an26 cd26 ct26), sl26⟩) (c26 : PySem.W.codeIn K cd26 "spread_size" = true) (k26 : PySem.W.keepIn K (.ref f26) = true)
    (a27 : PySem.W.nsIn K mainGlobals "spread" = some (some (.ref f27))) (l27 : K.lookup f27 = some ⟨oc27, od27, .func (PySem.W.fnOf "spread" "spread" (defArgs s_spread) (defBody s_spread) (defScope s_spread) .none kV27 dc27 pm27 an27 cd27 ct27), sl27⟩) (c27 : PySem.W.codeIn K cd27 "spread" = true) (k27 : PySem.W.keepIn K (.ref f27) = true)
    (a28 : PySem.W.nsIn K mainGlobals "add_tree" = some (some (.ref f28))) (l28 : K.lookup f28 = some ⟨oc28, od28, .func (PySem.W.fnOf "add_tree" "add_tree" (defArgs s_add_tree) (defBody s_add_tree) (defScope s_add_tree) .none kV28 dc28 pm28 an28 cd28 ct28), sl28⟩) (c28 : PySem.W.codeIn K cd28 "add_tree" = true) (k28 : PySem.W.keepIn K (.ref f28) = true)
    (a29 : PySem.W.nsIn K mainGlobals "tree_circuit" = some (some (.ref f29))) (l29 : K.lookup f29 = some ⟨oc29, od29, .func (PySem.W.fnOf "tree_circuit" "tree_circuit" (defArgs s_tree_circuit) (defBody s_tree_circuit) (defScope s_tree_circuit) .none kV29 dc29 pm29 an29 cd29 ct29), sl29⟩) (c29 : PySem.W.codeIn K cd29 "tree_circuit" = true) (k29 : PySem.W.keepIn K (.ref f29) = true)
    (a30 : PySem.W.nsIn K mainGlobals "_law_cell_at" = some (some (.ref f30))) (l30 : K.lookup f30 = some ⟨oc30, od30, .func (PySem.W.fnOf "_law_cell_at" "_law_cell_at" (defArgs s_law_cell_at) (defBody s_law_cell_at) (defScope s_law_cell_at) .none kV30 dc30 pm30 an30 cd30 ct30), sl30⟩) (c30 : PySem.W.codeIn K cd30 "_law_cell_at" = true) (k30 : PySem.W.keepIn K (.ref f30) = true)
    (a31 : PySem.W.nsIn K mainGlobals "_law_gate" = some (some (.ref f31))) (l31 : K.lookup f31 = some ⟨oc31, od31, .func (PySem.W.fnOf "_law_gate" "_law_gate" (defArgs s_law_gate) (defBody s_law_gate) (defScope s_law_gate) .none kV31 dc31 pm31 an31 cd31 ct31), sl31⟩) (c31 : PySem.W.codeIn K cd31 "_law_gate" = true) (k31 : PySem.W.keepIn K (.ref f31) = true)
    (a32 : PySem.W.nsIn K mainGlobals "_law_circuit" = some (some (.ref f32))) (l32 : K.lookup f32 = some ⟨oc32, od32, .func (PySem.W.fnOf "_law_circuit" "_law_circuit" (defArgs s_law_circuit) (defBody s_law_circuit) (defScope s_law_circuit) .none kV32 dc32 pm32 an32 cd32 ct32), sl32⟩) (c32 : PySem.W.codeIn K cd32 "_law_circuit" = true) (k32 : PySem.W.keepIn K (.ref f32) = true)
    (a33 : PySem.W.nsIn K mainGlobals "_law_out" = some (some (.ref f33))) (l33 : K.lookup f33 = some ⟨oc33, od33, .func (PySem.W.fnOf "_law_out" "_law_out" (defArgs s_law_out) (defBody s_law_out) (defScope s_law_out) .none kV33 dc33 pm33 an33 cd33 ct33), sl33⟩) (c33 : PySem.W.codeIn K cd33 "_law_out" = true) (k33 : PySem.W.keepIn K (.ref f33) = true)
    (a34 : PySem.W.nsIn K mainGlobals "_law_ordered" = some (some (.ref f34))) (l34 : K.lookup f34 = some ⟨oc34, od34, .func (PySem.W.fnOf "_law_ordered" "_law_ordered" (defArgs s_law_ordered) (defBody s_law_ordered) (defScope s_law_ordered) .none kV34 dc34 pm34 an34 cd34 ct34), sl34⟩) (c34 : PySem.W.codeIn K cd34 "_law_ordered" = true) (k34 : PySem.W.keepIn K (.ref f34) = true)
    (a35 : PySem.W.nsIn K mainGlobals "_law_spread" = some (some (.ref f35))) (l35 : K.lookup f35 = some ⟨oc35, od35, .func (PySem.W.fnOf "_law_spread" "_law_spread" (defArgs s_law_spread) (defBody s_law_spread) (defScope s_law_spread) .none kV35 dc35 pm35 an35 cd35 ct35), sl35⟩) (c35 : PySem.W.codeIn K cd35 "_law_spread" = true) (k35 : PySem.W.keepIn K (.ref f35) = true)
    (a36 : PySem.W.nsIn K mainGlobals "_law_changed" = some (some (.ref f36))) (l36 : K.lookup f36 = some ⟨oc36, od36, .func (PySem.W.fnOf "_law_changed" "_law_changed" (defArgs s_law_changed) (defBody s_law_changed) (defScope s_law_changed) .none kV36 dc36 pm36 an36 cd36 ct36), sl36⟩) (c36 : PySem.W.codeIn K cd36 "_law_changed" = true) (k36 : PySem.W.keepIn K (.ref f36) = true)
    (a37 : PySem.W.nsIn K mainGlobals "law" = some (some (.ref f37))) (l37 : K.lookup f37 = some ⟨oc37, od37, .func (PySem.W.fnOf "law" "law" (defArgs s_law) (defBody s_law) (defScope s_law) .none kV37 dc37 pm37 an37 cd37 ct37), sl37⟩) (c37 : PySem.W.codeIn K cd37 "law" = true) (k37 : PySem.W.keepIn K (.ref f37) = true)
    (y_all : PySem.W.nsIn K mainGlobals "all" = some none)
    (y_bool : PySem.W.nsIn K mainGlobals "bool" = some none)
    (y_enumerate : PySem.W.nsIn K mainGlobals "enumerate" = some none)
    (y_int : PySem.W.nsIn K mainGlobals "int" = some none)
    (y_isinstance : PySem.W.nsIn K mainGlobals "isinstance" = some none)
    (y_len : PySem.W.nsIn K mainGlobals "len" = some none)
    (y_list : PySem.W.nsIn K mainGlobals "list" = some none)
    (y_range : PySem.W.nsIn K mainGlobals "range" = some none)
    (y_reversed : PySem.W.nsIn K mainGlobals "reversed" = some none)
    (y_sum : PySem.W.nsIn K mainGlobals "sum" = some none)
    (y_tuple : PySem.W.nsIn K mainGlobals "tuple" = some none)
    (y_MOST_GATES : PySem.W.nsIn K mainGlobals "MOST_GATES" = some (some (.int 300 t_MOST_GATES)))
    (y_MOST_INPUTS : PySem.W.nsIn K mainGlobals "MOST_INPUTS" = some (some (.int 4 t_MOST_INPUTS)))
    (y_MOST_STEPS : PySem.W.nsIn K mainGlobals "MOST_STEPS" = some (some (.int 600 t_MOST_STEPS)))
    (ya_TooBig : PySem.W.nsIn K mainGlobals "TooBig" = some (some (.ref e_TooBig)))
    (yx_TooBig : ExcC K e_TooBig)
    (yn1_sup : (PySem.W.clsIn K e_TooBig).isSome = true) (yn2_sup : PySem.W.typeIn K (.ref e_TooBig) = some (.type "type")) (yn3_sup : PySem.W.subIn K (.ref e_TooBig) (.type "BaseException") = some true) (yn4_sup : PySem.W.subIn K (.ref e_TooBig) (.ref e_TooBig) = some true) :
    ∃ fd : FuncData, (∀ (s : Shared) (v : Value), BindsTo s fd ⟨[v], []⟩ [("_law_script", v)]) ∧ ∀ base : Heap, K.In base → base.Ns mainGlobals mg → FnOk l.prog w K mg base CX0 106 fa fd ["_law_script"] (spF K [.bor] .f m_law) := by
  have F_is_whole : At K mg "is_whole" s_is_whole ["thing"] := At.mk' (PySem.W.mg_of X G a0) l0 c0 k0 (bok1 (fun _ _ _ _ _ _ _ => rfl) rfl)
  have F_is_below : At K mg "is_below" s_is_below ["thing", "bound"] := At.mk' (PySem.W.mg_of X G a1) l1 c1 k1 (bok2 (fun _ _ _ _ _ _ _ _ => rfl) rfl)
  have F_is_tuple : At K mg "is_tuple" s_is_tuple ["thing", "length"] := At.mk' (PySem.W.mg_of X G a2) l2 c2 k2 (bok2 (fun _ _ _ _ _ _ _ _ => rfl) rfl)
  have F_row_count : At K mg "row_count" s_row_count ["inputs"] := At.mk' (PySem.W.mg_of X G a3) l3 c3 k3 (bok1 (fun _ _ _ _ _ _ _ => rfl) rfl)
  have F_table_limit : At K mg "table_limit" s_table_limit ["inputs"] := At.mk' (PySem.W.mg_of X G a4) l4 c4 k4 (bok1 (fun _ _ _ _ _ _ _ => rfl) rfl)
  have F_full_table : At K mg "full_table" s_full_table ["inputs"] := At.mk' (PySem.W.mg_of X G a5) l5 c5 k5 (bok1 (fun _ _ _ _ _ _ _ => rfl) rfl)
  have F_is_gate : At K mg "is_gate" s_is_gate ["thing"] := At.mk' (PySem.W.mg_of X G a6) l6 c6 k6 (bok1 (fun _ _ _ _ _ _ _ => rfl) rfl)
  have F_bit : At K mg "bit" s_bit ["number", "place"] := At.mk' (PySem.W.mg_of X G a7) l7 c7 k7 (bok2 (fun _ _ _ _ _ _ _ _ => rfl) rfl)
  have F_number_of : At K mg "number_of" s_number_of ["figures"] := At.mk' (PySem.W.mg_of X G a8) l8 c8 k8 (bok1 (fun _ _ _ _ _ _ _ => rfl) rfl)
  have F_input_table : At K mg "input_table" s_input_table ["inputs", "j"] := At.mk' (PySem.W.mg_of X G a9) l9 c9 k9 (bok2 (fun _ _ _ _ _ _ _ _ => rfl) rfl)
  have F_input_tables : At K mg "input_tables" s_input_tables ["inputs"] := At.mk' (PySem.W.mg_of X G a10) l10 c10 k10 (bok1 (fun _ _ _ _ _ _ _ => rfl) rfl)
  have F_put_all : At K mg "put_all" s_put_all ["gate", "numbers", "full"] := At.mk' (PySem.W.mg_of X G a11) l11 c11 k11 (bok3 (fun _ _ _ _ _ _ _ _ _ => rfl) rfl)
  have F_put : At K mg "put" s_put ["gate", "tables", "inputs"] := At.mk' (PySem.W.mg_of X G a12) l12 c12 k12 (bok3 (fun _ _ _ _ _ _ _ _ _ => rfl) rfl)
  have F_turned : At K mg "turned" s_turned ["gate"] := At.mk' (PySem.W.mg_of X G a13) l13 c13 k13 (bok1 (fun _ _ _ _ _ _ _ => rfl) rfl)
  have F_is_step : At K mg "is_step" s_is_step ["thing", "bound"] := At.mk' (PySem.W.mg_of X G a14) l14 c14 k14 (bok2 (fun _ _ _ _ _ _ _ _ => rfl) rfl)
  have F_is_circuit : At K mg "is_circuit" s_is_circuit ["thing"] := At.mk' (PySem.W.mg_of X G a15) l15 c15 k15 (bok1 (fun _ _ _ _ _ _ _ => rfl) rfl)
  have F_wires : At K mg "wires" s_wires ["circuit"] := At.mk' (PySem.W.mg_of X G a16) l16 c16 k16 (bok1 (fun _ _ _ _ _ _ _ => rfl) rfl)
  have F_gate_of : At K mg "gate_of" s_gate_of ["circuit"] := At.mk' (PySem.W.mg_of X G a17) l17 c17 k17 (bok1 (fun _ _ _ _ _ _ _ => rfl) rfl)
  have F_renamed : At K mg "renamed" s_renamed ["step", "names"] := At.mk' (PySem.W.mg_of X G a18) l18 c18 k18 (bok2 (fun _ _ _ _ _ _ _ _ => rfl) rfl)
  have F_add_circuit : At K mg "add_circuit" s_add_circuit ["steps", "inputs", "circuit", "starts"] := At.mk' (PySem.W.mg_of X G a19) l19 c19 k19 (bok4 (fun _ _ _ _ _ _ _ _ _ _ => rfl) rfl)
  have F_joined : At K mg "joined" s_joined ["circuit", "parts"] := At.mk' (PySem.W.mg_of X G a20) l20 c20 k20 (bok2 (fun _ _ _ _ _ _ _ _ => rfl) rfl)
  have F_without_doubles : At K mg "without_doubles" s_without_doubles ["circuit"] := At.mk' (PySem.W.mg_of X G a21) l21 c21 k21 (bok1 (fun _ _ _ _ _ _ _ => rfl) rfl)
  have F_used_wires : At K mg "used_wires" s_used_wires ["circuit"] := At.mk' (PySem.W.mg_of X G a22) l22 c22 k22 (bok1 (fun _ _ _ _ _ _ _ => rfl) rfl)
  have F_without_unused : At K mg "without_unused" s_without_unused ["circuit"] := At.mk' (PySem.W.mg_of X G a23) l23 c23 k23 (bok1 (fun _ _ _ _ _ _ _ => rfl) rfl)
  have F_shared : At K mg "shared" s_shared ["circuit"] := At.mk' (PySem.W.mg_of X G a24) l24 c24 k24 (bok1 (fun _ _ _ _ _ _ _ => rfl) rfl)
  have F_turned_circuit : At K mg "turned_circuit" s_turned_circuit ["circuit"] := At.mk' (PySem.W.mg_of X G a25) l25 c25 k25 (bok1 (fun _ _ _ _ _ _ _ => rfl) rfl)
  have F_spread_size : At K mg "spread_size" s_spread_size ["circuit"] := At.mk' (PySem.W.mg_of X G a26) l26 c26 k26 (bok1 (fun _ _ _ _ _ _ _ => rfl) rfl)
  have F_spread : At K mg "spread" s_spread ["circuit"] := At.mk' (PySem.W.mg_of X G a27) l27 c27 k27 (bok1 (fun _ _ _ _ _ _ _ => rfl) rfl)
  have F_add_tree : At K mg "add_tree" s_add_tree ["steps", "inputs", "tree"] := At.mk' (PySem.W.mg_of X G a28) l28 c28 k28 (bok3 (fun _ _ _ _ _ _ _ _ _ => rfl) rfl)
  have F_tree_circuit : At K mg "tree_circuit" s_tree_circuit ["tree", "inputs"] := At.mk' (PySem.W.mg_of X G a29) l29 c29 k29 (bok2 (fun _ _ _ _ _ _ _ _ => rfl) rfl)
  have F_law_cell_at : At K mg "_law_cell_at" s_law_cell_at ["_law_script", "_law_k"] := At.mk' (PySem.W.mg_of X G a30) l30 c30 k30 (bok2 (fun _ _ _ _ _ _ _ _ => rfl) rfl)
  have F_law_gate : At K mg "_law_gate" s_law_gate ["_law_cell"] := At.mk' (PySem.W.mg_of X G a31) l31 c31 k31 (bok1 (fun _ _ _ _ _ _ _ => rfl) rfl)
  have F_law_circuit : At K mg "_law_circuit" s_law_circuit ["_law_script", "_law_start", "_law_inputs", "_law_most"] := At.mk' (PySem.W.mg_of X G a32) l32 c32 k32 (bok4 (fun _ _ _ _ _ _ _ _ _ _ => rfl) rfl)
  have F_law_out : At K mg "_law_out" s_law_out ["_law_circuit_here", "_law_row"] := At.mk' (PySem.W.mg_of X G a33) l33 c33 k33 (bok2 (fun _ _ _ _ _ _ _ _ => rfl) rfl)
  have F_law_ordered : At K mg "_law_ordered" s_law_ordered ["_law_row", "_law_order"] := At.mk' (PySem.W.mg_of X G a34) l34 c34 k34 (bok2 (fun _ _ _ _ _ _ _ _ => rfl) rfl)
  have F_law_spread : At K mg "_law_spread" s_law_spread ["_law_circuit_here"] := At.mk' (PySem.W.mg_of X G a35) l35 c35 k35 (bok1 (fun _ _ _ _ _ _ _ => rfl) rfl)
  have F_law_changed : At K mg "_law_changed" s_law_changed ["_law_circuit_here", "_law_values", "_law_cell"] := At.mk' (PySem.W.mg_of X G a36) l36 c36 k36 (bok3 (fun _ _ _ _ _ _ _ _ _ => rfl) rfl)
  have z_all := PySem.W.mg_none_of X G y_all
  have z_bool := PySem.W.mg_none_of X G y_bool
  have z_enumerate := PySem.W.mg_none_of X G y_enumerate
  have z_int := PySem.W.mg_none_of X G y_int
  have z_isinstance := PySem.W.mg_none_of X G y_isinstance
  have z_len := PySem.W.mg_none_of X G y_len
  have z_list := PySem.W.mg_none_of X G y_list
  have z_range := PySem.W.mg_none_of X G y_range
  have z_reversed := PySem.W.mg_none_of X G y_reversed
  have z_sum := PySem.W.mg_none_of X G y_sum
  have z_tuple := PySem.W.mg_none_of X G y_tuple
  have g_MOST_GATES := PySem.W.mg_of X G y_MOST_GATES
  have g_MOST_INPUTS := PySem.W.mg_of X G y_MOST_INPUTS
  have g_MOST_STEPS := PySem.W.mg_of X G y_MOST_STEPS
  have g_TooBig := PySem.W.mg_of X G ya_TooBig
  have e := hfa.symm.trans (PySem.W.mg_of X G a37)
  cases e
  refine ⟨PySem.W.fnOf "law" "law" (defArgs s_law) (defBody s_law) (defScope s_law) .none kV37 dc37 pm37 an37 cd37 ct37, fun s v => .of_eq rfl, fun base _ _ => ?_⟩
  have d_is_whole := ok_is_whole (P := l.prog) (w := w) (base := base) F_is_whole z_bool z_int z_isinstance
  have d_is_below := ok_is_below (P := l.prog) (w := w) (base := base) F_is_below d_is_whole
  have d_is_tuple := ok_is_tuple (P := l.prog) (w := w) (base := base) F_is_tuple z_isinstance z_len z_tuple
  have d_row_count := ok_row_count (P := l.prog) (w := w) (base := base) F_row_count z_range
  have d_table_limit := ok_table_limit (P := l.prog) (w := w) (base := base) F_table_limit z_range
  have d_full_table := ok_full_table (P := l.prog) (w := w) (base := base) F_full_table d_table_limit
  have d_is_gate := ok_is_gate (P := l.prog) (w := w) (base := base) F_is_gate d_is_tuple d_is_below d_table_limit g_MOST_INPUTS ⟨_, rfl⟩
  have d_bit := ok_bit (P := l.prog) (w := w) (base := base) F_bit
  have d_number_of := ok_number_of (P := l.prog) (w := w) (base := base) F_number_of z_reversed
  have d_input_table := ok_input_table (P := l.prog) (w := w) (base := base) F_input_table d_number_of d_bit d_row_count z_range
  have d_input_tables := ok_input_tables (P := l.prog) (w := w) (base := base) F_input_tables d_input_table z_range
  have d_put_all := ok_put_all (P := l.prog) (w := w) (base := base) F_put_all d_bit d_row_count z_len z_range
  have d_put := ok_put (P := l.prog) (w := w) (base := base) F_put d_put_all d_full_table
  have d_turned := ok_turned (P := l.prog) (w := w) (base := base) F_turned d_full_table d_input_tables d_put
  have d_is_step := ok_is_step (P := l.prog) (w := w) (base := base) F_is_step d_is_tuple d_is_gate d_is_below z_all
  have d_is_circuit := ok_is_circuit (P := l.prog) (w := w) (base := base) F_is_circuit d_is_below d_is_tuple d_is_step z_enumerate z_isinstance z_len z_tuple g_MOST_INPUTS ⟨_, rfl⟩ g_MOST_STEPS ⟨_, rfl⟩
  have d_wires := ok_wires (P := l.prog) (w := w) (base := base) F_wires d_input_tables d_put
  have d_gate_of := ok_gate_of (P := l.prog) (w := w) (base := base) F_gate_of d_wires
  have d_renamed := ok_renamed (P := l.prog) (w := w) (base := base) F_renamed z_tuple
  have d_add_circuit := ok_add_circuit (P := l.prog) (w := w) (base := base) F_add_circuit d_renamed z_len z_list
  have d_joined := ok_joined (P := l.prog) (w := w) (base := base) F_joined d_add_circuit z_len z_list z_range z_sum z_tuple g_MOST_STEPS ⟨_, rfl⟩
  have d_without_doubles := ok_without_doubles (P := l.prog) (w := w) (base := base) F_without_doubles d_renamed z_len z_list z_range z_tuple
  have d_used_wires := ok_used_wires (P := l.prog) (w := w) (base := base) F_used_wires z_len z_range
  have d_without_unused := ok_without_unused (P := l.prog) (w := w) (base := base) F_without_unused d_used_wires d_renamed z_enumerate z_len z_range z_tuple
  have d_shared := ok_shared (P := l.prog) (w := w) (base := base) F_shared d_without_unused d_without_doubles
  have d_turned_circuit := ok_turned_circuit (P := l.prog) (w := w) (base := base) F_turned_circuit d_turned z_tuple
  have d_spread_size := ok_spread_size (P := l.prog) (w := w) (base := base) F_spread_size z_sum
  have dz_spread := okz_spread (P := l.prog) (w := w) (base := base) F_spread d_spread_size g_MOST_GATES ⟨_, rfl⟩ g_TooBig yx_TooBig
  have d_spread := ok_spread (P := l.prog) (w := w) (base := base) F_spread d_spread_size z_list z_range z_tuple g_MOST_GATES ⟨_, rfl⟩
  have d_add_tree : Def l.prog w K mg base 102 "add_tree" ["steps", "inputs", "tree"] (spM K [.bor, .bor, .imm] 0 (m_add_tree 100)) := ok_add_tree (P := l.prog) (w := w) (base := base) F_add_tree d_is_whole z_len z_tuple 100
  have d_tree_circuit := ok_tree_circuit (P := l.prog) (w := w) (base := base) F_tree_circuit d_add_tree z_tuple
  have d__law_cell_at := ok_law_cell_at (P := l.prog) (w := w) (base := base) F_law_cell_at z_len
  have d__law_gate := ok_law_gate (P := l.prog) (w := w) (base := base) F_law_gate
  have d__law_circuit := ok_law_circuit (P := l.prog) (w := w) (base := base) F_law_circuit d__law_cell_at d__law_gate z_len z_range z_tuple
  have d__law_out := ok_law_out (P := l.prog) (w := w) (base := base) F_law_out z_enumerate z_range z_sum
  have d__law_ordered := ok_law_ordered (P := l.prog) (w := w) (base := base) F_law_ordered z_enumerate z_sum
  have d__law_spread := ok_law_spread (P := l.prog) (w := w) (base := base) F_law_spread d_tree_circuit d_spread g_TooBig ⟨yn1_sup, yn2_sup, yn3_sup, yn4_sup⟩ dz_spread
  have d__law_changed := ok_law_changed (P := l.prog) (w := w) (base := base) F_law_changed d__law_spread d_shared d_turned_circuit d_joined d__law_ordered z_len z_list z_range
  exact ok_law (fun_mk (st := s_law) l37 c37 k37) d__law_circuit d__law_out d__law_changed d_gate_of d__law_cell_at d_is_circuit z_enumerate z_len z_range z_sum
theorem walk {l : PySem.W.OpenLaw} {q : Program} {loose : List Str} {XP : (Str → Option Value) → Heap → Prop} {YP : World → Heap → Prop} {d : DefRec} {K : Params → PySem.W.Frag} (hn : l.most = some 63) (hdf : d.params.defaults = [])
    (hY : ∀ (w : World) (h : Heap), YP w h → (K w.params).In h)
    (F : ∀ (w : World) (mg : Str → Option Value) (fa : Addr) (h : Heap), (K w.params).In h → h.Ns mainGlobals mg → mg d.name = some (.ref fa) →
      ∃ fd : FuncData, (∀ (s : Shared) (u : Value), BindsTo s fd ⟨[u], []⟩ [("_law_script", u)]) ∧ ∀ base : Heap, (K w.params).In base → base.Ns mainGlobals mg → FnOk l.prog w (K w.params) mg base CX0 106 fa fd ["_law_script"] (spF (K w.params) [.bor] .f m_law)) :
    PySem.W.WalkO q loose XP YP l.row.toRowW d [] (fun f vs => PySem.call f vs) :=
  L2.walk_of (n := 63) (k := 106) (x := "_law_script") (CX := fun _ => CX0) (sp := fun w => spF (K w.params) [.bor] .f m_law) hn (by decide) hdf ⟨rfl, by decide, by decide⟩ hY F (fun _ H a ns hl _ hS => law_script (main ns hl) hS) fun _ _ _ _ _ z => z
end Law
open PySem PySem.W PyProof.Rows
theorem PySem.W.Fast.te3093349640870359376 : True := trivial
set_option maxRecDepth 100000 in
set_option maxHeartbeats 0 in
theorem PySem.Challenge.cw_gatekin_k19_whole_said_alike_holds : PySem.Challenge.rw_gatekin_k19_whole_said_alike.Holds := by
  w_on; o_law; k_head; (case hw => w_witness2)
  k_fill
  refine Law.walk (l := PySem.Challenge.rw_gatekin_k19_whole_said_alike) rfl rfl (fun w h Y => PySem.W.kIn_of Y) ?F
  case F =>
    intro w mg fa h KX G hmg
    refine' Law.all_mk KX G hmg ?a0 ?l0 ?c0 ?k0 ?a1 ?l1 ?c1 ?k1 ?a2 ?l2 ?c2 ?k2 ?a3 ?l3 ?c3 ?k3 ?a4 ?l4 ?c4 ?k4 ?a5 ?l5 ?c5 ?k5 ?a6 ?l6 ?c6 ?k6 ?a7 ?l7 ?c7 ?k7 ?a8 ?l8 ?c8 ?k8 ?a9 ?l9 ?c9 ?k9 ?a10 ?l10 ?c10 ?k10 ?a11 ?l11 ?c11 ?k11 ?a12 ?l12 ?c12 ?k12 ?a13 ?l13 ?c13 ?k13 ?a14 ?l14 ?c14 ?k14 ?a15 ?l15 ?c15 ?k15 ?a16 ?l16 ?c16 ?k16 ?a17 ?l17 ?c17 ?k17 ?a18 ?l18 ?c18 ?k18 ?a19 ?l19 ?c19 ?k19 ?a20 ?l20 ?c20 ?k20 ?a21 ?l21 ?c21 ?k21 ?a22 ?l22 ?c22 ?k22 ?a23 ?l23 ?c23 ?k23 ?a24 ?l24 ?c24 ?k24 ?a25 ?l25 ?c25 ?k25 ?a26 ?l26 ?c26 ?k26 ?a27 ?l27 ?c27 ?k27 ?a28 ?l28 ?c28 ?k28 ?a29 ?l29 ?c29 ?k29 ?a30 ?l30 ?c30 ?k30 ?a31 ?l31 ?c31 ?k31 ?a32 ?l32 ?c32 ?k32 ?a33 ?l33 ?c33 ?k33 ?a34 ?l34 ?c34 ?k34 ?a35 ?l35 ?c35 ?k35 ?a36 ?l36 ?c36 ?k36 ?a37 ?l37 ?c37 ?k37 ?y_all ?y_bool ?y_enumerate ?y_int ?y_isinstance ?y_len ?y_list ?y_range ?y_reversed ?y_sum ?y_tuple ?y_MOST_GATES ?y_MOST_INPUTS ?y_MOST_STEPS ?ya_TooBig ?yx_TooBig ?yn1_sup ?yn2_sup ?yn3_sup ?yn4_sup
    (case a0 => k_is)
    (case l0 => k_is)
    (case c0 => k_is)
    (case k0 => k_is)
    (case a1 => k_is)
    (case l1 => k_is)
    (case c1 => k_is)
    (case k1 => k_is)
    (case a2 => k_is)
    (case l2 => k_is)
    (case c2 => k_is)
    (case k2 => k_is)
    (case a3 => k_is)
    (case l3 => k_is)
    (case c3 => k_is)
    (case k3 => k_is)
    (case a4 => k_is)
    (case l4 => k_is)
    (case c4 => k_is)
    (case k4 => k_is)
    (case a5 => k_is)
    (case l5 => k_is)
    (case c5 => k_is)
    (case k5 => k_is)
    (case a6 => k_is)
    (case l6 => k_is)
    (case c6 => k_is)
    (case k6 => k_is)
    (case a7 => k_is)
    (case l7 => k_is)
    (case c7 => k_is)
    (case k7 => k_is)
    (case a8 => k_is)
    (case l8 => k_is)
    (case c8 => k_is)
    (case k8 => k_is)
    (case a9 => k_is)
    (case l9 => k_is)
    (case c9 => k_is)
    (case k9 => k_is)
    (case a10 => k_is)
    (case l10 => k_is)
    (case c10 => k_is)
    (case k10 => k_is)
    (case a11 => k_is)
    (case l11 => k_is)
    (case c11 => k_is)
    (case k11 => k_is)
    (case a12 => k_is)
    (case l12 => k_is)
    (case c12 => k_is)
    (case k12 => k_is)
    (case a13 => k_is)
    (case l13 => k_is)
    (case c13 => k_is)
    (case k13 => k_is)
    (case a14 => k_is)
    (case l14 => k_is)
    (case c14 => k_is)
    (case k14 => k_is)
    (case a15 => k_is)
    (case l15 => k_is)
    (case c15 => k_is)
    (case k15 => k_is)
    (case a16 => k_is)
    (case l16 => k_is)
    (case c16 => k_is)
    (case k16 => k_is)
    (case a17 => k_is)
    (case l17 => k_is)
    (case c17 => k_is)
    (case k17 => k_is)
    (case a18 => k_is)
    (case l18 => k_is)
    (case c18 => k_is)
    (case k18 => k_is)
    (case a19 => k_is)
    (case l19 => k_is)
    (case c19 => k_is)
    (case k19 => k_is)
    (case a20 => k_is)
    (case l20 => k_is)
    (case c20 => k_is)
    (case k20 => k_is)
    (case a21 => k_is)
    (case l21 => k_is)
    (case c21 => k_is)
    (case k21 => k_is)
    (case a22 => k_is)
    (case l22 => k_is)
    (case c22 => k_is)
    (case k22 => k_is)
    (case a23 => k_is)
    (case l23 => k_is)
    (case c23 => k_is)
    (case k23 => k_is)
    (case a24 => k_is)
    (case l24 => k_is)
    (case c24 => k_is)
    (case k24 => k_is)
    (case a25 => k_is)
    (case l25 => k_is)
    (case c25 => k_is)
    (case k25 => k_is)
    (case a26 => k_is)
    (case l26 => k_is)
    (case c26 => k_is)
    (case k26 => k_is)
    (case a27 => k_is)
    (case l27 => k_is)
    (case c27 => k_is)
    (case k27 => k_is)
    (case a28 => k_is)
    (case l28 => k_is)
    (case c28 => k_is)
    (case k28 => k_is)
    (case a29 => k_is)
    (case l29 => k_is)
    (case c29 => k_is)
    (case k29 => k_is)
    (case a30 => k_is)
    (case l30 => k_is)
    (case c30 => k_is)
    (case k30 => k_is)
    (case a31 => k_is)
    (case l31 => k_is)
    (case c31 => k_is)
    (case k31 => k_is)
    (case a32 => k_is)
    (case l32 => k_is)
    (case c32 => k_is)
    (case k32 => k_is)
    (case a33 => k_is)
    (case l33 => k_is)
    (case c33 => k_is)
    (case k33 => k_is)
    (case a34 => k_is)
    (case l34 => k_is)
    (case c34 => k_is)
    (case k34 => k_is)
    (case a35 => k_is)
    (case l35 => k_is)
    (case c35 => k_is)
    (case k35 => k_is)
    (case a36 => k_is)
    (case l36 => k_is)
    (case c36 => k_is)
    (case k36 => k_is)
    (case a37 => k_is)
    (case l37 => k_is)
    (case c37 => k_is)
    (case k37 => k_is)
    (case y_all => k_is)
    (case y_bool => k_is)
    (case y_enumerate => k_is)
    (case y_int => k_is)
    (case y_isinstance => k_is)
    (case y_len => k_is)
    (case y_list => k_is)
    (case y_range => k_is)
    (case y_reversed => k_is)
    (case y_sum => k_is)
    (case y_tuple => k_is)
    (case y_MOST_GATES => k_is)
    (case y_MOST_INPUTS => k_is)
    (case y_MOST_STEPS => k_is)
    (case ya_TooBig => k_is)
    (case yx_TooBig => (show PySem.W.excIn _ _ _ _ = true); k_exc)
    (case yn1_sup => exact Option.isSome_of_eq_some (by k_is))
    (case yn2_sup => k_is)
    (case yn3_sup => k_is)
    (case yn4_sup => k_is)
