import PyProof.Rows.All
import Wide.All
import OpenK.AllK
import Wide.FinOn
import Lean
import PyProof.EqAt
import PyProof.EqKinds
import PyProof.TupleCall
import PySem.Challenge.RW_gatekin_k14_shared
set_option Elab.async false
set_option linter.all false
set_option maxRecDepth 100000
local macro_rules | `(tactic| omega) => `(tactic| lia)
namespace L2
open PySem PySem.Spec PyProof.Rows
noncomputable abbrev Key := Sum Int Str
noncomputable def keyIs : Key → Value → Bool
  | .inl k, v => Value.isInt k v
  | .inr x, v => Value.isStrOf x v
noncomputable def keyH (w : World) : Key → Int
  | .inl k => hashInt k
  | .inr x => hashStr w x
theorem keyIs_shape : ∀ {k : Key} {v : Value}, keyIs k v = true → (∃ i t, k = Sum.inl i ∧ v = Value.int i t) ∨ (∃ x t, k = Sum.inr x ∧ v = Value.str x t)
  | .inl i, v, h => by
    obtain ⟨t, e⟩ := Value.isInt_shape (k := i) (v := v) h
    exact .inl ⟨i, t, rfl, e⟩
  | .inr x, v, h => by
    obtain ⟨t, e⟩ := Value.isStrOf_shape (x := x) (v := v) h
    exact .inr ⟨x, t, rfl, e⟩
theorem keyIs_int (i : Int) (t : Tok) : keyIs (.inl i) (.int i t) = true := by simp [keyIs, Value.isInt]
theorem keyIs_str (x : Str) (t : Tok) : keyIs (.inr x) (.str x t) = true := by simp [keyIs, Value.isStrOf]
theorem key_ll (a b : Int) : decide ((Sum.inl a : Key) = Sum.inl b) = (a == b) := by
  by_cases e : a = b
  · subst e; simp
  · have h : ¬ (Sum.inl a : Key) = Sum.inl b := fun q => e (Sum.inl.inj q)
    rw [decide_eq_false h]
    exact (beq_eq_false_iff_ne.mpr e).symm
theorem key_rr (a b : Str) : decide ((Sum.inr a : Key) = Sum.inr b) = decide (a = b) := by
  by_cases e : a = b
  · subst e; simp
  · have h : ¬ (Sum.inr a : Key) = Sum.inr b := fun q => e (Sum.inr.inj q)
    rw [decide_eq_false h, decide_eq_false e]
theorem key_lr (a : Int) (b : Str) : decide ((Sum.inl a : Key) = Sum.inr b) = false := decide_eq_false (fun q => nomatch q)
theorem key_rl (a : Str) (b : Int) : decide ((Sum.inr a : Key) = Sum.inl b) = false := decide_eq_false (fun q => nomatch q)
noncomputable def mixKind (prog : Program) (w : World) : PySem.KeyKind prog w Key where
  is := keyIs
  hash := keyH w
  inj := fun v a b ha hb => by
    rcases keyIs_shape ha with ⟨i, t, rfl, rfl⟩ | ⟨x, t, rfl, rfl⟩
    · rcases keyIs_shape hb with ⟨j, u, rfl, e⟩ | ⟨y, u, rfl, e⟩
      · injection e with e1 _; rw [e1]
      · exact nomatch e
    · rcases keyIs_shape hb with ⟨j, u, rfl, e⟩ | ⟨y, u, rfl, e⟩
      · exact nomatch e
      · injection e with e1 _; rw [e1]
  byValue := fun k v h => by
    rcases keyIs_shape h with ⟨i, t, rfl, rfl⟩ | ⟨x, t, rfl, rfl⟩ <;> rfl
  pyHash := fun hv h => by
    rcases keyIs_shape hv with ⟨i, t, rfl, rfl⟩ | ⟨x, t, rfl, rfl⟩
    · exact wpAny_pyHash_int h
    · exact wpAny_pyHash_str h
  eqBool := fun hu hv h => by
    rcases keyIs_shape hu with ⟨i, t, rfl, rfl⟩ | ⟨x, t, rfl, rfl⟩
    · rcases keyIs_shape hv with ⟨j, u, rfl, rfl⟩ | ⟨y, u, rfl, rfl⟩
      · rw [key_ll] at h; exact wpAny_eqBool_int h
      · rw [key_lr] at h; exact SeqAt.EqAt.int_str i t y u _ _ _ _ h
    · rcases keyIs_shape hv with ⟨j, u, rfl, rfl⟩ | ⟨y, u, rfl, rfl⟩
      · rw [key_rl] at h; exact SeqAt.EqAt.str_int x t j u _ _ _ _ h
      · rw [key_rr] at h; exact wpAny_eqBool_str h
  «strs» := fun k x t v h => by
    rcases keyIs_shape h with ⟨i, u, rfl, e⟩ | ⟨y, u, rfl, e⟩
    · exact nomatch e
    · injection e with e1 _
      subst e1
      cases v <;> rfl
theorem mixKind_int (prog : Program) (w : World) (i : Int) (t : Tok) : (mixKind prog w).is (.inl i) (.int i t) = true := keyIs_int i t
theorem mixKind_str (prog : Program) (w : World) (x : Str) (t : Tok) : (mixKind prog w).is (.inr x) (.str x t) = true := keyIs_str x t
end L2
namespace L2
open PySem PySem.Spec PyProof.Rows
inductive V where
  | non | bl (b : Bool) | int (i : Int) | str (x : Str) | byt (b : Array UInt8) | flt (b : UInt64) | ref (a : Addr) | ty (n : String)
  deriving DecidableEq
noncomputable def RelV : V → Value → Prop
  | .non, u => u = Value.none
  | .bl b, u => u = Value.bool b
  | .int i, u => ∃ t, u = Value.int i t
  | .str x, u => ∃ t, u = Value.str x t
  | .byt b, u => ∃ t, u = Value.bytes b t
  | .flt b, u => ∃ t, u = Value.float b t
  | .ref a, u => u = Value.ref a
  | .ty n, u => u = Value.type n
noncomputable abbrev Vals : List V → List Value → Prop := Paired RelV
theorem Vals.length {xs : List V} {us : List Value} (r : Vals xs us) : xs.length = us.length := Paired.length r
theorem Vals.get : ∀ {xs : List V} {us : List Value} {i : Nat} {x : V}, Vals xs us → xs[i]? = some x → ∃ u, us[i]? = some u ∧ RelV x u
  | _, _, _, _, .nil, e => by simp at e
  | _, _, 0, _, .cons r _, e => by simp at e; subst e; exact ⟨_, rfl, r⟩
  | _, _, i + 1, x, .cons _ t, e => by
    obtain ⟨u, h1, h2⟩ := Vals.get (i := i) (x := x) t (by simpa using e)
    exact ⟨u, by simpa using h1, h2⟩
theorem Vals.append : ∀ {xs ys : List V} {us ws : List Value}, Vals xs us → Vals ys ws → Vals (xs ++ ys) (us ++ ws)
  | _, _, _, _, .nil, s => s
  | _, _, _, _, .cons r t, s => .cons r (Vals.append t s)
noncomputable def RelO : Option V → Option Value → Prop
  | some v, some u => RelV v u
  | none, none => True
  | _, _ => False
noncomputable def KV {κ : Type} : List (κ × V) → List (κ × Value) → Prop := Paired fun (p : κ × V) (q : κ × Value) => p.1 = q.1 ∧ RelV p.2 q.2
noncomputable def kV : Key → V
  | .inl i => .int i
  | .inr x => .str x
inductive HO where
    | lst (xs : List V)
    | tup (xs : List V)
    | dK (kvs : List (Key × V)) | dT (kvs : List (List Key × V))
    | set (S : Int → Bool) (n : Nat)
    | ins (C dx : Addr) (fs : List (Str × V))
    | own (x : Addr)
    | xd (fs : List (Str × V))
    | met (f x : Addr)
    | rng (lo hi : Int)
    | frz (o : Obj) (u : HO)
    | tbl (ps : Array Value)
    | ext (φ : Heap → Prop)
noncomputable abbrev Hp := Addr → Option HO
noncomputable def upd (H : Hp) (a : Addr) (o : HO) : Hp := fun b => if b = a then some o else H b
theorem upd_same {H : Hp} {a : Addr} {o : HO} : upd H a o a = some o := by unfold upd; rw [if_pos rfl]
theorem upd_ne {H : Hp} {a b : Addr} {o : HO} (h : b ≠ a) : upd H a o b = H b := by unfold upd; rw [if_neg h]
theorem ne_of {H : Hp} {a b : Addr} {o u : HO} (h : H a = some o) (h' : H b = some u) (d : o ≠ u) : a ≠ b := by
  intro e; subst e; rw [h] at h'; exact d (Option.some.inj h')
theorem ne_of_none {H : Hp} {a b : Addr} {o : HO} (h : H a = some o) (h' : H b = none) : a ≠ b := by
  intro e; subst e; rw [h] at h'; cases h'
section
variable (P : Program) (w : World)
noncomputable def ObjOk (H : Hp) (h : Heap) (a : Addr) : HO → Prop
  | .lst xs => xs.length ≤ sizeLine ∧ ∃ (its : List Value) (n : Nat), Vals xs its ∧ h.get? a = some { cls := .type "list", data := .seq its.toArray n }
  | .tup xs => xs.length ≤ sizeLine ∧ ∃ its : List Value, Vals xs its ∧ IsTup h a its.toArray
  | .dK kvs => kvs.length ≤ sizeLine ∧ (a == sysModules) = false ∧ ∃ vs, KV kvs vs ∧ h.DictOf (mixKind P w) a vs
  | .dT kvs => kvs.length ≤ sizeLine ∧ (a == sysModules) = false ∧ ∃ xs : List (List Key × Addr × Value),
      Paired (fun (p : List Key × V) (q : List Key × Addr × Value) => p.1 = q.1 ∧ H q.2.1 = some (.tup (p.1.map kV)) ∧ RelV p.2 q.2.2) kvs xs ∧
      ∃ o es ep, h.get? a = some o ∧ o.ExactDict ∧ o.data = .dict es ep ∧ es.toList = xs.map (entryOfKey (tupleKind (mixKind P w))) ∧ (xs.map (·.1)).Nodup
  | .set S n => h.SetOf (intKind P w) a S n
  | .ins C dx fs => H dx = some (.own a) ∧ fs.length ≤ 1000 ∧ dx ≠ a ∧ h.get? a = some (PySem.W.instObj C dx) ∧
      ∃ mA, h.Ns1 dx mA ∧ (∀ f, RelO (fs.lookup f) (mA f)) ∧ PySem.Within mA (fs.map (·.1))
  | .own _ => ∃ o, h.get? a = some o
  | .xd fs => ∃ mA, h.Ns1 a mA ∧ ∀ f, RelO (fs.lookup f) (mA f)
  | .rng lo hi => ∃ t u v, h.get? a = some { cls := .type "range", data := .fields #[.int lo t, .int hi u, .int 1 v] }
  | .frz o u => h.get? a = some o ∧ ObjOk H h a u
  | .tbl ps => h.get? a = some { cls := .none, data := .fields ps }
  | .met f x => h.get? a = some (PySem.W.methodObj (.ref f) (.ref x))
  | .ext φ => φ h ∧ (∃ o, h.get? a = some o) ∧ ∀ h1 h2 : Heap, φ h1 → (∀ o, h1.get? a = some o → h2.get? a = some o) → φ h2
noncomputable def HOk (H : Hp) (h : Heap) : Prop := ∀ a o, H a = some o → ObjOk P w H h a o
end
section
variable {P : Program} {w : World} {H H' : Hp} {h h' : Heap} {a : Addr} {o : HO}
theorem ObjOk.lt (x : ObjOk P w H h a o) : a < h.objs.size := by
  cases o with
  | lst xs => obtain ⟨_, _, _, _, e⟩ := x; exact Heap.lt_size e
  | tup xs => obtain ⟨_, _, _, p⟩ := x; exact p.lt
  | dK kvs => obtain ⟨_, _, _, _, o, _, _, e, _⟩ := x; exact Heap.lt_size e
  | dT kvs => obtain ⟨_, _, _, _, o, _, _, e, _⟩ := x; exact Heap.lt_size e
  | set S n => obtain ⟨o, _, _, _, e, _⟩ := x; exact Heap.lt_size e
  | ins C dx fs => obtain ⟨_, _, _, e, _⟩ := x; exact Heap.lt_size e
  | own y => obtain ⟨_, e⟩ := x; exact Heap.lt_size e
  | xd fs => obtain ⟨_, ⟨_, _, _, e, _⟩, _⟩ := x; exact Heap.lt_size e
  | rng lo hi => obtain ⟨_, _, _, e⟩ := x; exact Heap.lt_size e
  | frz ob u => obtain ⟨e, _⟩ := x; exact Heap.lt_size e
  | tbl ps => exact Heap.lt_size (show h.get? a = some _ from x)
  | met f y => exact Heap.lt_size (show h.get? a = some _ from x)
  | ext φ => obtain ⟨_, ⟨_, e⟩, _⟩ := x; exact Heap.lt_size e
theorem Paired.mapP {α β : Type} {F G : α → β → Prop} : ∀ {l₁ : List α} {l₂ : List β}, Paired F l₁ l₂ → (∀ a b, F a b → G a b) → Paired G l₁ l₂
  | _, _, .nil, _ => .nil
  | _, _, .cons r t, f => .cons (f _ _ r) (Paired.mapP t f)
theorem ObjOk.stay (x : ObjOk P w H h a o) (k : ∀ b u, (b = a ∨ H b = some (.own a)) → h.get? b = some u → h'.get? b = some u)
    (ho : ∀ b, H b = some (.own a) → H' b = some (.own a)) (ht : ∀ b xs, H b = some (.tup xs) → H' b = some (.tup xs)) : ObjOk P w H' h' a o := by
  induction o with
  | lst xs => obtain ⟨z, its, n, r, e⟩ := x; exact ⟨z, its, n, r, k _ _ (.inl rfl) e⟩
  | tup xs => obtain ⟨z, its, r, ob, e, c⟩ := x; exact ⟨z, its, r, ob, k _ _ (.inl rfl) e, c⟩
  | dK kvs => obtain ⟨z, y, vs, r, ob, es, ep, e, c⟩ := x; exact ⟨z, y, vs, r, ob, es, ep, k _ _ (.inl rfl) e, c⟩
  | dT kvs =>
    obtain ⟨z, y, xs, r, ob, es, ep, e, c⟩ := x
    exact ⟨z, y, xs, Paired.mapP r fun p q z => ⟨z.1, ht _ _ z.2.1, z.2.2⟩, ob, es, ep, k _ _ (.inl rfl) e, c⟩
  | set S n => obtain ⟨ob, es, ep, t, e, c⟩ := x; exact ⟨ob, es, ep, t, k _ _ (.inl rfl) e, c⟩
  | ins C dx fs =>
    obtain ⟨d, z, ne, e, mA, ⟨od, es, ep, e2, c⟩, r⟩ := x
    exact ⟨ho _ d, z, ne, k _ _ (.inl rfl) e, mA, ⟨od, es, ep, k _ _ (.inr d) e2, c⟩, r⟩
  | own y => obtain ⟨ob, e⟩ := x; exact ⟨ob, k _ _ (.inl rfl) e⟩
  | xd fs => obtain ⟨mA, ⟨od, es, ep, e, c⟩, r⟩ := x; exact ⟨mA, ⟨od, es, ep, k _ _ (.inl rfl) e, c⟩, r⟩
  | rng lo hi => obtain ⟨t, u, v, e⟩ := x; exact ⟨t, u, v, k _ _ (.inl rfl) e⟩
  | frz ob u ih => obtain ⟨e, q⟩ := x; exact ⟨k _ _ (.inl rfl) e, ih q⟩
  | tbl ps =>
    have e : h.get? a = some { cls := .none, data := .fields ps } := x
    show h'.get? a = some { cls := .none, data := .fields ps }
    exact k a _ (.inl rfl) e
  | met f y =>
    have e : h.get? a = some (PySem.W.methodObj (.ref f) (.ref y)) := x
    show h'.get? a = some (PySem.W.methodObj (.ref f) (.ref y))
    exact k a _ (.inl rfl) e
  | ext φ => obtain ⟨p, ⟨o, e⟩, st⟩ := x; exact ⟨st _ _ p fun o q => k _ _ (.inl rfl) q, ⟨o, k _ _ (.inl rfl) e⟩, st⟩
theorem HOk.lt (x : HOk P w H h) (e : H a = some o) : a < h.objs.size := (x a o e).lt
theorem HOk.fresh (x : HOk P w H h) (e : h.objs.size ≤ a) : H a = none := by
  cases q : H a with
  | none => rfl
  | some u => exact absurd (Nat.lt_of_lt_of_le (x.lt q) e) (Nat.lt_irrefl _)
theorem HOk.kept (x : HOk P w H h) (k : ∀ b u, h.get? b = some u → h'.get? b = some u) : HOk P w H h' := fun a o e =>
  (x a o e).stay (fun b u _ q => k b u q) (fun _ q => q) fun _ _ q => q
theorem HOk.laid (x : HOk P w H h) (k : ∀ b u, h.get? b = some u → h'.get? b = some u) (hp : h.objs.size ≤ a) (new : ObjOk P w (upd H a o) h' a o) : HOk P w (upd H a o) h' := fun b u e => by
  have hn := x.fresh hp
  by_cases hb : b = a
  · subst hb; rw [upd_same] at e; cases e; exact new
  · rw [upd_ne hb] at e
    exact (x b u e).stay (fun c v _ q => k c v q) (fun c q => by rw [upd_ne (ne_of_none q hn)]; exact q) fun c xs q => by rw [upd_ne (ne_of_none q hn)]; exact q
end
noncomputable def Rd (H : Hp) (a : Addr) (u : HO) : Prop := H a = some u ∨ ∃ o, H a = some (.frz o u)
theorem Rd.ok {P : Program} {w : World} {H : Hp} {h : Heap} {a : Addr} {u : HO} (r : Rd H a u) (x : HOk P w H h) : ObjOk P w H h a u := by
  rcases r with r | ⟨o, r⟩
  · exact x a u r
  · obtain ⟨_, q⟩ := x a _ r
    exact q
noncomputable def Mut : Option HO → Prop
  | some (.lst _) => True
  | some (.dK _) => True
  | some (.dT _) => True
  | some (.set _ _) => True
  | some (.ins _ _ _) => True
  | some (.ext _) => True
  | _ => False
section
variable {P : Program} {w : World} {H : Hp} {h h' : Heap} {x e : Addr} {o' : HO}
theorem HOk.write (ok : HOk P w H h) (mu : Mut (H x)) (he : e = x ∨ H e = some (.own x)) (k : ∀ b u, b ≠ e → h.get? b = some u → h'.get? b = some u) (heo : ∃ u, h'.get? e = some u)
    (new : ObjOk P w (upd H x o') h' x o') : HOk P w (upd H x o') h' := fun b u q => by
  have nown : ∀ c y, H c = some (.own y) → c ≠ x := fun c y r z => by subst z; rw [r] at mu; exact mu
  have ntup : ∀ c xs, H c = some (.tup xs) → c ≠ x := fun c xs r z => by subst z; rw [r] at mu; exact mu
  by_cases hb : b = x
  · subst hb; rw [upd_same] at q; cases q; exact new
  · rw [upd_ne hb] at q
    by_cases hbe : b = e
    · have q' : H b = some (.own x) := by
        rcases he with z | z
        · exact absurd (hbe.trans z) hb
        · rw [hbe]; exact z
      rw [q] at q'; cases q'
      obtain ⟨v, hv⟩ := heo
      exact ⟨v, by rw [hbe]; exact hv⟩
    · refine (ok b u q).stay (fun c v hc r => k c v ?_ r) (fun c r => by rw [upd_ne (nown c b r)]; exact r) fun c xs r => by rw [upd_ne (ntup c xs r)]; exact r
      rcases hc with rfl | hc
      · exact hbe
      · rintro rfl
        rcases he with z | z
        · exact nown c b hc z
        · rw [hc] at z; cases z; exact hb rfl
end
structure Un (fs ex : List Addr) (H H' : Hp) (h h' : Heap) : Prop where
  keep : ∀ b o, h.get? b = some o → H b = none → b ∉ fs → b ∉ ex → h'.get? b = some o
  slot : ∀ b o, h.get? b = some o → H b = none → b ∈ fs → b ∉ ex → ∃ sl, h'.get? b = some { o with slots := sl }
  free : ∀ b o, h.get? b = some o → H b = none → b ∉ ex → H' b = none
  there : ∀ b o, h.get? b = some o → b ∉ ex → ∃ o', h'.get? b = some o'
  tups : ∀ b xs, H b = some (.tup xs) → H' b = some (.tup xs)
  frzs : ∀ b o u, H b = some (.frz o u) → H' b = some (.frz o u)
  tbls : ∀ b ps, H b = some (.tbl ps) → ∃ more, H' b = some (.tbl (ps ++ more))
section
variable {fs fs' ex ex' : List Addr} {H H1 H2 : Hp} {h h1 h2 h' : Heap} {a x e : Addr} {o : HO}
theorem Un.any (u : Un fs ex H H1 h h1) {b : Addr} {ob : Obj} (q : h.get? b = some ob) (n : H b = none) (hx : b ∉ ex) : ∃ sl, h1.get? b = some { ob with slots := sl } := by
  by_cases hb : b ∈ fs
  · exact u.slot b ob q n hb hx
  · exact ⟨ob.slots, u.keep b ob q n hb hx⟩
theorem Un.trans (a : Un fs ex H H1 h h1) (b : Un fs ex H1 H2 h1 h2) : Un fs ex H H2 h h2 where
  keep := fun c ob q n hc hx => b.keep c ob (a.keep c ob q n hc hx) (a.free c ob q n hx) hc hx
  slot := fun c ob q n hc hx => by
    obtain ⟨sl, e1⟩ := a.slot c ob q n hc hx
    obtain ⟨sl', e2⟩ := b.slot c _ e1 (a.free c ob q n hx) hc hx
    exact ⟨sl', e2⟩
  free := fun c ob q n hx => by
    obtain ⟨o', e1⟩ := a.there c ob q hx
    exact b.free c o' e1 (a.free c ob q n hx) hx
  there := fun c ob q hx => by
    obtain ⟨o', e1⟩ := a.there c ob q hx
    exact b.there c o' e1 hx
  tups := fun c xs q => b.tups c xs (a.tups c xs q)
  frzs := fun c ob xs q => b.frzs c ob xs (a.frzs c ob xs q)
  tbls := fun c ps q => by
    obtain ⟨m1, e1⟩ := a.tbls c ps q
    obtain ⟨m2, e2⟩ := b.tbls c _ e1
    exact ⟨m1 ++ m2, by rw [e2, Array.append_assoc]⟩
theorem Un.kept (k : ∀ b u, h.get? b = some u → h'.get? b = some u) : Un fs ex H H h h' :=
  ⟨fun b ob q _ _ _ => k b ob q, fun b ob q _ _ _ => ⟨ob.slots, k b ob q⟩, fun _ _ _ n _ => n, fun b ob q _ => ⟨ob, k b ob q⟩, fun _ _ q => q, fun _ _ _ q => q, fun _ ps q => ⟨#[], by rw [q]; simp⟩⟩
theorem Un.refl : Un fs ex H H h h := Un.kept fun _ _ q => q
theorem Un.laid (k : ∀ b u, h.get? b = some u → h'.get? b = some u) (hp : h.objs.size ≤ a) (hn : H a = none) : Un fs ex H (upd H a o) h h' where
  keep := fun b u q _ _ _ => k b u q
  slot := fun b u q _ _ _ => ⟨u.slots, k b u q⟩
  free := fun b u q n _ => by rw [upd_ne (Nat.ne_of_lt (Nat.lt_of_lt_of_le (Heap.lt_size q) hp))]; exact n
  there := fun b u q _ => ⟨u, k b u q⟩
  tups := fun b xs q => by rw [upd_ne (ne_of_none q hn)]; exact q
  frzs := fun b u xs q => by rw [upd_ne (ne_of_none q hn)]; exact q
  tbls := fun b ps q => ⟨#[], by rw [upd_ne (ne_of_none q hn), q]; simp⟩
theorem Un.write (mu : Mut (H x)) (he : e = x ∨ H e = some (.own x)) (k : ∀ b u, b ≠ e → h.get? b = some u → h'.get? b = some u) (heo : ∃ u, h'.get? e = some u) : Un fs ex H (upd H x o) h h' := by
  have hx : ∀ b, H b = none → b ≠ x := fun b n z => by subst z; rw [n] at mu; exact mu
  have hb : ∀ b, H b = none → b ≠ e := fun b n z => by
    subst z
    rcases he with r | r
    · exact hx b n r
    · rw [n] at r; cases r
  have hm : ∀ b u, H b = some u → ¬ Mut (some u) → b ≠ x := fun b u q nm z => by subst z; rw [q] at mu; exact nm mu
  refine ⟨fun b u q n _ _ => k b u (hb b n) q, fun b u q n _ _ => ⟨u.slots, k b u (hb b n) q⟩, fun b u q n _ => by rw [upd_ne (hx b n)]; exact n, fun b u q _ => ?_,
    fun b xs q => by rw [upd_ne (hm b _ q fun z => z)]; exact q, fun b u xs q => by rw [upd_ne (hm b _ q fun z => z)]; exact q, fun b ps q => ⟨#[], by rw [upd_ne (hm b _ q fun z => z), q]; simp⟩⟩
  by_cases hbe : b = e
  · subst hbe; exact heo
  · exact ⟨u, k b u hbe q⟩
end
noncomputable def trk (h : Heap) (H : Hp) : List Addr := (List.range h.objs.size).filter fun a => (H a).isSome
noncomputable def hidT (h : Heap) (H : Hp) : Heap := PySem.W.hideAll h (trk h H)
theorem hidT_size (h : Heap) (H : Hp) : (hidT h H).objs.size = h.objs.size := PySem.W.hideAll_size _ _
theorem hidT_get {h : Heap} {H : Hp} {b : Addr} {o : Obj} (e : h.get? b = some o) (n : H b = none) : (hidT h H).get? b = some o :=
  PySem.W.hideAll_get _ e fun hm => by
    have q : (H b).isSome = true := (List.mem_filter.mp hm).2
    rw [n] at q; simp at q
theorem of_hidT {h : Heap} {H : Hp} {b : Addr} {o : Obj} (e : (hidT h H).get? b = some o) : h.get? b = some o ∧ H b = none := by
  have e' : h.get? b = some o := PySem.W.of_hideAll (trk h H) e
  refine ⟨e', ?_⟩
  cases q : H b with
  | none => rfl
  | some x =>
    have hm : b ∈ trk h H := List.mem_filter.mpr ⟨List.mem_range.mpr (Heap.lt_size e'), by simp [q]⟩
    have z : (hidT h H).get? b = none := PySem.W.hideAll_none (trk h H) hm
    rw [z] at e; cases e
end L2
namespace L2
open PySem PySem.Spec PyProof.Rows
structure Mod (K : PySem.W.Frag) (mg : Str → Option Value) (base : Heap) : Prop where
  kin : K.In base
  glob : base.Ns mainGlobals mg
  blt : ∃ mb, base.Ns builtinsNs mb ∧ ∀ x : Str, x ≠ "__name__" → mb x = bootBuiltins x
  nolimit : base.NoLimit
structure Cx where
  prog : Program
  w : World
  K : PySem.W.Frag
  mg : Str → Option Value
  base : Heap
  A : Around
  N : List Str
  s₀ : Shared
  H₀ : Hp
  env : Env
  outer : List Env
  stack : List Env
  ex : List Addr
  fn : Str → Bool
  calm : Bool
  pn : List (Addr × Obj)
  xe : Value → Shared → Prop
noncomputable def frs (l : List Env) : List Addr := l.filterMap (·.frame)
noncomputable abbrev Cx.fs (X : Cx) : List Addr := frs X.outer
noncomputable def Vis (sc : Scope) (x : Str) : Prop := sc.names.lookup x = some .local ∨ sc.names.lookup x = some .cell ∨ sc.names.lookup x = some .free
noncomputable def Loc (sc : Scope) (x : Str) : Prop := sc.names.lookup x = some .local ∨ sc.names.lookup x = some .cell
noncomputable def Look (env : Env) (h : Heap) (m : Str → Option Value) (x : Str) (u : Value) : Prop :=
  (env.kindOf x = some .local ∧ m x = some u) ∨ ((env.kindOf x = some .cell ∨ env.kindOf x = some .free) ∧ ∃ c, env.cells.lookup x = some c ∧ h.IsCell c (some u))
structure Cx.Ok (X : Cx) : Prop where
  mod : Mod X.K X.mg X.base
  kind : X.env.scope.kind = .function
  glob : X.env.globals = mainGlobals
  blt : X.env.builtins = builtinsNs
  above : X.s₀.heap.objs.size ≤ X.env.locals
  inj : ∀ x y c, X.env.cells.lookup x = some c → X.env.cells.lookup y = some c → x = y
  has : ∀ x, (X.env.kindOf x = some .cell ∨ X.env.kindOf x = some .free) → ∃ c, X.env.cells.lookup x = some c
  cab : ∀ x c, X.fn x = true → X.env.cells.lookup x = some c → X.s₀.heap.objs.size ≤ c
  hd : X.calm = true → X.A.handled = none
  frames : X.A.frames = some X.stack
  stk : X.stack = X.outer ∨ (X.stack = X.env :: X.outer ∧ X.env.frame = some X.env.locals)
  exf : ∀ b ∈ X.ex, b ≠ X.env.locals ∧ ∀ x c, X.env.cells.lookup x = some c → c ≠ b
  bs : ∀ b o, X.base.get? b = some o → X.s₀.heap.get? b = some o ∧ X.H₀ b = none
  bsz : X.base.objs.size ≤ X.s₀.heap.objs.size
  noex : ∀ b o, X.base.get? b = some o → b ∉ X.ex
  exfs : ∀ b ∈ X.ex, b ∉ X.fs
  funs : X.s₀.heap.FunFrames X.base X.outer
  frf : ∀ b ∈ X.fs, X.H₀ b = none
structure Inv (X : Cx) (pins : List (Addr × Obj)) (σ : List (Option V)) (H : Hp) (s : Shared) : Prop where
  ok : X.Ok
  os : s.os = X.s₀.os
  bare : AllBare s.gens
  base : Un X.fs X.ex X.H₀ H X.s₀.heap s.heap
  loc : ∃ m, s.heap.Ns X.env.locals m ∧ ∀ (i : Nat) (x : Str) (v : V), X.N[i]? = some x → σ[i]? = some (some v) → Vis X.env.scope x → ∃ u, RelV v u ∧ Look X.env s.heap m x u
  cell : ∀ x c, X.env.cells.lookup x = some c → ∃ v, s.heap.IsCell c v
  free : H X.env.locals = none
  freeC : ∀ x c, X.env.cells.lookup x = some c → H c = none
  pin : ∀ p ∈ X.pn ++ pins, s.heap.get? p.1 = some p.2 ∧ H p.1 = none ∧ p.1 ≠ X.env.locals ∧ p.1 ∉ X.fs ∧ ∀ v, p.2.data ≠ .cell v
  hok : HOk X.prog X.w H s.heap
  len : σ.length = X.N.length
section
variable {X : Cx} {pins : List (Addr × Obj)} {σ : List (Option V)} {H H' : Hp} {s : Shared} {h' : Heap}
theorem Cx.Ok.nofr (ok : X.Ok) {b : Addr} {o : Obj} (e : X.base.get? b = some o) : b ∉ X.fs := fun hb => by
  have := (ok.funs.mem hb).1
  rw [e] at this; cases this
theorem Inv.bs (I : Inv X pins σ H s) : ∀ b o, X.base.get? b = some o → s.heap.get? b = some o ∧ H b = none := fun b o e =>
  ⟨I.base.keep b o (I.ok.bs b o e).1 (I.ok.bs b o e).2 (I.ok.nofr e) (I.ok.noex b o e), I.base.free b o (I.ok.bs b o e).1 (I.ok.bs b o e).2 (I.ok.noex b o e)⟩
theorem Inv.bk (I : Inv X pins σ H s) : ∀ b o, X.base.get? b = some o → s.heap.get? b = some o := fun b o e => (I.bs b o e).1
theorem Inv.mod (I : Inv X pins σ H s) : Mod X.K X.mg X.base := I.ok.mod
theorem Inv.kIn (I : Inv X pins σ H s) : X.K.In s.heap := I.ok.mod.kin.keeps I.bk
theorem Inv.lt (I : Inv X pins σ H s) : X.env.locals < s.heap.objs.size := let ⟨_, hn, _⟩ := I.loc; hn.lt
theorem Inv.sz (I : Inv X pins σ H s) : X.s₀.heap.objs.size ≤ s.heap.objs.size := Nat.le_trans I.ok.above (Nat.le_of_lt I.lt)
theorem Inv.nofs (I : Inv X pins σ H s) {a : Addr} (h : s.heap.objs.size ≤ a) : a ∉ X.fs := fun hb => by
  obtain ⟨_, o, ho, _⟩ := I.ok.funs.mem hb
  exact absurd (Nat.lt_of_lt_of_le (Heap.lt_size ho) (Nat.le_trans I.sz h)) (Nat.lt_irrefl _)
theorem Inv.cne (I : Inv X pins σ H s) : ∀ x c, X.env.cells.lookup x = some c → c ≠ X.env.locals := fun x c e z => by
  obtain ⟨v, o, ho, hd⟩ := I.cell x c e
  obtain ⟨m, ⟨o', es, ep, ho', hd', _⟩, _⟩ := I.loc
  rw [z, ho'] at ho; cases ho; rw [hd'] at hd; cases hd
theorem Inv.funs (I : Inv X pins σ H s) : s.heap.FunFrames X.base X.outer := by
  have all : ∀ (l : List Env), (∀ b ∈ frs l, b ∈ X.fs) → X.s₀.heap.FunFrames X.base l → s.heap.FunFrames X.base l := by
    intro l
    induction l with
    | nil => intro _ _; trivial
    | cons env r ih =>
      intro hs hl
      obtain ⟨hk, ⟨L, o, hf, hn, ho, hd⟩, hr⟩ := hl
      have hL : L ∈ X.fs := hs L (by unfold frs; rw [List.filterMap_cons, hf]; exact List.mem_cons_self)
      obtain ⟨sl, e⟩ := I.base.slot L o ho (I.ok.frf L hL) hL fun z => I.ok.exfs L z hL
      exact ⟨hk, ⟨L, _, hf, hn, e, hd⟩, ih (fun b hb => hs b (by unfold frs; rw [List.filterMap_cons, hf]; exact List.mem_cons_of_mem _ hb)) hr⟩
  exact all X.outer (fun _ hb => hb) I.ok.funs
theorem Inv.stack (I : Inv X pins σ H s) : s.heap.FunFrames X.base X.stack := by
  rcases I.ok.stk with e | ⟨e, hf⟩
  · rw [e]; exact I.funs
  · rw [e]
    obtain ⟨m, hn, _⟩ := I.loc
    refine .cons (by rw [I.ok.kind]; decide) hf hn ?_ I.funs
    exact Heap.get?_none_of_le (Nat.le_trans I.ok.bsz I.ok.above)
theorem Inv.stkSub (I : Inv X pins σ H s) : ∀ b ∈ frs X.stack, b ∈ X.env.locals :: X.fs := fun b hb => by
  rcases I.ok.stk with e | ⟨e, hf⟩
  · rw [e] at hb; exact List.mem_cons_of_mem _ hb
  · rw [e] at hb
    unfold frs at hb
    rw [List.filterMap_cons, hf] at hb
    exact hb
theorem Inv.stkFree (I : Inv X pins σ H s) : ∀ b ∈ frs X.stack, H b = none := fun b hb => by
  rcases List.mem_cons.mp (I.stkSub b hb) with e | hb
  · rw [e]; exact I.free
  · obtain ⟨_, o, ho, _⟩ := I.ok.funs.mem hb
    exact I.base.free b o ho (I.ok.frf b hb) fun z => I.ok.exfs b z hb
theorem Inv.step {g' : Array GenState} {t' : Nat} {d' : Drawn} {ch : List Addr} (I : Inv X pins σ H s)
    (hch : ∀ b ∈ ch, (b ∈ X.ex ∨ X.s₀.heap.objs.size ≤ b) ∧ b ≠ X.env.locals ∧ (∀ x c, X.env.cells.lookup x = some c → c ≠ b) ∧ ∀ p ∈ X.pn ++ pins, p.1 ≠ b)
    (keep : ∀ b o, b ≠ X.env.locals → b ∉ X.fs → b ∉ ch → s.heap.get? b = some o → H b = none → h'.get? b = some o)
    (slot : ∀ b o, b ≠ X.env.locals → b ∈ X.fs → b ∉ ch → s.heap.get? b = some o → H b = none → ∃ sl, h'.get? b = some { o with slots := sl }) (free : ∀ b o, b ∉ ch → s.heap.get? b = some o → H b = none → H' b = none)
    (there : ∀ b o, b ∉ ch → s.heap.get? b = some o → ∃ o', h'.get? b = some o')
    (tups : ∀ b xs, H b = some (.tup xs) → H' b = some (.tup xs)) (frzs : ∀ b o u, H b = some (.frz o u) → H' b = some (.frz o u)) (tbls : ∀ b ps, H b = some (.tbl ps) → ∃ more, H' b = some (.tbl (ps ++ more)))
    (ns : ∀ m, s.heap.Ns X.env.locals m → h'.Ns X.env.locals m) (hok : HOk X.prog X.w H' h') (hg : AllBare g') :
    Inv X pins σ H' { s with heap := h', gens := g', drawn := d', toks := t' } := by
  have neL : ∀ b o, X.s₀.heap.get? b = some o → b ≠ X.env.locals := fun b o e => Nat.ne_of_lt (Nat.lt_of_lt_of_le (Heap.lt_size e) I.ok.above)
  have neC : ∀ b o, X.s₀.heap.get? b = some o → b ∉ X.ex → b ∉ ch := fun b o e hx hb => by
    rcases (hch b hb).1 with z | z
    · exact hx z
    · exact absurd (Nat.lt_of_lt_of_le (Heap.lt_size e) z) (Nat.lt_irrefl _)
  have cellK : ∀ x c, X.env.cells.lookup x = some c → ∀ v, s.heap.IsCell c v → h'.IsCell c v := fun x c e v hq__ => by
    obtain ⟨o, ho, hd⟩ := hq__
    have nch : c ∉ ch := fun z => (hch c z).2.2.1 x c e rfl
    by_cases hc : c ∈ X.fs
    · obtain ⟨sl, q⟩ := slot c o (I.cne x c e) hc nch ho (I.freeC x c e)
      exact ⟨_, q, hd⟩
    · exact ⟨o, keep c o (I.cne x c e) hc nch ho (I.freeC x c e), hd⟩
  refine ⟨I.ok, I.os, hg, ⟨fun b o e n hb hx => ?_, fun b o e n hb hx => ?_, fun b o e n hx => ?_, fun b o e hx => ?_, fun b xs e => tups b xs (I.base.tups b xs e), fun b o xs e => frzs b o xs (I.base.frzs b o xs e), fun b ps e => ?_⟩, ?_, fun x c e => ?_, ?_, fun x c e => ?_, fun p hp => ?_, hok, I.len⟩
  · exact keep b o (neL b o e) hb (neC b o e hx) (I.base.keep b o e n hb hx) (I.base.free b o e n hx)
  · obtain ⟨sl, e1⟩ := I.base.slot b o e n hb hx
    obtain ⟨sl', e2⟩ := slot b _ (neL b o e) hb (neC b o e hx) e1 (I.base.free b o e n hx)
    exact ⟨sl', e2⟩
  · obtain ⟨o', e1⟩ := I.base.there b o e hx
    exact free b o' (neC b o e hx) e1 (I.base.free b o e n hx)
  · obtain ⟨o', e1⟩ := I.base.there b o e hx
    exact there b o' (neC b o e hx) e1
  · obtain ⟨m1, e1⟩ := I.base.tbls b ps e
    obtain ⟨m2, e2⟩ := tbls b _ e1
    exact ⟨m1 ++ m2, by rw [e2, Array.append_assoc]⟩
  · obtain ⟨m, hn, hl⟩ := I.loc
    refine ⟨m, ns m hn, fun i x v e1 e2 e3 => ?_⟩
    obtain ⟨u, r, l⟩ := hl i x v e1 e2 e3
    refine ⟨u, r, ?_⟩
    rcases l with l | ⟨k, c, e, z⟩
    · exact .inl l
    · exact .inr ⟨k, c, e, cellK x c e _ z⟩
  · obtain ⟨v, z⟩ := I.cell x c e
    exact ⟨v, cellK x c e v z⟩
  · obtain ⟨m, ⟨o, _, _, ho, _⟩, _⟩ := I.loc
    exact free _ o (fun z => (hch _ z).2.1 rfl) ho I.free
  · obtain ⟨v, o, ho, hd⟩ := I.cell x c e
    exact free c o (fun z => (hch c z).2.2.1 x c e rfl) ho (I.freeC x c e)
  · obtain ⟨e, n, ne, nf, d⟩ := I.pin p hp
    have nch : p.1 ∉ ch := fun z => (hch p.1 z).2.2.2 p hp rfl
    exact ⟨keep p.1 p.2 ne nf nch e n, free p.1 p.2 nch e n, ne, nf, d⟩
theorem Inv.un {t' : Nat} (I : Inv X pins σ H s) (u : Un X.fs [] H H' s.heap h') (hok : HOk X.prog X.w H' h') : Inv X pins σ H' { s with heap := h', toks := t' } := by
  obtain ⟨m, ⟨o, es, ep, ho, r⟩, _⟩ := id I.loc
  obtain ⟨sl, hL⟩ := u.any ho I.free (by simp)
  exact I.step (g' := s.gens) (d' := s.drawn) (ch := []) (fun _ z => nomatch z) (fun b o _ hb _ e n => u.keep b o e n hb (by simp)) (fun b o _ hb _ e n => u.slot b o e n hb (by simp)) (fun b o _ e n => u.free b o e n (by simp)) (fun b o _ e => u.there b o e (by simp)) u.tups u.frzs u.tbls (fun m' hm => by
    obtain ⟨o', es', ep', ho', r'⟩ := hm
    rw [ho] at ho'; cases ho'
    exact ⟨_, es', ep', hL, r'⟩) hok I.bare
theorem Inv.call {g' : Array GenState} {t' : Nat} {d' : Drawn} {ch : List Addr} (I : Inv X pins σ H s) (u : Un (frs X.stack) ch H H' s.heap h') (hok : HOk X.prog X.w H' h') (hg : AllBare g')
    (hch : ∀ b ∈ ch, (b ∈ X.ex ∨ X.s₀.heap.objs.size ≤ b) ∧ b ≠ X.env.locals ∧ (∀ x c, X.env.cells.lookup x = some c → c ≠ b) ∧ ∀ p ∈ X.pn ++ pins, p.1 ≠ b) :
    Inv X pins σ H' { s with heap := h', gens := g', drawn := d', toks := t' } := by
  obtain ⟨m, ⟨o, es, ep, ho, r⟩, _⟩ := id I.loc
  obtain ⟨sl, hL⟩ := u.any ho I.free fun z => (hch _ z).2.1 rfl
  exact I.step (ch := ch) hch (fun b o hL hb hc e n => u.keep b o e n (fun z => (List.mem_cons.mp (I.stkSub b z)).elim hL hb) hc) (fun b o _ _ hc e n => u.any e n hc) (fun b o hc e n => u.free b o e n hc) (fun b o hc e => u.there b o e hc) u.tups u.frzs u.tbls (fun m' hm => by
    obtain ⟨o', es', ep', ho', r'⟩ := hm
    rw [ho] at ho'; cases ho'
    exact ⟨_, es', ep', hL, r'⟩) hok hg
theorem Inv.turned {t' : Nat} {it : Addr} (I : Inv X pins σ H s) (k : ∀ b o, b ≠ it → s.heap.get? b = some o → h'.get? b = some o) (hn : H it = none) (hL : it ≠ X.env.locals)
    (h1 : it ∈ X.ex ∨ X.s₀.heap.objs.size ≤ it) (h2 : ∀ x c, X.env.cells.lookup x = some c → c ≠ it) (h3 : ∀ p ∈ X.pn ++ pins, p.1 ≠ it) : Inv X pins σ H { s with heap := h', toks := t' } := by
  have nit : ∀ b u, H b = some u → b ≠ it := fun b u e z => by rw [z, hn] at e; cases e
  refine I.step (g' := s.gens) (d' := s.drawn) (ch := [it]) (fun b hb => ?_) (fun b o _ _ hc e _ => k b o (fun z => hc (by simp [z])) e) (fun b o _ _ hc e _ => ⟨o.slots, k b o (fun z => hc (by simp [z])) e⟩) (fun _ _ _ _ n => n)
    (fun b o hc e => ⟨o, k b o (fun z => hc (by simp [z])) e⟩) (fun _ _ e => e) (fun _ _ _ e => e) (fun b ps e => ⟨#[], by rw [e]; simp⟩) (fun m hm => ?_) (fun b u e => ?_) I.bare
  · have e : b = it := by simpa using hb
    subst e
    exact ⟨h1, hL, h2, h3⟩
  · obtain ⟨o, es, ep, ho, r⟩ := hm
    exact ⟨o, es, ep, k _ o (Ne.symm hL) ho, r⟩
  · refine (I.hok b u e).stay (fun c v hc q => k c v ?_ q) (fun _ q => q) fun _ _ q => q
    rcases hc with z | z
    · rw [z]; exact nit b u e
    · exact nit c _ z
theorem Inv.tok (I : Inv X pins σ H s) (t : Nat) : Inv X pins σ H { s with toks := t } := I.un (h' := s.heap) (t' := t) Un.refl I.hok
theorem Inv.kept {t' : Nat} (I : Inv X pins σ H s) (k : ∀ b u, s.heap.get? b = some u → h'.get? b = some u) : Inv X pins σ H { s with heap := h', toks := t' } := I.un (Un.kept k) (I.hok.kept k)
theorem Inv.laid {a : Addr} {o : HO} {t' : Nat} (I : Inv X pins σ H s) (k : ∀ b u, s.heap.get? b = some u → h'.get? b = some u) (hp : s.heap.objs.size ≤ a) (new : ObjOk X.prog X.w (upd H a o) h' a o) :
    Inv X pins σ (upd H a o) { s with heap := h', toks := t' } := I.un (Un.laid k hp (I.hok.fresh hp)) (I.hok.laid k hp new)
theorem Inv.write {x e : Addr} {o : HO} {t' : Nat} (I : Inv X pins σ H s) (mu : Mut (H x)) (he : e = x ∨ H e = some (.own x)) (k : ∀ b u, b ≠ e → s.heap.get? b = some u → h'.get? b = some u) (heo : ∃ u, h'.get? e = some u)
    (new : ObjOk X.prog X.w (upd H x o) h' x o) : Inv X pins σ (upd H x o) { s with heap := h', toks := t' } := I.un (Un.write mu he k heo) (I.hok.write mu he k heo new)
theorem Inv.pins_of {pins' : List (Addr × Obj)} (I : Inv X pins σ H s) (h : ∀ p ∈ pins', s.heap.get? p.1 = some p.2 ∧ H p.1 = none ∧ p.1 ≠ X.env.locals ∧ p.1 ∉ X.fs ∧ ∀ v, p.2.data ≠ .cell v) : Inv X pins' σ H s :=
  ⟨I.ok, I.os, I.bare, I.base, I.loc, I.cell, I.free, I.freeC, fun p hp => (List.mem_append.mp hp).elim (fun z => I.pin p (List.mem_append_left _ z)) (h p), I.hok, I.len⟩
theorem nodup_ix {N : List Str} (hN : N.Nodup) {i j : Nat} {x : Str} (a : N[i]? = some x) (b : N[j]? = some x) : i = j := by
  obtain ⟨h1, e1⟩ := List.getElem?_eq_some_iff.mp a
  obtain ⟨h2, e2⟩ := List.getElem?_eq_some_iff.mp b
  exact (List.getElem_inj hN).mp (e1.trans e2.symm)
theorem store_ok2 {M : Model} {A : Around} {E : Value → Shared → Prop} {i : Nat} {x : Str} {v : V} {u : Value} {Q : Unit → Shared → Prop} (I : Inv X pins σ H s) (hN : X.N.Nodup) (hi : X.N[i]? = some x) (hx : Loc X.env.scope x) (r : RelV v u)
    (h : ∀ s', Inv X pins (σ.set i (some v)) H s' → (∃ a, Heap.SameBut a s.heap s'.heap ∧ (a = X.env.locals ∨ X.env.cells.lookup x = some a)) → Q () s') (hf : X.fn x = true ∨ X.env.scope.names.lookup x = some .local := by first | exact .inl rfl | exact .inr rfl | assumption) : wpAny M A (storeName X.env x u) Q E s := by
  obtain ⟨m, hn, hl⟩ := id I.loc
  have hcls : (X.env.scope.kind == .class || (X.env.scope.kind == .module && X.env.locals != X.env.globals)) = false := by rw [I.ok.kind]; rfl
  have hiσ : i < σ.length := by rw [I.len]; exact (List.getElem?_eq_some_iff.mp hi).1
  have cne := I.cne
  have tracked : ∀ {a : Addr} {h' : Heap}, (∃ o, s.heap.get? a = some o ∧ H a = none) → Heap.SameBut a s.heap h' → HOk X.prog X.w H h' := fun {a h'} ha hs b ob e => by
    obtain ⟨_, _, hfree⟩ := ha
    refine (I.hok b ob e).stay (fun c w' hc q => (hs.2 c ?_).trans q) (fun _ q => q) fun _ _ q => q
    rintro rfl
    rcases hc with rfl | hc
    · rw [hfree] at e; cases e
    · rw [hfree] at hc; cases hc
  rcases hx with hk | hk
  · refine wpAny_storeName_local hk hn (fun h' hn' hs => ?_) hcls
    obtain ⟨oL, _, _, hoL, _⟩ := id hn
    refine h _ ⟨I.ok, I.os, I.bare, ⟨fun b o e n hb hx => ?_, fun b o e n hb hx => ?_, I.base.free, fun b o e hx => ?_, I.base.tups, I.base.frzs, I.base.tbls⟩, ⟨_, hn', fun j y v' e1 e2 e3 => ?_⟩, fun y c e => ?_, I.free, I.freeC, fun p hp => ?_, tracked ⟨oL, hoL, I.free⟩ hs, by simpa using I.len⟩ ⟨_, hs, .inl rfl⟩
    · exact (hs.2 b (Nat.ne_of_lt (Nat.lt_of_lt_of_le (Heap.lt_size e) I.ok.above))).trans (I.base.keep b o e n hb hx)
    · obtain ⟨sl, e1⟩ := I.base.slot b o e n hb hx
      exact ⟨sl, (hs.2 b (Nat.ne_of_lt (Nat.lt_of_lt_of_le (Heap.lt_size e) I.ok.above))).trans e1⟩
    · obtain ⟨o', e1⟩ := I.base.there b o e hx
      exact ⟨o', (hs.2 b (Nat.ne_of_lt (Nat.lt_of_lt_of_le (Heap.lt_size e) I.ok.above))).trans e1⟩
    · by_cases hj : j = i
      · subst hj
        rw [hi] at e1; cases e1
        rw [List.getElem?_set_self hiσ] at e2
        cases e2
        exact ⟨u, r, .inl ⟨hk, by simp⟩⟩
      · rw [List.getElem?_set_ne (Ne.symm hj)] at e2
        obtain ⟨u', r', q⟩ := hl j y v' e1 e2 e3
        refine ⟨u', r', ?_⟩
        rcases q with ⟨k, e⟩ | ⟨k, c, e, z⟩
        · refine .inl ⟨k, ?_⟩
          have : y ≠ x := fun e => hj (nodup_ix hN e1 (e ▸ hi))
          simp [this, e]
        · exact .inr ⟨k, c, e, z.sameBut hs (cne y c e)⟩
    · obtain ⟨w', z⟩ := I.cell y c e
      exact ⟨w', z.sameBut hs (cne y c e)⟩
    · obtain ⟨e, n, ne, nf, d⟩ := I.pin p hp
      exact ⟨(hs.2 p.1 ne).trans e, n, ne, nf, d⟩
  · have hfn : X.fn x = true := by
      rcases hf with z | z
      · exact z
      · rw [z] at hk; cases hk
    obtain ⟨c, hc⟩ := I.ok.has x (.inl hk)
    obtain ⟨w', z⟩ := I.cell x c hc
    refine wpAny_storeName_cell I.ok.kind hk hc z (fun h' hc' hs => ?_)
    obtain ⟨oc, hoc, hocd⟩ := id z
    refine h { s with heap := h' } ⟨I.ok, I.os, I.bare, ⟨fun b o e n hb hx => ?_, fun b o e n hb hx => ?_, I.base.free, fun b o e hx => ?_, I.base.tups, I.base.frzs, I.base.tbls⟩, ⟨m, hn.sameBut hs (Ne.symm (cne x c hc)), fun j y v' e1 e2 e3 => ?_⟩, fun y c' e => ?_, I.free, I.freeC, fun p hp => ?_, tracked ⟨oc, hoc, I.freeC x c hc⟩ hs, by simpa using I.len⟩ ⟨c, hs, .inr hc⟩
    · exact (hs.2 b (Nat.ne_of_lt (Nat.lt_of_lt_of_le (Heap.lt_size e) (I.ok.cab x c hfn hc)))).trans (I.base.keep b o e n hb hx)
    · obtain ⟨sl, e1⟩ := I.base.slot b o e n hb hx
      exact ⟨sl, (hs.2 b (Nat.ne_of_lt (Nat.lt_of_lt_of_le (Heap.lt_size e) (I.ok.cab x c hfn hc)))).trans e1⟩
    · obtain ⟨o', e1⟩ := I.base.there b o e hx
      exact ⟨o', (hs.2 b (Nat.ne_of_lt (Nat.lt_of_lt_of_le (Heap.lt_size e) (I.ok.cab x c hfn hc)))).trans e1⟩
    · by_cases hj : j = i
      · subst hj
        rw [hi] at e1; cases e1
        rw [List.getElem?_set_self hiσ] at e2
        cases e2
        exact ⟨u, r, .inr ⟨.inl hk, c, hc, hc'⟩⟩
      · rw [List.getElem?_set_ne (Ne.symm hj)] at e2
        obtain ⟨u', r', q⟩ := hl j y v' e1 e2 e3
        refine ⟨u', r', ?_⟩
        rcases q with q | ⟨k, c', e, z'⟩
        · exact .inl q
        · refine .inr ⟨k, c', e, z'.sameBut hs ?_⟩
          rintro rfl
          exact hj (nodup_ix hN e1 (I.ok.inj _ _ _ e hc ▸ hi))
    · by_cases hcc : c' = c
      · subst hcc; exact ⟨_, hc'⟩
      · obtain ⟨w2, z2⟩ := I.cell y c' e
        exact ⟨w2, z2.sameBut hs hcc⟩
    · obtain ⟨e, n, ne, nf, d⟩ := I.pin p hp
      refine ⟨(hs.2 p.1 ?_).trans e, n, ne, nf, d⟩
      intro q
      rw [q, hoc] at e
      have q' : oc = p.2 := Option.some.inj e
      exact d w' (by rw [← q']; exact hocd)
theorem store_ok {M : Model} {A : Around} {E : Value → Shared → Prop} {i : Nat} {x : Str} {v : V} {u : Value} {Q : Unit → Shared → Prop} (I : Inv X pins σ H s) (hN : X.N.Nodup) (hi : X.N[i]? = some x) (hx : Loc X.env.scope x) (r : RelV v u)
    (h : ∀ s', Inv X pins (σ.set i (some v)) H s' → Q () s') (hf : X.fn x = true ∨ X.env.scope.names.lookup x = some .local := by first | exact .inl rfl | exact .inr rfl | assumption) : wpAny M A (storeName X.env x u) Q E s :=
  store_ok2 I hN hi hx r (fun s' I' _ => h s' I') hf
theorem Inv.call' {s' : Shared} {ch : List Addr} (I : Inv X pins σ H s) (ho : s'.os = s.os) (u : Un (frs X.stack) ch H H' s.heap s'.heap) (hok : HOk X.prog X.w H' s'.heap) (hg : AllBare s'.gens)
    (hch : ∀ b ∈ ch, (b ∈ X.ex ∨ X.s₀.heap.objs.size ≤ b) ∧ b ≠ X.env.locals ∧ (∀ x c, X.env.cells.lookup x = some c → c ≠ b) ∧ ∀ p ∈ X.pn ++ pins, p.1 ≠ b) : Inv X pins σ H' s' := by
  obtain ⟨h', g', d', t', o'⟩ := s'
  have e : o' = s.os := ho
  subst e
  exact I.call (g' := g') (t' := t') (d' := d') u hok hg hch
end
noncomputable abbrev XK := Value → Option Addr → Hp → Prop
noncomputable abbrev St := List (Option V)
noncomputable abbrev VK := V → Hp → Prop
noncomputable abbrev TE := St → Hp → VK → Prop
noncomputable abbrev TT := St → Hp → (Bool → Hp → Prop) → Prop
noncomputable abbrev TA := St → Hp → (List V → Hp → Prop) → Prop
structure Ends where
  nx : St → Hp → Prop
  rt : VK
  bk : St → Hp → Prop := fun _ _ => False
  ct : St → Hp → Prop := fun _ _ => False
noncomputable abbrev TS := Ends → St → Hp → Prop
noncomputable def EP (X : Cx) (pins : List (Addr × Obj)) (σ : St) (Q : VK) (u : Value) (s' : Shared) : Prop := ∃ v H', Inv X pins σ H' s' ∧ RelV v u ∧ Q v H'
noncomputable def TP (X : Cx) (pins : List (Addr × Obj)) (σ : St) (Q : Bool → Hp → Prop) (b : Bool) (s' : Shared) : Prop := ∃ H', Inv X pins σ H' s' ∧ Q b H'
noncomputable def AP (X : Cx) (pins : List (Addr × Obj)) (σ : St) (Q : List V → Hp → Prop) (us : List Value) (s' : Shared) : Prop := ∃ vs H', Inv X pins σ H' s' ∧ Vals vs us ∧ Q vs H'
noncomputable def SP (X : Cx) (pins : List (Addr × Obj)) (D : Ends) (f : Flow) (s' : Shared) : Prop :=
  match f with
  | .next => ∃ σ' H', Inv X pins σ' H' s' ∧ D.nx σ' H'
  | .brk => ∃ σ' H', Inv X pins σ' H' s' ∧ D.bk σ' H'
  | .cont => ∃ σ' H', Inv X pins σ' H' s' ∧ D.ct σ' H'
  | .ret u => ∃ v σ' H', Inv X pins σ' H' s' ∧ RelV v u ∧ D.rt v H'
noncomputable def PE (X : Cx) (e : Expr) (t : TE) : Prop :=
  ∀ (pins : List (Addr × Obj)) (s : Shared) (σ : St) (H : Hp) (Q : VK), Inv X pins σ H s → t σ H Q → wpAny (model X.prog X.w) X.A (eval e X.env) (EP X pins σ Q) X.xe s
noncomputable def PT (X : Cx) (e : Expr) (t : TT) : Prop :=
  ∀ (pins : List (Addr × Obj)) (s : Shared) (σ : St) (H : Hp) (Q : Bool → Hp → Prop), Inv X pins σ H s → t σ H Q → wpAny (model X.prog X.w) X.A (isTrue e X.env (eval e X.env)) (TP X pins σ Q) X.xe s
noncomputable def PW (X : Cx) (e : Expr) (t : TT) : Prop :=
  ∀ (whole : Sem Value) (pins : List (Addr × Obj)) (s : Shared) (σ : St) (H : Hp) (Q : Bool → Hp → Prop), Inv X pins σ H s → t σ H Q → wpAny (model X.prog X.w) X.A (isTrue e X.env whole) (TP X pins σ Q) X.xe s
theorem PW.pt {X : Cx} {e : Expr} {t : TT} (h : PW X e t) : PT X e t := h _
noncomputable def PA (X : Cx) (es : List Expr) (t : TA) : Prop :=
  ∀ (pos : Pos) (pins : List (Addr × Obj)) (s : Shared) (σ : St) (H : Hp) (Q : List V → Hp → Prop), Inv X pins σ H s → t σ H Q → wpAny (model X.prog X.w) X.A (spliced (backTo pos (starEach es X.env))) (AP X pins σ Q) X.xe s
noncomputable def PS (X : Cx) (st : Stmt) (t : TS) : Prop :=
  ∀ (pins : List (Addr × Obj)) (s : Shared) (σ : St) (H : Hp) (D : Ends), Inv X pins σ H s → t D σ H → wpAny (model X.prog X.w) X.A (exec st X.env) (SP X pins D) X.xe s
noncomputable def PSs (X : Cx) (st : List Stmt) (t : TS) : Prop :=
  ∀ (pins : List (Addr × Obj)) (s : Shared) (σ : St) (H : Hp) (D : Ends), Inv X pins σ H s → t D σ H → wpAny (model X.prog X.w) X.A (execs st X.env) (SP X pins D) X.xe s
theorem thn {α : Type} {t : Sem α} {Q Q' : α → Shared → Prop} {M : Model} {A : Around} {E : Value → Shared → Prop} {s : Shared} (h : wpAny M A t Q E s) (hQ : ∀ a s, Q a s → Q' a s) : wpAny M A t Q' E s := wpAny_mono h hQ fun _ _ x => x
end L2
namespace L2
open PySem PySem.Spec PyProof.Rows
section
variable {X : Cx}
noncomputable def tVar (i : Nat) : TE := fun σ H Q => ∃ v, σ[i]? = some (some v) ∧ Q v H
noncomputable def tC (v : V) : TE := fun _ H Q => Q v H
theorem pe_var {i : Nat} {x : Str} {pos : Pos} (hN : X.N[i]? = some x) (hv : Vis X.env.scope x) (hd : (x == ("__debug__" : Str)) = false := by decide) (hcd : (x == ("__classdict__" : Str)) = false := by decide) : PE X (.Name x pos) (tVar i) := by
  intro pins s σ H Q I h
  obtain ⟨v, e, h⟩ := h
  obtain ⟨m, hn, hl⟩ := I.loc
  obtain ⟨u, r, l⟩ := hl i x v hN e hv
  have fin : EP X pins σ Q u s := ⟨v, H, I, r, h⟩
  rcases l with ⟨hk, hm⟩ | ⟨hk, c, hc, hcell⟩
  · exact wpAny_Name (wpAny_loadName_local I.ok.kind hk hn hm fin) hd
  · rcases hk with hk | hk
    · exact wpAny_Name (wpAny_loadName_cell I.ok.kind hk hc hcell fin) hd
    · exact wpAny_Name (wpAny_loadName_free I.ok.kind hk hc hcell fin hcd) hd
theorem pe_int {i j pos} : PE X (.Constant (.int i) j pos) (tC (.int i)) := fun _ _ _ H _ I h => wpAny_Constant_int ⟨.int i, H, I.tok _, ⟨_, rfl⟩, h⟩
theorem pe_bl {b j pos} : PE X (.Constant (.bool b) j pos) (tC (.bl b)) := fun _ _ _ H _ I h => Constant_bool ⟨.bl b, H, I, rfl, h⟩
noncomputable def Gl (X : Cx) (x : Str) : Prop := X.env.kindOf x = some .globalImplicit
theorem ld_glob {E : Value → Shared → Prop} {pins : List (Addr × Obj)} {s : Shared} {σ : St} {H : Hp} {x : Str} {u : Value} {pos : Pos} {Q : Value → Shared → Prop} (I : Inv X pins σ H s) (hg : Gl X x) (hm : X.mg x = some u) (h : Q u s)
    (hd : (x == ("__debug__" : Str)) = false := by decide) : wpAny (model X.prog X.w) X.A (eval (.Name x pos) X.env) Q E s :=
  Calls.Name_function_global I.ok.kind hg (Calls.loadGlobal_global (by rw [I.ok.glob]; exact I.mod.glob.keeps I.bk) hm h) hd
theorem ld_blt {E : Value → Shared → Prop} {pins : List (Addr × Obj)} {s : Shared} {σ : St} {H : Hp} {x : Str} {u : Value} {pos : Pos} {Q : Value → Shared → Prop} (I : Inv X pins σ H s) (hg : Gl X x) (hm : X.mg x = none) (hv : bootBuiltins x = some u) (h : Q u s)
    (hn : x ≠ "__name__" := by decide) (hd : (x == ("__debug__" : Str)) = false := by decide) : wpAny (model X.prog X.w) X.A (eval (.Name x pos) X.env) Q E s := by
  obtain ⟨mb, h1, h2⟩ := I.mod.blt
  exact Calls.Name_function_global I.ok.kind hg (Calls.loadGlobal_builtin (by rw [I.ok.glob]; exact I.mod.glob.keeps I.bk) hm (by rw [I.ok.blt]; exact h1.keeps I.bk) ((h2 x hn).trans hv) h) hd
theorem pe_bltn {x : Str} {v : V} {u : Value} {pos : Pos} (hg : Gl X x) (hm : X.mg x = none) (hv : bootBuiltins x = some u) (r : RelV v u) (hn : x ≠ "__name__" := by decide) (hd : (x == ("__debug__" : Str)) = false := by decide) : PE X (.Name x pos) (tC v) :=
  fun _ _ _ H _ I h => ld_blt I hg hm hv ⟨v, H, I, r, h⟩ hn hd
variable {a b : Expr} {ta tb : TE} {pos : Pos}
noncomputable def tB (t : TE) : TT := fun σ H Q => t σ H fun x H1 => ∃ c, x = .bl c ∧ Q c H1
theorem pt_val {e : Expr} {t : TE} (h : PE X e t) (he : ∀ whole, isTrue e X.env whole = (do let v ← whole; standAt e.pos; holding [v] (truthy v)) := by intro _; rfl) : PT X e (tB t) := by
  intro pins s σ H Q I hw
  refine isTrue_plain (thn (h pins s σ H _ I hw) fun v s1 hq__ => ?_) (he _)
  obtain ⟨x, H1, I1, r1, q1⟩ := hq__
  obtain ⟨d, rfl, q⟩ := q1
  cases r1
  exact wpAny_truthy_bool ⟨H1, I1, q⟩
variable {tA tB' : TT} {rest : List Expr}
noncomputable def tAnd (t u : TT) : TT := fun σ H Q => t σ H fun c H1 => if c = true then u σ H1 Q else Q false H1
noncomputable def tOr (t u : TT) : TT := fun σ H Q => t σ H fun c H1 => if c = true then Q true H1 else u σ H1 Q
noncomputable def tNot (t : TT) : TT := fun σ H Q => t σ H fun c H1 => Q (!c) H1
theorem pw_and1 (ha : PT X a tA) : PW X (.BoolOp .And [a] pos) tA := by
  intro wh pins s σ H Q I h
  refine isTrue_and (thn (ha pins s σ H Q I h) fun c s1 e => ?_)
  cases c with
  | true => exact isTrue_and_nil e
  | false => exact e
theorem pw_or1 (ha : PT X a tA) : PW X (.BoolOp .Or [a] pos) tA := by
  intro wh pins s σ H Q I h
  refine isTrue_or (thn (ha pins s σ H Q I h) fun c s1 e => ?_)
  cases c with
  | false => exact isTrue_or_nil e
  | true => exact e
theorem pw_and (ha : PT X a tA) (hb : PW X (.BoolOp .And (b :: rest) pos) tB') : PW X (.BoolOp .And (a :: b :: rest) pos) (tAnd tA tB') := by
  intro wh pins s σ H Q I h
  refine isTrue_and (thn (ha pins s σ H _ I h) fun c s1 hq__ => ?_)
  obtain ⟨H1, I1, q1⟩ := hq__
  cases c with
  | true => exact hb wh pins s1 σ H1 Q I1 q1
  | false => exact ⟨H1, I1, q1⟩
theorem pw_or (ha : PT X a tA) (hb : PW X (.BoolOp .Or (b :: rest) pos) tB') : PW X (.BoolOp .Or (a :: b :: rest) pos) (tOr tA tB') := by
  intro wh pins s σ H Q I h
  refine isTrue_or (thn (ha pins s σ H _ I h) fun c s1 hq__ => ?_)
  obtain ⟨H1, I1, q1⟩ := hq__
  cases c with
  | true => exact ⟨H1, I1, q1⟩
  | false => exact hb wh pins s1 σ H1 Q I1 q1
theorem pt_not (ha : PT X a tA) : PT X (.UnaryOp .Not a pos) (tNot tA) := by
  intro pins s σ H Q I h
  exact isTrue_not (ha pins s σ H (fun c H1 => Q (!c) H1) I h)
end
end L2
namespace L2
open PySem PySem.Spec PyProof.Rows
noncomputable def SqL (K : PySem.W.Frag) (H : Hp) (a : Addr) (xs : List V) : Prop :=
  Rd H a (.lst xs) ∨
    ∃ (o : Obj) (its : Array Value) (n : Nat), K.lookup a = some o ∧ o.cls = .type "list" ∧ o.dict = none ∧ o.data = .seq its n ∧ its.size ≤ sizeLine ∧ Vals xs its.toList
noncomputable def SqT (K : PySem.W.Frag) (H : Hp) (a : Addr) (xs : List V) : Prop :=
  Rd H a (.tup xs) ∨
    ∃ (o : Obj) (its : Array Value) (n : Nat), K.lookup a = some o ∧ o.cls = .type "tuple" ∧ o.data = .seq its n ∧ its.size ≤ sizeLine ∧ Vals xs its.toList
noncomputable def absV : Value → Option V
  | .none => some .non
  | .bool b => some (.bl b)
  | .int i _ => some (.int i)
  | .str x _ => some (.str x)
  | .bytes b _ => some (.byt b)
  | .float b _ => some (.flt b)
  | .ref a => some (.ref a)
  | .type n => some (.ty n)
  | _ => none
theorem RelV.abs {x : V} {u : Value} (r : RelV x u) : absV u = some x := by
  cases x with
  | non => cases r; rfl
  | bl _ => cases r; rfl
  | int _ => obtain ⟨t, rfl⟩ := r; rfl
  | str _ => obtain ⟨t, rfl⟩ := r; rfl
  | byt _ => obtain ⟨t, rfl⟩ := r; rfl
  | flt _ => obtain ⟨t, rfl⟩ := r; rfl
  | ref _ => cases r; rfl
  | ty _ => cases r; rfl
theorem RelV.inj {x y : V} {u : Value} (r : RelV x u) (q : RelV y u) : x = y := Option.some.inj (r.abs.symm.trans q.abs)
theorem Vals.inj : ∀ {xs ys : List V} {us : List Value}, Vals xs us → Vals ys us → xs = ys
  | _, _, _, .nil, .nil => rfl
  | _, _, _, .cons r t, .cons r' t' => by rw [r.inj r', Vals.inj t t']
section
variable {X : Cx} {pins : List (Addr × Obj)} {σ : St} {H : Hp} {s : Shared} {a : Addr} {xs ys : List V}
theorem SqL.of {K : PySem.W.Frag} (h : H a = some (.lst xs)) : SqL K H a xs := .inl (.inl h)
theorem SqT.of {K : PySem.W.Frag} (h : H a = some (.tup xs)) : SqT K H a xs := .inl (.inl h)
theorem Inv.list (I : Inv X pins σ H s) (h : SqL X.K H a xs) : ∃ its : List Value, Vals xs its ∧ PlainL s.heap a its.toArray ∧ xs.length ≤ sizeLine := by
  rcases h with h | ⟨o, its, n, hk, hc, hd, hs, hz, r⟩
  · obtain ⟨z, its, n, r, e⟩ := h.ok I.hok
    exact ⟨its, r, ⟨_, n, e, rfl, rfl, rfl⟩, z⟩
  · refine ⟨its.toList, r, ⟨o, n, I.kIn a o hk, hc, hd, by simpa using hs⟩, ?_⟩
    have e := r.length
    simp only [Array.length_toList] at e
    omega
theorem Inv.tuple (I : Inv X pins σ H s) (h : SqT X.K H a xs) : ∃ its : List Value, Vals xs its ∧ IsTup s.heap a its.toArray ∧ xs.length ≤ sizeLine := by
  rcases h with h | ⟨o, its, n, hk, hc, hs, hz, r⟩
  · obtain ⟨z, its, r, p⟩ := h.ok I.hok
    exact ⟨its, r, p, z⟩
  · refine ⟨its.toList, r, ⟨o, I.kIn a o hk, hc, n, by simpa using hs⟩, ?_⟩
    have e := r.length
    simp only [Array.length_toList] at e
    omega
theorem Inv.list_inj (I : Inv X pins σ H s) (h : SqL X.K H a xs) (h' : SqL X.K H a ys) : xs = ys := by
  obtain ⟨its, r, ⟨o, n, e, _, _, d⟩, _⟩ := I.list h
  obtain ⟨its', r', ⟨o', n', e', _, _, d'⟩, _⟩ := I.list h'
  rw [e] at e'; cases e'
  rw [d] at d'
  injection d' with d1 _
  have : its = its' := by simpa using congrArg Array.toList d1
  subst this
  exact r.inj r'
theorem Inv.tuple_inj (I : Inv X pins σ H s) (h : SqT X.K H a xs) (h' : SqT X.K H a ys) : xs = ys := by
  obtain ⟨its, r, ⟨o, e, _, n, d⟩, _⟩ := I.tuple h
  obtain ⟨its', r', ⟨o', e', _, n', d'⟩, _⟩ := I.tuple h'
  rw [e] at e'; cases e'
  rw [d] at d'
  injection d' with d1 _
  have : its = its' := by simpa using congrArg Array.toList d1
  subst this
  exact r.inj r'
end
noncomputable abbrev Cx.wish (X : Cx) (E : Value → Shared → Prop) : Cx := { X with xe := E }
noncomputable abbrev Cx.nox (X : Cx) : Cx := X.wish fun _ _ => False
theorem Cx.Ok.wish {X : Cx} (ok : X.Ok) (E : Value → Shared → Prop) : (X.wish E).Ok :=
  ⟨ok.mod, ok.kind, ok.glob, ok.blt, ok.above, ok.inj, ok.has, ok.cab, ok.hd, ok.frames, ok.stk, ok.exf, ok.bs, ok.bsz, ok.noex, ok.exfs, ok.funs, ok.frf⟩
theorem Cx.Ok.unwish {X : Cx} {E : Value → Shared → Prop} (ok : (X.wish E).Ok) : X.Ok :=
  ⟨ok.mod, ok.kind, ok.glob, ok.blt, ok.above, ok.inj, ok.has, ok.cab, ok.hd, ok.frames, ok.stk, ok.exf, ok.bs, ok.bsz, ok.noex, ok.exfs, ok.funs, ok.frf⟩
section
variable {X : Cx} {pins : List (Addr × Obj)} {σ : St} {H : Hp} {s : Shared} {E : Value → Shared → Prop}
theorem Inv.wish (I : Inv X pins σ H s) (E : Value → Shared → Prop) : Inv (X.wish E) pins σ H s := ⟨I.ok.wish E, I.os, I.bare, I.base, I.loc, I.cell, I.free, I.freeC, I.pin, I.hok, I.len⟩
theorem Inv.unwish (I : Inv (X.wish E) pins σ H s) : Inv X pins σ H s := ⟨I.ok.unwish, I.os, I.bare, I.base, I.loc, I.cell, I.free, I.freeC, I.pin, I.hok, I.len⟩
theorem SP.unwish {D : Ends} {f : Flow} {s' : Shared} (h : SP (X.wish E) pins D f s') : SP X pins D f s' := by
  cases f with
  | next => obtain ⟨σ', H', I, q⟩ := h; exact ⟨σ', H', I.unwish, q⟩
  | brk => obtain ⟨σ', H', I, q⟩ := h; exact ⟨σ', H', I.unwish, q⟩
  | cont => obtain ⟨σ', H', I, q⟩ := h; exact ⟨σ', H', I.unwish, q⟩
  | ret u => obtain ⟨v, σ', H', I, r, q⟩ := h; exact ⟨v, σ', H', I.unwish, r, q⟩
theorem PSs.nox {st : List Stmt} {t : TS} (h : PSs X.nox st t) : PSs X st t := fun pins s σ H D I hw =>
  wpAny_mono (h pins s σ H D (I.wish _) hw) (fun _ _ q => q.unwish) fun _ _ z => False.elim z
end
section
variable {X : Cx} {st : Stmt} {rest : List Stmt} {t u : TS} {e : Expr} {te : TE} {pos : Pos}
noncomputable def tNext : TS := fun D σ H => D.nx σ H
noncomputable def tSeq (t u : TS) : TS := fun D σ H => t { D with nx := u D } σ H
theorem pss_nil : PSs X [] tNext := fun _ _ σ H _ I h => wpAny_execs_nil ⟨σ, H, I, h⟩
theorem pss_cons (h1 : PS X st t) (h2 : PSs X rest u) : PSs X (st :: rest) (tSeq t u) := by
  intro pins s σ H D I h
  refine wpAny_execs_cons (thn (h1 pins s σ H { D with nx := u D } I h) fun f s1 q => ?_)
  cases f with
  | next =>
    obtain ⟨σ', H', I', q⟩ := q
    exact h2 pins s1 σ' H' D I' q
  | ret v => exact q
  | brk => exact q
  | cont => exact q
theorem pss_one (h1 : PS X st t) : PSs X [st] t := by
  intro pins s σ H D I h
  refine wpAny_execs_cons (thn (h1 pins s σ H D I h) fun f s1 q => ?_)
  cases f with
  | next => exact wpAny_execs_nil q
  | ret v => exact q
  | brk => exact q
  | cont => exact q
theorem Inv.quiet {pins : List (Addr × Obj)} {σ : St} {H : Hp} {s : Shared} (I : Inv X pins σ H s) : interactive X.env = false := by simp [interactive, I.ok.kind]
noncomputable def tDrop (te : TE) : TS := fun D σ H => te σ H fun _ H1 => D.nx σ H1
theorem ps_expr (he : PE X e te) (hs : swapsWith e none pos.line X.env = pure false := by rfl) : PS X (.Expr e pos) (tDrop te) := by
  intro pins s σ H D I h
  exact wpAny_Expr_any (thn (he pins s σ H _ I h) fun v s1 ⟨x, H1, I1, r1, q1⟩ => ⟨σ, H1, I1, q1⟩) I.quiet hs
noncomputable def tRet (te : TE) : TS := fun D σ H => te σ H D.rt
theorem ps_ret (he : PE X e te) : PS X (.Return (some e) pos) (tRet te) := by
  intro pins s σ H D I h
  exact wpAny_Return_some (thn (he pins s σ H _ I h) fun v s1 ⟨x, H1, I1, r1, q1⟩ => ⟨x, σ, H1, I1, r1, q1⟩)
noncomputable def tIfS (c : TT) (t u : TS) : TS := fun D σ H => c σ H fun b H1 => if b = true then t D σ H1 else u D σ H1
theorem ps_if {c : Expr} {a b : List Stmt} {tc : TT} (hc : PT X c tc) (ha : PSs X a t) (hb : PSs X b u) : PS X (.If c a b pos) (tIfS tc t u) := by
  intro pins s σ H D I h
  refine wpAny_If (thn (hc pins s σ H _ I h) fun d s1 hq__ => ?_)
  obtain ⟨H1, I1, q1⟩ := hq__
  cases d with
  | true => exact ha pins s1 σ H1 D I1 q1
  | false => exact hb pins s1 σ H1 D I1 q1
end
noncomputable abbrev TG := V → St → Hp → (St → Hp → Prop) → Prop
noncomputable abbrev TGs := List V → St → Hp → (St → Hp → Prop) → Prop
noncomputable def PG (X : Cx) (target : Expr) (t : TG) : Prop :=
  ∀ (pins : List (Addr × Obj)) (s : Shared) (σ : St) (H : Hp) (v : V) (u : Value) (Q : St → Hp → Prop), Inv X pins σ H s → RelV v u → t v σ H Q →
    wpAny (model X.prog X.w) X.A (assign target X.env u) (fun _ s' => ∃ σ' H', Inv X pins σ' H' s' ∧ Q σ' H') X.xe s
noncomputable def PGs (X : Cx) (ts : List Expr) (t : TGs) : Prop :=
  ∀ (pins : List (Addr × Obj)) (s : Shared) (σ : St) (H : Hp) (vs : List V) (us : List Value) (Q : St → Hp → Prop), Inv X pins σ H s → Vals vs us → t vs σ H Q →
    wpAny (model X.prog X.w) X.A (assignInOrder ((assignEach ts X.env).map (·.2)) us) (fun _ s' => ∃ σ' H', Inv X pins σ' H' s' ∧ Q σ' H') X.xe s
section
variable {X : Cx} {pos : Pos}
noncomputable def gName (i : Nat) : TG := fun v σ H Q => Q (σ.set i (some v)) H
theorem pg_name {i : Nat} {x : Str} (hN : X.N.Nodup) (hi : X.N[i]? = some x) (hx : Loc X.env.scope x) (hf : X.fn x = true ∨ X.env.scope.names.lookup x = some .local := by first | exact .inl rfl | exact .inr rfl | assumption) : PG X (.Name x pos) (gName i) := by
  intro pins s σ H v u Q I r h
  exact wpAny_assign_Name (store_ok I hN hi hx r (fun s' I' => ⟨_, H, I', h⟩) hf)
noncomputable def gNil : TGs := fun vs σ H Q => vs = [] ∧ Q σ H
noncomputable def gCons (t : TG) (u : TGs) : TGs := fun vs σ H Q => ∃ v r, vs = v :: r ∧ t v σ H fun σ' H' => u r σ' H' Q
theorem pgs_nil : PGs X [] gNil := by
  intro pins s σ H vs us Q I r h
  obtain ⟨e, h⟩ := h
  subst e
  cases r
  exact assignInOrder_nil ⟨σ, H, I, h⟩
theorem pgs_cons {e : Expr} {es : List Expr} {t : TG} {u : TGs} (h1 : PG X e t) (h2 : PGs X es u)
    (hs : (assignEach (e :: es) X.env).map (·.2) = assign e X.env :: (assignEach es X.env).map (·.2) := by rfl) : PGs X (e :: es) (gCons t u) := by
  intro pins s σ H vs us Q I r h
  obtain ⟨v, vr, e1, h⟩ := h
  subst e1
  cases r with
  | cons r rr =>
    rw [hs]
    refine assignInOrder_cons (thn (h1 pins s σ H _ _ _ I r h) fun _ s1 hq__ => ?_)
    obtain ⟨σ1, H1, I1, q1⟩ := hq__
    exact h2 pins s1 σ1 H1 _ _ Q I1 rr q1
noncomputable def gTup (K : PySem.W.Frag) (n : Nat) (t : TGs) : TG := fun v σ H Q => ∃ a xs, v = .ref a ∧ SqT K H a xs ∧ xs.length = n ∧ t xs σ H Q
theorem pg_tup {es : List Expr} {k : Nat} {t : TGs} {n : Nat} (hc : X.calm = true) (h : PGs X es t)
    (hn : (assignEach es X.env).length = n := by rfl) (hst : (assignEach es X.env).findIdx? (·.1) = none := by rfl) : PG X (.Tuple es k pos) (gTup X.K n t) := by
  intro pins s σ H v u Q I r hw
  obtain ⟨a, xs, e1, hq, hl, hw⟩ := hw
  subst e1
  cases r
  obtain ⟨its, rv, ht, hz⟩ := I.tuple hq
  refine assign_Tuple_tuple (I.ok.hd hc) ht (by simp [hn, ← hl, rv.length]) hst fun h' hx => ?_
  have I1 : Inv X pins σ H { s with heap := h' } := I.kept (t' := s.toks) fun b o e => hx b o (Nat.ne_of_lt (Heap.lt_size e)) e
  exact h pins _ σ H xs _ Q I1 (by simpa using rv) hw
noncomputable def tAsg (te : TE) (g : TG) : TS := fun D σ H => te σ H fun x H1 => g x σ H1 D.nx
theorem ps_asg {tg e : Expr} {te : TE} {g : TG} (he : PE X e te) (hg : PG X tg g) (hs : swapsWithSole [tg] e pos.line X.env = pure false := by rfl) (hw : swappedStores [tg] e X.env = pure none := by rfl)
    (h1 : (assignEach [tg] X.env).map (·.2) = [assign tg X.env] := by rfl) : PS X (.Assign [tg] e pos) (tAsg te g) := by
  intro pins s σ H D I h
  refine wpAny_Assign_stores (thn (he pins s σ H _ I h) fun v s1 hq__ => ?_) hs hw
  obtain ⟨x, H1, I1, r1, q1⟩ := hq__
  rw [h1]
  exact thn (hg pins s1 σ H1 x v _ I1 r1 q1) fun _ s2 q => q
theorem ps_set {i : Nat} {x : Str} {e : Expr} {te : TE} {pos' : Pos} (hN : X.N.Nodup) (hi : X.N[i]? = some x) (hx : Loc X.env.scope x) (he : PE X e te) (hs : swapsWith e (some (.Name x pos')) pos.line X.env = pure false := by rfl) (hf : X.fn x = true ∨ X.env.scope.names.lookup x = some .local := by first | exact .inl rfl | exact .inr rfl | assumption) :
    PS X (.Assign [.Name x pos'] e pos) (tAsg te (gName i)) := by
  intro pins s σ H D I h
  refine wpAny_Assign_Name (thn (he pins s σ H _ I h) fun v s1 hq__ => ?_) hs
  obtain ⟨y, H1, I1, r1, q1⟩ := hq__
  exact store_ok I1 hN hi hx r1 (fun s2 I2 => ⟨_, H1, I2, q1⟩) hf
end
section
variable {X : Cx} {pos : Pos}
end
structure It where
  go : Nat → Hp → Prop
  yld : Nat → Hp → V → Hp → Prop
  stop : Nat → Hp → Prop
noncomputable def FpOk (X : Cx) (pins : List (Addr × Obj)) (H : Hp) (b : Addr) : Prop :=
  H b = none ∧ b ≠ X.env.locals ∧ b ∉ X.fs ∧ (b ∈ X.ex ∨ X.s₀.heap.objs.size ≤ b) ∧ (∀ x c, X.env.cells.lookup x = some c → c ≠ b) ∧ ∀ p ∈ X.pn ++ pins, p.1 ≠ b
theorem Inv.fpOk {X : Cx} {pins : List (Addr × Obj)} {σ : St} {H H' : Hp} {s : Shared} {b : Addr} (I : Inv X pins σ H s) (hb : s.heap.objs.size ≤ b) (hn : H' b = none) : FpOk X pins H' b := by
  refine ⟨hn, Nat.ne_of_gt (Nat.lt_of_lt_of_le I.lt hb), I.nofs hb, .inr (Nat.le_trans I.sz hb), fun x c e z => ?_, fun p hp z => ?_⟩
  · obtain ⟨v, q⟩ := I.cell x c e
    exact absurd (Nat.lt_of_lt_of_le q.lt (by rw [z]; exact hb)) (Nat.lt_irrefl _)
  · exact absurd (Nat.lt_of_lt_of_le (Heap.lt_size (I.pin p hp).1) (by rw [z]; exact hb)) (Nat.lt_irrefl _)
structure Turn (P : Program) (w : World) (K : PySem.W.Frag) (tg : Expr) (J : It) (fp : List Addr) (it : Addr) (tn : Nat → Heap → Prop) : Prop where
  mem : it ∈ fp
  obj : ∀ i h, tn i h → ∀ b ∈ fp, ∃ o, h.get? b = some o ∧ ∀ v, o.data ≠ .cell v
  keep : ∀ i h h', tn i h → (∀ b ∈ fp, ∀ o, h.get? b = some o → h'.get? b = some o) → tn i h'
  item : ∀ (X : Cx), X.prog = P → X.w = w → X.K = K → X.calm = true → ∀ (i : Nat) (pins : List (Addr × Obj)) (s : Shared) (σ : St) (H : Hp) (E : Value → Shared → Prop), Inv X pins σ H s → (∀ b ∈ fp, FpOk X pins H b) → tn i s.heap → J.go i H →
    wpAny (model P w) X.A (pyNext (.ref it)) (fun r s1 => ∃ u, r = some u ∧
      wpAny (model P w) X.A (letOwnedTupleGo tg (.ref it) u) (fun _ s2 => ∃ x H', Inv X pins σ H' s2 ∧ RelV x u ∧ J.yld i H x H' ∧ tn (i + 1) s2.heap ∧ ∀ b ∈ fp, H' b = none) E s1) E s
  done : ∀ (X : Cx), X.prog = P → X.w = w → X.K = K → X.calm = true → ∀ (i : Nat) (pins : List (Addr × Obj)) (s : Shared) (σ : St) (H : Hp) (E : Value → Shared → Prop), Inv X pins σ H s → (∀ b ∈ fp, FpOk X pins H b) → tn i s.heap → J.stop i H →
    wpAny (model P w) X.A (pyNext (.ref it)) (fun r s1 => r = none ∧ Inv X pins σ H s1) E s
  self : ∀ (A : Around) (i : Nat) (s : Shared) (Q : Value → Shared → Prop) (E : Value → Shared → Prop), tn i s.heap → Q (.ref it) s → wpAny (model P w) A (pyIter (.ref it)) Q E s
noncomputable abbrev TI := St → Hp → (It → Hp → Prop) → Prop
noncomputable def PIE (X : Cx) (pins : List (Addr × Obj)) (σ : St) (tg : Expr) (R : It → Hp → Prop) (itv : Value) (s2 : Shared) : Prop :=
  ∃ (it : Addr) (fp : List Addr) (tn : Nat → Heap → Prop) (J : It) (H' : Hp), itv = .ref it ∧ Inv X pins σ H' s2 ∧ Turn X.prog X.w X.K tg J fp it tn ∧ tn 0 s2.heap ∧ (∀ b ∈ fp, FpOk X pins H' b) ∧ R J H'
noncomputable def PI (X : Cx) (tg iter : Expr) (wi : TI) : Prop :=
  ∀ (pins : List (Addr × Obj)) (s : Shared) (σ : St) (H : Hp) (R : It → Hp → Prop), Inv X pins σ H s → wi σ H R →
    wpAny (model X.prog X.w) X.A (eval iter X.env) (fun v s1 => wpAny (model X.prog X.w) X.A (pyIter v) (PIE X pins σ tg R) X.xe s1) X.xe s
theorem go_of {M : Model} {A : Around} {E : Value → Shared → Prop} {s : Shared} {tg : Expr} {it : Addr} {u : Value} {o : Obj} {n : String} {vs : Array Value} {Q : Unit → Shared → Prop} (ho : s.heap.get? it = some o) (hc : o.cls = .type n) (hd : o.data = .fields vs)
    (hn : ["enumerate", "zip", "dict_itemiterator", "dict_reverseitemiterator", "odict_iterator", "itertools.zip_longest", "itertools.pairwise"].contains n = false) (hQ : Q () s) : wpAny M A (letOwnedTupleGo tg (.ref it) u) Q E s := by
  unfold letOwnedTupleGo
  cases tg <;> first
    | exact wpAny_pure hQ
    | (cases u <;> first
        | exact wpAny_pure hQ
        | (refine wpAny_bind (wpAny_load ho ?_)
           rw [hc, hd]
           show wpAny M A (if (["enumerate", "zip", "dict_itemiterator", "dict_reverseitemiterator", "odict_iterator", "itertools.zip_longest", "itertools.pairwise"].contains n && vs[0]? == some (rawInt _)) = true then _ else _) Q E s
           rw [if_neg (by intro h; rw [hn, Bool.false_and] at h; cases h)]
           exact wpAny_pure hQ))
noncomputable def Itl (K : PySem.W.Frag) (a : Addr) : It :=
  ⟨fun i H => ∃ xs x, SqL K H a xs ∧ xs[i]? = some x, fun i H x H' => H' = H ∧ ∀ xs, SqL K H a xs → xs[i]? = some x, fun i H => ∃ xs, SqL K H a xs ∧ xs.length ≤ i⟩
noncomputable def Itt (K : PySem.W.Frag) (a : Addr) : It :=
  ⟨fun i H => ∃ xs x, SqT K H a xs ∧ xs[i]? = some x, fun i H x H' => H' = H ∧ ∀ xs, SqT K H a xs → xs[i]? = some x, fun i H => ∃ xs, SqT K H a xs ∧ xs.length ≤ i⟩
noncomputable def Itr (lo : Int) (n : Nat) : It := ⟨fun i _ => i < n, fun i H x H' => H' = H ∧ x = .int (lo + i), fun i _ => n ≤ i⟩
theorem turn_list {P : Program} {w : World} {K : PySem.W.Frag} {tg : Expr} (a it : Addr) : Turn P w K tg (Itl K a) [it] it (fun i h => h.IsListIter it a i) where
  mem := by simp
  obj := fun i h st b hb => by
    have e : b = it := by simpa using hb
    subst e
    obtain ⟨o, e, c, d⟩ := st
    exact ⟨o, e, fun v z => by rw [d] at z; cases z⟩
  keep := fun i h h' st k => st.at fun o e => k it (by simp) o e
  item := by
    intro X hP hw hK hc i pins s σ H E I hf st hg
    subst hP hw hK
    obtain ⟨xs, x, hq, hx⟩ := hg
    obtain ⟨its, rv, p, hz⟩ := I.list hq
    obtain ⟨u, hu, ru⟩ := rv.get hx
    obtain ⟨f0, f1, f2, f3, f4, f5⟩ := hf it (by simp)
    refine wpAny_pyNext_list_item st p.isList (x := u) (by simpa using hu) fun h' st' sb => ?_
    have I1 : Inv X pins σ H { s with heap := h' } := I.turned (t' := s.toks) (fun b o hb e => (sb.2 b hb).trans e) f0 f1 f3 f4 f5
    obtain ⟨o, e, c, d⟩ := id st'
    exact ⟨u, rfl, go_of (s := { s with heap := h' }) e c d (by decide) ⟨x, H, I1, ru, ⟨rfl, fun ys hy => by rw [I.list_inj hy hq]; exact hx⟩, st', fun b hb => (hf b hb).1⟩⟩
  done := by
    intro X hP hw hK hc i pins s σ H E I hf st hg
    subst hP hw hK
    obtain ⟨xs, hq, hx⟩ := hg
    obtain ⟨its, rv, p, hz⟩ := I.list hq
    obtain ⟨f0, f1, f2, f3, f4, f5⟩ := hf it (by simp)
    have hl := rv.length
    exact wpAny_pyNext_list_end (I.ok.hd hc) st p.isList (by simp; omega) fun h' eb => ⟨rfl, I.turned (t' := s.toks) (fun b o hb e => eb b o hb e) f0 f1 f3 f4 f5⟩
  self := fun _ _ _ _ _ st h => wpAny_pyIter_listiter st h
theorem turn_tuple {P : Program} {w : World} {K : PySem.W.Frag} {tg : Expr} (a it : Addr) : Turn P w K tg (Itt K a) [it] it (fun i h => h.IsTupleIter it a i) where
  mem := by simp
  obj := fun i h st b hb => by
    have e : b = it := by simpa using hb
    subst e
    obtain ⟨o, e, c, d⟩ := st
    exact ⟨o, e, fun v z => by rw [d] at z; cases z⟩
  keep := fun i h h' st k => st.at fun o e => k it (by simp) o e
  item := by
    intro X hP hw hK hc i pins s σ H E I hf st hg
    subst hP hw hK
    obtain ⟨xs, x, hq, hx⟩ := hg
    obtain ⟨its, rv, p, hz⟩ := I.tuple hq
    obtain ⟨u, hu, ru⟩ := rv.get hx
    obtain ⟨f0, f1, f2, f3, f4, f5⟩ := hf it (by simp)
    refine wpAny_pyNext_tuple_item st (show s.heap.IsTuple a its.toArray from p) (x := u) (by simpa using hu) fun h' st' sb => ?_
    have I1 : Inv X pins σ H { s with heap := h' } := I.turned (t' := s.toks) (fun b o hb e => (sb.2 b hb).trans e) f0 f1 f3 f4 f5
    obtain ⟨o, e, c, d⟩ := id st'
    exact ⟨u, rfl, go_of (s := { s with heap := h' }) e c d (by decide) ⟨x, H, I1, ru, ⟨rfl, fun ys hy => by rw [I.tuple_inj hy hq]; exact hx⟩, st', fun b hb => (hf b hb).1⟩⟩
  done := by
    intro X hP hw hK hc i pins s σ H E I hf st hg
    subst hP hw hK
    obtain ⟨xs, hq, hx⟩ := hg
    obtain ⟨its, rv, p, hz⟩ := I.tuple hq
    obtain ⟨f0, f1, f2, f3, f4, f5⟩ := hf it (by simp)
    have hl := rv.length
    exact wpAny_pyNext_tuple_end (I.ok.hd hc) st (show s.heap.IsTuple a its.toArray from p) (by simp; omega) fun h' eb => ⟨rfl, I.turned (t' := s.toks) (fun b o hb e => eb b o hb e) f0 f1 f3 f4 f5⟩
  self := fun _ _ _ _ _ st h => wpAny_pyIter_tupleiter st h
theorem turn_range {P : Program} {w : World} {K : PySem.W.Frag} {tg : Expr} (it : Addr) (lo : Int) (n : Nat) : Turn P w K tg (Itr lo n) [it] it (fun i h => IsRangeIter h it (lo + (i : Nat) * 1) ((n : Int) - (i : Nat)) 1) where
  mem := by simp
  obj := fun i h st b hb => by
    have e : b = it := by simpa using hb
    subst e
    exact ⟨_, st, fun v z => by
      have z' : Data.fields _ = Data.cell v := z
      cases z'⟩
  keep := fun i h h' st k => k it (by simp) _ st
  item := by
    intro X hP hw hK hc i pins s σ H E I hf st hg
    subst hP hw hK
    obtain ⟨f0, f1, f2, f3, f4, f5⟩ := hf it (by simp)
    have W := Walks.range (prog := X.prog) (w := X.w) (I.ok.hd hc) it lo 1 n
    refine W.item i s _ _ hg st fun v h' tk hv st' kk => ?_
    obtain ⟨t, rfl⟩ := hv
    have I1 : Inv X pins σ H { s with heap := h', toks := tk } := I.turned (fun b o hb e => kk b o (by simpa using hb) e) f0 f1 f3 f4 f5
    refine ⟨_, rfl, go_of (s := { s with heap := h', toks := tk }) (n := "range_iterator") st' rfl rfl (by decide) ⟨.int (lo + i), H, I1, ⟨t, ?_⟩, ⟨rfl, rfl⟩, st', fun b hb => (hf b hb).1⟩⟩
    rw [Int.mul_one]
  done := by
    intro X hP hw hK hc i pins s σ H E I hf st hg
    subst hP hw hK
    obtain ⟨f0, f1, f2, f3, f4, f5⟩ := hf it (by simp)
    exact wpAny_pyNext_range_end (I.ok.hd hc) st (by have : n ≤ i := hg; omega) fun h' eb => ⟨rfl, I.turned (t' := s.toks) (fun b o hb e => eb b o hb e) f0 f1 f3 f4 f5⟩
  self := fun _ _ _ _ _ st h => wpAny_pyIter_rangeiter st h
end L2
namespace L2
open PySem PySem.Spec PyProof.Rows
section
variable {X : Cx} {tg : Expr}
theorem range_it {pins : List (Addr × Obj)} {σ : St} {H : Hp} {s : Shared} {R : It → Hp → Prop} {E : Value → Shared → Prop} {lo hi : Int} {t u v : Tok} {tk : Nat} (I : Inv X pins σ H s) (h1 : -(2 ^ 62) ≤ lo) (h2 : lo < 2 ^ 62) (h3 : -(2 ^ 62) ≤ hi) (h4 : hi < 2 ^ 62)
    (q : R (Itr lo (hi - lo).toNat) H) : wpAny (model X.prog X.w) X.A (pyIter (.ref s.heap.objs.size)) (PIE X pins σ tg R) E { s with heap := s.heap.push { cls := .type "range", data := .fields #[.int lo t, .int hi u, .int 1 v] }, toks := tk } := by
  refine wpAny_pyIter_range (IsRange.new ..) (small_one h1 h2 h3 h4) ?_
  have I1 : Inv X pins σ H { s with heap := s.heap.push { cls := .type "range", data := .fields #[.int lo t, .int hi u, .int 1 v] }, toks := tk } := I.kept fun b o e => Heap.get?_push_of_some _ e
  refine ⟨(s.heap.push { cls := .type "range", data := .fields #[.int lo t, .int hi u, .int 1 v] }).objs.size, [(s.heap.push { cls := .type "range", data := .fields #[.int lo t, .int hi u, .int 1 v] }).objs.size], _, _, H, rfl,
    I1.kept (t' := tk) fun b o e => Heap.get?_push_of_some _ e, turn_range _ lo (hi - lo).toNat, ?_, fun b hb => ?_, q⟩
  · have e1 : lo + ((0 : Nat) : Int) * 1 = lo := by simp
    have e2 : (((hi - lo).toNat : Nat) : Int) - ((0 : Nat) : Int) = Builtin.Range.rangeSize lo hi 1 := by rw [rangeSize_one]; split <;> omega
    show IsRangeIter _ _ (lo + ((0 : Nat) : Int) * 1) ((((hi - lo).toNat : Nat) : Int) - ((0 : Nat) : Int)) 1
    rw [e1, e2]
    exact Heap.get?_push_size _ rfl
  · have e : b = (s.heap.push { cls := .type "range", data := .fields #[.int lo t, .int hi u, .int 1 v] }).objs.size := by simpa using hb
    subst e
    exact I1.fpOk (Nat.le_refl _) (I1.hok.fresh (Nat.le_refl _))
noncomputable def iRng1 (ta : TA) : TI := fun σ H R => ta σ H fun vs H1 => ∃ j : Int, vs = [.int j] ∧ -(2 ^ 62) ≤ j ∧ j < 2 ^ 62 ∧ R (Itr 0 j.toNat) H1
theorem pi_range1 {a : Expr} {ta : TA} {p pos : Pos} (hg : Gl X "range") (hm : X.mg "range" = none) (ha : PA X [a] ta) (hs : starEach [a] X.env = [(false, eval a X.env)] := by rfl) : PI X tg (.Call (.Name "range" p) [a] [] pos) (iRng1 ta) := by
  intro pins s σ H R I h
  refine Call_ (ld_blt I hg hm boot_range (PyProof.Rows.callWith_type1 (thn (ha pos pins s σ H _ I h) fun us s1 hq__ => ?_) hs rfl))
  obtain ⟨vs, H1, I1, r1, q1⟩ := hq__
  obtain ⟨j, e, q1, q2, q⟩ := q1
  subst e
  cases r1 with
  | cons r rr =>
    cases rr
    obtain ⟨t, rfl⟩ := r
    exact call_range_1 (range_it I1 (by omega) (by omega) q1 q2 (by simpa using q))
noncomputable def tFor (wi : TI) (g : TG) (tb : TS) : TS := fun D σ H => wi σ H fun J H1 => ∃ W : Nat → Nat → St → Hp → Prop, (∃ m, W 0 m σ H1) ∧ ∀ i m σ H, W i m σ H →
  (J.stop i H ∧ D.nx σ H) ∨ (J.go i H ∧ ∃ N : St → Hp → Prop, (∀ σ' H', N σ' H' → ∃ m', m' < m ∧ W (i + 1) m' σ' H') ∧ ∀ x H', J.yld i H x H' → g x σ H' fun σ2 H2 => tb { D with nx := N, ct := N, bk := D.nx } σ2 H2)
noncomputable def pinsAt (fp : List Addr) (h : Heap) : List (Addr × Obj) := fp.filterMap fun b => (h.get? b).map fun o => (b, o)
theorem mem_pinsAt {fp : List Addr} {h : Heap} {b : Addr} {o : Obj} (hb : b ∈ fp) (e : h.get? b = some o) : (b, o) ∈ pinsAt fp h := List.mem_filterMap.mpr ⟨b, hb, by rw [e]; rfl⟩
theorem of_pinsAt {fp : List Addr} {h : Heap} {p : Addr × Obj} (hp : p ∈ pinsAt fp h) : p.1 ∈ fp ∧ h.get? p.1 = some p.2 := by
  obtain ⟨b, hb, e⟩ := List.mem_filterMap.mp hp
  cases q : h.get? b with
  | none => rw [q] at e; cases e
  | some o =>
    rw [q] at e
    have e' : (b, o) = p := Option.some.inj e
    subst e'
    exact ⟨hb, q⟩
theorem Inv.pinned {pins : List (Addr × Obj)} {σ : St} {H : Hp} {s : Shared} {fp : List Addr} (I : Inv X pins σ H s) (hf : ∀ b ∈ fp, FpOk X pins H b) (ho : ∀ b ∈ fp, ∃ o, s.heap.get? b = some o ∧ ∀ v, o.data ≠ .cell v) : Inv X (pins ++ pinsAt fp s.heap) σ H s :=
  I.pins_of fun p hp => (List.mem_append.mp hp).elim (fun z => I.pin p (List.mem_append_right _ z)) fun z => by
    obtain ⟨hb, e⟩ := of_pinsAt z
    obtain ⟨f0, f1, f2, _⟩ := hf p.1 hb
    obtain ⟨o, e', d⟩ := ho p.1 hb
    rw [e] at e'; cases e'
    exact ⟨e, f0, f1, f2, d⟩
theorem Inv.unpinned {pins pl : List (Addr × Obj)} {σ : St} {H : Hp} {s : Shared} (I : Inv X (pins ++ pl) σ H s) : Inv X pins σ H s := I.pins_of fun p hp => I.pin p (List.mem_append_right _ (List.mem_append_left _ hp))
theorem ps_for {iter : Expr} {body : List Stmt} {wi : TI} {g : TG} {tb : TS} {pos : Pos} (hp : PassesOwn (model X.prog X.w) X.A X.env X.xe) (hc : X.calm = true) (hi : PI X tg iter wi) (hg : PG X tg g) (hb : PSs X body tb)
    (hs : ∀ x, foldedSetIterable iter X.env x = pure x := by intro _; rfl) : PS X (.For tg iter body [] pos) (tFor wi g tb) := by
  intro pins s σ H D I h
  refine wpAny_For (thn (hi pins s σ H _ I h) fun v s1 h1 => thn h1 fun itv s2 h2 => ?_) hs
  obtain ⟨it, fp, tn, J, H2, e, I2, T, st2, f2, W, ⟨m0, w0⟩, turn⟩ := h2
  subst e
  have stat : ∀ {H' : Hp}, (∀ b ∈ fp, H' b = none) → ∀ b ∈ fp, FpOk X pins H' b := fun hn b hb => ⟨hn b hb, (f2 b hb).2⟩
  refine codeAny_forLoop_any (fun n s' => ∃ i σ' H', Inv X pins σ' H' s' ∧ tn i s'.heap ∧ (∀ b ∈ fp, H' b = none) ∧ W i n σ' H') ?_ m0 ⟨0, σ, H2, I2, st2, fun b hb => (f2 b hb).1, w0⟩
  rintro n s3 ⟨i, σ3, H3, I3, st3, fr3, w3⟩
  rcases turn i n σ3 H3 w3 with ⟨stop, qn⟩ | ⟨go, N, hN, step⟩
  · refine wpAny_passesOwn hp (thn (T.done X rfl rfl rfl hc i pins s3 σ3 H3 X.xe I3 (stat fr3) st3 stop) fun r s4 hq__ => ?_)
    obtain ⟨hr, I4⟩ := hq__
    subst hr
    exact wpAny_execs_nil ⟨σ3, H3, I4, qn⟩
  · refine wpAny_passesOwn hp (thn (T.item X rfl rfl rfl hc i pins s3 σ3 H3 X.xe I3 (stat fr3) st3 go) fun r s4 hq__ => ?_)
    obtain ⟨u, hr, h4⟩ := hq__
    subst hr
    refine wpAny_passesOwn hp (thn h4 fun _ s5 hq__ => ?_)
    obtain ⟨x, H5, I5, r5, y5, st5, fr5⟩ := hq__
    have I5' := I5.pinned (stat fr5) (T.obj _ _ st5)
    refine wpAny_passesOwn hp (thn (hg _ s5 σ3 H5 x u _ I5' r5 (step x H5 y5)) fun _ s6 hq__ => ?_)
    obtain ⟨σ6, H6, I6, q6⟩ := hq__
    refine wpAny_passesOwn hp (thn (hb _ s6 σ6 H6 _ I6 q6) fun f s7 q7 => ?_)
    have again : ∀ {σ7 : St} {H7 : Hp}, Inv X (pins ++ pinsAt fp s5.heap) σ7 H7 s7 → N σ7 H7 → ∃ m, m < n ∧ ∃ i σ' H', Inv X pins σ' H' s7 ∧ tn i s7.heap ∧ (∀ b ∈ fp, H' b = none) ∧ W i m σ' H' := fun {σ7 H7} I7 n7 => by
      obtain ⟨m', hm, w7⟩ := hN σ7 H7 n7
      refine ⟨m', hm, i + 1, σ7, H7, I7.unpinned, T.keep _ _ _ st5 fun b hb o e => (I7.pin (b, o) (List.mem_append_right _ (List.mem_append_right _ (mem_pinsAt hb e)))).1, fun b hb => ?_, w7⟩
      obtain ⟨o, e, d⟩ := T.obj _ _ st5 b hb
      exact (I7.pin (b, o) (List.mem_append_right _ (List.mem_append_right _ (mem_pinsAt hb e)))).2.1
    cases f with
    | next => obtain ⟨σ7, H7, I7, n7⟩ := q7; exact again I7 n7
    | cont => obtain ⟨σ7, H7, I7, n7⟩ := q7; exact again I7 n7
    | brk => obtain ⟨σ7, H7, I7, q7⟩ := q7; exact ⟨σ7, H7, I7.unpinned, q7⟩
    | ret v => obtain ⟨x7, σ7, H7, I7, r7, q7⟩ := q7; exact ⟨x7, σ7, H7, I7.unpinned, r7, q7⟩
end
end L2
namespace L2
open PySem PySem.Spec PyProof.Rows
noncomputable abbrev R2 := V → V → Hp → VK → Prop
noncomputable def OpR (X : Cx) (f : Value → Value → Sem Value) (r : R2) : Prop :=
  ∀ (pins : List (Addr × Obj)) (s : Shared) (σ : St) (H : Hp) (x y : V) (v u : Value) (Q : VK), Inv X pins σ H s → RelV x v → RelV y u → r x y H Q →
    wpAny (model X.prog X.w) X.A (f v u) (EP X pins σ Q) X.xe s
noncomputable def UnR (X : Cx) (f : Value → Sem Value) (r : V → Hp → VK → Prop) : Prop :=
  ∀ (pins : List (Addr × Obj)) (s : Shared) (σ : St) (H : Hp) (x : V) (v : Value) (Q : VK), Inv X pins σ H s → RelV x v → r x H Q →
    wpAny (model X.prog X.w) X.A (f v) (EP X pins σ Q) X.xe s
noncomputable def CallR (X : Cx) (f : Value) (r : List V → Hp → VK → Prop) : Prop :=
  ∀ (pins : List (Addr × Obj)) (s : Shared) (σ : St) (H : Hp) (xs : List V) (us : List Value) (Q : VK), Inv X pins σ H s → Vals xs us → r xs H Q →
    wpAny (model X.prog X.w) X.A (call f us) (EP X pins σ Q) X.xe s
noncomputable def TruR (X : Cx) (r : V → Hp → (Bool → Hp → Prop) → Prop) : Prop :=
  ∀ (pins : List (Addr × Obj)) (s : Shared) (σ : St) (H : Hp) (x : V) (v : Value) (Q : Bool → Hp → Prop), Inv X pins σ H s → RelV x v → r x H Q →
    wpAny (model X.prog X.w) X.A (truthy v) (TP X pins σ Q) X.xe s
noncomputable def tOp (r : R2) (ta tb : TE) : TE := fun σ H Q => ta σ H fun x H1 => tb σ H1 fun y H2 => r x y H2 Q
noncomputable def tUn (r : V → Hp → VK → Prop) (ta : TE) : TE := fun σ H Q => ta σ H fun x H1 => r x H1 Q
noncomputable def rI (C : Int → Int → Prop) (g : Int → Int → V) : R2 := fun x y H Q => ∃ i j, x = .int i ∧ y = .int j ∧ C i j ∧ Q (g i j) H
noncomputable def rI0 (g : Int → Int → V) : R2 := fun x y H Q => ∃ i j, x = .int i ∧ y = .int j ∧ Q (g i j) H
noncomputable def rU (g : Int → V) : V → Hp → VK → Prop := fun x H Q => ∃ i, x = .int i ∧ Q (g i) H
section
variable {X : Cx} {a b c : Expr} {ta tb tc : TE} {pos : Pos}
theorem binT (ha : PE X a ta) (hb : PE X b tb) {pins : List (Addr × Obj)} {s : Shared} {σ : St} {H : Hp} {R : V → V → Hp → Prop} (I : Inv X pins σ H s)
    (h : ta σ H fun x H1 => tb σ H1 fun y H2 => R x y H2) {Q : Value → Shared → Prop} {f : Value → Value → Sem Value}
    (hf : ∀ v u s2 x y H2, Inv X pins σ H2 s2 → RelV x v → RelV y u → R x y H2 → wpAny (model X.prog X.w) X.A (f v u) Q X.xe s2) :
    wpAny (model X.prog X.w) X.A (eval a X.env) (fun v s₁ => wpAny (model X.prog X.w) X.A (eval b X.env) (fun u s₂ => wpAny (model X.prog X.w) X.A (f v u) Q X.xe s₂) X.xe s₁) X.xe s := by
  refine thn (ha pins s σ H _ I h) fun v s1 hq__ => ?_
  obtain ⟨x, H1, I1, r1, q1⟩ := hq__
  refine thn (hb pins s1 σ H1 _ I1 q1) fun u s2 hq__ => ?_
  obtain ⟨y, H2, I2, r2, q2⟩ := hq__
  exact hf v u s2 x y H2 I2 r1 r2 q2
theorem pe_op {op : Operator} {r : R2} (ho : OpR X (binaryOp op) r) (ha : PE X a ta) (hb : PE X b tb) : PE X (.BinOp a op b pos) (tOp r ta tb) := by
  intro pins s σ H Q I h
  exact wpAny_BinOp (binT ha hb I h fun v u s2 x y H2 I2 rx ry q => ho pins s2 σ H2 x y v u Q I2 rx ry q)
theorem pe_un {op : UnaryOp} {r : V → Hp → VK → Prop} (ho : UnR X (unaryOp op) r) (ha : PE X a ta) : PE X (.UnaryOp op a pos) (tUn r ta) := by
  intro pins s σ H Q I h
  exact UnaryOp_ (thn (ha pins s σ H _ I h) fun v s1 ⟨x, H1, I1, r1, q1⟩ => ho pins s1 σ H1 x v Q I1 r1 q1)
theorem opI {f : Value → Value → Sem Value} {C : Int → Int → Prop} {g : Int → Int → Int}
    (rule : ∀ (i j : Int) (t u : Tok) (s : Shared) (Q : Value → Shared → Prop) (E : Value → Shared → Prop), C i j → Q (.int (g i j) s.toks) { s with toks := s.toks + 1 } → wpAny (model X.prog X.w) X.A (f (.int i t) (.int j u)) Q E s) :
    OpR X f (rI C fun i j => .int (g i j)) := by
  intro pins s σ H x y v u Q I rx ry h
  obtain ⟨i, j, rfl, rfl, hc, q⟩ := h
  obtain ⟨t, rfl⟩ := rx
  obtain ⟨t', rfl⟩ := ry
  exact rule i j t t' s _ _ hc ⟨.int (g i j), H, I.tok _, ⟨_, rfl⟩, q⟩
theorem opI0 {f : Value → Value → Sem Value} {g : Int → Int → Int}
    (rule : ∀ (i j : Int) (t u : Tok) (s : Shared) (Q : Value → Shared → Prop) (E : Value → Shared → Prop), Q (.int (g i j) s.toks) { s with toks := s.toks + 1 } → wpAny (model X.prog X.w) X.A (f (.int i t) (.int j u)) Q E s) :
    OpR X f (rI0 fun i j => .int (g i j)) := by
  intro pins s σ H x y v u Q I rx ry h
  obtain ⟨i, j, rfl, rfl, q⟩ := h
  obtain ⟨t, rfl⟩ := rx
  obtain ⟨t', rfl⟩ := ry
  exact rule i j t t' s _ _ ⟨.int (g i j), H, I.tok _, ⟨_, rfl⟩, q⟩
theorem opB0 {f : Value → Value → Sem Value} {g : Int → Int → Bool}
    (rule : ∀ (i j : Int) (t u : Tok) (s : Shared) (Q : Value → Shared → Prop) (E : Value → Shared → Prop), Q (.bool (g i j)) s → wpAny (model X.prog X.w) X.A (f (.int i t) (.int j u)) Q E s) :
    OpR X f (rI0 fun i j => .bl (g i j)) := by
  intro pins s σ H x y v u Q I rx ry h
  obtain ⟨i, j, rfl, rfl, q⟩ := h
  obtain ⟨t, rfl⟩ := rx
  obtain ⟨t', rfl⟩ := ry
  exact rule i j t t' s _ _ ⟨.bl (g i j), H, I, rfl, q⟩
noncomputable def CDiv (i j : Int) : Prop := 0 < j ∧ j < 1073741824
noncomputable def CPow (i j : Int) : Prop := 0 ≤ j ∧ j ≤ 1000000 ∧ i.natAbs < 2 ^ 64
noncomputable def CMul (i j : Int) : Prop := (-(2 ^ 64) < i ∧ i < 2 ^ 64) ∨ (-(2 ^ 64) < j ∧ j < 2 ^ 64)
theorem CMul.ok {i j : Int} (h : CMul i j) : IntMulOk i j := by
  rcases h with ⟨h1, h2⟩ | ⟨h1, h2⟩
  · exact .of_left (intBits_le_64 h1 h2)
  · exact .of_right (intBits_le_64 h1 h2)
theorem two_pow_nn (k : Nat) : (0 : Int) ≤ 2 ^ k := by
  rw [two_pow_cast]
  exact Int.natCast_nonneg _
theorem op_add : OpR X (binaryOp .Add) (rI0 fun i j => .int (i + j)) := opI0 fun _ _ _ _ _ _ _ q => add_int q
theorem op_sub : OpR X (binaryOp .Sub) (rI0 fun i j => .int (i - j)) := opI0 fun _ _ _ _ _ _ _ q => sub_int q
theorem op_mul : OpR X (binaryOp .Mult) (rI CMul fun i j => .int (i * j)) := opI fun _ _ _ _ _ _ _ hc q => mul_int q hc.ok
theorem op_fdiv : OpR X (binaryOp .FloorDiv) (rI CDiv fun i j => .int (i / j)) := opI fun i j _ _ _ _ _ hc q => by
  have h1 : (0 : Int) < j := hc.1
  have h2 : j < 1073741824 := hc.2
  exact floordiv_int (by omega) (by rw [Int.fdiv_eq_ediv_of_nonneg i (by omega)]; exact q) (.inl (PyProof.noPylong_small (by omega)))
theorem op_mod : OpR X (binaryOp .Mod) (rI (fun _ j => 0 < j) fun i j => .int (i % j)) := opI fun i j _ _ _ _ _ hc q => by
  have h1 : (0 : Int) < j := hc
  exact mod_int' (by omega) (by rw [Int.fmod_eq_emod_of_nonneg i (by omega)]; exact q)
theorem op_shl : OpR X (binaryOp .LShift) (rI CPow fun i j => .int (i * 2 ^ j.toNat)) := opI fun _ _ _ _ _ _ _ hc q => lshift_int_small hc.1 hc.2.1 hc.2.2 q
theorem op_shr : OpR X (binaryOp .RShift) (rI (fun _ j => 0 ≤ j) fun i j => .int (i / 2 ^ j.toNat)) := opI fun i j _ _ _ _ _ hc q =>
  rshift_int hc (by rw [Int.fdiv_eq_ediv_of_nonneg i (two_pow_nn _)]; exact q)
theorem op_and : OpR X (binaryOp .BitAnd) (rI0 fun i j => .int (Builtin.bitAnd i j)) := opI0 fun _ _ _ _ _ _ _ q => and_int q
theorem unI {f : Value → Sem Value} {g : Int → Int}
    (rule : ∀ (i : Int) (t : Tok) (s : Shared) (Q : Value → Shared → Prop) (E : Value → Shared → Prop), Q (.int (g i) s.toks) { s with toks := s.toks + 1 } → wpAny (model X.prog X.w) X.A (f (.int i t)) Q E s) :
    UnR X f (rU fun i => .int (g i)) := by
  intro pins s σ H x v Q I rx h
  obtain ⟨i, rfl, q⟩ := h
  obtain ⟨t, rfl⟩ := rx
  exact rule i t s _ _ ⟨.int (g i), H, I.tok _, ⟨_, rfl⟩, q⟩
theorem un_neg : UnR X (unaryOp .USub) (rU fun i => .int (-i)) := unI fun _ _ _ _ _ q => neg_int q
theorem op_add_ib : OpR X (binaryOp .Add) (fun x y H Q => ∃ i k, x = .int i ∧ y = .bl k ∧ Q (.int (i + b2i k)) H) := by
  intro pins s σ H x y v u Q I rx ry h
  obtain ⟨i, k, rfl, rfl, q⟩ := h
  obtain ⟨t, rfl⟩ := rx
  cases ry
  exact add_int_bool ⟨.int (i + b2i k), H, I.tok _, ⟨_, rfl⟩, q⟩
end
section
variable {X : Cx} {a b c : Expr} {ta tb tc : TE} {pos : Pos}
theorem op_lt : OpR X (compareOp .Lt) (rI0 fun i j => .bl (decide (i < j))) := opB0 fun _ _ _ _ _ _ _ q => lt_int q
theorem op_gt : OpR X (compareOp .Gt) (rI0 fun i j => .bl (decide (j < i))) := opB0 fun _ _ _ _ _ _ _ q => gt_int q
theorem nomark (b : Expr) {op : CmpOp} (h : op ≠ .In := by decide) (h2 : op ≠ .NotIn := by decide) : behindInMarks op b = false := by
  have e1 : (op == CmpOp.In) = false := by cases op <;> first | rfl | exact absurd rfl h
  have e2 : (op == CmpOp.NotIn) = false := by cases op <;> first | rfl | exact absurd rfl h2
  cases b <;> simp [behindInMarks, e1, e2]
theorem pe_cmpR {op : CmpOp} {r : R2} (ho : OpR X (compareOp op) r) (ha : PE X a ta) (hb : PE X b tb) (hm : behindInMarks op b = false) : PE X (.Compare a [op] [b] pos) (tOp r ta tb) := by
  intro pins s σ H Q I h
  exact wpAny_Compare1 (binT ha hb I h fun v u s2 x y H2 I2 rx ry q => ho pins s2 σ H2 x y v u Q I2 rx ry q) hm
noncomputable def tTest (t : TE) : TT := fun σ H Q => t σ H fun x H' => ∃ k, x = .bl k ∧ Q k H'
theorem pt_cmpR {op : CmpOp} {r : R2} (ho : OpR X (compareOp op) r) (ha : PE X a ta) (hb : PE X b tb) (hm : behindInMarks op b = false) : PT X (.Compare a [op] [b] pos) (tTest (tOp r ta tb)) := by
  intro pins s σ H Q I h
  refine wpAny_isTrue_Compare1 (thn (ha pins s σ H _ I h) fun v s1 ⟨x, H1, I1, r1, q1⟩ => thn (hb pins s1 σ H1 _ I1 q1) fun u s2 ⟨y, H2, I2, r2, q2⟩ =>
    thn (ho pins s2 σ H2 x y v u _ I2 r1 r2 q2) fun c s3 ⟨z, H3, I3, r3, k, e, q3⟩ => ?_) hm
  subst e
  cases r3
  exact wpAny_truthy_bool ⟨H3, I3, q3⟩
noncomputable def TruV (K : PySem.W.Frag) (x : V) (H : Hp) (k : Bool) : Prop :=
  match x with
  | .non => k = false
  | .bl b => k = b
  | .int i => k = (i != 0)
  | .str y => y.length ≤ sizeLine ∧ k = ((y.length : Int) != 0)
  | .byt y => y.size ≤ sizeLine ∧ k = ((y.size : Int) != 0)
  | .ref p => (∃ xs, SqL K H p xs ∧ k = !xs.isEmpty) ∨ (∃ xs, SqT K H p xs ∧ k = !xs.isEmpty) ∨ ∃ kvs, H p = some (.dK kvs) ∧ k = !kvs.isEmpty
  | _ => False
theorem isEmpty_kv {κ : Type} {kvs : List (κ × V)} {vs : List (κ × Value)} (r : KV kvs vs) : (!vs.isEmpty) = !kvs.isEmpty := by
  cases r <;> rfl
theorem isEmpty_of {xs : List V} {its : List Value} (r : Vals xs its) : (!its.toArray.isEmpty) = !xs.isEmpty := by
  cases r <;> simp
theorem line63 : (sizeLine : Nat) < 2 ^ 63 := by rw [sizeLine_eq]; decide
theorem tru_ok : TruR X (fun x H Q => ∃ k, TruV X.K x H k ∧ Q k H) := by
  intro pins s σ H x v Q I rx h
  obtain ⟨k, e, q⟩ := h
  have hl := line63
  have hs : sizeLine = 16777216 := sizeLine_eq
  cases x with
  | non =>
    cases rx
    have e' : k = false := e
    subst e'
    exact truthy_none ⟨H, I, q⟩
  | bl b =>
    cases rx
    have e' : k = b := e
    subst e'
    exact wpAny_truthy_bool ⟨H, I, q⟩
  | int i =>
    obtain ⟨t, rfl⟩ := rx
    have e' : k = (i != 0) := e
    subst e'
    exact PySem.P.truthy_int ⟨H, I, q⟩
  | str y =>
    obtain ⟨t, rfl⟩ := rx
    obtain ⟨hy, e'⟩ : y.length ≤ sizeLine ∧ k = ((y.length : Int) != 0) := e
    subst e'
    exact PySem.P.truthy_str (by omega) ⟨H, I.tok _, q⟩
  | byt y =>
    obtain ⟨t, rfl⟩ := rx
    obtain ⟨hy, e'⟩ : y.size ≤ sizeLine ∧ k = ((y.size : Int) != 0) := e
    subst e'
    exact PySem.W.truthy_bytes (by omega) ⟨H, I.tok _, q⟩
  | ref p =>
    cases rx
    have e' : (∃ xs, SqL X.K H p xs ∧ k = !xs.isEmpty) ∨ (∃ xs, SqT X.K H p xs ∧ k = !xs.isEmpty) ∨ ∃ kvs, H p = some (.dK kvs) ∧ k = !kvs.isEmpty := e
    rcases e' with ⟨xs, hx, e'⟩ | ⟨xs, hx, e'⟩ | ⟨kvs, hx, e'⟩
    · subst e'
      obtain ⟨its, r, pl, hz⟩ := I.list hx
      have hlen := r.length
      exact wpAny_truthy_list pl.isList (by simp only [List.size_toArray]; omega) ⟨H, I.tok _, by rw [isEmpty_of r]; exact q⟩
    · subst e'
      obtain ⟨its, r, pl, hz⟩ := I.tuple hx
      have hlen := r.length
      exact truthy_tuple pl (by simp only [List.size_toArray]; omega) ⟨H, I.tok _, by rw [isEmpty_of r]; exact q⟩
    · subst e'
      obtain ⟨hz, hS, vs, r, m⟩ : kvs.length ≤ sizeLine ∧ (p == sysModules) = false ∧ ∃ vs, KV kvs vs ∧ s.heap.DictOf (mixKind X.prog X.w) p vs := I.hok p _ hx
      have hlen : kvs.length = vs.length := Paired.length r
      exact wpAny_truthy_dict hS m (by omega) ⟨H, I.tok _, by rw [isEmpty_kv r]; exact q⟩
  | _ => exact (show False from e).elim
theorem pt_truth (ha : PE X a ta) (he : ∀ whole, isTrue a X.env whole = (do let v ← whole; standAt a.pos; holding [v] (truthy v))) :
    PT X a (fun σ H Q => ta σ H fun x H' => ∃ k, TruV X.K x H' k ∧ Q k H') := by
  intro pins s σ H Q I h
  exact isTrue_plain (thn (ha pins s σ H _ I h) fun v s1 ⟨x, H1, I1, r1, q1⟩ => tru_ok pins s1 σ H1 x v Q I1 r1 q1) (he _)
theorem op_add_str : OpR X (binaryOp .Add) (fun x y H Q => ∃ i j, x = .str i ∧ y = .str j ∧ i.length + j.length ≤ sizeLine ∧ Q (.str (i ++ j)) H) := by
  intro pins s σ H x y v u Q I rx ry h
  obtain ⟨i, j, rfl, rfl, hz, q⟩ := h
  obtain ⟨t, rfl⟩ := rx
  obtain ⟨t', rfl⟩ := ry
  exact add_str (fun t' tk => ⟨.str (i ++ j), H, I.tok _, ⟨_, rfl⟩, q⟩) hz
theorem vals1 {x : V} {us : List Value} (r : Vals [x] us) : ∃ u, us = [u] ∧ RelV x u := by
  cases r with
  | cons r1 r2 => cases r2; exact ⟨_, rfl, r1⟩
end
end L2
namespace L2
open PySem PySem.Spec PyProof.Rows
section
variable {prog : Program} {w : World} {A : Around} {E : Value → Shared → Prop} {s : Shared} {K : PySem.W.Frag} {x dx C f : Addr} {mA : Str → Option Value} {name : Str} {v : Value}
end
theorem RelO.some_of {v : V} {o : Option Value} (r : RelO (some v) o) : ∃ u, o = some u ∧ RelV v u := by
  cases o with
  | none => exact (show False from r).elim
  | some u => exact ⟨u, rfl, r⟩
section
variable {P : Program} {w : World} {H H' : Hp} {h h' : Heap} {a C dx : Addr} {fs fs' : List (Str × V)}
end
section
variable {X : Cx} {pins : List (Addr × Obj)} {σ : St} {H : Hp} {s : Shared} {a C dx : Addr} {fs : List (Str × V)} {f : Str} {v : V} {A : Around} {E : Value → Shared → Prop}
end
section
variable {X : Cx} {o e value : Expr} {f : Str} {pos pos' tpos : Pos} {ta tv : TE}
end
section
variable {X : Cx} {pins : List (Addr × Obj)} {σ : St} {H : Hp} {s : Shared} {A : Around} {E : Value → Shared → Prop} {Q : Value → Shared → Prop} {c : Value} {b : Bool}
end
end L2
namespace L2
open PySem PySem.Spec PyProof.Rows
structure Room (k : Nat) (A : Around) : Prop where
  hd : A.handled = none
  dp : A.depth + 3 * k + 5 < recursionLimit
  un : A.units + 16 * k + 200 < cLine
theorem Room.mono {j k : Nat} {A : Around} (r : Room k A) (h : j ≤ k) : Room j A := ⟨r.hd, by have := r.dp; omega, by have := r.un; omega⟩
theorem Room.deeper {k : Nat} {A : Around} (r : Room (k + 1) A) (env : Env) : Room k (A.deeper env) :=
  ⟨r.hd, by have := r.dp; show A.depth + 1 + 3 * k + 5 < _; omega, by have := r.un; show A.units + 3 + 16 * k + 200 < _; omega⟩
theorem Room.depth {k : Nat} {A : Around} (r : Room k A) : A.depth < recursionLimit := by have := r.dp; omega
theorem Room.units {k : Nat} {A : Around} (r : Room k A) : A.units + 64 < cLine := by have := r.un; omega
noncomputable def tNil : TA := fun _ H Q => Q [] H
noncomputable def tCons (ta : TE) (tr : TA) : TA := fun σ H Q => ta σ H fun x H1 => tr σ H1 fun xs H2 => Q (x :: xs) H2
section
variable {X : Cx} {e : Expr} {es : List Expr} {te : TE} {t : TA} {pos : Pos}
theorem pa_nil : PA X [] tNil := fun _ _ _ _ H Q I h => Calls.spliced_nil ⟨[], H, I, .nil, h⟩
theorem pa_cons (ha : PE X e te) (hr : PA X es t) (hs : starEach (e :: es) X.env = (false, eval e X.env) :: starEach es X.env := by rfl) : PA X (e :: es) (tCons te t) := by
  intro pos pins s σ H Q I h
  rw [hs]
  show wpAny _ _ (spliced ((false, eval e X.env) :: backTo pos (starEach es X.env))) _ _ s
  refine Calls.spliced_cons (thn (ha pins s σ H _ I h) fun u s1 hq__ => ?_)
  obtain ⟨x, H1, I1, r1, q1⟩ := hq__
  exact thn (hr pos pins s1 σ H1 _ I1 q1) fun us s2 ⟨xs, H2, I2, r2, q2⟩ => ⟨x :: xs, H2, I2, .cons r1 r2, q2⟩
noncomputable def tTup (t : TA) : TE := fun σ H Q => t σ H fun xs H1 => xs.length ≤ sizeLine ∧ ∀ p, H1 p = none → Q (.ref p) (upd H1 p (.tup xs))
noncomputable def tLst (t : TA) : TE := fun σ H Q => t σ H fun xs H1 => xs.length ≤ sizeLine ∧ ∀ p, H1 p = none → Q (.ref p) (upd H1 p (.lst xs))
theorem pe_tup {x1} (h : PA X es t) : PE X (.Tuple es x1 pos) (tTup t) := by
  intro pins s σ H Q I hq
  refine wpAny_Tuple_spliced (thn (h pos pins s σ H _ I hq) fun us s1 ⟨xs, H1, I1, r, z, q⟩ => ⟨by rw [← r.length]; exact z, ?_⟩)
  have hf : H1 s1.heap.objs.size = none := I1.hok.fresh (Nat.le_refl _)
  refine ⟨.ref s1.heap.objs.size, upd H1 s1.heap.objs.size (.tup xs), I1.laid (t' := s1.toks) (fun b u e => Heap.get?_push_of_some _ e) (Nat.le_refl _) ?_, rfl, q _ hf⟩
  exact ⟨z, us, r, ⟨_, Heap.get?_push_size _ rfl, rfl, _, rfl⟩⟩
theorem pe_lst (h : PA X es t) : PE X (.List es pos) (tLst t) := by
  intro pins s σ H Q I hq
  refine wpAny_List_spliced (thn (h pos pins s σ H _ I hq) fun us s1 ⟨xs, H1, I1, r, z, q⟩ => ⟨by rw [← r.length]; exact z, ?_⟩)
  have hf : H1 s1.heap.objs.size = none := I1.hok.fresh (Nat.le_refl _)
  refine ⟨.ref s1.heap.objs.size, upd H1 s1.heap.objs.size (.lst xs), I1.laid (t' := s1.toks) (fun b u e => Heap.get?_push_of_some _ e) (Nat.le_refl _) ?_, rfl, q _ hf⟩
  exact ⟨z, us, 0, r, Heap.get?_push_size _ rfl⟩
end
noncomputable abbrev Sp := List V → Hp → VK → XK → Prop
noncomputable abbrev CXT := List Env → Hp → Shared → XK → Value → Shared → Prop
structure Env0 (P : Program) (w : World) (K : PySem.W.Frag) (mg : Str → Option Value) (base : Heap) (A : Around) (outer : List Env) (s : Shared) (H : Hp) : Prop where
  frames : A.frames = some outer
  mod : Mod K mg base
  bs : ∀ b o, base.get? b = some o → s.heap.get? b = some o ∧ H b = none
  bsz : base.objs.size ≤ s.heap.objs.size
  funs : s.heap.FunFrames base outer
  frf : ∀ b ∈ frs outer, H b = none
  hok : HOk P w H s.heap
  bare : AllBare s.gens
noncomputable def CE (outer : List Env) (P : Program) (w : World) (H : Hp) (s : Shared) (Q : VK) (u : Value) (s' : Shared) : Prop :=
  ∃ v H', s'.os = s.os ∧ AllBare s'.gens ∧ Un (frs outer) [] H H' s.heap s'.heap ∧ HOk P w H' s'.heap ∧ RelV v u ∧ Q v H'
noncomputable def CR (CX : CXT) (outer : List Env) (P : Program) (w : World) (H : Hp) (s : Shared) (Q : VK) (E : XK) (r : Result) (s' : Shared) : Prop :=
  match r with
  | .ok (.ret u) => CE outer P w H s Q u s'
  | .ok _ => False
  | .error e => CX outer H s E e s'
structure FnOk (P : Program) (w : World) (K : PySem.W.Frag) (mg : Str → Option Value) (base : Heap) (CX : CXT) (k : Nat) (f : Addr) (fd : FuncData) (ps : List Str) (sp : Sp) : Prop where
  len : ∀ vs H Q E, sp vs H Q E → vs.length = ps.length
  run : ∀ (A : Around) (outer : List Env) (s : Shared) (H : Hp) (args : Args) (us : List Value) (vs : List V) (Q : VK) (E : XK), Room k A → Env0 P w K mg base A outer s H → BindsTo s fd args (ps.zip us) → Vals vs us → sp vs H Q E →
    codeAny (model P w) A (.call (.ref f) args) (CR CX outer P w H s Q E) s
section
variable {X : Cx} {pins : List (Addr × Obj)} {σ : St} {H : Hp} {s s' : Shared}
theorem Inv.env0 (I : Inv X pins σ H s) : Env0 X.prog X.w X.K X.mg X.base X.A X.stack s H :=
  ⟨I.ok.frames, I.ok.mod, I.bs, Nat.le_trans I.ok.bsz I.sz, I.stack, I.stkFree, I.hok, I.bare⟩
theorem Inv.after {Q : VK} {u : Value} (I : Inv X pins σ H s) (h : CE X.stack X.prog X.w H s Q u s') : EP X pins σ Q u s' := by
  obtain ⟨v, H', os, bare, un, hok, r, q⟩ := h
  obtain ⟨hh, g, d, t, os'⟩ := s'
  obtain rfl : os' = s.os := os
  exact ⟨v, H', I.call (h' := hh) (g' := g) (d' := d) (t' := t) (ch := []) un hok bare (fun b z => absurd z (by simp)), r, q⟩
end
noncomputable def tCall (sp : Sp) (dvs : List V) (E : XK) (t : TA) : TE := fun σ H Q => t σ H fun vs H1 => sp (vs ++ dvs) H1 Q E
noncomputable def Binds (K : PySem.W.Frag) (fd : FuncData) (ps : List Str) (ds : List Value) : Prop :=
  ∀ (s : Shared) (us : List Value), K.In s.heap → (us ++ ds).length = ps.length → BindsTo s fd ⟨us, []⟩ (ps.zip (us ++ ds))
theorem Binds.all {K : PySem.W.Frag} {fd : FuncData} {ps : List Str} (h : ∀ us : List Value, us.length = ps.length → bindArgs fd ⟨us, []⟩ = pure (ps.zip us)) : Binds K fd ps [] := fun s us _ hl => by
  rw [List.append_nil] at hl ⊢
  exact .of_eq (h us hl)
noncomputable def Passes (CX : CXT) (X : Cx) (E : XK) : Prop := ∀ (pins : List (Addr × Obj)) (σ : St) (H : Hp) (s : Shared) (e : Value) (s' : Shared), Inv X pins σ H s → CX X.stack H s E e s' → X.xe e s'
section
variable {X : Cx} {CX : CXT} {k : Nat} {f C : Addr} {fd : FuncData} {ps : List Str} {sp : Sp} {dvs : List V} {ds : List Value} {E : XK} {x m : Str} {p pos apos : Pos} {e o : Expr} {es : List Expr} {ta : TE} {t : TA}
theorem run_fn {pins : List (Addr × Obj)} {σ : St} {H : Hp} {s : Shared} {Q : VK} {us : List Value} {vs : List V} (F : FnOk X.prog X.w X.K X.mg X.base CX k f fd ps sp) (hr : Room k X.A) (hb : Binds X.K fd ps ds) (hd : Vals dvs ds) (hx : Passes CX X E)
    (I : Inv X pins σ H s) (r : Vals vs us) (h : sp (vs ++ dvs) H Q E) : wpAny (model X.prog X.w) X.A (call (.ref f) us) (EP X pins σ Q) X.xe s := by
  have r2 : Vals (vs ++ dvs) (us ++ ds) := r.append hd
  have hl : (us ++ ds).length = ps.length := by rw [← r2.length]; exact F.len _ _ _ _ h
  refine wpAny_call (codeAny_mono (F.run X.A X.stack s H ⟨us, []⟩ (us ++ ds) (vs ++ dvs) Q E hr I.env0 (hb s us I.kIn hl) r2 h) fun r s' hq => ?_)
  cases r with
  | error e => exact hx pins σ H s e s' I hq
  | ok fl =>
    cases fl with
    | ret u => exact I.after hq
    | next => exact False.elim hq
    | brk => exact False.elim hq
    | cont => exact False.elim hq
theorem pe_call (F : FnOk X.prog X.w X.K X.mg X.base CX k f fd ps sp) (hr : Room k X.A) (hg : Gl X x) (hm : X.mg x = some (.ref f)) (hk : PySem.W.keepIn X.K (.ref f) = true) (hb : Binds X.K fd ps ds) (hd : Vals dvs ds) (hx : Passes CX X E)
    (ha : PA X (e :: es) t) (hdb : (x == ("__debug__" : Str)) = false := by decide) (he : starEach (e :: es) X.env = (false, eval e X.env) :: starEach es X.env := by rfl) (hpl : (backTo pos (starEach es X.env)).any (·.1) = false := by rfl) :
    PE X (.Call (.Name x p) (e :: es) [] pos) (tCall sp dvs E t) := by
  intro pins s σ H Q I h
  refine wpAny_Call_Name_kw (ld_glob I hg hm ?_ hdb)
  refine PySem.W.callWith_K (h₀ := X.base) I.ok.mod.kin hk (thn (ha pos pins s σ H _ I h) fun us s1 ⟨vs, H1, I1, r, q⟩ => ⟨I1.kIn, ?_⟩) he hpl
  exact run_fn F hr hb hd hx I1 r q
end
section
variable {X : Cx} {CX : CXT} {k : Nat} {f C : Addr} {fd : FuncData} {ps ks : List Str} {sp : Sp} {E : XK} {x m : Str} {p pos apos kpos : Pos} {e o : Expr} {es : List Expr} {kws : List Keyword} {te ta : TE} {t tk : TA} {nm : Option Str}
variable {g : List Value → List Value → List Value} {gV : List V → List V → List V}
end
structure FnScope (N P : List Str) (sc : Scope) : Prop where
  kind : sc.kind = .function
  co : sc.isCoroutine = false
  gen : sc.isGenerator = false
  nd : N.Nodup
  pre : N.take P.length = P
  par : ∀ x ∈ P, sc.names.lookup x = some .local ∨ sc.names.lookup x = some .cell
  nofree : ∀ y ∈ sc.names, y.2 ≠ .free
theorem bindL_out {kindOf : Str → Option NameKind} {x : Str} : ∀ {binds : List (Str × Value)} {m : Str → Option Value}, (∀ v, (x, v) ∉ binds) → bindL kindOf binds m x = m x
  | [], _, _ => rfl
  | (n, v) :: r, m, h => by
    unfold bindL
    rw [bindL_out fun w hw => h w (List.mem_cons_of_mem _ hw)]
    split
    · have : x ≠ n := by rintro rfl; exact h v List.mem_cons_self
      simp [this]
    · rfl
theorem bindC_out {kindOf : Str → Option NameKind} {x : Str} : ∀ {binds : List (Str × Value)} {m : Str → Option Value}, (∀ v, (x, v) ∉ binds) → bindC kindOf binds m x = m x
  | [], _, _ => rfl
  | (n, v) :: r, m, h => by
    unfold bindC
    rw [bindC_out fun w hw => h w (List.mem_cons_of_mem _ hw)]
    split
    · rfl
    · have : x ≠ n := by rintro rfl; exact h v List.mem_cons_self
      simp [this]
theorem bindL_get {kindOf : Str → Option NameKind} {x : Str} {v : Value} : ∀ {P : List Str} {vs : List Value} {i : Nat} {m : Str → Option Value}, P.Nodup → P[i]? = some x → vs[i]? = some v → kindOf x = some .local →
    bindL kindOf (P.zip vs) m x = some v
  | [], _, _, _, _, h, _, _ => by simp at h
  | _ :: _, [], _, _, _, _, h, _ => by simp at h
  | p :: P, w :: vs, 0, m, nd, h1, h2, hk => by
    simp at h1 h2; subst h1; subst h2
    show bindL kindOf ((p, w) :: P.zip vs) m p = _
    unfold bindL
    rw [bindL_out fun v hv => (List.nodup_cons.mp nd).1 (List.of_mem_zip hv).1, if_pos hk]
    simp
  | p :: P, w :: vs, i + 1, m, nd, h1, h2, hk => by
    show bindL kindOf ((p, w) :: P.zip vs) m x = _
    unfold bindL
    exact bindL_get (i := i) (List.nodup_cons.mp nd).2 (by simpa using h1) (by simpa using h2) hk
theorem bindC_get {kindOf : Str → Option NameKind} {x : Str} {v : Value} : ∀ {P : List Str} {vs : List Value} {i : Nat} {m : Str → Option Value}, P.Nodup → P[i]? = some x → vs[i]? = some v → kindOf x ≠ some .local →
    bindC kindOf (P.zip vs) m x = some v
  | [], _, _, _, _, h, _, _ => by simp at h
  | _ :: _, [], _, _, _, _, h, _ => by simp at h
  | p :: P, w :: vs, 0, m, nd, h1, h2, hk => by
    simp at h1 h2; subst h1; subst h2
    show bindC kindOf ((p, w) :: P.zip vs) m p = _
    unfold bindC
    rw [bindC_out fun v hv => (List.nodup_cons.mp nd).1 (List.of_mem_zip hv).1, if_neg hk]
    simp
  | p :: P, w :: vs, i + 1, m, nd, h1, h2, hk => by
    show bindC kindOf ((p, w) :: P.zip vs) m x = _
    unfold bindC
    exact bindC_get (i := i) (List.nodup_cons.mp nd).2 (by simpa using h1) (by simpa using h2) hk
noncomputable def start (N : List Str) (vs : List V) : St := vs.map some ++ List.replicate (N.length - vs.length) none
noncomputable def cxOf (CX : CXT) (P : Program) (w : World) (K : PySem.W.Frag) (mg : Str → Option Value) (base : Heap) (N : List Str) (qual : Str) (scope : Scope) (f : Addr) (cd : Value) (A : Around) (outer : List Env) (s : Shared) (H : Hp) (E : XK) : Cx where
  prog := P
  w := w
  K := K
  mg := mg
  base := base
  A := A.deeper (envOfC qual scope s.heap.objs.size f cd)
  N := N
  s₀ := s
  H₀ := H
  env := envOfC qual scope s.heap.objs.size f cd
  outer := outer
  stack := envOfC qual scope s.heap.objs.size f cd :: outer
  ex := []
  calm := true
  fn := fun _ => true
  pn := []
  xe := fun e s' => wpAny (model P w) (A.deeper (envOfC qual scope s.heap.objs.size f cd)) (leaving (envOfC qual scope s.heap.objs.size f cd) e) (fun _ s'' => CX outer H s E e s'') (fun e' s'' => CX outer H s E e' s'') s'
theorem cell_has {sc : Scope} {n : Nat} {x : Str} (h : sc.names.lookup x = some .cell) : ∃ c, (cellsFrom n sc.names []).lookup x = some c := by
  have q := PySem.W.cellsFrom_some sc.names n [] (.inl h)
  exact Option.isSome_iff_exists.mp q
theorem inv_start {CX : CXT} {P : Program} {w : World} {K : PySem.W.Frag} {mg : Str → Option Value} {base : Heap} {N ps : List Str} {qual : Str} {scope : Scope} {f : Addr} {cd : Value} {A : Around} {outer : List Env} {s s1 : Shared} {H : Hp} {E : XK} {us : List Value} {vs : List V}
    (S : FnScope N ps scope) (hd : A.handled = none) (e0 : Env0 P w K mg base A outer s H) (hl : vs.length = ps.length) (r : Vals vs us)
    (x : InCallC s s.heap.objs.size (bindL (envOfC qual scope s.heap.objs.size f cd).kindOf (ps.zip us) fun _ => none) (cellsFrom (s.heap.objs.size + 1) scope.names []) (bindC (envOfC qual scope s.heap.objs.size f cd).kindOf (ps.zip us) fun _ => none) s1) :
    Inv (cxOf CX P w K mg base N qual scope f cd A outer s H E) [] (start N vs) H s1 := by
  have hpl : ps.length ≤ N.length := by have := congrArg List.length S.pre; rw [List.length_take] at this; omega
  obtain ⟨h1, tk, rfl, hk⟩ := x.done
  have noA : ∀ b : Addr, b ∉ (cxOf CX P w K mg base N qual scope f cd A outer s H E).ex := fun b z => absurd (show b ∈ ([] : List Addr) from z) (by simp)
  refine ⟨⟨e0.mod, S.kind, rfl, rfl, Nat.le_refl _, fun y z c h1 h2 => ?_, fun y hy => ?_, fun y c _ h => ?_, fun _ => hd, Around.frames_deeper e0.frames, .inr ⟨rfl, rfl⟩, fun b z => absurd z (noA b), e0.bs, e0.bsz, fun b _ _ => noA b, fun b z => absurd z (noA b), e0.funs, e0.frf⟩,
    rfl, e0.bare, Un.kept hk, ⟨_, x.toInCall.ns, fun i y v h1 h2 h3 => ?_⟩, fun y c h => ⟨_, x.cell y c h⟩, e0.hok.fresh (Nat.le_refl _), fun y c h => ?_, fun p hp => absurd (show p ∈ ([] : List (Addr × Obj)) from hp) (by simp), e0.hok.kept hk, ?_⟩
  · exact name_of_addr x.apart (PySem.mem_of_lookup h1) (PySem.mem_of_lookup h2)
  · have hy : scope.names.lookup y = some .cell ∨ scope.names.lookup y = some .free := hy
    rcases hy with hy | hy
    · exact cell_has hy
    · exact absurd rfl (S.nofree _ (PySem.mem_of_lookup hy))
  · exact Nat.le_of_lt (x.above y c (PySem.mem_of_lookup h))
  · have hi : i < vs.length := by
      unfold start at h2
      by_cases hi : i < vs.length
      · exact hi
      · rw [List.getElem?_append_right (by simpa using hi)] at h2
        rw [List.getElem?_replicate] at h2
        split at h2 <;> cases h2
    have ha : vs[i]? = some v := by
      unfold start at h2
      rw [List.getElem?_append_left (by simpa using hi), List.getElem?_map] at h2
      cases e : vs[i]? with
      | none => rw [e] at h2; cases h2
      | some a => rw [e] at h2; cases h2; rfl
    obtain ⟨u, hu, rv⟩ := r.get ha
    have hp : ps[i]? = some y := by
      rw [← S.pre, List.getElem?_take_of_lt (by omega)]; exact h1
    have ndP : ps.Nodup := by rw [← S.pre]; exact S.nd.sublist (List.take_sublist _ _)
    refine ⟨u, rv, ?_⟩
    rcases S.par y (List.mem_of_getElem? hp) with k | k
    · exact .inl ⟨k, bindL_get ndP hp hu k⟩
    · obtain ⟨c, e⟩ := cell_has (n := s.heap.objs.size + 1) k
      refine .inr ⟨.inl k, c, e, ?_⟩
      have q := x.cell y c e
      rw [bindC_get ndP hp hu (by show scope.names.lookup y ≠ _; rw [k]; decide)] at q
      exact q
  · exact e0.hok.fresh (Nat.le_of_lt (x.above y c (PySem.mem_of_lookup h)))
  · unfold start
    show _ = N.length
    rw [List.length_append, List.length_map, List.length_replicate]
    omega
theorem fn_of {CX : CXT} {P : Program} {w : World} {K : PySem.W.Frag} {mg : Str → Option Value} {base : Heap} {k : Nat} {f : Addr} {name qual : Str} {params : Arguments} {body : List Stmt} {scope : Scope} {dV kV doc pm cdv ct oc : Value} {an od : Option Addr}
    {osl : Array (Option Value)} {N ps : List Str} {sp : Sp} (lk : K.lookup f = some ⟨oc, od, .func (PySem.W.fnOf name qual params body scope dV kV doc pm an cdv ct), osl⟩) (hcd : PySem.W.codeIn K cdv qual = true) (S : FnScope N ps scope)
    (len : ∀ vs H Q E, sp vs H Q E → vs.length = ps.length)
    (hbody : ∀ (A : Around) (outer : List Env) (s : Shared) (H : Hp) (vs : List V) (Q : VK) (E : XK), Room k (A.deeper (envOfC qual scope s.heap.objs.size f cdv)) → sp vs H Q E →
      ∃ t, PSs (cxOf CX P w K mg base N qual scope f cdv A outer s H E) body t ∧ t { nx := fun _ H' => Q .non H', rt := Q } (start N vs) H) :
    FnOk P w K mg base CX (k + 1) f (PySem.W.fnOf name qual params body scope dV kV doc pm an cdv ct) ps sp := by
  refine ⟨len, fun A outer s H args us vs Q E hr e0 hb r hsp => ?_⟩
  have hl := len _ _ _ _ hsp
  have KX : K.In s.heap := e0.mod.kin.keeps fun b o e => (e0.bs b o e).1
  have lim : s.heap.NoLimit := e0.mod.nolimit.keeps fun b o e => (e0.bs b o e).1
  have hkind : ∀ y ∈ ps.zip us, scope.names.lookup y.1 = some .local ∨ (scope.names.lookup y.1 = some .cell ∧ ((cellsFrom (s.heap.objs.size + 1) scope.names []).lookup y.1).isSome = true) := fun ⟨n, v⟩ hy => by
    rcases S.par n (List.of_mem_zip hy).1 with q | q
    · exact .inl q
    · exact .inr ⟨q, PySem.W.cellsFrom_some _ _ _ (.inl q)⟩
  refine codeAny_call_function hr.depth (KX _ _ lk) rfl S.co S.gen rfl (PySem.W.codeRec_of KX hcd) (hb _ _ _ _ ?_)
  refine wpAny_newFunctionEnv_cells S.kind hkind fun env he s1 x => ?_
  subst he
  refine ⟨lim.keeps x.toInCall.keep, codeAny_func ?_⟩
  obtain ⟨t, ht, hq⟩ := hbody A outer s H vs Q E (hr.deeper _) hsp
  have I : Inv (cxOf CX P w K mg base N qual scope f cdv A outer s H E) [] (start N vs) H s1 := inv_start S hr.hd e0 hl r x
  refine wpAny_mono (ht [] s1 (start N vs) H _ I hq) (fun fl s' hs => ?_) fun e s' hs => hs
  have fin : ∀ {σ' : St} {H' : Hp} {v : V} {u : Value}, Inv (cxOf CX P w K mg base N qual scope f cdv A outer s H E) [] σ' H' s' → RelV v u → Q v H' → CE outer P w H s Q u s' :=
    fun {σ' H' v u} J rv q => ⟨v, H', J.os, J.bare, J.base, J.hok, rv, q⟩
  cases fl with
  | ret u =>
    obtain ⟨v, σ', H', J, rv, q⟩ := hs
    exact fin J rv q
  | next =>
    obtain ⟨σ', H', J, q⟩ := hs
    exact fin (v := V.non) (u := Value.none) J rfl q
  | brk =>
    obtain ⟨_, _, _, q⟩ := hs
    exact False.elim q
  | cont =>
    obtain ⟨_, _, _, q⟩ := hs
    exact False.elim q
end L2
namespace L2
open PySem PySem.Spec PyProof.Rows
section
variable {X : Cx} {x : Str} {p pos : Pos} {e : Expr} {es : List Expr} {t : TA} {id T : String} {r : List V → Hp → VK → Prop}
noncomputable def tCB (r : List V → Hp → VK → Prop) (t : TA) : TE := fun σ H Q => t σ H fun vs H1 => r vs H1 Q
theorem pe_callB (hc : CallR X (.builtin id) r) (hg : Gl X x) (hm : X.mg x = none) (hv : bootBuiltins x = some (.builtin id)) (ha : PA X (e :: es) t) (hn : x ≠ "__name__" := by decide) (hdb : (x == ("__debug__" : Str)) = false := by decide)
    (he : starEach (e :: es) X.env = (false, eval e X.env) :: starEach es X.env := by rfl) (hpl : (backTo pos (starEach es X.env)).any (·.1) = false := by rfl) : PE X (.Call (.Name x p) (e :: es) [] pos) (tCB r t) := by
  intro pins s σ H Q I h
  refine wpAny_Call_Name_kw (ld_blt I hg hm hv ?_ hn hdb)
  exact PyProof.Rows.callWith_builtin1 (thn (ha pos pins s σ H _ I h) fun us s1 ⟨vs, H1, I1, r1, q1⟩ => hc pins s1 σ H1 vs us Q I1 r1 q1) he hpl
theorem pe_callTy (hc : CallR X (.type T) r) (hg : Gl X x) (hm : X.mg x = none) (hv : bootBuiltins x = some (.type T)) (ha : PA X (e :: es) t) (hn : x ≠ "__name__" := by decide) (hdb : (x == ("__debug__" : Str)) = false := by decide)
    (he : starEach (e :: es) X.env = (false, eval e X.env) :: starEach es X.env := by rfl) (hpl : (backTo pos (starEach es X.env)).any (·.1) = false := by rfl) : PE X (.Call (.Name x p) (e :: es) [] pos) (tCB r t) := by
  intro pins s σ H Q I h
  refine wpAny_Call_Name_kw (ld_blt I hg hm hv ?_ hn hdb)
  exact PyProof.Rows.callWith_type1 (thn (ha pos pins s σ H _ I h) fun us s1 ⟨vs, H1, I1, r1, q1⟩ => hc pins s1 σ H1 vs us Q I1 r1 q1) he hpl
end
end L2
namespace HT
open PySem PyProof.Rows
section
open PySem.SeqAt
open PySem.AutoSeq1 (wpAny_loadPart')
open PySem.MeetsSeq PySem.MeetsSeq2 PySem.MeetsSeq3
end
section
variable {prog : Program} {w : World} {A : Around} {E : Value → Shared → Prop} {s : Shared}
theorem cat_tup {t b : Addr} {vs ws : List Value} {Q : Value → Shared → Prop} (ht : IsTup s.heap t vs.toArray) (hb : IsTup s.heap b ws.toArray) (hv : vs ≠ [])
    (h1 : ws = [] → Q (.ref t) s) (h2 : ws ≠ [] → Q (.ref s.heap.objs.size) { s with heap := s.heap.push { cls := .type "tuple", data := .seq (vs ++ ws).toArray } })
    (hsz : vs.length + ws.length ≤ sizeLine) : wpAny (model prog w) A (binaryOp .Add (.ref t) (.ref b)) Q E s := by
  obtain ⟨⟨cls, dd, data, sl⟩, ho, hc, n, hd⟩ := id ht
  obtain ⟨⟨cls2, dd2, data2, sl2⟩, ho2, hc2, n2, hd2⟩ := id hb
  simp only at hc hd hc2 hd2
  subst hc hd hc2 hd2
  have e : vs.toArray ++ ws.toArray = (vs ++ ws).toArray := by simp
  by_cases hw : ws = []
  · exact concat_meets ⟨_, ho, rfl⟩ ⟨_, ho2, rfl⟩ noFill_tuple_add seq_tuple_add PySem.F.slot_tuple_add PySem.F.entry_tuple_add (PySem.F.args_tuple_add_2 _ _)
      (tuple_addW1 t b vs.toArray ws.toArray n n2 dd dd2 sl sl2 (by simpa using hv) (by simp [hw])) ⟨ho, ho2, h1 hw⟩
  · refine concat_meets ⟨_, ho, rfl⟩ ⟨_, ho2, rfl⟩ noFill_tuple_add seq_tuple_add PySem.F.slot_tuple_add PySem.F.entry_tuple_add (PySem.F.args_tuple_add_2 _ _)
      (tuple_addW2 t b vs.toArray ws.toArray n n2 dd dd2 sl sl2 (by simpa using hv) (by simpa using hw) (by rw [List.size_toArray, List.size_toArray]; exact hsz)) ⟨ho, ho2, ?_⟩
    rw [e]
    exact h2 hw
end
end HT
namespace L2
open PySem PySem.Spec PyProof.Rows
noncomputable abbrev TO := St → Hp → (Option Int → Hp → Prop) → Prop
section
variable {X : Cx} {e : Expr} {te : TE} {lo hi : Option Expr} {tl th : TO} {pos p2 : Pos}
noncomputable def rCatT (K : PySem.W.Frag) : R2 := fun x y H Q => ∃ a b xs ys, x = .ref a ∧ y = .ref b ∧ SqT K H a xs ∧ SqT K H b ys ∧ xs ≠ [] ∧ xs.length + ys.length ≤ sizeLine ∧
  (ys = [] → Q (.ref a) H) ∧ (ys ≠ [] → ∀ p, H p = none → Q (.ref p) (upd H p (.tup (xs ++ ys))))
theorem Vals.nil_iff {xs : List V} {us : List Value} (r : Vals xs us) : us = [] ↔ xs = [] := by
  cases r with
  | nil => simp
  | cons _ _ => simp
theorem op_catT : OpR X (binaryOp .Add) (rCatT X.K) := by
  intro pins s σ H x y v u Q I rx ry h
  obtain ⟨a, b, xs, ys, rfl, rfl, ha, hb, hx, hz, q1, q2⟩ := h
  cases rx
  cases ry
  obtain ⟨its, r1, p1, _⟩ := I.tuple ha
  obtain ⟨its2, r2, p2, _⟩ := I.tuple hb
  refine HT.cat_tup p1 p2 (fun z => hx (r1.nil_iff.mp z)) (fun z => ⟨.ref a, H, I, rfl, q1 (r2.nil_iff.mp z)⟩) (fun z => ?_) (by rw [← r1.length, ← r2.length]; exact hz)
  refine ⟨.ref s.heap.objs.size, _, I.laid (t' := s.toks) (o := .tup (xs ++ ys)) (fun b ob q => Heap.get?_push_of_some _ q) (Nat.le_refl _) ?_, rfl, q2 (fun w => z (r2.nil_iff.mpr w)) _ (I.hok.fresh (Nat.le_refl _))⟩
  exact ⟨by rw [List.length_append]; exact hz, _, r1.append r2, IsTup.new _ _⟩
end
end L2
namespace L2
open PySem PySem.Spec PyProof.Rows
noncomputable def ixN (n : Nat) (i : Int) : Option Nat := if 0 ≤ i then (if i < n then some i.toNat else none) else if -(n : Int) ≤ i then some (i + n).toNat else none
noncomputable def atI {α : Type} (xs : List α) (i : Int) : Option α := (ixN xs.length i).bind fun j => xs[j]?
theorem ixN_seq {n : Nat} {i : Int} {j : Nat} (h : ixN n i = some j) : seqIndex? i n = some j ∧ j < n ∧ -(n : Int) ≤ i ∧ i < n := by
  unfold ixN at h
  by_cases h0 : 0 ≤ i
  · rw [if_pos h0] at h
    by_cases h1 : i < n
    · rw [if_pos h1] at h
      have e : i.toNat = j := Option.some.inj h
      exact ⟨by rw [seqIndex_of h0 h1, e], by omega, by omega, h1⟩
    · rw [if_neg h1] at h; cases h
  · rw [if_neg h0] at h
    by_cases h1 : -(n : Int) ≤ i
    · rw [if_pos h1] at h
      have e : (i + n).toNat = j := Option.some.inj h
      exact ⟨by rw [seqIndex_neg (by omega) h1, e], by omega, h1, by omega⟩
    · rw [if_neg h1] at h; cases h
theorem atI_get {α : Type} {xs : List α} {i : Int} {v : α} (h : atI xs i = some v) : ∃ j, seqIndex? i xs.length = some j ∧ xs[j]? = some v ∧ j < xs.length ∧ -(xs.length : Int) ≤ i ∧ i < xs.length := by
  unfold atI at h
  cases e : ixN xs.length i with
  | none => rw [e] at h; cases h
  | some j =>
    rw [e] at h
    obtain ⟨h1, h2, h3, h4⟩ := ixN_seq e
    exact ⟨j, h1, h, h2, h3, h4⟩
theorem atI_nat {α : Type} {xs : List α} {j : Nat} {v : α} (h : xs[j]? = some v) : atI xs (j : Int) = some v := by
  have hj : j < xs.length := (List.getElem?_eq_some_iff.mp h).1
  have e : ixN xs.length (j : Int) = some j := by
    unfold ixN
    rw [if_pos (by omega), if_pos (by omega)]; simp
  unfold atI; rw [e]; exact h
noncomputable def PlainIx (b : Expr) : Prop := ∀ o i, subscripted b false o i = operate [o, i] (getItem o i)
noncomputable def IxR (X : Cx) (r : R2) : Prop :=
  ∀ (value slice : Expr) (pins : List (Addr × Obj)) (s : Shared) (σ : St) (H : Hp) (x y : V) (v u : Value) (Q : VK), Inv X pins σ H s → RelV x v → RelV y u → r x y H Q →
    subscripted slice false v u = operate [v, u] (getItem v u) → wpAny (model X.prog X.w) X.A (subscriptTail value slice v u) (EP X pins σ Q) X.xe s
noncomputable def MtR (X : Cx) (id : String) (r : V → List V → Hp → VK → Prop) : Prop :=
  ∀ (pins : List (Addr × Obj)) (s : Shared) (σ : St) (H : Hp) (x : V) (xs : List V) (v : Value) (us : List Value) (Q : VK), Inv X pins σ H s → RelV x v → Vals xs us → r x xs H Q →
    wpAny (model X.prog X.w) X.A (call (.builtin id) (v :: us)) (EP X pins σ Q) X.xe s
section
variable {X : Cx} {a b : Expr} {ta tb : TE} {pos : Pos}
theorem pe_ix {r : R2} (hr : IxR X r) (ha : PE X a ta) (hb : PE X b tb) (hs : PlainIx b) : PE X (.Subscript a b pos) (tOp r ta tb) := by
  intro pins s σ H Q I h
  exact Subscript_ (binT ha hb I h fun v u s2 x y H2 I2 rx ry q => hr a b pins s2 σ H2 x y v u Q I2 rx ry q (hs _ _))
noncomputable def rIxL (K : PySem.W.Frag) : R2 := fun x y H Q => ∃ p xs i v, x = .ref p ∧ y = .int i ∧ SqL K H p xs ∧ atI xs i = some v ∧ Q v H
noncomputable def rIxT (K : PySem.W.Frag) : R2 := fun x y H Q => ∃ p xs i v, x = .ref p ∧ y = .int i ∧ SqT K H p xs ∧ atI xs i = some v ∧ Q v H
theorem ix_list : IxR X (rIxL X.K) := by
  intro value slice pins s σ H x y v u Q I rx ry h hs
  obtain ⟨p, xs, i, z, rfl, rfl, hq, he, q⟩ := h
  cases rx
  obtain ⟨t, rfl⟩ := ry
  obtain ⟨its, r, pl, hz⟩ := I.list hq
  obtain ⟨j, h1, h2, h3, h4, h5⟩ := atI_get he
  obtain ⟨w, ew, rw'⟩ := r.get h2
  have hl := r.length
  have hn := line63
  have fin : EP X pins σ Q w s := ⟨z, H, I, rw', q⟩
  by_cases h0 : 0 ≤ i
  · have hj : i.toNat = j := by
      rw [seqIndex_of h0 h5] at h1
      exact Option.some.inj h1
    exact item_listR pl.isList h0 (by omega) (by rw [hj]; simpa using ew) fin hs
  · have hj : (i + (its.toArray.size : Int)).toNat = j := by
      rw [seqIndex_neg (by omega) h4] at h1
      rw [List.size_toArray, ← hl]
      exact Option.some.inj h1
    exact subscriptTail_builtinR (x := w) pl.isList.typeIs slot_list_getitem.lookup
      (wpAny_getItem_list_neg (Q := fun r s' => r = w ∧ EP X pins σ Q r s') pl.isList (by omega) (by rw [List.size_toArray] <;> omega) (by omega) (by rw [hj]; simpa using ew) ⟨rfl, fin⟩) hs
theorem ix_tup : IxR X (rIxT X.K) := by
  intro value slice pins s σ H x y v u Q I rx ry h hs
  obtain ⟨p, xs, i, z, rfl, rfl, hq, he, q⟩ := h
  cases rx
  obtain ⟨t, rfl⟩ := ry
  obtain ⟨its, r, pl, hz⟩ := I.tuple hq
  obtain ⟨j, h1, h2, h3, h4, h5⟩ := atI_get he
  obtain ⟨w, ew, rw'⟩ := r.get h2
  have hl := r.length
  have hn := line63
  have fin : EP X pins σ Q w s := ⟨z, H, I, rw', q⟩
  exact subscriptTail_builtinR (x := w) pl.typeIs slot_tuple_getitem.lookup
    (getItem_tuple (j := j) (Q := fun r s' => r = w ∧ EP X pins σ Q r s') pl (by omega) (by omega) (by rw [List.size_toArray, ← hl]; exact h1) (by simpa using ew) ⟨rfl, fin⟩) hs
theorem call_len_seq : CallR X (.builtin "len") (fun xs H Q => ∃ p ys, xs = [.ref p] ∧ (SqL X.K H p ys ∨ SqT X.K H p ys) ∧ Q (.int ys.length) H) := by
  intro pins s σ H xs us Q I r h
  obtain ⟨p, ys, rfl, hq, q⟩ := h
  obtain ⟨u, rfl, rx⟩ := vals1 r
  cases rx
  have hn := line63
  rcases hq with hq | hq
  · obtain ⟨its, r', pl, hz⟩ := I.list hq
    have hlen := r'.length
    exact Calls.call_len_list pl.isList (by simp only [List.size_toArray] <;> omega) ⟨.int ys.length, H, I.tok _, ⟨s.toks + 1, by rw [List.size_toArray, hlen]⟩, q⟩
  · obtain ⟨its, r', pl, hz⟩ := I.tuple hq
    have hlen := r'.length
    exact len_tuple pl (by simp only [List.size_toArray] <;> omega) ⟨.int ys.length, H, I.tok _, ⟨s.toks + 1, by rw [List.size_toArray, hlen]⟩, q⟩
theorem call_len_str : CallR X (.builtin "len") (fun xs H Q => ∃ z, xs = [.str z] ∧ z.length ≤ sizeLine ∧ Q (.int z.length) H) := by
  intro pins s σ H xs us Q I r h
  obtain ⟨z, rfl, hz, q⟩ := h
  obtain ⟨u, rfl, t, rfl⟩ := vals1 r
  have hn := line63
  exact len_str (by omega) ⟨.int z.length, H, I.tok _, ⟨_, rfl⟩, q⟩
theorem call_tuple_of : CallR X (.type "tuple") (fun xs H Q => ∃ p ys, xs = [.ref p] ∧ ((SqL X.K H p ys ∧ ∀ l, H l = none → Q (.ref l) (upd H l (.tup ys))) ∨ (SqT X.K H p ys ∧ Q (.ref p) H))) := by
  intro pins s σ H xs us Q I r h
  obtain ⟨p, ys, rfl, h⟩ := h
  obtain ⟨u, rfl, rx⟩ := vals1 r
  cases rx
  rcases h with ⟨hq, q⟩ | ⟨hq, q⟩
  · obtain ⟨its, r', pl, hz⟩ := I.list hq
    have hlen := r'.length
    refine call_tuple_list pl.isList (fun h' kp => ?_) (by simp only [List.size_toArray] <;> omega)
    have I1 : Inv X pins σ H { s with heap := h' } := I.kept (t' := s.toks) kp
    have I2 : Inv X pins σ (upd H h'.objs.size (.tup ys)) { s with heap := h'.push { cls := .type "tuple", data := .seq its.toArray } } :=
      I1.laid (t' := s.toks) (fun b o e => Heap.get?_push_of_some _ e) (Nat.le_refl _) (show ObjOk X.prog X.w _ _ _ (.tup ys) from ⟨hz, its, r', IsTup.new _ _⟩)
    exact ⟨.ref h'.objs.size, _, I2, rfl, q _ (I1.hok.fresh (Nat.le_refl _))⟩
  · obtain ⟨its, r', pl, hz⟩ := I.tuple hq
    exact call_tuple_same pl ⟨.ref p, H, I, rfl, q⟩
noncomputable def tyV (K : PySem.W.Frag) (T : String) (x : V) (H : Hp) : Prop := match x with
  | .str _ => T = "str"
  | .int _ => T = "int"
  | .ref p => (T = "list" ∧ ∃ xs, SqL K H p xs) ∨ (T = "tuple" ∧ ∃ o, K.lookup p = some o ∧ o.cls = .type "tuple" ∧ o.dict = none) ∨
      (T = "dict" ∧ ((∃ kvs, H p = some (.dK kvs)) ∨ ∃ kvs, H p = some (.dT kvs))) ∨ (T = "set" ∧ ∃ S n, H p = some (.set S n))
  | _ => False
theorem tyV_is {pins : List (Addr × Obj)} {σ : St} {H : Hp} {s : Shared} {T : String} {x : V} {v : Value} (I : Inv X pins σ H s) (r : RelV x v) (ty : tyV X.K T x H) :
    s.TypeIs v T ∧ ∀ a, v = .ref a → ∃ ob, s.heap.get? a = some ob ∧ ob.dict = none := by
  cases x with
  | str z =>
    obtain ⟨t, rfl⟩ := r
    cases (show T = "str" from ty)
    exact ⟨typeIs_str s z t, fun _ e => nomatch e⟩
  | int i =>
    obtain ⟨t, rfl⟩ := r
    cases (show T = "int" from ty)
    exact ⟨typeIs_int s i t, fun _ e => nomatch e⟩
  | ref p =>
    cases r
    rcases ty with ⟨rfl, xs, hq⟩ | ⟨rfl, o, hk, hc, hd⟩ | ⟨rfl, hk⟩ | ⟨rfl, S, n, hk⟩
    · obtain ⟨its, _, pl, _⟩ := I.list hq
      refine ⟨pl.isList.typeIs, fun a e => ?_⟩
      cases e
      obtain ⟨o, n, e, c, hd, _⟩ := pl
      exact ⟨o, e, hd⟩
    · refine ⟨⟨o, I.kIn p o hk, hc⟩, fun a e => ?_⟩
      cases e
      exact ⟨o, I.kIn _ o hk, hd⟩
    · have z : ∃ o, s.heap.get? p = some o ∧ o.ExactDict := by
        rcases hk with ⟨kvs, hk⟩ | ⟨kvs, hk⟩
        · obtain ⟨_, _, _, _, o, _, _, e, ex, _⟩ := I.hok p _ hk
          exact ⟨o, e, ex⟩
        · obtain ⟨_, _, _, _, o, _, _, e, ex, _⟩ := I.hok p _ hk
          exact ⟨o, e, ex⟩
      obtain ⟨o, e, ex⟩ := z
      refine ⟨⟨o, e, ex.1⟩, fun a e2 => ?_⟩
      cases e2
      exact ⟨o, e, ex.2.1⟩
    · obtain ⟨o, _, _, _, e, ex, _⟩ := I.hok p _ hk
      refine ⟨⟨o, e, ex.1⟩, fun a e2 => ?_⟩
      cases e2
      exact ⟨o, e, ex.2.1⟩
  | _ => exact False.elim ty
noncomputable def tBM (K : PySem.W.Frag) (T : String) (r : V → List V → Hp → VK → Prop) (to : TE) (t : TA) : TE := fun σ H Q => to σ H fun x H1 => tyV K T x H1 ∧ t σ H1 fun xs H2 => r x xs H2 Q
variable {o e : Expr} {es : List Expr} {to : TE} {t : TA} {name : Str} {apos cpos : Pos} {T id : String} {r : V → List V → Hp → VK → Prop}
theorem pe_bm (pa : PlainAttrs T) (slot : Slot T name id) (hty : typeOf (.builtin id) = pure (.type "method_descriptor")) (hm : MtR X id r) (ho : PE X o to) (ha : PA X (e :: es) t)
    (hbase : attributeBase o name X.env (eval o X.env) = eval o X.env := by rfl)
    (hfew : ((backTo cpos (starEach (e :: es) X.env)).all (fun x => !x.1) && (backToKw cpos (keywordEach [] X.env)).all (fun x => x.1.isSome)
      && decide ((e :: es).length + ([] : List Keyword).length + (if ([] : List Keyword).isEmpty then 0 else 1) < 30)) = true := by rfl)
    (hline : (apos.endLine == cpos.line) = true := by rfl) (hs : starEach (e :: es) X.env = (false, eval e X.env) :: starEach es X.env := by rfl) (hplain : (backTo cpos (starEach es X.env)).any (·.1) = false := by rfl) :
    PE X (.Call (.Attribute o name apos) (e :: es) [] cpos) (tBM X.K T r to t) := by
  intro pins s σ H Q I h
  refine wpAny_Call_method_late hbase hfew hline rfl (thn (ho pins s σ H _ I h) fun v s1 hq__ => ?_)
  obtain ⟨x, H1, I1, r1, ty, q1⟩ := hq__
  obtain ⟨h1, h2⟩ := tyV_is I1 r1 ty
  refine ⟨T, id, pa, slot, hty, h1, h2, ?_⟩
  have hA := ha cpos pins s1 σ H1 _ I1 q1
  rw [hs] at hA ⊢
  refine Calls.callWith_builtin (by show (false || (backTo cpos (starEach es X.env)).any (·.1)) = false; rw [hplain] <;> rfl) (Calls.evalArgs_plain ?_)
  exact thn hA fun us s2 ⟨vs, H2, I2, r2, q2⟩ => hm pins s2 σ H2 x vs v us Q I2 r1 r2 q2
end
end L2
namespace L2
open PySem PySem.Spec PyProof.Rows
noncomputable def MtM (X : Cx) (id : String) (r : V → List V → Hp → VK → Prop) : Prop :=
  ∀ (pins : List (Addr × Obj)) (s : Shared) (σ : St) (H : Hp) (x : V) (xs : List V) (v : Value) (us : List Value) (Q : VK), Inv X pins σ H s → RelV x v → Vals xs us → r x xs H Q →
    wpAny (model X.prog X.w) X.A (call (.builtin id) (v :: us)) (EP X pins σ Q) X.xe s
theorem Vals.one {x : V} {us : List Value} (h : Vals [x] us) : ∃ u, us = [u] ∧ RelV x u := by
  cases h with
  | cons r t => cases t; exact ⟨_, rfl, r⟩
theorem Vals.two {x y : V} {us : List Value} (h : Vals [x, y] us) : ∃ u v, us = [u, v] ∧ RelV x u ∧ RelV y v := by
  cases h with
  | cons r t =>
    cases t with
    | cons q t => cases t; exact ⟨_, _, rfl, r, q⟩
section
variable {X : Cx} {pins : List (Addr × Obj)} {σ : St} {H : Hp} {s : Shared} {l b : Addr} {xs ys zs : List V}
theorem Inv.lset {its its' : List Value} {n : Nat} {f : Array Value → Array Value} {t' : Nat} (I : Inv X pins σ H s) (hH : H l = some (.lst xs))
    (e : s.heap.get? l = some { cls := .type "list", data := .seq its.toArray n }) (hf : f its.toArray = its'.toArray) (hv : Vals ys its') (hz : ys.length ≤ sizeLine) :
    Inv X pins σ (upd H l (.lst ys)) { s with heap := s.heap.update l (Obj.mapSeq f), toks := t' } := by
  have q := PySem.IsL.update e f
  rw [hf] at q
  refine I.write (x := l) (e := l) (by rw [hH]; exact trivial) (.inl rfl) (fun b' u hb hu => (Heap.get?_update_other s.heap (Obj.mapSeq f) (Ne.symm hb)).trans hu) ⟨_, q⟩ ?_
  exact ⟨hz, its', _, hv, q⟩
theorem Inv.lnew {its : List Value} {t' : Nat} (I : Inv X pins σ H s) (hv : Vals ys its) (hz : ys.length ≤ sizeLine) :
    Inv X pins σ (upd H s.heap.objs.size (.lst ys)) { s with heap := s.heap.push { cls := .type "list", data := .seq its.toArray }, toks := t' } :=
  I.laid (fun _ _ q => Heap.get?_push_of_some _ q) (Nat.le_refl _) ⟨hz, its, 0, hv, Heap.get?_push_size _ rfl⟩
theorem Inv.fresh (I : Inv X pins σ H s) : H s.heap.objs.size = none := I.hok.fresh (Nat.le_refl _)
theorem Inv.lstM (I : Inv X pins σ H s) (hH : H l = some (.lst xs)) : xs.length ≤ sizeLine ∧ ∃ (its : List Value) (n : Nat), Vals xs its ∧ xs.length = its.length ∧ s.heap.get? l = some { cls := .type "list", data := .seq its.toArray n } := by
  obtain ⟨z, its, n, r, e⟩ := I.hok l _ hH
  exact ⟨z, its, n, r, r.length, e⟩
end
section
variable {X : Cx}
noncomputable def rAppend : V → List V → Hp → VK → Prop := fun x vs H Q => ∃ l xs y, x = .ref l ∧ vs = [y] ∧ H l = some (.lst xs) ∧ xs.length < sizeLine ∧ Q .non (upd H l (.lst (xs ++ [y])))
theorem mt_append : MtM X "list.append" rAppend := by
  intro pins s σ H x vs v us Q I rx rv h
  obtain ⟨l, xs, y, rfl, rfl, hH, hz, q⟩ := h
  cases rx
  obtain ⟨u, rfl, ru⟩ := rv.one
  obtain ⟨z, its, n, r, hl, e⟩ := I.lstM hH
  refine call_meets F.slot_list_append ⟨_, e, rfl⟩ F.entry_list_append (F.args_list_append_2 _ _) (PySem.list_append l its.toArray n u (by rw [List.size_toArray]; omega)) ⟨e, ?_⟩
  refine ⟨.non, _, I.lset (its' := its ++ [u]) hH e (by simp) (r.append (.cons ru .nil)) ?_, rfl, q⟩
  rw [List.length_append, List.length_singleton]
  omega
end
section
variable {prog : Program} {w : World} {A : Around} {E : Value → Shared → Prop} {s : Shared}
end
section
variable {X : Cx}
end
end L2
namespace Att
open PySem PySem.W PySem.Calls PyProof.Rows
theorem ints_of_wellAll {P : Params} {h : Heap} : ∀ (ns : List Int) (vs : List Value), WellAll P h vs (ns.map WData.int) → IntsAre vs ns := by
  intro ns
  induction ns with
  | nil =>
    intro vs w
    rw [List.map_nil] at w
    cases w
    exact .nil
  | cons n ns ih =>
    intro vs w
    rw [List.map_cons] at w
    cases w with
    | cons a b =>
      cases a
      exact .cons _ _ (ih _ b)
theorem script_of {l : OpenLaw} {n : Nat} (hn : l.most = some n) {P : Params} {h : Heap} {args : List WData} {vals : List Value}
    (hpre : l.row.toRowW.claim.pre args = true) (hwl : WellAll P h vals args) :
    ∃ a vs ns, vals = [Value.ref a] ∧ args = [WData.list (ns.map WData.int)] ∧ h.get? a = some { cls := .type "list", data := .seq vs.toArray } ∧ IntsAre vs ns ∧ ns.length ≤ n := by
  have hsh : WShape.hasAll [] args [.list .int] = true := (pre_splitW hpre).1
  have hc : l.pre.holds [] { args := args } = true := (pre_splitW hpre).2
  obtain ⟨d, r, rfl, h1, h2⟩ := hasAllW_cons hsh
  obtain rfl := hasAllW_nil h2
  obtain ⟨xs, rfl, h3⟩ := hasW_list h1
  obtain ⟨ns, rfl⟩ := items_int h3
  have hlen : ns.length ≤ n := by
    unfold OpenLaw.pre at hc
    have h4 : (WTm.not (.lt (.lit (.int (n : Int))) (.len (.arg 0)))).holds [] { args := [.list (ns.map .int)] } = true := by
      have h4 := (holds_andW hc).1
      rw [hn] at h4
      exact h4
    have h5 := condW_of h4 (w_not (w_lt w_lit (w_len_list (w_arg rfl))))
    rw [List.length_map] at h5
    refine Nat.le_of_not_lt fun q => ?_
    have q' : (n : Int) < ((ns.length : Nat) : Int) := by omega
    first
      | (rw [decide_eq_true q'] at h5; exact absurd h5 (by decide))
      | (simp at h5; omega)
  cases hwl with
  | cons w1 w2 =>
    cases w2
    cases w1 with
    | list ho hall => exact ⟨_, _, ns, rfl, rfl, ho, ints_of_wellAll ns _ hall, hlen⟩
theorem post_true (l : OpenLaw) (args : List WData) : l.row.toRowW.claim.post args (.bool true) args = true :=
  postW_of (r := l.row.toRowW) (X := (true == true))
    (show WShape.has [] (.bool true) .bool = true by first | rfl | decide | simp [WShape.has, WShape.arms, WShape.armsAll])
    (show (WTm.eq .res (.lit (.bool true))).value [] { args := args, res := some (.bool true), after := args } = some (.bool (true == true)) from w_eq_bool (w_res rfl) w_lit) rfl
theorem attach_call {l : OpenLaw} {n : Nat} {q : Program} {loose : List Str} {XP : (Str → Option Value) → Heap → Prop} {YP : World → Heap → Prop} {d : DefRec}
    (hn : l.most = some n) (hdf : d.params.defaults = [])
    (call : ∀ (w : World) (s₀ s₁ : Shared) (mg mb : Str → Option Value) (fa : Addr) (o : Obj) (pm cd doc : Value) (a : Addr) (vs : List Value) (ns : List Int),
      Ground q loose [] XP w s₀ mg mb s₁.heap → YP w s₁.heap →
      s₁.heap.get? fa = some o → o.data = .func (docDef d.name d.params d.body d.scope pm cd doc) → s₁.heap.CodeRec cd d.name → mg d.name = some (.ref fa) →
      s₁.heap.get? a = some { cls := .type "list", data := .seq vs.toArray } → IntsAre vs ns → ns.length ≤ n → s₁.gens = #[] →
      codeAny (model l.prog w) callerA (.call (.ref fa) ⟨[.ref a], []⟩) (fun r s' => r = .ok (.ret (.bool true)) ∧ OldK s₁.heap s'.heap ∧ s'.os = s₁.os ∧ AllBare s'.gens) s₁) :
    WalkO q loose XP YP l.row.toRowW d [] (fun f vs => PySem.call f vs) := by
  intro w s₀ s₁ mg mb G Y fa o pm cd doc dV kV ho hd hcd hD hmg hg args vals as hpre hlay hrd hwl hlo
  obtain rfl : dV = .none := Dflts.none hD hdf
  obtain rfl : kV = .none := Dflts.noKw hD
  obtain ⟨a, vs, ns, rfl, rfl, hobj, hints, hlen⟩ := script_of hn hpre hwl
  refine enter_call (codeAny_mono (call w s₀ s₁ mg mb fa o pm cd doc a vs ns G Y ho (fd_plain hd) hcd hmg hobj hints hlen hg) fun r s' hq => ?_)
  obtain ⟨rfl, h2, h3, h4⟩ := hq
  exact ⟨.inl ⟨.bool true, .bool true, [], rfl, fun _ => rfl, .bool true, post_true l _, fun _ => ⟨List.Pairwise.nil, fun _ hm => (nomatch hm)⟩⟩, h2, h3, h4⟩
section
variable {prog : Program} {w : World} {A : Around} {E : Value → Shared → Prop} {s : Shared} {K : Frag}
end
end Att
namespace L2
open PySem PySem.Spec PyProof.Rows
theorem vals_ints : ∀ {vs : List Value} {ns : List Int}, IntsAre vs ns → Vals (ns.map V.int) vs
  | _, _, .nil => .nil
  | _, _, .cons n t h => .cons ⟨t, rfl⟩ (vals_ints h)
noncomputable def Only (H : Hp) : Prop := ∀ b, H b = none ∨ ∃ o xs, H b = some (.frz o (.lst xs))
theorem law_call {P : Program} {w : World} {K : PySem.W.Frag} {mg mb : Str → Option Value} {CX : CXT} {k : Nat} {fa a : Addr} {fd : FuncData} {x : Str} {sp : Sp} {s₁ : Shared} {vs : List Value} {ns : List Int}
    (KX : K.In s₁.heap) (hns : s₁.heap.Ns mainGlobals mg) (hb : s₁.heap.Ns builtinsNs mb) (hbb : ∀ x : Str, x ≠ "__name__" → mb x = bootBuiltins x) (hlim : s₁.heap.NoLimit) (hg : s₁.gens = #[])
    (ha : s₁.heap.get? a = some { cls := .type "list", data := .seq vs.toArray }) (hi : IntsAre vs ns) (hl : ns.length ≤ sizeLine) (hr : Room k callerA)
    (F : ∀ base : Heap, K.In base → base.Ns mainGlobals mg → FnOk P w K mg base CX k fa fd [x] sp) (hbind : ∀ (s : Shared) (u : Value), BindsTo s fd ⟨[u], []⟩ [(x, u)])
    (hsp : ∀ H : Hp, Only H → SqL K H a (ns.map V.int) → sp [.ref a] H (fun v _ => v = .bl true) fun _ _ _ => False)
    (hCX : ∀ H e s', CX [] H s₁ (fun _ _ _ => False) e s' → False) :
    codeAny (model P w) callerA (.call (.ref fa) ⟨[.ref a], []⟩) (fun r s' => r = .ok (.ret (.bool true)) ∧ OldK s₁.heap s'.heap ∧ s'.os = s₁.os ∧ AllBare s'.gens) s₁ := by
  have rv := vals_ints hi
  have lenV := hi.length
  have core : ∀ H : Hp, Only H → SqL K H a (ns.map V.int) → HOk P w H s₁.heap → (∀ b, H b ≠ none → b = a) → (H a ≠ none → K.lookup a = none) →
      codeAny (model P w) callerA (.call (.ref fa) ⟨[.ref a], []⟩) (fun r s' => r = .ok (.ret (.bool true)) ∧ OldK s₁.heap s'.heap ∧ s'.os = s₁.os ∧ AllBare s'.gens) s₁ := by
    intro H hO hS hok hA hK
    have base_of : ∀ {b : Addr} {o : Obj}, s₁.heap.get? b = some o → H b = none → (hidT s₁.heap H).get? b = some o := fun e n => hidT_get e n
    have noA : ∀ {b : Addr} {o : Obj} {es : Array DictEntry} {ep : Nat}, s₁.heap.get? b = some o → o.data = .dict es ep → H b = none := fun {b o es ep} e d => by
      cases q : H b with
      | none => rfl
      | some u =>
        have e' : b = a := hA b (by rw [q]; simp)
        subst e'
        rw [ha] at e; cases e
        have d' : Data.seq vs.toArray _ = Data.dict es ep := d
        cases d'
    have nsK : ∀ {b : Addr} {m : Str → Option Value}, s₁.heap.Ns b m → (hidT s₁.heap H).Ns b m := fun {b m} ⟨o, es, ep, e, d, r⟩ => ⟨o, es, ep, base_of e (noA e d), d, r⟩
    have hKb : K.In (hidT s₁.heap H) := fun b o e => base_of (KX b o e) (by
      cases q : H b with
      | none => rfl
      | some u =>
        have e' : b = a := hA b (by rw [q]; simp)
        subst e'
        rw [hK (by rw [q]; simp)] at e; cases e)
    have hM : Mod K mg (hidT s₁.heap H) := ⟨hKb, nsK hns, ⟨mb, nsK hb, hbb⟩, let ⟨mc, h1, h2⟩ := hlim; ⟨mc, nsK h1, h2⟩⟩
    have e0 : Env0 P w K mg (hidT s₁.heap H) callerA [] s₁ H := ⟨rfl, hM, fun b o e => of_hidT e, Nat.le_of_eq (hidT_size _ _), trivial, fun b hb => absurd (show b ∈ ([] : List Addr) from hb) (by simp), hok, .of_eq hg⟩
    refine codeAny_mono ((F _ hKb (nsK hns)).run callerA [] s₁ H ⟨[.ref a], []⟩ [.ref a] [.ref a] _ _ hr e0 (hbind s₁ (.ref a)) (.cons rfl .nil) (hsp H hO hS)) fun r s' h => ?_
    cases r with
    | error e => exact (hCX H e s' h).elim
    | ok fl =>
      cases fl with
      | next => exact False.elim h
      | brk => exact False.elim h
      | cont => exact False.elim h
      | ret u =>
        obtain ⟨v, H', os, bare, un, hok', r', q⟩ := h
        have q' : v = .bl true := q
        subst q'
        obtain rfl : u = Value.bool true := r'
        refine ⟨rfl, OldK.of_keep fun b o e => ?_, os, bare⟩
        cases q : H b with
        | none => exact un.keep b o e q (by intro z; exact absurd (show b ∈ ([] : List Addr) from z) (by simp)) (by simp)
        | some u =>
          rcases hO b with z | ⟨ob, xs, z⟩
          · rw [q] at z; cases z
          · have z2 := un.frzs b ob _ z
            obtain ⟨e1, _⟩ := hok b _ z
            obtain ⟨e2, _⟩ := hok' b _ z2
            rw [e] at e1; cases e1
            exact e2
  cases hk : K.lookup a with
  | some o =>
    have e := KX a o hk
    rw [ha] at e
    cases e
    refine core (fun _ => none) (fun _ => .inl rfl) (.inr ⟨_, vs.toArray, _, hk, rfl, rfl, rfl, by rw [List.size_toArray, lenV]; exact hl, by simpa using rv⟩) (fun b u z => by have z' : (none : Option HO) = some u := z; cases z') (fun b z => absurd rfl z) fun z => absurd rfl z
  | none =>
    refine core (fun b => if b = a then some (.frz { cls := .type "list", data := .seq vs.toArray } (.lst (ns.map V.int))) else none) (fun b => ?_) (.inl (.inr ⟨{ cls := .type "list", data := .seq vs.toArray }, if_pos rfl⟩)) (fun b u z => ?_) (fun b z => ?_) fun _ => hk
    · by_cases hb : b = a
      · exact .inr ⟨_, _, if_pos hb⟩
      · exact .inl (if_neg hb)
    · by_cases hb : b = a
      · have z' := (if_pos hb).symm.trans z
        cases z'
        subst hb
        exact ⟨ha, by rw [List.length_map]; exact hl, vs, _, rv, ha⟩
      · have z' := (if_neg hb).symm.trans z
        cases z'
    · by_cases hb : b = a
      · exact hb
      · exact absurd (if_neg hb) z
end L2
namespace L2
open PySem PySem.Spec PyProof.Rows
theorem walk_of {l : PySem.W.OpenLaw} {n k : Nat} {q : Program} {loose : List Str} {XP : (Str → Option Value) → Heap → Prop} {YP : World → Heap → Prop} {d : DefRec} {K : Params → PySem.W.Frag} {CX : World → CXT} {sp : World → Sp} {x : Str}
    (hn : l.most = some n) (hn2 : n ≤ sizeLine) (hdf : d.params.defaults = []) (hr : Room k callerA)
    (hY : ∀ (w : World) (h : Heap), YP w h → (K w.params).In h)
    (F : ∀ (w : World) (mg : Str → Option Value) (fa : Addr) (h : Heap), (K w.params).In h → h.Ns mainGlobals mg → mg d.name = some (.ref fa) →
      ∃ fd : FuncData, (∀ (s : Shared) (u : Value), BindsTo s fd ⟨[u], []⟩ [(x, u)]) ∧
        ∀ base : Heap, (K w.params).In base → base.Ns mainGlobals mg → FnOk l.prog w (K w.params) mg base (CX w) k fa fd [x] (sp w))
    (hsp : ∀ (w : World) (H : Hp) (a : Addr) (ns : List Int), ns.length ≤ n → Only H → SqL (K w.params) H a (ns.map V.int) → sp w [.ref a] H (fun v _ => v = .bl true) fun _ _ _ => False)
    (hCX : ∀ (w : World) (H : Hp) (s : Shared) (e : Value) (s' : Shared), CX w [] H s (fun _ _ _ => False) e s' → False) :
    PySem.W.WalkO q loose XP YP l.row.toRowW d [] (fun f vs => PySem.call f vs) := by
  refine Att.attach_call hn hdf fun w s₀ s₁ mg mb fa o pm cd doc a vs ns G Y ho hd hcd hmg hobj hints hlen hg => ?_
  have KX := hY w _ Y
  obtain ⟨fd, hb, hF⟩ := F w mg fa _ KX G.T.g hmg
  exact law_call KX G.T.g G.T.b G.T.builtins G.T.nolimit hg hobj hints (Nat.le_trans hlen hn2) hr hF hb (fun H hO hS => hsp w H a ns hlen hO hS) fun H e s' => hCX w H s₁ e s'
end L2
namespace L2
open PySem PySem.Spec PyProof.Rows
noncomputable def defArgs (s : Stmt) : Arguments := match s with
  | .FunctionDef _ a _ _ _ _ _ _ _ _ => a
  | _ => { posonlyargs := [], args := [], vararg := none, kwonlyargs := [], kw_defaults := [], kwarg := none, defaults := [] }
noncomputable def defBody (s : Stmt) : List Stmt := match s with
  | .FunctionDef _ _ b _ _ _ _ _ _ _ => b
  | _ => []
noncomputable def defScope (s : Stmt) : Scope := match s with
  | .FunctionDef _ _ _ _ _ _ sc _ _ _ => sc
  | _ => { kind := .function, names := [], isGenerator := false, isCoroutine := false }
noncomputable abbrev CX0 : CXT := fun _ _ _ _ _ _ => False
noncomputable abbrev E0 : XK := fun _ _ _ => False
theorem pass0 {X : Cx} : Passes CX0 X E0 := fun _ _ _ _ _ _ _ h => h.elim
structure Fun (K : PySem.W.Frag) (x qual : Str) (st : Stmt) (f : Addr) (fd : FuncData) : Prop where
  ex : ∃ (oc : Value) (od : Option Addr) (kV doc pm : Value) (an : Option Addr) (cdv ct : Value) (osl : Array (Option Value)),
    fd = PySem.W.fnOf x qual (defArgs st) (defBody st) (defScope st) .none kV doc pm an cdv ct ∧ K.lookup f = some ⟨oc, od, .func fd, osl⟩ ∧ PySem.W.codeIn K cdv qual = true
  kp : PySem.W.keepIn K (.ref f) = true
section
variable {P : Program} {w : World} {K : PySem.W.Frag} {mg : Str → Option Value} {base : Heap}
theorem Fun.ok {x qual : Str} {st : Stmt} {f : Addr} {fd : FuncData} {N ps : List Str} {k : Nat} {sp : Sp} (F : Fun K x qual st f fd) (S : FnScope N ps (defScope st)) (len : ∀ vs H Q E, sp vs H Q E → vs.length = ps.length)
    (hbody : ∀ (cdv : Value) (A : Around) (outer : List Env) (s : Shared) (H : Hp) (vs : List V) (Q : VK) (E : XK), Room k (A.deeper (envOfC qual (defScope st) s.heap.objs.size f cdv)) → sp vs H Q E →
      ∃ t, PSs (cxOf CX0 P w K mg base N qual (defScope st) f cdv A outer s H E).nox (defBody st) t ∧ t { nx := fun _ H' => Q .non H', rt := Q } (start N vs) H) : FnOk P w K mg base CX0 (k + 1) f fd ps sp := by
  obtain ⟨oc, od, kV, doc, pm, an, cdv, ct, osl, rfl, lk, hcd⟩ := F.ex
  refine fn_of lk hcd S len fun A outer s H vs Q E hr hsp => ?_
  obtain ⟨t, h, q⟩ := hbody cdv A outer s H vs Q E hr hsp
  exact ⟨t, h.nox, q⟩
theorem Fun.binds {x qual : Str} {st : Stmt} {f : Addr} {fd : FuncData} {ps : List Str} (F : Fun K x qual st f fd)
    (h : ∀ (kV doc pm : Value) (an : Option Addr) (cdv ct : Value) (us : List Value), us.length = ps.length → bindArgs (PySem.W.fnOf x qual (defArgs st) (defBody st) (defScope st) .none kV doc pm an cdv ct) ⟨us, []⟩ = pure (ps.zip us)) : Binds K fd ps [] := by
  obtain ⟨oc, od, kV, doc, pm, an, cdv, ct, osl, rfl, lk, hcd⟩ := F.ex
  exact .all (h kV doc pm an cdv ct)
theorem fun_mk {x qual : Str} {st : Stmt} {f : Addr} {oc : Value} {od an : Option Addr} {osl : Array (Option Value)} {kV doc pm cdv ct : Value} (l : K.lookup f = some ⟨oc, od, .func (PySem.W.fnOf x qual (defArgs st) (defBody st) (defScope st) .none kV doc pm an cdv ct), osl⟩)
    (c : PySem.W.codeIn K cdv qual = true) (k : PySem.W.keepIn K (.ref f) = true) : Fun K x qual st f (PySem.W.fnOf x qual (defArgs st) (defBody st) (defScope st) .none kV doc pm an cdv ct) := ⟨⟨oc, od, kV, doc, pm, an, cdv, ct, osl, rfl, l, c⟩, k⟩
end
section
variable {X : Cx}
end
theorem iteF {A B : Prop} (h : B) : if false = true then A else B := by
  rw [if_neg Bool.false_ne_true]
  exact h
theorem iteT {A B : Prop} (h : A) : if true = true then A else B := by
  rw [if_pos rfl]
  exact h
noncomputable def Same (H H' : Hp) : Prop := ∀ b o, H b = some o → H' b = some o
theorem Same.refl (H : Hp) : Same H H := fun _ _ h => h
theorem Same.trans {H H1 H2 : Hp} (a : Same H H1) (b : Same H1 H2) : Same H H2 := fun c o h => b c o (a c o h)
theorem Same.free {H H' : Hp} (e : Same H H') {l : Addr} (h : H' l = Option.none) : H l = Option.none := by
  cases q : H l with
  | none => rfl
  | some o =>
    rw [e l o q] at h
    cases h
theorem Same.seq {K : PySem.W.Frag} {H H' : Hp} {a : Addr} {xs : List V} (e : Same H H') (h : SqL K H a xs) : SqL K H' a xs := by
  rcases h with (h | ⟨o, h⟩) | h
  · exact .inl (.inl (e _ _ h))
  · exact .inl (.inr ⟨o, e _ _ h⟩)
  · exact .inr h
end L2
set_option maxHeartbeats 4000000
namespace L2
open PySem PySem.Spec PyProof.Rows
noncomputable def Cx.comp (X : Cx) (scope : Scope) (tn : List Str) (ix : List Nat) (cl : List (Str × Addr)) (C : Addr) (s₂ : Shared) (H₂ : Hp) (fp : List Addr) : Cx where
  prog := X.prog
  w := X.w
  K := X.K
  mg := X.mg
  base := X.base
  A := X.A
  N := tn ++ ix.map fun i => X.N.getD i Str.empty
  s₀ := s₂
  H₀ := H₂
  env := compEnvC scope cl C X.env
  outer := X.stack
  stack := X.stack
  ex := fp
  fn := fun x => scope.names.lookup x == some .cell
  calm := X.calm
  pn := []
  xe := fun _ _ => False
noncomputable def blockSt (tn : List Str) (ix : List Nat) (σ : St) : St := List.replicate tn.length none ++ ix.map fun i => (σ[i]?).join
noncomputable def PIfs (X : Cx) (ifs : List Expr) (t : TT) : Prop :=
  ∀ (pins : List (Addr × Obj)) (s : Shared) (σ : St) (H : Hp) (Q : Bool → Hp → Prop), Inv X pins σ H s → t σ H Q →
    wpAny (model X.prog X.w) X.A (forIn ifs true fun c r => if r = true then do let ok ← isTrue c X.env (eval c X.env); pure (ForInStep.yield ok) else pure (ForInStep.yield r)) (TP X pins σ Q) X.xe s
noncomputable def tYes : TT := fun _ H Q => Q true H
theorem pifs_nil {X : Cx} : PIfs X [] tYes := fun _ _ _ H _ I h => wpAny_tests_nil ⟨H, I, h⟩
theorem pifs_one {X : Cx} {c : Expr} {t : TT} (h : PT X c t) : PIfs X [c] t := fun pins s σ H Q I q => wpAny_tests_one (h pins s σ H Q I q)
noncomputable def CompGo (tn : List Str) (ix : List Nat) (g : TG) (tt : TT) (te : TE) (σ : St) (Q : VK) (J : It) (H1 : Hp) : Prop := ∀ D, H1 D = none →
  ∃ W : Nat → Nat → St → List V → Hp → Prop, (∃ m, W 0 m (blockSt tn ix σ) [] (upd H1 D (.lst []))) ∧ ∀ i m σb acc H2, W i m σb acc H2 → H2 D = some (.lst acc) ∧
    ((J.stop i H2 ∧ Q (.ref D) H2) ∨ (J.go i H2 ∧ acc.length < sizeLine ∧ ∀ x H3, J.yld i H2 x H3 → g x σb H3 fun σ4 H4 => tt σ4 H4 fun b H5 =>
      if b = true then te σ4 H5 fun v H6 => H6 D = some (.lst acc) ∧ ∃ m', m' < m ∧ W (i + 1) m' σ4 (acc ++ [v]) (upd H6 D (.lst (acc ++ [v]))) else ∃ m', m' < m ∧ W (i + 1) m' σ4 acc H5))
noncomputable def tComp (tn : List Str) (ix : List Nat) (wi : TI) (g : TG) (tt : TT) (te : TE) : TE := fun σ H Q => wi σ H (CompGo tn ix g tt te σ Q)
theorem closureFor_ok {scope : Scope} {env : Env} (h : ∀ x ∈ scope.names, x.2 = .free → ∃ c, env.cells.lookup x.1 = some c) :
    ∃ cl, closureFor scope env = pure cl ∧ (∀ x c, cl.lookup x = some c → env.cells.lookup x = some c) ∧ ∀ x ∈ scope.names, x.2 = .free → ∃ c, cl.lookup x.1 = some c := by
  have all : ∀ (l : List (Str × NameKind)) (acc : List (Str × Addr)), (∀ x ∈ l, x.2 = .free → ∃ c, env.cells.lookup x.1 = some c) → (∀ x c, acc.lookup x = some c → env.cells.lookup x = some c) →
      ∃ cl, (forIn l acc fun (x : Str × NameKind) (r : List (Str × Addr)) => (if (x.2 == NameKind.free) = true then (do let a ← cellOf env x.1; pure (ForInStep.yield ((x.1, a) :: r))) else pure (ForInStep.yield r) : Sem (ForInStep (List (Str × Addr))))) = pure cl ∧
        (∀ x c, cl.lookup x = some c → env.cells.lookup x = some c) ∧ (∀ x ∈ l, x.2 = .free → ∃ c, cl.lookup x.1 = some c) ∧ ∀ x, (∃ c, acc.lookup x = some c) → ∃ c, cl.lookup x = some c := by
    intro l
    induction l with
    | nil => intro acc _ ha; exact ⟨acc, rfl, ha, fun x hx => absurd hx (by simp), fun x hx => hx⟩
    | cons y r ih =>
      intro acc hl ha
      obtain ⟨n, k⟩ := y
      by_cases hk : k = .free
      · subst hk
        obtain ⟨c, hc⟩ := hl (n, .free) (by simp) rfl
        have ha' : ∀ x c', List.lookup x ((n, c) :: acc) = some c' → env.cells.lookup x = some c' := fun x c' e => by
          rw [List.lookup_cons] at e
          cases hx : x == n with
          | true =>
            rw [hx] at e
            have e1 : x = n := beq_iff_eq.mp hx
            cases e
            rw [e1]
            exact hc
          | false => rw [hx] at e; exact ha x c' e
        obtain ⟨cl, e1, e2, e3, e4⟩ := ih ((n, c) :: acc) (fun x hx => hl x (List.mem_cons_of_mem _ hx)) ha'
        have ec : cellOf env n = pure c := by unfold cellOf; rw [hc]
        refine ⟨cl, ?_, e2, fun x hx hf => ?_, fun x ⟨c', hc'⟩ => ?_⟩
        · rw [List.forIn_cons]
          simp only [ec, beq_self_eq_true, if_true, pure_bind]
          exact e1
        · rcases List.mem_cons.mp hx with rfl | hx
          · exact e4 n ⟨c, by simp⟩
          · exact e3 x hx hf
        · refine e4 x ?_
          rw [List.lookup_cons]
          cases x == n with
          | true => exact ⟨c, rfl⟩
          | false => exact ⟨c', hc'⟩
      · have hb : (k == NameKind.free) = false := by simpa using hk
        obtain ⟨cl, e1, e2, e3, e4⟩ := ih acc (fun x hx => hl x (List.mem_cons_of_mem _ hx)) ha
        refine ⟨cl, ?_, e2, fun x hx hf => ?_, e4⟩
        · rw [List.forIn_cons]
          simp only [hb, Bool.false_eq_true, if_false, pure_bind]
          exact e1
        · rcases List.mem_cons.mp hx with rfl | hx
          · exact absurd hf hk
          · exact e3 x hx hf
  obtain ⟨cl, e1, e2, e3, _⟩ := all scope.names [] h (fun x c e => by simp at e)
  refine ⟨cl, ?_, e2, e3⟩
  unfold closureFor
  refine Eq.trans (b := forIn scope.names ([] : List (Str × Addr)) _ >>= pure) rfl ?_
  have e0 := congrArg (· >>= (pure : List (Str × Addr) → Sem (List (Str × Addr)))) e1
  first
    | (simp only [pure_bind] at e0; exact e0)
    | exact e0.trans (pure_bind _ _)
theorem lookup_relabel_free {env : Env} : ∀ {names : List (Str × NameKind)} {x : Str}, names.lookup x = some .free →
    (names.map fun (n, k) => if (k == NameKind.free && env.scope.kind == .function && env.kindOf n == some .cell) then (n, NameKind.cell) else (n, k)).lookup x = some .cell ∨
    (names.map fun (n, k) => if (k == NameKind.free && env.scope.kind == .function && env.kindOf n == some .cell) then (n, NameKind.cell) else (n, k)).lookup x = some .free
  | [], _, h => by simp at h
  | (n, k) :: r, x, h => by
    have ih := @lookup_relabel_free env r x
    show List.lookup x ((if (k == NameKind.free && env.scope.kind == .function && env.kindOf n == some .cell) = true then (n, NameKind.cell) else (n, k)) :: _) = _ ∨ List.lookup x ((if (k == NameKind.free && env.scope.kind == .function && env.kindOf n == some .cell) = true then (n, NameKind.cell) else (n, k)) :: _) = _
    cases hx : x == n with
    | true =>
      simp only [List.lookup_cons, hx] at h
      cases h
      by_cases hc : (NameKind.free == NameKind.free && env.scope.kind == .function && env.kindOf n == some .cell) = true
      · rw [if_pos hc]; exact .inl (by simp [List.lookup_cons, hx])
      · rw [if_neg hc]; exact .inr (by simp [List.lookup_cons, hx])
    | false =>
      simp only [List.lookup_cons, hx] at h
      by_cases hc : (k == NameKind.free && env.scope.kind == .function && env.kindOf n == some .cell) = true
      · rw [if_pos hc]; simp only [List.lookup_cons, hx]; exact ih h
      · rw [if_neg hc]; simp only [List.lookup_cons, hx]; exact ih h
noncomputable def compOk (X : Cx) (scope : Scope) (ix : List Nat) : Bool :=
  scope.kind == .function && scope.names.all (fun y => scope.names.lookup y.1 == some y.2 && (y.2 != .free || (X.env.scope.names.lookup y.1 == some .cell || X.env.scope.names.lookup y.1 == some .free)) && (y.2 != .local || scope.names.lookup y.1 == some .local)) &&
  ix.all fun i => match X.N[i]? with
    | some x => scope.names.lookup x == some .free
    | none => false
structure CompOk (X : Cx) (scope : Scope) (ix : List Nat) : Prop where
  kind : scope.kind = .function
  one : ∀ y ∈ scope.names, scope.names.lookup y.1 = some y.2
  free : ∀ y ∈ scope.names, y.2 = .free → X.env.scope.names.lookup y.1 = some .cell ∨ X.env.scope.names.lookup y.1 = some .free
  loc : ∀ y ∈ scope.names, y.2 = .local → scope.names.lookup y.1 = some .local
  ix : ∀ i ∈ ix, ∃ x, X.N[i]? = some x ∧ scope.names.lookup x = some .free
theorem compOk.of {X : Cx} {scope : Scope} {ix : List Nat} (h : compOk X scope ix = true) : CompOk X scope ix := by
  unfold compOk at h
  rw [Bool.and_eq_true, Bool.and_eq_true] at h
  obtain ⟨⟨h1, h2⟩, h3⟩ := h
  rw [List.all_eq_true] at h2 h3
  have g : ∀ y ∈ scope.names, (scope.names.lookup y.1 = some y.2 ∧ (y.2 = .free → X.env.scope.names.lookup y.1 = some .cell ∨ X.env.scope.names.lookup y.1 = some .free)) ∧ (y.2 = .local → scope.names.lookup y.1 = some .local) := fun y hy => by
    have q := h2 y hy
    rw [Bool.and_eq_true, Bool.and_eq_true, Bool.or_eq_true, Bool.or_eq_true, Bool.or_eq_true] at q
    obtain ⟨⟨q1, q2⟩, q3⟩ := q
    refine ⟨⟨by simpa using q1, fun e => ?_⟩, fun e => ?_⟩
    · rcases q2 with q2 | q2 | q2
      · exact absurd e (by simpa using q2)
      · exact .inl (by simpa using q2)
      · exact .inr (by simpa using q2)
    · rcases q3 with q3 | q3
      · exact absurd e (by simpa using q3)
      · simpa using q3
  refine ⟨by simpa using h1, fun y hy => (g y hy).1.1, fun y hy => (g y hy).1.2, fun y hy => (g y hy).2, fun i hi => ?_⟩
  have q := h3 i hi
  cases e : X.N[i]? with
  | none => rw [e] at q; cases q
  | some x => rw [e] at q; exact ⟨x, rfl, by simpa using q⟩
section
variable {X : Cx} {pins : List (Addr × Obj)} {σ : St} {H : Hp} {s : Shared} {scope : Scope} {tn : List Str} {ix : List Nat} {cl : List (Str × Addr)} {C D : Addr} {fp : List Addr} {h₁ : Heap} {tk : Nat}
theorem Inv.block (S : CompOk X scope ix) (I : Inv X pins σ H s) (hcl0 : ∀ x c, cl.lookup x = some c → (X.env.cells.lookup x = some c ∧ scope.names.lookup x ≠ some .cell) ∨ (scope.names.lookup x = some .cell ∧ s.heap.objs.size ≤ c ∧ c ≠ D ∧ h₁.IsCell c none))
    (hinj : ∀ x y c, cl.lookup x = some c → cl.lookup y = some c → scope.names.lookup x = some .cell → scope.names.lookup y = some .cell → x = y) (hcl3 : ∀ x, scope.names.lookup x = some .cell → ∃ c, cl.lookup x = some c) (hcl2 : ∀ x ∈ scope.names, x.2 = .free → ∃ c, cl.lookup x.1 = some c)
    (hfp : ∀ b ∈ fp, FpOk X pins H b) (hfo : ∀ b ∈ fp, ∃ o, s.heap.get? b = some o) (old : ∀ b o, s.heap.get? b = some o → h₁.get? b = some o) (hD : s.heap.objs.size ≤ D) (hC : s.heap.objs.size ≤ C) (hDC : D ≠ C)
    (hd : h₁.get? D = some { cls := .type "list", data := .seq ([] : List Value).toArray }) (hn : ∃ m, h₁.Ns C m) :
    Inv (X.comp scope tn ix cl C s H fp) [] (blockSt tn ix σ) (upd H D (.lst [])) { s with heap := h₁, toks := tk } := by
  have frD : H D = none := I.hok.fresh hD
  have frC : H C = none := I.hok.fresh hC
  have lt_of : ∀ x c, X.env.cells.lookup x = some c → c < s.heap.objs.size := fun x c e => by
    obtain ⟨v, q⟩ := I.cell x c e
    exact q.lt
  have hcl : ∀ x c, scope.names.lookup x = some .free → cl.lookup x = some c → X.env.cells.lookup x = some c := fun x c hx e => by
    rcases hcl0 x c e with z | z
    · exact z.1
    · rw [hx] at z; cases z.1
  have ok : (X.comp scope tn ix cl C s H fp).Ok := by
    refine ⟨I.ok.mod, S.kind, I.ok.glob, I.ok.blt, hC, fun x y c h1 h2 => ?_, fun x hx => ?_, fun x c h e => ?_, I.ok.hd, I.ok.frames, .inl rfl, fun b hb => ⟨?_, fun x c e => ?_⟩, I.bs,
      Nat.le_trans I.ok.bsz I.sz, fun b o e hb => ?_, fun b hb hf => ?_, I.stack, I.stkFree⟩
    · rcases hcl0 x c h1 with z1 | z1 <;> rcases hcl0 y c h2 with z2 | z2
      · exact I.ok.inj x y c z1.1 z2.1
      · exact absurd (lt_of x c z1.1) (Nat.not_lt.mpr z2.2.1)
      · exact absurd (lt_of y c z2.1) (Nat.not_lt.mpr z1.2.1)
      · exact hinj x y c h1 h2 z1.1 z2.1
    · -- a cell or a free name of the block has its cell
      have hx' : (scope.names.map fun (n, k) => if (k == NameKind.free && X.env.scope.kind == .function && X.env.kindOf n == some .cell) then (n, NameKind.cell) else (n, k)).lookup x = some .cell ∨
          (scope.names.map fun (n, k) => if (k == NameKind.free && X.env.scope.kind == .function && X.env.kindOf n == some .cell) then (n, NameKind.cell) else (n, k)).lookup x = some .free := hx
      have hm : ∃ k, (x, k) ∈ (scope.names.map fun (n, k) => if (k == NameKind.free && X.env.scope.kind == .function && X.env.kindOf n == some .cell) then (n, NameKind.cell) else (n, k)) ∧ (k = .cell ∨ k = .free) := by
        rcases hx' with h | h
        · exact ⟨_, PySem.mem_of_lookup h, .inl rfl⟩
        · exact ⟨_, PySem.mem_of_lookup h, .inr rfl⟩
      obtain ⟨k, hm, hk⟩ := hm
      obtain ⟨⟨n, k'⟩, hy, e⟩ := List.mem_map.mp hm
      dsimp only at e
      by_cases hc : (k' == NameKind.free && X.env.scope.kind == .function && X.env.kindOf n == some .cell) = true
      · rw [if_pos hc] at e
        cases e
        rw [Bool.and_eq_true, Bool.and_eq_true] at hc
        exact hcl2 _ hy (by simpa using hc.1.1)
      · rw [if_neg hc] at e
        cases e
        rcases hk with hk | hk
        · exact hcl3 _ (by rw [← hk]; exact S.one _ hy)
        · exact hcl2 _ hy hk
    · rcases hcl0 x c e with z | z
      · have h : (scope.names.lookup x == some NameKind.cell) = true := h
        exact absurd (by simpa using h) z.2
      · exact z.2.1
    · intro z
      obtain ⟨o, e⟩ := hfo b hb
      exact absurd (Nat.lt_of_lt_of_le (Heap.lt_size e) (by show s.heap.objs.size ≤ b; rw [z]; exact hC)) (Nat.lt_irrefl _)
    · rcases hcl0 x c e with z | z
      · exact (hfp b hb).2.2.2.2.1 x c z.1
      · intro y
        obtain ⟨o, e'⟩ := hfo b hb
        have q := Heap.lt_size e'
        rw [← y] at q
        exact absurd q (Nat.not_lt.mpr z.2.1)
    · rcases (hfp b hb).2.2.2.1 with z | z
      · exact I.ok.noex b o e z
      · exact absurd (Nat.lt_of_lt_of_le (Heap.lt_size (I.ok.bs b o e).1) z) (Nat.lt_irrefl _)
    · rcases List.mem_cons.mp (I.stkSub b hf) with z | z
      · exact (hfp b hb).2.1 z
      · exact (hfp b hb).2.2.1 z
  refine ⟨ok, rfl, I.bare, Un.laid old hD frD, ?_, fun x c e => ?_, ?_, fun x c e => ?_, fun p hp => absurd (show p ∈ ([] : List (Addr × Obj)) from hp) (by simp), ?_, ?_⟩
  · obtain ⟨m, hn⟩ := hn
    refine ⟨m, hn, fun i x v e1 e2 e3 => ?_⟩
    have hi : tn.length ≤ i := by
      rcases Nat.lt_or_ge i tn.length with hi | hi
      · have e2' : (List.replicate tn.length none ++ ix.map fun i => (σ[i]?).join)[i]? = some (some v) := e2
        rw [List.getElem?_append_left (by simpa using hi), List.getElem?_replicate, if_pos hi] at e2'
        cases e2'
      · exact hi
    have e1' : (tn ++ ix.map fun i => X.N.getD i Str.empty)[i]? = some x := e1
    have e2' : (List.replicate tn.length none ++ ix.map fun i => (σ[i]?).join)[i]? = some (some v) := e2
    rw [List.getElem?_append_right hi, List.getElem?_map] at e1'
    rw [List.getElem?_append_right (by simpa using hi), List.getElem?_map, List.length_replicate] at e2'
    cases ek : ix[i - tn.length]? with
    | none => rw [ek] at e1'; cases e1'
    | some k =>
      rw [ek] at e1' e2'
      have e1'' : X.N.getD k Str.empty = x := Option.some.inj e1'
      have e2'' : (σ[k]?).join = some v := Option.some.inj e2'
      have e2s : σ[k]? = some (some v) := by
        cases q : σ[k]? with
        | none => rw [q] at e2''; cases e2''
        | some o => rw [q] at e2''; have : o = some v := e2''; rw [this]
      obtain ⟨x', hx', hfx⟩ := S.ix k (List.mem_of_getElem? ek)
      have exx : x' = x := by
        rw [← e1'', List.getD_eq_getElem?_getD, hx']
        rfl
      subst exx
      have hfr := S.free _ (PySem.mem_of_lookup hfx) rfl
      obtain ⟨m0, hn0, hl0⟩ := I.loc
      obtain ⟨u, ru, lk⟩ := hl0 k x' v hx' e2s (.inr hfr)
      refine ⟨u, ru, ?_⟩
      rcases lk with ⟨kl, _⟩ | ⟨kc, c, ec, ic⟩
      · exfalso
        have kl' : X.env.scope.names.lookup x' = some .local := kl
        rcases hfr with z | z <;> rw [z] at kl' <;> cases kl'
      · obtain ⟨c', ec'⟩ := hcl2 _ (PySem.mem_of_lookup hfx) rfl
        have ecc : c' = c := by
          have q := hcl x' c' hfx ec'
          rw [ec] at q
          exact (Option.some.inj q).symm
        subst ecc
        refine .inr ⟨lookup_relabel_free hfx, c', ec', ?_⟩
        obtain ⟨o, ho, hdat⟩ := ic
        exact ⟨o, old _ _ ho, hdat⟩
  · rcases hcl0 x c e with z | z
    · obtain ⟨v, o, ho, hdat⟩ := I.cell x c z.1
      exact ⟨v, o, old _ _ ho, hdat⟩
    · exact ⟨_, z.2.2.2⟩
  · show upd H D (.lst []) C = none
    rw [upd_ne (Ne.symm hDC)]
    exact frC
  · show upd H D (.lst []) c = none
    rcases hcl0 x c e with z | z
    · rw [upd_ne (Nat.ne_of_lt (Nat.lt_of_lt_of_le (lt_of x c z.1) hD))]
      exact I.freeC x c z.1
    · rw [upd_ne z.2.2.1]
      exact I.hok.fresh z.2.1
  · exact I.hok.laid old hD ⟨Nat.zero_le _, [], 0, .nil, hd⟩
  · show (blockSt tn ix σ).length = (tn ++ ix.map fun i => X.N.getD i Str.empty).length
    unfold blockSt
    rw [List.length_append, List.length_append, List.length_replicate, List.length_map, List.length_map]
end
end L2
namespace L2
open PySem PySem.Spec PyProof.Rows
theorem compLoop_any {prog : Program} {w : World} {A : Around} {R : Result → Shared → Prop} {s : Shared} {elt target iter : Expr} {ifs : List Expr} {scope : Scope} {pos : Pos} {it acc : Value} {env : Env} (I : Nat → Shared → Prop)
    (turn : ∀ n s, I n s → wpAny (model prog w) A (pyNext it) (fun r s₁ => match r with
      | none => R (.ok .next) s₁
      | some v => wpAny (model prog w) A (letOwnedTupleGo target it v) (fun _ s₁' => wpAny (model prog w) A (assign target env v) (fun _ s₂ =>
          wpAny (model prog w) A (forIn ifs true fun c r => if r = true then do let ok ← isTrue c env (eval c env); pure (ForInStep.yield ok) else pure (ForInStep.yield r)) (fun ok s₃ =>
            if ok = true then wpAny (model prog w) A (eval elt env) (fun x s₄ =>
              wpAny (model prog w) A (call (.builtin "list.append") [acc, x]) (fun _ s₅ => ∃ m, m < n ∧ I m s₅) (fun _ _ => False) s₄) (fun _ _ => False) s₃
            else ∃ m, m < n ∧ I m s₃) (fun _ _ => False) s₂) (fun _ _ => False) s₁') (fun _ _ => False) s₁) (fun _ _ => False) s)
    (n : Nat) (h : I n s) :
    codeAny (model prog w) A (.compLoop (.ListComp elt [⟨target, iter, ifs, 0⟩] scope pos) 0 it acc env) R s := by
  refine codeAny_loop rfl I (fun n s hI => ?_) n h
  show wpAny _ A ((compTurn (.ListComp elt [⟨target, iter, ifs, 0⟩] scope pos) 0 it acc env).onRaise (fun x => do noteFrame x env; theTreesLotGoes x)) _ _ s
  refine wpAny_noted ?_
  rw [compTurn_list]
  refine wpAny_bind (wpAny_standAt (wpAny_bind (wpAny_mono (turn n s hI) (fun r s₁ h₁ => ?_) fun _ _ f => f.elim)))
  cases r with
  | none => exact wpAny_pure h₁
  | some v =>
    refine wpAny_bind (wpAny_mono h₁ (fun _ s₁' h₁' => ?_) fun _ _ f => f.elim)
    refine wpAny_bind (wpAny_mono h₁' (fun _ s₂ h₂ => wpAny_bind (wpAny_mono h₂ (fun ok s₃ h₃ => ?_) fun _ _ f => f.elim)) fun _ _ f => f.elim)
    cases ok with
    | false => exact wpAny_pure ⟨rfl, h₃⟩
    | true =>
      exact wpAny_bind (wpAny_bind (wpAny_mono h₃ (fun x s₄ h₄ => wpAny_bind (wpAny_mono h₄ (fun _ s₅ h₅ => wpAny_pure (wpAny_pure ⟨rfl, h₅⟩)) fun _ _ f => f.elim)) fun _ _ f => f.elim))
section
variable {X : Cx} {pins : List (Addr × Obj)} {σ : St} {H : Hp} {s : Shared} {scope : Scope} {tn : List Str} {ix : List Nat} {elt tg iter : Expr} {ifs : List Expr} {pos : Pos} {wi : TI} {g : TG} {tt : TT} {te : TE} {Q : VK}
theorem cells_app {c0 : List (Str × Addr)} : ∀ {l : List (Str × NameKind)} {n : Nat} {acc : List (Str × Addr)}, cellsFrom n l (acc ++ c0) = cellsFrom n l acc ++ c0
  | [], n, acc => rfl
  | (y, k) :: l, n, acc => by
    unfold cellsFrom
    by_cases hk : (k == .cell) = true
    · rw [if_pos hk, if_pos hk]
      exact cells_app (l := l) (n := n + 1) (acc := (y, n) :: acc)
    · rw [if_neg hk, if_neg hk]
      exact cells_app (l := l)
theorem cells_mem {x : Str} {c : Addr} : ∀ {l : List (Str × NameKind)} {n : Nat} {acc : List (Str × Addr)}, (x, c) ∈ cellsFrom n l acc → (x, c) ∈ acc ∨ (x, NameKind.cell) ∈ l
  | [], n, acc, h => .inl h
  | (y, k) :: l, n, acc, h => by
    unfold cellsFrom at h
    by_cases hk : (k == .cell) = true
    · rw [if_pos hk] at h
      rcases cells_mem (l := l) h with z | z
      · rcases List.mem_cons.mp z with e | z
        · cases e
          exact .inr (by rw [show k = NameKind.cell by simpa using hk]; exact List.mem_cons_self)
        · exact .inl z
      · exact .inr (List.mem_cons_of_mem _ z)
    · rw [if_neg hk] at h
      rcases cells_mem (l := l) h with z | z
      · exact .inl z
      · exact .inr (List.mem_cons_of_mem _ z)
theorem apart_inj {x y : Str} {c : Addr} : ∀ {cs : List (Str × Addr)}, cs.Pairwise (fun x y => x.2 ≠ y.2) → (x, c) ∈ cs → (y, c) ∈ cs → x = y
  | [], _, h, _ => nomatch h
  | z :: cs, h, h1, h2 => by
    obtain ⟨h3, h4⟩ := List.pairwise_cons.mp h
    rcases List.mem_cons.mp h1 with e1 | e1
    · rcases List.mem_cons.mp h2 with e2 | e2
      · rw [← e1] at e2; cases e2; rfl
      · rw [← e1] at h3; exact (h3 (y, c) e2 rfl).elim
    · rcases List.mem_cons.mp h2 with e2 | e2
      · rw [← e2] at h3; exact (h3 (x, c) e1 rfl).elim
      · exact apart_inj h4 e1 e2
theorem env_cells {M : Model} {A : Around} {E : Value → Shared → Prop} {s : Shared} {scope : Scope} {globals : Addr} {cl : List (Str × Addr)} {qual : Str} {env : Env} {Q : Env → Shared → Prop}
    (h : Q (newEnv scope s.heap.objs.size globals (cellsFrom (s.heap.objs.size + 1) scope.names cl) qual none .none (some env) builtinsNs) { s with heap := pushCells (s.heap.push { cls := .type "dict", data := .dict #[] }) scope.names }) :
    wpAny M A (newFunctionEnv scope globals cl [] qual none .none (some env)) Q E s := by
  simp only [newFunctionEnv, Option.isSome_some, if_true]
  refine wpAny_bind (wpAny_alloc (wpAny_bind (wpAny_layCells _ (fun name kind cells => by cases hkc : kind == NameKind.cell <;> simp [hkc]) _ _ _ _ ?_)))
  rw [show ({ s with heap := s.heap.push { cls := .type "dict", data := .dict #[] } } : Shared).heap.objs.size = s.heap.objs.size + 1 from Heap.size_push ..]
  exact wpAny_bind (wpAny_pure (wpAny_pure h))
theorem comp_core (S : CompOk X scope ix) (hc : X.calm = true) (hi : PI X tg iter wi)
    (hg : ∀ cl C s₂ H₂ fp, PG (X.comp scope tn ix cl C s₂ H₂ fp) tg g) (ht : ∀ cl C s₂ H₂ fp, PIfs (X.comp scope tn ix cl C s₂ H₂ fp) ifs tt) (he : ∀ cl C s₂ H₂ fp, PE (X.comp scope tn ix cl C s₂ H₂ fp) elt te)
    {P : Value → Addr → Result → Shared → Prop} (I : Inv X pins σ H s) (h : tComp tn ix wi g tt te σ H Q)
    (hP : ∀ D C s' H', Inv X pins σ H' s' → (∃ m, s'.heap.Ns C m) → FpOk X pins H' C → Q (.ref D) H' → P (.ref D) C (.ok .next) s') :
    ∃ cl, closureFor scope X.env = pure cl ∧ wpAny (model X.prog X.w) X.A (eval iter X.env) (fun x s₁ => wpAny (model X.prog X.w) X.A (pyIter x) (fun it s₂ => wpAny (model X.prog X.w) X.A (newList []) (fun acc s₃ =>
      wpAny (model X.prog X.w) X.A (newFunctionEnv scope X.env.globals cl [] X.env.qual none .none (some X.env)) (fun cenv s₄ =>
        codeAny (model X.prog X.w) X.A (.compStart (.ListComp elt [⟨tg, iter, ifs, 0⟩] scope pos) 0 it acc { cenv with scope := relabel scope X.env }) (P acc cenv.locals) s₄) X.xe s₃) X.xe s₂) X.xe s₁) X.xe s := by
  obtain ⟨cl, hcl, hc1, hc2⟩ := closureFor_ok (scope := scope) (env := X.env) fun x hx hf => I.ok.has x.1 (S.free x hx hf)
  refine ⟨cl, hcl, thn (hi pins s σ H _ I h) fun v s1 h1 => thn h1 fun itv s2 h2 => ?_⟩
  obtain ⟨it, fp, tnn, J, H2, e, I2, T, st2, f2, R⟩ := h2
  subst e
  refine wpAny_newObj_type (env_cells ?_)
  dsimp only
  generalize hHH : s2.heap.push { cls := .type "list", dict := none, data := .seq ([] : List Value).toArray } = HH
  have hCs : HH.objs.size = s2.heap.objs.size + 1 := by rw [← hHH, Heap.size_push]
  have hDC : s2.heap.objs.size ≠ HH.objs.size := by rw [hCs]; exact Nat.ne_of_lt (Nat.lt_succ_self _)
  have hCle : s2.heap.objs.size ≤ HH.objs.size := by rw [hCs]; exact Nat.le_succ _
  have oldH : ∀ b o, HH.get? b = some o → (pushCells (HH.push { cls := .type "dict", data := .dict #[] }) scope.names).get? b = some o := fun b o e => pushCells_keeps _ _ b o (Heap.get?_push_of_some _ e)
  have hns₁ : (pushCells (HH.push { cls := .type "dict", data := .dict #[] }) scope.names).Ns HH.objs.size (fun _ => none) := (Heap.Ns.new HH (.type "dict")).keeps (pushCells_keeps _ _)
  have okc := cellsFrom_ok scope.names (HH.push { cls := .type "dict", data := .dict #[] }) (HH.objs.size + 1) [] ⟨fun _ _ hm => (nomatch hm), List.Pairwise.nil⟩ (by rw [Heap.size_push]; exact Nat.le_refl _)
  rw [Heap.size_push] at okc
  have eCL : cellsFrom (HH.objs.size + 1) scope.names cl = cellsFrom (HH.objs.size + 1) scope.names [] ++ cl := cells_app (acc := [])
  have spl : ∀ x c, (cellsFrom (HH.objs.size + 1) scope.names cl).lookup x = some c → (scope.names.lookup x = some .cell ∧ (x, c) ∈ cellsFrom (HH.objs.size + 1) scope.names []) ∨ (cl.lookup x = some c ∧ scope.names.lookup x ≠ some .cell) := fun x c e => by
    rw [eCL, List.lookup_append] at e
    cases q : (cellsFrom (HH.objs.size + 1) scope.names []).lookup x with
    | none =>
      rw [q] at e
      refine .inr ⟨e, fun z => ?_⟩
      have := PySem.W.cellsFrom_some scope.names (HH.objs.size + 1) [] (.inl z)
      rw [q] at this
      cases this
    | some d =>
      rw [q] at e
      have e : some d = some c := e
      cases e
      have m := PySem.mem_of_lookup q
      rcases cells_mem m with z | z
      · nomatch z
      · exact .inl ⟨S.one _ z, m⟩
  have has : ∀ x, scope.names.lookup x = some .cell ∨ (cl.lookup x).isSome = true → ∃ c, (cellsFrom (HH.objs.size + 1) scope.names cl).lookup x = some c := fun x z => Option.isSome_iff_exists.mp (PySem.W.cellsFrom_some scope.names (HH.objs.size + 1) cl z)
  generalize hCL : cellsFrom (HH.objs.size + 1) scope.names cl = CL at spl has ⊢
  generalize hh1 : pushCells (HH.push { cls := .type "dict", data := .dict #[] }) scope.names = h₁ at oldH hns₁ okc ⊢
  have old : ∀ b o, s2.heap.get? b = some o → h₁.get? b = some o := fun b o e => oldH b o (hHH ▸ Heap.get?_push_of_some _ e)
  have hacc : h₁.get? s2.heap.objs.size = some { cls := .type "list", data := .seq ([] : List Value).toArray } := oldH _ _ (hHH ▸ Heap.get?_push_size _ rfl)
  have hfo : ∀ b ∈ fp, ∃ o, s2.heap.get? b = some o := fun b hb => let ⟨o, e, _⟩ := T.obj _ _ st2 b hb; ⟨o, e⟩
  obtain ⟨W, ⟨m0, w0⟩, turn⟩ := R s2.heap.objs.size (I2.hok.fresh (Nat.le_refl _))
  have hcl0 : ∀ x c, CL.lookup x = some c → (X.env.cells.lookup x = some c ∧ scope.names.lookup x ≠ some .cell) ∨ (scope.names.lookup x = some .cell ∧ s2.heap.objs.size ≤ c ∧ c ≠ s2.heap.objs.size ∧ h₁.IsCell c none) := fun x c e => by
    rcases spl x c e with ⟨z, m⟩ | ⟨z, m⟩
    · obtain ⟨q1, q2⟩ := okc.empty x c m
      rw [hCs] at q2
      exact .inr ⟨z, by omega, fun y => by rw [y] at q2; omega, q1⟩
    · exact .inl ⟨hc1 x c z, m⟩
  have J0 : Inv (X.comp scope tn ix CL HH.objs.size s2 H2 fp) [] (blockSt tn ix σ) (upd H2 s2.heap.objs.size (.lst [])) { s2 with heap := h₁, toks := s2.toks } :=
    Inv.block S I2 hcl0 (fun x y c e1 e2 k1 k2 => by
      rcases spl x c e1 with ⟨_, m1⟩ | ⟨_, m1⟩
      · rcases spl y c e2 with ⟨_, m2⟩ | ⟨_, m2⟩
        · exact apart_inj okc.apart m1 m2
        · exact absurd k2 m2
      · exact absurd k1 m1) (fun x z => has x (.inl z)) (fun x hx hf => by
      obtain ⟨c, e⟩ := hc2 x hx hf
      exact has x.1 (.inr (by rw [e]; rfl))) f2 hfo old (Nat.le_refl _) hCle hDC hacc ⟨_, hns₁⟩
  have stat : ∀ {H' : Hp}, (∀ b ∈ fp, H' b = none) → ∀ b ∈ fp, FpOk (X.comp scope tn ix CL HH.objs.size s2 H2 fp) [] H' b := fun hn b hb => by
    refine ⟨hn b hb, fun z => ?_, fun z => ?_, .inl hb, fun x c e => ?_, fun p hp => absurd (show p ∈ ([] : List (Addr × Obj)) from hp) (by simp)⟩
    · obtain ⟨o, e⟩ := hfo b hb
      exact absurd (Nat.lt_of_lt_of_le (Heap.lt_size e) (by show s2.heap.objs.size ≤ b; rw [z]; exact hCle)) (Nat.lt_irrefl _)
    · rcases List.mem_cons.mp (I2.stkSub b z) with z | z
      · exact (f2 b hb).2.1 z
      · exact (f2 b hb).2.2.1 z
    · rcases hcl0 x c e with z | z
      · exact (f2 b hb).2.2.2.2.1 x c z.1
      · intro y
        obtain ⟨o, e'⟩ := hfo b hb
        have q := Heap.lt_size e'
        rw [← y] at q
        exact absurd q (Nat.not_lt.mpr z.2.1)
  have fp0 : ∀ b ∈ fp, upd H2 s2.heap.objs.size (.lst []) b = none := fun b hb => by
    obtain ⟨o, e⟩ := hfo b hb
    rw [upd_ne (Nat.ne_of_lt (Heap.lt_size e))]
    exact (f2 b hb).1
  have st1 : tnn 0 h₁ := T.keep _ _ _ st2 fun b hb o e => old b o e
  have loop : ∀ s₃ : Shared, s₃ = { s2 with heap := h₁, toks := s2.toks } →
      codeAny (model X.prog X.w) X.A (.compLoop (.ListComp elt [⟨tg, iter, ifs, 0⟩] scope pos) 0 (.ref it) (.ref s2.heap.objs.size) (compEnvC scope CL HH.objs.size X.env)) (P (.ref s2.heap.objs.size) HH.objs.size) s₃ := by
    rintro s₃ rfl
    refine compLoop_any (fun n s' => ∃ i σ' acc H', Inv (X.comp scope tn ix CL HH.objs.size s2 H2 fp) [] σ' H' s' ∧ tnn i s'.heap ∧ (∀ b ∈ fp, H' b = none) ∧ W i n σ' acc H') ?_ m0 ⟨0, _, [], _, J0, st1, fp0, w0⟩
    rintro n s3 ⟨i, σ3, acc, H3, I3, st3, fr3, w3⟩
    obtain ⟨hD3, ways⟩ := turn i n σ3 acc H3 w3
    rcases ways with ⟨stop, qn⟩ | ⟨go, hsz, step⟩
    · refine thn (T.done (X.comp scope tn ix CL HH.objs.size s2 H2 fp) rfl rfl rfl hc i [] s3 σ3 H3 _ I3 (stat fr3) st3 stop) fun r s4 hq__ => ?_
      obtain ⟨hr, I4⟩ := hq__
      subst hr
      have I5 : Inv X pins σ H3 s4 := I2.call' I4.os I4.base I4.hok I4.bare fun b hb => ⟨(f2 b hb).2.2.2.1, (f2 b hb).2.1, (f2 b hb).2.2.2.2.1, (f2 b hb).2.2.2.2.2⟩
      obtain ⟨m4, hn4, _⟩ := I4.loc
      exact hP _ _ s4 H3 I5 ⟨m4, hn4⟩ (I2.fpOk hCle I4.free) qn
    · refine thn (T.item (X.comp scope tn ix CL HH.objs.size s2 H2 fp) rfl rfl rfl hc i [] s3 σ3 H3 _ I3 (stat fr3) st3 go) fun r s4 hq__ => ?_
      obtain ⟨u, hr, h4⟩ := hq__
      subst hr
      refine thn h4 fun _ s5 hq__ => ?_
      obtain ⟨x, H5, I5, r5, y5, st5, fr5⟩ := hq__
      have I5' := I5.pinned (stat fr5) (T.obj _ _ st5)
      have back : ∀ {σ7 : St} {H7 : Hp} {s7 : Shared}, Inv (X.comp scope tn ix CL HH.objs.size s2 H2 fp) ([] ++ pinsAt fp s5.heap) σ7 H7 s7 → Inv (X.comp scope tn ix CL HH.objs.size s2 H2 fp) [] σ7 H7 s7 ∧ tnn (i + 1) s7.heap ∧ ∀ b ∈ fp, H7 b = none := fun {σ7 H7 s7} I7 => by
        refine ⟨I7.unpinned, T.keep _ _ _ st5 fun b hb o e => (I7.pin (b, o) (List.mem_append_right _ (List.mem_append_right _ (mem_pinsAt hb e)))).1, fun b hb => ?_⟩
        obtain ⟨o, e, d⟩ := T.obj _ _ st5 b hb
        exact (I7.pin (b, o) (List.mem_append_right _ (List.mem_append_right _ (mem_pinsAt hb e)))).2.1
      refine thn (hg CL HH.objs.size s2 H2 fp _ s5 σ3 H5 x u _ I5' r5 (step x H5 y5)) fun _ s6 hq__ => ?_
      obtain ⟨σ6, H6, I6, q6⟩ := hq__
      refine thn (ht CL HH.objs.size s2 H2 fp _ s6 σ6 H6 _ I6 q6) fun ok s7 hq__ => ?_
      obtain ⟨H7, I7, q7⟩ := hq__
      cases ok with
      | false =>
        rw [if_neg Bool.false_ne_true] at q7 ⊢
        obtain ⟨m', hm, w7⟩ := q7
        obtain ⟨b1, b2, b3⟩ := back I7
        exact ⟨m', hm, i + 1, σ6, acc, H7, b1, b2, b3, w7⟩
      | true =>
        rw [if_pos rfl] at q7 ⊢
        refine thn (he CL HH.objs.size s2 H2 fp _ s7 σ6 H7 _ I7 q7) fun xv s8 hq__ => ?_
        obtain ⟨v8, H8, I8, r8, hD8, m', hm, w8⟩ := hq__
        refine thn (mt_append _ s8 σ6 H8 (.ref s2.heap.objs.size) [v8] (.ref s2.heap.objs.size) [xv] (fun _ H9 => H9 = upd H8 s2.heap.objs.size (.lst (acc ++ [v8]))) I8 rfl (.cons r8 .nil) ⟨_, acc, v8, rfl, rfl, hD8, hsz, rfl⟩) fun _ s9 hq__ => ?_
        obtain ⟨_, H9, I9, _, e9⟩ := hq__
        subst e9
        obtain ⟨b1, b2, b3⟩ := back I9
        exact ⟨m', hm, i + 1, σ6, acc ++ [v8], _, b1, b2, b3, w8⟩
  exact codeAny_compStart_list (loop _ rfl) (T.self X.A 0 _ _ _ st1 (loop _ rfl))
theorem pe_comp (S : compOk X scope ix = true) (hc : X.calm = true) (hi : PI X tg iter wi)
    (hg : ∀ cl C s₂ H₂ fp, PG (X.comp scope tn ix cl C s₂ H₂ fp) tg g) (ht : ∀ cl C s₂ H₂ fp, PIfs (X.comp scope tn ix cl C s₂ H₂ fp) ifs tt) (he : ∀ cl C s₂ H₂ fp, PE (X.comp scope tn ix cl C s₂ H₂ fp) elt te)
    (hs : ∀ x, foldedSetIterable iter X.env x = pure x := by intro _; rfl) : PE X (.ListComp elt [⟨tg, iter, ifs, 0⟩] scope pos) (tComp tn ix wi g tt te) := by
  intro pins s σ H Q I h
  obtain ⟨cl, hcl, q⟩ := comp_core (pos := pos) (P := fun acc C => compPost (model X.prog X.w) X.A X.xe none (EP X pins σ Q) acc C) (compOk.of S) hc hi hg ht he I h fun D C s' H' I' ⟨m, hn⟩ f q => by
    refine ⟨m, hn, fun h' sb => ⟨.ref D, H', ?_, rfl, q⟩⟩
    exact I'.turned (it := C) (t' := s'.toks) (fun b o hb e => sb.extBut b o hb e) f.1 f.2.1 f.2.2.2.1 f.2.2.2.2.1 f.2.2.2.2.2
  rw [eval_ListComp]
  exact wpAny_comprehension_free (use := none) rfl hs hcl (compOk.of S).kind (compOk.of S).loc q
theorem ps_setC {i : Nat} {y : Str} {py spos : Pos} (hN : X.N.Nodup) (hiN : X.N[i]? = some y) (hy : Loc X.env.scope y) (S : compOk X scope ix = true) (hc : X.calm = true) (hi : PI X tg iter wi)
    (hg : ∀ cl C s₂ H₂ fp, PG (X.comp scope tn ix cl C s₂ H₂ fp) tg g) (ht : ∀ cl C s₂ H₂ fp, PIfs (X.comp scope tn ix cl C s₂ H₂ fp) ifs tt) (he : ∀ cl C s₂ H₂ fp, PE (X.comp scope tn ix cl C s₂ H₂ fp) elt te)
    (hsw : swapsWith (.ListComp elt [⟨tg, iter, ifs, 0⟩] scope pos) (some (.Name y py)) spos.line X.env = pure true := by rfl)
    (hf : X.fn y = true ∨ X.env.scope.names.lookup y = some .local := by first | exact .inl rfl | exact .inr rfl | assumption)
    (hs : ∀ x, foldedSetIterable iter X.env x = pure x := by intro _; rfl) : PS X (.Assign [.Name y py] (.ListComp elt [⟨tg, iter, ifs, 0⟩] scope pos) spos) (tAsg (tComp tn ix wi g tt te) (gName i)) := by
  intro pins s σ H E I h
  rw [exec_Assign_Name_used _ _ _ _ hsw]
  refine wpAny_bind (wpAny_standAt (wpAny_bind ?_))
  show wpAny _ X.A (do let _ ← comprehension (.ListComp elt [⟨tg, iter, ifs, 0⟩] scope pos) scope X.env _ (newList []) false (eval iter X.env) (some (assign (.Name y py) X.env))) _ _ s
  obtain ⟨cl, hcl, q⟩ := comp_core (pos := pos) (P := fun acc C => compPost (model X.prog X.w) X.A X.xe (some (assign (.Name y py) X.env)) (fun _ s' => SP X pins E .next s') acc C) (compOk.of S) hc hi hg ht he I h fun D C s' H' I' ⟨m, hn⟩ f q => by
    show wpAny _ X.A (assign (.Name y py) X.env (.ref D)) _ _ _
    refine wpAny_assign_Name (store_ok2 (v := .ref D) I' hN hiN hy rfl (fun s2 I2 hq__ => ?_) hf)
    obtain ⟨a, sb, ha⟩ := hq__
    have hCa : C ≠ a := by
      rcases ha with ha | ha
      · rw [ha]; exact f.2.1
      · exact fun z => f.2.2.2.2.1 y a ha z.symm
    refine ⟨m, hn.sameBut sb hCa, fun h' sb' => ⟨_, H', ?_, q⟩⟩
    exact I2.turned (it := C) (t' := s2.toks) (fun b o hb e => sb'.extBut b o hb e) f.1 f.2.1 f.2.2.2.1 f.2.2.2.2.1 f.2.2.2.2.2
  refine wpAny_bind (wpAny_mono (wpAny_comprehension_free (use := some (assign (.Name y py) X.env)) (Q := fun _ s' => SP X pins E .next s') rfl hs hcl (compOk.of S).kind (compOk.of S).loc q) (fun _ s' hq => wpAny_pure (wpAny_pure hq)) fun _ _ e => e)
end
end L2
namespace L2
open PySem PySem.Spec PyProof.Rows
theorem Same.seqT {K : PySem.W.Frag} {H H' : Hp} {a : Addr} {xs : List V} (e : Same H H') (h : SqT K H a xs) : SqT K H' a xs := by
  rcases h with (h | ⟨o, h⟩) | h
  · exact .inl (.inl (e _ _ h))
  · exact .inl (.inr ⟨o, e _ _ h⟩)
  · exact .inr h
theorem Same.new {H : Hp} {p : Addr} (h : H p = none) (o : HO) : Same H (upd H p o) := fun b u q => by rw [upd_ne (ne_of_none q h)]; exact q
theorem Same.up {H H' : Hp} {p : Addr} {o : HO} (s : Same H H') (h : H p = none) : Same H (upd H' p o) := fun b u q => by rw [upd_ne (ne_of_none q h)]; exact s b u q
mutual
noncomputable def Is (K : PySem.W.Frag) (H : Hp) : PyData → V → Prop
  | .none, v => v = .non
  | .bool b, v => v = .bl b
  | .int i, v => v = .int i
  | .str x, v => v = .str x
  | .list ds, v => ∃ a vs, v = .ref a ∧ SqL K H a vs ∧ IsAll K H ds vs
  | .tuple ds, v => ∃ a vs, v = .ref a ∧ SqT K H a vs ∧ IsAll K H ds vs
  | .dict _, _ => False
noncomputable def IsAll (K : PySem.W.Frag) (H : Hp) : List PyData → List V → Prop
  | [], vs => vs = []
  | d :: ds, vs => ∃ v r, vs = v :: r ∧ Is K H d v ∧ IsAll K H ds r
end
mutual
theorem Is.mono {K : PySem.W.Frag} {H H' : Hp} (e : Same H H') : ∀ (d : PyData) {v : V}, Is K H d v → Is K H' d v
  | .none, v, h => h
  | .bool _, v, h => h
  | .int _, v, h => h
  | .str _, v, h => h
  | .list ds, v, h => by
    rw [Is] at h ⊢
    obtain ⟨a, vs, h1, h2, h3⟩ := h
    exact ⟨a, vs, h1, e.seq h2, IsAll.mono e ds h3⟩
  | .tuple ds, v, h => by
    rw [Is] at h ⊢
    obtain ⟨a, vs, h1, h2, h3⟩ := h
    exact ⟨a, vs, h1, e.seqT h2, IsAll.mono e ds h3⟩
  | .dict _, v, h => h
theorem IsAll.mono {K : PySem.W.Frag} {H H' : Hp} (e : Same H H') : ∀ (ds : List PyData) {vs : List V}, IsAll K H ds vs → IsAll K H' ds vs
  | [], vs, h => h
  | d :: ds, vs, h => by
    rw [IsAll] at h ⊢
    obtain ⟨v, r, h1, h2, h3⟩ := h
    exact ⟨v, r, h1, Is.mono e d h2, IsAll.mono e ds h3⟩
end
section
variable {X : Cx} {pins : List (Addr × Obj)} {σ : St} {H : Hp} {s : Shared}
mutual
theorem Is.reads (I : Inv X pins σ H s) : ∀ (d : PyData) {v : V} {u : Value}, Is X.K H d v → RelV v u → ∃ as, Reads s.heap u d as
  | .none, v, u, h, r => by
    rw [Is] at h; subst h; cases r; exact ⟨_, .none⟩
  | .bool b, v, u, h, r => by
    rw [Is] at h; subst h; cases r; exact ⟨_, .bool b⟩
  | .int i, v, u, h, r => by
    rw [Is] at h; subst h; obtain ⟨t, rfl⟩ := r; exact ⟨_, .int i t⟩
  | .str x, v, u, h, r => by
    rw [Is] at h; subst h; obtain ⟨t, rfl⟩ := r; exact ⟨_, .str x t⟩
  | .list ds, v, u, h, r => by
    rw [Is] at h
    obtain ⟨a, vs, rfl, h2, h3⟩ := h
    cases r
    obtain ⟨its, rv, ⟨o, n, e, c, _, d⟩, _⟩ := I.list h2
    obtain ⟨as, q⟩ := IsAll.reads I ds h3 rv
    exact ⟨_, .list e c d (by simpa using q)⟩
  | .tuple ds, v, u, h, r => by
    rw [Is] at h
    obtain ⟨a, vs, rfl, h2, h3⟩ := h
    cases r
    obtain ⟨its, rv, ⟨o, e, c, n, d⟩, _⟩ := I.tuple h2
    obtain ⟨as, q⟩ := IsAll.reads I ds h3 rv
    exact ⟨_, .tuple e c d (by simpa using q)⟩
  | .dict _, v, u, h, r => by
    rw [Is] at h; exact h.elim
theorem IsAll.reads (I : Inv X pins σ H s) : ∀ (ds : List PyData) {vs : List V} {us : List Value}, IsAll X.K H ds vs → Vals vs us → ∃ as, ReadsAll s.heap us ds as
  | [], vs, us, h, r => by
    rw [IsAll] at h; subst h; cases r; exact ⟨_, .nil⟩
  | d :: ds, vs, us, h, r => by
    rw [IsAll] at h
    obtain ⟨v, rr, rfl, h2, h3⟩ := h
    cases r with
    | cons r1 r2 =>
      obtain ⟨as, q⟩ := Is.reads I d h2 r1
      obtain ⟨bs, q'⟩ := IsAll.reads I ds h3 r2
      exact ⟨_, .cons q q'⟩
end
end
theorem depth_ints : ∀ ns : List Int, PyData.depthAll (ns.map PyData.int) = 0
  | [] => by rw [List.map_nil, PyData.depthAll]
  | n :: ns => by rw [List.map_cons, PyData.depthAll, PyData.depth, depth_ints ns]; rfl
section
variable {X : Cx}
noncomputable def rEqD (K : PySem.W.Frag) : R2 := fun x y H Q => ∃ d e, Is K H d x ∧ Is K H e y ∧ SeqAt.shaped d = true ∧ SeqAt.shaped e = true ∧ Q (.bl (PyData.eqv d e)) H
noncomputable def rNeD (K : PySem.W.Frag) : R2 := fun x y H Q => ∃ d e, Is K H d x ∧ Is K H e y ∧ SeqAt.shaped d = true ∧ SeqAt.shaped e = true ∧ Q (.bl (!PyData.eqv d e)) H
theorem op_eqD (hu : X.A.units + 64 < cLine) : OpR X (compareOp .Eq) (rEqD X.K) := by
  intro pins s σ H x y v u Q I rx ry h
  obtain ⟨d, e, h1, h2, h3, h4, q⟩ := h
  obtain ⟨as, r1⟩ := Is.reads I d h1 rx
  obtain ⟨bs, r2⟩ := Is.reads I e h2 ry
  exact eq_dataH r1 r2 h3 h4 hu ⟨.bl (PyData.eqv d e), H, I, rfl, q⟩
theorem op_neD (hu : X.A.units + 64 < cLine) : OpR X (compareOp .NotEq) (rNeD X.K) := by
  intro pins s σ H x y v u Q I rx ry h
  obtain ⟨d, e, h1, h2, h3, h4, q⟩ := h
  obtain ⟨as, r1⟩ := Is.reads I d h1 rx
  obtain ⟨bs, r2⟩ := Is.reads I e h2 ry
  exact ne_dataH r1 r2 h3 h4 hu ⟨.bl (!PyData.eqv d e), H, I, rfl, q⟩
end
end L2
namespace L2
end L2
namespace L2
end L2
namespace L2
open PySem PySem.Spec PyProof.Rows
section
variable {X : Cx} {tg : Expr}
end
noncomputable def Ite (K : PySem.W.Frag) (a : Addr) : It :=
  ⟨fun i H => ∃ xs x, SqL K H a xs ∧ xs[i]? = some x, fun i H x H' => ∃ p v, H p = none ∧ x = .ref p ∧ H' = upd H p (.tup [.int (i : Nat), v]) ∧ ∀ xs, SqL K H a xs → xs[i]? = some v, fun i H => ∃ xs, SqL K H a xs ∧ xs.length ≤ i⟩
theorem turn_enum {P : Program} {w : World} {K : PySem.W.Frag} {elts : List Expr} {x1} {tpos : Pos} (a e it : Addr) (hne : e ≠ it) :
    Turn P w K (.Tuple elts x1 tpos) (Ite K a) [e, it] e (fun i h => (∃ old, IsEnum h e it (i : Nat) old) ∧ h.IsListIter it a i) where
  mem := by simp
  obj := fun i h st b hb => by
    obtain ⟨⟨old, he⟩, o, ho, c, d⟩ := st
    have hb' : b = e ∨ b = it := by simpa using hb
    rcases hb' with rfl | rfl
    · exact ⟨_, he, fun v z => by cases z⟩
    · exact ⟨o, ho, fun v z => by rw [d] at z; cases z⟩
  keep := fun i h h' st k => by
    obtain ⟨⟨old, he⟩, hl⟩ := st
    exact ⟨⟨old, k e (by simp) _ he⟩, hl.at fun o q => k it (by simp) o q⟩
  item := by
    intro X hP hw hK hc i pins s σ H E I hf st hg
    subst hP hw hK
    obtain ⟨⟨old, he⟩, hit⟩ := st
    obtain ⟨xs, x, hq, hx⟩ := hg
    obtain ⟨its, rv, p, hz⟩ := I.list hq
    obtain ⟨u, hu, ru⟩ := rv.get hx
    obtain ⟨f0, f1, f2, f3, f4, f5⟩ := hf e (by simp)
    obtain ⟨g0, g1, g2, g3, g4, g5⟩ := hf it (by simp)
    refine wpAny_pyNext_enum_item he hit p.isList (x := u) (by simpa using hu) hne fun h' he' hit' ht' hz' hk' => ?_
    refine ⟨_, rfl, ?_⟩
    refine wpAny_letOwnedTupleGo_enum (s := { s with heap := h', toks := s.toks + 1 }) he' fun h2 he2 sb2 => ?_
    have hnew : H s.heap.objs.size = none := I.hok.fresh (Nat.le_refl _)
    have hpe : s.heap.objs.size ≠ e := Nat.ne_of_gt (Heap.lt_size he)
    have ht2 : h2.get? s.heap.objs.size = some { cls := .type "tuple", data := .seq #[.int (i : Nat) s.toks, u] } := sb2.extBut _ _ hpe ht'
    have k2 : ∀ b o, b ≠ e → b ≠ it → s.heap.get? b = some o → h2.get? b = some o := fun b o b1 b2 q => sb2.extBut b o b1 (hk' b o b1 b2 q)
    have hit2 : h2.IsListIter it a (i + 1) := hit'.extBut sb2.extBut (Ne.symm hne)
    have ge : ∀ b o, H b = some o → b ≠ e ∧ b ≠ it := fun b o q => ⟨fun z => (by rw [z, f0] at q; cases q), fun z => (by rw [z, g0] at q; cases q)⟩
    have un : Un (frs X.stack) [e, it] H (upd H s.heap.objs.size (.tup [.int (i : Nat), x])) s.heap h2 := by
      have nb : ∀ b o, s.heap.get? b = some o → b ≠ s.heap.objs.size := fun b o q => Nat.ne_of_lt (Heap.lt_size q)
      refine ⟨fun b o q n _ hc => ?_, fun b o q n _ hc => ?_, fun b o q n hc => ?_, fun b o q hc => ?_, fun b ys q => ?_, fun b o y q => ?_, fun b ps q => ?_⟩
      · exact k2 b o (fun z => hc (by simp [z])) (fun z => hc (by simp [z])) q
      · exact ⟨o.slots, k2 b o (fun z => hc (by simp [z])) (fun z => hc (by simp [z])) q⟩
      · rw [upd_ne (nb b o q)]; exact n
      · exact ⟨o, k2 b o (fun z => hc (by simp [z])) (fun z => hc (by simp [z])) q⟩
      · rw [upd_ne (ne_of_none q hnew)]; exact q
      · rw [upd_ne (ne_of_none q hnew)]; exact q
      · exact ⟨#[], by rw [upd_ne (ne_of_none q hnew), q]; simp⟩
    have hok : HOk X.prog X.w (upd H s.heap.objs.size (.tup [.int (i : Nat), x])) h2 := fun b o q => by
      by_cases hb : b = s.heap.objs.size
      · subst hb
        rw [upd_same] at q
        cases q
        exact ⟨by show 2 ≤ sizeLine; decide, [.int (i : Nat) s.toks, u], .cons ⟨_, rfl⟩ (.cons ru .nil), ⟨_, ht2, rfl, 0, rfl⟩⟩
      · rw [upd_ne hb] at q
        refine (I.hok b o q).stay (fun c v hc q' => ?_) (fun c q' => by rw [upd_ne (ne_of_none q' hnew)]; exact q') fun c ys q' => by rw [upd_ne (ne_of_none q' hnew)]; exact q'
        rcases hc with rfl | hc
        · exact k2 c v (ge c _ q).1 (ge c _ q).2 q'
        · exact k2 c v (ge c _ hc).1 (ge c _ hc).2 q'
    have I2 : Inv X pins σ (upd H s.heap.objs.size (.tup [.int (i : Nat), x])) { s with heap := h2, toks := s.toks + 1 } :=
      I.call' rfl un hok I.bare fun b hb => by
        have hb' : b = e ∨ b = it := by simpa using hb
        rcases hb' with rfl | rfl
        · exact ⟨f3, f1, f4, f5⟩
        · exact ⟨g3, g1, g4, g5⟩
    refine ⟨.ref s.heap.objs.size, _, I2, rfl, ⟨_, x, hnew, rfl, rfl, fun ys hy => by rw [I.list_inj hy hq]; exact hx⟩, ⟨⟨u, ?_⟩, hit2⟩, fun b hb => ?_⟩
    · have e3 : (((i + 1 : Nat)) : Int) = (i : Int) + 1 := by omega
      rw [e3]
      exact he2
    · have hb' : b = e ∨ b = it := by simpa using hb
      rcases hb' with rfl | rfl
      · rw [upd_ne (Ne.symm hpe)]; exact f0
      · obtain ⟨o, ho, _⟩ := hit
        rw [upd_ne (Nat.ne_of_lt (Heap.lt_size ho))]; exact g0
  done := by
    intro X hP hw hK hc i pins s σ H E I hf st hg
    subst hP hw hK
    obtain ⟨⟨old, he⟩, hit⟩ := st
    obtain ⟨xs, hq, hx⟩ := hg
    obtain ⟨its, rv, p, hz⟩ := I.list hq
    obtain ⟨g0, g1, g2, g3, g4, g5⟩ := hf it (by simp)
    have hl := rv.length
    exact wpAny_pyNext_enum_end (I.ok.hd hc) he hit p.isList (by simp; omega) fun h' eb => ⟨rfl, I.turned (t' := s.toks) (fun b o hb e => eb b o hb e) g0 g1 g3 g4 g5⟩
  self := fun _ _ _ _ _ st h => let ⟨⟨_, he⟩, _⟩ := st; wpAny_pyIter_enum he h
section
variable {X : Cx}
end
section
variable {K : PySem.W.Frag} {tn : List Str} {ix : List Nat} {te : TE} {σ : St} {H1 : Hp} {Q : VK}
end
section
variable {K : PySem.W.Frag} {tn : List Str} {ix : List Nat} {te : TE} {σ : St} {H1 : Hp} {Q : VK}
end
structure At (K : PySem.W.Frag) (mg : Str → Option Value) (x : Str) (st : Stmt) (ps : List Str) : Prop where
  ex : ∃ f fd, Fun K x x st f fd ∧ Binds K fd ps [] ∧ mg x = some (.ref f)
structure Def (P : Program) (w : World) (K : PySem.W.Frag) (mg : Str → Option Value) (base : Heap) (k : Nat) (x : Str) (ps : List Str) (sp : Sp) : Prop where
  ex : ∃ f fd, FnOk P w K mg base CX0 k f fd ps sp ∧ Binds K fd ps [] ∧ PySem.W.keepIn K (.ref f) = true ∧ mg x = some (.ref f)
section
variable {P : Program} {w : World} {K : PySem.W.Frag} {mg : Str → Option Value} {base : Heap}
theorem At.ok {x : Str} {st : Stmt} {N ps : List Str} {k : Nat} {sp : Sp} (F : At K mg x st ps) (S : FnScope N ps (defScope st)) (len : ∀ vs H Q E, sp vs H Q E → vs.length = ps.length)
    (hbody : ∀ (f : Addr) (cdv : Value) (A : Around) (outer : List Env) (s : Shared) (H : Hp) (vs : List V) (Q : VK) (E : XK), Room k (A.deeper (envOfC x (defScope st) s.heap.objs.size f cdv)) → sp vs H Q E →
      ∃ t, PSs (cxOf CX0 P w K mg base N x (defScope st) f cdv A outer s H E).nox (defBody st) t ∧ t { nx := fun _ H' => Q .non H', rt := Q } (start N vs) H) : Def P w K mg base (k + 1) x ps sp := by
  obtain ⟨f, fd, F, b, m⟩ := F.ex
  exact ⟨f, fd, F.ok S len (hbody f), b, F.kp, m⟩
theorem At.mk' {x : Str} {st : Stmt} {ps : List Str} {f : Addr} {oc : Value} {od an : Option Addr} {osl : Array (Option Value)} {kV doc pm cdv ct : Value} (m : mg x = some (.ref f))
    (l : K.lookup f = some ⟨oc, od, .func (PySem.W.fnOf x x (defArgs st) (defBody st) (defScope st) .none kV doc pm an cdv ct), osl⟩) (c : PySem.W.codeIn K cdv x = true) (k : PySem.W.keepIn K (.ref f) = true)
    (h : ∀ (kV doc pm : Value) (an : Option Addr) (cdv ct : Value) (us : List Value), us.length = ps.length → bindArgs (PySem.W.fnOf x x (defArgs st) (defBody st) (defScope st) .none kV doc pm an cdv ct) ⟨us, []⟩ = pure (ps.zip us)) : At K mg x st ps :=
  ⟨f, _, fun_mk l c k, (fun_mk (st := st) l c k).binds h, m⟩
end
section
variable {X : Cx} {k : Nat} {x : Str} {ps : List Str} {sp : Sp} {p pos : Pos} {e : Expr} {es : List Expr} {t : TA}
theorem pe_def (F : Def X.prog X.w X.K X.mg X.base k x ps sp) (hr : Room k X.A) (hg : Gl X x) (ha : PA X (e :: es) t) (hdb : (x == ("__debug__" : Str)) = false := by decide)
    (he : starEach (e :: es) X.env = (false, eval e X.env) :: starEach es X.env := by rfl) (hpl : (backTo pos (starEach es X.env)).any (·.1) = false := by rfl) : PE X (.Call (.Name x p) (e :: es) [] pos) (tCall sp [] E0 t) := by
  obtain ⟨f, fd, F, b, kp, m⟩ := F.ex
  exact pe_call F hr hg m kp b .nil pass0 ha hdb he hpl
end
end L2
namespace L2
open PySem PySem.Spec PyProof.Rows
section
variable {X : Cx} {K : PySem.W.Frag}
end
end L2
namespace L2
open PySem PySem.Spec PyProof.Rows
open Builtin Builtin.Str
section
variable {prog : Program} {w : World} {A : Around} {E : Value → Shared → Prop} {s : Shared}
theorem wpAny_nextOf_tup_item {it l : Addr} {i : Nat} {items} {x : Value} {Q : Value → Shared → Prop} (hit : s.heap.IsTupleIter it l i)
    (hl : s.heap.IsTuple l items) (hx : items[i]? = some x)
    (hQ : ∀ h', h'.IsTupleIter it l (i + 1) → Heap.SameBut it s.heap h' → Q x { s with heap := h' }) :
    wpAny (model prog w) A (Builtin.SmallTypes.nextOf (.ref it)) Q E s := by
  obtain ⟨o, ho, hc, hd⟩ := id hit
  obtain ⟨ol, hol, _, nl, hdl⟩ := hl
  unfold Builtin.SmallTypes.nextOf
  refine wpAny_bind (wpAny_callSpecial?_slot (name := Str.ofString "__next__") hit.typeIs F.slot_tuple_iterator_next
    (wpAny_call_entry F.slot_tuple_iterator_next hit.typeIs F.entry_tuple_iterator_next ?_ (F.args_tuple_iterator_next_1 _)))
  show wpAny _ _ (field (.ref it) 0 >>= _) _ _ s
  refine wpAny_bind (wpAny_field ho hd (x := .ref l) rfl ?_)
  show wpAny _ _ (if (Value.ref l == Value.none) = true then _ else _) _ _ s
  rw [if_neg (show ¬ ((Value.ref l == Value.none) = true) from Bool.false_ne_true)]
  show wpAny _ _ (field (.ref it) 1 >>= _) _ _ s
  refine wpAny_bind (wpAny_field ho hd (x := .int i 0) rfl ?_)
  show wpAny _ _ (seqItems? (.ref l) >>= _) _ _ s
  refine wpAny_bind (wpAny_seqItems hol hdl ?_)
  simp only [Int.toNat_natCast, hx]
  refine wpAny_bind (wpAny_setField ho hd (by simp) (wpAny_pure ⟨x, rfl, wpAny_pure (hQ _ ?_ (Heap.SameBut.update ..))⟩))
  exact ⟨_, Heap.get?_update_self _ ho (Obj.isFreed_of_fields (Obj.data_mapFields hd _)), (Obj.cls_mapFields ..).trans hc, by
    rw [Obj.data_mapFields hd]; simp [rawInt]⟩
theorem wpAny_nextOf_tup_end {it l : Addr} {i : Nat} {items} {Q : Value → Shared → Prop} (hh : A.handled = none)
    (hit : s.heap.IsTupleIter it l i) (hl : s.heap.IsTuple l items) (hx : items[i]? = none)
    (hE : ∀ h' e, Heap.ExtBut it s.heap h' → (∃ o, h'.get? e = some o ∧ o.cls = .type "StopIteration") → E (.ref e) { s with heap := h' }) :
    wpAny (model prog w) A (Builtin.SmallTypes.nextOf (.ref it)) Q E s := by
  obtain ⟨o, ho, hc, hd⟩ := id hit
  obtain ⟨ol, hol, _, nl, hdl⟩ := hl
  unfold Builtin.SmallTypes.nextOf
  refine wpAny_bind (wpAny_callSpecial?_slot (name := Str.ofString "__next__") hit.typeIs F.slot_tuple_iterator_next
    (wpAny_call_entry F.slot_tuple_iterator_next hit.typeIs F.entry_tuple_iterator_next ?_ (F.args_tuple_iterator_next_1 _)))
  show wpAny _ _ (field (.ref it) 0 >>= _) _ _ s
  refine wpAny_bind (wpAny_field ho hd (x := .ref l) rfl ?_)
  show wpAny _ _ (if (Value.ref l == Value.none) = true then _ else _) _ _ s
  rw [if_neg (show ¬ ((Value.ref l == Value.none) = true) from Bool.false_ne_true)]
  show wpAny _ _ (field (.ref it) 1 >>= _) _ _ s
  refine wpAny_bind (wpAny_field ho hd (x := .int i 0) rfl ?_)
  show wpAny _ _ (seqItems? (.ref l) >>= _) _ _ s
  refine wpAny_bind (wpAny_seqItems hol hdl ?_)
  simp only [Int.toNat_natCast, hx]
  refine wpAny_bind (wpAny_rule (wpAny_bind (wpAny_setField ho hd (by simp) ?_)))
  show wpAny _ _ (newExc (.type "StopIteration") [] >>= _) _ _ _
  refine wpAny_bind ?_
  simp only [newExc, newTuple]
  refine wpAny_bind (wpAny_newObj_type ?_ (by size_fits))
  refine wpAny_bind (m := firstArgMember _ _) (wpAny_of_eq (a := Value.none) (by first | rfl | (simp only [firstArgMember]; rfl)) ?_)
  refine wpAny_newObj_type ?_ (by size_fits)
  simp only [raiseNew]
  refine wpAny_bind (wpAny_handled ?_)
  first | rw [show A.in1.handled = none from hh] | rw [hh]
  refine wpAny_bind (wpAny_pure (wpAny_throw ?_))
  exact hE _ _ (((Heap.SameBut.update ..).extBut.push _).push _) ⟨_, Heap.get?_push_size _ rfl, rfl⟩
theorem _root_.PySem.Draws.tuple {prog : Program} {w : World} {A : Around} (hh : A.handled = none) (it l : Addr) (hne : l ≠ it) (items : Array Value) :
    Draws prog w A it [it, l] items.size (fun i v => items[i]? = some v) (fun i h => h.IsTupleIter it l i ∧ h.IsTuple l items) where
  live := fun _ _ st => let ⟨o, ho, _⟩ := st.1; ⟨o, ho⟩
  frame := fun _ _ _ st hk => ⟨st.1.at fun o e => hk it (by simp) o e, let ⟨o, ho, r⟩ := st.2; ⟨o, hk l (by simp) o ho, r⟩⟩
  item := fun i s Q E hi st hQ => by
    refine wpAny_nextOf_tup_item st.1 st.2 (x := items[i]) (by simp [hi]) fun h' hit' hs' => ?_
    exact hQ _ h' s.toks (by simp [hi]) ⟨hit', let ⟨o, ho, r⟩ := st.2; ⟨o, hs'.extBut l o hne ho, r⟩⟩ hs'
  done := fun s Q E st hE => wpAny_nextOf_tup_end hh st.1 st.2 (by simp) hE
theorem wpAny_pyNext_enum_end2 {e it l : Addr} {i : Nat} {items : Array Value} {old : Value} {Q : Option Value → Shared → Prop} (hh : A.in1.handled = none)
    (he : IsEnum s.heap e it i old) (hit : s.heap.IsTupleIter it l i) (hl : s.heap.IsTuple l items) (hx : items[i]? = none)
    (hQ : ∀ h', Heap.ExtBut it s.heap h' → Q none { s with heap := h' }) : wpAny (model prog w) A (pyNext (.ref e)) Q E s := by
  have hT : s.TypeIs (.ref e) "enumerate" := ⟨_, he, rfl⟩
  unfold pyNext
  refine wpAny_bind (wpAny_attempt (wpAny_callSpecial?_slot (name := Str.ofString "__next__") hT F.slot_enumerate_next
    (wpAny_call_entry F.slot_enumerate_next hT F.entry_enumerate_next ?_ (F.args_enumerate_next_1 _))))
  show wpAny _ _ (field (.ref e) 2 >>= _) _ _ _
  refine wpAny_bind (wpAny_field he rfl (x := .ref it) rfl ?_)
  refine wpAny_bind (wpAny_nextOf_tup_end hh hit hl hx fun h' x he' hx' => ?_)
  obtain ⟨o, ho, hc⟩ := hx'
  refine wpAny_bind (wpAny_isInstance (T := "StopIteration") (b := true) ⟨o, ho, hc⟩ isSubtype_stop ?_)
  exact wpAny_pure (hQ _ he')
end
open AutoSeq1 (wpAny_loadPart') in
theorem meets_enumerate_newT (l : Addr) (items : Array Value) (n : Nat) (dct : Option Addr) (sl : Array (Option Value)) :
    Meets (Builtin.«enumerate.__new__» ⟨[.type "enumerate", .ref l], []⟩) (fun _ R s => s.heap.get? l = some { cls := .type "tuple", dict := dct, data := .seq items n, slots := sl } ∧
      R (.ok (.ret (.ref (s.heap.push { cls := .type "tuple_iterator", data := .fields #[.ref l, .int 0 0] }).objs.size)))
        { s with heap := (s.heap.push { cls := .type "tuple_iterator", data := .fields #[.ref l, .int 0 0] }).push { cls := .type "enumerate", data := .fields #[.none, .bool false, .ref s.heap.objs.size, rawInt 0, .none, .none] } }) :=
  .of_wp fun prog w A R s h => by
    obtain ⟨hp, g, d, tk, os⟩ := s; obtain ⟨hl, h⟩ := h
    have hsub := sub_enumerate
    have hL : Heap.IsTuple (Shared.heap ⟨hp, g, d, tk, os⟩) l items := ⟨_, hl, rfl, n, rfl⟩
    wp_walk using wpAny_loadPart' hl
    refine wpAny_stack_any fun st => wpAny_pure ?_
    split
    · rename_i c _ _ _ _ _
      cases (c == Value.type "enumerate")
      · wp_walk using wpAny_loadPart' hl, wpAny_pyIter_tuple hL
        exact ⟨_, rfl, h⟩
      · wp_walk using wpAny_loadPart' hl, wpAny_pyIter_tuple hL
        exact ⟨_, rfl, h⟩
    · wp_walk using wpAny_loadPart' hl, wpAny_pyIter_tuple hL
      exact ⟨_, rfl, h⟩
section
variable {prog : Program} {w : World} {A : Around} {E : Value → Shared → Prop} {s : Shared}
theorem call_enumerate_tup {l : Addr} {items : Array Value} {Q : Value → Shared → Prop} (hL : s.heap.IsTuple l items)
    (h : ∀ h', IsEnum h' (s.heap.objs.size + 1) s.heap.objs.size 0 .none → h'.IsTupleIter s.heap.objs.size l 0 → h'.objs.size = s.heap.objs.size + 2 →
      (∀ b o, s.heap.get? b = some o → h'.get? b = some o) → Q (.ref (s.heap.objs.size + 1)) { s with heap := h' }) :
    wpAny (model prog w) A (call (.type "enumerate") [.ref l]) Q E s := by
  obtain ⟨⟨c, dct, dt, sl⟩, hl, hc, n, hd⟩ := hL
  replace hc : c = .type "tuple" := hc
  replace hd : dt = .seq items n := hd
  subst hc hd
  refine callType_new F.called_enumerate (by decide) (F.typeCall_enumerate_1 _) (F.newCall_enumerate_1 _) (fun obj => F.args_object_init_2 obj _) F.entry_enumerate_new
    (meets_enumerate_newT l items n dct sl) ⟨hl, ?_⟩
  have hz : (s.heap.push { cls := .type "tuple_iterator", data := .fields #[.ref l, .int 0 0] }).objs.size = s.heap.objs.size + 1 := Heap.size_push ..
  show _ ∧ _
  rw [hz]
  have he : IsEnum ((s.heap.push { cls := .type "tuple_iterator", data := .fields #[.ref l, .int 0 0] }).push
      { cls := .type "enumerate", data := .fields #[.none, .bool false, .ref s.heap.objs.size, rawInt 0, .none, .none] }) (s.heap.objs.size + 1) s.heap.objs.size 0 .none := by
    have := Heap.get?_push_size (s.heap.push { cls := .type "tuple_iterator", data := .fields #[.ref l, .int 0 0] })
      (o := { cls := .type "enumerate", data := .fields #[.none, .bool false, .ref s.heap.objs.size, rawInt 0, .none, .none] }) rfl
    rw [hz] at this; exact this
  refine ⟨⟨_, he, rfl⟩, h _ he ⟨_, Heap.get?_push_of_some _ (Heap.get?_push_size _ rfl), rfl, rfl⟩ (by rw [Heap.size_push, hz]) fun b o x => Heap.get?_push_of_some _ (Heap.get?_push_of_some _ x)⟩
end
theorem ne_tupIter {h : Heap} {a it l : Addr} {its : Array Value} {i : Nat} (p : h.IsTuple a its) (q : h.IsTupleIter it l i) : a ≠ it := by
  rintro rfl
  obtain ⟨o, ho, c, _⟩ := p
  obtain ⟨o', ho', c', _⟩ := q
  rw [ho] at ho'; cases ho'; rw [c] at c'; exact absurd c' (by decide)
theorem ne_tupEnum {h : Heap} {a e it : Addr} {its : Array Value} {i : Int} {old : Value} (p : h.IsTuple a its) (q : IsEnum h e it i old) : a ≠ e := by
  rintro rfl
  obtain ⟨o, ho, c, _⟩ := p
  rw [q] at ho; cases ho; exact absurd c (by show ¬ (Value.type "enumerate" = Value.type "tuple"); decide)
noncomputable def IteT (K : PySem.W.Frag) (a : Addr) : It :=
  ⟨fun i H => ∃ xs x, SqT K H a xs ∧ xs[i]? = some x, fun i H x H' => ∃ p v, H p = none ∧ x = .ref p ∧ H' = upd H p (.tup [.int (i : Nat), v]) ∧ ∀ xs, SqT K H a xs → xs[i]? = some v, fun i H => ∃ xs, SqT K H a xs ∧ xs.length ≤ i⟩
theorem turn_enumT {P : Program} {w : World} {K : PySem.W.Frag} {elts : List Expr} {x1} {tpos : Pos} (a e it : Addr) (hne : e ≠ it) :
    Turn P w K (.Tuple elts x1 tpos) (IteT K a) [e, it] e (fun i h => (∃ old, IsEnum h e it (i : Nat) old) ∧ h.IsTupleIter it a i) where
  mem := by simp
  obj := fun i h st b hb => by
    obtain ⟨⟨old, he⟩, o, ho, c, d⟩ := st
    have hb' : b = e ∨ b = it := by simpa using hb
    rcases hb' with rfl | rfl
    · exact ⟨_, he, fun v z => by cases z⟩
    · exact ⟨o, ho, fun v z => by rw [d] at z; cases z⟩
  keep := fun i h h' st k => by
    obtain ⟨⟨old, he⟩, hl⟩ := st
    exact ⟨⟨old, k e (by simp) _ he⟩, hl.at fun o q => k it (by simp) o q⟩
  item := by
    intro X hP hw hK hc i pins s σ H E I hf st hg
    subst hP hw hK
    obtain ⟨⟨old, he⟩, hit⟩ := st
    obtain ⟨xs, x, hq, hx⟩ := hg
    obtain ⟨its, rv, p, hz⟩ := I.tuple hq
    obtain ⟨u, hu, ru⟩ := rv.get hx
    obtain ⟨f0, f1, f2, f3, f4, f5⟩ := hf e (by simp)
    obtain ⟨g0, g1, g2, g3, g4, g5⟩ := hf it (by simp)
    have pt : s.heap.IsTuple a its.toArray := p
    have nai : a ≠ it := ne_tupIter pt hit
    have nae : a ≠ e := ne_tupEnum pt he
    refine wpAny_pyNext_enum_itemD (Draws.tuple (show X.A.in1.handled = none from I.ok.hd hc) it a nai its.toArray) he ⟨hit, pt⟩ (by have := rv.length; have := (List.getElem?_eq_some_iff.mp hx).1; simp; omega) hne (by simp [hne, Ne.symm nae]) fun u' h' tk hu' he' st' ht' hz' hk' => ?_
    have eu : u' = u := by have : its[i]? = some u' := by simpa using hu'
                           rw [hu] at this; exact (Option.some.inj this).symm
    subst eu
    obtain ⟨hit', -⟩ := st'
    refine ⟨_, rfl, ?_⟩
    refine wpAny_letOwnedTupleGo_enum (s := { s with heap := h', toks := tk + 1 }) he' fun h2 he2 sb2 => ?_
    have hnew : H s.heap.objs.size = none := I.hok.fresh (Nat.le_refl _)
    have hpe : s.heap.objs.size ≠ e := Nat.ne_of_gt (Heap.lt_size he)
    have ht2 : h2.get? s.heap.objs.size = some { cls := .type "tuple", data := .seq #[.int (i : Nat) tk, u'] } := sb2.extBut _ _ hpe ht'
    have k2 : ∀ b o, b ≠ e → b ≠ it → s.heap.get? b = some o → h2.get? b = some o := fun b o b1 b2 q => sb2.extBut b o b1 (hk' b o b1 b2 q)
    have hit2 : h2.IsTupleIter it a (i + 1) := hit'.extBut sb2.extBut (Ne.symm hne)
    have ge : ∀ b o, H b = some o → b ≠ e ∧ b ≠ it := fun b o q => ⟨fun z => (by rw [z, f0] at q; cases q), fun z => (by rw [z, g0] at q; cases q)⟩
    have un : Un (frs X.stack) [e, it] H (upd H s.heap.objs.size (.tup [.int (i : Nat), x])) s.heap h2 := by
      have nb : ∀ b o, s.heap.get? b = some o → b ≠ s.heap.objs.size := fun b o q => Nat.ne_of_lt (Heap.lt_size q)
      refine ⟨fun b o q n _ hc => ?_, fun b o q n _ hc => ?_, fun b o q n hc => ?_, fun b o q hc => ?_, fun b ys q => ?_, fun b o y q => ?_, fun b ps q => ?_⟩
      · exact k2 b o (fun z => hc (by simp [z])) (fun z => hc (by simp [z])) q
      · exact ⟨o.slots, k2 b o (fun z => hc (by simp [z])) (fun z => hc (by simp [z])) q⟩
      · rw [upd_ne (nb b o q)]; exact n
      · exact ⟨o, k2 b o (fun z => hc (by simp [z])) (fun z => hc (by simp [z])) q⟩
      · rw [upd_ne (ne_of_none q hnew)]; exact q
      · rw [upd_ne (ne_of_none q hnew)]; exact q
      · exact ⟨#[], by rw [upd_ne (ne_of_none q hnew), q]; simp⟩
    have hok : HOk X.prog X.w (upd H s.heap.objs.size (.tup [.int (i : Nat), x])) h2 := fun b o q => by
      by_cases hb : b = s.heap.objs.size
      · subst hb
        rw [upd_same] at q
        cases q
        exact ⟨by show 2 ≤ sizeLine; decide, [.int (i : Nat) tk, u'], .cons ⟨_, rfl⟩ (.cons ru .nil), ⟨_, ht2, rfl, 0, rfl⟩⟩
      · rw [upd_ne hb] at q
        refine (I.hok b o q).stay (fun c v hc q' => ?_) (fun c q' => by rw [upd_ne (ne_of_none q' hnew)]; exact q') fun c ys q' => by rw [upd_ne (ne_of_none q' hnew)]; exact q'
        rcases hc with rfl | hc
        · exact k2 c v (ge c _ q).1 (ge c _ q).2 q'
        · exact k2 c v (ge c _ hc).1 (ge c _ hc).2 q'
    have I2 : Inv X pins σ (upd H s.heap.objs.size (.tup [.int (i : Nat), x])) { s with heap := h2, toks := tk + 1 } :=
      I.call' rfl un hok I.bare fun b hb => by
        have hb' : b = e ∨ b = it := by simpa using hb
        rcases hb' with rfl | rfl
        · exact ⟨f3, f1, f4, f5⟩
        · exact ⟨g3, g1, g4, g5⟩
    refine ⟨.ref s.heap.objs.size, _, I2, rfl, ⟨_, x, hnew, rfl, rfl, fun ys hy => by rw [I.tuple_inj hy hq]; exact hx⟩, ⟨⟨u', ?_⟩, hit2⟩, fun b hb => ?_⟩
    · have e3 : (((i + 1 : Nat)) : Int) = (i : Int) + 1 := by omega
      rw [e3]
      exact he2
    · have hb' : b = e ∨ b = it := by simpa using hb
      rcases hb' with rfl | rfl
      · rw [upd_ne (Ne.symm hpe)]; exact f0
      · obtain ⟨o, ho, _⟩ := hit
        rw [upd_ne (Nat.ne_of_lt (Heap.lt_size ho))]; exact g0
  done := by
    intro X hP hw hK hc i pins s σ H E I hf st hg
    subst hP hw hK
    obtain ⟨⟨old, he⟩, hit⟩ := st
    obtain ⟨xs, hq, hx⟩ := hg
    obtain ⟨its, rv, p, hz⟩ := I.tuple hq
    obtain ⟨g0, g1, g2, g3, g4, g5⟩ := hf it (by simp)
    have hl := rv.length
    have pt : s.heap.IsTuple a its.toArray := p
    exact wpAny_pyNext_enum_end2 (show X.A.in1.handled = none from I.ok.hd hc) he hit pt (by simp; omega) fun h' eb => ⟨rfl, I.turned (t' := s.toks) (fun b o hb e => eb b o hb e) g0 g1 g3 g4 g5⟩
  self := fun _ _ _ _ _ st h => let ⟨⟨_, he⟩, _⟩ := st; wpAny_pyIter_enum he h
section
variable {X : Cx}
noncomputable def iEnum2 (K : PySem.W.Frag) (ta : TA) : TI := fun σ H R => ta σ H fun vs H1 => ∃ a xs, vs = [.ref a] ∧ ((SqL K H1 a xs ∧ R (Ite K a) H1) ∨ (SqT K H1 a xs ∧ R (IteT K a) H1))
theorem pi_enum2 {elts : List Expr} {x1} {tpos : Pos} {a : Expr} {ta : TA} {p pos : Pos} (hg : Gl X "enumerate") (hm : X.mg "enumerate" = none) (ha : PA X [a] ta) (hs : starEach [a] X.env = [(false, eval a X.env)] := by rfl) :
    PI X (.Tuple elts x1 tpos) (.Call (.Name "enumerate" p) [a] [] pos) (iEnum2 X.K ta) := by
  intro pins s σ H R I h
  refine Call_ (ld_blt I hg hm (show bootBuiltins "enumerate" = some (.type "enumerate") by decide +kernel) (PyProof.Rows.callWith_type1 (thn (ha pos pins s σ H _ I h) fun us s1 hq__ => ?_) hs rfl))
  obtain ⟨vs, H1, I1, r1, q1⟩ := hq__
  obtain ⟨l, xs, e, q⟩ := q1
  subst e
  obtain ⟨u, rfl, ru⟩ := Vals.one r1
  cases ru
  have hfp : ∀ b, b ∈ [s1.heap.objs.size + 1, s1.heap.objs.size] → _ := fun b hb => by
    have hb' : b = s1.heap.objs.size + 1 ∨ b = s1.heap.objs.size := by simpa using hb
    exact show s1.heap.objs.size ≤ b by omega
  rcases q with ⟨hq, q⟩ | ⟨hq, q⟩
  · obtain ⟨its, rv, pl, hz⟩ := I1.list hq
    refine call_enumerate_list pl.isList fun h' he hit hz' k => ?_
    refine wpAny_pyIter_enum (s := { s1 with heap := h' }) he ?_
    exact ⟨s1.heap.objs.size + 1, [s1.heap.objs.size + 1, s1.heap.objs.size], _, _, H1, rfl, I1.kept (t' := s1.toks) k, turn_enum l _ _ (Nat.succ_ne_self _), ⟨⟨_, he⟩, hit⟩, fun b hb => I1.fpOk (hfp b hb) (I1.hok.fresh (hfp b hb)), q⟩
  · obtain ⟨its, rv, pl, hz⟩ := I1.tuple hq
    have pt : s1.heap.IsTuple l its.toArray := pl
    refine call_enumerate_tup pt fun h' he hit hz' k => ?_
    refine wpAny_pyIter_enum (s := { s1 with heap := h' }) he ?_
    exact ⟨s1.heap.objs.size + 1, [s1.heap.objs.size + 1, s1.heap.objs.size], _, _, H1, rfl, I1.kept (t' := s1.toks) k, turn_enumT l _ _ (Nat.succ_ne_self _), ⟨⟨_, he⟩, hit⟩, fun b hb => I1.fpOk (hfp b hb) (I1.hok.fresh (hfp b hb)), q⟩
end
end L2
namespace L2
open PySem PySem.Spec PyProof.Rows
section
variable {κ : Type} [DecidableEq κ]
noncomputable def valV (kvs : List (κ × V)) (k : κ) : Option V := (kvs.find? fun kv => decide (kv.1 = k)).map (·.2)
noncomputable def putK (kvs : List (κ × V)) (k : κ) (v : V) : List (κ × V) :=
  if (kvs.any fun kv => decide (kv.1 = k)) = true then kvs.map (fun kv => if kv.1 = k then (kv.1, v) else kv) else kvs ++ [(k, v)]
theorem valV_pos {p : κ × V} {r : List (κ × V)} {k : κ} (e : p.1 = k) : valV (p :: r) k = some p.2 := by simp [valV, List.find?_cons, e]
theorem valV_neg {p : κ × V} {r : List (κ × V)} {k : κ} (e : ¬ p.1 = k) : valV (p :: r) k = valV r k := by simp [valV, List.find?_cons, e]
theorem valV_any (k : κ) : ∀ kvs : List (κ × V), (kvs.any fun kv => decide (kv.1 = k)) = (valV kvs k).isSome
  | [] => rfl
  | p :: r => by
    rw [List.any_cons]
    by_cases e : p.1 = k
    · simp only [valV_pos e, decide_eq_true e, Bool.true_or, Option.isSome_some]
    · rw [valV_neg e, decide_eq_false e, Bool.false_or]; exact valV_any k r
theorem length_putK (kvs : List (κ × V)) (k : κ) (v : V) : (putK kvs k v).length ≤ kvs.length + 1 := by
  unfold putK
  split
  · rw [List.length_map]; omega
  · rw [List.length_append, List.length_cons, List.length_nil]; omega
theorem RelO.isSome_eq {o : Option V} {u : Option Value} (r : RelO o u) : o.isSome = u.isSome := by
  cases o with
  | none => cases u with
    | none => rfl
    | some _ => exact (show False from r).elim
  | some _ => cases u with
    | none => exact (show False from r).elim
    | some _ => rfl
theorem RelO.getD {o : Option V} {u : Option Value} {d : V} {d' : Value} (r : RelO o u) (rd : RelV d d') : RelV (o.getD d) (u.getD d') := by
  cases o with
  | none => cases u with
    | none => exact rd
    | some _ => exact (show False from r).elim
  | some _ => cases u with
    | none => exact (show False from r).elim
    | some _ => exact r
theorem KV.val {kvs : List (κ × V)} {vs : List (κ × Value)} (r : KV kvs vs) (k : κ) : RelO (valV kvs k) (valueAt vs k) := by
  unfold KV at r
  induction r with
  | nil => exact True.intro
  | @cons p q ps qs h t ih =>
    obtain ⟨h1, h2⟩ := h
    by_cases e : p.1 = k
    · have e' : q.1 = k := h1.symm.trans e
      have b : valueAt (q :: qs) k = some q.2 := by simp [valueAt, List.find?_cons, e']
      rw [valV_pos e, b]; exact h2
    · have e' : ¬ q.1 = k := fun z => e (h1.trans z)
      have b : valueAt (q :: qs) k = valueAt qs k := by simp [valueAt, List.find?_cons, e']
      rw [valV_neg e, b]; exact ih
theorem KV.any {kvs : List (κ × V)} {vs : List (κ × Value)} (r : KV kvs vs) (k : κ) : (kvs.any fun kv => decide (kv.1 = k)) = vs.any fun kv => decide (kv.1 = k) := by
  unfold KV at r
  induction r with
  | nil => rfl
  | cons h t ih => rw [List.any_cons, List.any_cons, ih, h.1]
theorem KV.repl {kvs : List (κ × V)} {vs : List (κ × Value)} (r : KV kvs vs) (k : κ) {y : V} {u : Value} (ry : RelV y u) :
    KV (kvs.map fun kv => if kv.1 = k then (kv.1, y) else kv) (vs.map fun kv => if kv.1 = k then (kv.1, u) else kv) := by
  unfold KV at r ⊢
  induction r with
  | nil => exact .nil
  | @cons p q ps qs h t ih =>
    rw [List.map_cons, List.map_cons]
    refine .cons ?_ ih
    obtain ⟨h1, h2⟩ := h
    by_cases e : p.1 = k
    · rw [if_pos e, if_pos (h1.symm.trans e)]; exact ⟨h1, ry⟩
    · rw [if_neg e, if_neg (fun z => e (h1.trans z))]; exact ⟨h1, h2⟩
theorem KV.put {kvs : List (κ × V)} {vs : List (κ × Value)} (r : KV kvs vs) (k : κ) {y : V} {u : Value} (ry : RelV y u) : KV (putK kvs k y) (stored vs k u) := by
  unfold putK stored
  rw [r.any k]
  by_cases e : (vs.any fun kv => decide (kv.1 = k)) = true
  · rw [if_pos e, if_pos e]; exact r.repl k ry
  · rw [if_neg e, if_neg e]; exact Paired.snoc r ⟨rfl, ry⟩
theorem KV.length {kvs : List (κ × V)} {vs : List (κ × Value)} (r : KV kvs vs) : kvs.length = vs.length := Paired.length r
end
theorem kV_is {P : Program} {w : World} {k : Key} {u : Value} (r : RelV (kV k) u) : (mixKind P w).is k u = true := by
  cases k with
  | inl i => obtain ⟨t, e⟩ := (show ∃ t, u = Value.int i t from r); subst e; exact mixKind_int P w i t
  | inr x => obtain ⟨t, e⟩ := (show ∃ t, u = Value.str x t from r); subst e; exact mixKind_str P w x t
theorem items_are {P : Program} {w : World} : ∀ {ks : List Key} {us : List Value}, Vals (ks.map kV) us → ItemsAre (mixKind P w) ks us
  | [], _, r => by rw [List.map_nil] at r; cases r; exact .nil
  | k :: ks, _, r => by
    rw [List.map_cons] at r
    cases r with
    | cons h t => exact .cons (kV_is h) (items_are t)
noncomputable abbrev KT (H : Hp) : List (List Key × V) → List (List Key × Addr × Value) → Prop := Paired fun p q => p.1 = q.1 ∧ H q.2.1 = some (.tup (p.1.map kV)) ∧ RelV p.2 q.2.2
theorem KT.val {H : Hp} {kvs : List (List Key × V)} {xs : List (List Key × Addr × Value)} (r : KT H kvs xs) (k : List Key) : RelO (valV kvs k) ((atKey xs k).map (·.2)) := by
  induction r with
  | nil => exact True.intro
  | @cons p q ps qs h t ih =>
    obtain ⟨h1, _, h2⟩ := h
    by_cases e : p.1 = k
    · have e' : q.1 = k := h1.symm.trans e
      have b : atKey (q :: qs) k = some q.2 := by simp [atKey, List.find?_cons, e']
      rw [valV_pos e, b]; exact h2
    · have e' : ¬ q.1 = k := fun z => e (h1.trans z)
      have b : atKey (q :: qs) k = atKey qs k := by simp [atKey, List.find?_cons, e']
      rw [valV_neg e, b]; exact ih
theorem KT.repl {H : Hp} {kvs : List (List Key × V)} {xs : List (List Key × Addr × Value)} (r : KT H kvs xs) (k : List Key) {y : V} {u : Value} (ry : RelV y u) :
    KT H (kvs.map fun kv => if kv.1 = k then (kv.1, y) else kv) (xs.map (putAt k u)) := by
  induction r with
  | nil => exact .nil
  | @cons p q ps qs h t ih =>
    rw [List.map_cons, List.map_cons]
    refine .cons ?_ ih
    obtain ⟨h1, h2, h3⟩ := h
    unfold putAt
    by_cases e : p.1 = k
    · rw [if_pos e, if_pos (h1.symm.trans e)]; exact ⟨h1, h2, ry⟩
    · rw [if_neg e, if_neg (fun z => e (h1.trans z))]; exact ⟨h1, h2, h3⟩
theorem KT.put {H : Hp} {kvs : List (List Key × V)} {xs : List (List Key × Addr × Value)} (r : KT H kvs xs) (k : List Key) {b : Addr} {y : V} {u : Value} (hb : H b = some (.tup (k.map kV))) (ry : RelV y u) :
    KT H (putK kvs k y) (storedH xs k b u) := by
  have e : (kvs.any fun kv => decide (kv.1 = k)) = (atKey xs k).isSome := by
    rw [valV_any, (r.val k).isSome_eq, Option.isSome_map]
  unfold putK storedH
  rw [e]
  by_cases q : (atKey xs k).isSome = true
  · rw [if_pos q, if_pos q]; exact r.repl k ry
  · rw [if_neg q, if_neg q]; exact Paired.snoc r ⟨rfl, hb, ry⟩
theorem KT.keeps {H H' : Hp} {kvs : List (List Key × V)} {xs : List (List Key × Addr × Value)} (r : KT H kvs xs) (ht : ∀ b ys, H b = some (.tup ys) → H' b = some (.tup ys)) : KT H' kvs xs :=
  Paired.mapP r fun _ _ z => ⟨z.1, ht _ _ z.2.1, z.2.2⟩
section
variable {P : Program} {w : World} {H : Hp} {h : Heap} {a : Addr}
theorem rd_of {u : HO} (ok : HOk P w H h) (e : Rd H a u) : ObjOk P w H h a u := e.ok ok
theorem dk_rd {kvs : List (Key × V)} (ok : HOk P w H h) (e : Rd H a (.dK kvs)) : kvs.length ≤ sizeLine ∧ (a == sysModules) = false ∧ ∃ vs, KV kvs vs ∧ h.DictOf (mixKind P w) a vs :=
  show ObjOk P w H h a (.dK kvs) from rd_of ok e
theorem dk_of {kvs : List (Key × V)} (ok : HOk P w H h) (e : H a = some (.dK kvs)) : kvs.length ≤ sizeLine ∧ (a == sysModules) = false ∧ ∃ vs, KV kvs vs ∧ h.DictOf (mixKind P w) a vs := dk_rd ok (.inl e)
theorem key_of {ks : List Key} (ok : HOk P w H h) (e : H a = some (.tup (ks.map kV))) : (tupleKind (mixKind P w)).is h ks a := by
  obtain ⟨_, its, r, o, h1, h2, n, h3⟩ := (show ObjOk P w H h a (.tup (ks.map kV)) from ok a _ e)
  exact ⟨o, its.toArray, n, h1, h2, h3, by simpa using items_are r⟩
theorem dt_rd {kvs : List (List Key × V)} (ok : HOk P w H h) (e : Rd H a (.dT kvs)) : kvs.length ≤ sizeLine ∧ (a == sysModules) = false ∧
    ∃ xs, KT H kvs xs ∧ h.DictOfH (tupleKind (mixKind P w)) a xs := by
  obtain ⟨z, y, xs, r, o, es, ep, h1, h2, h3, h4, h5⟩ := (show ObjOk P w H h a (.dT kvs) from rd_of ok e)
  refine ⟨z, y, xs, r, o, es, ep, h1, h2, h3, h4, fun x hx => ?_, h5⟩
  have all : ∀ {l : List (List Key × V)} {m : List (List Key × Addr × Value)}, KT H l m → ∀ x ∈ m, (tupleKind (mixKind P w)).is h x.1 x.2.1 := by
    intro l m q
    induction q with
    | nil => intro x hx; exact nomatch hx
    | @cons p q ps qs hq t ih =>
      intro x hx
      rcases List.mem_cons.mp hx with e | hx
      · subst e
        exact key_of ok (by rw [← hq.1]; exact hq.2.1)
      · exact ih x hx
  exact all r x hx
theorem dt_of {kvs : List (List Key × V)} (ok : HOk P w H h) (e : H a = some (.dT kvs)) : kvs.length ≤ sizeLine ∧ (a == sysModules) = false ∧
    ∃ xs, KT H kvs xs ∧ h.DictOfH (tupleKind (mixKind P w)) a xs := dt_rd ok (.inl e)
end
noncomputable def DGet (H : Hp) (a : Addr) (y : V) (r : Option V) : Prop :=
  (∃ kvs k, Rd H a (.dK kvs) ∧ y = kV k ∧ r = valV kvs k) ∨ ∃ kvs k b, Rd H a (.dT kvs) ∧ y = .ref b ∧ H b = some (.tup (k.map kV)) ∧ r = valV kvs k
noncomputable def DPut (H : Hp) (a : Addr) (y v : V) (H' : Hp) : Prop :=
  (∃ kvs k, H a = some (.dK kvs) ∧ y = kV k ∧ kvs.length < sizeLine ∧ H' = upd H a (.dK (putK kvs k v))) ∨
  ∃ kvs k b, H a = some (.dT kvs) ∧ y = .ref b ∧ H b = some (.tup (k.map kV)) ∧ kvs.length < sizeLine ∧ H' = upd H a (.dT (putK kvs k v))
theorem DGet.k {H : Hp} {a : Addr} {kvs : List (Key × V)} {k : Key} (e : H a = some (.dK kvs)) : DGet H a (kV k) (valV kvs k) := .inl ⟨kvs, k, .inl e, rfl, rfl⟩
theorem DGet.t {H : Hp} {a b : Addr} {kvs : List (List Key × V)} {k : List Key} (e : H a = some (.dT kvs)) (eb : H b = some (.tup (k.map kV))) : DGet H a (.ref b) (valV kvs k) := .inr ⟨kvs, k, b, .inl e, rfl, eb, rfl⟩
theorem DPut.k {H : Hp} {a : Addr} {kvs : List (Key × V)} {k : Key} {v : V} (e : H a = some (.dK kvs)) (hl : kvs.length < sizeLine) : DPut H a (kV k) v (upd H a (.dK (putK kvs k v))) := .inl ⟨kvs, k, e, rfl, hl, rfl⟩
theorem DPut.t {H : Hp} {a b : Addr} {kvs : List (List Key × V)} {k : List Key} {v : V} (e : H a = some (.dT kvs)) (eb : H b = some (.tup (k.map kV))) (hl : kvs.length < sizeLine) :
    DPut H a (.ref b) v (upd H a (.dT (putK kvs k v))) := .inr ⟨kvs, k, b, e, rfl, eb, hl, rfl⟩
section
variable {X : Cx} {pins : List (Addr × Obj)} {σ : St} {H : Hp} {s : Shared} {a : Addr} {y v : V} {u r : Value} {o : Option V} {A : Around} {E : Value → Shared → Prop}
theorem Inv.big (I : Inv X pins σ H s) : sysModules < s.heap.objs.size := by
  have h : mainGlobals < s.heap.objs.size := (I.mod.glob.keeps I.bk).lt
  exact Nat.lt_trans (by decide) h
theorem d_getItem {Q : Value → Shared → Prop} (hu : A.units + 1 < cLine) (I : Inv X pins σ H s) (g : DGet H a y (some v)) (ry : RelV y u) (h : ∀ w' s', Inv X pins σ H s' → RelV v w' → Q w' s') :
    wpAny (model X.prog X.w) A (getItem (.ref a) u) Q E s := by
  rcases g with ⟨kvs, k, e, ey, l⟩ | ⟨kvs, k, b, e, ey, eb, l⟩
  · subst ey
    obtain ⟨z, hd, vs, rel, dd⟩ := dk_rd I.hok e
    obtain ⟨w', hw, rw'⟩ := RelO.some_of (v := v) (o := valueAt vs k) (by rw [l]; exact rel.val k)
    exact wpAny_getItem_of (kV_is ry) dd.mapOf hw (h w' _ (I.tok _) rw')
  · subst ey
    cases (show u = Value.ref b from ry)
    obtain ⟨z, hd, xs, rel, dd⟩ := dt_rd I.hok e
    obtain ⟨w', hw, rw'⟩ := RelO.some_of (v := v) (o := (atKey xs k).map (·.2)) (by rw [l]; exact rel.val k)
    obtain ⟨p, hp, hp2⟩ := Option.map_eq_some_iff.mp hw
    refine wpAny_getItem_heap (tupleKind_room_in1 hu) (key_of I.hok eb) dd hp ?_
    rw [hp2]
    exact h w' _ (I.tok _) rw'
theorem d_in {Q : Value → Shared → Prop} (hu : A.units + 1 < cLine) (I : Inv X pins σ H s) (g : DGet H a y o) (ry : RelV y u) (h : ∀ s', Inv X pins σ H s' → Q (.bool o.isSome) s') :
    wpAny (model X.prog X.w) A (compareOp .In u (.ref a)) Q E s := by
  rcases g with ⟨kvs, k, e, ey, l⟩ | ⟨kvs, k, b, e, ey, eb, l⟩
  · subst ey
    obtain ⟨z, hd, vs, rel, dd⟩ := dk_rd I.hok e
    refine wpAny_in_of (kV_is ry) hd dd.mapOf ?_
    rw [← (rel.val k).isSome_eq, ← l]
    exact h _ (I.tok _)
  · subst ey
    cases (show u = Value.ref b from ry)
    obtain ⟨z, hd, xs, rel, dd⟩ := dt_rd I.hok e
    refine wpAny_in_heap (tupleKind_room_in1 hu) (key_of I.hok eb) hd dd ?_
    have q := (rel.val k).isSome_eq
    rw [Option.isSome_map] at q
    rw [← q, ← l]
    exact h _ (I.tok _)
theorem d_write {h' : Heap} {t' : Nat} {ob : HO} (I : Inv X pins σ H s) (mu : Mut (H a)) (hs : Heap.SameBut a s.heap h') (he : ∃ q, h'.get? a = some q) (new : ObjOk X.prog X.w (upd H a ob) h' a ob) :
    Inv X pins σ (upd H a ob) { s with heap := h', toks := t' } :=
  I.write (x := a) (e := a) mu (.inl rfl) (fun b q hb z => (hs.2 b hb).trans z) he new
theorem dk_new {P : Program} {w : World} {H' : Hp} {h' : Heap} {kvs : List (Key × V)} {vs : List (Key × Value)} (z : kvs.length ≤ sizeLine) (hd : (a == sysModules) = false) (rel : KV kvs vs) (dd : h'.DictOf (mixKind P w) a vs) :
    ObjOk P w H' h' a (.dK kvs) := ⟨z, hd, vs, rel, dd⟩
theorem d_setItem {H' : Hp} {Q : Unit → Shared → Prop} (hu : A.units + 1 < cLine) (I : Inv X pins σ H s) (g : DPut H a y v H') (ry : RelV y u) (rv : RelV v r) (h : ∀ s', Inv X pins σ H' s' → Q () s') :
    wpAny (model X.prog X.w) A (setItem (.ref a) u r) Q E s := by
  rcases g with ⟨kvs, k, e, ey, l, eH⟩ | ⟨kvs, k, b, e, ey, eb, l, eH⟩
  · subst ey eH
    obtain ⟨z, hd, vs, rel, dd⟩ := dk_of I.hok e
    have hz : vs.length ≤ sizeLine := by rw [← rel.length]; exact z
    have hl : (putK kvs k v).length ≤ sizeLine := by have := length_putK kvs k v; omega
    refine wpAny_setItem_pairs (hsz := hz) (kV_is ry) dd fun h' dd' hs => h _ ?_
    have he : ∃ q, h'.get? a = some q := let ⟨q, _, _, hq, _⟩ := dd'; ⟨q, hq⟩
    exact d_write I (by rw [e]; exact True.intro) hs he (dk_new hl hd (rel.put k rv) dd')
  · subst ey eH
    cases (show u = Value.ref b from ry)
    obtain ⟨z, hd, xs, rel, dd⟩ := dt_of I.hok e
    have hz : xs.length ≤ sizeLine := by rw [← Paired.length rel]; exact z
    have hl : (putK kvs k v).length ≤ sizeLine := by have := length_putK kvs k v; omega
    refine wpAny_setItem_heap (hsz := hz) (tupleKind_room_in1 hu) (key_of I.hok eb) dd fun h' dd' hs => h _ ?_
    obtain ⟨q, es, ep, hq, h2, h3, h4, _, h5⟩ := dd'
    refine d_write I (by rw [e]; exact True.intro) hs ⟨q, hq⟩ ⟨hl, hd, _, (rel.put k eb rv).keeps fun c ys ec => ?_, q, es, ep, hq, h2, h3, h4, h5⟩
    rw [upd_ne (ne_of ec e (fun z => nomatch z))]
    exact ec
end
section
variable {X : Cx} {pins : List (Addr × Obj)} {σ : St} {H : Hp} {s : Shared} {a : Addr} {kvs : List (Key × V)} {k : Key} {u : Value} {A : Around} {E : Value → Shared → Prop}
end
theorem dict_typeIs {X : Cx} {pins : List (Addr × Obj)} {σ : St} {H : Hp} {s : Shared} {a : Addr} {y : V} {o : Option V} (I : Inv X pins σ H s) (g : DGet H a y o) : s.TypeIs (.ref a) "dict" := by
  rcases g with ⟨kvs, k, e, _, _⟩ | ⟨kvs, k, b, e, _, _, _⟩
  · obtain ⟨_, _, vs, _, dd⟩ := dk_rd I.hok e
    exact dd.typeIs
  · obtain ⟨_, _, xs, _, dd⟩ := dt_rd I.hok e
    exact dd.typeIs
noncomputable def sDPut (td ty tv : TE) : TS := fun D σ H => tv σ H fun v H1 => td σ H1 fun x H2 => ty σ H2 fun y H3 => ∃ a H4, x = .ref a ∧ DPut H3 a y v H4 ∧ D.nx σ H4
section
variable {X : Cx} {o i e value : Expr} {pos pos' tpos : Pos} {td ty tv : TE}
theorem ps_dput (hu : X.A.units + 1 < cLine) (ho : PE X o td) (hi : PE X i ty) (hv : PE X value tv) (hs : swapsWith value (some (.Subscript o i pos')) pos.line X.env = pure false) :
    PS X (.Assign [.Subscript o i pos'] value pos) (sDPut td ty tv) := by
  intro pins s σ H D I h
  refine wpAny_Assign_Subscript (thn (hv pins s σ H _ I h) fun r s1 ⟨v, H1, I1, rv, q1⟩ => thn (ho pins s1 σ H1 _ I1 q1) fun u s2 ⟨x, H2, I2, rx, q2⟩ => thn (hi pins s2 σ H2 _ I2 q2) fun iv s3 hq__ => ?_) hs
  obtain ⟨y, H3, I3, ry, a, H4, ex, g, q3⟩ := hq__
  subst ex
  obtain rfl : u = Value.ref a := rx
  exact d_setItem hu I3 g ry rv fun s4 I4 => ⟨σ, H4, I4, q3⟩
end
theorem dk_empty {P : Program} {w : World} {H : Hp} (h : Heap) (hb : sysModules < h.objs.size) : ObjOk P w H (h.push { cls := .type "dict", data := .dict #[] }) h.objs.size (.dK []) :=
  ⟨Nat.zero_le _, beq_eq_false_iff_ne.mpr (Ne.symm (Nat.ne_of_lt hb)), [], .nil, Heap.DictOf.new h⟩
noncomputable def tDNewK : TE := fun _ H Q => ∀ p, H p = none → Q (.ref p) (upd H p (.dK []))
section
variable {X : Cx} {pos : Pos}
theorem pe_dnewK : PE X (.Dict [] [] pos) tDNewK := fun pins s σ H Q I h =>
  wpAny_Dict_empty ⟨.ref s.heap.objs.size, _, I.laid (a := s.heap.objs.size) (o := .dK []) (t' := s.toks) (fun _ _ q => Heap.get?_push_of_some _ q) (Nat.le_refl _) (dk_empty s.heap I.big), rfl, h _ (I.hok.fresh (Nat.le_refl _))⟩
end
noncomputable def tPairs : List (TE × TE) → St → Hp → (List (V × V) → Hp → Prop) → Prop
  | [], _, H, Q => Q [] H
  | (tk, tv) :: r, σ, H, Q => tk σ H fun x H1 => tv σ H1 fun y H2 => tPairs r σ H2 fun ps H3 => Q ((x, y) :: ps) H3
noncomputable abbrev VV : List (V × V) → List (Value × Value) → Prop := Paired fun p q => RelV p.1 q.1 ∧ RelV p.2 q.2
noncomputable def PPs (X : Cx) (pos : Pos) (keys : List (Option Expr)) (values : List Expr) (trs : List (TE × TE)) : Prop :=
  ∀ (pins : List (Addr × Obj)) (s : Shared) (σ : St) (H : Hp) (Q : List (V × V) → Hp → Prop), Inv X pins σ H s → tPairs trs σ H Q →
    wpAny (model X.prog X.w) X.A (evalPairs (pairTrees keys values X.env pos)) (fun vs s' => ∃ ps H', Inv X pins σ H' s' ∧ VV ps vs ∧ Q ps H') X.xe s
theorem pps_nil {X : Cx} {pos : Pos} : PPs X pos [] [] [] := fun pins s σ H Q I h => pairTrees_nil_walk ⟨[], H, I, .nil, h⟩
theorem pps_cons {X : Cx} {pos : Pos} {k v : Expr} {ks : List (Option Expr)} {vs : List Expr} {tk tv : TE} {trs : List (TE × TE)} (hk : PE X k tk) (hv : PE X v tv) (hr : PPs X pos ks vs trs) :
    PPs X pos (some k :: ks) (v :: vs) ((tk, tv) :: trs) := fun pins s σ H Q I h =>
  pairTrees_cons_walk (thn (hk pins s σ H _ I h) fun u s1 ⟨x, H1, I1, rx, q1⟩ => thn (hv pins s1 σ H1 _ I1 q1) fun w2 s2 ⟨y, H2, I2, ry, q2⟩ =>
    thn (hr pins s2 σ H2 _ I2 q2) fun ws s3 ⟨ps, H3, I3, rel, q3⟩ => ⟨(x, y) :: ps, H3, I3, .cons ⟨rx, ry⟩ rel, q3⟩)
noncomputable def mergeK (kvs more : List (Key × V)) : List (Key × V) := more.foldl (fun acc kv => putK acc kv.1 kv.2) kvs
theorem KV.merge : ∀ {more : List (Key × V)} {rs : List (Key × Value)} {kvs : List (Key × V)} {vs : List (Key × Value)}, KV more rs → KV kvs vs → KV (mergeK kvs more) (merged vs rs) := by
  intro more rs kvs vs r
  unfold KV at r
  induction r generalizing kvs vs with
  | nil => intro q; exact q
  | @cons p q ps qs h t ih =>
    intro r0
    have e : KV (putK kvs p.1 p.2) (stored vs q.1 q.2) := by
      have := r0.put p.1 h.2
      rw [← h.1]; exact this
    exact ih e
theorem length_mergeK : ∀ (more kvs : List (Key × V)), (mergeK kvs more).length ≤ kvs.length + more.length
  | [], kvs => by show kvs.length ≤ kvs.length + 0; omega
  | p :: r, kvs => by
    have h1 := length_mergeK r (putK kvs p.1 p.2)
    have h2 := length_putK kvs p.1 p.2
    show (mergeK (putK kvs p.1 p.2) r).length ≤ _
    rw [List.length_cons]; omega
theorem carries_of {P : Program} {w : World} : ∀ {kvs : List (Key × V)} {ws : List (Value × Value)}, VV (kvs.map fun kv => (kV kv.1, kv.2)) ws → ∃ rs, Carries (mixKind P w) ws rs ∧ KV kvs rs
  | [], _, r => by rw [List.map_nil] at r; cases r; exact ⟨[], True.intro, .nil⟩
  | p :: kvs, _, r => by
    rw [List.map_cons] at r
    cases r with
    | @cons a b as bs h t =>
      obtain ⟨rs, c, q⟩ := carries_of (P := P) (w := w) t
      obtain ⟨b1, b2⟩ := b
      exact ⟨(p.1, b2) :: rs, ⟨kV_is h.1, rfl, c⟩, .cons ⟨rfl, h.2⟩ q⟩
noncomputable def tDisp (trs : List (TE × TE)) : TE := fun σ H Q => ∀ p, H p = none → tPairs trs σ (upd H p (.dK [])) fun ps H2 => H2 p = some (.dK []) ∧ ∃ kvs : List (Key × V), ps = kvs.map (fun kv => (kV kv.1, kv.2)) ∧ kvs.length ≤ 15 ∧ Q (.ref p) (upd H2 p (.dK (mergeK [] kvs)))
theorem pe_disp {X : Cx} {pos : Pos} {keys : List (Option Expr)} {values : List Expr} {trs : List (TE × TE)} (h : PPs X pos keys values trs) (hall : keys.all (·.isSome) = true) (hl : keys.length = values.length) (h0 : keys ≠ [])
    (h15 : keys.length ≤ 15) : PE X (.Dict keys values pos) (tDisp trs) := by
  intro pins s σ H Q I q
  have hn := I.hok.fresh (Nat.le_refl s.heap.objs.size)
  have I1 := I.laid (a := s.heap.objs.size) (o := .dK []) (h' := s.heap.push { cls := .type "dict", data := .dict #[] }) (t' := s.toks) (fun _ _ q => Heap.get?_push_of_some _ q) (Nat.le_refl _) (dk_empty s.heap I.big)
  refine wpAny_Dict_walk (knd := mixKind X.prog X.w) hall hl h0 h15 (thn (h pins _ σ _ _ I1 (q _ hn)) fun ws s2 hq__ => ?_)
  obtain ⟨ps, H2, I2, rel, e, kvs, ep, lk, q2⟩ := hq__
  subst ep
  obtain ⟨rs, c, rk⟩ := carries_of (P := X.prog) (w := X.w) rel
  obtain ⟨z, hd, vs0, r0, dd⟩ := dk_of I2.hok e
  cases r0
  refine ⟨rs, c, dd, fun h' dd' hs => ⟨.ref s.heap.objs.size, _, ?_, rfl, q2⟩⟩
  have hz : (mergeK [] kvs).length ≤ sizeLine := by
    have h1 := length_mergeK kvs []
    rw [List.length_nil] at h1
    rw [sizeLine_eq]; omega
  have he : ∃ q, h'.get? s.heap.objs.size = some q := let ⟨q, _, _, hq, _⟩ := dd'; ⟨q, hq⟩
  exact d_write I2 (by rw [e]; exact True.intro) hs he (dk_new hz hd (rk.merge .nil) dd')
section
variable {X : Cx} {pins : List (Addr × Obj)} {σ : St} {H : Hp} {s : Shared} {a : Addr} {y d : V} {u r : Value} {o : Option V} {A : Around} {E : Value → Shared → Prop}
end
section
variable {X : Cx} {o e f : Expr} {apos cpos : Pos} {td ty tx : TE}
end
section
variable {X : Cx} {pins : List (Addr × Obj)} {σ : St} {H : Hp} {s : Shared} {a : Addr} {kvs : List (Key × V)} {A : Around} {E : Value → Shared → Prop}
end
section
variable {X : Cx} {pins : List (Addr × Obj)} {σ : St} {H : Hp} {s : Shared} {a : Addr} {y : V} {u : Value} {A : Around} {E : Value → Shared → Prop}
end
end L2
namespace L2
open PySem PySem.Spec PyProof.Rows
noncomputable abbrev NKey := List (List Int)
noncomputable def nHash (ks : NKey) : Int := reduceHash (Builtin.Tuple.tupleHashOf (ks.map fun k => reduceHash (Builtin.Tuple.tupleHashOf (k.map hashInt))))
noncomputable def NDict (a : Addr) (xs : List (NKey × Addr × Value)) : HO := .ext fun h =>
  xs.length ≤ sizeLine ∧ (a == sysModules) = false ∧ (xs.map (·.1)).Nodup ∧ ∃ o es ep, h.get? a = some o ∧ o.ExactDict ∧ o.data = .dict es ep ∧ es.toList = xs.map fun x => ⟨nHash x.1, .ref x.2.1, x.2.2⟩
noncomputable def NTup (K : PySem.W.Frag) (H : Hp) (ks : NKey) (b : Addr) : Prop := ∃ cs : List Addr, SqT K H b (cs.map V.ref) ∧ Paired (fun (k : List Int) c => SqT K H c (k.map V.int)) ks cs
noncomputable abbrev KN (K : PySem.W.Frag) (H : Hp) : List (NKey × V) → List (NKey × Addr × Value) → Prop := Paired fun p q => p.1 = q.1 ∧ NTup K H p.1 q.2.1 ∧ RelV p.2 q.2.2
theorem NTup.keeps {K : PySem.W.Frag} {H H' : Hp} {ks : NKey} {b : Addr} (n : NTup K H ks b) (ht : ∀ b ys, SqT K H b ys → SqT K H' b ys) : NTup K H' ks b := by
  obtain ⟨cs, h1, h2⟩ := n
  exact ⟨cs, ht _ _ h1, Paired.mapP h2 fun _ _ z => ht _ _ z⟩
theorem KN.keeps {K : PySem.W.Frag} {H H' : Hp} {kvs : List (NKey × V)} {xs : List (NKey × Addr × Value)} (r : KN K H kvs xs) (ht : ∀ b ys, SqT K H b ys → SqT K H' b ys) : KN K H' kvs xs :=
  Paired.mapP r fun _ _ z => ⟨z.1, z.2.1.keeps ht, z.2.2⟩
end L2
namespace PySem
open Sem (wp)
section
variable {prog : Program} {w : World} {K : Type} [DecidableEq K] (knd : KeyKind prog w K)
inductive NestAre (h : Heap) : List (List K) → List Value → Prop
  | nil : NestAre h [] []
  | cons {k : List K} {a : Addr} {ks : List (List K)} {vs : List Value} : IsTupleKey knd h k a → NestAre h ks vs → NestAre h (k :: ks) (.ref a :: vs)
noncomputable def IsNestKey (h : Heap) (ks : List (List K)) (a : Addr) : Prop := ∃ o items n, h.get? a = some o ∧ o.cls = .type "tuple" ∧ o.data = .seq items n ∧ NestAre knd h ks items.toList
variable {knd}
theorem NestAre.inj {h : Heap} {x y : List (List K)} {vs : List Value} (hx : NestAre knd h x vs) (hy : NestAre knd h y vs) : x = y := by
  induction hx generalizing y with
  | nil => cases hy; rfl
  | cons h1 _ ih => cases hy with
    | cons h2 t2 => rw [h1.inj h2, ih t2]
theorem NestAre.length {h : Heap} {x : List (List K)} {vs : List Value} (hx : NestAre knd h x vs) : x.length = vs.length := by
  induction hx with
  | nil => rfl
  | cons _ _ ih => simp [ih]
theorem IsNestKey.typeIs {s : Shared} {ks : List (List K)} {a : Addr} (x : IsNestKey knd s.heap ks a) : s.TypeIs (.ref a) "tuple" := let ⟨o, _, _, ho, hc, _⟩ := x; ⟨o, ho, hc⟩
theorem IsNestKey.inj {h : Heap} {a : Addr} {x y : List (List K)} (hx : IsNestKey knd h x a) (hy : IsNestKey knd h y a) : x = y := by
  obtain ⟨o, items, n, ho, _, hd, hi⟩ := hx
  obtain ⟨o', items', n', ho', _, hd', hi'⟩ := hy
  obtain rfl : o = o' := Option.some.inj (ho.symm.trans ho')
  rw [hd] at hd'
  injection hd' with h1 _
  subst h1
  exact hi.inj hi'
theorem NestAre.keeps {h h' : Heap} {ks : List (List K)} {vs : List Value} {d : Addr} {o : Obj} {es ep} (x : NestAre knd h ks vs) (ho : h.get? d = some o) (hd : o.data = .dict es ep) (hs : Heap.SameBut d h h') : NestAre knd h' ks vs := by
  induction x with
  | nil => exact .nil
  | cons h1 _ ih => exact .cons (h1.keeps ho hd hs) ih
theorem IsNestKey.keeps {h h' : Heap} {ks : List (List K)} {a d : Addr} {o : Obj} {es ep} (x : IsNestKey knd h ks a) (ho : h.get? d = some o) (hd : o.data = .dict es ep) (hs : Heap.SameBut d h h') : IsNestKey knd h' ks a := by
  obtain ⟨o', items, n, ho', hc, hd', hi⟩ := x
  have hne : a ≠ d := by
    rintro rfl
    obtain rfl : o' = o := Option.some.inj (ho'.symm.trans ho)
    rw [hd] at hd'; exact nomatch hd'
  exact ⟨o', items, n, (hs.2 a hne).trans ho', hc, hd', hi.keeps ho hd hs⟩
noncomputable def nestHash (knd : KeyKind prog w K) (ks : List (List K)) : Int := reduceHash (Builtin.Tuple.tupleHashOf (ks.map (tupleKeyHash knd)))
noncomputable def nestDraws : List (List K) → Nat
  | [] => 0
  | k :: ks => k.length + 1 + nestDraws ks
theorem nestDraws_app (a b : List (List K)) : nestDraws (a ++ b) = nestDraws a + nestDraws b := by
  induction a with
  | nil => simp [nestDraws]
  | cons x t ih => rw [List.cons_append, nestDraws, nestDraws, ih]; omega
variable {A : Around} {E : Value → Shared → Prop} {s : Shared}
theorem IsTupleKey.toks {ks : List K} {a : Addr} {n : Nat} (x : IsTupleKey knd s.heap ks a) : IsTupleKey knd { s with toks := n }.heap ks a := x
theorem wpAny_pyHash_nest {ks : List (List K)} {a : Addr} {Q : Int → Shared → Prop} (hu : A.units + 64 < cLine) (hk : IsNestKey knd s.heap ks a) (h : Q (nestHash knd ks) { s with toks := s.toks + (nestDraws ks + 1) }) :
    wpAny (model prog w) A (pyHash (.ref a)) Q E s := by
  have hT := hk.typeIs
  obtain ⟨o, items, n, ho, _, hd, hi⟩ := hk
  unfold pyHash
  first | unfold pyHashByItsType | skip
  first | refine wpAny_bind (wpAny_cRoomFor_or (.inr (by omega)) ?_) | skip
  refine wpAny_bind (wpAny_specialOf hT F.slot_tuple_hash.lookup ?_)
  show wpAny _ _ (if (some (Value.builtin "tuple.__hash__") == some Value.none) = true then _ else _) Q E s
  rw [if_neg (by rw [beq_builtin_none]; exact Bool.false_ne_true)]
  refine wpAny_bind (wpAny_specialOf hT F.slot_tuple_hash.lookup ?_)
  show wpAny _ _ (callSpecialIfBoundUnlessNone? (.ref a) "__hash__" _ >>= _) Q E s
  refine wpAny_bind (wpAny_callSpecialIfBoundUnlessNone?_slot hT F.slot_tuple_hash (wpAny_call_entry F.slot_tuple_hash hT F.entry_tuple_hash ?_ (F.args_tuple_hash_1 _)))
  show wpAny _ _ (Builtin.Tuple.tupleItemsOf (.ref a) >>= _) _ _ s
  refine wpAny_bind (wpAny_tupleItemsOf ho hd ?_)
  refine wpAny_bind ?_
  rw [← Array.forIn_toList]
  refine wpAny_forIn_list _
    (fun rest (b : Array Int) s' => ∃ done left, ks = done ++ left ∧ NestAre knd s.heap left rest ∧ b.toList = done.map (tupleKeyHash knd) ∧ s' = { s with toks := s.toks + nestDraws done })
    _ ?_ ?_ _ _ ⟨[], ks, rfl, hi, rfl, rfl⟩
  · rintro x rest b s' ⟨done, left, rfl, hl, hb, rfl⟩
    cases hl with
    | @cons k _ ks' _ h1 hl' =>
      refine wpAny_bind (wpAny_pyHash_tuple (ks := k) (by first | omega | (show _ + _ < _; omega)) h1 ?_)
      have e : nestDraws (done ++ [k]) = nestDraws done + (k.length + 1) := by rw [nestDraws_app]; rfl
      first
        | exact wpAny_pure ⟨done ++ [k], ks', by simp, hl', by simp [hb], by rw [e]; simp [Nat.add_assoc]⟩
        | exact wpAny_bind (wpAny_pure (wpAny_pure ⟨done ++ [k], ks', by simp, hl', by simp [hb], by rw [e]; simp [Nat.add_assoc]⟩))
  · rintro b s' ⟨done, left, rfl, hl, hb, rfl⟩
    cases hl
    rw [List.append_nil] at h
    show wpAny _ _ (retInt (Builtin.Tuple.tupleHashOf b.toList)) _ _ _
    rw [hb]
    refine wpAny_ret_mkInt ?_
    show wpAny _ _ (if (decide (-(2 : Int) ^ 63 ≤ Builtin.Tuple.tupleHashOf (done.map (tupleKeyHash knd))) && decide (Builtin.Tuple.tupleHashOf (done.map (tupleKeyHash knd)) < 2 ^ 63)) = true then _ else _) Q E _
    unfold nestHash reduceHash at h
    by_cases hr : (decide (-(2 : Int) ^ 63 ≤ Builtin.Tuple.tupleHashOf (done.map (tupleKeyHash knd))) && decide (Builtin.Tuple.tupleHashOf (done.map (tupleKeyHash knd)) < 2 ^ 63)) = true
    · rw [if_pos hr]
      rw [if_pos hr] at h
      exact wpAny_pure (by simpa [Nat.add_assoc] using h)
    · rw [if_neg hr]
      rw [if_neg hr] at h
      exact wpAny_bind (wpAny_rule (wpAny_pure (by simpa [Nat.add_assoc] using h)))
theorem nest_eq_tree {x y : List (List K)} {a b : Addr} {P : Fin → Shared → Prop} (hu : A.units + 8 < cLine) (hx : IsNestKey knd s.heap x a) (hy : IsNestKey knd s.heap y b) (h : P (.done (.ret (.bool (decide (x = y))))) s) :
    wpAny (model prog w) A (Builtin.«tuple.__eq__» ⟨[.ref a, .ref b], []⟩) P E s := by
  have hTb := hy.typeIs
  obtain ⟨oa, xs, na, hoa, _, hda, hia⟩ := hx
  obtain ⟨ob, ys, nb, hob, _, hdb, hib⟩ := hy
  show wpAny _ _ (isInstance (.ref b) (.type "tuple") >>= _) _ _ s
  refine wpAny_bind (wpAny_isInstance hTb isSubtype_tuple_tuple ?_)
  simp only [Bool.not_true, Bool.false_eq_true, if_false]
  refine wpAny_bind (wpAny_tupleItemsOf hoa hda ?_)
  refine wpAny_bind (wpAny_tupleItemsOf hob hdb ?_)
  refine wpAny_bind ?_
  refine wpAny_forIn_list _
    (fun rest r s' => r.1 = none ∧ s' = s ∧ ∃ x' y' xs' ys', rest = List.zip xs' ys' ∧ NestAre knd s.heap x' xs' ∧ NestAre knd s.heap y' ys' ∧ decide (x' = y') = decide (x = y) ∧ (xs'.length == ys'.length) = (xs.size == ys.size))
    _ ?_ ?_ _ _ ⟨rfl, rfl, x, y, xs.toList, ys.toList, rfl, hia, hib, rfl, by simp⟩
  · rintro ⟨u, v⟩ rest r s' ⟨hr, rfl, x', y', xs', ys', hz, hx', hy', hdec, hlen⟩
    cases hx' with
    | nil => simp at hz
    | @cons k1 u' x'' xs'' h1 hx'' =>
      cases hy' with
      | nil => simp at hz
      | @cons k2 v' y'' ys'' h2 hy'' =>
        simp only [List.zip_cons_cons, List.cons.injEq, Prod.mk.injEq] at hz
        obtain ⟨⟨rfl, rfl⟩, rfl⟩ := hz
        refine wpAny_bind (wpAny_eqBool_tuple (x := k1) (y := k2) (by omega) h1 h2 ?_)
        by_cases hk : k1 = k2
        · subst hk
          rw [decide_eq_true rfl]
          simp only [Bool.not_true, Bool.false_eq_true, if_false]
          refine wpAny_pure ⟨rfl, rfl, x'', y'', xs'', ys'', rfl, hx'', hy'', ?_, by simpa using hlen⟩
          rw [← hdec]
          by_cases hxy : x'' = y''
          · simp [hxy]
          · simp [hxy]
        · rw [decide_eq_false hk]
          simp only [Bool.not_false, if_true]
          have hf : decide (x = y) = false := by rw [← hdec]; simp [hk]
          rw [hf] at h
          exact wpAny_bind (wpAny_pure (wpAny_pure (wpAny_pure h)))
  · rintro ⟨r1, r2⟩ s' ⟨hr, rfl, x', y', xs', ys', hz, hx', hy', hdec, hlen⟩
    simp only at hr
    subst hr
    refine wpAny_pure ?_
    have hfin : (xs.size == ys.size) = decide (x = y) := by
      rw [← hdec, ← hlen]
      cases hx' with
      | nil =>
        cases hy' with
        | nil => simp
        | cons _ _ => simp
      | cons _ _ =>
        cases hy' with
        | nil => simp
        | cons _ _ => simp at hz
    show P (.done (.ret (.bool (xs.size == ys.size)))) s'
    rw [hfin]; exact h
theorem wpAny_eqBool_nest {x y : List (List K)} {a b : Addr} {Q : Bool → Shared → Prop} (hu : A.units + 64 < cLine) (hx : IsNestKey knd s.heap x a) (hy : IsNestKey knd s.heap y b) (h : Q (decide (x = y)) s) :
    wpAny (model prog w) A (eqBool (.ref a) (.ref b)) Q E s := by
  unfold eqBool
  try with_reducible refine wpAny_holding ?_
  show wpAny _ _ (if (Value.ref a == Value.ref b) = true then _ else _) Q E s
  by_cases hab : (Value.ref a == Value.ref b) = true
  · rw [if_pos hab]
    have e : a = b := by have := eq_of_beq hab; injection this
    subst e
    obtain rfl := hx.inj hy
    exact wpAny_bind (wpAny_rule (wpAny_pure (by simpa using h)))
  · rw [if_neg hab]
    exact wpAny_bind (wpAny_richCompare_same_room (op := .Eq) hx.typeIs hy.typeIs F.slot_tuple_eq
      (wpAny_call_entry F.slot_tuple_eq hx.typeIs F.entry_tuple_eq (nest_eq_tree (by first | omega | (show _ + _ < _; simp [Around.in1]; omega)) hx hy ⟨_, rfl, (fun e => nomatch e), wpAny_truthy_bool h⟩) (F.args_tuple_eq_2 _ _)) (by omega))
theorem wpAny_quiet_tuple (m : Nat) {ks : List K} {a : Addr} {Q : Bool → Shared → Prop} (hk : IsTupleKey knd s.heap ks a) (h : Q true s) : wpAny (model prog w) A (eqIsQuiet (m + 1) (.ref a)) Q E s := by
  have hT := hk.typeIs
  obtain ⟨o, items, n, ho, _, hd, hi⟩ := hk
  unfold eqIsQuiet
  refine wpAny_bind (wpAny_specialOf hT F.slot_tuple_eq.lookup ?_)
  show wpAny _ _ (isInstance (.ref a) (.type "tuple") >>= _) _ _ s
  refine wpAny_bind (wpAny_isInstance hT isSubtype_tuple_tuple ?_)
  simp only [Bool.not_true, Bool.false_eq_true, if_false]
  refine wpAny_bind (wpAny_seqItems ho hd ?_)
  refine wpAny_bind ?_
  show wpAny _ _ (forIn items _ _) _ _ s
  rw [← Array.forIn_toList]
  refine wpAny_forIn_list _ (fun rest r s' => r.1 = none ∧ s' = s ∧ ∀ v ∈ rest, carriedByValue v = true) _ ?_ ?_ _ _ ⟨rfl, rfl, hi.byValue⟩
  · rintro v rest r s' ⟨hr, rfl, hall⟩
    rw [eqIsQuiet_byValue _ (hall v List.mem_cons_self)]
    refine wpAny_bind (wpAny_pure ?_)
    simp only [Bool.not_true, Bool.false_eq_true, if_false]
    exact wpAny_pure ⟨rfl, rfl, fun u hu' => hall u (List.mem_cons_of_mem _ hu')⟩
  · rintro ⟨r1, r2⟩ s' ⟨hr, rfl, _⟩
    simp only at hr
    subst hr
    exact wpAny_pure h
theorem wpAny_quiet_nest (m : Nat) {ks : List (List K)} {a : Addr} {Q : Bool → Shared → Prop} (hk : IsNestKey knd s.heap ks a) (h : Q true s) : wpAny (model prog w) A (eqIsQuiet (m + 2) (.ref a)) Q E s := by
  have hT := hk.typeIs
  obtain ⟨o, items, n, ho, _, hd, hi⟩ := hk
  unfold eqIsQuiet
  refine wpAny_bind (wpAny_specialOf hT F.slot_tuple_eq.lookup ?_)
  show wpAny _ _ (isInstance (.ref a) (.type "tuple") >>= _) _ _ s
  refine wpAny_bind (wpAny_isInstance hT isSubtype_tuple_tuple ?_)
  simp only [Bool.not_true, Bool.false_eq_true, if_false]
  refine wpAny_bind (wpAny_seqItems ho hd ?_)
  refine wpAny_bind ?_
  show wpAny _ _ (forIn items _ _) _ _ s
  rw [← Array.forIn_toList]
  refine wpAny_forIn_list _ (fun rest r s' => r.1 = none ∧ s' = s ∧ ∃ x', NestAre knd s.heap x' rest) _ ?_ ?_ _ _ ⟨rfl, rfl, _, hi⟩
  · rintro v rest r s' ⟨hr, rfl, x', hall⟩
    cases hall with
    | cons h1 ht =>
      refine wpAny_bind (wpAny_quiet_tuple m h1 ?_)
      simp only [Bool.not_true, Bool.false_eq_true, if_false]
      exact wpAny_pure ⟨rfl, rfl, _, ht⟩
  · rintro ⟨r1, r2⟩ s' ⟨hr, rfl, _⟩
    simp only at hr
    subst hr
    exact wpAny_pure h
end
noncomputable def nestKind {prog : Program} {w : World} {K : Type} [DecidableEq K] (knd : KeyKind prog w K) : HeapKind prog w (List (List K)) where
  is := IsNestKey knd
  hash := nestHash knd
  draws := fun ks => nestDraws ks + 1
  room := fun A => A.units + 64 < cLine
  inj := fun hx hy => hx.inj hy
  keeps := fun x ho hd hs => x.keeps ho hd hs
  pyHash := fun hu hk h => wpAny_pyHash_nest hu hk h
  eqBool := fun hu hx hy h => wpAny_eqBool_nest hu hx hy h
  quiet := fun hk h => wpAny_quiet_nest 6 hk h
end PySem
namespace L2
open PySem PySem.Spec PyProof.Rows
theorem KN.val {K : PySem.W.Frag} {H : Hp} {kvs : List (NKey × V)} {xs : List (NKey × Addr × Value)} (r : KN K H kvs xs) (k : NKey) : RelO (valV kvs k) ((atKey xs k).map (·.2)) := by
  induction r with
  | nil => exact True.intro
  | @cons p q ps qs h t ih =>
    obtain ⟨h1, _, h2⟩ := h
    by_cases e : p.1 = k
    · have e' : q.1 = k := h1.symm.trans e
      have b : atKey (q :: qs) k = some q.2 := by simp [atKey, List.find?_cons, e']
      rw [valV_pos e, b]; exact h2
    · have e' : ¬ q.1 = k := fun z => e (h1.trans z)
      have b : atKey (q :: qs) k = atKey qs k := by simp [atKey, List.find?_cons, e']
      rw [valV_neg e, b]; exact ih
theorem KN.repl {K : PySem.W.Frag} {H : Hp} {kvs : List (NKey × V)} {xs : List (NKey × Addr × Value)} (r : KN K H kvs xs) (k : NKey) {y : V} {u : Value} (ry : RelV y u) :
    KN K H (kvs.map fun kv => if kv.1 = k then (kv.1, y) else kv) (xs.map (putAt k u)) := by
  induction r with
  | nil => exact .nil
  | @cons p q ps qs h t ih =>
    rw [List.map_cons, List.map_cons]
    refine .cons ?_ ih
    obtain ⟨h1, h2, h3⟩ := h
    unfold putAt
    by_cases e : p.1 = k
    · rw [if_pos e, if_pos (h1.symm.trans e)]; exact ⟨h1, h2, ry⟩
    · rw [if_neg e, if_neg (fun z => e (h1.trans z))]; exact ⟨h1, h2, h3⟩
theorem KN.put {K : PySem.W.Frag} {H : Hp} {kvs : List (NKey × V)} {xs : List (NKey × Addr × Value)} (r : KN K H kvs xs) (k : NKey) {b : Addr} {y : V} {u : Value} (hb : NTup K H k b) (ry : RelV y u) :
    KN K H (putK kvs k y) (storedH xs k b u) := by
  have e : (kvs.any fun kv => decide (kv.1 = k)) = (atKey xs k).isSome := by
    rw [valV_any, (r.val k).isSome_eq, Option.isSome_map]
  unfold putK storedH
  rw [e]
  by_cases q : (atKey xs k).isSome = true
  · rw [if_pos q, if_pos q]; exact r.repl k ry
  · rw [if_neg q, if_neg q]; exact Paired.snoc r ⟨rfl, hb, ry⟩
theorem ref_vals : ∀ {cs : List Addr} {us : List Value}, Vals (cs.map V.ref) us → us = cs.map Value.ref
  | [], _, r => by rw [List.map_nil] at r; cases r; rfl
  | c :: cs, _, r => by
    rw [List.map_cons] at r
    cases r with
    | @cons _ u _ us h t =>
      cases (show u = Value.ref c from h)
      rw [ref_vals t]; rfl
theorem int_items {P : Program} {w : World} : ∀ {ks : List Int} {us : List Value}, Vals (ks.map V.int) us → ItemsAre (intKind P w) ks us
  | [], _, r => by rw [List.map_nil] at r; cases r; exact .nil
  | k :: ks, _, r => by
    rw [List.map_cons] at r
    cases r with
    | @cons _ u _ us h t =>
      obtain ⟨n, e⟩ := (show ∃ t, u = Value.int k t from h)
      subst e
      exact .cons (by show Value.isInt k (.int k n) = true; simp [Value.isInt]) (int_items t)
theorem nd_ok {P : Program} {w : World} {a : Addr} {H' : Hp} {h' : Heap} {xs : List (NKey × Addr × Value)} (z : xs.length ≤ sizeLine) (hd : (a == sysModules) = false) (dd : h'.DictOfH (nestKind (intKind P w)) a xs) : ObjOk P w H' h' a (NDict a xs) := by
  obtain ⟨o, es, ep, h1, h2, h3, h4, _, h5⟩ := dd
  exact ⟨⟨z, hd, h5, o, es, ep, h1, h2, h3, h4⟩, ⟨o, h1⟩, fun g1 g2 ⟨a1, a2, a3, o', es', ep', b1, b2⟩ k => ⟨a1, a2, a3, o', es', ep', k _ b1, b2⟩⟩
section
variable {X : Cx} {pins : List (Addr × Obj)} {σ : St} {H : Hp} {s : Shared} {a b : Addr} {v : V} {u r : Value} {A : Around} {E : Value → Shared → Prop} {kvs : List (NKey × V)} {xs : List (NKey × Addr × Value)} {k : NKey}
theorem ikey_of {ks : List Int} (I : Inv X pins σ H s) (e : SqT X.K H a (ks.map V.int)) : (tupleKind (intKind X.prog X.w)).is s.heap ks a := by
  obtain ⟨its, r, ⟨o, h1, h2, n, h3⟩, _⟩ := I.tuple e
  exact ⟨o, its.toArray, n, h1, h2, h3, by simpa using int_items r⟩
theorem nest_are {ks : NKey} {cs : List Addr} (I : Inv X pins σ H s) (r : Paired (fun (k : List Int) c => SqT X.K H c (k.map V.int)) ks cs) : NestAre (intKind X.prog X.w) s.heap ks (cs.map Value.ref) := by
  induction r with
  | nil => exact .nil
  | cons h1 _ ih => exact .cons (ikey_of I h1) ih
theorem nkey_of {ks : NKey} (I : Inv X pins σ H s) (n : NTup X.K H ks a) : (nestKind (intKind X.prog X.w)).is s.heap ks a := by
  obtain ⟨cs, e, r⟩ := n
  obtain ⟨its, r2, ⟨o, h1, h2, n, h3⟩, _⟩ := I.tuple e
  exact ⟨o, its.toArray, n, h1, h2, h3, by rw [ref_vals r2]; simpa using nest_are I r⟩
theorem nd_of (I : Inv X pins σ H s) (e : H a = some (NDict a xs)) (r : KN X.K H kvs xs) : kvs.length ≤ sizeLine ∧ (a == sysModules) = false ∧ s.heap.DictOfH (nestKind (intKind X.prog X.w)) a xs := by
  obtain ⟨⟨z, y, h5, o, es, ep, h1, h2, h3, h4⟩, _⟩ := (show ObjOk X.prog X.w H s.heap a (NDict a xs) from I.hok a _ e)
  refine ⟨by rw [Paired.length r]; exact z, y, o, es, ep, h1, h2, h3, h4, fun x hx => ?_, h5⟩
  have all : ∀ {l : List (NKey × V)} {m : List (NKey × Addr × Value)}, KN X.K H l m → ∀ x ∈ m, (nestKind (intKind X.prog X.w)).is s.heap x.1 x.2.1 := by
    intro l m q
    induction q with
    | nil => intro x hx; exact nomatch hx
    | @cons p q ps qs hq t ih =>
      intro x hx
      rcases List.mem_cons.mp hx with e | hx
      · subst e
        exact nkey_of I (by rw [← hq.1]; exact hq.2.1)
      · exact ih x hx
  exact all r x hx
theorem n_room (hu : A.units + 65 < cLine) : (nestKind (intKind X.prog X.w)).room A.in1 := show A.units + 1 + 64 < cLine by omega
theorem n_getItem {Q : Value → Shared → Prop} (hu : A.units + 65 < cLine) (I : Inv X pins σ H s) (e : H a = some (NDict a xs)) (rel : KN X.K H kvs xs) (eb : NTup X.K H k b) (l : valV kvs k = some v) (h : ∀ w' s', Inv X pins σ H s' → RelV v w' → Q w' s') :
    wpAny (model X.prog X.w) A (getItem (.ref a) (.ref b)) Q E s := by
  obtain ⟨z, hd, dd⟩ := nd_of I e rel
  obtain ⟨w', hw, rw'⟩ := RelO.some_of (v := v) (o := (atKey xs k).map (·.2)) (by rw [← l]; exact rel.val k)
  obtain ⟨p, hp, hp2⟩ := Option.map_eq_some_iff.mp hw
  refine wpAny_getItem_heap (n_room hu) (nkey_of I eb) dd hp ?_
  rw [hp2]
  exact h w' _ (I.tok _) rw'
theorem n_notIn {Q : Value → Shared → Prop} (hu : A.units + 65 < cLine) (I : Inv X pins σ H s) (e : H a = some (NDict a xs)) (rel : KN X.K H kvs xs) (eb : NTup X.K H k b) (h : ∀ s', Inv X pins σ H s' → Q (.bool (!(valV kvs k).isSome)) s') :
    wpAny (model X.prog X.w) A (compareOp .NotIn (.ref b) (.ref a)) Q E s := by
  obtain ⟨z, hd, dd⟩ := nd_of I e rel
  refine wpAny_notIn_heap (n_room hu) (nkey_of I eb) hd dd ?_
  have q := (rel.val k).isSome_eq
  rw [Option.isSome_map] at q
  rw [← q]
  exact h _ (I.tok _)
theorem n_setItem {Q : Unit → Shared → Prop} (hu : A.units + 65 < cLine) (I : Inv X pins σ H s) (e : H a = some (NDict a xs)) (rel : KN X.K H kvs xs) (eb : NTup X.K H k b) (rv : RelV v r) (hl : kvs.length < sizeLine)
    (h : ∀ s', Inv X pins σ (upd H a (NDict a (storedH xs k b r))) s' → Q () s') : wpAny (model X.prog X.w) A (setItem (.ref a) (.ref b) r) Q E s := by
  obtain ⟨z, hd, dd⟩ := nd_of I e rel
  have hz : xs.length ≤ sizeLine := by rw [← Paired.length rel]; exact z
  refine wpAny_setItem_heap (hsz := hz) (n_room hu) (nkey_of I eb) dd fun h' dd' hs => ?_
  have hl2 : (storedH xs k b r).length ≤ sizeLine := by have := length_putK kvs k v; rw [← Paired.length (rel.put k eb rv)]; omega
  have he : ∃ q, h'.get? a = some q := let ⟨q, _, _, hq, _⟩ := dd'; ⟨q, hq⟩
  exact h _ (d_write I (by rw [e]; exact True.intro) hs he (nd_ok hl2 hd dd'))
theorem n_new (I : Inv X pins σ H s) (e : H a = some (.dK [])) : Inv X pins σ (upd H a (NDict a [])) s := by
  obtain ⟨z, hd, vs, rel, dd⟩ := dk_of I.hok e
  cases rel
  obtain ⟨o, es, ep, h1, h2, h3, _, h4, _⟩ := dd
  have hes : es.toList = [] := by cases h : es.toList with
    | nil => rfl
    | cons x t => rw [h] at h4; cases h4
  exact d_write (t' := s.toks) I (by rw [e]; exact True.intro) ⟨rfl, fun _ _ => rfl⟩ ⟨o, h1⟩ (nd_ok (P := X.prog) (w := X.w) (Nat.zero_le _) hd ⟨o, es, ep, h1, h2, h3, by rw [hes]; rfl, fun x hx => (nomatch hx), List.nodup_nil⟩)
end
end L2
namespace L3
open PySem PySem.Spec PyProof.Rows L2
structure Exn where
  cls : Str
  arg : Option PyData
inductive Res (α : Type) where
  | ok (a : α)
  | err (x : Exn)
  | bad
noncomputable def Res.bind {α β : Type} : Res α → (α → Res β) → Res β
  | .ok a, f => f a
  | .err x, _ => .err x
  | .bad, _ => .bad
@[simp] theorem Res.ok_bind {α β : Type} (a : α) (f : α → Res β) : (Res.ok a).bind f = f a := rfl
@[simp] theorem Res.err_bind {α β : Type} (x : Exn) (f : α → Res β) : (Res.err x : Res α).bind f = .err x := rfl
@[simp] theorem Res.bad_bind {α β : Type} (f : α → Res β) : (Res.bad : Res α).bind f = .bad := rfl
theorem Res.bind_ok {α β : Type} {r : Res α} {f : α → Res β} {b : β} (h : r.bind f = .ok b) : ∃ a, r = .ok a ∧ f a = .ok b := by
  cases r with
  | ok a => exact ⟨a, rfl, h⟩
  | err x => cases h
  | bad => cases h
noncomputable def gd {α : Type} (c : Prop) [Decidable c] (r : Res α) : Res α := if c then r else .bad
theorem gd_ok {α : Type} {c : Prop} [Decidable c] {r : Res α} {a : α} (h : gd c r = .ok a) : c ∧ r = .ok a := by
  unfold gd at h
  by_cases hc : c
  · rw [if_pos hc] at h; exact ⟨hc, h⟩
  · rw [if_neg hc] at h; cases h
theorem gd_pos {α : Type} {c : Prop} [Decidable c] {r : Res α} (h : c) : gd c r = r := if_pos h
noncomputable abbrev Ev := List (Option PyData)
inductive Out where
  | nx (Γ : Ev)
  | rt (d : PyData)
  | bk (Γ : Ev)
  | ct (Γ : Ev)
noncomputable abbrev ME := Ev → Res PyData
noncomputable abbrev MS := Ev → Res Out
noncomputable def keyD : PyData → Option Key
  | .int i => some (.inl i)
  | .str x => some (.inr x)
  | _ => none
mutual
noncomputable def Rp (K : PySem.W.Frag) (A : Hp) : PyData → V → Prop
  | .none, v => v = .non
  | .bool b, v => v = .bl b
  | .int i, v => v = .int i
  | .str x, v => v = .str x
  | .list ds, v => ∃ a vs, v = .ref a ∧ SqL K A a vs ∧ RpAll K A ds vs
  | .tuple ds, v => ∃ a vs, v = .ref a ∧ SqT K A a vs ∧ RpAll K A ds vs
  | .dict kvs, v => ∃ a u, v = .ref a ∧ A a = some (.dK u) ∧ RpKV K A kvs u
noncomputable def RpAll (K : PySem.W.Frag) (A : Hp) : List PyData → List V → Prop
  | [], vs => vs = []
  | d :: ds, vs => ∃ v r, vs = v :: r ∧ Rp K A d v ∧ RpAll K A ds r
noncomputable def RpKV (K : PySem.W.Frag) (A : Hp) : List (PyData × PyData) → List (Key × V) → Prop
  | [], u => u = []
  | (k, d) :: r, u => ∃ key v u', u = (key, v) :: u' ∧ keyD k = some key ∧ Rp K A d v ∧ RpKV K A r u'
end
theorem Same.rd {H H' : Hp} (e : Same H H') {a : Addr} {u : HO} (h : Rd H a u) : Rd H' a u := by
  rcases h with h | ⟨o, h⟩
  · exact .inl (e _ _ h)
  · exact .inr ⟨o, e _ _ h⟩
mutual
theorem Rp.mono {K : PySem.W.Frag} {H H' : Hp} (e : Same H H') : ∀ (d : PyData) {v : V}, Rp K H d v → Rp K H' d v
  | .none, v, h => by rw [Rp] at h ⊢; exact h
  | .bool _, v, h => by rw [Rp] at h ⊢; exact h
  | .int _, v, h => by rw [Rp] at h ⊢; exact h
  | .str _, v, h => by rw [Rp] at h ⊢; exact h
  | .list ds, v, h => by
    rw [Rp] at h ⊢
    obtain ⟨a, vs, h1, h2, h3⟩ := h
    exact ⟨a, vs, h1, e.seq h2, RpAll.mono e ds h3⟩
  | .tuple ds, v, h => by
    rw [Rp] at h ⊢
    obtain ⟨a, vs, h1, h2, h3⟩ := h
    exact ⟨a, vs, h1, e.seqT h2, RpAll.mono e ds h3⟩
  | .dict kvs, v, h => by
    rw [Rp] at h ⊢
    obtain ⟨a, u, h1, h2, h3⟩ := h
    exact ⟨a, u, h1, e _ _ h2, RpKV.mono e kvs h3⟩
theorem RpAll.mono {K : PySem.W.Frag} {H H' : Hp} (e : Same H H') : ∀ (ds : List PyData) {vs : List V}, RpAll K H ds vs → RpAll K H' ds vs
  | [], vs, h => by rw [RpAll] at h ⊢; exact h
  | d :: ds, vs, h => by
    rw [RpAll] at h ⊢
    obtain ⟨v, r, h1, h2, h3⟩ := h
    exact ⟨v, r, h1, Rp.mono e d h2, RpAll.mono e ds h3⟩
theorem RpKV.mono {K : PySem.W.Frag} {H H' : Hp} (e : Same H H') : ∀ (kvs : List (PyData × PyData)) {u : List (Key × V)}, RpKV K H kvs u → RpKV K H' kvs u
  | [], u, h => by rw [RpKV] at h ⊢; exact h
  | (k, d) :: r, u, h => by
    rw [RpKV] at h ⊢
    obtain ⟨key, v, u', h1, h2, h3, h4⟩ := h
    exact ⟨key, v, u', h1, h2, Rp.mono e d h3, RpKV.mono e r h4⟩
end
mutual
theorem Rp.is {K : PySem.W.Frag} {H : Hp} : ∀ (d : PyData) {v : V}, d.canLay0 = true → Rp K H d v → Is K H d v
  | .none, v, _, h => by rw [Rp] at h; rw [Is]; exact h
  | .bool _, v, _, h => by rw [Rp] at h; rw [Is]; exact h
  | .int _, v, _, h => by rw [Rp] at h; rw [Is]; exact h
  | .str _, v, _, h => by rw [Rp] at h; rw [Is]; exact h
  | .list ds, v, c, h => by
    rw [Rp] at h; rw [Is]
    rw [PyData.canLay0] at c
    obtain ⟨a, vs, h1, h2, h3⟩ := h
    exact ⟨a, vs, h1, h2, RpAll.is ds c h3⟩
  | .tuple ds, v, c, h => by
    rw [Rp] at h; rw [Is]
    rw [PyData.canLay0] at c
    obtain ⟨a, vs, h1, h2, h3⟩ := h
    exact ⟨a, vs, h1, h2, RpAll.is ds c h3⟩
  | .dict _, v, c, h => by rw [PyData.canLay0] at c; cases c
theorem RpAll.is {K : PySem.W.Frag} {H : Hp} : ∀ (ds : List PyData) {vs : List V}, PyData.canLayAll0 ds = true → RpAll K H ds vs → IsAll K H ds vs
  | [], vs, _, h => by rw [RpAll] at h; rw [IsAll]; exact h
  | d :: ds, vs, c, h => by
    rw [RpAll] at h; rw [IsAll]
    rw [PyData.canLayAll0, Bool.and_eq_true] at c
    obtain ⟨v, r, h1, h2, h3⟩ := h
    exact ⟨v, r, h1, Rp.is d c.1 h2, RpAll.is ds c.2 h3⟩
end
section
variable {K : PySem.W.Frag} {A H : Hp} {v : V}
theorem Rp.int {i : Int} : Rp K A (.int i) v ↔ v = .int i := by rw [Rp]
theorem Rp.bool {b : Bool} : Rp K A (.bool b) v ↔ v = .bl b := by rw [Rp]
theorem Rp.none : Rp K A .none v ↔ v = .non := by rw [Rp]
theorem Rp.str {x : Str} : Rp K A (.str x) v ↔ v = .str x := by rw [Rp]
theorem Rp.list {ds : List PyData} : Rp K A (.list ds) v ↔ ∃ a vs, v = .ref a ∧ SqL K A a vs ∧ RpAll K A ds vs := by rw [Rp]
theorem Rp.tuple {ds : List PyData} : Rp K A (.tuple ds) v ↔ ∃ a vs, v = .ref a ∧ SqT K A a vs ∧ RpAll K A ds vs := by rw [Rp]
theorem RpAll.nil {vs : List V} : RpAll K A [] vs ↔ vs = [] := by rw [RpAll]
theorem RpAll.cons {d : PyData} {ds : List PyData} {vs : List V} : RpAll K A (d :: ds) vs ↔ ∃ v r, vs = v :: r ∧ Rp K A d v ∧ RpAll K A ds r := by rw [RpAll]
theorem RpAll.length : ∀ {ds : List PyData} {vs : List V}, RpAll K A ds vs → ds.length = vs.length
  | [], vs, h => by rw [RpAll.nil] at h; rw [h]; rfl
  | d :: ds, vs, h => by
    rw [RpAll.cons] at h
    obtain ⟨v, r, rfl, _, h⟩ := h
    rw [List.length_cons, List.length_cons, RpAll.length h]
theorem RpAll.get : ∀ {ds : List PyData} {vs : List V} {i : Nat} {x : V}, RpAll K A ds vs → vs[i]? = some x → ∃ d, ds[i]? = some d ∧ Rp K A d x
  | [], vs, i, x, h, e => by rw [RpAll.nil] at h; subst h; simp at e
  | d :: ds, vs, i, x, h, e => by
    rw [RpAll.cons] at h
    obtain ⟨v, r, rfl, h1, h⟩ := h
    match i with
    | 0 => simp at e; subst e; exact ⟨d, rfl, h1⟩
    | i + 1 =>
      have e' : r[i]? = some x := by simpa using e
      obtain ⟨d', h2, h3⟩ := RpAll.get h e'
      exact ⟨d', by simpa using h2, h3⟩
theorem RpAll.get' : ∀ {ds : List PyData} {vs : List V} {i : Nat} {d : PyData}, RpAll K A ds vs → ds[i]? = some d → ∃ x, vs[i]? = some x ∧ Rp K A d x
  | [], vs, i, x, h, e => by simp at e
  | d :: ds, vs, i, x, h, e => by
    rw [RpAll.cons] at h
    obtain ⟨v, r, rfl, h1, h⟩ := h
    match i with
    | 0 => simp at e; subst e; exact ⟨v, rfl, h1⟩
    | i + 1 =>
      have e' : ds[i]? = some x := by simpa using e
      obtain ⟨d', h2, h3⟩ := RpAll.get' h e'
      exact ⟨d', by simpa using h2, h3⟩
theorem RpAll.append : ∀ {ds es : List PyData} {vs us : List V}, RpAll K A ds vs → RpAll K A es us → RpAll K A (ds ++ es) (vs ++ us)
  | [], es, vs, us, h, g => by rw [RpAll.nil] at h; subst h; exact g
  | d :: ds, es, vs, us, h, g => by
    rw [RpAll.cons] at h
    obtain ⟨v, r, rfl, h1, h⟩ := h
    rw [List.cons_append, List.cons_append, RpAll.cons]
    exact ⟨v, r ++ us, rfl, h1, RpAll.append h g⟩
theorem RpAll.one {d : PyData} {x : V} (h : Rp K A d x) : RpAll K A [d] [x] := by rw [RpAll.cons]; exact ⟨x, [], rfl, h, RpAll.nil.mpr rfl⟩
theorem RpAll.ints {ns : List Int} : RpAll K A (ns.map PyData.int) (ns.map V.int) := by
  induction ns with
  | nil => exact RpAll.nil.mpr rfl
  | cons n ns ih => exact RpAll.cons.mpr ⟨_, _, rfl, Rp.int.mpr rfl, ih⟩
end
inductive Fl where
  | imm | bor | own | fix (p : Addr) | exc (C : Addr) | nst (b : Bool)
  deriving DecidableEq
noncomputable def isO : Fl → Bool
  | .own => true
  | .fix _ => true
  | _ => false
noncomputable def isX : Fl → Bool
  | .exc _ => true
  | .nst _ => true
  | _ => false
noncomputable def ExcV (A : Hp) (C : Addr) (v : V) : Prop := ∃ p ob, v = .ref p ∧ A p = some (.frz ob (.own 0)) ∧ ob.cls = .ref C
noncomputable def intsD : List PyData → Option (List Int)
  | [] => some []
  | .int i :: r => match intsD r with
    | some l => some (i :: l)
    | none => none
  | _ :: _ => none
noncomputable def keysD : List PyData → Option NKey
  | [] => some []
  | .tuple ds :: r => match intsD ds, keysD r with
    | some a, some b => some (a :: b)
    | _, _ => none
  | _ :: _ => none
noncomputable def keyN : PyData → Option NKey
  | .tuple ds => keysD ds
  | _ => none
noncomputable def RpN (K : PySem.W.Frag) (A : Hp) (kvs : List (PyData × PyData)) (xs : List (NKey × Addr × Value)) : Prop := ∃ us : List (NKey × V), KN K A us xs ∧ Paired (fun p q => keyN p.1 = some q.1 ∧ Rp K A p.2 q.2) kvs us
noncomputable def NstV (K : PySem.W.Frag) (A B H : Hp) (d : PyData) (v : V) : Prop := ∃ p xs kvs, v = .ref p ∧ d = .dict kvs ∧ H p = some (NDict p xs) ∧ A p = none ∧ B p = none ∧ RpN K A kvs xs
noncomputable def Pk (K : PySem.W.Frag) (A H : Hp) (d : PyData) (v : V) : Prop :=
  Rp K A d v ∨ (∃ p vs ds, v = .ref p ∧ d = .list ds ∧ SqL K H p vs ∧ RpAll K A ds vs) ∨ ∃ p u kvs, v = .ref p ∧ d = .dict kvs ∧ H p = some (.dK u) ∧ RpKV K A kvs u
noncomputable def OwnO (K : PySem.W.Frag) (A : Hp) (d : PyData) (o : HO) : Prop := (∃ ds vs, d = .list ds ∧ o = .lst vs ∧ RpAll K A ds vs) ∨ ∃ kvs u, d = .dict kvs ∧ o = .dK u ∧ RpKV K A kvs u
noncomputable def Own (K : PySem.W.Frag) (A B H : Hp) (d : PyData) (v : V) : Prop := ∃ p o, v = .ref p ∧ H p = some o ∧ A p = none ∧ B p = none ∧ OwnO K A d o
noncomputable def SlotV (K : PySem.W.Frag) (A B H : Hp) : Fl → PyData → V → Prop
  | .imm, d, v => Rp K A d v
  | .bor, d, v => Pk K A B d v
  | .own, d, v => Own K A B H d v
  | .fix p, d, v => v = .ref p ∧ Own K A B H d v
  | .exc C, _, v => ExcV A C v
  | .nst b, d, v => b = true → NstV K A B H d v
noncomputable def Slot (K : PySem.W.Frag) (A B H : Hp) (f : Fl) (d : Option PyData) (v : Option V) : Prop := ∀ d', d = some d' → ∃ v', v = some v' ∧ SlotV K A B H f d' v'
noncomputable abbrev fl (O : List Fl) (i : Nat) : Fl := O.getD i .imm
noncomputable abbrev gv (Γ : Ev) (i : Nat) : Option PyData := Γ.getD i none
noncomputable abbrev sv (σ : L2.St) (i : Nat) : Option V := σ.getD i none
structure StRep (K : PySem.W.Frag) (A B H : Hp) (O : List Fl) (σ : L2.St) (Γ : Ev) : Prop where
  a : Same A H
  b : Same B H
  len : Γ.length = σ.length
  slot : ∀ i, Slot K A B H (fl O i) (gv Γ i) (sv σ i)
  sep : ∀ i j, i ≠ j → isO (fl O i) = true → isO (fl O j) = true → gv Γ i ≠ none → gv Γ j ≠ none → sv σ i ≠ sv σ j
noncomputable def New (A A' B : Hp) : Prop := ∀ p, A p = none → B p ≠ none → A' p = none
structure Grow (A H A' H' : Hp) : Prop where
  aa : Same A A'
  hh : Same H H'
  ah : Same A' H'
  nw : New A A' H
theorem Grow.refl {A H : Hp} (h : Same A H) : Grow A H A H := ⟨Same.refl _, Same.refl _, h, fun _ h _ => h⟩
theorem Same.ne {H H' : Hp} (e : Same H H') {p : Addr} (h : H p ≠ none) : H' p ≠ none := by
  cases q : H p with
  | none => exact absurd q h
  | some o => rw [e p o q]; simp
theorem Grow.trans {A H A1 H1 A2 H2 : Hp} (g : Grow A H A1 H1) (g' : Grow A1 H1 A2 H2) : Grow A H A2 H2 :=
  ⟨g.aa.trans g'.aa, g.hh.trans g'.hh, g'.ah, fun p h1 h2 => g'.nw p (g.nw p h1 h2) (Same.ne g.hh h2)⟩
theorem New.mono {A A' B B' : Hp} (n : New A A' B') (s : Same B B') : New A A' B := fun p h1 h2 => n p h1 (Same.ne s h2)
theorem New.trans {A A1 A2 B : Hp} (n : New A A1 B) (m : New A1 A2 B) : New A A2 B := fun p h1 h2 => m p (n p h1 h2) h2
section
variable {K : PySem.W.Frag} {A B H A' H' : Hp} {O : List Fl} {σ : L2.St} {Γ : Ev} {d : PyData} {v : V}
theorem Pk.mono (ha : Same A A') (hh : Same H H') (h : Pk K A H d v) : Pk K A' H' d v := by
  rcases h with h | ⟨p, vs, ds, e1, e2, h1, h2⟩ | ⟨p, u, kvs, e1, e2, h1, h2⟩
  · exact .inl (Rp.mono ha d h)
  · exact .inr (.inl ⟨p, vs, ds, e1, e2, hh.seq h1, RpAll.mono ha ds h2⟩)
  · exact .inr (.inr ⟨p, u, kvs, e1, e2, hh _ _ h1, RpKV.mono ha kvs h2⟩)
theorem OwnO.mono {o : HO} (ha : Same A A') (h : OwnO K A d o) : OwnO K A' d o := by
  rcases h with ⟨ds, vs, e1, e2, h⟩ | ⟨kvs, u, e1, e2, h⟩
  · exact .inl ⟨ds, vs, e1, e2, RpAll.mono ha ds h⟩
  · exact .inr ⟨kvs, u, e1, e2, RpKV.mono ha kvs h⟩
theorem RpN.mono {kvs : List (PyData × PyData)} {xs : List (NKey × Addr × Value)} (ha : Same A A') (h : RpN K A kvs xs) : RpN K A' kvs xs := by
  obtain ⟨us, h1, h2⟩ := h
  exact ⟨us, h1.keeps fun b ys e => ha.seqT e, Paired.mapP h2 fun _ _ z => ⟨z.1, Rp.mono ha _ z.2⟩⟩
theorem OwnO.nx {o : HO} {p : Addr} {xs : List (NKey × Addr × Value)} (h : OwnO K A d o) (e : some o = some (NDict p xs)) : False := by
  rcases h with ⟨ds, vs, e1, e2, h⟩ | ⟨kvs, u, e1, e2, h⟩ <;> (rw [e2] at e; cases e)
theorem SlotV.grow (g : Grow A H A' H') {f : Fl} (h : SlotV K A B H f d v) : SlotV K A' B H' f d v := by
  cases f with
  | imm => exact Rp.mono g.aa d h
  | bor => exact Pk.mono g.aa (Same.refl _) h
  | own =>
    obtain ⟨p, o, e, h1, h2, h3, h4⟩ := h
    exact ⟨p, o, e, g.hh _ _ h1, g.nw p h2 (by rw [h1]; simp), h3, h4.mono g.aa⟩
  | fix p0 =>
    obtain ⟨e0, p, o, e, h1, h2, h3, h4⟩ := h
    exact ⟨e0, p, o, e, g.hh _ _ h1, g.nw p h2 (by rw [h1]; simp), h3, h4.mono g.aa⟩
  | exc C =>
    obtain ⟨p, ob, e, h1, h2⟩ := h
    exact ⟨p, ob, e, g.aa _ _ h1, h2⟩
  | nst b =>
    intro z
    obtain ⟨p, xs, kvs, w1, w2, w3, w4, w5, w6⟩ := h z
    exact ⟨p, xs, kvs, w1, w2, g.hh _ _ w3, g.nw p w4 (by rw [w3]; simp), w5, w6.mono g.aa⟩
theorem Slot.grow (g : Grow A H A' H') {f : Fl} {d : Option PyData} {v : Option V} (h : Slot K A B H f d v) : Slot K A' B H' f d v := fun d' e =>
  let ⟨v', e', q⟩ := h d' e; ⟨v', e', q.grow g⟩
theorem StRep.grow (g : Grow A H A' H') (r : StRep K A B H O σ Γ) : StRep K A' B H' O σ Γ :=
  ⟨g.ah, r.b.trans g.hh, r.len, fun i => (r.slot i).grow g, r.sep⟩
theorem OwnO.share {o : HO} {p : Addr} (h : OwnO K A d o) (s : Same A (upd A p o)) : Rp K (upd A p o) d (.ref p) := by
  rcases h with ⟨ds, vs, e1, e2, h⟩ | ⟨kvs, u, e1, e2, h⟩
  · subst e1; subst e2
    exact Rp.list.mpr ⟨p, vs, rfl, SqL.of upd_same, RpAll.mono s ds h⟩
  · subst e1; subst e2
    exact (by rw [Rp]; exact ⟨p, u, rfl, upd_same, RpKV.mono s kvs h⟩)
theorem Own.pk (h : Own K A B H d v) : Pk K A H d v := by
  obtain ⟨p, o, e, h1, _, _, ⟨ds, vs, e2, e3, h4⟩ | ⟨kvs, u, e2, e3, h4⟩⟩ := h
  · subst e3
    exact .inr (.inl ⟨p, vs, ds, e, e2, SqL.of h1, h4⟩)
  · subst e3
    exact .inr (.inr ⟨p, u, kvs, e, e2, h1, h4⟩)
theorem SlotV.pk (hb : Same B H) {f : Fl} (h : SlotV K A B H f d v) (hx : isX f = false) : Pk K A H d v := by
  cases f with
  | imm => exact .inl h
  | bor => exact Pk.mono (Same.refl _) hb h
  | own => exact Own.pk h
  | fix p0 => exact Own.pk h.2
  | exc C => cases hx
  | nst b => cases hx
theorem Pk.list (ha : Same A H) {ds : List PyData} (h : Pk K A H (.list ds) v) : ∃ p vs, v = .ref p ∧ SqL K H p vs ∧ RpAll K A ds vs := by
  rcases h with h | ⟨p, vs, ds', e1, e2, h1, h2⟩ | ⟨p, u, kvs, e1, e2, h1, h2⟩
  · obtain ⟨a, vs, e, h1, h2⟩ := Rp.list.mp h
    exact ⟨a, vs, e, ha.seq h1, h2⟩
  · cases e2
    exact ⟨p, vs, e1, h1, h2⟩
  · cases e2
theorem Pk.nolist (h : Pk K A H d v) (n : ∀ ds, d ≠ .list ds) (n2 : ∀ kvs, d ≠ .dict kvs) : Rp K A d v := by
  rcases h with h | ⟨p, vs, ds', e1, e2, h1, h2⟩ | ⟨p, u, kvs, e1, e2, h1, h2⟩
  · exact h
  · exact absurd e2 (n ds')
  · exact absurd e2 (n2 kvs)
theorem Pk.int {i : Int} (h : Pk K A H (.int i) v) : v = .int i := Rp.int.mp (h.nolist (fun _ z => nomatch z) (fun _ z => nomatch z))
theorem Pk.bool {i : Bool} (h : Pk K A H (.bool i) v) : v = .bl i := Rp.bool.mp (h.nolist (fun _ z => nomatch z) (fun _ z => nomatch z))
theorem Pk.none (h : Pk K A H .none v) : v = .non := Rp.none.mp (h.nolist (fun _ z => nomatch z) (fun _ z => nomatch z))
theorem Pk.str {x : Str} (h : Pk K A H (.str x) v) : v = .str x := Rp.str.mp (h.nolist (fun _ z => nomatch z) (fun _ z => nomatch z))
theorem Pk.tuple (ha : Same A H) {ds : List PyData} (h : Pk K A H (.tuple ds) v) : ∃ p vs, v = .ref p ∧ SqT K H p vs ∧ RpAll K A ds vs := by
  obtain ⟨a, vs, e, h1, h2⟩ := Rp.tuple.mp (h.nolist (fun _ z => nomatch z) (fun _ z => nomatch z))
  exact ⟨a, vs, e, ha.seqT h1, h2⟩
theorem Pk.is (ha : Same A H) (hc : SeqAt.shaped d = true) (h : Pk K A H d v) : Is K H d v := by
  have c := SeqAt.canLay_of_shaped hc
  rcases h with h | ⟨p, vs, ds', e1, e2, h1, h2⟩ | ⟨p, u, kvs, e1, e2, h1, h2⟩
  rotate_right
  · subst e2
    rw [PyData.canLay0] at c
    cases c
  · exact Is.mono ha d (Rp.is d c h)
  · subst e2
    rw [Is]
    rw [PyData.canLay0] at c
    exact ⟨p, vs, e1, h1, IsAll.mono ha ds' (RpAll.is ds' c h2)⟩
theorem Rp.dict {kvs : List (PyData × PyData)} : Rp K A (.dict kvs) v ↔ ∃ a u, v = .ref a ∧ A a = some (.dK u) ∧ RpKV K A kvs u := by rw [Rp]
theorem RpKV.nil {u : List (Key × V)} : RpKV K A [] u ↔ u = [] := by rw [RpKV]
theorem RpKV.cons {k d : PyData} {r : List (PyData × PyData)} {u : List (Key × V)} : RpKV K A ((k, d) :: r) u ↔ ∃ key v u', u = (key, v) :: u' ∧ keyD k = some key ∧ Rp K A d v ∧ RpKV K A r u' := by rw [RpKV]
theorem Pk.dict (ha : Same A H) {kvs : List (PyData × PyData)} (h : Pk K A H (.dict kvs) v) : ∃ a u, v = .ref a ∧ H a = some (.dK u) ∧ RpKV K A kvs u := by
  rcases h with h | ⟨p, vs, ds', e1, e2, h1, h2⟩ | ⟨p, u, kvs', e1, e2, h1, h2⟩
  · obtain ⟨a, u, e, h1, h2⟩ := Rp.dict.mp h
    exact ⟨a, u, e, ha _ _ h1, h2⟩
  · cases e2
  · cases e2
    exact ⟨p, u, e1, h1, h2⟩
theorem Grow.new {p : Addr} {o : HO} (ha : Same A H) (h : H p = none) : Grow A H (upd A p o) (upd H p o) :=
  ⟨Same.new (ha.free h) o, Same.new h o, fun b u q => by
    by_cases hb : b = p
    · subst hb; rw [upd_same] at q ⊢; exact q
    · rw [upd_ne hb] at q ⊢; exact ha b u q, fun b h1 h2 => by
    have hb : b ≠ p := fun z => h2 (z ▸ h)
    rw [upd_ne hb]; exact h1⟩
theorem Grow.lay {p : Addr} {o : HO} (ha : Same A H) (h : H p = none) : Grow A H A (upd H p o) :=
  ⟨Same.refl _, Same.new h o, ha.trans (Same.new h o), fun b h1 _ => h1⟩
end
end L3
namespace L3
open PySem PySem.Spec PyProof.Rows L2
noncomputable def noStar : Expr → Bool
  | .Starred _ _ => false
  | _ => true
noncomputable def noStars : List Expr → Bool
  | [] => true
  | e :: es => noStar e && noStars es
theorem star_cons {e : Expr} {es : List Expr} {env : Env} (h : noStar e = true) : starEach (e :: es) env = (false, eval e env) :: starEach es env := by
  cases e <;> first | rfl | cases h
theorem star_any : ∀ {es : List Expr} {env : Env} {pos : Pos}, noStars es = true → (backTo pos (starEach es env)).any (·.1) = false
  | [], _, _, _ => rfl
  | e :: es, env, pos, h => by
    rw [noStars, Bool.and_eq_true] at h
    rw [star_cons h.1]
    show (false || (backTo pos (starEach es env)).any (·.1)) = false
    rw [star_any h.2]
    rfl
noncomputable def tE (K : PySem.W.Frag) (O : List Fl) (m : ME) : TE := fun σ H Q => ∃ A B Γ d, StRep K A B H O σ Γ ∧ m Γ = .ok d ∧ ∀ v A' H', Grow A H A' H' → Rp K A' d v → Q v H'
noncomputable def tP (K : PySem.W.Frag) (O : List Fl) (m : ME) : TE := fun σ H Q => ∃ A B Γ d, StRep K A B H O σ Γ ∧ m Γ = .ok d ∧ ∀ v A' H', Grow A H A' H' → Pk K A' H' d v → Q v H'
noncomputable def FreshV (K : PySem.W.Frag) (H A' H' : Hp) (d : PyData) (v : V) : Prop := ∃ p o, v = .ref p ∧ H p = none ∧ H' p = some o ∧ A' p = none ∧ OwnO K A' d o
noncomputable def tF (K : PySem.W.Frag) (O : List Fl) (m : ME) : TE := fun σ H Q => ∃ A B Γ d, StRep K A B H O σ Γ ∧ m Γ = .ok d ∧ ∀ v A' H', Grow A H A' H' → FreshV K H A' H' d v → Q v H'
noncomputable def tT (K : PySem.W.Frag) (O : List Fl) (m : ME) : TT := fun σ H Q => ∃ A B Γ b, StRep K A B H O σ Γ ∧ m Γ = .ok (.bool b) ∧ ∀ A' H', Grow A H A' H' → Q b H'
section
variable {X : Cx}
theorem PE.imp {e : Expr} {t t' : TE} (h : PE X e t) (i : ∀ σ H Q, t' σ H Q → t σ H Q) : PE X e t' := fun pins s σ H Q I q => h pins s σ H Q I (i σ H Q q)
theorem PT.imp {e : Expr} {t t' : TT} (h : PT X e t) (i : ∀ σ H Q, t' σ H Q → t σ H Q) : PT X e t' := fun pins s σ H Q I q => h pins s σ H Q I (i σ H Q q)
theorem PW.imp {e : Expr} {t t' : TT} (h : PW X e t) (i : ∀ σ H Q, t' σ H Q → t σ H Q) : PW X e t' := fun w pins s σ H Q I q => h w pins s σ H Q I (i σ H Q q)
theorem PA.imp {e : List Expr} {t t' : TA} (h : PA X e t) (i : ∀ σ H Q, t' σ H Q → t σ H Q) : PA X e t' := fun pos pins s σ H Q I q => h pos pins s σ H Q I (i σ H Q q)
theorem PS.imp {e : Stmt} {t t' : TS} (h : PS X e t) (i : ∀ D σ H, t' D σ H → t D σ H) : PS X e t' := fun pins s σ H D I q => h pins s σ H D I (i D σ H q)
theorem PSs.imp {e : List Stmt} {t t' : TS} (h : PSs X e t) (i : ∀ D σ H, t' D σ H → t D σ H) : PSs X e t' := fun pins s σ H D I q => h pins s σ H D I (i D σ H q)
theorem PI.imp {tg e : Expr} {t t' : TI} (h : PI X tg e t) (i : ∀ σ H R, t' σ H R → t σ H R) : PI X tg e t' := fun pins s σ H R I q => h pins s σ H R I (i σ H R q)
end
section
variable (X : Cx)
structure QE (e : Expr) (t : TE) : Prop where
  h : PE X e t
structure QT (e : Expr) (t : TT) : Prop where
  h : PT X e t
structure QW (e : Expr) (t : TT) : Prop where
  h : PW X e t
structure QA (e : List Expr) (t : TA) : Prop where
  h : PA X e t
structure QS (e : Stmt) (t : TS) : Prop where
  h : PS X e t
structure QSs (e : List Stmt) (t : TS) : Prop where
  h : PSs X e t
structure QI (tg e : Expr) (t : TI) : Prop where
  h : PI X tg e t
structure QG (tg : Expr) (t : TG) : Prop where
  h : PG X tg t
structure QGs (tg : List Expr) (t : TGs) : Prop where
  h : PGs X tg t
structure QIfs (e : List Expr) (t : TT) : Prop where
  h : PIfs X e t
end
section
variable {X : Cx}
theorem QE.imp {e : Expr} {t t' : TE} (h : PE X e t) (i : ∀ σ H Q, t' σ H Q → t σ H Q) : QE X e t' := ⟨PE.imp h i⟩
theorem QT.imp {e : Expr} {t t' : TT} (h : PT X e t) (i : ∀ σ H Q, t' σ H Q → t σ H Q) : QT X e t' := ⟨PT.imp h i⟩
theorem QW.imp {e : Expr} {t t' : TT} (h : PW X e t) (i : ∀ σ H Q, t' σ H Q → t σ H Q) : QW X e t' := ⟨PW.imp h i⟩
theorem QA.imp {e : List Expr} {t t' : TA} (h : PA X e t) (i : ∀ σ H Q, t' σ H Q → t σ H Q) : QA X e t' := ⟨PA.imp h i⟩
theorem QS.imp {e : Stmt} {t t' : TS} (h : PS X e t) (i : ∀ D σ H, t' D σ H → t D σ H) : QS X e t' := ⟨PS.imp h i⟩
theorem QSs.imp {e : List Stmt} {t t' : TS} (h : PSs X e t) (i : ∀ D σ H, t' D σ H → t D σ H) : QSs X e t' := ⟨PSs.imp h i⟩
theorem QI.imp {tg e : Expr} {t t' : TI} (h : PI X tg e t) (i : ∀ σ H R, t' σ H R → t σ H R) : QI X tg e t' := ⟨PI.imp h i⟩
end
section
variable {X : Cx} {K : PySem.W.Frag} {O : List Fl} {m m1 m2 : ME} {e a b c : Expr} {pos : Pos}
theorem sp (h : QE X e (tE K O m)) : QE X e (tP K O m) := QE.imp h.h fun σ H Q hq__ => by obtain ⟨A, B, Γ, d, r, em, k⟩ := hq__; exact ⟨A, B, Γ, d, r, em, fun v A' H' g p => k v A' H' g (.inl p)⟩
theorem FreshV.share {A H A' H' : Hp} {d : PyData} {v : V} (g : Grow A H A' H') (h : FreshV K H A' H' d v) : ∃ A'', Grow A H A'' H' ∧ Rp K A'' d v := by
  obtain ⟨p, o, rfl, h1, h2, h3, h4⟩ := h
  have s : Same A' (upd A' p o) := Same.new h3 _
  refine ⟨upd A' p o, ⟨g.aa.trans s, g.hh, fun b u q => ?_, fun b n1 n2 => ?_⟩, h4.share s⟩
  · by_cases hb : b = p
    · subst hb; rw [upd_same] at q; rw [h2]; exact q
    · rw [upd_ne hb] at q; exact g.ah b u q
  · have hb : b ≠ p := fun z => n2 (z ▸ h1)
    rw [upd_ne hb]; exact g.nw b n1 n2
theorem sfe (h : QE X e (tF K O m)) : QE X e (tE K O m) := QE.imp h.h fun σ H Q ⟨A, B, Γ, d, r, em, k⟩ => ⟨A, B, Γ, d, r, em, fun v A' H' g p => by
  obtain ⟨A'', g', p'⟩ := p.share g
  exact k v A'' H' g' p'⟩
theorem sfp (h : QE X e (tF K O m)) : QE X e (tP K O m) := sp (sfe h)
noncomputable def eVar (i : Nat) : ME := fun Γ => match gv Γ i with
  | some d => .ok d
  | none => .bad
noncomputable def eC (d : PyData) : ME := fun _ => .ok d
theorem eVar_ok {i : Nat} {Γ : Ev} {d : PyData} (h : eVar i Γ = .ok d) : gv Γ i = some d := by
  unfold eVar at h
  cases q : gv Γ i with
  | none => rw [q] at h; cases h
  | some d' => rw [q] at h; cases h; rfl
theorem sv_get {σ : L2.St} {i : Nat} {v : V} (h : sv σ i = some v) : σ[i]? = some (some v) := by
  unfold sv at h
  rw [List.getD_eq_getElem?_getD] at h
  cases q : σ[i]? with
  | none => rw [q] at h; cases h
  | some o => rw [q] at h; exact congrArg some h
theorem sp_var (i : Nat) {x : Str} (hN : X.N[i]? = some x := by rfl) (hv : Vis X.env.scope x := by first | exact Or.inl rfl | exact Or.inr (Or.inl rfl) | exact Or.inr (Or.inr rfl)) (hd : (x == ("__debug__" : Str)) = false := by decide)
    (hcd : (x == ("__classdict__" : Str)) = false := by decide) (hx : isX (fl O i) = false := by rfl) : QE X (.Name x pos) (tP K O (eVar i)) := QE.imp (pe_var hN hv hd hcd) fun σ H Q hq__ => by
  obtain ⟨A, B, Γ, d, r, em, k⟩ := hq__
  obtain ⟨v, e1, q⟩ := r.slot i d (eVar_ok em)
  exact ⟨v, sv_get e1, k v A H (Grow.refl r.a) (q.pk r.b hx)⟩
theorem se_var (i : Nat) {x : Str} (hi : fl O i = .imm := by rfl) (hN : X.N[i]? = some x := by rfl) (hv : Vis X.env.scope x := by first | exact Or.inl rfl | exact Or.inr (Or.inl rfl) | exact Or.inr (Or.inr rfl)) (hd : (x == ("__debug__" : Str)) = false := by decide)
    (hcd : (x == ("__classdict__" : Str)) = false := by decide) : QE X (.Name x pos) (tE K O (eVar i)) := QE.imp (pe_var hN hv hd hcd) fun σ H Q hq__ => by
  obtain ⟨A, B, Γ, d, r, em, k⟩ := hq__
  obtain ⟨v, e1, q⟩ := r.slot i d (eVar_ok em)
  rw [hi] at q
  exact ⟨v, sv_get e1, k v A H (Grow.refl r.a) q⟩
theorem se_C {v : V} {d : PyData} (h : PE X e (tC v)) (hr : ∀ A, Rp K A d v) : QE X e (tE K O (eC d)) := QE.imp h fun σ H Q hq__ => by
  obtain ⟨A, B, Γ, d', r, em, k⟩ := hq__
  cases em
  exact k v A H (Grow.refl r.a) (hr A)
theorem se_int {i : Int} {j pos} : QE X (.Constant (.int i) j pos) (tE K O (eC (.int i))) := se_C pe_int fun _ => Rp.int.mpr rfl
theorem se_bl {i : Bool} {j pos} : QE X (.Constant (.bool i) j pos) (tE K O (eC (.bool i))) := se_C pe_bl fun _ => Rp.bool.mpr rfl
noncomputable def eBin (f : PyData → PyData → Res PyData) (a b : ME) : ME := fun Γ => (a Γ).bind fun x => (b Γ).bind fun y => f x y
noncomputable def rD (K : PySem.W.Frag) (f : PyData → PyData → Res PyData) : R2 := fun x y H Q => ∃ A d1 d2 d, f d1 d2 = .ok d ∧ Same A H ∧ Pk K A H d1 x ∧ Pk K A H d2 y ∧ ∀ v A' H', Grow A H A' H' → Rp K A' d v → Q v H'
theorem tE_bin {f : PyData → PyData → Res PyData} {σ : L2.St} {H : Hp} {Q : VK} (h : tE K O (eBin f m1 m2) σ H Q) : tOp (rD K f) (tP K O m1) (tP K O m2) σ H Q := by
  obtain ⟨A, B, Γ, d, r, em, k⟩ := h
  obtain ⟨d1, e1, em⟩ := Res.bind_ok em
  obtain ⟨d2, e2, em⟩ := Res.bind_ok em
  refine ⟨A, B, Γ, d1, r, e1, fun x A1 H1 g1 p1 => ⟨A1, B, Γ, d2, r.grow g1, e2, fun y A2 H2 g2 p2 => ⟨A2, d1, d2, d, em, g2.ah, p1.mono g2.aa g2.hh, p2, fun v A' H' g3 p3 => k v A' H' ((g1.trans g2).trans g3) p3⟩⟩⟩
theorem tT_bin {f : PyData → PyData → Res PyData} {σ : L2.St} {H : Hp} {Q : Bool → Hp → Prop} (h : tT K O (eBin f m1 m2) σ H Q) : tTest (tOp (rD K f) (tP K O m1) (tP K O m2)) σ H Q := by
  obtain ⟨A, B, Γ, bb, r, em, k⟩ := h
  exact tE_bin ⟨A, B, Γ, _, r, em, fun v A' H' g p => ⟨bb, Rp.bool.mp p, k A' H' g⟩⟩
theorem se_bin {op : Operator} {f : PyData → PyData → Res PyData} (ho : OpR X (binaryOp op) (rD K f)) (ha : QE X a (tP K O m1)) (hb : QE X b (tP K O m2)) : QE X (.BinOp a op b pos) (tE K O (eBin f m1 m2)) := QE.imp (pe_op ho ha.h hb.h) fun _ _ _ => tE_bin
theorem se_cmp {op : CmpOp} {f : PyData → PyData → Res PyData} (ho : OpR X (compareOp op) (rD K f)) (ha : QE X a (tP K O m1)) (hb : QE X b (tP K O m2)) (hm : behindInMarks op b = false) : QE X (.Compare a [op] [b] pos) (tE K O (eBin f m1 m2)) := QE.imp (pe_cmpR ho ha.h hb.h hm) fun _ _ _ => tE_bin
theorem st_cmp {op : CmpOp} {f : PyData → PyData → Res PyData} (ho : OpR X (compareOp op) (rD K f)) (ha : QE X a (tP K O m1)) (hb : QE X b (tP K O m2)) (hm : behindInMarks op b = false) : QT X (.Compare a [op] [b] pos) (tT K O (eBin f m1 m2)) := QT.imp (pt_cmpR ho ha.h hb.h hm) fun _ _ _ => tT_bin
noncomputable def eAnd (a b : ME) : ME := fun Γ => (a Γ).bind fun x => match x with
  | .bool true => b Γ
  | .bool false => .ok (.bool false)
  | _ => .bad
noncomputable def eOr (a b : ME) : ME := fun Γ => (a Γ).bind fun x => match x with
  | .bool false => b Γ
  | .bool true => .ok (.bool true)
  | _ => .bad
noncomputable def eNot (a : ME) : ME := fun Γ => (a Γ).bind fun x => match x with
  | .bool t => .ok (.bool (!t))
  | _ => .bad
theorem st_val (h : QE X e (tE K O m)) (he : ∀ whole, isTrue e X.env whole = (do let v ← whole; standAt e.pos; holding [v] (truthy v)) := by intro _; rfl) : QT X e (tT K O m) := QT.imp (pt_val h.h he) fun σ H Q ⟨A, B, Γ, bb, r, em, k⟩ =>
  ⟨A, B, Γ, _, r, em, fun v A' H' g p => ⟨bb, Rp.bool.mp p, k A' H' g⟩⟩
theorem sw_and1 (ha : QT X a (tT K O m)) : QW X (.BoolOp .And [a] pos) (tT K O m) := ⟨pw_and1 ha.h⟩
theorem sw_or1 (ha : QT X a (tT K O m)) : QW X (.BoolOp .Or [a] pos) (tT K O m) := ⟨pw_or1 ha.h⟩
theorem sw_and {rest : List Expr} (ha : QT X a (tT K O m1)) (hb : QW X (.BoolOp .And (b :: rest) pos) (tT K O m2)) : QW X (.BoolOp .And (a :: b :: rest) pos) (tT K O (eAnd m1 m2)) := QW.imp (pw_and ha.h hb.h) fun σ H Q hq__ => by
  obtain ⟨A, B, Γ, d, r, em, k⟩ := hq__
  obtain ⟨d1, e1, em⟩ := Res.bind_ok em
  cases d1 with
  | bool bb =>
    refine ⟨A, B, Γ, bb, r, e1, fun A1 H1 g1 => ?_⟩
    cases bb with
    | true => exact iteT ⟨A1, B, Γ, d, r.grow g1, em, fun A' H' g => k A' H' (g1.trans g)⟩
    | false => cases em; exact iteF (k A1 H1 g1)
  | _ => cases em
theorem sw_or {rest : List Expr} (ha : QT X a (tT K O m1)) (hb : QW X (.BoolOp .Or (b :: rest) pos) (tT K O m2)) : QW X (.BoolOp .Or (a :: b :: rest) pos) (tT K O (eOr m1 m2)) := QW.imp (pw_or ha.h hb.h) fun σ H Q hq__ => by
  obtain ⟨A, B, Γ, d, r, em, k⟩ := hq__
  obtain ⟨d1, e1, em⟩ := Res.bind_ok em
  cases d1 with
  | bool bb =>
    refine ⟨A, B, Γ, bb, r, e1, fun A1 H1 g1 => ?_⟩
    cases bb with
    | false => exact iteF ⟨A1, B, Γ, d, r.grow g1, em, fun A' H' g => k A' H' (g1.trans g)⟩
    | true => cases em; exact iteT (k A1 H1 g1)
  | _ => cases em
theorem sw_pt (h : QW X e (tT K O m)) : QT X e (tT K O m) := ⟨h.h.pt⟩
theorem st_not (ha : QT X a (tT K O m1)) : QT X (.UnaryOp .Not a pos) (tT K O (eNot m1)) := QT.imp (pt_not ha.h) fun σ H Q hq__ => by
  obtain ⟨A, B, Γ, d, r, em, k⟩ := hq__
  obtain ⟨d1, e1, em⟩ := Res.bind_ok em
  cases d1 with
  | bool bb => cases em; exact ⟨A, B, Γ, bb, r, e1, fun A1 H1 g1 => k A1 H1 g1⟩
  | _ => cases em
noncomputable def truD : PyData → Res PyData
  | .none => .ok (.bool false)
  | .bool b => .ok (.bool b)
  | .int i => .ok (.bool (i != 0))
  | .list ds => .ok (.bool (!ds.isEmpty))
  | .tuple ds => .ok (.bool (!ds.isEmpty))
  | .str x => gd (x.length ≤ sizeLine) (.ok (.bool ((x.length : Int) != 0)))
  | _ => .bad
noncomputable def eUn (f : PyData → Res PyData) (a : ME) : ME := fun Γ => (a Γ).bind f
theorem RpAll.isEmpty {A : Hp} {ds : List PyData} {vs : List V} (h : RpAll K A ds vs) : vs.isEmpty = ds.isEmpty := by
  cases ds with
  | nil => rw [RpAll.nil] at h; subst h; rfl
  | cons d ds => rw [RpAll.cons] at h; obtain ⟨v, r, rfl, _⟩ := h; rfl
theorem st_tru (h : QE X a (tP X.K O m)) (he : ∀ whole, isTrue a X.env whole = (do let v ← whole; standAt a.pos; holding [v] (truthy v)) := by intro _; rfl) : QT X a (tT X.K O (eUn truD m)) := QT.imp (pt_truth h.h he) fun σ H Q hq__ => by
  obtain ⟨A, B, Γ, bb, r, em, k⟩ := hq__
  obtain ⟨d1, e1, em⟩ := Res.bind_ok em
  refine ⟨A, B, Γ, d1, r, e1, fun v A1 H1 g1 p1 => ⟨bb, ?_, k A1 H1 g1⟩⟩
  cases d1 with
  | none => cases em; rw [p1.none]; rfl
  | bool b => cases em; rw [p1.bool]; rfl
  | int i => cases em; rw [p1.int]; rfl
  | str x =>
    obtain ⟨hz, em⟩ := gd_ok em
    cases em; rw [p1.str]; exact ⟨hz, rfl⟩
  | list ds =>
    cases em
    obtain ⟨p, vs, rfl, h1, h2⟩ := p1.list g1.ah
    exact .inl ⟨vs, h1, by rw [h2.isEmpty]⟩
  | tuple ds =>
    cases em
    obtain ⟨p, vs, rfl, h1, h2⟩ := p1.tuple g1.ah
    exact .inr (.inl ⟨vs, h1, by rw [h2.isEmpty]⟩)
  | dict _ => cases em
end
end L3
namespace L3
open PySem PySem.Spec PyProof.Rows L2
noncomputable def int2 (g : Int → Int → Res PyData) : PyData → PyData → Res PyData
  | .int a, .int b => g a b
  | _, _ => .bad
theorem int2_ok {g : Int → Int → Res PyData} {a b d : PyData} (e : int2 g a b = .ok d) : ∃ i j, a = .int i ∧ b = .int j ∧ g i j = .ok d := by
  cases a with
  | int i =>
    cases b with
    | int j => exact ⟨i, j, rfl, rfl, e⟩
    | _ => cases e
  | _ => cases e
noncomputable def addD : PyData → PyData → Res PyData
  | .int a, .int b => .ok (.int (a + b))
  | .str a, .str b => gd (a.length + b.length ≤ sizeLine) (.ok (.str (a ++ b)))
  | .list a, .list b => gd (a.length + b.length ≤ sizeLine) (.ok (.list (a ++ b)))
  | .tuple a, .tuple b => gd (a.length + b.length ≤ sizeLine) (.ok (.tuple (a ++ b)))
  | .int a, .bool b => .ok (.int (a + b2i b))
  | _, _ => .bad
noncomputable def subD : PyData → PyData → Res PyData := int2 fun a b => .ok (.int (a - b))
instance (i j : Int) : Decidable (CMul i j) := by unfold CMul; infer_instance
instance (i j : Int) : Decidable (CDiv i j) := by unfold CDiv; infer_instance
instance (i j : Int) : Decidable (CPow i j) := by unfold CPow; infer_instance
noncomputable def mulD : PyData → PyData → Res PyData := int2 fun a b => gd (CMul a b) (.ok (.int (a * b)))
noncomputable def fdivD : PyData → PyData → Res PyData := int2 fun a b => gd (CDiv a b) (.ok (.int (a / b)))
noncomputable def modD : PyData → PyData → Res PyData := int2 fun a b => gd (0 < b) (.ok (.int (a % b)))
noncomputable def shlD : PyData → PyData → Res PyData := int2 fun a b => gd (CPow a b) (.ok (.int (a * 2 ^ b.toNat)))
noncomputable def shrD : PyData → PyData → Res PyData := int2 fun a b => gd (0 ≤ b) (.ok (.int (a / 2 ^ b.toNat)))
noncomputable def andD : PyData → PyData → Res PyData := int2 fun a b => .ok (.int (Builtin.bitAnd a b))
noncomputable def negD : PyData → Res PyData
  | .int a => .ok (.int (-a))
  | _ => .bad
noncomputable def ltD : PyData → PyData → Res PyData := int2 fun a b => .ok (.bool (decide (a < b)))
noncomputable def gtD : PyData → PyData → Res PyData := int2 fun a b => .ok (.bool (decide (b < a)))
noncomputable def eqD (a b : PyData) : Res PyData := gd (SeqAt.shaped a = true ∧ SeqAt.shaped b = true) (.ok (.bool (PyData.eqv a b)))
noncomputable def neD (a b : PyData) : Res PyData := gd (SeqAt.shaped a = true ∧ SeqAt.shaped b = true) (.ok (.bool (!PyData.eqv a b)))
noncomputable def ixD : PyData → PyData → Res PyData
  | .list ds, .int i => match atI ds i with | some d => .ok d | none => .bad
  | .tuple ds, .int i => match atI ds i with | some d => .ok d | none => .bad
  | _, _ => .bad
section
variable {X : Cx}
theorem rD_int {g : Value → Value → Sem Value} {f : PyData → PyData → Res PyData} {C : Int → Int → Prop} {h : Int → Int → Int} (ho : OpR X g (rI C fun i j => .int (h i j)))
    (hf : ∀ a b d, f a b = .ok d → ∃ i j, a = .int i ∧ b = .int j ∧ C i j ∧ d = .int (h i j)) : OpR X g (rD X.K f) := by
  intro pins s σ H x y v u Q I rx ry hq
  obtain ⟨A, d1, d2, d, e, ha, p1, p2, k⟩ := hq
  obtain ⟨i, j, rfl, rfl, hc, rfl⟩ := hf _ _ _ e
  exact ho pins s σ H x y v u Q I rx ry ⟨i, j, p1.int, p2.int, hc, k _ A H (Grow.refl ha) (Rp.int.mpr rfl)⟩
theorem rD_int0 {g : Value → Value → Sem Value} {f : PyData → PyData → Res PyData} {h : Int → Int → Int} (ho : OpR X g (rI0 fun i j => .int (h i j)))
    (hf : ∀ a b d, f a b = .ok d → ∃ i j, a = .int i ∧ b = .int j ∧ d = .int (h i j)) : OpR X g (rD X.K f) := by
  intro pins s σ H x y v u Q I rx ry hq
  obtain ⟨A, d1, d2, d, e, ha, p1, p2, k⟩ := hq
  obtain ⟨i, j, rfl, rfl, rfl⟩ := hf _ _ _ e
  exact ho pins s σ H x y v u Q I rx ry ⟨i, j, p1.int, p2.int, k _ A H (Grow.refl ha) (Rp.int.mpr rfl)⟩
theorem rD_cmp {g : Value → Value → Sem Value} {f : PyData → PyData → Res PyData} {h : Int → Int → Bool} (ho : OpR X g (rI0 fun i j => .bl (h i j)))
    (hf : ∀ a b d, f a b = .ok d → ∃ i j, a = .int i ∧ b = .int j ∧ d = .bool (h i j)) : OpR X g (rD X.K f) := by
  intro pins s σ H x y v u Q I rx ry hq
  obtain ⟨A, d1, d2, d, e, ha, p1, p2, k⟩ := hq
  obtain ⟨i, j, rfl, rfl, rfl⟩ := hf _ _ _ e
  exact ho pins s σ H x y v u Q I rx ry ⟨i, j, p1.int, p2.int, k _ A H (Grow.refl ha) (Rp.bool.mpr rfl)⟩
theorem od_sub : OpR X (binaryOp .Sub) (rD X.K subD) := rD_int0 op_sub fun a b d e => by
  obtain ⟨i, j, rfl, rfl, e⟩ := int2_ok e; cases e; exact ⟨_, _, rfl, rfl, rfl⟩
theorem od_fdiv : OpR X (binaryOp .FloorDiv) (rD X.K fdivD) := rD_int op_fdiv fun a b d e => by
  obtain ⟨i, j, rfl, rfl, e⟩ := int2_ok e; obtain ⟨hc, e⟩ := gd_ok e; cases e; exact ⟨_, _, rfl, rfl, hc, rfl⟩
theorem od_mod : OpR X (binaryOp .Mod) (rD X.K modD) := rD_int op_mod fun a b d e => by
  obtain ⟨i, j, rfl, rfl, e⟩ := int2_ok e; obtain ⟨hc, e⟩ := gd_ok e; cases e; exact ⟨_, _, rfl, rfl, hc, rfl⟩
theorem od_shl : OpR X (binaryOp .LShift) (rD X.K shlD) := rD_int op_shl fun a b d e => by
  obtain ⟨i, j, rfl, rfl, e⟩ := int2_ok e; obtain ⟨hc, e⟩ := gd_ok e; cases e; exact ⟨_, _, rfl, rfl, hc, rfl⟩
theorem od_shr : OpR X (binaryOp .RShift) (rD X.K shrD) := rD_int op_shr fun a b d e => by
  obtain ⟨i, j, rfl, rfl, e⟩ := int2_ok e; obtain ⟨hc, e⟩ := gd_ok e; cases e; exact ⟨_, _, rfl, rfl, hc, rfl⟩
theorem od_and : OpR X (binaryOp .BitAnd) (rD X.K andD) := rD_int0 op_and fun a b d e => by
  obtain ⟨i, j, rfl, rfl, e⟩ := int2_ok e; cases e; exact ⟨_, _, rfl, rfl, rfl⟩
theorem od_lt : OpR X (compareOp .Lt) (rD X.K ltD) := rD_cmp op_lt fun a b d e => by
  obtain ⟨i, j, rfl, rfl, e⟩ := int2_ok e; cases e; exact ⟨_, _, rfl, rfl, rfl⟩
theorem od_gt : OpR X (compareOp .Gt) (rD X.K gtD) := rD_cmp op_gt fun a b d e => by
  obtain ⟨i, j, rfl, rfl, e⟩ := int2_ok e; cases e; exact ⟨_, _, rfl, rfl, rfl⟩
theorem od_eq (hu : X.A.units + 64 < cLine) : OpR X (compareOp .Eq) (rD X.K eqD) := by
  intro pins s σ H x y v u Q I rx ry hq
  obtain ⟨A, d1, d2, d, e, ha, p1, p2, k⟩ := hq
  obtain ⟨⟨h1, h2⟩, e⟩ := gd_ok e
  cases e
  exact op_eqD hu pins s σ H x y v u Q I rx ry ⟨d1, d2, p1.is ha h1, p2.is ha h2, h1, h2, k _ A H (Grow.refl ha) (Rp.bool.mpr rfl)⟩
theorem od_ne (hu : X.A.units + 64 < cLine) : OpR X (compareOp .NotEq) (rD X.K neD) := by
  intro pins s σ H x y v u Q I rx ry hq
  obtain ⟨A, d1, d2, d, e, ha, p1, p2, k⟩ := hq
  obtain ⟨⟨h1, h2⟩, e⟩ := gd_ok e
  cases e
  exact op_neD hu pins s σ H x y v u Q I rx ry ⟨d1, d2, p1.is ha h1, p2.is ha h2, h1, h2, k _ A H (Grow.refl ha) (Rp.bool.mpr rfl)⟩
noncomputable def rCatR (K : PySem.W.Frag) : R2 := fun x y H Q => ∃ l b xs zs, x = .ref l ∧ y = .ref b ∧ SqL K H l xs ∧ SqL K H b zs ∧ xs.length + zs.length ≤ sizeLine ∧ ∀ p, H p = none → Q (.ref p) (upd H p (.lst (xs ++ zs)))
theorem op_catR : OpR X (binaryOp .Add) (rCatR X.K) := by
  intro pins s σ H x y v u Q I rx ry h
  obtain ⟨l, b, xs, zs, rfl, rfl, hH, hB, hz, q⟩ := h
  cases rx
  cases ry
  obtain ⟨its, r, pl, _⟩ := I.list hH
  obtain ⟨its2, r2, pl2, _⟩ := I.list hB
  have hl := r.length
  have hl2 := r2.length
  obtain ⟨⟨cls, dd, data, sl⟩, ho, hc, n, hd⟩ := pl.isList
  obtain ⟨⟨cls2, dd2, data2, sl2⟩, ho2, hc2, n2, hd2⟩ := pl2.isList
  simp only at hc hd hc2 hd2
  subst hc hd hc2 hd2
  have ea : its.toArray ++ its2.toArray = (its ++ its2).toArray := by simp
  refine concat_meets ⟨_, ho, rfl⟩ ⟨_, ho2, rfl⟩ noFill_list_add seq_list_add PySem.F.slot_list_add PySem.F.entry_list_add (PySem.F.args_list_add_2 _ _) (list_addW l b its.toArray its2.toArray n n2 dd dd2 sl sl2 (by simp only [List.size_toArray]; omega)) ⟨ho, ho2, ?_⟩
  rw [ea]
  exact ⟨.ref _, _, I.lnew (t' := s.toks) (r.append r2) (by rw [List.length_append]; omega), rfl, q _ I.fresh⟩
theorem op_catT0 : OpR X (binaryOp .Add) (fun x y H Q => ∃ a b ys, x = .ref a ∧ y = .ref b ∧ SqT X.K H a [] ∧ SqT X.K H b ys ∧ Q (.ref b) H) := by
  intro pins s σ H x y v u Q I rx ry h
  obtain ⟨a, b, ys, rfl, rfl, ha, hb, q⟩ := h
  cases rx
  cases ry
  obtain ⟨its, r1, p1, _⟩ := I.tuple ha
  obtain ⟨its2, r2, p2, _⟩ := I.tuple hb
  cases r1
  obtain ⟨⟨cls, dd, data, sl⟩, ho, hc, n, hd⟩ := id p1
  obtain ⟨⟨cls2, dd2, data2, sl2⟩, ho2, hc2, n2, hd2⟩ := id p2
  simp only at hc hd hc2 hd2
  subst hc hd hc2 hd2
  exact concat_meets ⟨_, ho, rfl⟩ ⟨_, ho2, rfl⟩ noFill_tuple_add seq_tuple_add PySem.F.slot_tuple_add PySem.F.entry_tuple_add (PySem.F.args_tuple_add_2 _ _)
    (tuple_addW0 a b _ its2.toArray n n2 dd dd2 sl sl2 rfl) ⟨ho, ho2, ⟨.ref b, H, I, rfl, q⟩⟩
theorem od_add : OpR X (binaryOp .Add) (rD X.K addD) := by
  intro pins s σ H x y v u Q I rx ry hq
  obtain ⟨A, d1, d2, d, e, ha, p1, p2, k⟩ := hq
  cases d1 with
  | int i =>
    cases d2 with
    | int j => cases e; exact op_add pins s σ H x y v u Q I rx ry ⟨i, j, p1.int, p2.int, k _ A H (Grow.refl ha) (Rp.int.mpr rfl)⟩
    | bool j => cases e; exact op_add_ib pins s σ H x y v u Q I rx ry ⟨i, j, p1.int, p2.bool, k _ A H (Grow.refl ha) (Rp.int.mpr rfl)⟩
    | _ => cases e
  | str i =>
    cases d2 with
    | str j =>
      obtain ⟨hc, e⟩ := gd_ok e
      cases e
      exact op_add_str pins s σ H x y v u Q I rx ry ⟨i, j, p1.str, p2.str, hc, k _ A H (Grow.refl ha) (Rp.str.mpr rfl)⟩
    | _ => cases e
  | list i =>
    cases d2 with
    | list j =>
      obtain ⟨hc, e⟩ := gd_ok e
      cases e
      obtain ⟨l1, xs, e1, h1, q1⟩ := p1.list ha
      obtain ⟨l2, ys, e2, h2, q2⟩ := p2.list ha
      refine op_catR pins s σ H x y v u Q I rx ry ⟨l1, l2, xs, ys, e1, e2, h1, h2, by rw [← q1.length, ← q2.length]; exact hc, fun p hp => ?_⟩
      have g := Grow.new (o := .lst (xs ++ ys)) ha hp
      exact k _ _ _ g (Rp.list.mpr ⟨p, _, rfl, SqL.of upd_same, (RpAll.mono g.aa _ q1).append (RpAll.mono g.aa _ q2)⟩)
    | _ => cases e
  | tuple i =>
    cases d2 with
    | tuple j =>
      obtain ⟨hc, e⟩ := gd_ok e
      cases e
      obtain ⟨l1, xs, e1, h1, q1⟩ := p1.tuple ha
      obtain ⟨l2, ys, e2, h2, q2⟩ := p2.tuple ha
      by_cases hne : i = []
      · subst hne
        have ex : xs = [] := List.eq_nil_of_length_eq_zero q1.length.symm
        subst ex
        refine op_catT0 pins s σ H x y v u Q I rx ry ⟨l1, l2, ys, e1, e2, h1, h2, ?_⟩
        rw [List.nil_append] at k
        refine k _ A H (Grow.refl ha) ?_
        have := p2.nolist (fun _ z => nomatch z) (fun _ z => nomatch z)
        rw [e2] at this
        exact this
      refine op_catT pins s σ H x y v u Q I rx ry ⟨l1, l2, xs, ys, e1, e2, h1, h2, fun z => ?_, by rw [← q1.length, ← q2.length]; exact hc, fun z => ?_, fun z p hp => ?_⟩
      · subst z
        have := q1.length
        exact hne (List.eq_nil_of_length_eq_zero this)
      · subst z
        have e0 : j = [] := List.eq_nil_of_length_eq_zero q2.length
        subst e0
        rw [List.append_nil] at k
        refine k _ A H (Grow.refl ha) ?_
        have := p1.nolist (fun _ z => nomatch z) (fun _ z => nomatch z)
        rw [e1] at this
        exact this
      · have g := Grow.new (o := .tup (xs ++ ys)) ha hp
        exact k _ _ _ g (Rp.tuple.mpr ⟨p, _, rfl, SqT.of upd_same, (RpAll.mono g.aa _ q1).append (RpAll.mono g.aa _ q2)⟩)
    | _ => cases e
  | _ => cases e
theorem od_mul : OpR X (binaryOp .Mult) (rD X.K mulD) := rD_int op_mul fun a b d e => by
  obtain ⟨i, j, rfl, rfl, e⟩ := int2_ok e; obtain ⟨hc, e⟩ := gd_ok e; cases e; exact ⟨_, _, rfl, rfl, hc, rfl⟩
theorem RpAll.atI {K : PySem.W.Frag} {A : Hp} {ds : List PyData} {vs : List V} {i : Int} {d : PyData} (h : RpAll K A ds vs) (e : L2.atI ds i = some d) : ∃ x, L2.atI vs i = some x ∧ Rp K A d x := by
  unfold L2.atI at e ⊢
  rw [← h.length]
  cases q : ixN ds.length i with
  | none => rw [q] at e; cases e
  | some j => rw [q] at e; exact h.get' e
theorem od_ix : IxR X (rD X.K ixD) := by
  intro value slice pins s σ H x y v u Q I rx ry hq hs
  obtain ⟨A, d1, d2, d, e, ha, p1, p2, k⟩ := hq
  cases d1 with
  | list ds =>
    cases d2 with
    | int i =>
      have e' : (match L2.atI ds i with | some d => Res.ok d | none => .bad) = .ok d := e
      cases q : L2.atI ds i with
      | none => rw [q] at e'; cases e'
      | some d0 =>
        rw [q] at e'
        cases e'
        obtain ⟨l, vs, e1, h1, q2⟩ := p1.list ha
        obtain ⟨z, hz, rz⟩ := q2.atI q
        exact ix_list value slice pins s σ H x y v u Q I rx ry ⟨l, vs, i, z, e1, p2.int, h1, hz, k _ A H (Grow.refl ha) rz⟩ hs
    | _ => cases e
  | tuple ds =>
    cases d2 with
    | int i =>
      have e' : (match L2.atI ds i with | some d => Res.ok d | none => .bad) = .ok d := e
      cases q : L2.atI ds i with
      | none => rw [q] at e'; cases e'
      | some d0 =>
        rw [q] at e'
        cases e'
        obtain ⟨l, vs, e1, h1, q2⟩ := p1.tuple ha
        obtain ⟨z, hz, rz⟩ := q2.atI q
        exact ix_tup value slice pins s σ H x y v u Q I rx ry ⟨l, vs, i, z, e1, p2.int, h1, hz, k _ A H (Grow.refl ha) rz⟩ hs
    | _ => cases e
  | _ => cases e
theorem se_ix {a b : Expr} {O : List Fl} {m1 m2 : ME} {pos : Pos} (ha : QE X a (tP X.K O m1)) (hb : QE X b (tP X.K O m2)) (hs : PlainIx b) : QE X (.Subscript a b pos) (tE X.K O (eBin ixD m1 m2)) := QE.imp (pe_ix od_ix ha.h hb.h hs) fun _ _ _ => tE_bin
end
end L3
namespace L3
open PySem PySem.Spec PyProof.Rows L2
noncomputable def evs : List ME → Ev → Res (List PyData)
  | [], _ => .ok []
  | m :: ms, Γ => (m Γ).bind fun d => (evs ms Γ).bind fun ds => .ok (d :: ds)
theorem evs_length : ∀ {ms : List ME} {Γ : Ev} {ds : List PyData}, evs ms Γ = .ok ds → ds.length = ms.length
  | [], _, _, h => by cases h; rfl
  | m :: ms, Γ, ds, h => by
    obtain ⟨d, _, h⟩ := Res.bind_ok h
    obtain ⟨r, e, h⟩ := Res.bind_ok h
    cases h
    rw [List.length_cons, List.length_cons, evs_length e]
noncomputable def tAi (K : PySem.W.Frag) (O : List Fl) (ms : List ME) : TA := fun σ H Q => ∃ A B Γ ds, StRep K A B H O σ Γ ∧ evs ms Γ = .ok ds ∧ ∀ vs A' H', Grow A H A' H' → RpAll K A' ds vs → Q vs H'
noncomputable def ArgV (K : PySem.W.Frag) (A H : Hp) : Fl → PyData → V → Prop
  | .imm, d, v => Rp K A d v
  | _, d, v => Pk K A H d v
noncomputable def ArgsOk (K : PySem.W.Frag) (A H : Hp) : List Fl → List PyData → List V → Prop
  | [], ds, vs => ds = [] ∧ vs = []
  | f :: fs, ds, vs => ∃ d r v s, ds = d :: r ∧ vs = v :: s ∧ ArgV K A H f d v ∧ ArgsOk K A H fs r s
noncomputable def tAr (K : PySem.W.Frag) (O : List Fl) (fs : List Fl) (ms : List ME) : TA := fun σ H Q => ∃ A B Γ ds, StRep K A B H O σ Γ ∧ evs ms Γ = .ok ds ∧ ∀ vs A' H', Grow A H A' H' → ArgsOk K A' H' fs ds vs → Q vs H'
section
variable {X : Cx} {K : PySem.W.Frag} {O : List Fl} {m : ME} {ms : List ME} {fs : List Fl} {e : Expr} {es : List Expr} {pos : Pos}
theorem si_nil : QA X [] (tAi K O []) := QA.imp pa_nil fun σ H Q hq__ => by
  obtain ⟨A, B, Γ, ds, r, em, k⟩ := hq__
  cases em
  exact k [] A H (Grow.refl r.a) (RpAll.nil.mpr rfl)
theorem si_cons (ha : QE X e (tE K O m)) (hr : QA X es (tAi K O ms)) (hs : noStar e = true := by rfl) : QA X (e :: es) (tAi K O (m :: ms)) := QA.imp (pa_cons ha.h hr.h (star_cons hs)) fun σ H Q hq__ => by
  obtain ⟨A, B, Γ, ds, r, em, k⟩ := hq__
  obtain ⟨d, e1, em⟩ := Res.bind_ok em
  obtain ⟨ds', e2, em⟩ := Res.bind_ok em
  cases em
  exact ⟨A, B, Γ, d, r, e1, fun v A1 H1 g1 p1 => ⟨A1, B, Γ, ds', r.grow g1, e2, fun vs A2 H2 g2 p2 => k (v :: vs) A2 H2 (g1.trans g2) (RpAll.cons.mpr ⟨v, vs, rfl, Rp.mono g2.aa d p1, p2⟩)⟩⟩
theorem sa_nil : QA X [] (tAr K O [] []) := QA.imp pa_nil fun σ H Q hq__ => by
  obtain ⟨A, B, Γ, ds, r, em, k⟩ := hq__
  cases em
  exact k [] A H (Grow.refl r.a) ⟨rfl, rfl⟩
theorem sa_imm (ha : QE X e (tE K O m)) (hr : QA X es (tAr K O fs ms)) (hs : noStar e = true := by rfl) : QA X (e :: es) (tAr K O (.imm :: fs) (m :: ms)) := QA.imp (pa_cons ha.h hr.h (star_cons hs)) fun σ H Q hq__ => by
  obtain ⟨A, B, Γ, ds, r, em, k⟩ := hq__
  obtain ⟨d, e1, em⟩ := Res.bind_ok em
  obtain ⟨ds', e2, em⟩ := Res.bind_ok em
  cases em
  exact ⟨A, B, Γ, d, r, e1, fun v A1 H1 g1 p1 => ⟨A1, B, Γ, ds', r.grow g1, e2, fun vs A2 H2 g2 p2 => k (v :: vs) A2 H2 (g1.trans g2) ⟨d, ds', v, vs, rfl, rfl, Rp.mono g2.aa d p1, p2⟩⟩⟩
theorem sa_bor (ha : QE X e (tP K O m)) (hr : QA X es (tAr K O fs ms)) (hs : noStar e = true := by rfl) : QA X (e :: es) (tAr K O (.bor :: fs) (m :: ms)) := QA.imp (pa_cons ha.h hr.h (star_cons hs)) fun σ H Q hq__ => by
  obtain ⟨A, B, Γ, ds, r, em, k⟩ := hq__
  obtain ⟨d, e1, em⟩ := Res.bind_ok em
  obtain ⟨ds', e2, em⟩ := Res.bind_ok em
  cases em
  exact ⟨A, B, Γ, d, r, e1, fun v A1 H1 g1 p1 => ⟨A1, B, Γ, ds', r.grow g1, e2, fun vs A2 H2 g2 p2 => k (v :: vs) A2 H2 (g1.trans g2) ⟨d, ds', v, vs, rfl, rfl, p1.mono g2.aa g2.hh, p2⟩⟩⟩
noncomputable def eTup (ms : List ME) : ME := fun Γ => (evs ms Γ).bind fun ds => .ok (.tuple ds)
noncomputable def eLst (ms : List ME) : ME := fun Γ => (evs ms Γ).bind fun ds => .ok (.list ds)
theorem se_tup {x1} (h : QA X es (tAi K O ms)) (hl : ms.length ≤ sizeLine := by first | decide | exact of_decide_eq_true rfl) : QE X (.Tuple es x1 pos) (tE K O (eTup ms)) := QE.imp (pe_tup h.h) fun σ H Q hq__ => by
  obtain ⟨A, B, Γ, d, r, em, k⟩ := hq__
  obtain ⟨ds, e1, em⟩ := Res.bind_ok em
  cases em
  refine ⟨A, B, Γ, ds, r, e1, fun vs A1 H1 g1 p1 => ⟨by rw [← p1.length, evs_length e1]; exact hl, fun p hp => ?_⟩⟩
  have g := Grow.new (o := .tup vs) g1.ah hp
  exact k _ _ _ (g1.trans g) (Rp.tuple.mpr ⟨p, vs, rfl, SqT.of upd_same, RpAll.mono g.aa ds p1⟩)
theorem sf_lst (h : QA X es (tAi K O ms)) (hl : ms.length ≤ sizeLine := by first | decide | exact of_decide_eq_true rfl) : QE X (.List es pos) (tF K O (eLst ms)) := QE.imp (pe_lst h.h) fun σ H Q hq__ => by
  obtain ⟨A, B, Γ, d, r, em, k⟩ := hq__
  obtain ⟨ds, e1, em⟩ := Res.bind_ok em
  cases em
  refine ⟨A, B, Γ, ds, r, e1, fun vs A1 H1 g1 p1 => ⟨by rw [← p1.length, evs_length e1]; exact hl, fun p hp => ?_⟩⟩
  exact k _ _ _ (g1.trans (Grow.lay g1.ah hp)) ⟨p, _, rfl, g1.hh.free hp, upd_same, g1.ah.free hp, .inl ⟨ds, vs, rfl, rfl, p1⟩⟩
noncomputable def eDct : List (Str × ME) → ME
  | [] => fun _ => .ok (.dict [])
  | (x, m) :: r => fun Γ => (m Γ).bind fun d => (eDct r Γ).bind fun e => match e with
    | .dict ds => .ok (.dict ((.str x, d) :: ds))
    | _ => .bad
theorem sf_dct0 : QE X (.Dict [] [] pos) (tF K O (eDct [])) := QE.imp pe_dnewK fun σ H Q hq__ => by
  obtain ⟨A, B, Γ, d, r, em, k⟩ := hq__
  cases em
  intro p hp
  exact k _ _ _ (Grow.lay r.a hp) ⟨p, _, rfl, hp, upd_same, r.a.free hp, .inr ⟨_, _, rfl, rfl, RpKV.nil.mpr rfl⟩⟩
theorem se_un {op : UnaryOp} {f : PyData → Res PyData} {a : Expr} {r : V → Hp → VK → Prop} (ho : UnR X (unaryOp op) r) (hf : ∀ A H d1 d x (Q : VK), f d1 = .ok d → Same A H → Pk K A H d1 x → (∀ v A' H', Grow A H A' H' → Rp K A' d v → Q v H') → r x H Q)
    (ha : QE X a (tP K O m)) : QE X (.UnaryOp op a pos) (tE K O (eUn f m)) := QE.imp (pe_un ho ha.h) fun σ H Q hq__ => by
  obtain ⟨A, B, Γ, d, r, em, k⟩ := hq__
  obtain ⟨d1, e1, em⟩ := Res.bind_ok em
  exact ⟨A, B, Γ, d1, r, e1, fun v A1 H1 g1 p1 => hf A1 H1 d1 d v Q em g1.ah p1 fun v A' H' g p => k v A' H' (g1.trans g) p⟩
theorem se_neg {a : Expr} (ha : QE X a (tP K O m)) : QE X (.UnaryOp .USub a pos) (tE K O (eUn negD m)) := se_un un_neg (fun A H d1 d x Q e hA p k => by
  cases d1 with
  | int i => cases e; exact ⟨i, p.int, k _ A H (Grow.refl hA) (Rp.int.mpr rfl)⟩
  | _ => cases e) ha
noncomputable def eFn (f : List PyData → Res PyData) (ms : List ME) : ME := fun Γ => (evs ms Γ).bind f
noncomputable def PkAll (K : PySem.W.Frag) (A H : Hp) (ds : List PyData) (vs : List V) : Prop := ArgsOk K A H (ds.map fun _ => .bor) ds vs
noncomputable def rC (K : PySem.W.Frag) (f : List PyData → Res PyData) : List V → Hp → VK → Prop := fun vs H Q => ∃ A ds d, f ds = .ok d ∧ Same A H ∧ PkAll K A H ds vs ∧ ∀ v A' H', Grow A H A' H' → Rp K A' d v → Q v H'
noncomputable def allBor (ms : List ME) : List Fl := ms.map fun _ => .bor
theorem bor_of {Γ : Ev} {ds : List PyData} (h : evs ms Γ = .ok ds) : allBor ms = ds.map fun _ => .bor := by
  have e := evs_length h
  unfold allBor
  rw [List.map_const', List.map_const', e]
theorem tE_fn {f : List PyData → Res PyData} {σ : L2.St} {H : Hp} {Q : VK} (h : tE K O (eFn f ms) σ H Q) : tCB (rC K f) (tAr K O (allBor ms) ms) σ H Q := by
  obtain ⟨A, B, Γ, d, r, em, k⟩ := h
  obtain ⟨ds, e1, em⟩ := Res.bind_ok em
  refine ⟨A, B, Γ, ds, r, e1, fun vs A1 H1 g1 p1 => ⟨A1, ds, d, em, g1.ah, by unfold PkAll; rw [← bor_of e1]; exact p1, fun v A' H' g p => k v A' H' (g1.trans g) p⟩⟩
variable {x : Str} {p : Pos} {id : String} {f : List PyData → Res PyData}
theorem se_callB (hc : CallR X (.builtin id) (rC K f)) (hg : Gl X x) (hm : X.mg x = none) (hv : bootBuiltins x = some (.builtin id)) (ha : QA X (e :: es) (tAr K O (allBor ms) ms)) (hn : x ≠ "__name__" := by decide) (hdb : (x == ("__debug__" : Str)) = false := by decide)
    (hs : noStar e = true := by rfl) (hpl : noStars es = true := by rfl) : QE X (.Call (.Name x p) (e :: es) [] pos) (tE K O (eFn f ms)) := QE.imp (pe_callB hc hg hm hv ha.h hn hdb (star_cons hs) (star_any hpl)) fun _ _ _ => tE_fn
theorem se_callTy (hc : CallR X (.type id) (rC K f)) (hg : Gl X x) (hm : X.mg x = none) (hv : bootBuiltins x = some (.type id)) (ha : QA X (e :: es) (tAr K O (allBor ms) ms)) (hn : x ≠ "__name__" := by decide) (hdb : (x == ("__debug__" : Str)) = false := by decide)
    (hs : noStar e = true := by rfl) (hpl : noStars es = true := by rfl) : QE X (.Call (.Name x p) (e :: es) [] pos) (tE K O (eFn f ms)) := QE.imp (pe_callTy hc hg hm hv ha.h hn hdb (star_cons hs) (star_any hpl)) fun _ _ _ => tE_fn
end
theorem PkAll.nil {K : PySem.W.Frag} {A H : Hp} {vs : List V} (h : PkAll K A H [] vs) : vs = [] := h.2
theorem PkAll.cons {K : PySem.W.Frag} {A H : Hp} {d : PyData} {ds : List PyData} {vs : List V} (h : PkAll K A H (d :: ds) vs) : ∃ v r, vs = v :: r ∧ Pk K A H d v ∧ PkAll K A H ds r := by
  obtain ⟨d', r', v, s, e1, e2, h1, h2⟩ := h
  cases e1
  exact ⟨v, s, e2, h1, h2⟩
noncomputable def lenD : List PyData → Res PyData
  | [.list ds] => .ok (.int ds.length)
  | [.tuple ds] => .ok (.int ds.length)
  | [.str x] => gd (x.length ≤ sizeLine) (.ok (.int x.length))
  | _ => .bad
noncomputable def tupleD : List PyData → Res PyData
  | [.list ds] => .ok (.tuple ds)
  | [.tuple ds] => .ok (.tuple ds)
  | _ => .bad
section
variable {X : Cx}
theorem cd_len : CallR X (.builtin "len") (rC X.K lenD) := by
  intro pins s σ H xs us Q I r h
  obtain ⟨A, ds, d, e, ha, p, k⟩ := h
  match ds, e with
  | [.list es], e =>
    cases e
    obtain ⟨v, r', rfl, p1, p2⟩ := p.cons
    obtain rfl := p2.nil
    obtain ⟨l, vs, rfl, h1, q1⟩ := p1.list ha
    exact call_len_seq pins s σ H _ us Q I r ⟨l, vs, rfl, .inl h1, by rw [← q1.length]; exact k _ A H (Grow.refl ha) (Rp.int.mpr rfl)⟩
  | [.tuple es], e =>
    cases e
    obtain ⟨v, r', rfl, p1, p2⟩ := p.cons
    obtain rfl := p2.nil
    obtain ⟨l, vs, rfl, h1, q1⟩ := p1.tuple ha
    exact call_len_seq pins s σ H _ us Q I r ⟨l, vs, rfl, .inr h1, by rw [← q1.length]; exact k _ A H (Grow.refl ha) (Rp.int.mpr rfl)⟩
  | [.str x], e =>
    obtain ⟨hc, e⟩ := gd_ok e
    cases e
    obtain ⟨v, r', rfl, p1, p2⟩ := p.cons
    obtain rfl := p2.nil
    exact call_len_str pins s σ H _ us Q I r ⟨x, by rw [p1.str], hc, k _ A H (Grow.refl ha) (Rp.int.mpr rfl)⟩
theorem cd_tuple : CallR X (.type "tuple") (rC X.K tupleD) := by
  intro pins s σ H xs us Q I r h
  obtain ⟨A, ds, d, e, ha, p, k⟩ := h
  match ds, e with
  | [.list es], e =>
    cases e
    obtain ⟨v, r', rfl, p1, p2⟩ := p.cons
    obtain rfl := p2.nil
    obtain ⟨l, vs, rfl, h1, q1⟩ := p1.list ha
    exact call_tuple_of pins s σ H _ us Q I r ⟨l, vs, rfl, .inl ⟨h1, fun q hq => by
      have g := Grow.new (o := .tup vs) ha hq
      exact k _ _ _ g (Rp.tuple.mpr ⟨q, vs, rfl, SqT.of upd_same, RpAll.mono g.aa _ q1⟩)⟩⟩
  | [.tuple es], e =>
    cases e
    obtain ⟨v, r', rfl, p1, p2⟩ := p.cons
    obtain rfl := p2.nil
    have p1' := p1.nolist (fun _ z => nomatch z) (fun _ z => nomatch z)
    obtain ⟨l, vs, rfl, h1, q1⟩ := p1.tuple ha
    exact call_tuple_of pins s σ H _ us Q I r ⟨l, vs, rfl, .inr ⟨h1, k _ A H (Grow.refl ha) p1'⟩⟩
end
noncomputable def tyN : PyData → String
  | .none => "NoneType"
  | .bool _ => "bool"
  | .int _ => "int"
  | .str _ => "str"
  | .list _ => "list"
  | .tuple _ => "tuple"
  | .dict _ => "dict"
noncomputable def isiD (T : String) (d : PyData) : Bool := tyN d == T || (T == "int" && tyN d == "bool")
noncomputable def eIsi (T : String) (a : ME) : ME := fun Γ => (a Γ).bind fun d => .ok (.bool (isiD T d))
section
variable {K : PySem.W.Frag}
theorem kit_self (t : String) : PySem.W.kitOne K (.type t) (.type t) = some true := by unfold PySem.W.kitOne; rw [if_pos (by simp)]
theorem kit_of {t T : String} {b : Bool} (hne : (Value.type t == Value.type T) = false) (h : (if PySem.W.kitMeta T = true then (fastBuiltinMro t).map (·.contains (Value.type T)) else none) = some b) : PySem.W.kitOne K (.type t) (.type T) = some b := by
  unfold PySem.W.kitOne PySem.W.kitCls
  rw [if_neg (by rw [hne]; exact Bool.false_ne_true)]
  exact h
noncomputable def IsiT (K : PySem.W.Frag) (T : String) : Prop := ∀ d : PyData, PySem.W.kitOne K (.type (tyN d)) (.type T) = some (isiD T d)
theorem isi_mk {T : String} (h : ∀ t ∈ ["NoneType", "bool", "int", "str", "list", "tuple", "dict"], PySem.W.kitOne K (.type t) (.type T) = some (t == T || (T == "int" && t == "bool"))) : IsiT K T := fun d => h (tyN d) (by cases d <;> simp [tyN])
theorem isi_tuple : IsiT K "tuple" := isi_mk fun t h => by
  simp only [List.mem_cons, List.not_mem_nil, or_false] at h
  rcases h with rfl | rfl | rfl | rfl | rfl | rfl | rfl <;> first | exact (kit_self _).trans (by decide +kernel) | exact kit_of (by decide +kernel) (by decide +kernel)
end
section
variable {X : Cx} {O : List Fl} {m : ME} {a b : Expr} {p pos : Pos} {T : String}
noncomputable def rIsiD (K : PySem.W.Frag) (T : String) : List V → Hp → VK → Prop := fun xs H Q => ∃ x A d, xs = [x, .ty T] ∧ Same A H ∧ Pk K A H d x ∧ Q (.bl (isiD T d)) H
theorem cd_isi (hT : IsiT X.K T) : CallR X (.builtin "isinstance") (rIsiD X.K T) := by
  intro pins s σ H xs us Q I r h
  obtain ⟨x, A, d, rfl, ha, p1, q⟩ := h
  obtain ⟨u, c, rfl, rx, rc⟩ := Vals.two r
  cases rc
  have fin : ∀ tk, EP X pins σ Q (.bool (isiD T d)) { s with toks := tk } := fun tk => ⟨.bl _, H, I.tok tk, rfl, q⟩
  have e := hT d
  cases d with
  | none => rw [p1.none] at rx; cases rx; exact PySem.W.kia_one PySem.W.kitx_none I.kIn True.intro e (fun z => nomatch z) fin
  | bool y => rw [p1.bool] at rx; cases rx; exact PySem.W.kia_one PySem.W.kitx_bool I.kIn True.intro e (fun z => nomatch z) fin
  | int i => rw [p1.int] at rx; obtain ⟨t, rfl⟩ := rx; exact PySem.W.kia_one PySem.W.kitx_int I.kIn True.intro e (fun z => nomatch z) fin
  | str y => rw [p1.str] at rx; obtain ⟨t, rfl⟩ := rx; exact PySem.W.kia_one PySem.W.kitx_str I.kIn True.intro e (fun z => nomatch z) fin
  | list ds =>
    obtain ⟨l, vs, rfl, h1, q1⟩ := p1.list ha
    cases rx
    obtain ⟨its, _, pl, _⟩ := I.list h1
    obtain ⟨o, h2, h3, _⟩ := pl.isList
    exact PySem.W.kia_one PySem.W.kitx_list I.kIn ⟨o, h2, h3⟩ e (fun z => nomatch z) fin
  | tuple ds =>
    obtain ⟨l, vs, rfl, h1, q1⟩ := p1.tuple ha
    cases rx
    obtain ⟨its, _, ⟨o, h2, h3, _⟩, _⟩ := I.tuple h1
    exact PySem.W.kia_one PySem.W.kitx_tuple I.kIn ⟨o, h2, h3⟩ e (fun z => nomatch z) fin
  | dict ds =>
    obtain ⟨l, kvs, rfl, h1, _⟩ := p1.dict ha
    cases rx
    obtain ⟨_, _, vs, _, hd⟩ : kvs.length ≤ sizeLine ∧ (l == sysModules) = false ∧ ∃ vs, KV kvs vs ∧ s.heap.DictOf (mixKind X.prog X.w) l vs := I.hok l _ h1
    obtain ⟨o, _, _, h2, h3, _⟩ := hd
    exact PySem.W.kia_one PySem.W.kitx_dict I.kIn ⟨o, h2, h3.1⟩ e (fun z => nomatch z) fin
theorem se_isi (hT : IsiT X.K T) (hg : Gl X "isinstance") (hm : X.mg "isinstance" = none) (ha : QE X a (tP X.K O m)) (hb : PE X b (tC (.ty T)))
    (h1 : starEach (a :: [b]) X.env = (false, eval a X.env) :: starEach [b] X.env := by rfl) (h2 : starEach [b] X.env = (false, eval b X.env) :: starEach [] X.env := by rfl) (hpl : (backTo pos (starEach [b] X.env)).any (·.1) = false := by rfl) :
    QE X (.Call (.Name "isinstance" p) [a, b] [] pos) (tE X.K O (eIsi T m)) :=
  QE.imp (pe_callB (cd_isi hT) hg hm (show bootBuiltins "isinstance" = some (.builtin "isinstance") by decide +kernel) (pa_cons ha.h (pa_cons hb pa_nil h2) h1) (by decide) (by decide) h1 hpl) fun σ H Q hq__ => by
    obtain ⟨A, B, Γ, d, r, em, k⟩ := hq__
    obtain ⟨d1, e1, em⟩ := Res.bind_ok em
    cases em
    exact ⟨A, B, Γ, d1, r, e1, fun v A1 H1 g1 p1 => ⟨v, A1, d1, rfl, g1.ah, p1, k _ A1 H1 g1 (Rp.bool.mpr rfl)⟩⟩
theorem pe_ty {x : Str} {T : String} {pos : Pos} (hg : Gl X x) (hm : X.mg x = none) (hv : bootBuiltins x = some (.type T)) (hn : x ≠ "__name__" := by decide) (hd : (x == ("__debug__" : Str)) = false := by decide) : PE X (.Name x pos) (tC (.ty T)) :=
  pe_bltn (v := .ty T) hg hm hv rfl hn hd
end
noncomputable def MO := Ev → Res (Option Int)
section
variable {X : Cx} {O : List Fl} {m : ME} {lo hi : Option Expr} {ml mh : MO} {a e : Expr} {p pos p2 : Pos}
section
variable {prog : Program} {w : World} {A : Around} {E : Value → Shared → Prop} {s : Shared}
end
end
end L3
namespace L3
open PySem PySem.Spec PyProof.Rows L2
theorem getD_set_eq {α : Type} {l : List α} {i : Nat} {x d : α} (h : i < l.length) : (l.set i x).getD i d = x := by
  rw [List.getD_eq_getElem?_getD, List.getElem?_set_self h]; rfl
theorem getD_set_ne {α : Type} {l : List α} {i j : Nat} {x d : α} (h : i ≠ j) : (l.set i x).getD j d = l.getD j d := by
  rw [List.getD_eq_getElem?_getD, List.getD_eq_getElem?_getD, List.getElem?_set_ne h]
section
variable {K : PySem.W.Frag} {A B H : Hp} {O : List Fl} {σ : L2.St} {Γ : Ev} {i : Nat} {d : PyData} {v : V}
theorem StRep.set (r : StRep K A B H O σ Γ) (hi : i < Γ.length) (hO : i < O.length) (p : Rp K A d v) : StRep K A B H (O.set i .imm) (σ.set i (some v)) (Γ.set i (some d)) := by
  have hs : i < σ.length := by rw [← r.len]; exact hi
  refine ⟨r.a, r.b, by rw [List.length_set, List.length_set]; exact r.len, fun j => ?_, fun j k hjk h1 h2 h3 h4 => ?_⟩
  · by_cases hj : i = j
    · subst hj
      unfold fl gv sv
      rw [getD_set_eq hO, getD_set_eq hi, getD_set_eq hs]
      exact fun d' e => ⟨v, rfl, by cases e; exact p⟩
    · unfold fl gv sv
      rw [getD_set_ne hj, getD_set_ne hj, getD_set_ne hj]
      exact r.slot j
  · have hj : i ≠ j := fun z => by subst z; unfold fl at h1; rw [getD_set_eq hO] at h1; cases h1
    have hk : i ≠ k := fun z => by subst z; unfold fl at h2; rw [getD_set_eq hO] at h2; cases h2
    unfold fl at h1 h2
    unfold gv at h3 h4
    rw [getD_set_ne hj] at h1 h3
    rw [getD_set_ne hk] at h2 h4
    unfold sv
    rw [getD_set_ne hj, getD_set_ne hk]
    exact r.sep j k hjk h1 h2 h3 h4
theorem StRep.setO {p : Addr} {o : HO} (r : StRep K A B H O σ Γ) (hi : i < Γ.length) (hO : i < O.length) (h1 : H p = some o) (h2 : A p = none) (h3 : B p = none) (h4 : OwnO K A d o)
    (hn : ∀ j, isO (fl O j) = true → gv Γ j ≠ none → sv σ j ≠ some (.ref p)) : StRep K A B H (O.set i .own) (σ.set i (some (.ref p))) (Γ.set i (some d)) := by
  have hs : i < σ.length := by rw [← r.len]; exact hi
  refine ⟨r.a, r.b, by rw [List.length_set, List.length_set]; exact r.len, fun j => ?_, fun j k hjk q1 q2 q3 q4 => ?_⟩
  · by_cases hj : i = j
    · subst hj
      unfold fl gv sv
      rw [getD_set_eq hO, getD_set_eq hi, getD_set_eq hs]
      exact fun d' e => ⟨_, rfl, by cases e; exact ⟨p, o, rfl, h1, h2, h3, h4⟩⟩
    · unfold fl gv sv
      rw [getD_set_ne hj, getD_set_ne hj, getD_set_ne hj]
      exact r.slot j
  · unfold fl at q1 q2
    unfold gv at q3 q4
    unfold sv
    by_cases hj : i = j
    · subst hj
      have hk : i ≠ k := hjk
      rw [getD_set_ne hk] at q2 q4
      rw [getD_set_eq hs, getD_set_ne hk]
      exact fun z => hn k q2 q4 z.symm
    · rw [getD_set_ne hj] at q1 q3
      rw [getD_set_ne hj]
      by_cases hk : i = k
      · subst hk
        rw [getD_set_eq hs]
        exact hn j q1 q3
      · rw [getD_set_ne hk] at q2 q4
        rw [getD_set_ne hk]
        exact r.sep j k hjk q1 q2 q3 q4
theorem StRep.own_at (r : StRep K A B H O σ Γ) {j : Nat} (h1 : isO (fl O j) = true) (h2 : gv Γ j ≠ none) : ∃ d p o, gv Γ j = some d ∧ sv σ j = some (.ref p) ∧ H p = some o ∧ A p = none ∧ B p = none ∧ OwnO K A d o := by
  cases e : gv Γ j with
  | none => exact absurd e h2
  | some d =>
    obtain ⟨v, e1, q⟩ := r.slot j d e
    cases hf : fl O j with
    | imm => rw [hf] at h1; cases h1
    | bor => rw [hf] at h1; cases h1
    | own =>
      rw [hf] at q
      obtain ⟨p, o, rfl, q⟩ := q
      exact ⟨d, p, o, rfl, e1, q⟩
    | fix p0 =>
      rw [hf] at q
      obtain ⟨_, p, o, rfl, q⟩ := q
      exact ⟨d, p, o, rfl, e1, q⟩
    | exc C => rw [hf] at h1; cases h1
    | nst b => rw [hf] at h1; cases h1
theorem StRep.fresh {A' H' : Hp} (r : StRep K A B H O σ Γ) (g : Grow A H A' H') {p : Addr} {o : HO} (hi : i < Γ.length) (hO : i < O.length) (h0 : H p = none) (h1 : H' p = some o) (h2 : A' p = none) (h4 : OwnO K A' d o) :
    StRep K A' B H' (O.set i .own) (σ.set i (some (.ref p))) (Γ.set i (some d)) := by
  refine (r.grow g).setO hi hO h1 h2 (r.b.free h0) h4 fun j q1 q2 z => ?_
  obtain ⟨d', p', o', e1, e2, e3, _⟩ := r.own_at q1 q2
  rw [e2] at z
  cases z
  rw [h0] at e3
  cases e3
theorem StRep.freeze (r : StRep K A B H O σ Γ) (hi : fl O i = .own) (hO : i < O.length) : ∃ A', Same A A' ∧ New A A' B ∧ StRep K A' B H (O.set i .imm) σ Γ := by
  by_cases hg : gv Γ i = none
  · refine ⟨A, Same.refl _, fun _ h _ => h, r.a, r.b, r.len, fun j => ?_, fun j k hjk h1 h2 h3 h4 => ?_⟩
    · by_cases hj : i = j
      · subst hj
        intro d e
        rw [hg] at e
        cases e
      · unfold fl
        rw [getD_set_ne hj]
        exact r.slot j
    · have hj : i ≠ j := fun z => by subst z; exact h3 hg
      have hk : i ≠ k := fun z => by subst z; exact h4 hg
      unfold fl at h1 h2
      rw [getD_set_ne hj] at h1
      rw [getD_set_ne hk] at h2
      exact r.sep j k hjk h1 h2 h3 h4
  · have hiO : isO (fl O i) = true := by rw [hi]; rfl
    obtain ⟨d, p, o, e1, e2, h1, h2, h3, h4⟩ := r.own_at hiO hg
    have s : Same A (upd A p o) := Same.new h2 o
    refine ⟨upd A p o, s, fun q n1 n2 => ?_, fun b u q => ?_, r.b, r.len, fun j => ?_, fun j k hjk q1 q2 q3 q4 => ?_⟩
    · have hq : q ≠ p := fun z => n2 (z ▸ h3)
      rw [upd_ne hq]; exact n1
    · by_cases hb : b = p
      · subst hb; rw [upd_same] at q; rw [h1]; exact q
      · rw [upd_ne hb] at q; exact r.a b u q
    · by_cases hj : i = j
      · subst hj
        unfold fl
        rw [getD_set_eq hO]
        intro d' e'
        rw [e1] at e'
        cases e'
        refine ⟨_, e2, ?_⟩
        exact h4.share s
      · unfold fl
        rw [getD_set_ne hj]
        intro d' e'
        obtain ⟨v', e'', q⟩ := r.slot j d' e'
        refine ⟨v', e'', ?_⟩
        cases hf : fl O j with
        | imm => rw [hf] at q; unfold fl at hf; rw [hf]; exact Rp.mono s d' q
        | bor => rw [hf] at q; unfold fl at hf; rw [hf]; exact Pk.mono s (Same.refl _) q
        | own =>
          rw [hf] at q
          have hf' := hf
          unfold fl at hf
          rw [hf]
          obtain ⟨p', o', rfl, g1, g2, g3, g4⟩ := q
          refine ⟨p', o', rfl, g1, ?_, g3, g4.mono s⟩
          have hne : p' ≠ p := fun z => by
            refine r.sep i j hj hiO (by rw [hf']; rfl) hg (by rw [e']; simp) ?_
            rw [e2, e'', z]
          rw [upd_ne hne]; exact g2
        | fix p0 =>
          rw [hf] at q
          have hf' := hf
          unfold fl at hf
          rw [hf]
          obtain ⟨q0, p', o', rfl, g1, g2, g3, g4⟩ := q
          refine ⟨q0, p', o', rfl, g1, ?_, g3, g4.mono s⟩
          have hne : p' ≠ p := fun z => by
            refine r.sep i j hj hiO (by rw [hf']; rfl) hg (by rw [e']; simp) ?_
            rw [e2, e'', z]
          rw [upd_ne hne]; exact g2
        | exc C =>
          rw [hf] at q
          unfold fl at hf
          rw [hf]
          obtain ⟨p', ob, w1, w2, w3⟩ := q
          exact ⟨p', ob, w1, s _ _ w2, w3⟩
        | nst b =>
          rw [hf] at q
          unfold fl at hf
          rw [hf]
          intro z
          obtain ⟨p', xs, kvs, w1, w2, w3, w4, w5, w6⟩ := q z
          refine ⟨p', xs, kvs, w1, w2, w3, ?_, w5, w6.mono s⟩
          have hne : p' ≠ p := fun z => by subst z; rw [h1] at w3; exact h4.nx w3
          rw [upd_ne hne]; exact w4
    · have hj : i ≠ j := fun z => by subst z; unfold fl at q1; rw [getD_set_eq hO] at q1; cases q1
      have hk : i ≠ k := fun z => by subst z; unfold fl at q2; rw [getD_set_eq hO] at q2; cases q2
      unfold fl at q1 q2
      rw [getD_set_ne hj] at q1
      rw [getD_set_ne hk] at q2
      exact r.sep j k hjk q1 q2 q3 q4
theorem StRep.change {p : Addr} {o o' : HO} {d' : PyData} (r : StRep K A B H O σ Γ) (hi : isO (fl O i) = true) (hl : i < Γ.length) (he : gv Γ i ≠ none) (hs : sv σ i = some (.ref p)) (h1 : H p = some o) (h4 : OwnO K A d' o') :
    StRep K A B (upd H p o') O σ (Γ.set i (some d')) := by
  obtain ⟨d, p', o0, e1, e2, g1, g2, g3, g4⟩ := r.own_at hi he
  rw [hs] at e2
  cases e2
  refine ⟨fun b u q => ?_, fun b u q => ?_, by rw [List.length_set]; exact r.len, fun j => ?_, fun j k hjk q1 q2 q3 q4 => ?_⟩
  · have hb : b ≠ p := fun z => by rw [z, g2] at q; cases q
    rw [upd_ne hb]; exact r.a b u q
  · have hb : b ≠ p := fun z => by rw [z, g3] at q; cases q
    rw [upd_ne hb]; exact r.b b u q
  · by_cases hj : i = j
    · subst hj
      unfold gv
      rw [getD_set_eq hl]
      intro d'' e
      cases e
      refine ⟨_, hs, ?_⟩
      cases hf : fl O i with
      | imm => rw [hf] at hi; cases hi
      | bor => rw [hf] at hi; cases hi
      | own => exact ⟨p, o', rfl, upd_same, g2, g3, h4⟩
      | fix p0 =>
        obtain ⟨v', ev, q⟩ := r.slot i d e1
        rw [hf] at q
        rw [hs] at ev
        cases ev
        exact ⟨q.1, p, o', rfl, upd_same, g2, g3, h4⟩
      | exc C => rw [hf] at hi; cases hi
      | nst b => rw [hf] at hi; cases hi
    · unfold gv
      rw [getD_set_ne hj]
      intro d'' e''
      obtain ⟨v', ev, q⟩ := r.slot j d'' e''
      refine ⟨v', ev, ?_⟩
      cases hf : fl O j with
      | imm => rw [hf] at q; exact q
      | bor => rw [hf] at q; exact q
      | own =>
        rw [hf] at q
        obtain ⟨p', o', rfl, u1, u2, u3, u4⟩ := q
        refine ⟨p', o', rfl, ?_, u2, u3, u4⟩
        have hne : p' ≠ p := fun z => by
          refine r.sep i j hj hi (by rw [hf]; rfl) he (by show gv Γ j ≠ none; unfold gv; rw [e'']; simp) ?_
          rw [hs, ev, z]
        rw [upd_ne hne]; exact u1
      | fix p0 =>
        rw [hf] at q
        obtain ⟨q0, p', o', rfl, u1, u2, u3, u4⟩ := q
        refine ⟨q0, p', o', rfl, ?_, u2, u3, u4⟩
        have hne : p' ≠ p := fun z => by
          refine r.sep i j hj hi (by rw [hf]; rfl) he (by show gv Γ j ≠ none; unfold gv; rw [e'']; simp) ?_
          rw [hs, ev, z]
        rw [upd_ne hne]; exact u1
      | exc C => rw [hf] at q; exact q
      | nst b =>
        rw [hf] at q
        intro z
        obtain ⟨p', xs, kvs, w1, w2, w3, w4, w5, w6⟩ := q z
        have hne : p' ≠ p := fun z => by subst z; rw [g1] at w3; exact g4.nx w3
        exact ⟨p', xs, kvs, w1, w2, by rw [upd_ne hne]; exact w3, w4, w5, w6⟩
  · have h3 : gv Γ j ≠ none := by
      by_cases hj : i = j
      · subst hj; exact he
      · unfold gv at q3 ⊢; rw [getD_set_ne hj] at q3; exact q3
    have h4' : gv Γ k ≠ none := by
      by_cases hk : i = k
      · subst hk; exact he
      · unfold gv at q4 ⊢; rw [getD_set_ne hk] at q4; exact q4
    exact r.sep j k hjk q1 q2 h3 h4'
theorem StRep.weak {Γ' : Ev} (r : StRep K A B H O σ Γ) (hl : Γ'.length = Γ.length) (h : ∀ j, gv Γ' j = none ∨ gv Γ' j = gv Γ j) : StRep K A B H O σ Γ' := by
  have h' : ∀ j, gv Γ' j ≠ none → gv Γ j ≠ none := fun j n => by
    rcases h j with z | z
    · exact absurd z n
    · rw [← z]; exact n
  refine ⟨r.a, r.b, hl.trans r.len, fun j d e => ?_, fun j k hjk q1 q2 q3 q4 => r.sep j k hjk q1 q2 (h' j q3) (h' k q4)⟩
  rcases h j with z | z
  · rw [z] at e; cases e
  · rw [z] at e; exact r.slot j d e
end
noncomputable def clr (l : List Nat) (Γ : Ev) : Ev := l.foldl (fun Γ i => Γ.set i none) Γ
theorem clr_ok : ∀ (l : List Nat) (Γ : Ev), (clr l Γ).length = Γ.length ∧ ∀ j, gv (clr l Γ) j = none ∨ gv (clr l Γ) j = gv Γ j
  | [], Γ => ⟨rfl, fun _ => .inr rfl⟩
  | i :: l, Γ => by
    obtain ⟨h1, h2⟩ := clr_ok l (Γ.set i none)
    refine ⟨h1.trans (List.length_set ..), fun j => ?_⟩
    rcases h2 j with z | z
    · exact .inl z
    · by_cases hj : i = j
      · subst hj
        left
        show gv (clr l (Γ.set i none)) i = none
        rw [z]
        unfold gv
        rw [List.getD_eq_getElem?_getD]
        by_cases hi : i < Γ.length
        · rw [List.getElem?_set_self hi]; rfl
        · rw [List.getElem?_eq_none (by rw [List.length_set]; omega)]; rfl
      · right
        show gv (clr l (Γ.set i none)) j = gv Γ j
        rw [z]
        unfold gv
        exact getD_set_ne hj
theorem StRep.clr {K : PySem.W.Frag} {A B H : Hp} {O : List Fl} {σ : L2.St} {Γ : Ev} (r : StRep K A B H O σ Γ) (l : List Nat) : StRep K A B H O σ (L3.clr l Γ) := r.weak (clr_ok l Γ).1 (clr_ok l Γ).2
inductive Rm where
  | f | t | m (p : Addr)
noncomputable def RetV (K : PySem.W.Frag) (rm : Rm) (B A' H' : Hp) (d : PyData) (v : V) : Prop := match rm with
  | .f => Rp K A' d v
  | .t => FreshV K B A' H' d v
  | .m p => ∃ d1 dm o, d = .tuple [d1, dm] ∧ Rp K A' d1 v ∧ H' p = some o ∧ A' p = none ∧ OwnO K A' dm o
noncomputable def OutOk (K : PySem.W.Frag) (rm : Rm) (Ol O' : List Fl) (A B : Hp) (D : Ends) : Out → Prop
  | .nx Γ' => ∀ σ' A' H', StRep K A' B H' O' σ' Γ' → Same A A' → New A A' B → D.nx σ' H'
  | .bk Γ' => ∀ σ' A' H', StRep K A' B H' Ol σ' Γ' → Same A A' → New A A' B → D.bk σ' H'
  | .ct Γ' => ∀ σ' A' H', StRep K A' B H' Ol σ' Γ' → Same A A' → New A A' B → D.ct σ' H'
  | .rt d => ∀ v A' H', Same A' H' → Same B H' → Same A A' → New A A' B → RetV K rm B A' H' d v → D.rt v H'
noncomputable def tS (K : PySem.W.Frag) (rm : Rm) (Ol O O' : List Fl) (m : MS) : TS := fun D σ H => ∃ A B Γ o, StRep K A B H O σ Γ ∧ m Γ = .ok o ∧ OutOk K rm Ol O' A B D o
section
variable {K : PySem.W.Frag} {rm : Rm} {Ol O O' : List Fl} {A B A1 H H1 : Hp} {D : Ends} {o : Out}
theorem OutOk.sub (sa : Same A A1) (nw : New A A1 B) (h : OutOk K rm Ol O' A B D o) : OutOk K rm Ol O' A1 B D o := by
  cases o with
  | nx Γ => exact fun σ' A' H' r s n => h σ' A' H' r (sa.trans s) (nw.trans n)
  | bk Γ => exact fun σ' A' H' r s n => h σ' A' H' r (sa.trans s) (nw.trans n)
  | ct Γ => exact fun σ' A' H' r s n => h σ' A' H' r (sa.trans s) (nw.trans n)
  | rt d => exact fun v A' H' s1 s2 s n => h v A' H' s1 s2 (sa.trans s) (nw.trans n)
theorem Grow.nB (g : Grow A H A1 H1) (b : Same B H) : New A A1 B := g.nw.mono b
end
noncomputable def sNil : MS := fun Γ => .ok (.nx Γ)
noncomputable def sSeq (a b : MS) : MS := fun Γ => (a Γ).bind fun o => match o with
  | .nx Γ' => b Γ'
  | .rt d => .ok (.rt d)
  | .bk Γ' => .ok (.bk Γ')
  | .ct Γ' => .ok (.ct Γ')
noncomputable def sSet (i : Nat) (m : ME) : MS := fun Γ => (m Γ).bind fun d => gd (i < Γ.length) (.ok (.nx (Γ.set i (some d))))
noncomputable def sIf (c : ME) (a b : MS) : MS := fun Γ => (c Γ).bind fun x => match x with
  | .bool true => a Γ
  | .bool false => b Γ
  | _ => .bad
noncomputable def sRet (m : ME) : MS := fun Γ => (m Γ).bind fun d => .ok (.rt d)
section
variable {X : Cx} {K : PySem.W.Frag} {rm : Rm} {Ol O O1 O2 O' : List Fl} {m : ME} {m1 m2 : MS} {e c : Expr} {st : Stmt} {rest a b : List Stmt} {pos : Pos}
theorem ss_nil : QSs X [] (tS K rm Ol O O sNil) := QSs.imp pss_nil fun D σ H hq__ => by
  obtain ⟨A, B, Γ, o, r, em, k⟩ := hq__
  cases em
  exact k σ A H r (Same.refl _) fun _ h _ => h
theorem ss_cons (h1 : QS X st (tS K rm Ol O O1 m1)) (h2 : QSs X rest (tS K rm Ol O1 O2 m2)) : QSs X (st :: rest) (tS K rm Ol O O2 (sSeq m1 m2)) := QSs.imp (pss_cons h1.h h2.h) fun D σ H hq__ => by
  obtain ⟨A, B, Γ, o, r, em, k⟩ := hq__
  obtain ⟨o1, e1, em⟩ := Res.bind_ok em
  cases o1 with
  | nx Γ1 => exact ⟨A, B, Γ, _, r, e1, fun σ' A' H' r' sa nw => ⟨A', B, Γ1, o, r', em, k.sub sa nw⟩⟩
  | rt d => cases em; exact ⟨A, B, Γ, _, r, e1, k⟩
  | bk d => cases em; exact ⟨A, B, Γ, _, r, e1, k⟩
  | ct d => cases em; exact ⟨A, B, Γ, _, r, e1, k⟩
theorem ss_one (h1 : QS X st (tS K rm Ol O O1 m1)) : QSs X [st] (tS K rm Ol O O1 m1) := ⟨pss_one h1.h⟩
theorem s1_frz (i : Nat) {O2 : List Fl} (h : QS X st (tS K rm Ol O2 O' m1)) (hO : O.set i .imm = O2 := by rfl) (hi : fl O i = .own := by rfl) (hl : i < O.length := by exact of_decide_eq_true rfl) : QS X st (tS K rm Ol O O' m1) := QS.imp (hO ▸ h.h) fun D σ H hq__ => by
  obtain ⟨A, B, Γ, o, r, em, k⟩ := hq__
  obtain ⟨A', sa, nw, r'⟩ := r.freeze hi hl
  exact ⟨A', B, Γ, o, r', em, k.sub sa nw⟩
theorem se_frz (i : Nat) {O2 : List Fl} (h : QSs X rest (tS K rm Ol O O' m1)) (hO : O'.set i .imm = O2 := by rfl) (hi : fl O' i = .own := by rfl) (hl : i < O'.length := by exact of_decide_eq_true rfl) : QSs X rest (tS K rm Ol O O2 m1) := hO ▸ QSs.imp h.h fun D σ H hq__ => by
  obtain ⟨A, B, Γ, o, r, em, k⟩ := hq__
  refine ⟨A, B, Γ, o, r, em, ?_⟩
  cases o with
  | nx Γ' =>
    intro σ' A' H' r' sa nw
    obtain ⟨A2, sa2, nw2, r2⟩ := r'.freeze hi hl
    exact k σ' A2 H' r2 (sa.trans sa2) (nw.trans nw2)
  | bk Γ' => exact k
  | ct Γ' => exact k
  | rt d => exact k
theorem tAsg_set {te : TE} {i : Nat} (h : ∀ σ H Q, tE K O m σ H Q → te σ H Q) (hl : i < O.length) {D : Ends} {σ : L2.St} {H : Hp} (q : tS K rm Ol O (O.set i .imm) (sSet i m) D σ H) : tAsg te (gName i) D σ H := by
  obtain ⟨A, B, Γ, o, r, em, k⟩ := q
  obtain ⟨d, e1, em⟩ := Res.bind_ok em
  obtain ⟨hi, em⟩ := gd_ok em
  cases em
  refine h σ H _ ⟨A, B, Γ, d, r, e1, fun v A' H' g p => ?_⟩
  exact k _ A' H' ((r.grow g).set hi hl p) g.aa (g.nB r.b)
theorem tAsg_setF {te : TE} {i : Nat} (h : ∀ σ H Q, tF K O m σ H Q → te σ H Q) (hl : i < O.length) {D : Ends} {σ : L2.St} {H : Hp} (q : tS K rm Ol O (O.set i .own) (sSet i m) D σ H) : tAsg te (gName i) D σ H := by
  obtain ⟨A, B, Γ, o, r, em, k⟩ := q
  obtain ⟨d, e1, em⟩ := Res.bind_ok em
  obtain ⟨hi, em⟩ := gd_ok em
  cases em
  refine h σ H _ ⟨A, B, Γ, d, r, e1, fun v A' H' g p => ?_⟩
  obtain ⟨p, o, rfl, h0, h1, h2, h4⟩ := p
  exact k _ A' H' (r.fresh g hi hl h0 h1 h2 h4) g.aa (g.nB r.b)
theorem ss_set (i : Nat) {O2 : List Fl} {x : Str} {pos' : Pos} (hN : X.N.Nodup) (hi : X.N[i]? = some x) (hx : Loc X.env.scope x) (he : QE X e (tE K O m)) (hl : i < O.length := by exact of_decide_eq_true rfl) (hs : swapsWith e (some (.Name x pos')) pos.line X.env = pure false := by rfl)
    (hf : X.fn x = true ∨ X.env.scope.names.lookup x = some .local := by first | exact .inl rfl | exact .inr rfl | assumption) (hO : O.set i .imm = O2 := by rfl) : QS X (.Assign [.Name x pos'] e pos) (tS K rm Ol O O2 (sSet i m)) :=
  hO ▸ QS.imp (ps_set hN hi hx he.h hs hf) fun D σ H => tAsg_set (fun _ _ _ z => z) hl
theorem ss_setF (i : Nat) {O2 : List Fl} {x : Str} {pos' : Pos} (hN : X.N.Nodup) (hi : X.N[i]? = some x) (hx : Loc X.env.scope x) (he : QE X e (tF K O m)) (hl : i < O.length := by exact of_decide_eq_true rfl) (hs : swapsWith e (some (.Name x pos')) pos.line X.env = pure false := by rfl)
    (hf : X.fn x = true ∨ X.env.scope.names.lookup x = some .local := by first | exact .inl rfl | exact .inr rfl | assumption) (hO : O.set i .own = O2 := by rfl) : QS X (.Assign [.Name x pos'] e pos) (tS K rm Ol O O2 (sSet i m)) :=
  hO ▸ QS.imp (ps_set hN hi hx he.h hs hf) fun D σ H => tAsg_setF (fun _ _ _ z => z) hl
theorem ss_if (hc : QT X c (tT K O m)) (ha : QSs X a (tS K rm Ol O O' m1)) (hb : QSs X b (tS K rm Ol O O' m2)) : QS X (.If c a b pos) (tS K rm Ol O O' (sIf m m1 m2)) := QS.imp (ps_if hc.h ha.h hb.h) fun D σ H hq__ => by
  obtain ⟨A, B, Γ, o, r, em, k⟩ := hq__
  obtain ⟨d1, e1, em⟩ := Res.bind_ok em
  cases d1 with
  | bool bb =>
    refine ⟨A, B, Γ, bb, r, e1, fun A1 H1 g1 => ?_⟩
    cases bb with
    | true => exact iteT ⟨A1, B, Γ, o, r.grow g1, em, k.sub g1.aa (g1.nB r.b)⟩
    | false => exact iteF ⟨A1, B, Γ, o, r.grow g1, em, k.sub g1.aa (g1.nB r.b)⟩
  | _ => cases em
theorem ss_ret (he : QE X e (tE K O m)) : QS X (.Return (some e) pos) (tS K .f Ol O O' (sRet m)) := QS.imp (ps_ret he.h) fun D σ H hq__ => by
  obtain ⟨A, B, Γ, o, r, em, k⟩ := hq__
  obtain ⟨d1, e1, em⟩ := Res.bind_ok em
  cases em
  exact ⟨A, B, Γ, d1, r, e1, fun v A' H' g p => k v A' H' g.ah (r.b.trans g.hh) g.aa (g.nB r.b) p⟩
theorem ss_retO (i : Nat) {x : Str} {p : Pos} (hi : fl O i = .own := by rfl) (hN : X.N[i]? = some x := by rfl) (hv : Vis X.env.scope x := by first | exact Or.inl rfl | exact Or.inr (Or.inl rfl) | exact Or.inr (Or.inr rfl)) (hd : (x == ("__debug__" : Str)) = false := by decide)
    (hcd : (x == ("__classdict__" : Str)) = false := by decide) : QS X (.Return (some (.Name x p)) pos) (tS K .t Ol O O' (sRet (eVar i))) := QS.imp (ps_ret (pe_var hN hv hd hcd)) fun D σ H hq__ => by
  obtain ⟨A, B, Γ, o, r, em, k⟩ := hq__
  obtain ⟨d1, e1, em⟩ := Res.bind_ok em
  cases em
  obtain ⟨v, e2, q⟩ := r.slot i d1 (eVar_ok e1)
  rw [hi] at q
  refine ⟨v, sv_get e2, k v A H r.a r.b (Same.refl _) (fun _ h _ => h) ?_⟩
  obtain ⟨p, o, e, h1, h2, h3, h4⟩ := q
  exact ⟨p, o, e, h3, h1, h2, h4⟩
end
noncomputable def spF (K : PySem.W.Frag) (fs : List Fl) (rm : Rm) (f : List PyData → Res PyData) : Sp := fun vs H Q _ => ∃ A ds d, Same A H ∧ ArgsOk K A H fs ds vs ∧ f ds = .ok d ∧ ∀ v A' H', Grow A H A' H' → RetV K rm H A' H' d v → Q v H'
theorem ArgsOk.length {K : PySem.W.Frag} {A H : Hp} : ∀ {fs : List Fl} {ds : List PyData} {vs : List V}, ArgsOk K A H fs ds vs → vs.length = fs.length ∧ ds.length = fs.length
  | [], ds, vs, h => by obtain ⟨rfl, rfl⟩ := h; exact ⟨rfl, rfl⟩
  | f :: fs, ds, vs, h => by
    obtain ⟨d, r, v, s, rfl, rfl, _, h⟩ := h
    have := h.length
    exact ⟨by rw [List.length_cons, List.length_cons, this.1], by rw [List.length_cons, List.length_cons, this.2]⟩
noncomputable def eCall (f : List PyData → Res PyData) (ms : List ME) : ME := fun Γ => (evs ms Γ).bind f
section
variable {X : Cx} {k : Nat} {x : Str} {ps : List Str} {fs : List Fl} {f : List PyData → Res PyData} {O : List Fl} {ms : List ME} {p pos : Pos} {e : Expr} {es : List Expr}
theorem se_call (F : Def X.prog X.w X.K X.mg X.base k x ps (spF X.K fs .f f)) (hr : Room k X.A) (hg : Gl X x) (ha : QA X (e :: es) (tAr X.K O fs ms)) (hdb : (x == ("__debug__" : Str)) = false := by decide)
    (he : noStar e = true := by rfl) (hpl : noStars es = true := by rfl) : QE X (.Call (.Name x p) (e :: es) [] pos) (tE X.K O (eCall f ms)) :=
  QE.imp (pe_def F hr hg ha.h hdb (star_cons he) (star_any hpl)) fun σ H Q hq__ => by
    obtain ⟨A, B, Γ, d, r, em, k⟩ := hq__
    obtain ⟨ds, e1, em⟩ := Res.bind_ok em
    refine ⟨A, B, Γ, ds, r, e1, fun vs A1 H1 g1 p1 => ?_⟩
    show spF X.K fs .f f (vs ++ []) H1 Q E0
    rw [List.append_nil]
    exact ⟨A1, ds, d, g1.ah, p1, em, fun v A' H' g p => k v A' H' (g1.trans g) p⟩
theorem sf_call (F : Def X.prog X.w X.K X.mg X.base k x ps (spF X.K fs .t f)) (hr : Room k X.A) (hg : Gl X x) (ha : QA X (e :: es) (tAr X.K O fs ms)) (hdb : (x == ("__debug__" : Str)) = false := by decide)
    (he : noStar e = true := by rfl) (hpl : noStars es = true := by rfl) : QE X (.Call (.Name x p) (e :: es) [] pos) (tF X.K O (eCall f ms)) :=
  QE.imp (pe_def F hr hg ha.h hdb (star_cons he) (star_any hpl)) fun σ H Q hq__ => by
    obtain ⟨A, B, Γ, d, r, em, k⟩ := hq__
    obtain ⟨ds, e1, em⟩ := Res.bind_ok em
    refine ⟨A, B, Γ, ds, r, e1, fun vs A1 H1 g1 p1 => ?_⟩
    show spF X.K fs .t f (vs ++ []) H1 Q E0
    rw [List.append_nil]
    refine ⟨A1, ds, d, g1.ah, p1, em, fun v A' H' g p => k v A' H' (g1.trans g) ?_⟩
    obtain ⟨q, o, e, h1, h2⟩ := p
    exact ⟨q, o, e, g1.hh.free h1, h2⟩
end
noncomputable def fnR (n : Nat) (m : MS) (ds : List PyData) : Res PyData := (m (ds.map some ++ List.replicate (n - ds.length) none)).bind fun o => match o with
  | .rt d => .ok d
  | _ => .bad
section
variable {P : Program} {w : World} {K : PySem.W.Frag} {mg : Str → Option Value} {base : Heap}
theorem start_rep {fs O : List Fl} {N : List Str} {A H : Hp} : ∀ {ds : List PyData} {vs : List V}, Same A H → ArgsOk K A H fs ds vs → (∀ i, i < fs.length → (fl O i = .imm ∧ fl fs i = .imm) ∨ fl O i = .bor) → fs.length ≤ N.length →
    StRep K A H H O (L2.start N vs) (ds.map some ++ List.replicate (N.length - ds.length) none) := by
  intro ds vs ha h hO hn
  have hl := h.length
  have one : ∀ (fs : List Fl) (ds : List PyData) (vs : List V), ArgsOk K A H fs ds vs → ∀ i d, ds[i]? = some d → ∃ v, vs[i]? = some v ∧ ArgV K A H (fl fs i) d v := by
    intro fs
    induction fs with
    | nil => intro ds vs h i d e; obtain ⟨rfl, rfl⟩ := h; simp at e
    | cons f fs ih =>
      intro ds vs h i d e
      obtain ⟨d0, r, v, s, rfl, rfl, h1, h⟩ := h
      match i with
      | 0 => simp at e; subst e; exact ⟨v, rfl, h1⟩
      | i + 1 =>
        obtain ⟨v', h2, h3⟩ := ih r s h i d (by simpa using e)
        exact ⟨v', by simpa using h2, h3⟩
  have gvN : ∀ i, gv (ds.map some ++ List.replicate (N.length - ds.length) none) i = ds[i]? := fun i => by
    unfold gv
    rw [List.getD_eq_getElem?_getD]
    rcases Nat.lt_or_ge i ds.length with h | h
    · rw [List.getElem?_append_left (by simpa using h), List.getElem?_map, List.getElem?_eq_getElem h]; rfl
    · rw [List.getElem?_append_right (by simpa using h), List.getElem?_replicate, List.getElem?_eq_none h]
      split <;> rfl
  have svN : ∀ i v, vs[i]? = some v → sv (L2.start N vs) i = some v := fun i v e => by
    unfold sv L2.start
    rw [List.getD_eq_getElem?_getD]
    have h : i < vs.length := (List.getElem?_eq_some_iff.mp e).1
    rw [List.getElem?_append_left (by simpa using h), List.getElem?_map, e]; rfl
  refine ⟨ha, Same.refl _, ?_, fun i d e => ?_, fun i j hij h1 h2 h3 h4 => ?_⟩
  · unfold L2.start
    rw [List.length_append, List.length_append, List.length_map, List.length_map, List.length_replicate, List.length_replicate]
    omega
  · rw [gvN] at e
    obtain ⟨v, e1, q⟩ := one fs ds vs h i d e
    refine ⟨v, svN i v e1, ?_⟩
    have hi : i < fs.length := by rw [← hl.2]; exact (List.getElem?_eq_some_iff.mp e).1
    rcases hO i hi with ⟨z, z'⟩ | z
    · rw [z]; rw [z'] at q; exact q
    · rw [z]
      cases hf : fl fs i with
      | imm => rw [hf] at q; exact .inl q
      | bor => rw [hf] at q; exact q
      | own => rw [hf] at q; exact q
      | fix p0 => rw [hf] at q; exact q
      | exc C => rw [hf] at q; exact q
      | nst b => rw [hf] at q; exact q
  · rw [gvN] at h3
    have hi : i < fs.length := by
      rw [← hl.2]
      rcases Nat.lt_or_ge i ds.length with h | h
      · exact h
      · exact absurd (List.getElem?_eq_none h) h3
    rcases hO i hi with ⟨z, _⟩ | z <;> rw [z] at h1 <;> cases h1
theorem def_okF {x : Str} {st : Stmt} {fa : Addr} {fd : FuncData} {N ps : List Str} {k : Nat} {fs O O' Ol : List Fl} {rm : Rm} {m : MS} (F : Fun K x x st fa fd) (S : FnScope N ps (defScope st)) (hf : fs.length = ps.length) (hn : ps.length ≤ N.length)
    (hO : ∀ i, i < fs.length → (fl O i = .imm ∧ fl fs i = .imm) ∨ fl O i = .bor)
    (hbody : ∀ (f : Addr) (cdv : Value) (A : Around) (outer : List Env) (s : Shared) (H : Hp) (E : XK), Room k (A.deeper (envOfC x (defScope st) s.heap.objs.size f cdv)) →
      QSs (cxOf CX0 P w K mg base N x (defScope st) f cdv A outer s H E).nox (defBody st) (tS K rm Ol O O' m)) : FnOk P w K mg base CX0 (k + 1) fa fd ps (spF K fs rm (fnR N.length m)) := by
  refine F.ok S (fun vs H Q E h => ?_) (fun cdv A outer s H vs Q E hr h => ?_)
  · obtain ⟨A, ds, d, _, h, _⟩ := h
    rw [h.length.1, hf]
  · obtain ⟨A', ds, d, ha, h, em, q⟩ := h
    obtain ⟨o, e1, em⟩ := Res.bind_ok em
    cases o with
    | rt d' =>
      cases em
      refine ⟨_, (hbody fa cdv A outer s H E hr).h, A', H, _, _, start_rep ha h hO (by omega), e1, fun v A2 H2 s1 s2 sa nw rv => q v A2 H2 ⟨sa, s2, s1, nw⟩ rv⟩
    | _ => cases em
theorem def_ok {x : Str} {st : Stmt} {N ps : List Str} {k : Nat} {fs O O' Ol : List Fl} {rm : Rm} {m : MS} (F : At K mg x st ps) (S : FnScope N ps (defScope st)) (hf : fs.length = ps.length) (hn : ps.length ≤ N.length)
    (hO : ∀ i, i < fs.length → (fl O i = .imm ∧ fl fs i = .imm) ∨ fl O i = .bor)
    (hbody : ∀ (f : Addr) (cdv : Value) (A : Around) (outer : List Env) (s : Shared) (H : Hp) (E : XK), Room k (A.deeper (envOfC x (defScope st) s.heap.objs.size f cdv)) →
      QSs (cxOf CX0 P w K mg base N x (defScope st) f cdv A outer s H E).nox (defBody st) (tS K rm Ol O O' m)) : Def P w K mg base (k + 1) x ps (spF K fs rm (fnR N.length m)) := by
  refine F.ok S (fun vs H Q E h => ?_) (fun f cdv A outer s H vs Q E hr h => ?_)
  · obtain ⟨A, ds, d, _, h, _⟩ := h
    rw [h.length.1, hf]
  · obtain ⟨A', ds, d, ha, h, em, q⟩ := h
    obtain ⟨o, e1, em⟩ := Res.bind_ok em
    cases o with
    | rt d' =>
      cases em
      refine ⟨_, (hbody f cdv A outer s H E hr).h, A', H, _, _, start_rep ha h hO (by omega), e1, fun v A2 H2 s1 s2 sa nw rv => q v A2 H2 ⟨sa, s2, s1, nw⟩ rv⟩
    | _ => cases em
end
end L3
namespace L3
open PySem PySem.Spec PyProof.Rows L2
noncomputable abbrev MI := Ev → Res (List PyData)
structure ItOk (K : PySem.W.Frag) (A B : Hp) (J : It) (xs : List PyData) : Prop where
  go : ∀ i H, Same A H → Same B H → i < xs.length → J.go i H
  stop : ∀ H, Same A H → Same B H → J.stop xs.length H
  yld : ∀ i A2 H x H', Same A A2 → Same A2 H → Same B H → i < xs.length → J.yld i H x H' → ∃ A' d, xs[i]? = some d ∧ Grow A2 H A' H' ∧ Rp K A' d x
noncomputable def tI (K : PySem.W.Frag) (O : List Fl) (it : MI) : TI := fun σ H R => ∃ A B Γ xs, StRep K A B H O σ Γ ∧ it Γ = .ok xs ∧ ∀ J A1 H1, Grow A H A1 H1 → ItOk K A1 B J xs → R J H1
noncomputable def tIc (K : PySem.W.Frag) (O : List Fl) (it : MI) : TI := fun σ H R => ∃ A B Γ xs, StRep K A B H O σ Γ ∧ it Γ = .ok xs ∧ ∀ J A1 H1, Grow A H A1 H1 → ItOk K A1 H1 J xs → R J H1
noncomputable def tQ (K : PySem.W.Frag) (O : List Fl) (m : ME) : TE := fun σ H Q => ∃ A B Γ d, StRep K A B H O σ Γ ∧ m Γ = .ok d ∧ ∀ v A' H', Grow A H A' H' → Pk K A' B d v → Q v H'
section
variable {X : Cx} {K : PySem.W.Frag} {O : List Fl} {m : ME} {e : Expr} {pos : Pos}
theorem sq (h : QE X e (tE K O m)) : QE X e (tQ K O m) := QE.imp h.h fun σ H Q hq__ => by obtain ⟨A, B, Γ, d, r, em, k⟩ := hq__; exact ⟨A, B, Γ, d, r, em, fun v A' H' g p => k v A' H' g (.inl p)⟩
theorem sq_var (i : Nat) {x : Str} (hi : isO (fl O i) = false := by rfl) (hN : X.N[i]? = some x := by rfl) (hv : Vis X.env.scope x := by first | exact Or.inl rfl | exact Or.inr (Or.inl rfl) | exact Or.inr (Or.inr rfl)) (hd : (x == ("__debug__" : Str)) = false := by decide)
    (hcd : (x == ("__classdict__" : Str)) = false := by decide) (hx : isX (fl O i) = false := by rfl) : QE X (.Name x pos) (tQ K O (eVar i)) := QE.imp (pe_var hN hv hd hcd) fun σ H Q hq__ => by
  obtain ⟨A, B, Γ, d, r, em, k⟩ := hq__
  obtain ⟨v, e1, q⟩ := r.slot i d (eVar_ok em)
  refine ⟨v, sv_get e1, k v A H (Grow.refl r.a) ?_⟩
  cases hf : fl O i with
  | imm => rw [hf] at q; exact .inl q
  | bor => rw [hf] at q; exact q
  | own => rw [hf] at hi; cases hi
  | fix p0 => rw [hf] at hi; cases hi
  | exc C => rw [hf] at hx; cases hx
  | nst b => rw [hf] at hx; cases hx
end
theorem Pk.seqL {K : PySem.W.Frag} {A B H : Hp} {ds : List PyData} {v : V} (h : Pk K A B (.list ds) v) : ∃ p vs, v = .ref p ∧ RpAll K A ds vs ∧ ∀ H, Same A H → Same B H → SqL K H p vs := by
  rcases h with h | ⟨p, vs, ds', e1, e2, h1, h2⟩ | ⟨_, _, _, _, e2, _⟩
  · obtain ⟨a, vs, e, h1, h2⟩ := Rp.list.mp h
    exact ⟨a, vs, e, h2, fun H s _ => s.seq h1⟩
  · cases e2
    exact ⟨p, vs, e1, h2, fun H _ s => s.seq h1⟩
  · cases e2
theorem Pk.seqT {K : PySem.W.Frag} {A B H : Hp} {ds : List PyData} {v : V} (h : Pk K A B (.tuple ds) v) : ∃ p vs, v = .ref p ∧ RpAll K A ds vs ∧ ∀ H, Same A H → SqT K H p vs := by
  obtain ⟨a, vs, e, h1, h2⟩ := Rp.tuple.mp (h.nolist (fun _ z => nomatch z) (fun _ z => nomatch z))
  exact ⟨a, vs, e, h2, fun H s => s.seqT h1⟩
section
variable {K : PySem.W.Frag} {A B : Hp} {ds : List PyData} {vs : List V} {p : Addr}
theorem it_list (hr : RpAll K A ds vs) (hq : ∀ H, Same A H → Same B H → SqL K H p vs) : ItOk K A B (Itl K p) ds := by
  have hl := hr.length
  refine ⟨fun i H s1 s2 hi => ?_, fun H s1 s2 => ⟨vs, hq H s1 s2, by omega⟩, fun i A2 H x H' sa s1 s2 hi y => ?_⟩
  · exact ⟨vs, vs[i]'(by omega), hq H s1 s2, List.getElem?_eq_getElem _⟩
  · obtain ⟨rfl, y⟩ := y
    have e := y vs (hq H' (sa.trans s1) s2)
    obtain ⟨d, e1, q⟩ := hr.get e
    exact ⟨A2, d, e1, Grow.refl s1, Rp.mono sa d q⟩
theorem it_tup (hr : RpAll K A ds vs) (hq : ∀ H, Same A H → SqT K H p vs) : ItOk K A B (Itt K p) ds := by
  have hl := hr.length
  refine ⟨fun i H s1 s2 hi => ?_, fun H s1 s2 => ⟨vs, hq H s1, by omega⟩, fun i A2 H x H' sa s1 s2 hi y => ?_⟩
  · exact ⟨vs, vs[i]'(by omega), hq H s1, List.getElem?_eq_getElem _⟩
  · obtain ⟨rfl, y⟩ := y
    have e := y vs (hq H' (sa.trans s1))
    obtain ⟨d, e1, q⟩ := hr.get e
    exact ⟨A2, d, e1, Grow.refl s1, Rp.mono sa d q⟩
theorem it_range (lo : Int) (n : Nat) : ItOk K A B (Itr lo n) ((List.range n).map fun i => PyData.int (lo + (i : Nat))) := by
  have hl : ((List.range n).map fun i => PyData.int (lo + (i : Nat))).length = n := by rw [List.length_map, List.length_range]
  refine ⟨fun i H _ _ hi => (by rw [hl] at hi; exact hi), fun H _ _ => (by rw [hl]; exact Nat.le_refl _), fun i A2 H x H' sa s1 s2 hi y => ?_⟩
  obtain ⟨rfl, rfl⟩ := y
  rw [hl] at hi
  exact ⟨A2, .int (lo + (i : Nat)), by rw [List.getElem?_map, List.getElem?_range hi]; rfl, Grow.refl s1, Rp.int.mpr rfl⟩
noncomputable def enumL (ds : List PyData) : List PyData := (List.range ds.length).map fun i => PyData.tuple [.int (i : Nat), ds.getD i .none]
theorem it_enum (hr : RpAll K A ds vs) (hq : ∀ H, Same A H → Same B H → SqL K H p vs) : ItOk K A B (Ite K p) (enumL ds) := by
  have hl := hr.length
  have he : (enumL ds).length = vs.length := by unfold enumL; rw [List.length_map, List.length_range, hl]
  refine ⟨fun i H s1 s2 hi => ?_, fun H s1 s2 => ⟨vs, hq H s1 s2, by omega⟩, fun i A2 H x H' sa s1 s2 hi y => ?_⟩
  · exact ⟨vs, vs[i]'(by omega), hq H s1 s2, List.getElem?_eq_getElem _⟩
  · obtain ⟨q, v, hq0, rfl, rfl, y⟩ := y
    have e := y vs (hq H (sa.trans s1) s2)
    obtain ⟨d, e1, rd⟩ := hr.get e
    have g := Grow.new (o := .tup [.int (i : Nat), v]) s1 hq0
    refine ⟨_, .tuple [.int (i : Nat), d], ?_, g, Rp.tuple.mpr ⟨q, _, rfl, SqT.of upd_same, RpAll.cons.mpr ⟨_, _, rfl, Rp.int.mpr rfl, RpAll.one (Rp.mono (sa.trans g.aa) d rd)⟩⟩⟩
    unfold enumL
    rw [List.getElem?_map, List.getElem?_range (by omega)]
    show some (PyData.tuple [PyData.int (i : Nat), ds.getD i .none]) = _
    rw [List.getD_eq_getElem?_getD, e1]
    rfl
theorem it_enumT (hr : RpAll K A ds vs) (hq : ∀ H, Same A H → SqT K H p vs) : ItOk K A B (IteT K p) (enumL ds) := by
  have hl := hr.length
  have he : (enumL ds).length = vs.length := by unfold enumL; rw [List.length_map, List.length_range, hl]
  refine ⟨fun i H s1 s2 hi => ?_, fun H s1 s2 => ⟨vs, hq H s1, by omega⟩, fun i A2 H x H' sa s1 s2 hi y => ?_⟩
  · exact ⟨vs, vs[i]'(by omega), hq H s1, List.getElem?_eq_getElem _⟩
  · obtain ⟨q, v, hq0, rfl, rfl, y⟩ := y
    have e := y vs (hq H (sa.trans s1))
    obtain ⟨d, e1, rd⟩ := hr.get e
    have g := Grow.new (o := .tup [.int (i : Nat), v]) s1 hq0
    refine ⟨_, .tuple [.int (i : Nat), d], ?_, g, Rp.tuple.mpr ⟨q, _, rfl, SqT.of upd_same, RpAll.cons.mpr ⟨_, _, rfl, Rp.int.mpr rfl, RpAll.one (Rp.mono (sa.trans g.aa) d rd)⟩⟩⟩
    unfold enumL
    rw [List.getElem?_map, List.getElem?_range (by omega)]
    show some (PyData.tuple [PyData.int (i : Nat), ds.getD i .none]) = _
    rw [List.getD_eq_getElem?_getD, e1]
    rfl
end
noncomputable def itL (m : ME) : MI := fun Γ => (m Γ).bind fun d => match d with
  | .list ds => .ok ds
  | .tuple ds => .ok ds
  | _ => .bad
noncomputable def itR1 (m : ME) : MI := fun Γ => (m Γ).bind fun d => match d with
  | .int j => gd (-(2 ^ 62) ≤ j ∧ j < 2 ^ 62) (.ok ((List.range j.toNat).map fun i => PyData.int (0 + (i : Nat))))
  | _ => .bad
noncomputable def itE (m : ME) : MI := fun Γ => (m Γ).bind fun d => match d with
  | .list ds => .ok (enumL ds)
  | .tuple ds => .ok (enumL ds)
  | _ => .bad
section
variable {X : Cx} {O : List Fl} {m m' : ME} {e a b tg : Expr} {pos p : Pos}
noncomputable def iSeq (K : PySem.W.Frag) (tl : TE) : TI := fun σ H R => tl σ H fun x H1 => ∃ a, x = .ref a ∧ (((∃ xs, SqL K H1 a xs) ∧ R (Itl K a) H1) ∨ ((∃ xs, SqT K H1 a xs) ∧ R (Itt K a) H1))
theorem pi_seq {l : Expr} {tl : TE} (hl : PE X l tl) : PI X tg l (iSeq X.K tl) := by
  intro pins s σ H R I h
  refine thn (hl pins s σ H _ I h) fun v s1 hq__ => ?_
  obtain ⟨x, H1, I1, r1, q1⟩ := hq__
  obtain ⟨a, e, q1⟩ := q1
  subst e
  cases r1
  rcases q1 with ⟨⟨xs, hq⟩, q⟩ | ⟨⟨xs, hq⟩, q⟩
  · obtain ⟨its, rv, p, hz⟩ := I1.list hq
    refine wpAny_pyIter_list p.isList ?_
    refine ⟨s1.heap.objs.size, [s1.heap.objs.size], _, _, H1, rfl, I1.kept (t' := s1.toks) fun b o e => Heap.get?_push_of_some _ e, turn_list a _, ⟨_, Heap.get?_push_size _ rfl, rfl, rfl⟩, fun b hb => ?_, q⟩
    have e : b = s1.heap.objs.size := by simpa using hb
    subst e
    exact I1.fpOk (Nat.le_refl _) (I1.hok.fresh (Nat.le_refl _))
  · obtain ⟨its, rv, p, hz⟩ := I1.tuple hq
    refine wpAny_pyIter_tuple (show s1.heap.IsTuple a its.toArray from p) ?_
    refine ⟨s1.heap.objs.size, [s1.heap.objs.size], _, _, H1, rfl, I1.kept (t' := s1.toks) fun b o e => Heap.get?_push_of_some _ e, turn_tuple a _, ⟨_, Heap.get?_push_size _ rfl, rfl, rfl⟩, fun b hb => ?_, q⟩
    have e : b = s1.heap.objs.size := by simpa using hb
    subst e
    exact I1.fpOk (Nat.le_refl _) (I1.hok.fresh (Nat.le_refl _))
theorem iSeq_of {K : PySem.W.Frag} {A B H1 : Hp} {d : PyData} {v : V} {R : It → Hp → Prop} {xs : List PyData} (sa : Same A H1) (sb : Same B H1) (p : Pk K A B d v) (e : (match d with | .list ds => Res.ok ds | .tuple ds => .ok ds | _ => .bad) = .ok xs)
    (k : ∀ J, ItOk K A B J xs → R J H1) : ∃ a, v = .ref a ∧ (((∃ xs, SqL K H1 a xs) ∧ R (Itl K a) H1) ∨ ((∃ xs, SqT K H1 a xs) ∧ R (Itt K a) H1)) := by
  cases d with
  | list ds =>
    cases e
    obtain ⟨q, vs, rfl, h2, h1⟩ := p.seqL (H := H1)
    exact ⟨q, rfl, .inl ⟨⟨vs, h1 H1 sa sb⟩, k _ (it_list h2 h1)⟩⟩
  | tuple ds =>
    cases e
    obtain ⟨q, vs, rfl, h2, h1⟩ := p.seqT (H := H1)
    exact ⟨q, rfl, .inr ⟨⟨vs, h1 H1 sa⟩, k _ (it_tup h2 h1)⟩⟩
  | _ => cases e
theorem si_seq (h : QE X e (tQ X.K O m)) : QI X tg e (tI X.K O (itL m)) := QI.imp (pi_seq h.h) fun σ H R hq__ => by
  obtain ⟨A, B, Γ, xs, r, em, k⟩ := hq__
  obtain ⟨d, e1, em⟩ := Res.bind_ok em
  refine ⟨A, B, Γ, d, r, e1, fun v A1 H1 g1 p1 => iSeq_of g1.ah (r.b.trans g1.hh) p1 em fun J hj => k J A1 H1 g1 hj⟩
theorem sc_seq (h : QE X e (tP X.K O m)) : QI X tg e (tIc X.K O (itL m)) := QI.imp (pi_seq h.h) fun σ H R hq__ => by
  obtain ⟨A, B, Γ, xs, r, em, k⟩ := hq__
  obtain ⟨d, e1, em⟩ := Res.bind_ok em
  refine ⟨A, B, Γ, d, r, e1, fun v A1 H1 g1 p1 => iSeq_of g1.ah (Same.refl _) p1 em fun J hj => k J A1 H1 g1 hj⟩
theorem si_range1 (hg : Gl X "range") (hm : X.mg "range" = none) (ha : QE X a (tP X.K O m)) (hs : starEach [a] X.env = [(false, eval a X.env)] := by rfl) : QI X tg (.Call (.Name "range" p) [a] [] pos) (tI X.K O (itR1 m)) :=
  QI.imp (pi_range1 hg hm (pa_cons ha.h pa_nil hs) hs) fun σ H R hq__ => by
    obtain ⟨A, B, Γ, xs, r, em, k⟩ := hq__
    obtain ⟨d, e1, em⟩ := Res.bind_ok em
    cases d with
    | int j =>
      obtain ⟨hc, em⟩ := gd_ok em
      cases em
      exact ⟨A, B, Γ, _, r, e1, fun v A1 H1 g1 p1 => ⟨j, by rw [p1.int], hc.1, hc.2, k _ A1 H1 g1 (it_range 0 _)⟩⟩
    | _ => cases em
theorem sc_range1 (hg : Gl X "range") (hm : X.mg "range" = none) (ha : QE X a (tP X.K O m)) (hs : starEach [a] X.env = [(false, eval a X.env)] := by rfl) : QI X tg (.Call (.Name "range" p) [a] [] pos) (tIc X.K O (itR1 m)) :=
  QI.imp (pi_range1 hg hm (pa_cons ha.h pa_nil hs) hs) fun σ H R hq__ => by
    obtain ⟨A, B, Γ, xs, r, em, k⟩ := hq__
    obtain ⟨d, e1, em⟩ := Res.bind_ok em
    cases d with
    | int j =>
      obtain ⟨hc, em⟩ := gd_ok em
      cases em
      exact ⟨A, B, Γ, _, r, e1, fun v A1 H1 g1 p1 => ⟨j, by rw [p1.int], hc.1, hc.2, k _ A1 H1 g1 (it_range 0 _)⟩⟩
    | _ => cases em
variable {elts : List Expr} {tpos : Pos}
theorem si_enum {x1} (hg : Gl X "enumerate") (hm : X.mg "enumerate" = none) (ha : QE X a (tQ X.K O m)) (hs : starEach [a] X.env = [(false, eval a X.env)] := by rfl) : QI X (.Tuple elts x1 tpos) (.Call (.Name "enumerate" p) [a] [] pos) (tI X.K O (itE m)) :=
  QI.imp (pi_enum2 hg hm (pa_cons ha.h pa_nil hs) hs) fun σ H R hq__ => by
    obtain ⟨A, B, Γ, xs, r, em, k⟩ := hq__
    obtain ⟨d, e1, em⟩ := Res.bind_ok em
    cases d with
    | list ds =>
      cases em
      refine ⟨A, B, Γ, _, r, e1, fun v A1 H1 g1 p1 => ?_⟩
      obtain ⟨q, vs, rfl, h2, h1⟩ := p1.seqL (H := H1)
      exact ⟨q, vs, rfl, .inl ⟨h1 H1 g1.ah (r.b.trans g1.hh), k _ A1 H1 g1 (it_enum h2 h1)⟩⟩
    | tuple ds =>
      cases em
      refine ⟨A, B, Γ, _, r, e1, fun v A1 H1 g1 p1 => ?_⟩
      obtain ⟨q, vs, rfl, h2, h1⟩ := p1.seqT (H := H1)
      exact ⟨q, vs, rfl, .inr ⟨h1 H1 g1.ah, k _ A1 H1 g1 (it_enumT h2 h1)⟩⟩
    | _ => cases em
theorem sc_enum {x1} (hg : Gl X "enumerate") (hm : X.mg "enumerate" = none) (ha : QE X a (tP X.K O m)) (hs : starEach [a] X.env = [(false, eval a X.env)] := by rfl) : QI X (.Tuple elts x1 tpos) (.Call (.Name "enumerate" p) [a] [] pos) (tIc X.K O (itE m)) :=
  QI.imp (pi_enum2 hg hm (pa_cons ha.h pa_nil hs) hs) fun σ H R hq__ => by
    obtain ⟨A, B, Γ, xs, r, em, k⟩ := hq__
    obtain ⟨d, e1, em⟩ := Res.bind_ok em
    cases d with
    | list ds =>
      cases em
      refine ⟨A, B, Γ, _, r, e1, fun v A1 H1 g1 p1 => ?_⟩
      obtain ⟨q, vs, rfl, h2, h1⟩ := p1.seqL (H := H1)
      exact ⟨q, vs, rfl, .inl ⟨h1 H1 g1.ah (Same.refl _), k _ A1 H1 g1 (it_enum h2 h1)⟩⟩
    | tuple ds =>
      cases em
      refine ⟨A, B, Γ, _, r, e1, fun v A1 H1 g1 p1 => ?_⟩
      obtain ⟨q, vs, rfl, h2, h1⟩ := p1.seqT (H := H1)
      exact ⟨q, vs, rfl, .inr ⟨h1 H1 g1.ah, k _ A1 H1 g1 (it_enumT h2 h1)⟩⟩
    | _ => cases em
end
noncomputable abbrev MG := PyData → Ev → Res Ev
noncomputable def gN (i : Nat) : MG := fun d Γ => gd (i < Γ.length) (.ok (Γ.set i (some d)))
noncomputable def gTs : List MG → List PyData → Ev → Res Ev
  | [], [], Γ => .ok Γ
  | g :: gs, d :: ds, Γ => (g d Γ).bind fun Γ' => gTs gs ds Γ'
  | _, _, _ => .bad
noncomputable def gT (gs : List MG) : MG := fun d Γ => match d with
  | .tuple ds => gTs gs ds Γ
  | _ => .bad
noncomputable def StayBut (is : List Nat) (σ σ' : L2.St) : Prop := σ'.length = σ.length ∧ ∀ j, j ∉ is → σ'[j]? = σ[j]?
theorem StayBut.trans {is js : List Nat} {σ σ' σ'' : L2.St} (h : StayBut is σ σ') (h' : StayBut js σ' σ'') : StayBut (is ++ js) σ σ'' :=
  ⟨h'.1.trans h.1, fun j hj => (h'.2 j fun z => hj (List.mem_append_right _ z)).trans (h.2 j fun z => hj (List.mem_append_left _ z))⟩
noncomputable def tG (K : PySem.W.Frag) (O O' : List Fl) (is : List Nat) (g : MG) : TG := fun v σ H Q => ∃ A B Γ d Γ', StRep K A B H O σ Γ ∧ Rp K A d v ∧ g d Γ = .ok Γ' ∧ ∀ σ', StRep K A B H O' σ' Γ' → StayBut is σ σ' → Q σ' H
noncomputable def tGs (K : PySem.W.Frag) (O O' : List Fl) (is : List Nat) (gs : List MG) : TGs := fun vs σ H Q => ∃ A B Γ ds Γ', StRep K A B H O σ Γ ∧ RpAll K A ds vs ∧ gTs gs ds Γ = .ok Γ' ∧ ∀ σ', StRep K A B H O' σ' Γ' → StayBut is σ σ' → Q σ' H
theorem PG.imp {X : Cx} {tg : Expr} {t t' : TG} (h : PG X tg t) (i : ∀ v σ H Q, t' v σ H Q → t v σ H Q) : PG X tg t' := fun pins s σ H v u Q I r q => h pins s σ H v u Q I r (i v σ H Q q)
theorem PGs.imp {X : Cx} {tg : List Expr} {t t' : TGs} (h : PGs X tg t) (i : ∀ v σ H Q, t' v σ H Q → t v σ H Q) : PGs X tg t' := fun pins s σ H v u Q I r q => h pins s σ H v u Q I r (i v σ H Q q)
theorem QG.imp {X : Cx} {tg : Expr} {t t' : TG} (h : PG X tg t) (i : ∀ v σ H Q, t' v σ H Q → t v σ H Q) : QG X tg t' := ⟨PG.imp h i⟩
theorem QGs.imp {X : Cx} {tg : List Expr} {t t' : TGs} (h : PGs X tg t) (i : ∀ v σ H Q, t' v σ H Q → t v σ H Q) : QGs X tg t' := ⟨PGs.imp h i⟩
theorem gTs_length : ∀ {gs : List MG} {ds : List PyData} {Γ Γ' : Ev}, gTs gs ds Γ = .ok Γ' → ds.length = gs.length
  | [], [], _, _, _ => rfl
  | g :: gs, d :: ds, Γ, Γ', h => by
    obtain ⟨Γ1, _, h⟩ := Res.bind_ok h
    rw [List.length_cons, List.length_cons, gTs_length h]
section
variable {X : Cx} {O O1 O2 O' : List Fl} {is js : List Nat} {g : MG} {gs : List MG} {e : Expr} {es : List Expr} {pos : Pos}
theorem sg_name (i : Nat) {O2 : List Fl} {x : Str} (hN : X.N.Nodup) (hi : X.N[i]? = some x) (hx : Loc X.env.scope x) (hl : i < O.length := by exact of_decide_eq_true rfl) (hf : X.fn x = true ∨ X.env.scope.names.lookup x = some .local := by first | exact .inl rfl | exact .inr rfl | assumption) (hO : O.set i .imm = O2 := by rfl) :
    QG X (.Name x pos) (tG X.K O O2 [i] (gN i)) := hO ▸ QG.imp (pg_name hN hi hx hf) fun v σ H Q hq__ => by
  obtain ⟨A, B, Γ, d, Γ', r, p, em, k⟩ := hq__
  obtain ⟨hi, em⟩ := gd_ok em
  cases em
  exact k _ (r.set hi hl p) ⟨List.length_set .., fun j hj => List.getElem?_set_ne (fun z => hj (by rw [z]; exact List.mem_cons_self))⟩
theorem sgs_nil : QGs X [] (tGs X.K O O [] []) := QGs.imp pgs_nil fun vs σ H Q hq__ => by
  obtain ⟨A, B, Γ, ds, Γ', r, p, em, k⟩ := hq__
  cases ds with
  | nil => cases em; exact ⟨RpAll.nil.mp p, k σ r ⟨rfl, fun _ _ => rfl⟩⟩
  | cons d ds => cases em
theorem sgs_cons (h1 : QG X e (tG X.K O O1 is g)) (h2 : QGs X es (tGs X.K O1 O2 js gs)) (hs : (assignEach (e :: es) X.env).map (·.2) = assign e X.env :: (assignEach es X.env).map (·.2) := by rfl) : QGs X (e :: es) (tGs X.K O O2 (is ++ js) (g :: gs)) := by
  refine QGs.imp (pgs_cons h1.h h2.h ?_) fun vs σ H Q ⟨A, B, Γ, ds, Γ', r, p, em, k⟩ => ?_
  · exact hs
  · cases ds with
    | nil => cases em
    | cons d ds =>
      obtain ⟨Γ1, e1, em⟩ := Res.bind_ok em
      obtain ⟨v, r', rfl, p1, p2⟩ := RpAll.cons.mp p
      exact ⟨v, r', rfl, A, B, Γ, d, Γ1, r, p1, e1, fun σ' r2 y => ⟨A, B, Γ1, ds, Γ', r2, p2, em, fun σ2 r3 y2 => k σ2 r3 (y.trans y2)⟩⟩
theorem sg_tup {k : Nat} {n : Nat} (hc : X.calm = true) (h : QGs X es (tGs X.K O O' is gs)) (hgs : gs.length = n := by rfl)
    (hn : (assignEach es X.env).length = n := by rfl) (hst : (assignEach es X.env).findIdx? (·.1) = none := by rfl) : QG X (.Tuple es k pos) (tG X.K O O' is (gT gs)) := QG.imp (pg_tup hc h.h hn hst) fun v σ H Q hq__ => by
  obtain ⟨A, B, Γ, d, Γ', r, p, em, k⟩ := hq__
  cases d with
  | tuple ds =>
    have p' := Rp.tuple.mp p
    obtain ⟨a, vs, rfl, h1, h2⟩ := p'
    exact ⟨a, vs, rfl, r.a.seqT h1, by rw [← h2.length, ← hgs]; exact gTs_length em, A, B, Γ, ds, Γ', r, h2, em, k⟩
  | _ => cases em
end
noncomputable def sAsg (g : MG) (m : ME) : MS := fun Γ => (m Γ).bind fun d => (g d Γ).bind fun Γ' => .ok (.nx Γ')
section
variable {X : Cx} {rm : Rm} {Ol O O' : List Fl} {is : List Nat} {g : MG} {m : ME} {tg e : Expr} {pos : Pos}
theorem ss_asg (he : QE X e (tE X.K O m)) (hg : QG X tg (tG X.K O O' is g)) (hs : swapsWithSole [tg] e pos.line X.env = pure false := by rfl) (hw : swappedStores [tg] e X.env = pure none := by rfl) (h1 : (assignEach [tg] X.env).map (·.2) = [assign tg X.env] := by rfl) : QS X (.Assign [tg] e pos) (tS X.K rm Ol O O' (sAsg g m)) := by
  refine QS.imp (ps_asg he.h hg.h hs hw h1) fun D σ H hq__ => ?_
  obtain ⟨A, B, Γ, o, r, em, k⟩ := hq__
  obtain ⟨d, e1, em⟩ := Res.bind_ok em
  obtain ⟨Γ', e2, em⟩ := Res.bind_ok em
  cases em
  exact ⟨A, B, Γ, d, r, e1, fun v A' H' g p => ⟨A', B, Γ, d, Γ', r.grow g, p, e2, fun σ' r' _ => k σ' A' H' r' g.aa (g.nB r.b)⟩⟩
end
noncomputable def clrOk (O Oe : List Fl) (cl : List Nat) : Bool := Oe.length == O.length && (List.range O.length).all fun j => decide (fl Oe j = fl O j) || cl.contains j
theorem clrOk_of {O Oe : List Fl} {cl : List Nat} (h : clrOk O Oe cl = true) (j : Nat) : fl Oe j = fl O j ∨ j ∈ cl := by
  unfold clrOk at h
  rw [Bool.and_eq_true, List.all_eq_true] at h
  rcases Nat.lt_or_ge j O.length with hj | hj
  · have := h.2 j (List.mem_range.mpr hj)
    rw [Bool.or_eq_true] at this
    rcases this with z | z
    · exact .inl (of_decide_eq_true z)
    · exact .inr (by simpa using z)
  · left
    unfold fl
    rw [List.getD_eq_getElem?_getD, List.getD_eq_getElem?_getD, List.getElem?_eq_none hj, List.getElem?_eq_none (by rw [show Oe.length = O.length by simpa using h.1]; exact hj)]
theorem clr_none : ∀ (l : List Nat) (Γ : Ev) (j : Nat), j ∈ l → gv (clr l Γ) j = none
  | i :: l, Γ, j, h => by
    by_cases hj : j ∈ l
    · exact clr_none l (Γ.set i none) j hj
    · have e : j = i := by
        rcases List.mem_cons.mp h with z | z
        · exact z
        · exact absurd z hj
      subst e
      rcases (clr_ok l (Γ.set j none)).2 j with z | z
      · exact z
      · show gv (clr l (Γ.set j none)) j = none
        rw [z]
        unfold gv
        rw [List.getD_eq_getElem?_getD]
        by_cases hi : j < Γ.length
        · rw [List.getElem?_set_self hi]; rfl
        · rw [List.getElem?_eq_none (by rw [List.length_set]; omega)]; rfl
theorem StRep.clrO {K : PySem.W.Frag} {A B H : Hp} {O Oe : List Fl} {σ : L2.St} {Γ : Ev} {cl : List Nat} (hE : clrOk O Oe cl = true) (r : StRep K A B H Oe σ Γ) : StRep K A B H O σ (L3.clr cl Γ) := by
  have r' := r.clr cl
  have hf : ∀ j, gv (L3.clr cl Γ) j ≠ none → fl O j = fl Oe j := fun j n => by
    rcases clrOk_of hE j with z | z
    · exact z.symm
    · exact absurd (clr_none cl Γ j z) n
  refine ⟨r'.a, r'.b, r'.len, fun j d e => ?_, fun i j hij h1 h2 h3 h4 => r'.sep i j hij (by rw [← hf i h3]; exact h1) (by rw [← hf j h4]; exact h2) h3 h4⟩
  have := r'.slot j d e
  rw [hf j (by rw [e]; simp)]
  exact this
noncomputable def forR (g : MG) (cl : List Nat) (b : MS) : List PyData → Ev → Res Out
  | [], Γ => .ok (.nx Γ)
  | x :: xs, Γ => (g x Γ).bind fun Γ1 => (b Γ1).bind fun o => match o with
    | .nx Γ2 => forR g cl b xs (clr cl Γ2)
    | .ct Γ2 => forR g cl b xs (clr cl Γ2)
    | .bk Γ2 => .ok (.nx (clr cl Γ2))
    | .rt d => .ok (.rt d)
noncomputable def sFor (it : MI) (g : MG) (cl : List Nat) (b : MS) : MS := fun Γ => (it Γ).bind fun xs => forR g cl b xs Γ
section
variable {X : Cx} {rm : Rm} {Ol O : List Fl} {is : List Nat} {g : MG} {it : MI} {cl : List Nat} {mb : MS} {tg iter : Expr} {body : List Stmt} {pos : Pos}
theorem ss_for (hp : PassesOwn (model X.prog X.w) X.A X.env X.xe) (hc : X.calm = true) (cl : List Nat) {Oe : List Fl} (hi : QI X tg iter (tI X.K O it)) (hg : QG X tg (tG X.K O O is g)) (hb : QSs X body (tS X.K rm Oe O Oe mb)) (hE : clrOk O Oe cl = true)
    (hs : ∀ x, foldedSetIterable iter X.env x = pure x := by intro _; rfl) : QS X (.For tg iter body [] pos) (tS X.K rm Ol O O (sFor it g cl mb)) := by
  refine QS.imp (ps_for hp hc hi.h hg.h hb.h hs) fun D σ H hq__ => ?_
  obtain ⟨A, B, Γ, o, r, em, k⟩ := hq__
  obtain ⟨xs, e1, em⟩ := Res.bind_ok em
  refine ⟨A, B, Γ, xs, r, e1, fun J A1 H1 g1 hj => ?_⟩
  refine ⟨fun i n σ' H' => n = xs.length - i ∧ i ≤ xs.length ∧ ∃ A2 Γ2, StRep X.K A2 B H' O σ' Γ2 ∧ Same A A2 ∧ New A A2 B ∧ Same A1 A2 ∧ forR g cl mb (xs.drop i) Γ2 = .ok o, ⟨xs.length, rfl, Nat.zero_le _, A1, Γ, r.grow g1, g1.aa, g1.nB r.b, Same.refl _, em⟩, ?_⟩
  rintro i n σ' H' ⟨rfl, hi.h, A2, Γ2, r2, sa, nw, s12, e2⟩
  by_cases hlt : i < xs.length
  · refine .inr ⟨hj.go i H' (s12.trans r2.a) r2.b hlt, fun σ'' H'' => i + 1 ≤ xs.length ∧ ∃ A3 Γ3, StRep X.K A3 B H'' O σ'' Γ3 ∧ Same A A3 ∧ New A A3 B ∧ Same A1 A3 ∧ forR g cl mb (xs.drop (i + 1)) Γ3 = .ok o, ?_, fun x H3 y => ?_⟩
    · rintro σ'' H'' ⟨h1, A3, Γ3, h2⟩
      exact ⟨xs.length - (i + 1), by omega, rfl, h1, A3, Γ3, h2⟩
    · obtain ⟨A3, d, ed, g3, p3⟩ := hj.yld i A2 H' x H3 s12 r2.a r2.b hlt y
      have hd : xs.drop i = d :: xs.drop (i + 1) := by
        rw [List.drop_eq_getElem_cons hlt]
        rw [List.getElem?_eq_getElem hlt] at ed
        cases ed
        rfl
      rw [hd] at e2
      obtain ⟨Γ3, e3, e2⟩ := Res.bind_ok e2
      obtain ⟨o3, e4, e2⟩ := Res.bind_ok e2
      have sa3 := sa.trans g3.aa
      have nw3 : New A A3 B := nw.trans (g3.nB r2.b)
      refine ⟨A3, B, Γ2, d, Γ3, r2.grow g3, p3, e3, fun σ4 r4 _ => ⟨A3, B, Γ3, o3, r4, e4, ?_⟩⟩
      have sb : ∀ {D' : Ends}, OutOk X.K rm Ol O A B D' o → OutOk X.K rm Ol O A3 B D' o := fun h => h.sub sa3 nw3
      cases o3 with
      | nx Γ4 => exact fun σ5 A5 H5 r5 s5 n5 => ⟨hlt, A5, clr cl Γ4, r5.clrO hE, sa3.trans s5, nw3.trans n5, s12.trans (g3.aa.trans s5), e2⟩
      | ct Γ4 => exact fun σ5 A5 H5 r5 s5 n5 => ⟨hlt, A5, clr cl Γ4, r5.clrO hE, sa3.trans s5, nw3.trans n5, s12.trans (g3.aa.trans s5), e2⟩
      | bk Γ4 =>
        cases e2
        exact fun σ5 A5 H5 r5 s5 n5 => k σ5 A5 H5 (r5.clrO hE) (sa3.trans s5) (nw3.trans n5)
      | rt d' =>
        cases e2
        exact fun v A5 H5 q1 q2 s5 n5 rv => k v A5 H5 q1 q2 (sa3.trans s5) (nw3.trans n5) rv
  · have e : i = xs.length := by omega
    subst e
    rw [List.drop_length] at e2
    cases e2
    exact .inl ⟨hj.stop H' (s12.trans r2.a) r2.b, k σ' A2 H' r2 sa nw⟩
end
section
variable {X : Cx} {rm : Rm} {Ol O : List Fl} {cl : List Nat} {c : Expr} {mc : ME} {mb : MS} {body : List Stmt} {pos : Pos}
end
end L3
namespace L3
open PySem PySem.Spec PyProof.Rows L2
noncomputable def compR (g : MG) (c : ME) (e : ME) (Γ : Ev) : List PyData → Res (List PyData)
  | [] => .ok []
  | x :: xs => (g x Γ).bind fun Γ1 => (c Γ1).bind fun t => match t with
    | .bool true => (e Γ1).bind fun d => (compR g c e Γ xs).bind fun ds => .ok (d :: ds)
    | .bool false => compR g c e Γ xs
    | _ => .bad
noncomputable def blockE (nt : Nat) (ix : List Nat) (Γ : Ev) : Ev := List.replicate nt none ++ ix.map (gv Γ)
noncomputable def bfl : Fl → Fl
  | .own => .bor
  | .fix _ => .bor
  | .nst _ => .nst false
  | f => f
noncomputable def blockF (nt : Nat) (ix : List Nat) (O : List Fl) : List Fl := List.replicate nt .imm ++ ix.map fun i => bfl (fl O i)
noncomputable def eComp (it : MI) (g : MG) (c e : ME) (nt : Nat) (ix : List Nat) : ME := fun Γ => (it Γ).bind fun xs => gd (xs.length < sizeLine) ((compR g c e (blockE nt ix Γ) xs).bind fun ds => .ok (.list ds))
section
variable {K : PySem.W.Frag} {A B H : Hp} {O : List Fl} {σ : L2.St} {Γ : Ev}
theorem join_sv {σ : L2.St} {i : Nat} : (σ[i]?).join = sv σ i := by
  unfold sv
  rw [List.getD_eq_getElem?_getD]
  cases σ[i]? with
  | none => rfl
  | some o => rfl
theorem block_get {α : Type} {os : List α} {ix : List Nat} {f : Nat → α} {d : α} (j : Nat) : (os ++ ix.map f).getD j d = if j < os.length then os.getD j d else match ix[j - os.length]? with | some i => f i | none => d := by
  rw [List.getD_eq_getElem?_getD]
  split
  · rename_i h
    rw [List.getElem?_append_left h, List.getD_eq_getElem?_getD]
  · rename_i h
    rw [List.getElem?_append_right (by omega), List.getElem?_map]
    cases ix[j - os.length]? <;> rfl
theorem StRep.block (r : StRep K A B H O σ Γ) {os : List (Option V)} {nt : Nat} (ho : os.length = nt) (ix : List Nat) : StRep K A H H (blockF nt ix O) (os ++ ix.map fun i => (σ[i]?).join) (blockE nt ix Γ) := by
  have fN : ∀ j, isO (fl (blockF nt ix O) j) = false := fun j => by
    unfold fl blockF
    rw [block_get, List.length_replicate]
    split
    · rw [List.getD_eq_getElem?_getD, List.getElem?_replicate]
      split <;> rfl
    · cases ix[j - nt]? with
      | none => rfl
      | some i => simp only; unfold bfl; cases fl O i <;> rfl
  refine ⟨r.a, Same.refl _, ?_, fun j d e => ?_, fun i j _ h1 _ _ _ => absurd (h1.symm.trans (fN i)) Bool.noConfusion⟩
  · unfold blockE
    rw [List.length_append, List.length_append, List.length_replicate, List.length_map, List.length_map, ho]
  · unfold gv blockE at e
    rw [block_get, List.length_replicate] at e
    split at e
    · rw [List.getD_eq_getElem?_getD, List.getElem?_replicate] at e
      split at e <;> cases e
    · rename_i hj
      cases q : ix[j - nt]? with
      | none => rw [q] at e; cases e
      | some i =>
        rw [q] at e
        obtain ⟨v, e1, sl⟩ := r.slot i d e
        refine ⟨v, ?_, ?_⟩
        · unfold sv
          rw [block_get, if_neg (by omega), ho, q]
          show (σ[i]?).join = some v
          rw [join_sv]; exact e1
        · have ef : fl (blockF nt ix O) j = bfl (fl O i) := by
            unfold fl blockF
            rw [block_get, List.length_replicate, if_neg hj, q]
          rw [ef]
          cases hf : fl O i with
          | imm => rw [hf] at sl; exact sl
          | bor => rw [hf] at sl; exact Pk.mono (Same.refl _) r.b sl
          | own => rw [hf] at sl; exact Own.pk sl
          | fix p0 => rw [hf] at sl; exact Own.pk sl.2
          | exc C => rw [hf] at sl; exact sl
          | nst b => exact fun z => nomatch z
end
theorem PIfs.imp {X : Cx} {ifs : List Expr} {t t' : TT} (h : PIfs X ifs t) (i : ∀ σ H Q, t' σ H Q → t σ H Q) : PIfs X ifs t' := fun pins s σ H Q I q => h pins s σ H Q I (i σ H Q q)
theorem QIfs.imp {X : Cx} {ifs : List Expr} {t t' : TT} (h : PIfs X ifs t) (i : ∀ σ H Q, t' σ H Q → t σ H Q) : QIfs X ifs t' := ⟨PIfs.imp h i⟩
theorem sifs_nil {X : Cx} {O : List Fl} : QIfs X [] (tT X.K O (eC (.bool true))) := QIfs.imp pifs_nil fun σ H Q hq__ => by
  obtain ⟨A, B, Γ, b, r, em, k⟩ := hq__
  cases em; exact k A H (Grow.refl r.a)
theorem sifs_one {X : Cx} {O : List Fl} {c : Expr} {m : ME} (h : QT X c (tT X.K O m)) : QIfs X [c] (tT X.K O m) := ⟨pifs_one h.h⟩
section
variable {K : PySem.W.Frag} {O Ob : List Fl} {tn : List Str} {ix : List Nat} {it : MI} {g : MG} {mc me : ME}
theorem tComp_of (hOb : Ob = blockF tn.length ix O) {nt : Nat} (hnt : nt = tn.length) {O1 : List Fl} {is : List Nat} (his : ∀ j ∈ is, j < tn.length) {σ : L2.St} {H : Hp} {Q : VK} (h : tF K O (eComp it g mc me nt ix) σ H Q) : tComp tn ix (tIc K O it) (tG K Ob O1 is g) (tT K O1 mc) (tE K O1 me) σ H Q := by
  subst hOb hnt
  obtain ⟨A, B, Γ, d, r, em, k⟩ := h
  obtain ⟨xs, e1, em⟩ := Res.bind_ok em
  obtain ⟨hz, em⟩ := gd_ok em
  obtain ⟨ds, e2, em⟩ := Res.bind_ok em
  cases em
  refine ⟨A, B, Γ, xs, r, e1, fun J A1 H1 g1 hj D hD => ?_⟩
  have r1 := r.grow g1
  have hAD : A1 D = none := g1.ah.free hD
  refine ⟨fun i n σb acc H2 => n = xs.length - i ∧ i ≤ xs.length ∧ acc.length ≤ i ∧ (∃ os : List (Option V), os.length = tn.length ∧ σb = os ++ ix.map fun i => (σ[i]?).join) ∧ ∃ A2, Same A1 A2 ∧ New A1 A2 H1 ∧ Same A2 H2 ∧ Same H1 H2 ∧ A2 D = none ∧ H2 D = some (.lst acc) ∧
    ∃ ds1 ds2, ds = ds1 ++ ds2 ∧ RpAll K A2 ds1 acc ∧ compR g mc me (blockE tn.length ix Γ) (xs.drop i) = .ok ds2, ⟨xs.length, rfl, Nat.zero_le _, Nat.zero_le _, ⟨_, List.length_replicate, rfl⟩, A1, Same.refl _, fun _ h _ => h, g1.ah.trans (Same.new hD _), Same.new hD _, hAD, upd_same, [], ds, rfl, RpAll.nil.mpr rfl, e2⟩, ?_⟩
  rintro i n σb acc H2 ⟨rfl, hi, hacc, ⟨os, ho, rfl⟩, A2, sa, nw, s2, sh, a2, hD2, ds1, ds2, rfl, rp, e3⟩
  refine ⟨hD2, ?_⟩
  by_cases hlt : i < xs.length
  · refine .inr ⟨hj.go i H2 (sa.trans s2) sh hlt, by omega, fun x H3 y => ?_⟩
    obtain ⟨A3, dx, ed, g3, p3⟩ := hj.yld i A2 H2 x H3 sa s2 sh hlt y
    have hd : xs.drop i = dx :: xs.drop (i + 1) := by
      rw [List.drop_eq_getElem_cons hlt]
      rw [List.getElem?_eq_getElem hlt] at ed
      cases ed
      rfl
    rw [hd] at e3
    obtain ⟨Γ1, e4, e3⟩ := Res.bind_ok e3
    obtain ⟨t, e5, e3⟩ := Res.bind_ok e3
    have rb : StRep K A3 H3 H3 (blockF tn.length ix O) (os ++ ix.map fun i => (σ[i]?).join) (blockE tn.length ix Γ) := by
      have rr : StRep K A3 B H3 O σ Γ := by
        refine ⟨g3.ah, r1.b.trans (sh.trans g3.hh), r1.len, fun j => ?_, r1.sep⟩
        intro d' e'
        obtain ⟨v', e'', q⟩ := r1.slot j d' e'
        refine ⟨v', e'', ?_⟩
        cases hf : fl O j with
        | imm => rw [hf] at q; exact Rp.mono (sa.trans g3.aa) d' q
        | bor => rw [hf] at q; exact Pk.mono (sa.trans g3.aa) (Same.refl _) q
        | own =>
          rw [hf] at q
          obtain ⟨p', o', rfl, u1, u2, u3, u4⟩ := q
          have n1 : A2 p' = none := nw p' u2 (by rw [u1]; simp)
          exact ⟨p', o', rfl, g3.hh _ _ (sh _ _ u1), g3.nw p' n1 (by rw [sh _ _ u1]; simp), u3, u4.mono (sa.trans g3.aa)⟩
        | fix p0 =>
          rw [hf] at q
          obtain ⟨q0, p', o', rfl, u1, u2, u3, u4⟩ := q
          have n1 : A2 p' = none := nw p' u2 (by rw [u1]; simp)
          exact ⟨q0, p', o', rfl, g3.hh _ _ (sh _ _ u1), g3.nw p' n1 (by rw [sh _ _ u1]; simp), u3, u4.mono (sa.trans g3.aa)⟩
        | exc C =>
          rw [hf] at q
          obtain ⟨p', ob, w1, w2, w3⟩ := q
          exact ⟨p', ob, w1, (sa.trans g3.aa) _ _ w2, w3⟩
        | nst b =>
          rw [hf] at q
          intro z
          obtain ⟨p', xs, kvs, w1, w2, w3, w4, w5, w6⟩ := q z
          have n1 : A2 p' = none := nw p' w4 (by rw [w3]; simp)
          exact ⟨p', xs, kvs, w1, w2, g3.hh _ _ (sh _ _ w3), g3.nw p' n1 (by rw [sh _ _ w3]; simp), w5, w6.mono (sa.trans g3.aa)⟩
      exact rr.block ho ix
    refine ⟨A3, H3, _, dx, Γ1, rb, p3, e4, fun σ4 r4 y4 => ?_⟩
    have hos : ∃ os' : List (Option V), os'.length = tn.length ∧ σ4 = os' ++ ix.map fun i => (σ[i]?).join := by
      have hl4 : σ4.length = tn.length + ix.length := by rw [y4.1, List.length_append, List.length_map, ho]
      refine ⟨σ4.take tn.length, by rw [List.length_take]; omega, List.ext_getElem? fun j => ?_⟩
      rcases Nat.lt_or_ge j tn.length with hj | hj
      · rw [List.getElem?_append_left (by rw [List.length_take]; omega), List.getElem?_take_of_lt hj]
      · rw [y4.2 j (fun z => absurd (his j z) (by omega)), List.getElem?_append_right (by omega), List.getElem?_append_right (by rw [List.length_take]; omega), List.length_take, ho]
        congr 1
        omega
    cases t with
    | bool bb =>
      refine ⟨A3, H3, Γ1, bb, r4, e5, fun A4 H4 g4 => ?_⟩
      have nw4 : New A1 A4 H1 := nw.trans ((g3.trans g4).nw.mono sh)
      have hD4 : H4 D = some (.lst acc) := g4.hh _ _ (g3.hh _ _ hD2)
      have a4 : A4 D = none := (g3.trans g4).nw D a2 (by rw [hD2]; simp)
      cases bb with
      | false =>
        refine iteF ⟨xs.length - (i + 1), by omega, rfl, hlt, by omega, hos, A4, sa.trans (g3.trans g4).aa, nw4, g4.ah, sh.trans (g3.trans g4).hh, a4, hD4, ds1, ds2, rfl, RpAll.mono (g3.trans g4).aa _ rp, e3⟩
      | true =>
        obtain ⟨dv, e6, e3⟩ := Res.bind_ok e3
        obtain ⟨ds3, e7, e3⟩ := Res.bind_ok e3
        cases e3
        refine iteT ⟨A4, H3, Γ1, dv, r4.grow g4, e6, fun v A5 H5 g5 p5 => ?_⟩
        have gg := (g3.trans g4).trans g5
        have hD5 : H5 D = some (.lst acc) := g5.hh _ _ hD4
        have a5 : A5 D = none := gg.nw D a2 (by rw [hD2]; simp)
        refine ⟨hD5, xs.length - (i + 1), by omega, rfl, hlt, by rw [List.length_append, List.length_singleton]; omega, hos, A5, sa.trans gg.aa, nw.trans (gg.nw.mono sh), fun b u q => ?_, ?_, a5, upd_same, ds1 ++ [dv], ds3, by rw [List.append_assoc]; rfl, (RpAll.mono gg.aa _ rp).append (RpAll.one p5), e7⟩
        · have hb : b ≠ D := fun z => by rw [z, a5] at q; cases q
          rw [upd_ne hb]; exact g5.ah b u q
        · exact (sh.trans gg.hh).up hD
    | _ => cases e3
  · have e : i = xs.length := by omega
    subst e
    rw [List.drop_length] at e3
    cases e3
    rw [List.append_nil] at k
    refine .inl ⟨hj.stop H2 (sa.trans s2) sh, k _ A2 H2 ⟨g1.aa.trans sa, g1.hh.trans sh, s2, fun p n1 n2 => nw p (g1.nw p n1 n2) (Same.ne g1.hh n2)⟩ ⟨D, _, rfl, g1.hh.free hD, hD2, a2, .inl ⟨ds1, acc, rfl, rfl, rp⟩⟩⟩
end
end L3
namespace L3
open PySem PySem.Spec PyProof.Rows L2
section
variable {X : Cx} {O Ob O1 : List Fl} {scope : Scope} {tn : List Str} {ix is : List Nat} {it : MI} {g : MG} {mc me : ME} {elt tg iter : Expr} {ifs : List Expr} {pos : Pos} {nt : Nat}
theorem sf_comp (tn : List Str) (ix : List Nat) (S : compOk X scope ix = true) (hc : X.calm = true) (hOb : Ob = blockF tn.length ix O) (hnt : nt = tn.length) (his : ∀ j ∈ is, j < tn.length) (hi : QI X tg iter (tIc X.K O it))
    (hg : ∀ cl C s₂ H₂ fp, QG (X.comp scope tn ix cl C s₂ H₂ fp) tg (tG X.K Ob O1 is g)) (ht : ∀ cl C s₂ H₂ fp, QIfs (X.comp scope tn ix cl C s₂ H₂ fp) ifs (tT X.K O1 mc)) (he : ∀ cl C s₂ H₂ fp, QE (X.comp scope tn ix cl C s₂ H₂ fp) elt (tE X.K O1 me))
    (hs : ∀ x, foldedSetIterable iter X.env x = pure x := by intro _; rfl) : QE X (.ListComp elt [⟨tg, iter, ifs, 0⟩] scope pos) (tF X.K O (eComp it g mc me nt ix)) :=
  QE.imp (pe_comp S hc hi.h (fun cl C s₂ H₂ fp => (hg cl C s₂ H₂ fp).h) (fun cl C s₂ H₂ fp => (ht cl C s₂ H₂ fp).h) (fun cl C s₂ H₂ fp => (he cl C s₂ H₂ fp).h) hs) fun σ H Q h => tComp_of hOb hnt his h
theorem ss_setC (i : Nat) {O2 : List Fl} (tn : List Str) (ix : List Nat) {rm : Rm} {Ol : List Fl} {y : Str} {py spos : Pos} (hN : X.N.Nodup) (hiN : X.N[i]? = some y) (hy : Loc X.env.scope y) (S : compOk X scope ix = true) (hc : X.calm = true) (hOb : Ob = blockF tn.length ix O) (hnt : nt = tn.length) (his : ∀ j ∈ is, j < tn.length) (hi : QI X tg iter (tIc X.K O it))
    (hg : ∀ cl C s₂ H₂ fp, QG (X.comp scope tn ix cl C s₂ H₂ fp) tg (tG X.K Ob O1 is g)) (ht : ∀ cl C s₂ H₂ fp, QIfs (X.comp scope tn ix cl C s₂ H₂ fp) ifs (tT X.K O1 mc)) (he : ∀ cl C s₂ H₂ fp, QE (X.comp scope tn ix cl C s₂ H₂ fp) elt (tE X.K O1 me))
    (hl : i < O.length := by exact of_decide_eq_true rfl) (hsw : swapsWith (.ListComp elt [⟨tg, iter, ifs, 0⟩] scope pos) (some (.Name y py)) spos.line X.env = pure true := by rfl)
    (hf : X.fn y = true ∨ X.env.scope.names.lookup y = some .local := by first | exact .inl rfl | exact .inr rfl | assumption)
    (hs : ∀ x, foldedSetIterable iter X.env x = pure x := by intro _; rfl) (hO : O.set i .own = O2 := by rfl) : QS X (.Assign [.Name y py] (.ListComp elt [⟨tg, iter, ifs, 0⟩] scope pos) spos) (tS X.K rm Ol O O2 (sSet i (eComp it g mc me nt ix))) :=
  hO ▸ QS.imp (ps_setC hN hiN hy S hc hi.h (fun cl C s₂ H₂ fp => (hg cl C s₂ H₂ fp).h) (fun cl C s₂ H₂ fp => (ht cl C s₂ H₂ fp).h) (fun cl C s₂ H₂ fp => (he cl C s₂ H₂ fp).h) hsw hf hs) fun D σ H => tAsg_setF (fun σ H Q h => tComp_of hOb hnt his h) hl
end
noncomputable def sApp (i : Nat) (m : ME) : MS := fun Γ => (m Γ).bind fun d => match gv Γ i with
  | some (.list ds) => gd (ds.length < sizeLine ∧ i < Γ.length) (.ok (.nx (Γ.set i (some (.list (ds ++ [d]))))))
  | _ => .bad
section
variable {X : Cx} {rm : Rm} {Ol O : List Fl} {m m' : ME} {e a b : Expr} {pos p apos cpos : Pos}
theorem own_list {K : PySem.W.Frag} {A B H : Hp} {σ : L2.St} {Γ : Ev} {i : Nat} {ds : List PyData} (r : StRep K A B H O σ Γ) (hi : isO (fl O i) = true) (he : gv Γ i = some (.list ds)) : ∃ q vs, sv σ i = some (.ref q) ∧ H q = some (.lst vs) ∧ RpAll K A ds vs := by
  obtain ⟨d, q, o, e1, e2, h1, h2, h3, ⟨ds', vs, rfl, rfl, h4⟩ | ⟨kvs, u, rfl, rfl, h4⟩⟩ := r.own_at hi (by rw [he]; simp)
  rotate_right
  · rw [he] at e1; cases e1
  rw [he] at e1
  cases e1
  exact ⟨q, vs, e2, h1, h4⟩
theorem ss_app (i : Nat) {x : Str} (he : QE X e (tE X.K O m)) (hi : isO (fl O i) = true := by rfl) (hN : X.N[i]? = some x := by rfl) (hv : Vis X.env.scope x := by first | exact Or.inl rfl | exact Or.inr (Or.inl rfl) | exact Or.inr (Or.inr rfl)) (hd : (x == ("__debug__" : Str)) = false := by decide)
    (hcd : (x == ("__classdict__" : Str)) = false := by decide) (hbase : attributeBase (.Name x p) "append" X.env (eval (.Name x p) X.env) = eval (.Name x p) X.env := by rfl)
    (hfew : ((backTo cpos (starEach (e :: []) X.env)).all (fun x => !x.1) && (backToKw cpos (keywordEach [] X.env)).all (fun x => x.1.isSome)
      && decide ((e :: []).length + ([] : List Keyword).length + (if ([] : List Keyword).isEmpty then 0 else 1) < 30)) = true := by rfl)
    (hline : (apos.endLine == cpos.line) = true := by rfl) (hs : starEach (e :: []) X.env = (false, eval e X.env) :: starEach [] X.env := by rfl) (hplain : (backTo cpos (starEach [] X.env)).any (·.1) = false := by rfl)
    (hsw : swapsWith (.Call (.Attribute (.Name x p) "append" apos) [e] [] cpos) none pos.line X.env = pure false := by rfl) :
    QS X (.Expr (.Call (.Attribute (.Name x p) "append" apos) [e] [] cpos) pos) (tS X.K rm Ol O O (sApp i m)) := by
  refine QS.imp (ps_expr (pe_bm PySem.F.plainAttrs_list PySem.F.slot_list_append PySem.F.type_list_append mt_append (pe_var hN hv hd hcd) (pa_cons he.h pa_nil hs) hbase hfew hline hs hplain) hsw) fun D σ H hq__ => ?_
  obtain ⟨A, B, Γ, o, r, em, k⟩ := hq__
  obtain ⟨d, e1, em⟩ := Res.bind_ok em
  cases hg : gv Γ i with
  | none => rw [hg] at em; cases em
  | some dl =>
    rw [hg] at em
    cases dl with
    | list ds =>
      obtain ⟨⟨hc, hlt⟩, em⟩ := gd_ok em
      cases em
      obtain ⟨q, vs, e2, h1, h4⟩ := own_list r hi hg
      refine ⟨.ref q, sv_get e2, .inl ⟨rfl, vs, SqL.of h1⟩, A, B, Γ, d, r, e1, fun v A1 H1 g1 p1 => ⟨q, vs, v, rfl, rfl, g1.hh _ _ h1, by rw [← h4.length]; exact hc, ?_⟩⟩
      exact k σ A1 _ ((r.grow g1).change hi hlt (by rw [hg]; simp) e2 (g1.hh _ _ h1) (.inl ⟨_, _, rfl, rfl, (RpAll.mono g1.aa _ h4).append (RpAll.one p1)⟩)) g1.aa (g1.nB r.b)
    | _ => cases em
end
noncomputable def intsOf : List PyData → Option (List Int)
  | [] => some []
  | .int i :: ds => (intsOf ds).map (i :: ·)
  | _ :: _ => none
theorem intsOf_eq : ∀ {ds : List PyData} {ns : List Int}, intsOf ds = some ns → ds = ns.map PyData.int
  | [], ns, h => by cases h; rfl
  | .int i :: ds, ns, h => by
    unfold intsOf at h
    cases e : intsOf ds with
    | none => rw [e] at h; cases h
    | some ms => rw [e] at h; cases h; rw [intsOf_eq e]; rfl
@[simp] theorem intsOf_map (ns : List Int) : intsOf (ns.map PyData.int) = some ns := by
  induction ns with
  | nil => rfl
  | cons n ns ih => rw [List.map_cons, intsOf, ih]; rfl
noncomputable def boolsOf : List PyData → Option (List Bool)
  | [] => some []
  | .bool i :: ds => (boolsOf ds).map (i :: ·)
  | _ :: _ => none
@[simp] theorem boolsOf_map (ns : List Bool) : boolsOf (ns.map PyData.bool) = some ns := by
  induction ns with
  | nil => rfl
  | cons n ns ih => rw [List.map_cons, boolsOf, ih]; rfl
noncomputable def sumD : List PyData → Res PyData
  | [.list ds] => match intsOf ds with
    | some ns => .ok (.int ns.sum)
    | none => .bad
  | _ => .bad
theorem RpAll.intV {K : PySem.W.Frag} {A : Hp} : ∀ {ns : List Int} {vs : List V}, RpAll K A (ns.map PyData.int) vs → vs = ns.map V.int
  | [], vs, h => by rw [List.map_nil, RpAll.nil] at h; exact h
  | n :: ns, vs, h => by
    rw [List.map_cons, RpAll.cons] at h
    obtain ⟨v, r, rfl, h1, h2⟩ := h
    rw [Rp.int.mp h1, h2.intV]; rfl
theorem ints_vals : ∀ {ns : List Int} {us : List Value}, Vals (ns.map V.int) us → IntsAre us ns
  | [], _, .nil => .nil
  | n :: ns, _, .cons r t => by
    obtain ⟨tk, rfl⟩ := r
    exact .cons n tk (ints_vals t)
section
variable {X : Cx}
theorem cd_sum (hc : X.calm = true) : CallR X (.builtin "sum") (rC X.K sumD) := by
  intro pins s σ H xs us Q I r h
  obtain ⟨A, ds, d, e, ha, p, k⟩ := h
  match ds, e with
  | [.list es], e =>
    have e' : (match intsOf es with | some ns => Res.ok (PyData.int ns.sum) | none => .bad) = .ok d := e
    cases hn : intsOf es with
    | none => rw [hn] at e'; cases e'
    | some ns =>
      rw [hn] at e'
      cases e'
      obtain rfl := intsOf_eq hn
      obtain ⟨v, r', rfl, p1, p2⟩ := p.cons
      obtain rfl := p2.nil
      obtain ⟨l, vs, rfl, h1, q1⟩ := p1.list ha
      obtain rfl := q1.intV
      obtain ⟨u, rfl, rx⟩ := Vals.one r
      cases rx
      obtain ⟨its, rv, pl, hz⟩ := I.list h1
      have hi := ints_vals rv
      have hall : AllInts its.toArray := hi.allInts
      obtain ⟨ys, ey⟩ := hall.items
      have e2 := nums_intItems ys
      refine sum_intListG (xs := ys) (I.ok.hd hc) (by rw [← ey]; exact pl.isList) fun h' tk t' hk => ?_
      have e3 : numsOf (intItems ys).toList = ns := by
        rw [← ey]
        exact hi.numsOf
      rw [e2] at e3
      rw [preSum_eq, List.take_of_length_le (by simp), e3]
      exact ⟨.int ns.sum, H, I.kept (t' := tk) hk, ⟨t', rfl⟩, k _ A H (Grow.refl ha) (Rp.int.mpr rfl)⟩
end
end L3
namespace L3
open PySem PySem.Spec PyProof.Rows L2
theorem law_script {K : PySem.W.Frag} {H : Hp} {a : Addr} {ns : List Int} {f : List PyData → Res PyData} {fg : Fl} {E : XK} (hm : f [.list (ns.map PyData.int)] = .ok (.bool true)) (hS : SqL K H a (ns.map V.int)) : spF K [fg] .f f [.ref a] H (fun v _ => v = .bl true) E := by
  refine ⟨H, [.list (ns.map PyData.int)], .bool true, Same.refl _, ⟨_, _, _, _, rfl, rfl, ?_, rfl, rfl⟩, hm, fun v A' H' g p => (Rp.bool (K := K) (A := A')).mp p⟩
  have q : Rp K H (.list (ns.map PyData.int)) (.ref a) := Rp.list.mpr ⟨a, _, rfl, hS, RpAll.ints⟩
  cases fg with
  | imm => exact q
  | bor => exact .inl q
  | own => exact .inl q
  | fix p0 => exact .inl q
  | exc C => exact .inl q
  | nst b => exact .inl q
end L3
namespace L2
open PySem PyProof.Rows
structure Mv (lo hi : Nat) (st st' : SortSt) : Prop where
  kind : kindOf st' = kindOf st
  failed : failedOf st' = failedOf st
  pend : pendingOf st' = pendingOf st
  perm : (arrOf st').Perm (arrOf st)
  out : ∀ i, i < lo ∨ hi ≤ i → K (arrOf st') i = K (arrOf st) i
noncomputable def Seg (a : Array Keyed) (lo hi : Nat) : Prop := ∀ i j, lo ≤ i → i ≤ j → j < hi → K a i ≤ K a j
theorem Mv.refl (lo hi : Nat) (st : SortSt) : Mv lo hi st st := ⟨rfl, rfl, rfl, .refl _, fun _ _ => rfl⟩
theorem Mv.trans {lo hi : Nat} {a b c : SortSt} (x : Mv lo hi a b) (y : Mv lo hi b c) : Mv lo hi a c :=
  ⟨y.kind.trans x.kind, y.failed.trans x.failed, y.pend.trans x.pend, y.perm.trans x.perm, fun i h => (y.out i h).trans (x.out i h)⟩
section
variable {prog : Program} {w : World} {A : Around} {E : Value → Shared → Prop} {s : Shared}
local macro_rules | `(tactic| walk_at "up_eq") => `(tactic| (refine congrArg (_ >>= ·) (funext fun _ => ?_); refine congrArg (_ >>= ·) (funext fun c => ?_); obtain ⟨r, m⟩ := c; cases r <;> rfl))
local macro_rules | `(tactic| walk_at "dn_eq") => `(tactic| (refine congrArg (_ >>= ·) (funext fun c => ?_); obtain ⟨r, m, e⟩ := c; cases r with
  | some r => rfl
  | none => (dsimp only; split; (refine congrArg (_ >>= ·) (funext fun _ => ?_); walk_at "up_eq"); walk_at "up_eq")))
end
end L2
namespace L2
open PySem PyProof.Rows
section
variable {prog : Program} {w : World} {A : Around} {E : Value → Shared → Prop} {s : Shared}
end
end L2
namespace L2
open PySem PyProof.Rows
section
variable {α : Type} {le : α → α → Prop}
end
section
variable {prog : Program} {w : World} {A : Around} {E : Value → Shared → Prop} {s : Shared}
end
section
variable {a b o : Array Keyed} {i j k : Nat}
end
section
variable {prog : Program} {w : World} {A : Around} {E : Value → Shared → Prop} {s : Shared}
end
end L2
namespace L2
open PySem PyProof.Rows
section
variable {a b o : Array Keyed} {i j z : Nat}
end
section
variable {prog : Program} {w : World} {A : Around} {E : Value → Shared → Prop} {s : Shared}
end
end L2
namespace L2
open PySem PyProof.Rows
section
variable {prog : Program} {w : World} {A : Around} {E : Value → Shared → Prop} {s : Shared}
end
section
variable {prog : Program} {w : World} {A : Around} {E : Value → Shared → Prop} {s : Shared}
end
end L2
namespace L2
open PySem PyProof.Rows
noncomputable def Rn (a : Array Keyed) : Nat → List (Nat × Nat × Nat) → Nat → Prop
  | lo, [], hi => lo = hi
  | lo, (u, n, _) :: r, hi => u = lo ∧ 1 ≤ n ∧ Seg a u (u + n) ∧ Rn a (u + n) r hi
theorem Rn.le {a : Array Keyed} : ∀ {p : List (Nat × Nat × Nat)} {lo hi : Nat}, Rn a lo p hi → lo + p.length ≤ hi
  | [], lo, hi, h => by have : lo = hi := h; simp; omega
  | (u, n, q) :: r, lo, hi, ⟨h1, h2, h3, h4⟩ => by have := Rn.le h4; simp; omega
section
variable {prog : Program} {w : World} {A : Around} {E : Value → Shared → Prop} {s : Shared}
end
end L2
namespace L2
open PySem PyProof.Rows
section
variable {prog : Program} {w : World} {A : Around} {E : Value → Shared → Prop} {s : Shared}
end
end L2
namespace L3
open PySem PySem.Spec PyProof.Rows L2
section
variable {X : Cx}
end
open Classical in
noncomputable def eqR (h : Heap) (x : PyData) (y : Value) : Bool := if q : ∃ d as, Reads h y d as ∧ d.canLay0 = true then PyData.eqv (Classical.choose q) x else false
theorem eqR_of {h : Heap} {x d : PyData} {y : Value} {as : List Addr} (r : Reads h y d as) (hd : d.canLay0 = true) : eqR h x y = PyData.eqv d x := by
  unfold eqR
  have q : ∃ d as, Reads h y d as ∧ d.canLay0 = true := ⟨d, as, r, hd⟩
  rw [dif_pos q]
  obtain ⟨as', r', c'⟩ := Classical.choose_spec q
  rw [(PySem.Reads.unique r' d as r).1]
theorem anyR {h : Heap} {x : PyData} : ∀ {us : List Value} {ds : List PyData} {as : List Addr}, ReadsAll h us ds as → PyData.canLayAll0 ds = true → us.any (eqR h x) = ds.any fun d => PyData.eqv d x
  | _, _, _, .nil, _ => rfl
  | _, _, _, .cons r rs, c => by
    rw [PyData.canLayAll0, Bool.and_eq_true] at c
    rw [List.any_cons, List.any_cons, eqR_of r c.1, anyR rs c.2]
theorem memR {h : Heap} : ∀ {us : List Value} {ds : List PyData} {as : List Addr} {u : Value}, ReadsAll h us ds as → u ∈ us → ∃ d as, d ∈ ds ∧ Reads h u d as
  | _, _, _, u, .nil, m => nomatch m
  | _, _, _, u, .cons (d := d) r rs, m => by
    rcases List.mem_cons.mp m with rfl | m
    · exact ⟨_, _, List.mem_cons_self, r⟩
    · obtain ⟨d', as, h1, h2⟩ := memR rs m
      exact ⟨d', as, List.mem_cons_of_mem _ h1, h2⟩
noncomputable def inB (a : PyData) (ds : List PyData) : Bool := ds.any fun y => PyData.eqv y a
noncomputable def inX : PyData → PyData → Res PyData
  | a, .list ds => gd (SeqAt.shaped a = true ∧ ds.all SeqAt.shaped = true) (.ok (.bool (inB a ds)))
  | a, .tuple ds => gd (SeqAt.shaped a = true ∧ ds.all SeqAt.shaped = true) (.ok (.bool (inB a ds)))
  | _, _ => .bad
theorem all_lay : ∀ {ds : List PyData}, ds.all SeqAt.shaped = true → PyData.canLayAll0 ds = true
  | [], _ => by rw [PyData.canLayAll0]
  | d :: ds, h => by
    rw [List.all_cons, Bool.and_eq_true] at h
    rw [PyData.canLayAll0, SeqAt.canLay_of_shaped h.1, all_lay h.2]; rfl
theorem shaped_depth {d : PyData} (h : SeqAt.shaped d = true) : d.depth ≤ 64 := by
  unfold SeqAt.shaped at h
  rw [Bool.and_eq_true] at h
  exact of_decide_eq_true h.2
section
variable {X : Cx}
theorem in_any {pins : List (Addr × Obj)} {s : Shared} {σ : L2.St} {H A : Hp} {d1 : PyData} {ds : List PyData} {x : V} {v : Value} {vs : List V} {its : List Value} (hu : X.A.units + 66 < cLine) (I : Inv X pins σ H s) (rx : RelV x v) (ha : Same A H)
    (p1 : Pk X.K A H d1 x) (f1 : SeqAt.shaped d1 = true) (f2 : ds.all SeqAt.shaped = true) (q2 : RpAll X.K A ds vs) (r : Vals vs its) :
    (∀ y, y ∈ its.toArray → SeqAt.EqAt X.A.in1 s y v (eqR s.heap d1 y)) ∧ its.toArray.any (eqR s.heap d1) = inB d1 ds := by
  obtain ⟨as, r1⟩ := Is.reads I d1 (p1.is ha f1) rx
  obtain ⟨bs, r2⟩ := IsAll.reads I ds (IsAll.mono ha ds (RpAll.is ds (all_lay f2) q2)) r
  refine ⟨fun y hy => ?_, by rw [List.any_toArray, anyR r2 (all_lay f2)]; rfl⟩
  obtain ⟨d, cs, hd, ry⟩ := memR r2 (by simpa using hy)
  have hs : SeqAt.shaped d = true := List.all_eq_true.mp f2 d hd
  rw [eqR_of ry (SeqAt.canLay_of_shaped hs)]
  refine SeqAt.eqAt_reads d d1 X.A.in1 s y v cs as ry r1 (SeqAt.canLay_of_shaped hs) (SeqAt.canLay_of_shaped f1) ?_
  have := shaped_depth hs
  have e : X.A.in1.units = X.A.units + 1 := rfl
  have := Nat.min_le_left d.depth d1.depth
  omega
theorem od_inX (hu : X.A.units + 66 < cLine) : OpR X (compareOp .In) (rD X.K inX) := by
  intro pins s σ H x y v u Q I rx ry hq
  obtain ⟨A, d1, d2, d, e, ha, p1, p2, k⟩ := hq
  cases d2 with
  | list ds =>
    obtain ⟨⟨f1, f2⟩, e⟩ := gd_ok e
    have e' := Res.ok.inj e
    subst e'
    obtain ⟨l, vs, rfl, h1, q2⟩ := p2.list ha
    cases ry
    obtain ⟨its, r, pl, hz⟩ := I.list h1
    obtain ⟨w1, w2⟩ := in_any hu I rx ha p1 f1 f2 q2 r
    refine SeqAt.in_listAt (eqR s.heap d1) pl.isList w1 ?_
    rw [w2]
    exact ⟨.bl _, H, I, rfl, k _ A H (Grow.refl ha) (Rp.bool.mpr rfl)⟩
  | tuple ds =>
    obtain ⟨⟨f1, f2⟩, e⟩ := gd_ok e
    have e' := Res.ok.inj e
    subst e'
    obtain ⟨l, vs, rfl, h1, q2⟩ := p2.tuple ha
    cases ry
    obtain ⟨its, r, pl, hz⟩ := I.tuple h1
    obtain ⟨w1, w2⟩ := in_any hu I rx ha p1 f1 f2 q2 r
    refine SeqAt.in_tupleAt (eqR s.heap d1) (show s.heap.IsTuple l its.toArray from pl) w1 ?_
    rw [w2]
    exact ⟨.bl _, H, I, rfl, k _ A H (Grow.refl ha) (Rp.bool.mpr rfl)⟩
  | _ => cases e
end
theorem _root_.L2.Room.units2 {k : Nat} {A : Around} (r : Room k A) : A.units + 66 < cLine := by have := r.un; omega
end L3
namespace L3
open PySem PySem.Spec PyProof.Rows L2
noncomputable def lookD (key : Key) : List (PyData × PyData) → Option PyData
  | [] => none
  | (k, d) :: r => if keyD k = some key then some d else lookD key r
noncomputable def hasK (key : Key) : List (PyData × PyData) → Bool
  | [] => false
  | (k, _) :: r => if keyD k = some key then true else hasK key r
noncomputable def setK (key : Key) (x : PyData) : List (PyData × PyData) → List (PyData × PyData)
  | [] => []
  | (k, d) :: r => (if keyD k = some key then (k, x) else (k, d)) :: setK key x r
noncomputable def putD2 (kd : PyData) (key : Key) (x : PyData) (kvs : List (PyData × PyData)) : List (PyData × PyData) := if hasK key kvs = true then setK key x kvs else kvs ++ [(kd, x)]
theorem keyD_eq {k : PyData} {key key' : Key} (h : keyD k = some key') : keyD k = some key ↔ key' = key := by rw [h]; simp
section
variable {K : PySem.W.Frag} {A : Hp} {key : Key}
theorem RpKV.look : ∀ {kvs : List (PyData × PyData)} {u : List (Key × V)}, RpKV K A kvs u → (∀ d, lookD key kvs = some d → ∃ v, valV u key = some v ∧ Rp K A d v) ∧ (lookD key kvs = none → valV u key = none)
  | [], u, h => by
    rw [RpKV.nil] at h; subst h
    exact ⟨fun d e => (nomatch e), fun _ => rfl⟩
  | (k, d) :: r, u, h => by
    obtain ⟨key', v, u', rfl, hk, hd, hr⟩ := RpKV.cons.mp h
    unfold lookD
    by_cases e : keyD k = some key
    · have e' := (keyD_eq hk).mp e
      rw [if_pos e]
      exact ⟨fun d' z => by cases z; exact ⟨v, valV_pos (p := (key', v)) e', hd⟩, fun z => (nomatch z)⟩
    · have e' : ¬ key' = key := fun z => e ((keyD_eq hk).mpr z)
      rw [if_neg e, valV_neg (p := (key', v)) e']
      exact RpKV.look hr
theorem RpKV.has : ∀ {kvs : List (PyData × PyData)} {u : List (Key × V)}, RpKV K A kvs u → (u.any fun kv => decide (kv.1 = key)) = hasK key kvs
  | [], u, h => by rw [RpKV.nil] at h; subst h; rfl
  | (k, d) :: r, u, h => by
    obtain ⟨key', v, u', rfl, hk, hd, hr⟩ := RpKV.cons.mp h
    unfold hasK
    rw [List.any_cons, RpKV.has hr]
    by_cases e : keyD k = some key
    · rw [if_pos e, decide_eq_true ((keyD_eq hk).mp e)]; rfl
    · rw [if_neg e, decide_eq_false fun z => e ((keyD_eq hk).mpr z)]; rfl
theorem RpKV.set {x : PyData} {w : V} (hx : Rp K A x w) : ∀ {kvs : List (PyData × PyData)} {u : List (Key × V)}, RpKV K A kvs u → RpKV K A (setK key x kvs) (u.map fun kv => if kv.1 = key then (kv.1, w) else kv)
  | [], u, h => by rw [RpKV.nil] at h; subst h; exact RpKV.nil.mpr rfl
  | (k, d) :: r, u, h => by
    obtain ⟨key', v, u', rfl, hk, hd, hr⟩ := RpKV.cons.mp h
    unfold setK
    rw [List.map_cons]
    by_cases e : keyD k = some key
    · rw [if_pos e, if_pos ((keyD_eq hk).mp e)]
      exact RpKV.cons.mpr ⟨key', w, _, rfl, hk, hx, RpKV.set hx hr⟩
    · rw [if_neg e, if_neg fun z => e ((keyD_eq hk).mpr z)]
      exact RpKV.cons.mpr ⟨key', v, _, rfl, hk, hd, RpKV.set hx hr⟩
theorem RpKV.snoc {kd x : PyData} {w : V} (hk : keyD kd = some key) (hx : Rp K A x w) : ∀ {kvs : List (PyData × PyData)} {u : List (Key × V)}, RpKV K A kvs u → RpKV K A (kvs ++ [(kd, x)]) (u ++ [(key, w)])
  | [], u, h => by rw [RpKV.nil] at h; subst h; exact RpKV.cons.mpr ⟨key, w, [], rfl, hk, hx, RpKV.nil.mpr rfl⟩
  | (k, d) :: r, u, h => by
    obtain ⟨key', v, u', rfl, hk', hd, hr⟩ := RpKV.cons.mp h
    exact RpKV.cons.mpr ⟨key', v, _, rfl, hk', hd, RpKV.snoc hk hx hr⟩
theorem RpKV.put {kd x : PyData} {w : V} {kvs : List (PyData × PyData)} {u : List (Key × V)} (hk : keyD kd = some key) (hx : Rp K A x w) (h : RpKV K A kvs u) : RpKV K A (putD2 kd key x kvs) (putK u key w) := by
  unfold putD2 putK
  rw [h.has]
  by_cases e : hasK key kvs = true
  · rw [if_pos e, if_pos e]; exact h.set hx
  · rw [if_neg e, if_neg e]; exact h.snoc hk hx
theorem RpKV.length : ∀ {kvs : List (PyData × PyData)} {u : List (Key × V)}, RpKV K A kvs u → kvs.length = u.length
  | [], u, h => by rw [RpKV.nil] at h; subst h; rfl
  | (k, d) :: r, u, h => by
    obtain ⟨key', v, u', rfl, _, _, hr⟩ := RpKV.cons.mp h
    rw [List.length_cons, List.length_cons, RpKV.length hr]
end
noncomputable def inY : PyData → PyData → Res PyData
  | a, .dict kvs => match keyD a with
    | some key => .ok (.bool (lookD key kvs).isSome)
    | none => .bad
  | a, b => inX a b
section
variable {X : Cx}
theorem Pk.key {K : PySem.W.Frag} {A H : Hp} {d : PyData} {v : V} {key : Key} (p : Pk K A H d v) (h : keyD d = some key) : v = kV key := by
  cases d with
  | int i => cases h; exact p.int
  | str x => cases h; exact p.str
  | _ => cases h
theorem RpKV.some {K : PySem.W.Frag} {A : Hp} {kvs : List (PyData × PyData)} {u : List (Key × V)} {key : Key} (h : RpKV K A kvs u) : (valV u key).isSome = (lookD key kvs).isSome := by
  have := h.look (key := key)
  cases e : lookD key kvs with
  | none => rw [this.2 e]; rfl
  | some d => obtain ⟨v, e1, _⟩ := this.1 d e; rw [e1]; rfl
theorem od_inY (hu : X.A.units + 66 < cLine) : OpR X (compareOp .In) (rD X.K inY) := by
  intro pins s σ H x y v u Q I rx ry hq
  obtain ⟨A, d1, d2, d, e, ha, p1, p2, k⟩ := hq
  cases d2 with
  | dict kvs =>
    have e : (match keyD d1 with | some key => Res.ok (PyData.bool (lookD key kvs).isSome) | none => .bad) = .ok d := e
    cases hk : keyD d1 with
    | none => rw [hk] at e; cases e
    | some key =>
      rw [hk] at e
      cases e
      obtain ⟨l, w, rfl, h1, h2⟩ := p2.dict ha
      cases ry
      rw [p1.key hk] at rx
      exact d_in (by omega) I (DGet.k (k := key) h1) rx fun s' I' => ⟨.bl _, H, I', rfl, k _ A H (Grow.refl ha) (Rp.bool.mpr (by rw [h2.some]))⟩
  | list ds => exact od_inX hu pins s σ H x y v u Q I rx ry ⟨A, d1, .list ds, d, e, ha, p1, p2, k⟩
  | tuple ds => exact od_inX hu pins s σ H x y v u Q I rx ry ⟨A, d1, .tuple ds, d, e, ha, p1, p2, k⟩
  | _ => cases e
end
noncomputable def sPutD (i : Nat) (mk mv : ME) : MS := fun Γ => (mv Γ).bind fun x => (mk Γ).bind fun kd => match gv Γ i with
  | some (.dict kvs) => match keyD kd with
    | some key => gd (kvs.length < sizeLine ∧ i < Γ.length) (.ok (.nx (Γ.set i (some (.dict (putD2 kd key x kvs))))))
    | none => .bad
  | _ => .bad
section
variable {X : Cx} {rm : Rm} {Ol O : List Fl} {m m' : ME} {e a b : Expr} {pos p apos cpos : Pos}
theorem own_dict {K : PySem.W.Frag} {A B H : Hp} {σ : L2.St} {Γ : Ev} {i : Nat} {kvs : List (PyData × PyData)} (r : StRep K A B H O σ Γ) (hi : isO (fl O i) = true) (he : gv Γ i = some (.dict kvs)) : ∃ q u, sv σ i = some (.ref q) ∧ H q = some (.dK u) ∧ RpKV K A kvs u := by
  obtain ⟨d, q, o, e1, e2, h1, h2, h3, ⟨ds', vs, rfl, rfl, h4⟩ | ⟨kvs, u, rfl, rfl, h4⟩⟩ := r.own_at hi (by rw [he]; simp)
  · rw [he] at e1; cases e1
  · rw [he] at e1
    cases e1
    exact ⟨q, u, e2, h1, h4⟩
theorem Rp.key {K : PySem.W.Frag} {A : Hp} {d : PyData} {v : V} {key : Key} (p : Rp K A d v) (h : keyD d = some key) : v = kV key := Pk.key (H := A) (.inl p) h
theorem ss_dput (i : Nat) {x : Str} {xp tpos : Pos} (hu : X.A.units + 66 < cLine) (ha : QE X a (tE X.K O m)) (he : QE X e (tE X.K O m')) (hi : isO (fl O i) = true := by rfl) (hN : X.N[i]? = some x := by rfl) (hv : Vis X.env.scope x := by first | exact Or.inl rfl | exact Or.inr (Or.inl rfl) | exact Or.inr (Or.inr rfl)) (hd : (x == ("__debug__" : Str)) = false := by decide)
    (hcd : (x == ("__classdict__" : Str)) = false := by decide) (hs : swapsWith e (some (.Subscript (.Name x xp) a tpos)) pos.line X.env = pure false := by rfl) :
    QS X (.Assign [.Subscript (.Name x xp) a tpos] e pos) (tS X.K rm Ol O O (sPutD i m m')) := by
  refine QS.imp (ps_dput (by omega) (pe_var hN hv hd hcd) ha.h he.h hs) fun D σ H hq__ => ?_
  obtain ⟨A, B, Γ, o, r, em, k⟩ := hq__
  obtain ⟨d, e1, em⟩ := Res.bind_ok em
  obtain ⟨kd, e2, em⟩ := Res.bind_ok em
  cases hg : gv Γ i with
  | none => rw [hg] at em; cases em
  | some dl =>
    rw [hg] at em
    cases dl with
    | dict kvs =>
      have em' : (match keyD kd with | some key => gd (kvs.length < sizeLine ∧ i < Γ.length) (Res.ok (Out.nx (Γ.set i (some (.dict (putD2 kd key d kvs)))))) | none => .bad) = .ok o := em
      cases hk : keyD kd with
      | none => rw [hk] at em'; cases em'
      | some key =>
        rw [hk] at em'
        obtain ⟨⟨hz, hlt⟩, em'⟩ := gd_ok em'
        cases em'
        obtain ⟨q, u, e3, h2, h4⟩ := own_dict r hi hg
        refine ⟨A, B, Γ, d, r, e1, fun v A1 H1 g1 p1 => ⟨.ref q, sv_get e3, A1, B, Γ, _, r.grow g1, e2, fun w A2 H2 g2 p2 => ?_⟩⟩
        have gg := g1.trans g2
        refine ⟨q, _, rfl, by rw [Rp.key p2 hk]; exact DPut.k (gg.hh _ _ h2) (by rw [← h4.length]; exact hz), ?_⟩
        exact k σ A2 _ ((r.grow gg).change hi hlt (by rw [hg]; simp) e3 (gg.hh _ _ h2) (.inr ⟨_, _, rfl, rfl, RpKV.put hk (Rp.mono g2.aa _ p1) (RpKV.mono gg.aa _ h4)⟩)) gg.aa (gg.nB r.b)
    | _ => cases em
end
noncomputable def ixY : PyData → PyData → Res PyData
  | .dict kvs, a => match keyD a with
    | some key => match lookD key kvs with
      | some d => .ok d
      | none => .bad
    | none => .bad
  | a, b => ixD a b
section
variable {X : Cx}
theorem ix_dict : IxR X (fun x y H Q => ∃ a v, x = .ref a ∧ DGet H a y (some v) ∧ X.A.units + 1 < cLine ∧ Q v H) := by
  intro value slice pins s σ H x y v u Q I rx ry h hs
  obtain ⟨a, w, rfl, g, hu, q⟩ := h
  cases rx
  have hT := dict_typeIs I g
  unfold subscriptTail
  refine wpAny_bind ?_
  rw [getitemInPython_of_ne hT.not_modules]
  refine wpAny_bind (wpAny_specialOf hT PySem.F.slot_dict_getitem.lookup ?_)
  have fin : wpAny (model X.prog X.w) X.A (subscripted slice false (.ref a) u) (fun r s₃ => wpAny (model X.prog X.w) X.A (letTemporaryGo value (.ref a) r >>= fun _ => pure r) (EP X pins σ Q) X.xe s₃) X.xe s := by
    rw [hs]
    exact wpAny_operating (wpAny_mono (d_getItem hu I g ry fun w' s' I' rw' => (⟨w, H, I', rw', q⟩ : EP X pins σ Q w' s')) (fun r s₃ h₃ => wpAny_bind (wpAny_letTemporaryGo (wpAny_pure h₃))) fun _ _ x => x)
  first
    | exact wpAny_pure (wpAny_bind fin)
    | exact wpAny_bind (wpAny_pure (wpAny_bind fin))
    | exact wpAny_bind fin
theorem od_ixY (hu : X.A.units + 66 < cLine) : IxR X (rD X.K ixY) := by
  intro value slice pins s σ H x y v u Q I rx ry hq hs
  obtain ⟨A, d1, d2, d, e, ha, p1, p2, k⟩ := hq
  cases d1 with
  | dict kvs =>
    have e : (match keyD d2 with | some key => (match lookD key kvs with | some d => Res.ok d | none => .bad) | none => .bad) = .ok d := e
    cases hk : keyD d2 with
    | none => rw [hk] at e; cases e
    | some key =>
      rw [hk] at e
      have e : (match lookD key kvs with | some d => Res.ok d | none => .bad) = .ok d := e
      cases hl : lookD key kvs with
      | none => rw [hl] at e; cases e
      | some d0 =>
        rw [hl] at e
        cases e
        obtain ⟨l, w, rfl, h1, h2⟩ := p1.dict ha
        obtain ⟨v0, ev, rv⟩ := (h2.look (key := key)).1 d hl
        refine ix_dict value slice pins s σ H _ y v u Q I rx ry ⟨l, v0, rfl, ?_, by omega, k _ A H (Grow.refl ha) rv⟩ hs
        rw [p2.key hk, ← ev]
        exact DGet.k h1
  | list ds => exact od_ix value slice pins s σ H x y v u Q I rx ry ⟨A, .list ds, d2, d, e, ha, p1, p2, k⟩ hs
  | tuple ds => exact od_ix value slice pins s σ H x y v u Q I rx ry ⟨A, .tuple ds, d2, d, e, ha, p1, p2, k⟩ hs
  | str ds => exact od_ix value slice pins s σ H x y v u Q I rx ry ⟨A, .str ds, d2, d, e, ha, p1, p2, k⟩ hs
  | _ => cases e
theorem se_ixY {a b : Expr} {O : List Fl} {m1 m2 : ME} {pos : Pos} (hu : X.A.units + 66 < cLine) (ha : QE X a (tP X.K O m1)) (hb : QE X b (tP X.K O m2)) (hs : PlainIx b) : QE X (.Subscript a b pos) (tE X.K O (eBin ixY m1 m2)) := QE.imp (pe_ix (od_ixY hu) ha.h hb.h hs) fun _ _ _ => tE_bin
end
end L3
namespace L3
open PySem PySem.Spec PyProof.Rows L2
section
variable {X : Cx}
theorem call_range1 : CallR X (.type "range") (fun xs H Q => ∃ n, xs = [.int n] ∧ ∀ p, H p = none → Q (.ref p) (upd H p (.rng 0 n))) := by
  intro pins s σ H xs us Q I r h
  obtain ⟨n, rfl, q⟩ := h
  obtain ⟨z, rfl, t, rfl⟩ := vals1 r
  refine call_range_1 ⟨.ref s.heap.objs.size, _, I.laid (a := s.heap.objs.size) (o := .rng 0 n) (fun b o e => Heap.get?_push_of_some _ e) (Nat.le_refl _) ⟨_, _, _, Heap.get?_push_size _ rfl⟩, rfl, q _ (I.hok.fresh (Nat.le_refl _))⟩
theorem call_listR (hc : X.calm = true) : CallR X (.type "list") (fun xs H Q => ∃ p n, xs = [.ref p] ∧ H p = some (.rng 0 n) ∧ (-(2 ^ 20) ≤ n ∧ n ≤ 2 ^ 20) ∧ ∀ l, H l = none → Q (.ref l) (upd H l (.lst ((List.range n.toNat).map fun i => V.int (i : Nat))))) := by
  intro pins s σ H xs us Q I r h
  obtain ⟨p, n, rfl, he, hn, q⟩ := h
  obtain ⟨z, rfl, rx⟩ := vals1 r
  cases rx
  obtain ⟨t, u, v, eo⟩ := (show ObjOk X.prog X.w H s.heap p (.rng 0 n) from I.hok p _ he)
  refine call_list_range (n := n.toNat) (I.ok.hd hc) (show IsRange s.heap p 0 n 1 t u v from eo) (small_one (by decide) (by decide) (by omega) (by omega)) (by rw [rangeSize_one]; split <;> omega) (by omega) fun h' tk acc c hk hS hacc => ?_
  refine ⟨.ref s.heap.objs.size, _, I.laid (a := s.heap.objs.size) (o := .lst ((List.range n.toNat).map fun i => V.int (i : Nat))) (t' := tk) hk (Nat.le_refl _) ⟨?_, acc.toList, c, ?_, by simpa using hS⟩, rfl, q _ (I.hok.fresh (Nat.le_refl _))⟩
  · rw [List.length_map, List.length_range, PySem.sizeLine_eq]; omega
  · have hv : ∀ (m : Nat) (vs : List Value), vs.length = m → (∀ (j : Nat) (v : Value), vs[j]? = some v → ∃ t, v = Value.int (0 + (j : Int) * 1) t) → ∀ k : Nat, (∀ (j : Nat) (v : Value), vs[j]? = some v → ∃ t, v = Value.int (0 + (j : Int) * 1) t) → Vals ((List.range m).map fun i => V.int (i : Nat)) vs := by
      intro m
      induction m with
      | zero => intro vs h _ _ _; rw [List.length_eq_zero_iff.mp h]; exact .nil
      | succ m ih =>
        intro vs hl g k _
        rw [List.range_succ, List.map_append]
        obtain ⟨ws, x, rfl⟩ : ∃ ws x, vs = ws ++ [x] := ⟨vs.dropLast, vs.getLast (by intro z; rw [z] at hl; cases hl), (List.dropLast_concat_getLast _).symm⟩
        have hl' : ws.length = m := by simpa using hl
        refine Vals.append (ih ws hl' (fun j v e => g j v (by rw [List.getElem?_append_left (List.getElem?_eq_some_iff.mp e).1]; exact e)) 0 fun j v e => g j v (by rw [List.getElem?_append_left (List.getElem?_eq_some_iff.mp e).1]; exact e)) (.cons ?_ .nil)
        obtain ⟨t, e⟩ := g m x (by rw [List.getElem?_append_right (by omega)]; simp [hl'])
        exact ⟨t, by rw [e]; congr 1; omega⟩
    have g : ∀ (j : Nat) (v : Value), acc.toList[j]? = some v → ∃ t, v = Value.int (0 + (j : Int) * 1) t := fun j v e => hacc.2 j v (by rw [← Array.getElem?_toList]; exact e)
    exact hv n.toNat acc.toList (by rw [Array.length_toList]; exact hacc.1) g 0 g
noncomputable def lrD : PyData → Res PyData
  | .int n => gd (-(2 ^ 20) ≤ n ∧ n ≤ 2 ^ 20) (.ok (.list ((List.range n.toNat).map fun i => PyData.int (i : Nat))))
  | _ => .bad
theorem RpAll.range {K : PySem.W.Frag} {A : Hp} {n : Nat} : RpAll K A ((List.range n).map fun i => PyData.int (i : Nat)) ((List.range n).map fun i => V.int (i : Nat)) := by
  have := RpAll.ints (K := K) (A := A) (ns := (List.range n).map fun i => ((i : Nat) : Int))
  rw [List.map_map, List.map_map] at this
  exact this
theorem sf_lrange {e : Expr} {O : List Fl} {m : ME} {p p2 pos pos2 : Pos} (hc : X.calm = true) (hgl : Gl X "list") (hml : X.mg "list" = none) (hvl : bootBuiltins "list" = some (.type "list")) (hgr : Gl X "range") (hmr : X.mg "range" = none) (hvr : bootBuiltins "range" = some (.type "range")) (he : QE X e (tP X.K O m))
    (hst : noStar e = true := by rfl) : QE X (.Call (.Name "list" p) [.Call (.Name "range" p2) [e] [] pos2] [] pos) (tF X.K O (eUn lrD m)) := by
  refine QE.imp (pe_callTy (call_listR hc) hgl hml hvl (pa_cons (pe_callTy call_range1 hgr hmr hvr (pa_cons he.h pa_nil (star_cons hst)) (by decide) (by decide) (star_cons hst) (star_any rfl)) pa_nil)) fun σ H Q hq__ => ?_
  obtain ⟨A, B, Γ, d, r, em, k⟩ := hq__
  obtain ⟨d1, e1, em⟩ := Res.bind_ok em
  cases d1 with
  | int n =>
    obtain ⟨hn, em⟩ := gd_ok em
    cases em
    refine ⟨A, B, Γ, _, r, e1, fun v A1 H1 g1 p1 => ⟨n, by rw [p1.int], fun q hq => ⟨q, n, rfl, upd_same, hn, fun l hl => ?_⟩⟩⟩
    have hq1 : H1 l = none := by
      by_cases z : l = q
      · subst z; rw [upd_same] at hl; cases hl
      · rw [upd_ne z] at hl; exact hl
    have g2 := Grow.lay (o := HO.rng 0 n) g1.ah hq
    have g3 := Grow.lay (o := HO.lst ((List.range n.toNat).map fun i => V.int (i : Nat))) g2.ah hl
    exact k _ A1 _ (g1.trans (g2.trans g3)) ⟨l, _, rfl, g1.hh.free hq1, upd_same, g2.ah.free hl, .inl ⟨_, _, rfl, rfl, RpAll.range⟩⟩
  | _ => cases em
end
end L3
namespace L3
open PySem PySem.Spec PyProof.Rows L2
section
variable {K : PySem.W.Frag} {A B H A' H' : Hp} {O : List Fl} {σ : L2.St} {Γ : Ev} {i : Nat}
end
inductive MA where
  | imm | bor | var (i : Nat) | new
noncomputable def ArgQ (K : PySem.W.Frag) (A B : Hp) (σ : L2.St) (Γ : Ev) (H0 H : Hp) : MA → PyData → V → Prop
  | .imm, d, v => Rp K A d v
  | .bor, d, v => Pk K A B d v
  | .var i, d, v => sv σ i = some v ∧ gv Γ i = some d
  | .new, d, v => ∃ p o, v = .ref p ∧ H0 p = none ∧ H p = some o ∧ A p = none ∧ OwnO K A d o
noncomputable def ArgsQ (K : PySem.W.Frag) (A B : Hp) (σ : L2.St) (Γ : Ev) (H0 H : Hp) : List MA → List PyData → List V → Prop
  | [], ds, vs => ds = [] ∧ vs = []
  | a :: as, ds, vs => ∃ d r v s, ds = d :: r ∧ vs = v :: s ∧ ArgQ K A B σ Γ H0 H a d v ∧ ArgsQ K A B σ Γ H0 H as r s
section
variable {K : PySem.W.Frag} {A B H H0 A' H' : Hp} {σ : L2.St} {Γ : Ev}
theorem ArgsQ.base (s : Same H0 H) : ∀ {as : List MA} {ds : List PyData} {vs : List V}, ArgsQ K A B σ Γ H H' as ds vs → ArgsQ K A B σ Γ H0 H' as ds vs
  | [], ds, vs, h => h
  | a :: as, ds, vs, h => by
    obtain ⟨d, r, v, t, rfl, rfl, h1, h2⟩ := h
    refine ⟨d, r, v, t, rfl, rfl, ?_, ArgsQ.base s h2⟩
    cases a with
    | new => obtain ⟨p, o, e, h0, q⟩ := h1; exact ⟨p, o, e, s.free h0, q⟩
    | imm => exact h1
    | bor => exact h1
    | var i => exact h1
theorem ArgsQ.len : ∀ {as : List MA} {ds : List PyData} {vs : List V}, ArgsQ K A B σ Γ H0 H as ds vs → ds.length = as.length ∧ vs.length = as.length
  | [], ds, vs, h => by obtain ⟨rfl, rfl⟩ := h; exact ⟨rfl, rfl⟩
  | a :: as, ds, vs, h => by
    obtain ⟨d, r, v, t, rfl, rfl, _, h2⟩ := h
    have := h2.len
    exact ⟨by rw [List.length_cons, List.length_cons, this.1], by rw [List.length_cons, List.length_cons, this.2]⟩
end
section
variable {X : Cx} {K : PySem.W.Frag} {O : List Fl} {m : ME} {ms : List ME} {as : List MA} {e : Expr} {es : List Expr} {pos : Pos}
end
section
variable {X : Cx} {k : Nat} {x : Str} {ps : List Str} {fs : List Fl} {j : Nat} {f : List PyData → Res PyData} {O : List Fl} {as : List MA} {ms : List ME} {p pos : Pos} {e : Expr} {es : List Expr}
end
section
variable {X : Cx} {K : PySem.W.Frag} {rm : Rm} {Ol O O' : List Fl} {f : List PyData → Res PyData} {ms : List ME} {m : ME} {e : Expr} {pos : Pos}
end
section
variable {P : Program} {w : World} {K : PySem.W.Frag} {mg : Str → Option Value} {base : Heap}
end
end L3
namespace L3
open PySem PySem.Spec PyProof.Rows L2
section
variable {K : PySem.W.Frag} {A B H : Hp} {O : List Fl} {σ : L2.St} {Γ : Ev}
end
section
variable {K : PySem.W.Frag} {O Ob O1 : List Fl} {tn : List Str} {ix is : List Nat} {it : MI} {g : MG} {f : List PyData → Res PyData} {ms : List ME}
end
section
variable {X : Cx} {O Ob O1 Ol O' : List Fl} {scope : Scope} {is : List Nat} {it : MI} {g : MG} {m1 : ME} {f : List PyData → Res PyData} {ms : List ME} {e1 elt tg iter : Expr} {nt : Nat}
end
end L3
namespace L3
open PySem PySem.Spec PyProof.Rows L2
section
variable {X : Cx}
end
noncomputable abbrev MZ := Ev → Res Str
section
variable {X : Cx} {K : PySem.W.Frag} {rm : Rm} {Ol O O1 O2 : List Fl} {XE : Str → Hp → Prop} {m1 : MS} {m : ME} {z z1 z2 : MZ} {c : Expr} {st : Stmt} {rest a b : List Stmt} {pos : Pos}
end
section
variable {P : Program} {w : World} {K : PySem.W.Frag} {mg : Str → Option Value} {base : Heap}
end
end L3
namespace L3
open PySem PySem.Spec PyProof.Rows L2
section
variable {X : Cx} {pins : List (Addr × Obj)} {σ : L2.St} {H : Hp} {s : Shared} {O : List Fl} {Γ : Ev} {A B : Hp}
end
section
variable {M : Model} {A : Around} {E : Value → Shared → Prop} {K : PySem.W.Frag}
end
section
variable {X : Cx} {pins : List (Addr × Obj)} {σ : L2.St} {H : Hp} {s : Shared} {ea : Addr} {ob : Obj}
end
end L3
namespace L3
open PySem PySem.Spec PyProof.Rows L2
section
variable {X : Cx} {pins : List (Addr × Obj)} {σ : L2.St} {H : Hp} {s : Shared}
end
section
variable {X : Cx} {pins : List (Addr × Obj)} {σ : L2.St} {H : Hp} {s : Shared}
end
section
variable {X : Cx} {ea C : Addr} {ob : Obj}
end
section
variable {X : Cx} {k : Nat} {fn : Str} {ps : List Str} {fs : List Fl} {f : List PyData → Res PyData} {zf : List PyData → Res Str} {O Ol : List Fl} {rm : Rm} {ms : List ME} {pf pc pos px pa : Pos} {e : Expr} {es : List Expr}
end
end L3
namespace L3
open PySem PySem.Spec PyProof.Rows L2
end L3
namespace L3
open PySem PySem.Spec PyProof.Rows L2
end L3
namespace L3
open PySem PySem.Spec PyProof.Rows L2
end L3
namespace L2
open PySem PySem.Spec PyProof.Rows
open Builtin Builtin.Str
noncomputable def IsRvs (h : Heap) (a l : Addr) (i : Int) : Prop := ∃ o, h.get? a = some o ∧ o.cls = .type "reversed" ∧ o.data = .fields #[.ref l, rawInt i]
theorem IsRvs.typeIs {s : Shared} {a l : Addr} {i : Int} (x : IsRvs s.heap a l i) : s.TypeIs (.ref a) "reversed" := let ⟨o, ho, hc, _⟩ := x; ⟨o, ho, hc⟩
section
variable {prog : Program} {w : World} {A : Around} {E : Value → Shared → Prop} {s : Shared}
end
section
variable {X : Cx} {tg : Expr}
end
end L2
namespace L3
open PySem PySem.Spec PyProof.Rows L2
section
variable {X : Cx} {O : List Fl} {m m' : ME} {e a b tg : Expr} {pos p : Pos}
end
section
variable {X : Cx} {rm : Rm} {Ol O O' : List Fl} {is : List Nat} {g : MG} {tg : Expr} {p apos cpos pos : Pos}
end
end L3
namespace L2
open PySem PySem.Spec PyProof.Rows
end L2
namespace L3
open PySem PySem.Spec PyProof.Rows L2
section
variable {X : Cx} {k : Nat} {x : Str} {ps : List Str} {fs : List Fl} {f : List PyData → Res PyData} {O : List Fl} {ms : List ME} {p pos : Pos} {e : Expr} {es : List Expr}
end
section
variable {X : Cx} {K : PySem.W.Frag} {rm : Rm} {Ol O O' : List Fl} {m1 m2 : MS} {sts : List Stmt}
end
end L3
namespace L2
open PySem PySem.Spec PyProof.Rows
noncomputable def ItrS (lo c : Int) (n : Nat) : It := ⟨fun i _ => i < n, fun i H x H' => H' = H ∧ x = .int (lo + i * c), fun i _ => n ≤ i⟩
theorem turn_rangeS {P : Program} {w : World} {K : PySem.W.Frag} {tg : Expr} (it : Addr) (lo c : Int) (n : Nat) : Turn P w K tg (ItrS lo c n) [it] it (fun i h => IsRangeIter h it (lo + (i : Nat) * c) ((n : Int) - (i : Nat)) c) where
  mem := by simp
  obj := fun i h st b hb => by
    have e : b = it := by simpa using hb
    subst e
    exact ⟨_, st, fun v z => by
      have z' : Data.fields _ = Data.cell v := z
      cases z'⟩
  keep := fun i h h' st k => k it (by simp) _ st
  item := by
    intro X hP hw hK hc i pins s σ H E I hf st hg
    subst hP hw hK
    obtain ⟨f0, f1, f2, f3, f4, f5⟩ := hf it (by simp)
    have W := Walks.range (prog := X.prog) (w := X.w) (I.ok.hd hc) it lo c n
    refine W.item i s _ _ hg st fun v h' tk hv st' kk => ?_
    obtain ⟨t, rfl⟩ := hv
    have I1 : Inv X pins σ H { s with heap := h', toks := tk } := I.turned (fun b o hb e => kk b o (by simpa using hb) e) f0 f1 f3 f4 f5
    refine ⟨_, rfl, go_of (s := { s with heap := h', toks := tk }) (n := "range_iterator") st' rfl rfl (by decide) ⟨.int (lo + i * c), H, I1, ⟨t, rfl⟩, ⟨rfl, rfl⟩, st', fun b hb => (hf b hb).1⟩⟩
  done := by
    intro X hP hw hK hc i pins s σ H E I hf st hg
    subst hP hw hK
    obtain ⟨f0, f1, f2, f3, f4, f5⟩ := hf it (by simp)
    exact wpAny_pyNext_range_end (I.ok.hd hc) st (by have : n ≤ i := hg; omega) fun h' eb => ⟨rfl, I.turned (t' := s.toks) (fun b o hb e => eb b o hb e) f0 f1 f3 f4 f5⟩
  self := fun _ _ _ _ _ st h => wpAny_pyIter_rangeiter st h
section
variable {X : Cx} {tg : Expr}
theorem range_itS {pins : List (Addr × Obj)} {σ : St} {H : Hp} {s : Shared} {R : It → Hp → Prop} {E : Value → Shared → Prop} {lo hi c : Int} {t u v : Tok} {tk : Nat} (I : Inv X pins σ H s) (hs : Builtin.Range.small lo hi c = true) (h0 : 0 ≤ Builtin.Range.rangeSize lo hi c)
    (q : R (ItrS lo c (Builtin.Range.rangeSize lo hi c).toNat) H) : wpAny (model X.prog X.w) X.A (pyIter (.ref s.heap.objs.size)) (PIE X pins σ tg R) E { s with heap := s.heap.push { cls := .type "range", data := .fields #[.int lo t, .int hi u, .int c v] }, toks := tk } := by
  refine wpAny_pyIter_range (IsRange.new ..) hs ?_
  have I1 : Inv X pins σ H { s with heap := s.heap.push { cls := .type "range", data := .fields #[.int lo t, .int hi u, .int c v] }, toks := tk } := I.kept fun b o e => Heap.get?_push_of_some _ e
  refine ⟨(s.heap.push { cls := .type "range", data := .fields #[.int lo t, .int hi u, .int c v] }).objs.size, [(s.heap.push { cls := .type "range", data := .fields #[.int lo t, .int hi u, .int c v] }).objs.size], _, _, H, rfl,
    I1.kept (t' := tk) fun b o e => Heap.get?_push_of_some _ e, turn_rangeS _ lo c (Builtin.Range.rangeSize lo hi c).toNat, ?_, fun b hb => ?_, q⟩
  · have e1 : lo + ((0 : Nat) : Int) * c = lo := by simp
    have e2 : (((Builtin.Range.rangeSize lo hi c).toNat : Nat) : Int) - ((0 : Nat) : Int) = Builtin.Range.rangeSize lo hi c := by omega
    show IsRangeIter _ _ (lo + ((0 : Nat) : Int) * c) ((((Builtin.Range.rangeSize lo hi c).toNat : Nat) : Int) - ((0 : Nat) : Int)) c
    rw [e1, e2]
    exact Heap.get?_push_size _ rfl
  · have e : b = (s.heap.push { cls := .type "range", data := .fields #[.int lo t, .int hi u, .int c v] }).objs.size := by simpa using hb
    subst e
    exact I1.fpOk (Nat.le_refl _) (I1.hok.fresh (Nat.le_refl _))
noncomputable def iRng3 (ta : TA) : TI := fun σ H R => ta σ H fun vs H1 => ∃ i j c : Int, vs = [.int i, .int j, .int c] ∧ (c ≠ 0 ∧ c.natAbs < 1073741824 ∧ Builtin.Range.small i j c = true ∧ 0 ≤ Builtin.Range.rangeSize i j c) ∧ R (ItrS i c (Builtin.Range.rangeSize i j c).toNat) H1
theorem pi_range3 {a b c : Expr} {ta : TA} {p pos : Pos} (hg : Gl X "range") (hm : X.mg "range" = none) (ha : PA X [a, b, c] ta) (hs : starEach [a, b, c] X.env = [(false, eval a X.env), (false, eval b X.env), (false, eval c X.env)] := by rfl) (hs2 : starEach [b, c] X.env = [(false, eval b X.env), (false, eval c X.env)] := by rfl) :
    PI X tg (.Call (.Name "range" p) [a, b, c] [] pos) (iRng3 ta) := by
  intro pins s σ H R I h
  refine Call_ (ld_blt I hg hm boot_range (PyProof.Rows.callWith_type1 (thn (ha pos pins s σ H _ I h) fun us s1 hq__ => ?_) (by rw [hs, hs2]) (by rw [hs2]; rfl)))
  obtain ⟨vs, H1, I1, r1, q1⟩ := hq__
  obtain ⟨i, j, k, e, ⟨q0, q1, q2, q3⟩, q⟩ := q1
  subst e
  cases r1 with
  | cons r rr =>
    cases rr with
    | cons r' rr =>
      cases rr with
      | cons r'' rr =>
        cases rr
        obtain ⟨t, rfl⟩ := r
        obtain ⟨t', rfl⟩ := r'
        obtain ⟨t'', rfl⟩ := r''
        exact call_range_3 q0 (range_itS I1 q2 q3 q) (.inl (PyProof.noPylong_small q1))
end
end L2
namespace L3
open PySem PySem.Spec PyProof.Rows L2
section
variable {X : Cx} {O : List Fl} {m m' m'' : ME} {e a b c tg : Expr} {pos p : Pos} {K : PySem.W.Frag} {A B : Hp}
theorem it_rangeS (lo c : Int) (n : Nat) : ItOk K A B (ItrS lo c n) ((List.range n).map fun i => PyData.int (lo + (i : Nat) * c)) := by
  have hl : ((List.range n).map fun i => PyData.int (lo + (i : Nat) * c)).length = n := by rw [List.length_map, List.length_range]
  refine ⟨fun i H _ _ hi => (by rw [hl] at hi; exact hi), fun H _ _ => (by rw [hl]; exact Nat.le_refl _), fun i A2 H x H' sa s1 s2 hi y => ?_⟩
  obtain ⟨rfl, rfl⟩ := y
  rw [hl] at hi
  exact ⟨A2, .int (lo + (i : Nat) * c), by rw [List.getElem?_map, List.getElem?_range hi]; rfl, Grow.refl s1, Rp.int.mpr rfl⟩
noncomputable def rng3 (d d' d'' : PyData) : Res (List PyData) := match d, d', d'' with
  | .int i, .int j, .int c => gd (c ≠ 0 ∧ c.natAbs < 1073741824 ∧ Builtin.Range.small i j c = true ∧ 0 ≤ Builtin.Range.rangeSize i j c) (.ok ((List.range (Builtin.Range.rangeSize i j c).toNat).map fun k => PyData.int (i + (k : Nat) * c)))
  | _, _, _ => .bad
noncomputable def itR3 (m m' m'' : ME) : MI := fun Γ => (m Γ).bind fun d => (m' Γ).bind fun d' => (m'' Γ).bind fun d'' => rng3 d d' d''
theorem rng3_ok {d d' d'' : PyData} {xs : List PyData} (h : rng3 d d' d'' = .ok xs) : ∃ i j c : Int, d = .int i ∧ d' = .int j ∧ d'' = .int c ∧ (c ≠ 0 ∧ c.natAbs < 1073741824 ∧ Builtin.Range.small i j c = true ∧ 0 ≤ Builtin.Range.rangeSize i j c) ∧ xs = (List.range (Builtin.Range.rangeSize i j c).toNat).map fun k => PyData.int (i + (k : Nat) * c) := by
  unfold rng3 at h
  split at h
  · obtain ⟨hc, em⟩ := gd_ok h
    cases em
    exact ⟨_, _, _, rfl, rfl, rfl, hc, rfl⟩
  · cases h
theorem si_range3 (hg : Gl X "range") (hm : X.mg "range" = none) (ha : QE X a (tP X.K O m)) (hb : QE X b (tP X.K O m')) (hc : QE X c (tP X.K O m'')) (hs : starEach [a, b, c] X.env = [(false, eval a X.env), (false, eval b X.env), (false, eval c X.env)] := by rfl) (hs2 : starEach [b, c] X.env = [(false, eval b X.env), (false, eval c X.env)] := by rfl) (hs3 : starEach [c] X.env = [(false, eval c X.env)] := by rfl) :
    QI X tg (.Call (.Name "range" p) [a, b, c] [] pos) (tI X.K O (itR3 m m' m'')) :=
  QI.imp (pi_range3 hg hm (pa_cons ha.h (pa_cons hb.h (pa_cons hc.h pa_nil hs3) (by rw [hs2, hs3])) (by rw [hs, hs2])) hs hs2) fun σ H R hq__ => by
    obtain ⟨A, B, Γ, xs, r, em, k⟩ := hq__
    obtain ⟨d, e1, em⟩ := Res.bind_ok em
    obtain ⟨d', e2, em⟩ := Res.bind_ok em
    obtain ⟨d'', e3, em⟩ := Res.bind_ok em
    obtain ⟨i, j, s, rfl, rfl, rfl, hc, rfl⟩ := rng3_ok em
    exact ⟨A, B, Γ, _, r, e1, fun v A1 H1 g1 p1 => ⟨A1, B, Γ, _, r.grow g1, e2, fun v' A2 H2 g2 p2 => ⟨A2, B, Γ, _, (r.grow g1).grow g2, e3, fun v'' A3 H3 g3 p3 => ⟨i, j, s, by rw [p1.int, p2.int, p3.int], hc, k _ A3 H3 ((g1.trans g2).trans g3) (it_rangeS i s _)⟩⟩⟩⟩
end
end L3
namespace L2
open PySem
noncomputable def Rising (xs : Array Nat) : Prop := xs.toList.Pairwise (· < ·)
structure TabOk (led : Bool) (t : SetTable) : Prop where
  up : Rising t.place
  led : t.led = led
theorem live_rising (owner : Array (Option Nat)) (n : Nat) : (((List.range n).filterMap fun j => (owner.getD j none).map (j, ·)).map (·.1)).Pairwise (· < ·) := by
  rw [List.pairwise_map]
  refine List.Pairwise.filterMap _ (fun a a' hlt b hb b' hb' => ?_) List.pairwise_lt_range
  cases h1 : owner.getD a none with
  | none => rw [h1] at hb; cases hb
  | some x =>
    cases h2 : owner.getD a' none with
    | none => rw [h2] at hb'; cases hb'
    | some y =>
      rw [h1] at hb; rw [h2] at hb'
      simp only [Option.map_some, Option.some.injEq] at hb hb'
      subst hb; subst hb'
      exact hlt
theorem laid_ok {mask finger moves : Nat} {led plain : Bool} {hs : Array Int} {t : SetTable} {o : Array Nat} (e : SetTable.laid mask finger moves led plain hs = some (t, o)) : TabOk led t := by
  unfold SetTable.laid at e
  cases hl : SetTable.layClean mask hs with
  | none => rw [hl] at e; cases e
  | some ow =>
    rw [hl] at e
    simp only [bind, Option.bind, pure, Option.some.injEq, Prod.mk.injEq] at e
    obtain ⟨rfl, _⟩ := e
    refine ⟨?_, rfl⟩
    show (List.toArray _).toList.Pairwise _
    exact live_rising ow _
end L2
namespace L2
open PySem PySem.Spec PyProof.Rows
noncomputable def valI : Value → Int
  | .int k _ => k
  | _ => 0
noncomputable def ledW (w : World) : Bool := !(w.params.followText "set-order")
noncomputable def setObj (es : Array (Int × Value)) (ep : Nat) (t : SetTable) : Obj := { cls := .type "set", dict := none, data := .set es ep t, slots := #[] }
structure SetRec (P : Program) (w : World) (es : Array (Int × Value)) (t : SetTable) (ks : List Int) : Prop where
  el : ElemsOf (intKind P w) es.toList
  tab : TabOk (ledW w) t
  fit : t.fits es.size = true
  pm : (es.toList.map fun e => valI e.2).Perm ks
noncomputable def SetAt (P : Program) (w : World) (h : Heap) (a : Addr) (ks : List Int) : Prop := ∃ es ep t, h.get? a = some (setObj es ep t) ∧ SetRec P w es t ks
section
variable {P : Program} {w : World} {A : Around} {E : Value → Shared → Prop} {s : Shared}
theorem SetAt.typeIs {a : Addr} {ks : List Int} (x : SetAt P w s.heap a ks) : s.TypeIs (.ref a) "set" := by
  obtain ⟨es, ep, t, g, r⟩ := x
  exact ⟨_, g, rfl⟩
theorem put_set {a : Addr} {es es' : Array (Int × Value)} {ep : Nat} {t t' : SetTable} {h : Heap} (g : h.get? a = some (setObj es ep t)) : (h.update a (Obj.putSet es' t')).get? a = some (setObj es' (ep + 1) t') := by
  have := Heap.get?_update_self (Obj.putSet es' t') g (by rw [putSet_of es' t' (show (setObj es ep t).data = _ from rfl)]; rfl)
  rw [putSet_of es' t' (show (setObj es ep t).data = _ from rfl)] at this
  exact this
theorem scan_line {n : Nat} (h : n < 4000) : n ≤ sizeLine := Nat.le_trans (Nat.le_of_lt h) (by decide)
theorem SetRec.perm {es es' : Array (Int × Value)} {t t' : SetTable} {ks : List Int} (r : SetRec P w es t ks) (hp : es'.toList.Perm es.toList) (ht : TabOk (ledW w) t') (hf : t'.fits es'.size = true) : SetRec P w es' t' ks :=
  ⟨r.el.perm hp, ht, hf, (hp.map _).trans r.pm⟩
end
end L2
namespace L2
open PySem PySem.Spec PyProof.Rows
theorem ent_sul : entryFor table "set.update.loop" = some Builtin.«set.update.loop» := entryFor_of_tree (by kernel_rfl)
theorem pl_sul : plainId "set.update.loop" = true := by decide +kernel
section
variable {P : Program} {w : World} {A : Around} {R : Result → Shared → Prop} {I : Addr} {fp wr : List Addr} {G : Array GenState → Array GenState → Prop} {n : Nat} {Pv : Nat → Value → Prop} {St : Nat → Shared → Prop}
end
section
variable {P : Program} {w : World} {A : Around} {E : Value → Shared → Prop} {s : Shared}
theorem chk_set_new (a : Value) : checkBuiltinCall "set.__new__" ⟨[.type "set", a], []⟩ = pure () := by kernel_rfl
theorem chk_set_call (a : Value) : checkTypeCall "set" ⟨[a], []⟩ = pure () := by kernel_rfl
theorem new_set1 (a : Value) {Q : Value → Shared → Prop} (h : Q (.ref s.heap.objs.size) { s with heap := s.heap.push (setObj #[] 0 (.fresh 0 0 (ledW w))) }) :
    codeAny (model P w) A (.call (.builtin "set.__new__") ⟨[.type "set", a], []⟩) (wants Q E) s := by
  refine codeAny_of_tree ?_
  show wpAny _ A.in1 (checkBuiltinCall "set.__new__" ⟨[.type "set", a], []⟩ >>= fun _ => again (.builtin "set.__new__" ⟨[.type "set", a], []⟩)) _ _ s
  refine wpAny_bind (wpAny_of_eq (chk_set_new a) (wpAny_pure ⟨plainId_quiet F.plain_set_new _, codeAny_builtin F.entry_set_new ?_⟩))
  rw [Around.under_plainId F.plain_set_new _]
  unfold Builtin.«set.__new__»
  unfold Builtin.Frozenset.newClass
  have hsb := sub_set_self
  obtain ⟨hp, g, d, tk, os⟩ := s
  dsimp only
  wp_walk
  refine wpAny_askSetting (wpAny_pure ?_)
  dsimp only
  simp only [newObj]
  exact wpAny_bind (wpAny_alloc (wpAny_pure (wpAny_pure h)))
theorem chk_set_init {M : Model} {self a : Value} {Q : Unit → Shared → Prop} (hT : s.TypeIs self "set") (hQ : Q () s) : wpAny M A (checkBuiltinCall "set.__init__" ⟨[self, a], []⟩) Q E s := by
  simp only [checkBuiltinCall, kind_set_init, split_set_init, sig_set_init]
  refine wpAny_bind (wpAny_isInstance hT sub_set_self ?_)
  simp only [Bool.not_true, Bool.false_eq_true, if_false]
  unfold Bind.checkArgs
  dsimp only
  refine wpAny_bind (m := Bind.printed "set" true _ _) (printed_name (by decide) (wpAny_bind (m := Bind.printed "*" false _ _) (printed_star (self := self) rfl hT fun short => ?_)))
  have e0 : (Manifest.Receiver.self == Manifest.Receiver.none) = false := by decide
  rw [show (if (Manifest.Receiver.self == Manifest.Receiver.none) = true then [self, a].length else [self, a].length - 1) = 1 by simp [e0]]
  simp only [List.map_nil]
  have e1 : (Manifest.ParamKind.posOnly == Manifest.ParamKind.posOnly) = true := by decide
  have e2 : (Manifest.ParamKind.posOnly == Manifest.ParamKind.posOrKw) = false := by decide
  have e3 : (Manifest.ParamKind.posOnly == Manifest.ParamKind.varPos) = false := by decide
  rw [show Bind.check ⟨.positional, "set", "*", .self, [⟨"iterable", .posOnly, false⟩]⟩ "set" short 1 [] = pure () by simp [Bind.check, Bind.checkCount, Bind.isPositional, e1, e2, e3]]
  exact wpAny_pure hQ
theorem intAt : ∀ {vs : List Value} {ns : List Int}, IntsAre vs ns → ∀ {i : Nat} {v : Value}, vs[i]? = some v → ∃ t, v = .int (ns.getD i 0) t
  | _, _, .nil, i, v, h => by simp at h
  | _, _, .cons n t r, 0, v, h => ⟨t, by rw [← Option.some.inj h]; rfl⟩
  | _, _, .cons n t r, i + 1, v, h => intAt r (by simpa using h)
theorem intsLen : ∀ {vs : List Value} {ns : List Int}, IntsAre vs ns → vs.length = ns.length
  | _, _, .nil => rfl
  | _, _, .cons n t r => by rw [List.length_cons, List.length_cons, intsLen r]
structure Walked (P : Program) (w : World) (A : Around) (s : Shared) (l : Addr) (T : String) (ns : List Int) : Prop where
  ty : s.TypeIs (.ref l) T
  n1 : isSubtype (.type T) (.type "set") = pure false
  n2 : isSubtype (.type T) (.type "frozenset") = pure false
  n3 : (Value.type T == Value.type "dict") = false
  it : ∀ (s' : Shared) (Q : Value → Shared → Prop) (E : Value → Shared → Prop) (A' : Around), A'.handled = none → (∀ b o, s.heap.get? b = some o → s'.heap.get? b = some o) →
    (∀ (h' : Heap) (fp wr : List Addr) (Pv : Nat → Value → Prop) (St : Nat → Shared → Prop), (∀ b o, s'.heap.get? b = some o → h'.get? b = some o) → (∀ b ∈ fp, b = s'.heap.objs.size ∨ b < s.heap.objs.size) → (∀ b ∈ wr, s'.heap.objs.size ≤ b) →
      (∀ A2 : Around, A2.handled = none → WalksS P w A2 s'.heap.objs.size fp wr (fun a b => b = a) ns.length Pv St) → (∀ i v, i < ns.length → Pv i v → ∃ t, v = .int (ns.getD i 0) t) → St 0 { s' with heap := h' } → Q (.ref s'.heap.objs.size) { s' with heap := h' }) →
    wpAny (model P w) A' (pyIter (.ref l)) Q E s'
theorem Walked.tuple {l : Addr} {items : Array Value} {ns : List Int} (hl : s.heap.IsTuple l items) (hi : IntsAre items.toList ns) : Walked P w A s l "tuple" ns where
  ty := hl.typeIs
  n1 := by rw [isSubtype_type]; kernel_rfl
  n2 := by rw [isSubtype_type]; kernel_rfl
  n3 := by decide
  it := fun s' Q E A' hh hk hQ => by
    have hl' : s'.heap.IsTuple l items := by
      obtain ⟨o, ho, r⟩ := hl
      exact ⟨o, hk _ _ ho, r⟩
    have hlt : l < s'.heap.objs.size := by obtain ⟨o, ho, r⟩ := hl'; exact Heap.lt_size ho
    have hls : l < s.heap.objs.size := by obtain ⟨o, ho, r⟩ := hl; exact Heap.lt_size ho
    have en : ns.length = items.size := by rw [← intsLen hi, Array.length_toList]
    refine wpAny_pyIter_tuple hl' (hQ _ [s'.heap.objs.size, l] [s'.heap.objs.size] (fun i v => items[i]? = some v) (fun i s2 => s2.heap.IsTupleIter s'.heap.objs.size l i ∧ s2.heap.IsTuple l items) (fun b o e => Heap.get?_push_of_some _ e) (fun b hb => ?_) (fun b hb => ?_) (fun A2 h2 => ?_) (fun i v _ hv => ?_) ⟨⟨_, Heap.get?_push_size _ rfl, rfl, rfl⟩, hl'.push _⟩)
    · rcases List.mem_cons.mp hb with z | z
      · exact .inl z
      · exact .inr (by rw [List.mem_singleton.mp z]; exact hls)
    · rw [List.mem_singleton.mp hb]; exact Nat.le_refl _
    · rw [en]; exact (Walks.tuple h2 _ l (Nat.ne_of_lt hlt) items).toS
    · exact intAt hi (by rw [Array.getElem?_toList]; exact hv)
end
end L2
namespace L2
open PySem PySem.Spec PyProof.Rows
structure Grown (s s' : Shared) : Prop where
  heap : ∀ b o, s.heap.get? b = some o → s'.heap.get? b = some o
  gens : s'.gens = s.gens
  os : s'.os = s.os
theorem Grown.refl (s : Shared) : Grown s s := ⟨fun _ _ e => e, rfl, rfl⟩
theorem Grown.trans {a b c : Shared} (x : Grown a b) (y : Grown b c) : Grown a c := ⟨fun p o e => y.heap p o (x.heap p o e), y.gens.trans x.gens, y.os.trans x.os⟩
section
variable {P : Program} {w : World} {A : Around} {E : Value → Shared → Prop} {s : Shared}
end
end L2
namespace L2
open PySem PySem.Spec PyProof.Rows
section
variable {X : Cx} {pins : List (Addr × Obj)} {σ : St} {H : Hp} {s s' : Shared}
theorem Inv.grown (I : Inv X pins σ H s) (g : Grown s s') : Inv X pins σ H s' := by
  have J : Inv X pins σ H { s with heap := s'.heap, toks := s'.toks } := I.kept g.heap
  exact ⟨J.ok, g.os.trans J.os, by rw [g.gens]; exact J.bare, J.base, J.loc, J.cell, J.free, J.freeC, J.pin, J.hok, J.len⟩
variable {e : Expr} {ta : TA} {p pos : Pos}
theorem boot_set : bootBuiltins "set" = some (.type "set") := by decide +kernel
end
end L2
namespace L3
open PySem PySem.Spec PyProof.Rows L2
section
variable {X : Cx} {O : List Fl} {m : ME} {e : Expr} {p p2 pos pos2 : Pos}
end
end L3
namespace L2
open PySem PySem.Spec PyProof.Rows
section
variable {P : Program} {w : World} {A : Around} {E : Value → Shared → Prop} {s : Shared}
end
end L2
namespace L2
open PySem PySem.Spec PyProof.Rows
section
variable {P : Program} {w : World} {A : Around} {E : Value → Shared → Prop} {s : Shared}
end
end L2
namespace L2
open PySem PySem.Spec PyProof.Rows
section
variable {P : Program} {w : World} {A : Around} {E : Value → Shared → Prop} {s : Shared}
end
end L2
namespace L2
open PySem PySem.Spec PyProof.Rows
section
variable {P : Program} {w : World} {A : Around} {E : Value → Shared → Prop} {s : Shared}
end
end L2
namespace L2
open PySem PySem.Spec PyProof.Rows
section
variable {X : Cx} {a b : Expr} {pos : Pos}
end
end L2
namespace L3
open PySem PySem.Spec PyProof.Rows L2
section
variable {X : Cx} {O : List Fl} {m m' : ME} {e e' : Expr} {p p2 p3 pos pos2 pos3 pos4 : Pos}
end
end L3
namespace L2
open PySem PySem.Spec PyProof.Rows
section
variable {P : Program} {w : World} {A : Around} {E : Value → Shared → Prop} {s : Shared}
end
end L2
namespace L3
open PySem PySem.Spec PyProof.Rows L2
section
variable {X : Cx} {rm : Rm} {Ol O : List Fl} {m m' : ME} {e a b : Expr} {pos p apos cpos : Pos}
end
end L3
namespace L3
open PySem PySem.Spec PyProof.Rows L2
section
variable {P : Program} {w : World} {K : PySem.W.Frag} {mg : Str → Option Value} {base : Heap}
end
end L3
namespace L3
open PySem PySem.Spec PyProof.Rows L2
section
variable {X : Cx} {D : List (Str × PyData)}
end
section
variable {X : Cx} {D : List (Str × PyData)} {O : List Fl}
end
end L3
namespace L3
open PySem PySem.Spec PyProof.Rows L2
section
variable {X : Cx} {O : List Fl} {ks : List (Option Expr)} {vs : List Expr} {R : List (Str × ME)}
end
section
variable {X : Cx} {O Ol : List Fl} {rm : Rm} {a e : Expr} {m m' : ME} {pos : Pos}
end
end L3
namespace L3
open PySem PySem.Spec PyProof.Rows L2
noncomputable def lookN (key : NKey) : List (PyData × PyData) → Option PyData
  | [] => none
  | (k, d) :: r => if keyN k = some key then some d else lookN key r
noncomputable def hasN (key : NKey) : List (PyData × PyData) → Bool
  | [] => false
  | (k, _) :: r => if keyN k = some key then true else hasN key r
noncomputable def setN (key : NKey) (x : PyData) : List (PyData × PyData) → List (PyData × PyData)
  | [] => []
  | (k, d) :: r => (if keyN k = some key then (k, x) else (k, d)) :: setN key x r
noncomputable def putN (kd : PyData) (key : NKey) (x : PyData) (kvs : List (PyData × PyData)) : List (PyData × PyData) := if hasN key kvs = true then setN key x kvs else kvs ++ [(kd, x)]
noncomputable abbrev NP (K : PySem.W.Frag) (A : Hp) : List (PyData × PyData) → List (NKey × V) → Prop := Paired fun p q => keyN p.1 = some q.1 ∧ Rp K A p.2 q.2
section
variable {K : PySem.W.Frag} {A : Hp} {key : NKey} {kvs : List (PyData × PyData)} {us : List (NKey × V)}
theorem keyN_eq {k : PyData} {key key' : NKey} (h : keyN k = some key') : keyN k = some key ↔ key' = key := by rw [h]; simp
theorem NP.look (h : NP K A kvs us) : (∀ d, lookN key kvs = some d → ∃ v, valV us key = some v ∧ Rp K A d v) ∧ (lookN key kvs = none → valV us key = none) := by
  induction h with
  | nil => exact ⟨fun d e => (nomatch e), fun _ => rfl⟩
  | @cons p q ps qs hq t ih =>
    obtain ⟨hk, hd⟩ := hq
    obtain ⟨k, d⟩ := p
    unfold lookN
    by_cases e : keyN k = some key
    · have e' := (keyN_eq hk).mp e
      rw [if_pos e]
      exact ⟨fun d' z => by cases z; exact ⟨q.2, valV_pos e', hd⟩, fun z => (nomatch z)⟩
    · have e' : ¬ q.1 = key := fun z => e ((keyN_eq hk).mpr z)
      rw [if_neg e, valV_neg e']
      exact ih
theorem NP.any (h : NP K A kvs us) : (valV us key).isSome = (lookN key kvs).isSome := by
  have := h.look (key := key)
  cases e : lookN key kvs with
  | none => rw [this.2 e]; rfl
  | some d => obtain ⟨v, e1, _⟩ := this.1 d e; rw [e1]; rfl
theorem NP.has (h : NP K A kvs us) : (us.any fun kv => decide (kv.1 = key)) = hasN key kvs := by
  induction h with
  | nil => rfl
  | @cons p q ps qs hq t ih =>
    obtain ⟨hk, hd⟩ := hq
    obtain ⟨k, d⟩ := p
    unfold hasN
    rw [List.any_cons, ih]
    by_cases e : keyN k = some key
    · rw [if_pos e, decide_eq_true ((keyN_eq hk).mp e)]; rfl
    · rw [if_neg e, decide_eq_false fun z => e ((keyN_eq hk).mpr z)]; rfl
theorem NP.set {x : PyData} {w : V} (hx : Rp K A x w) (h : NP K A kvs us) : NP K A (setN key x kvs) (us.map fun kv => if kv.1 = key then (kv.1, w) else kv) := by
  induction h with
  | nil => exact .nil
  | @cons p q ps qs hq t ih =>
    obtain ⟨hk, hd⟩ := hq
    obtain ⟨k, d⟩ := p
    unfold setN
    rw [List.map_cons]
    by_cases e : keyN k = some key
    · rw [if_pos e, if_pos ((keyN_eq hk).mp e)]; exact .cons ⟨hk, hx⟩ ih
    · rw [if_neg e, if_neg fun z => e ((keyN_eq hk).mpr z)]; exact .cons ⟨hk, hd⟩ ih
theorem NP.put {kd x : PyData} {w : V} (hk : keyN kd = some key) (hx : Rp K A x w) (h : NP K A kvs us) : NP K A (putN kd key x kvs) (putK us key w) := by
  unfold putN putK
  rw [h.has]
  by_cases e : hasN key kvs = true
  · rw [if_pos e, if_pos e]; exact h.set hx
  · rw [if_neg e, if_neg e]; exact Paired.snoc h ⟨hk, hx⟩
theorem RpAll.nints : ∀ {ds : List PyData} {vs : List V} {ns : List Int}, RpAll K A ds vs → intsD ds = some ns → vs = ns.map V.int
  | [], vs, ns, h, e => by rw [RpAll.nil] at h; cases e; exact h
  | .int i :: r, vs, ns, h, e => by
    obtain ⟨v, rest, rfl, h1, h2⟩ := RpAll.cons.mp h
    unfold intsD at e
    cases e1 : intsD r with
    | none => rw [e1] at e; cases e
    | some l =>
      rw [e1] at e
      cases e
      rw [Rp.int.mp h1, RpAll.nints h2 e1]; rfl
  | .none :: r, vs, ns, h, e => by cases e
  | .bool _ :: r, vs, ns, h, e => by cases e
  | .str _ :: r, vs, ns, h, e => by cases e
  | .list _ :: r, vs, ns, h, e => by cases e
  | .tuple _ :: r, vs, ns, h, e => by cases e
  | .dict _ :: r, vs, ns, h, e => by cases e
theorem RpAll.nkeys : ∀ {ds : List PyData} {vs : List V} {key : NKey}, RpAll K A ds vs → keysD ds = some key → ∃ cs : List Addr, vs = cs.map V.ref ∧ Paired (fun (k : List Int) c => SqT K A c (k.map V.int)) key cs
  | [], vs, key, h, e => by rw [RpAll.nil] at h; cases e; exact ⟨[], h, .nil⟩
  | .tuple ds :: r, vs, key, h, e => by
    obtain ⟨v, rest, rfl, h1, h2⟩ := RpAll.cons.mp h
    obtain ⟨a, ws, rfl, h3, h4⟩ := Rp.tuple.mp h1
    unfold keysD at e
    cases e1 : intsD ds with
    | none => rw [e1] at e; cases e
    | some l =>
      cases e2 : keysD r with
      | none => rw [e1, e2] at e; cases e
      | some l2 =>
        rw [e1, e2] at e
        cases e
        obtain ⟨cs, rfl, hp⟩ := RpAll.nkeys h2 e2
        rw [RpAll.nints h4 e1] at h3
        exact ⟨a :: cs, rfl, .cons h3 hp⟩
  | .none :: r, vs, key, h, e => by cases e
  | .bool _ :: r, vs, key, h, e => by cases e
  | .str _ :: r, vs, key, h, e => by cases e
  | .list _ :: r, vs, key, h, e => by cases e
  | .int _ :: r, vs, key, h, e => by cases e
  | .dict _ :: r, vs, key, h, e => by cases e
theorem Rp.nkey {kd : PyData} {v : V} (h : Rp K A kd v) (hk : keyN kd = some key) : ∃ b, v = .ref b ∧ NTup K A key b := by
  cases kd with
  | tuple ds =>
    obtain ⟨a, vs, rfl, h1, h2⟩ := Rp.tuple.mp h
    obtain ⟨cs, rfl, hp⟩ := RpAll.nkeys h2 hk
    exact ⟨a, rfl, cs, h1, hp⟩
  | _ => cases hk
end
section
variable {K : PySem.W.Frag} {A B H : Hp} {O : List Fl} {σ : L2.St} {Γ : Ev} {i : Nat}
theorem StRep.nst_at (r : StRep K A B H O σ Γ) (hi : fl O i = .nst true) {kvs : List (PyData × PyData)} (he : gv Γ i = some (.dict kvs)) :
    ∃ p xs, sv σ i = some (.ref p) ∧ H p = some (NDict p xs) ∧ A p = none ∧ B p = none ∧ RpN K A kvs xs := by
  obtain ⟨v, e1, q⟩ := r.slot i _ he
  rw [hi] at q
  obtain ⟨p, xs, kvs', rfl, w2, w3, w4, w5, w6⟩ := q rfl
  cases w2
  exact ⟨p, xs, e1, w3, w4, w5, w6⟩
theorem StRep.nput {p : Addr} {xs xs' : List (NKey × Addr × Value)} {kvs' : List (PyData × PyData)} (r : StRep K A B H O σ Γ) (hi : fl O i = .nst true) (hl : i < Γ.length) (hs : sv σ i = some (.ref p)) (h1 : H p = some (NDict p xs)) (h2 : A p = none) (h3 : B p = none) (h4 : RpN K A kvs' xs')
    (hone : ∀ j, i ≠ j → fl O j ≠ .nst true) : StRep K A B (upd H p (NDict p xs')) O σ (Γ.set i (some (.dict kvs'))) := by
  refine ⟨fun b u q => ?_, fun b u q => ?_, by rw [List.length_set]; exact r.len, fun j => ?_, fun j k hjk q1 q2 q3 q4 => ?_⟩
  · rw [upd_ne (fun z => by rw [z, h2] at q; cases q)]; exact r.a b u q
  · rw [upd_ne (fun z => by rw [z, h3] at q; cases q)]; exact r.b b u q
  · by_cases hj : i = j
    · subst hj
      unfold gv
      rw [getD_set_eq hl]
      intro d e
      cases e
      refine ⟨_, hs, ?_⟩
      rw [hi]
      exact fun _ => ⟨p, xs', kvs', rfl, rfl, upd_same, h2, h3, h4⟩
    · unfold gv
      rw [getD_set_ne hj]
      intro d e
      obtain ⟨v, ev, q⟩ := r.slot j d e
      refine ⟨v, ev, ?_⟩
      cases hf : fl O j with
      | imm => rw [hf] at q; exact q
      | bor => rw [hf] at q; exact q
      | own =>
        rw [hf] at q
        obtain ⟨p', o', rfl, u1, u2, u3, u4⟩ := q
        have hne : p' ≠ p := fun z => by subst z; rw [u1] at h1; exact u4.nx h1
        exact ⟨p', o', rfl, by rw [upd_ne hne]; exact u1, u2, u3, u4⟩
      | fix p0 =>
        rw [hf] at q
        obtain ⟨q0, p', o', rfl, u1, u2, u3, u4⟩ := q
        have hne : p' ≠ p := fun z => by subst z; rw [u1] at h1; exact u4.nx h1
        exact ⟨q0, p', o', rfl, by rw [upd_ne hne]; exact u1, u2, u3, u4⟩
      | exc C => rw [hf] at q; exact q
      | nst b =>
        cases b with
        | true => exact absurd hf (hone j hj)
        | false => exact fun z => nomatch z
  · have g : ∀ l, isO (fl O l) = true → gv (Γ.set i (some (.dict kvs'))) l ≠ none → gv Γ l ≠ none := fun l h z => by
      have hl : i ≠ l := fun z => by subst z; rw [hi] at h; cases h
      unfold gv at z ⊢
      rwa [getD_set_ne hl] at z
    exact r.sep j k hjk q1 q2 (g j q1 q3) (g k q2 q4)
theorem StRep.nestle (r : StRep K A B H O σ Γ) (hi : fl O i = .own) (hO : i < O.length) (he : gv Γ i = some (.dict [])) :
    ∃ p, H p = some (.dK []) ∧ StRep K A B (upd H p (NDict p [])) (O.set i (.nst true)) σ Γ := by
  obtain ⟨d, p, o, e1, e2, h1, h2, h3, h4⟩ := r.own_at (by rw [hi]; rfl) (by rw [he]; simp)
  rw [he] at e1
  cases e1
  rcases h4 with ⟨ds, vs, z, _⟩ | ⟨kvs, u, z, rfl, h4⟩
  · cases z
  cases z
  rw [RpKV.nil] at h4
  subst h4
  refine ⟨p, h1, fun b u q => ?_, fun b u q => ?_, r.len, fun j => ?_, fun j k hjk q1 q2 q3 q4 => ?_⟩
  · rw [upd_ne (fun z => by rw [z, h2] at q; cases q)]; exact r.a b u q
  · rw [upd_ne (fun z => by rw [z, h3] at q; cases q)]; exact r.b b u q
  · by_cases hj : i = j
    · subst hj
      unfold fl
      rw [getD_set_eq hO]
      intro d e
      rw [he] at e
      cases e
      exact ⟨_, e2, fun _ => ⟨p, [], [], rfl, rfl, upd_same, h2, h3, [], .nil, .nil⟩⟩
    · unfold fl
      rw [getD_set_ne hj]
      intro d e
      obtain ⟨v, ev, q⟩ := r.slot j d e
      refine ⟨v, ev, ?_⟩
      have hne : isO (fl O j) = true → ∀ p', v = .ref p' → p' ≠ p := fun hf p' ez z => by
        refine r.sep i j hj (by rw [hi]; rfl) hf (by rw [he]; simp) (by rw [e]; simp) ?_
        rw [e2, ev, ez, z]
      cases hf : fl O j with
      | imm => unfold fl at hf; rw [hf]; rw [show fl O j = .imm from hf] at q; exact q
      | bor => unfold fl at hf; rw [hf]; rw [show fl O j = .bor from hf] at q; exact q
      | own =>
        have hn := hne (by rw [hf]; rfl)
        unfold fl at hf; rw [hf]; rw [show fl O j = .own from hf] at q
        obtain ⟨p', o', rfl, u1, u2, u3, u4⟩ := q
        exact ⟨p', o', rfl, by rw [upd_ne (hn p' rfl)]; exact u1, u2, u3, u4⟩
      | fix p0 =>
        have hn := hne (by rw [hf]; rfl)
        unfold fl at hf; rw [hf]; rw [show fl O j = .fix p0 from hf] at q
        obtain ⟨q0, p', o', rfl, u1, u2, u3, u4⟩ := q
        exact ⟨q0, p', o', rfl, by rw [upd_ne (hn p' rfl)]; exact u1, u2, u3, u4⟩
      | exc C => unfold fl at hf; rw [hf]; rw [show fl O j = .exc C from hf] at q; exact q
      | nst b =>
        unfold fl at hf; rw [hf]; rw [show fl O j = .nst b from hf] at q
        intro z
        obtain ⟨p', xs, kvs, w1, w2, w3, w4, w5, w6⟩ := q z
        have hn : p' ≠ p := fun z => by subst z; rw [h1] at w3; cases w3
        exact ⟨p', xs, kvs, w1, w2, by rw [upd_ne hn]; exact w3, w4, w5, w6⟩
  · have hj : i ≠ j := fun z => by subst z; unfold fl at q1; rw [getD_set_eq hO] at q1; cases q1
    have hk : i ≠ k := fun z => by subst z; unfold fl at q2; rw [getD_set_eq hO] at q2; cases q2
    unfold fl at q1 q2
    rw [getD_set_ne hj] at q1
    rw [getD_set_ne hk] at q2
    exact r.sep j k hjk q1 q2 q3 q4
end
end L3
namespace L3
open PySem PySem.Spec PyProof.Rows L2
noncomputable def eNotInN (i : Nat) (m : ME) : ME := fun Γ => (m Γ).bind fun kd => match gv Γ i with
  | some (.dict kvs) => match keyN kd with
    | some key => .ok (.bool (!(lookN key kvs).isSome))
    | none => .bad
  | _ => .bad
noncomputable def eIxN (i : Nat) (m : ME) : ME := fun Γ => (m Γ).bind fun kd => match gv Γ i with
  | some (.dict kvs) => match keyN kd with
    | some key => match lookN key kvs with
      | some d => .ok d
      | none => .bad
    | none => .bad
  | _ => .bad
noncomputable def sPutN (i : Nat) (mk mv : ME) : MS := fun Γ => (mv Γ).bind fun x => (mk Γ).bind fun kd => match gv Γ i with
  | some (.dict kvs) => match keyN kd with
    | some key => gd (kvs.length < sizeLine ∧ i < Γ.length) (.ok (.nx (Γ.set i (some (.dict (putN kd key x kvs))))))
    | none => .bad
  | _ => .bad
section
variable {X : Cx} {rm : Rm} {Ol O : List Fl} {m m' : ME} {e a b : Expr} {pos : Pos} {i : Nat} {x : Str} {xp tpos : Pos}
noncomputable def rNotN (K : PySem.W.Frag) : R2 := fun x y H Q => ∃ b p xs us k, x = .ref b ∧ y = .ref p ∧ H p = some (NDict p xs) ∧ KN K H us xs ∧ NTup K H k b ∧ Q (.bl (!(valV us k).isSome)) H
theorem op_notInN (hu : X.A.units + 66 < cLine) : OpR X (compareOp .NotIn) (rNotN X.K) := by
  intro pins s σ H x y v u Q I rx ry h
  obtain ⟨b, p, xs, us, k, rfl, rfl, h1, h2, h3, q⟩ := h
  cases (show v = Value.ref b from rx)
  cases (show u = Value.ref p from ry)
  exact n_notIn (by omega) I h1 h2 h3 fun s' I' => ⟨.bl _, H, I', rfl, q⟩
noncomputable def rIxN (K : PySem.W.Frag) : R2 := fun x y H Q => ∃ p b xs us k v, x = .ref p ∧ y = .ref b ∧ H p = some (NDict p xs) ∧ KN K H us xs ∧ NTup K H k b ∧ valV us k = some v ∧ Q v H
theorem ix_N (hu : X.A.units + 66 < cLine) : IxR X (rIxN X.K) := by
  intro value slice pins s σ H x y v u Q I rx ry h hs
  obtain ⟨p, b, xs, us, k, w, rfl, rfl, h1, h2, h3, h4, q⟩ := h
  cases (show v = Value.ref p from rx)
  cases (show u = Value.ref b from ry)
  have hT := (nd_of I h1 h2).2.2.typeIs
  unfold subscriptTail
  refine wpAny_bind ?_
  rw [getitemInPython_of_ne hT.not_modules]
  refine wpAny_bind (wpAny_specialOf hT PySem.F.slot_dict_getitem.lookup ?_)
  have fin : wpAny (model X.prog X.w) X.A (subscripted slice false (.ref p) (.ref b)) (fun r s₃ => wpAny (model X.prog X.w) X.A (letTemporaryGo value (.ref p) r >>= fun _ => pure r) (EP X pins σ Q) X.xe s₃) X.xe s := by
    rw [hs]
    exact wpAny_operating (wpAny_mono (n_getItem (by omega) I h1 h2 h3 h4 fun w' s' I' rw' => (⟨w, H, I', rw', q⟩ : EP X pins σ Q w' s')) (fun r s₃ h₃ => wpAny_bind (wpAny_letTemporaryGo (wpAny_pure h₃))) fun _ _ x => x)
  first
    | exact wpAny_pure (wpAny_bind fin)
    | exact wpAny_bind (wpAny_pure (wpAny_bind fin))
    | exact wpAny_bind fin
noncomputable def sNPutT (K : PySem.W.Frag) (td ty tv : TE) : TS := fun D σ H => tv σ H fun v H1 => td σ H1 fun x H2 => ty σ H2 fun y H3 => ∃ a b xs us k, x = .ref a ∧ y = .ref b ∧ H3 a = some (NDict a xs) ∧ KN K H3 us xs ∧ NTup K H3 k b ∧ us.length < sizeLine ∧
  ∀ r, RelV v r → D.nx σ (upd H3 a (NDict a (storedH xs k b r)))
theorem ps_nput {td ty tv : TE} {o i value : Expr} {pos' : Pos} (hu : X.A.units + 66 < cLine) (ho : PE X o td) (hi : PE X i ty) (hv : PE X value tv) (hs : swapsWith value (some (.Subscript o i pos')) pos.line X.env = pure false) :
    PS X (.Assign [.Subscript o i pos'] value pos) (sNPutT X.K td ty tv) := by
  intro pins s σ H D I h
  refine wpAny_Assign_Subscript (thn (hv pins s σ H _ I h) fun r s1 ⟨v, H1, I1, rv, q1⟩ => thn (ho pins s1 σ H1 _ I1 q1) fun u s2 ⟨x, H2, I2, rx, q2⟩ => thn (hi pins s2 σ H2 _ I2 q2) fun iv s3 hq__ => ?_) hs
  obtain ⟨y, H3, I3, ry, a, b, xs, us, k, ex, ey, h1, h2, h3, hl, q3⟩ := hq__
  subst ex ey
  obtain rfl : u = Value.ref a := rx
  obtain rfl : iv = Value.ref b := ry
  exact n_setItem (by omega) I3 h1 h2 h3 rv hl fun s4 I4 => ⟨σ, _, I4, q3 r rv⟩
theorem st_notInN (i : Nat) (hu : X.A.units + 66 < cLine) (ha : QE X a (tE X.K O m)) (hi : fl O i = .nst true := by rfl) (hN : X.N[i]? = some x := by rfl) (hv : Vis X.env.scope x := by first | exact Or.inl rfl | exact Or.inr (Or.inl rfl) | exact Or.inr (Or.inr rfl)) (hd : (x == ("__debug__" : Str)) = false := by decide)
    (hcd : (x == ("__classdict__" : Str)) = false := by decide) : QT X (.Compare a [.NotIn] [.Name x xp] pos) (tT X.K O (eNotInN i m)) :=
  QT.imp (pt_cmpR (op_notInN hu) ha.h (pe_var hN hv hd hcd) rfl) fun σ H Q hq__ => by
    obtain ⟨A, B, Γ, bb, r, em, k⟩ := hq__
    obtain ⟨kd, e1, em⟩ := Res.bind_ok em
    cases hg : gv Γ i with
    | none => rw [hg] at em; cases em
    | some dl =>
      rw [hg] at em
      cases dl with
      | dict kvs =>
        have em : (match keyN kd with | some key => Res.ok (PyData.bool (!(lookN key kvs).isSome)) | none => .bad) = .ok (.bool bb) := em
        cases hk : keyN kd with
        | none => rw [hk] at em; cases em
        | some key =>
          rw [hk] at em
          cases em
          obtain ⟨p, xs, e3, h1, h2, h3, us, h4, h5⟩ := r.nst_at hi hg
          refine ⟨A, B, Γ, kd, r, e1, fun v A1 H1 g1 p1 => ⟨.ref p, sv_get e3, ?_⟩⟩
          obtain ⟨b, rfl, nt⟩ := Rp.nkey p1 hk
          exact ⟨b, p, xs, us, key, rfl, rfl, g1.hh _ _ h1, h4.keeps fun _ _ e => (g1.aa.trans g1.ah).seqT e, nt.keeps fun _ _ e => g1.ah.seqT e, _, by rw [NP.any h5], k A1 H1 g1⟩
      | _ => cases em
theorem se_ixN (i : Nat) (hu : X.A.units + 66 < cLine) (ha : QE X a (tE X.K O m)) (hs : PlainIx a) (hi : fl O i = .nst true := by rfl) (hN : X.N[i]? = some x := by rfl) (hv : Vis X.env.scope x := by first | exact Or.inl rfl | exact Or.inr (Or.inl rfl) | exact Or.inr (Or.inr rfl)) (hd : (x == ("__debug__" : Str)) = false := by decide)
    (hcd : (x == ("__classdict__" : Str)) = false := by decide) : QE X (.Subscript (.Name x xp) a pos) (tE X.K O (eIxN i m)) :=
  QE.imp (pe_ix (ix_N hu) (pe_var hN hv hd hcd) ha.h hs) fun σ H Q hq__ => by
    obtain ⟨A, B, Γ, d, r, em, k⟩ := hq__
    obtain ⟨kd, e1, em⟩ := Res.bind_ok em
    cases hg : gv Γ i with
    | none => rw [hg] at em; cases em
    | some dl =>
      rw [hg] at em
      cases dl with
      | dict kvs =>
        have em : (match keyN kd with | some key => (match lookN key kvs with | some d => Res.ok d | none => .bad) | none => .bad) = .ok d := em
        cases hk : keyN kd with
        | none => rw [hk] at em; cases em
        | some key =>
          rw [hk] at em
          have em : (match lookN key kvs with | some d => Res.ok d | none => .bad) = .ok d := em
          cases hl : lookN key kvs with
          | none => rw [hl] at em; cases em
          | some d0 =>
            rw [hl] at em
            cases em
            obtain ⟨p, xs, e3, h1, h2, h3, us, h4, h5⟩ := r.nst_at hi hg
            obtain ⟨v0, ev, rv⟩ := (NP.look (key := key) h5).1 d hl
            refine ⟨.ref p, sv_get e3, A, B, Γ, kd, r, e1, fun v A1 H1 g1 p1 => ?_⟩
            obtain ⟨b, rfl, nt⟩ := Rp.nkey p1 hk
            exact ⟨p, b, xs, us, key, v0, rfl, rfl, g1.hh _ _ h1, h4.keeps fun _ _ e => (g1.aa.trans g1.ah).seqT e, nt.keeps fun _ _ e => g1.ah.seqT e, ev, k _ A1 H1 g1 (Rp.mono g1.aa _ rv)⟩
      | _ => cases em
noncomputable def oneN (O : List Fl) (i : Nat) : Bool := (List.range O.length).all fun j => j == i || !decide (fl O j = .nst true)
theorem oneN_of {j : Nat} (h : oneN O i = true) (hj : i ≠ j) : fl O j ≠ .nst true := fun z => by
  have hl : j < O.length := by
    rcases Nat.lt_or_ge j O.length with z' | z'
    · exact z'
    · unfold fl at z; rw [List.getD_eq_getElem?_getD, List.getElem?_eq_none z'] at z; cases z
  have := List.all_eq_true.mp h j (List.mem_range.mpr hl)
  rw [decide_eq_true z] at this
  simp at this
  exact hj this.symm
theorem ss_nput (i : Nat) (hu : X.A.units + 66 < cLine) (ha : QE X a (tE X.K O m)) (he : QE X e (tE X.K O m')) (hi : fl O i = .nst true := by rfl) (hone : oneN O i = true := by rfl) (hN : X.N[i]? = some x := by rfl) (hv : Vis X.env.scope x := by first | exact Or.inl rfl | exact Or.inr (Or.inl rfl) | exact Or.inr (Or.inr rfl)) (hd : (x == ("__debug__" : Str)) = false := by decide)
    (hcd : (x == ("__classdict__" : Str)) = false := by decide) (hs : swapsWith e (some (.Subscript (.Name x xp) a tpos)) pos.line X.env = pure false := by rfl) :
    QS X (.Assign [.Subscript (.Name x xp) a tpos] e pos) (tS X.K rm Ol O O (sPutN i m m')) := by
  refine QS.imp (ps_nput hu (pe_var hN hv hd hcd) ha.h he.h hs) fun D σ H hq__ => ?_
  obtain ⟨A, B, Γ, o, r, em, k⟩ := hq__
  obtain ⟨d, e1, em⟩ := Res.bind_ok em
  obtain ⟨kd, e2, em⟩ := Res.bind_ok em
  cases hg : gv Γ i with
  | none => rw [hg] at em; cases em
  | some dl =>
    rw [hg] at em
    cases dl with
    | dict kvs =>
      have em' : (match keyN kd with | some key => gd (kvs.length < sizeLine ∧ i < Γ.length) (Res.ok (Out.nx (Γ.set i (some (.dict (putN kd key d kvs)))))) | none => .bad) = .ok o := em
      cases hk : keyN kd with
      | none => rw [hk] at em'; cases em'
      | some key =>
        rw [hk] at em'
        obtain ⟨⟨hz, hlt⟩, em'⟩ := gd_ok em'
        cases em'
        obtain ⟨q, xs, e3, h1, h2, h3, us, h4, h5⟩ := r.nst_at hi hg
        refine ⟨A, B, Γ, d, r, e1, fun v A1 H1 g1 p1 => ⟨.ref q, sv_get e3, A1, B, Γ, _, r.grow g1, e2, fun w A2 H2 g2 p2 => ?_⟩⟩
        have gg := g1.trans g2
        obtain ⟨b, rfl, nt⟩ := Rp.nkey p2 hk
        have h4' : KN X.K A2 us xs := h4.keeps fun _ _ e => gg.aa.seqT e
        have h5' : NP X.K A2 kvs us := Paired.mapP h5 fun _ _ z => ⟨z.1, Rp.mono gg.aa _ z.2⟩
        refine ⟨q, b, xs, us, key, rfl, rfl, gg.hh _ _ h1, h4'.keeps fun _ _ e => gg.ah.seqT e, nt.keeps fun _ _ e => gg.ah.seqT e, by rw [← Paired.length h5]; exact hz, fun rr hr => ?_⟩
        exact k σ A2 _ ((r.grow gg).nput hi hlt e3 (gg.hh _ _ h1) (gg.nw q h2 (by rw [h1]; simp)) h3 ⟨_, h4'.put key nt hr, NP.put hk (Rp.mono g2.aa _ p1) h5'⟩ fun j hj => oneN_of hone hj) gg.aa (gg.nB r.b)
    | _ => cases em
theorem ss_nest {st : Stmt} {O1 O2 : List Fl} (i : Nat) (h : QS X st (tS X.K rm Ol O O1 (sSet i (eDct [])))) (hi : fl O1 i = .own := by rfl) (hl : i < O1.length := by exact of_decide_eq_true rfl) (hO : O1.set i (.nst true) = O2 := by rfl) : QS X st (tS X.K rm Ol O O2 (sSet i (eDct []))) := by
  subst hO
  refine ⟨fun pins s σ H D I ⟨A, B, Γ, o, r, em, k⟩ => ?_⟩
  have em0 := em
  obtain ⟨d, e1, em⟩ := Res.bind_ok em
  obtain ⟨hlt, em⟩ := gd_ok em
  cases em
  cases e1
  refine thn (h.h pins s σ H ⟨fun σ' H' => ∃ p, H' p = some (.dK []) ∧ D.nx σ' (upd H' p (NDict p [])), D.rt, D.bk, D.ct⟩ I ⟨A, B, Γ, _, r, em0, fun σ' A' H' r' sa nw => ?_⟩) fun f s' q => ?_
  · obtain ⟨p, hp, r2⟩ := r'.nestle hi hl (by unfold gv; rw [getD_set_eq hlt])
    exact ⟨p, hp, k σ' A' _ r2 sa nw⟩
  · cases f with
    | next =>
      obtain ⟨σ', H', I', p, hp, hq⟩ := q
      exact ⟨σ', _, n_new I' hp, hq⟩
    | brk => exact q
    | cont => exact q
    | ret u => exact q
end
end L3
namespace L3
open PySem PySem.Spec PyProof.Rows L2
noncomputable def eDctK (mk mv : ME) : ME := fun Γ => (mk Γ).bind fun kd => (mv Γ).bind fun d => match keyD kd with
  | some _ => .ok (.dict [(kd, d)])
  | none => .bad
theorem sf_dctK {X : Cx} {O : List Fl} {mk mv : ME} {pos : Pos} {kx v : Expr} (hk : QE X kx (tE X.K O mk)) (hv : QE X v (tE X.K O mv)) : QE X (.Dict [some kx] [v] pos) (tF X.K O (eDctK mk mv)) :=
  QE.imp (pe_disp (pps_cons hk.h hv.h pps_nil) rfl rfl (fun z => nomatch z) (by show 1 ≤ 15; decide)) fun σ H Q hq__ => by
    obtain ⟨A, B, Γ, d, r, em, k⟩ := hq__
    obtain ⟨kd, e0, em⟩ := Res.bind_ok em
    obtain ⟨d1, e1, em⟩ := Res.bind_ok em
    cases hkk : keyD kd with
    | none => rw [hkk] at em; cases em
    | some key =>
      rw [hkk] at em
      cases em
      intro p hp
      have g0 : Grow A H A (upd H p (.dK [])) := Grow.lay r.a hp
      refine ⟨A, B, Γ, kd, r.grow g0, e0, fun kv A1 H1 g1 p1 => ⟨A1, B, Γ, d1, (r.grow g0).grow g1, e1, fun v A2 H2 g2 p2 => ⟨(g1.trans g2).hh _ _ upd_same, [(key, v)], by rw [Rp.key p1 hkk]; rfl, by show 1 ≤ 15; decide, ?_⟩⟩⟩
      have g12 := g1.trans g2
      have pa : A2 p = none := g12.4 p (r.a.free hp) (by rw [upd_same]; exact fun z => nomatch z)
      have gg : Grow A H A2 (upd H2 p (.dK (mergeK [] [(key, v)]))) := by
        refine ⟨g12.aa, fun b o q => ?_, fun b o q => ?_, fun b q1 q2 => ?_⟩
        · have hb : b ≠ p := ne_of_none q hp
          rw [upd_ne hb]
          exact g12.hh _ _ (by rw [upd_ne hb]; exact q)
        · have hb : b ≠ p := ne_of_none q pa
          rw [upd_ne hb]; exact g2.ah _ _ q
        · have hb : b ≠ p := fun z => q2 (z ▸ hp)
          exact g12.4 b q1 (by rw [upd_ne hb]; exact q2)
      exact k _ _ _ gg ⟨p, _, rfl, hp, upd_same, pa, .inr ⟨_, [(key, v)], rfl, rfl, RpKV.cons.mpr ⟨_, v, [], rfl, hkk, p2, RpKV.nil.mpr rfl⟩⟩⟩
end L3
namespace L2
open PySem PySem.Spec PyProof.Rows
section
variable {prog : Program} {w : World} {A : Around} {E : Value → Shared → Prop} {s : Shared}
end
section
variable {X : Cx} {pos : Pos}
end
end L2
namespace L3
open PySem PySem.Spec PyProof.Rows L2
section
variable {X : Cx} {O O' : List Fl} {is : List Nat} {gs : List MG} {es : List Expr} {pos : Pos}
end
end L3
namespace L2
open PySem PySem.Spec PyProof.Rows
open Builtin Builtin.Str
section
variable {X : Cx}
end
end L2
namespace L3
open PySem PySem.Spec PyProof.Rows L2
section
variable {X : Cx} {O : List Fl} {m m' : ME} {a b : Expr} {pos p : Pos} {K : PySem.W.Frag} {A B : Hp} {ds es : List PyData} {vs ws : List V} {q q' : Addr}
variable {elts : List Expr} {tpos : Pos}
end
end L3
namespace L2
open PySem PySem.Spec PyProof.Rows PySem.Calls
section
variable {prog : Program} {w : World} {A : Around} {E : Value → Shared → Prop} {s : Shared}
end
end L2
namespace L2
open PySem PySem.Spec PyProof.Rows
section
variable {X : Cx} {pins : List (Addr × Obj)} {σ : St} {H : Hp} {s s' : Shared} {e : Expr} {ta : TA} {p pos : Pos}
end
end L2
namespace L3
open PySem PySem.Spec PyProof.Rows L2
section
variable {X : Cx} {O : List Fl} {m : ME} {e : Expr} {p p2 pos pos2 : Pos}
theorem RpKV.len {K : PySem.W.Frag} {A : Hp} : ∀ {kvs : List (PyData × PyData)} {u : List (Key × V)}, RpKV K A kvs u → kvs.length = u.length
  | [], u, h => by rw [RpKV.nil.mp h]; rfl
  | (k, d) :: r, u, h => by
    obtain ⟨key, v, u', rfl, _, _, h⟩ := RpKV.cons.mp h
    rw [List.length_cons, List.length_cons, RpKV.len h]
end
end L3
namespace L2
open PySem PySem.Spec PyProof.Rows
open AutoSeq1 (wpAny_loadPart')
section
variable {prog : Program} {w : World} {A : Around} {E : Value → Shared → Prop} {s : Shared}
end
end L2
namespace L3
open PySem PySem.Spec PyProof.Rows L2
section
variable {X : Cx}
end
end L3
namespace L3
open PySem PySem.Spec PyProof.Rows L2
theorem len0 {α : Type} {P : List α → Prop} (h : P []) (us : List α) (e : us.length = 0) : P us := by
  rw [List.length_eq_zero_iff.mp e]; exact h
theorem len1 {α : Type} {P : List α → Prop} (h : ∀ a0, P [a0]) (us : List α) (e : us.length = 1) : P us := by
  cases us with
  | nil => cases e
  | cons a r => exact len0 (P := fun r => P (a :: r)) (h a) r (Nat.succ.inj e)
theorem len2 {α : Type} {P : List α → Prop} (h : ∀ a0 a1, P [a0, a1]) (us : List α) (e : us.length = 2) : P us := by
  cases us with
  | nil => cases e
  | cons a r => exact len1 (P := fun r => P (a :: r)) (fun b0 => h a b0) r (Nat.succ.inj e)
theorem len3 {α : Type} {P : List α → Prop} (h : ∀ a0 a1 a2, P [a0, a1, a2]) (us : List α) (e : us.length = 3) : P us := by
  cases us with
  | nil => cases e
  | cons a r => exact len2 (P := fun r => P (a :: r)) (fun b0 b1 => h a b0 b1) r (Nat.succ.inj e)
theorem len4 {α : Type} {P : List α → Prop} (h : ∀ a0 a1 a2 a3, P [a0, a1, a2, a3]) (us : List α) (e : us.length = 4) : P us := by
  cases us with
  | nil => cases e
  | cons a r => exact len3 (P := fun r => P (a :: r)) (fun b0 b1 b2 => h a b0 b1 b2) r (Nat.succ.inj e)
theorem bok1 {x : Str} {st : Stmt} {ps : List Str} (h : ∀ (kV doc pm : Value) (an : Option Addr) (cdv ct : Value) (a0 : Value), bindArgs (PySem.W.fnOf x x (defArgs st) (defBody st) (defScope st) .none kV doc pm an cdv ct) ⟨[a0], []⟩ = pure (ps.zip [a0])) (hp : ps.length = 1) :
    ∀ (kV doc pm : Value) (an : Option Addr) (cdv ct : Value) (us : List Value), us.length = ps.length → bindArgs (PySem.W.fnOf x x (defArgs st) (defBody st) (defScope st) .none kV doc pm an cdv ct) ⟨us, []⟩ = pure (ps.zip us) := fun kV doc pm an cdv ct us hl =>
  len1 (P := fun us => bindArgs (PySem.W.fnOf x x (defArgs st) (defBody st) (defScope st) .none kV doc pm an cdv ct) ⟨us, []⟩ = pure (ps.zip us)) (h kV doc pm an cdv ct) us (hl.trans hp)
theorem bok2 {x : Str} {st : Stmt} {ps : List Str} (h : ∀ (kV doc pm : Value) (an : Option Addr) (cdv ct : Value) (a0 a1 : Value), bindArgs (PySem.W.fnOf x x (defArgs st) (defBody st) (defScope st) .none kV doc pm an cdv ct) ⟨[a0, a1], []⟩ = pure (ps.zip [a0, a1])) (hp : ps.length = 2) :
    ∀ (kV doc pm : Value) (an : Option Addr) (cdv ct : Value) (us : List Value), us.length = ps.length → bindArgs (PySem.W.fnOf x x (defArgs st) (defBody st) (defScope st) .none kV doc pm an cdv ct) ⟨us, []⟩ = pure (ps.zip us) := fun kV doc pm an cdv ct us hl =>
  len2 (P := fun us => bindArgs (PySem.W.fnOf x x (defArgs st) (defBody st) (defScope st) .none kV doc pm an cdv ct) ⟨us, []⟩ = pure (ps.zip us)) (h kV doc pm an cdv ct) us (hl.trans hp)
theorem bok4 {x : Str} {st : Stmt} {ps : List Str} (h : ∀ (kV doc pm : Value) (an : Option Addr) (cdv ct : Value) (a0 a1 a2 a3 : Value), bindArgs (PySem.W.fnOf x x (defArgs st) (defBody st) (defScope st) .none kV doc pm an cdv ct) ⟨[a0, a1, a2, a3], []⟩ = pure (ps.zip [a0, a1, a2, a3])) (hp : ps.length = 4) :
    ∀ (kV doc pm : Value) (an : Option Addr) (cdv ct : Value) (us : List Value), us.length = ps.length → bindArgs (PySem.W.fnOf x x (defArgs st) (defBody st) (defScope st) .none kV doc pm an cdv ct) ⟨us, []⟩ = pure (ps.zip us) := fun kV doc pm an cdv ct us hl =>
  len4 (P := fun us => bindArgs (PySem.W.fnOf x x (defArgs st) (defBody st) (defScope st) .none kV doc pm an cdv ct) ⟨us, []⟩ = pure (ps.zip us)) (h kV doc pm an cdv ct) us (hl.trans hp)
section
variable {X : Cx} {O : List Fl} {m mk : ME} {a st : Expr} {p2 pos : Pos} {te ts : TE}
end
end L3
namespace L3
open PySem PySem.Spec PyProof.Rows L2
section
variable {X : Cx} {pins : List (Addr × Obj)} {σ : L2.St} {H : Hp} {s : Shared} {ea : Addr} {ob : Obj}
end
section
variable {X : Cx} {pins : List (Addr × Obj)} {σ : L2.St} {H : Hp} {s : Shared} {ea : Addr}
end
section
variable {M : Model} {A : Around} {E : Value → Shared → Prop} {K : PySem.W.Frag}
end
section
variable {X : Cx} {pins : List (Addr × Obj)} {σ : L2.St} {H : Hp} {s : Shared}
end
end L3
namespace L3
open PySem PySem.Spec PySem.Calls PyProof.Rows L2 Builtin Builtin.ObjectAttr Builtin.Getset_descriptor
section
variable {prog : Program} {w : World} {A : Around} {E : Value → Shared → Prop} {s : Shared} {K : PySem.W.Frag} {x C : Addr} {ob : Obj}
end
end L3
namespace L3
open PySem PySem.Spec PySem.Calls PyProof.Rows L2 Builtin Builtin.ObjectAttr
section
variable {prog : Program} {w : World} {A : Around} {E : Value → Shared → Prop} {s : Shared} {K : PySem.W.Frag} {x C : Addr} {ob : Obj} {c : Value} {Q : Value → Shared → Prop}
end
section
variable {X : Cx} {C : Addr} {O : List Fl} {K : PySem.W.Frag}
end
section
variable {P : Program} {w : World} {K : PySem.W.Frag} {mg : Str → Option Value} {base : Heap}
end
section
variable {X : Cx} {C : Addr} {O : List Fl} {k : Nat} {fn : Str} {ps : List Str} {f : List PyData → Res PyData}
end
end L3
namespace L3
open PySem PySem.Spec PyProof.Rows L2
section
variable {X : Cx} {k : Nat} {fn : Str} {ps : List Str} {fs : List Fl} {zf : List PyData → Res Str} {O Ol : List Fl} {rm : Rm} {ms : List ME} {pf pc pos px pa : Pos} {e : Expr} {es : List Expr} {C : Addr}
end
section
variable {X : Cx} {O O1 O' Ol : List Fl} {rm : Rm} {C TA : Addr} {st : Stmt} {rest : List Stmt} {m1 mn mx : MS} {z : MZ} {T en yn : Str} {np pos2 px pe pa pos : Pos}
end
end L3
namespace L3
open PySem PySem.Spec PyProof.Rows L2
end L3
namespace L3
open PySem PySem.Spec PyProof.Rows L2
section
variable {X : Cx} {pins : List (Addr × Obj)} {σ : L2.St} {H : Hp} {s : Shared}
end
section
variable {X : Cx} {O O1 Ol : List Fl} {rm : Rm} {C TA : Addr} {st : Stmt} {m1 : MS} {z : MZ} {T yn : Str} {kj} {np pos2 px pe pa pos : Pos}
end
end L3
namespace L3
open PySem PySem.Spec PyProof.Rows L2
section
variable {X : Cx} {pins : List (Addr × Obj)} {σ : L2.St} {H A B : Hp} {s : Shared} {Γ : Ev} {O : List Fl}
end
section
variable {X : Cx} {k : Nat} {fn : Str} {ps : List Str} {fs : List Fl} {cl : Str → Addr} {zf : List PyData → Res Str} {O Ol : List Fl} {rm : Rm} {ms : List ME} {pf pc pos px pa : Pos} {e tg : Expr} {es : List Expr} {XE : Str → Hp → Prop} {body : List Stmt}
end
section
variable {X : Cx} {rm : Rm} {O : List Fl} {is : List Nat} {g : MG} {it : MI} {cl : List Nat} {mb : MS} {zb : MZ} {tg iter : Expr} {body : List Stmt} {pos : Pos} {XE : Str → Hp → Prop}
end
end L3
namespace L3
open PySem PySem.Spec PyProof.Rows L2
section
variable {X : Cx} {O : List Fl} {m : ME} {e : Expr} {p p2 pos pos2 : Pos}
theorem boot_len : bootBuiltins "len" = some (.builtin "len") := by decide +kernel
end
end L3
namespace L2
open PySem
theorem nodup_leC {α : Type} [DecidableEq α] : ∀ {l r : List α}, l.Nodup → (∀ x ∈ l, x ∈ r) → l.length ≤ r.length
  | [], _, _, _ => Nat.zero_le _
  | a :: l, r, hn, hs => by
    obtain ⟨h1, h2⟩ := List.nodup_cons.mp hn
    have ha := hs a List.mem_cons_self
    have := nodup_leC (r := r.erase a) h2 fun x hx => by
      have hne : x ≠ a := fun e => h1 (e ▸ hx)
      exact (List.mem_erase_of_ne hne).mpr (hs x (List.mem_cons_of_mem _ hx))
    rw [List.length_erase_of_mem ha] at this
    have : 0 < r.length := List.length_pos_of_mem ha
    rw [List.length_cons]; omega
theorem all_there {l : List Nat} {M j : Nat} (hn : l.Nodup) (hb : ∀ x ∈ l, x < M) (hl : M ≤ l.length) (hj : j < M) : j ∈ l := by
  by_cases h : j ∈ l
  · exact h
  · have := nodup_leC (l := j :: l) (r := List.range M) (List.nodup_cons.mpr ⟨h, hn⟩) fun x hx => by
      rcases List.mem_cons.mp hx with rfl | hx
      · exact List.mem_range.mpr hj
      · exact List.mem_range.mpr (hb x hx)
    rw [List.length_cons, List.length_range] at this
    omega
noncomputable def sum5 : Nat → Nat
  | 0 => 0
  | n + 1 => 5 * sum5 n + 1
theorem pow5 : ∀ n, 5 ^ n = 4 * sum5 n + 1
  | 0 => rfl
  | n + 1 => by rw [Nat.pow_succ, pow5 n]; show _ = 4 * (5 * sum5 n + 1) + 1; omega
theorem sum5_add (a : Nat) : ∀ b, sum5 (a + b) = 5 ^ b * sum5 a + sum5 b
  | 0 => by show sum5 a = 1 * sum5 a + 0; omega
  | b + 1 => by
    show 5 * sum5 (a + b) + 1 = _
    rw [sum5_add a b, Nat.pow_succ]
    show _ = _ + (5 * sum5 b + 1)
    rw [Nat.mul_add, ← Nat.mul_assoc, Nat.mul_comm 5 (5 ^ b)]
    omega
theorem sum5_two (m : Nat) : sum5 (m + m) = 2 * (sum5 m * (2 * sum5 m + 1)) := by
  rw [sum5_add, pow5]
  rw [Nat.add_mul, Nat.mul_add, Nat.mul_add, Nat.mul_left_comm (sum5 m) 2, Nat.mul_assoc]
  omega
theorem sum5_odd (m : Nat) : sum5 (m + m + 1) % 2 = 1 := by
  show (5 * sum5 (m + m) + 1) % 2 = 1
  rw [sum5_two]; omega
theorem cop_odd (k x : Nat) : Nat.Coprime (2 ^ k) (2 * x + 1) := by
  refine Nat.Coprime.pow_left k ?_
  show Nat.gcd 2 (2 * x + 1) = 1
  rw [Nat.gcd_rec]
  have : (2 * x + 1) % 2 = 1 := by omega
  rw [this]; rfl
theorem sum5_dvd : ∀ (k d : Nat), 2 ^ k ∣ sum5 d → 2 ^ k ∣ d
  | 0, d, _ => Nat.one_dvd d
  | k + 1, d, h => by
    have h2 : 2 ∣ sum5 d := Nat.dvd_trans ⟨2 ^ k, by rw [Nat.pow_succ, Nat.mul_comm]⟩ h
    rcases Nat.mod_two_eq_zero_or_one d with e | e
    · obtain ⟨m, rfl⟩ : ∃ m, d = m + m := ⟨d / 2, by omega⟩
      rw [sum5_two, Nat.pow_succ, Nat.mul_comm (2 ^ k) 2] at h
      have h3 := Nat.dvd_of_mul_dvd_mul_left (by decide) h
      have h4 := sum5_dvd k m (Nat.Coprime.dvd_of_dvd_mul_right (cop_odd k (sum5 m)) h3)
      obtain ⟨c, hc⟩ := h4
      exact ⟨c, by rw [Nat.pow_succ, Nat.mul_right_comm, ← hc]; omega⟩
    · obtain ⟨m, rfl⟩ : ∃ m, d = m + m + 1 := ⟨d / 2, by omega⟩
      have := sum5_odd m
      omega
noncomputable def w5 (M : Nat) : Nat → Nat → Nat
  | 0, x => x
  | n + 1, x => (5 * w5 M n x + 1) % M
theorem w5_eq (M x : Nat) (hx : x < M) : ∀ n, w5 M n x = (5 ^ n * x + sum5 n) % M
  | 0 => by show x = (1 * x + 0) % M; rw [Nat.one_mul, Nat.add_zero, Nat.mod_eq_of_lt hx]
  | n + 1 => by
    show (5 * w5 M n x + 1) % M = (5 ^ (n + 1) * x + (5 * sum5 n + 1)) % M
    rw [w5_eq M x hx n, Nat.add_mod, Nat.mul_mod, Nat.mod_mod, ← Nat.mul_mod, ← Nat.add_mod]
    congr 1
    rw [Nat.pow_succ, Nat.mul_add, ← Nat.mul_assoc, Nat.mul_comm 5 (5 ^ n)]
    omega
theorem w5_lt {M x : Nat} (hx : x < M) : ∀ n, w5 M n x < M
  | 0 => hx
  | n + 1 => Nat.mod_lt _ (by omega)
theorem w5_inj {k x a d : Nat} (hx : x < 2 ^ k) (hd : 0 < d) (hd2 : d < 2 ^ k) : w5 (2 ^ k) a x ≠ w5 (2 ^ k) (a + d) x := fun e => by
  rw [w5_eq _ _ hx, w5_eq _ _ hx] at e
  have e5 : 5 ^ (a + d) * x + sum5 (a + d) = (5 ^ a * x + sum5 a) + 5 ^ a * (sum5 d * (2 * (2 * x) + 1)) := by
    rw [Nat.add_comm a d, sum5_add d a, Nat.pow_add, pow5 d]
    generalize 5 ^ a = p
    generalize sum5 d = s
    rw [Nat.mul_add s, Nat.add_mul, Nat.add_mul, Nat.mul_one, Nat.mul_add p, Nat.one_mul]
    have : p * (s * (2 * (2 * x))) = 4 * s * p * x := by
      rw [show 2 * (2 * x) = 4 * x by omega]
      rw [Nat.mul_left_comm s 4 x, Nat.mul_left_comm p 4, ← Nat.mul_assoc p s x, Nat.mul_comm p s, Nat.mul_assoc 4 s p, Nat.mul_assoc 4 (s * p) x]
    rw [this]
    omega
  rw [e5] at e
  have hdv : 2 ^ k ∣ 5 ^ a * (sum5 d * (2 * (2 * x) + 1)) := by
    refine (Nat.dvd_iff_mod_eq_zero).mpr ?_
    have := Nat.sub_mod_eq_zero_of_mod_eq e.symm
    rwa [Nat.add_sub_cancel_left] at this
  have c5 : Nat.Coprime (2 ^ k) (5 ^ a) := by
    have := cop_odd k (2 * sum5 a)
    rwa [show 2 * (2 * sum5 a) + 1 = 5 ^ a by rw [pow5]; omega] at this
  have h1 := Nat.Coprime.dvd_of_dvd_mul_left c5 hdv
  have h2 := Nat.Coprime.dvd_of_dvd_mul_right (cop_odd k (2 * x)) h1
  have h3 := sum5_dvd k d h2
  have := Nat.le_of_dvd hd h3
  omega
theorem w5_all {k x j : Nat} (hx : x < 2 ^ k) (hj : j < 2 ^ k) : ∃ n, n < 2 ^ k ∧ w5 (2 ^ k) n x = j := by
  have hn : ((List.range (2 ^ k)).map fun n => w5 (2 ^ k) n x).Nodup := by
    refine List.pairwise_map.mpr ?_
    refine List.Pairwise.imp_of_mem ?_ List.pairwise_lt_range
    intro a b ha hb hlt
    have hb := List.mem_range.mp hb
    have := w5_inj (a := a) (d := b - a) hx (by omega) (by omega)
    rwa [show a + (b - a) = b by omega] at this
  have := all_there (j := j) hn (fun y hy => by obtain ⟨n, _, rfl⟩ := List.mem_map.mp hy; exact w5_lt hx n) (by rw [List.length_map, List.length_range]; exact Nat.le_refl _) hj
  obtain ⟨n, h1, h2⟩ := List.mem_map.mp this
  exact ⟨n, List.mem_range.mp h1, h2⟩
noncomputable def lpN (mask : Nat) : Nat → Nat × Nat → Nat × Nat
  | 0, q => q
  | n + 1, q => SetTable.leap mask (lpN mask n q).1 (lpN mask n q).2
theorem lpN_two (mask : Nat) (q : Nat × Nat) : ∀ n, (lpN mask n q).2 = q.2 / 32 ^ n
  | 0 => by show q.2 = q.2 / 1; rw [Nat.div_one]
  | n + 1 => by
    show (lpN mask n q).2 / 32 = _
    rw [lpN_two mask q n, Nat.div_div_eq_div_mul, Nat.pow_succ]
theorem lpN_far {mask : Nat} {q : Nat × Nat} (hp : q.2 < 2 ^ 64) : ∀ n, (lpN mask (13 + n) q).1 = w5 (mask + 1) n (lpN mask 13 q).1
  | 0 => rfl
  | n + 1 => by
    show ((lpN mask (13 + n) q).1 * 5 + 1 + (lpN mask (13 + n) q).2 / 32) % (mask + 1) = (5 * w5 (mask + 1) n (lpN mask 13 q).1 + 1) % (mask + 1)
    have e0 : (lpN mask (13 + n) q).2 = 0 := by
      rw [lpN_two]
      refine Nat.div_eq_of_lt (Nat.lt_of_lt_of_le hp ?_)
      rw [Nat.pow_add]
      have : 0 < 32 ^ n := Nat.pow_pos (by decide)
      calc 2 ^ 64 ≤ 32 ^ 13 * 1 := by decide
        _ ≤ 32 ^ 13 * 32 ^ n := Nat.mul_le_mul_left _ this
    rw [lpN_far hp n, e0]
    congr 1
    omega
theorem leap_all {mask k j : Nat} {q : Nat × Nat} (hM : mask + 1 = 2 ^ k) (hp : q.2 < 2 ^ 64) (hj : j ≤ mask) : ∃ R, 1 ≤ R ∧ R ≤ 13 + mask ∧ (lpN mask R q).1 = j := by
  have hx : (lpN mask 13 q).1 < mask + 1 := Nat.mod_lt _ (Nat.succ_pos _)
  obtain ⟨n, h1, h2⟩ := w5_all (k := k) (x := (lpN mask 13 q).1) (j := j) (by rw [← hM]; exact hx) (by rw [← hM]; omega)
  rw [← hM] at h1 h2
  exact ⟨13 + n, by omega, by omega, by rw [lpN_far hp]; exact h2⟩
noncomputable def advN (t : SetTable) : Nat → SetTable.Probe → SetTable.Probe
  | 0, p => p
  | n + 1, p => advN t n (t.advance p)
theorem advN_add (t : SetTable) : ∀ (a b : Nat) (p : SetTable.Probe), advN t (a + b) p = advN t b (advN t a p)
  | 0, b, p => by rw [Nat.zero_add]; rfl
  | a + 1, b, p => by rw [show a + 1 + b = (a + b) + 1 by omega]; exact advN_add t a b (t.advance p)
theorem runEnd_sub (mask i : Nat) : SetTable.runEnd mask i - i ≤ 9 := by
  unfold SetTable.runEnd; split <;> omega
theorem adv_leap {t : SetTable} : ∀ (m : Nat) (p : SetTable.Probe), p.more = m → advN t (m + 1) p = { j := (SetTable.leap t.mask p.i p.perturb).1, more := SetTable.runEnd t.mask (SetTable.leap t.mask p.i p.perturb).1 - (SetTable.leap t.mask p.i p.perturb).1, i := (SetTable.leap t.mask p.i p.perturb).1, perturb := (SetTable.leap t.mask p.i p.perturb).2, dummy := p.dummy }
  | 0, p, h => by
    show t.advance p = _
    unfold SetTable.advance
    rw [if_neg (by omega)]
  | m + 1, p, h => by
    show advN t (m + 1) (t.advance p) = _
    have e : t.advance p = { p with j := p.j + 1, more := p.more - 1 } := by
      unfold SetTable.advance
      rw [if_pos (by omega)]
    rw [e, adv_leap m _ (by show p.more - 1 = m; omega)]
theorem adv_runs {t : SetTable} {p : SetTable.Probe} (hm : p.more ≤ 9) : ∀ R, ∃ n, n ≤ 10 * R ∧ (advN t n p).more ≤ 9 ∧ ((advN t n p).i, (advN t n p).perturb) = lpN t.mask R (p.i, p.perturb) ∧ (1 ≤ R → (advN t n p).j = (advN t n p).i)
  | 0 => ⟨0, Nat.le_refl _, hm, rfl, fun h => by omega⟩
  | R + 1 => by
    obtain ⟨n, h1, h2, h3, _⟩ := adv_runs (t := t) hm R
    have e := adv_leap (t := t) (advN t n p).more (advN t n p) rfl
    rw [← advN_add] at e
    refine ⟨n + ((advN t n p).more + 1), by omega, ?_, ?_, fun _ => ?_⟩
    · rw [e]; exact runEnd_sub _ _
    · rw [e]
      show ((SetTable.leap t.mask (advN t n p).i (advN t n p).perturb).1, (SetTable.leap t.mask (advN t n p).i (advN t n p).perturb).2) = SetTable.leap t.mask (lpN t.mask R (p.i, p.perturb)).1 (lpN t.mask R (p.i, p.perturb)).2
      rw [← h3]
    · rw [e]
theorem adv_more {t : SetTable} {p : SetTable.Probe} (h : p.more ≤ 9) : (t.advance p).more ≤ 9 := by
  unfold SetTable.advance
  split
  · show p.more - 1 ≤ 9; omega
  · exact runEnd_sub _ _
theorem adv_pert {t : SetTable} {p : SetTable.Probe} (h : p.perturb < 2 ^ 64) : (t.advance p).perturb < 2 ^ 64 := by
  unfold SetTable.advance
  split
  · exact h
  · exact Nat.lt_of_le_of_lt (Nat.div_le_self _ _) h
theorem adv_dummy {t : SetTable} {p : SetTable.Probe} : (t.advance p).dummy = p.dummy := by
  unfold SetTable.advance; split <;> rfl
structure PrOk (t : SetTable) (p : SetTable.Probe) : Prop where
  more : p.more ≤ 9
  pert : p.perturb < 2 ^ 64
  dum : p.dummy = none
theorem PrOk.adv {t : SetTable} {p : SetTable.Probe} (h : PrOk t p) : PrOk t (t.advance p) := ⟨adv_more h.more, adv_pert h.pert, adv_dummy.trans h.dum⟩
theorem PrOk.advN {t : SetTable} : ∀ {n : Nat} {p : SetTable.Probe}, PrOk t p → PrOk t (L2.advN t n p)
  | 0, _, h => h
  | n + 1, _, h => PrOk.advN (n := n) h.adv
theorem PrOk.start {t : SetTable} {h : Int} : PrOk t (t.probeStart h) := by
  refine ⟨runEnd_sub _ _, ?_, rfl⟩
  show SetTable.bits h < 2 ^ 64
  unfold SetTable.bits
  have := Int.emod_lt_of_pos h (show (0 : Int) < 2 ^ 64 by decide)
  have := Int.emod_nonneg h (show ((2 : Int) ^ 64) ≠ 0 by decide)
  omega
structure TbOk (t : SetTable) : Prop where
  pw : ∃ k, t.mask + 1 = 2 ^ k ∧ k ≤ 12
  odd : t.mask % 2 = 1
  nd : t.dummies = #[]
  room : t.place.size ≤ t.mask
theorem TbOk.no_dummy {t : SetTable} (h : TbOk t) (j : Nat) : t.slot j ≠ .dummy := by
  unfold SetTable.slot SetTable.has
  dsimp only
  rw [h.nd]
  split
  · intro q; cases q
  · simp
theorem slot_live {t : SetTable} {j i : Nat} (h : t.slot j = .live i) : t.place[i]? = some j := by
  unfold SetTable.slot at h
  dsimp only at h
  split at h
  · rename_i q
    cases h
    exact eq_of_beq q
  · split at h <;> cases h
theorem TbOk.empty {t : SetTable} (h : TbOk t) : ∃ j, j ≤ t.mask ∧ t.slot j = .empty := by
  have : ∃ j, j ≤ t.mask ∧ j ∉ t.place.toList := by
    by_cases q : ∃ j, j ≤ t.mask ∧ j ∉ t.place.toList
    · exact q
    · have := nodup_leC (l := List.range (t.mask + 1)) (r := t.place.toList) List.nodup_range fun x hx => by
        have hx := List.mem_range.mp hx
        by_cases y : x ∈ t.place.toList
        · exact y
        · exact absurd ⟨x, by omega, y⟩ q
      rw [List.length_range, Array.length_toList] at this
      have := h.room
      omega
  obtain ⟨j, h1, h2⟩ := this
  refine ⟨j, h1, ?_⟩
  cases hs : t.slot j with
  | empty => rfl
  | dummy => exact absurd hs (h.no_dummy j)
  | live i =>
    have := slot_live hs
    rw [← Array.getElem?_toList] at this
    exact absurd (List.mem_of_getElem? this) h2
theorem TbOk.meets {t : SetTable} (h : TbOk t) {p : SetTable.Probe} (hp : PrOk t p) : ∃ n, n < 10 * SetTable.turns t.mask ∧ t.slot (L2.advN t n p).j = .empty := by
  obtain ⟨k, hk, _⟩ := h.pw
  obtain ⟨j, h1, h2⟩ := h.empty
  obtain ⟨R, r1, r2, r3⟩ := leap_all (q := (p.i, p.perturb)) hk hp.pert h1
  obtain ⟨n, n1, n2, n3, n4⟩ := adv_runs (t := t) hp.more R
  refine ⟨n, by unfold SetTable.turns; omega, ?_⟩
  rw [n4 r1, show (L2.advN t n p).i = (lpN t.mask R (p.i, p.perturb)).1 from by rw [← n3], r3]
  exact h2
theorem go_none {t : SetTable} (hd : ∀ j, t.slot j ≠ .dummy) {at_ : Nat → Int} {h : Int} : ∀ (fuel : Nat) (p : SetTable.Probe), SetTable.probe.go t at_ h fuel p = none → ∀ n, n < fuel → t.slot (advN t n p).j ≠ .empty
  | 0, p, _, n, hn => by omega
  | fuel + 1, p, e, n, hn => by
    unfold SetTable.probe.go at e
    cases hs : t.slot p.j with
    | empty => rw [hs] at e; cases e
    | dummy => exact absurd hs (hd _)
    | live i =>
      rw [hs] at e
      dsimp only at e
      split at e
      · cases e
      · cases n with
        | zero => show t.slot p.j ≠ _; rw [hs]; intro q; cases q
        | succ n => exact go_none hd fuel (t.advance p) e n (by omega)
theorem go_empty {t : SetTable} (hd : ∀ j, t.slot j ≠ .dummy) {at_ : Nat → Int} {h : Int} {j : Nat} {dm : Option Nat} : ∀ (fuel : Nat) (p : SetTable.Probe), SetTable.probe.go t at_ h fuel p = some (.empty j dm) → t.slot j = .empty ∧ dm = p.dummy
  | 0, p, e => by unfold SetTable.probe.go at e; cases e
  | fuel + 1, p, e => by
    unfold SetTable.probe.go at e
    cases hs : t.slot p.j with
    | empty =>
      rw [hs] at e
      simp only [Option.some.injEq, SetTable.Met.empty.injEq] at e
      obtain ⟨rfl, rfl⟩ := e
      exact ⟨hs, rfl⟩
    | dummy => exact absurd hs (hd _)
    | live i =>
      rw [hs] at e
      dsimp only at e
      split at e
      · cases e
      · have := go_empty hd fuel (t.advance p) e
        exact ⟨this.1, this.2.trans adv_dummy⟩
theorem go_cand {t : SetTable} (hd : ∀ j, t.slot j ≠ .dummy) {at_ : Nat → Int} {h : Int} {j i : Nat} {nx : SetTable.Probe} : ∀ (fuel : Nat) (p : SetTable.Probe), SetTable.probe.go t at_ h fuel p = some (.candidate j i nx) →
    t.slot j = .live i ∧ ∃ m, nx = advN t (m + 1) p ∧ ∀ n, n ≤ m → t.slot (advN t n p).j ≠ .empty
  | 0, p, e => by unfold SetTable.probe.go at e; cases e
  | fuel + 1, p, e => by
    unfold SetTable.probe.go at e
    cases hs : t.slot p.j with
    | empty => rw [hs] at e; cases e
    | dummy => exact absurd hs (hd _)
    | live i' =>
      have h0 : t.slot p.j ≠ .empty := by rw [hs]; intro q; cases q
      rw [hs] at e
      dsimp only at e
      split at e
      · simp only [Option.some.injEq, SetTable.Met.candidate.injEq] at e
        obtain ⟨rfl, rfl, rfl⟩ := e
        exact ⟨hs, 0, rfl, fun n hn => by rw [show n = 0 by omega]; exact h0⟩
      · obtain ⟨h1, m, h2, h3⟩ := go_cand hd fuel (t.advance p) e
        refine ⟨h1, m + 1, h2, fun n hn => ?_⟩
        cases n with
        | zero => exact h0
        | succ n => exact h3 n (by omega)
end L2
namespace L2
open PySem
theorem lpN_shift (mask : Nat) (q : Nat × Nat) : ∀ R, lpN mask (R + 1) q = lpN mask R (SetTable.leap mask q.1 q.2)
  | 0 => rfl
  | R + 1 => by
    show SetTable.leap mask (lpN mask (R + 1) q).1 (lpN mask (R + 1) q).2 = _
    rw [lpN_shift mask q R]; rfl
theorem free_none {mask : Nat} {owner : Array (Option Nat)} : ∀ (fuel i p : Nat), SetTable.layClean.free mask owner fuel i p = none → ∀ R, R < fuel → owner.getD (lpN mask R (i, p)).1 (some 0) ≠ none
  | 0, i, p, _, R, h => by omega
  | fuel + 1, i, p, e, R, h => by
    unfold SetTable.layClean.free at e
    split at e
    · cases e
    · rename_i hf
      cases R with
      | zero =>
        have := List.find?_eq_none.mp hf 0 (List.mem_range.mpr (by unfold SetTable.runEnd; split <;> omega))
        intro q
        rw [Nat.add_zero] at this
        rw [show (lpN mask 0 (i, p)).1 = i from rfl] at q
        rw [q] at this
        exact this rfl
      | succ R =>
        rw [lpN_shift]
        exact free_none fuel _ _ e R (by omega)
theorem free_some {mask : Nat} {owner : Array (Option Nat)} {j : Nat} : ∀ (fuel i p : Nat), SetTable.layClean.free mask owner fuel i p = some j → owner.getD j (some 0) = none
  | 0, i, p, e => by cases e
  | fuel + 1, i, p, e => by
    unfold SetTable.layClean.free at e
    split at e
    · rename_i k hf
      cases e
      have := List.find?_some hf
      simpa using this
    · exact free_some fuel _ _ e
structure LayOk (owner : Array (Option Nat)) (k M : Nat) : Prop where
  size : owner.size = M
  has : ∀ v : Nat, v < k ↔ ∃ j : Nat, owner[j]? = some (some v)
  one : ∀ j j' v : Nat, owner[j]? = some (some v) → owner[j']? = some (some v) → j = j'
theorem LayOk.gap {owner : Array (Option Nat)} {k M : Nat} (h : LayOk owner k M) (hk : k < M) : ∃ j : Nat, j < M ∧ owner[j]? = some none := by
  by_cases q : ∃ j : Nat, j < M ∧ owner[j]? = some none
  · exact q
  · have all : ∀ j, j < M → ∃ v, owner[j]? = some (some v) := fun j hj => by
      have hj' : j < owner.size := by rw [h.size]; exact hj
      have e : owner[j]? = some owner[j] := Array.getElem?_eq_getElem hj'
      cases ho : owner[j] with
      | none => exact absurd ⟨j, hj, by rw [e, ho]⟩ q
      | some v => exact ⟨v, by rw [e, ho]⟩
    let f : Nat → Nat := fun j => ((owner[j]?).getD none).getD 0
    have hf : ∀ j, j < M → owner[j]? = some (some (f j)) := fun j hj => by
      obtain ⟨v, e⟩ := all j hj
      show _ = some (some (((owner[j]?).getD none).getD 0))
      rw [e]; rfl
    have := nodup_leC (l := (List.range M).map f) (r := List.range k) (by
      refine List.pairwise_map.mpr (List.Pairwise.imp_of_mem ?_ List.pairwise_lt_range)
      intro a b ha hb hlt e
      have ha := hf a (List.mem_range.mp ha)
      have hb := hf b (List.mem_range.mp hb)
      rw [← e] at hb
      have := h.one _ _ _ ha hb
      omega) fun x hx => by
        obtain ⟨j, hj, rfl⟩ := List.mem_map.mp hx
        exact List.mem_range.mpr ((h.has _).mpr ⟨j, hf j (List.mem_range.mp hj)⟩)
    rw [List.length_map, List.length_range, List.length_range] at this
    omega
theorem LayOk.put {owner : Array (Option Nat)} {k M j : Nat} (h : LayOk owner k M) (hj : owner[j]? = some none) : LayOk (owner.setIfInBounds j (some k)) (k + 1) M := by
  have hlt : j < owner.size := (Array.getElem?_eq_some_iff.mp hj).1
  have at_ : ∀ i, (owner.setIfInBounds j (some k))[i]? = if j = i then some (some k) else owner[i]? := fun i => by
    rw [Array.getElem?_setIfInBounds]
    split
    · first | rfl | (rw [if_pos (by omega)])
    · rfl
  refine ⟨by rw [Array.size_setIfInBounds]; exact h.size, fun v => ⟨fun hv => ?_, fun hv => ?_⟩, fun a b v ha hb => ?_⟩
  · by_cases e : v = k
    · subst e
      exact ⟨j, by rw [at_, if_pos rfl]⟩
    · obtain ⟨i, hi⟩ := (h.has v).mp (by omega)
      refine ⟨i, ?_⟩
      rw [at_, if_neg (fun z => by rw [← z, hj] at hi; cases hi)]
      exact hi
  · obtain ⟨i, hi⟩ := hv
    rw [at_] at hi
    split at hi
    · cases hi; omega
    · have := (h.has v).mpr ⟨i, hi⟩; omega
  · rw [at_] at ha hb
    split at ha
    · rename_i e1
      split at hb
      · rename_i e2; omega
      · cases ha
        have := (h.has k).mpr ⟨b, hb⟩; omega
    · split at hb
      · cases hb
        have := (h.has k).mpr ⟨a, ha⟩; omega
      · exact h.one _ _ _ ha hb
theorem bits_lt (h : Int) : SetTable.bits h < 2 ^ 64 := by
  unfold SetTable.bits
  have := Int.emod_lt_of_pos h (show (0 : Int) < 2 ^ 64 by decide)
  have := Int.emod_nonneg h (show ((2 : Int) ^ 64) ≠ 0 by decide)
  omega
theorem layC_fold {mask p2 : Nat} (hM : mask + 1 = 2 ^ p2) : ∀ (hs : List Int) (owner : Array (Option Nat)) (k : Nat), LayOk owner k (mask + 1) → k + hs.length ≤ mask + 1 →
    ∃ ow, hs.foldl (fun acc h => do
      let (owner, k) ← acc
      let j ← SetTable.layClean.free mask owner (SetTable.turns mask) (SetTable.bits h % (mask + 1)) (SetTable.bits h)
      pure (owner.setIfInBounds j (some k), k + 1)) (some (owner, k)) = some (ow, k + hs.length) ∧ LayOk ow (k + hs.length) (mask + 1)
  | [], owner, k, h, _ => ⟨owner, rfl, h⟩
  | x :: hs, owner, k, h, hl => by
    rw [List.length_cons] at hl
    obtain ⟨j, hj, ej⟩ := h.gap (by omega)
    cases hf : SetTable.layClean.free mask owner (SetTable.turns mask) (SetTable.bits x % (mask + 1)) (SetTable.bits x) with
    | none =>
      obtain ⟨R, r1, r2, r3⟩ := leap_all (q := (SetTable.bits x % (mask + 1), SetTable.bits x)) hM (bits_lt x) (j := j) (by omega)
      have := free_none _ _ _ hf R (by unfold SetTable.turns; omega)
      rw [r3, Array.getD_eq_getD_getElem?, ej] at this
      exact absurd rfl this
    | some i =>
      have hi := free_some _ _ _ hf
      have ei : owner[i]? = some none := by
        rw [Array.getD_eq_getD_getElem?] at hi
        cases e : owner[i]? with
        | none => rw [e] at hi; cases hi
        | some v => rw [e] at hi; rw [show v = none from hi]
      obtain ⟨ow, e1, e2⟩ := layC_fold hM hs _ _ (h.put ei) (by omega)
      refine ⟨ow, ?_, by rw [List.length_cons, show k + (hs.length + 1) = k + 1 + hs.length by omega]; exact e2⟩
      rw [List.foldl_cons, List.length_cons, show k + (hs.length + 1) = k + 1 + hs.length by omega, ← e1]
      congr 1
      show (SetTable.layClean.free mask owner (SetTable.turns mask) (SetTable.bits x % (mask + 1)) (SetTable.bits x) >>= fun j => pure (owner.setIfInBounds j (some k), k + 1)) = _
      rw [hf]; rfl
theorem lay_clean {mask p2 : Nat} (hM : mask + 1 = 2 ^ p2) {hs : Array Int} (hl : hs.size ≤ mask + 1) : ∃ ow, SetTable.layClean mask hs = some ow ∧ LayOk ow hs.size (mask + 1) := by
  have h0 : LayOk (Array.replicate (mask + 1) none) 0 (mask + 1) := ⟨Array.size_replicate, fun v => ⟨fun h => by omega, fun hq__ => by
    obtain ⟨j, h⟩ := hq__
    rw [Array.getElem?_replicate] at h
    split at h <;> cases h⟩, fun j j' v h _ => by
    rw [Array.getElem?_replicate] at h
    split at h <;> cases h⟩
  obtain ⟨ow, e1, e2⟩ := layC_fold hM hs.toList _ 0 h0 (by rw [Array.length_toList]; omega)
  rw [Nat.zero_add, Array.length_toList] at e1 e2
  refine ⟨ow, ?_, e2⟩
  unfold SetTable.layClean
  rw [← Array.foldl_toList, e1]
  rfl
theorem perm_of_mem : ∀ {l r : List Nat}, l.Nodup → r.Nodup → (∀ x, x ∈ l ↔ x ∈ r) → l.Perm r
  | [], r, _, _, h => by
    cases r with
    | nil => exact .refl _
    | cons a r => exact absurd ((h a).mpr List.mem_cons_self) (by simp)
  | a :: l, r, hl, hr, h => by
    obtain ⟨h1, h2⟩ := List.nodup_cons.mp hl
    have ha := (h a).mp List.mem_cons_self
    have p := List.perm_cons_erase ha
    refine (List.Perm.cons a ?_).trans p.symm
    refine perm_of_mem h2 (hr.erase a) fun x => ?_
    constructor
    · intro hx
      have hne : x ≠ a := fun e => h1 (e ▸ hx)
      exact (List.mem_erase_of_ne hne).mpr ((h x).mp (List.mem_cons_of_mem _ hx))
    · intro hx
      have hx' := (h x).mpr (List.mem_of_mem_erase hx)
      rcases List.mem_cons.mp hx' with e | hx'
      · subst e
        exact absurd hx (List.Nodup.not_mem_erase hr)
      · exact hx'
theorem range_all {α : Type} : ∀ l : List α, (List.range l.length).filterMap (fun i => l[i]?) = l
  | [] => rfl
  | a :: l => by
    rw [List.length_cons, List.range_succ_eq_map, List.filterMap_cons]
    show a :: _ = _
    congr 1
    rw [List.filterMap_map]
    exact range_all l
structure LaidOk (mask : Nat) (led : Bool) (n : Nat) (t : SetTable) (o : Array Nat) : Prop where
  mask : t.mask = mask
  nd : t.dummies = #[]
  size : t.place.size = n
  ord : o.toList.Perm (List.range n)
theorem laid_all {mask p2 finger moves : Nat} {led plain : Bool} (hM : mask + 1 = 2 ^ p2) {hs : Array Int} (hl : hs.size ≤ mask + 1) :
    ∃ t o, SetTable.laid mask finger moves led plain hs = some (t, o) ∧ LaidOk mask led hs.size t o ∧ TabOk led t := by
  obtain ⟨ow, e1, e2⟩ := lay_clean hM hl
  have e : SetTable.laid mask finger moves led plain hs = some (({ mask, place := (((List.range (mask + 1)).filterMap fun j => (ow.getD j none).map (j, ·)).map (·.1)).toArray, dummies := #[], finger, led, moves, plain } : SetTable), (((List.range (mask + 1)).filterMap fun j => (ow.getD j none).map (j, ·)).map (·.2)).toArray) := by
    unfold SetTable.laid
    rw [e1]; rfl
  have gd_ : ∀ j v, ow.getD j none = some v → ow[j]? = some (some v) := fun j v h => by
    rw [Array.getD_eq_getD_getElem?] at h
    cases q : ow[j]? with
    | none => rw [q] at h; cases h
    | some w => rw [q] at h; rw [show w = some v from h]
  have pm : ((((List.range (mask + 1)).filterMap fun j => (ow.getD j none).map (j, ·)).map (·.2))).Perm (List.range hs.size) := by
    refine perm_of_mem ?_ List.nodup_range fun v => ?_
    · refine List.pairwise_map.mpr (List.Pairwise.filterMap _ (fun a a' hlt b hb b' hb' => ?_) List.pairwise_lt_range)
      cases h1 : ow.getD a none with
      | none => rw [h1] at hb; cases hb
      | some x =>
        cases h2 : ow.getD a' none with
        | none => rw [h2] at hb'; cases hb'
        | some y =>
          rw [h1] at hb; rw [h2] at hb'
          simp only [Option.map_some, Option.some.injEq] at hb hb'
          subst hb; subst hb'
          intro (q : x = y)
          subst q
          have := e2.one _ _ _ (gd_ _ _ h1) (gd_ _ _ h2)
          omega
    · rw [List.mem_range, e2.has]
      constructor
      · intro h
        obtain ⟨⟨j, w⟩, h1, rfl⟩ := List.mem_map.mp h
        obtain ⟨j', _, h2⟩ := List.mem_filterMap.mp h1
        obtain ⟨w', h3, h4⟩ := Option.map_eq_some_iff.mp h2
        cases h4
        exact ⟨j, gd_ _ _ h3⟩
      · rintro ⟨j, hj⟩
        have hlt := (Array.getElem?_eq_some_iff.mp hj).1
        rw [e2.size] at hlt
        refine List.mem_map.mpr ⟨(j, v), List.mem_filterMap.mpr ⟨j, List.mem_range.mpr hlt, ?_⟩, rfl⟩
        rw [Array.getD_eq_getD_getElem?, hj]; rfl
  refine ⟨_, _, e, ⟨rfl, rfl, ?_, pm⟩, laid_ok e⟩
  have := pm.length_eq
  rw [List.length_range, List.length_map] at this
  show (List.toArray _).size = _
  rw [List.size_toArray, List.length_map]
  exact this
theorem ord_perm {α : Type} {es : Array α} {o : Array Nat} (h : o.toList.Perm (List.range es.size)) : (o.filterMap (es[·]?)).toList.Perm es.toList := by
  rw [Array.toList_filterMap]
  refine (h.filterMap _).trans ?_
  have := range_all es.toList
  rw [Array.length_toList] at this
  simp only [Array.getElem?_toList] at this
  rw [this]
end L2
namespace PySem
open Sem (wp)
section
variable {prog : Program} {w : World} {A : Around} {E : Value → Shared → Prop} {s : Shared}
theorem int_items_byValue {ks : List Int} {vs : List Value} (h : ItemsAre (intKind prog w) ks vs) : ∀ v ∈ vs, ∃ k t, v = Value.int k t := by
  induction h with
  | nil => intro v hv; cases hv
  | cons h1 _ ih =>
    intro v hv
    rcases List.mem_cons.mp hv with rfl | hv
    · obtain ⟨t, e⟩ := Value.isInt_shape h1
      exact ⟨_, t, e⟩
    · exact ih v hv
theorem wpAny_hbv_tuple (m : Nat) {ks : List Int} {a : Addr} {Q : Bool → Shared → Prop} (hk : IsTupleKey (intKind prog w) s.heap ks a) (h : Q true s) : wpAny (model prog w) A (hashByValue (m + 1) (.ref a)) Q E s := by
  have hT := hk.typeIs
  obtain ⟨o, items, n, ho, _, hd, hi⟩ := hk
  unfold hashByValue
  refine wpAny_bind (wpAny_specialOf hT F.slot_tuple_hash.lookup ?_)
  dsimp only
  refine wpAny_bind (wpAny_seqItems ho hd ?_)
  refine wpAny_bind ?_
  show wpAny _ _ (forIn items _ _) _ _ s
  rw [← Array.forIn_toList]
  refine wpAny_forIn_list _ (fun rest r s' => r.1 = none ∧ s' = s ∧ ∀ v ∈ rest, ∃ k t, v = Value.int k t) _ ?_ ?_ _ _ ⟨rfl, rfl, int_items_byValue hi⟩
  · rintro v rest r s' ⟨hr, rfl, hall⟩
    obtain ⟨k, t, rfl⟩ := hall v List.mem_cons_self
    rw [show hashByValue m (.int k t) = pure true by cases m <;> rfl]
    refine wpAny_bind (wpAny_pure ?_)
    simp only [Bool.not_true, Bool.false_eq_true, if_false]
    exact wpAny_pure ⟨rfl, rfl, fun u hu' => hall u (List.mem_cons_of_mem _ hu')⟩
  · rintro ⟨r1, r2⟩ s' ⟨hr, rfl, _⟩
    simp only at hr
    subst hr
    exact wpAny_pure h
theorem wpAny_hbv_nest (m : Nat) {ks : List (List Int)} {a : Addr} {Q : Bool → Shared → Prop} (hk : IsNestKey (intKind prog w) s.heap ks a) (h : Q true s) : wpAny (model prog w) A (hashByValue (m + 2) (.ref a)) Q E s := by
  have hT := hk.typeIs
  obtain ⟨o, items, n, ho, _, hd, hi⟩ := hk
  unfold hashByValue
  refine wpAny_bind (wpAny_specialOf hT F.slot_tuple_hash.lookup ?_)
  dsimp only
  refine wpAny_bind (wpAny_seqItems ho hd ?_)
  refine wpAny_bind ?_
  show wpAny _ _ (forIn items _ _) _ _ s
  rw [← Array.forIn_toList]
  refine wpAny_forIn_list _ (fun rest r s' => r.1 = none ∧ s' = s ∧ ∃ x', NestAre (intKind prog w) s.heap x' rest) _ ?_ ?_ _ _ ⟨rfl, rfl, _, hi⟩
  · rintro v rest r s' ⟨hr, rfl, x', hall⟩
    cases hall with
    | cons h1 ht =>
      refine wpAny_bind (wpAny_hbv_tuple m h1 ?_)
      simp only [Bool.not_true, Bool.false_eq_true, if_false]
      exact wpAny_pure ⟨rfl, rfl, _, ht⟩
  · rintro ⟨r1, r2⟩ s' ⟨hr, rfl, _⟩
    simp only at hr
    subst hr
    exact wpAny_pure h
theorem wpAny_own_tuple (m : Nat) {ks : List Int} {a : Addr} {Q : Bool → Shared → Prop} (hk : IsTupleKey (intKind prog w) s.heap ks a) (h : Q false s) : wpAny (model prog w) A (ofAClassStatement (m + 1) (.ref a)) Q E s := by
  have hT := hk.typeIs
  obtain ⟨o, items, n, ho, _, hd, hi⟩ := hk
  unfold ofAClassStatement
  refine wpAny_bind (wpAny_typeOf hT ?_)
  dsimp only
  rw [if_pos (by decide)]
  refine wpAny_bind (wpAny_pure ?_)
  simp only [Bool.not_true, Bool.false_eq_true, if_false]
  refine wpAny_bind (wpAny_seqItems ho hd ?_)
  dsimp only
  refine wpAny_bind ?_
  show wpAny _ _ (forIn items _ _) _ _ s
  rw [← Array.forIn_toList]
  refine wpAny_forIn_list _ (fun rest r s' => r.1 = none ∧ s' = s ∧ ∀ v ∈ rest, ∃ k t, v = Value.int k t) _ ?_ ?_ _ _ ⟨rfl, rfl, int_items_byValue hi⟩
  · rintro v rest r s' ⟨hr, rfl, hall⟩
    obtain ⟨k, t, rfl⟩ := hall v List.mem_cons_self
    rw [show ofAClassStatement m (.int k t) = pure false by cases m <;> rfl]
    refine wpAny_bind (wpAny_pure ?_)
    simp only [Bool.false_eq_true, if_false]
    exact wpAny_pure ⟨rfl, rfl, fun u hu' => hall u (List.mem_cons_of_mem _ hu')⟩
  · rintro ⟨r1, r2⟩ s' ⟨hr, rfl, _⟩
    simp only at hr
    subst hr
    exact wpAny_pure h
theorem wpAny_own_nest (m : Nat) {ks : List (List Int)} {a : Addr} {Q : Bool → Shared → Prop} (hk : IsNestKey (intKind prog w) s.heap ks a) (h : Q false s) : wpAny (model prog w) A (ofAClassStatement (m + 2) (.ref a)) Q E s := by
  have hT := hk.typeIs
  obtain ⟨o, items, n, ho, _, hd, hi⟩ := hk
  unfold ofAClassStatement
  refine wpAny_bind (wpAny_typeOf hT ?_)
  dsimp only
  rw [if_pos (by decide)]
  refine wpAny_bind (wpAny_pure ?_)
  simp only [Bool.not_true, Bool.false_eq_true, if_false]
  refine wpAny_bind (wpAny_seqItems ho hd ?_)
  dsimp only
  refine wpAny_bind ?_
  show wpAny _ _ (forIn items _ _) _ _ s
  rw [← Array.forIn_toList]
  refine wpAny_forIn_list _ (fun rest r s' => r.1 = none ∧ s' = s ∧ ∃ x', NestAre (intKind prog w) s.heap x' rest) _ ?_ ?_ _ _ ⟨rfl, rfl, _, hi⟩
  · rintro v rest r s' ⟨hr, rfl, x', hall⟩
    cases hall with
    | cons h1 ht =>
      refine wpAny_bind (wpAny_own_tuple m h1 ?_)
      simp only [Bool.false_eq_true, if_false]
      exact wpAny_pure ⟨rfl, rfl, _, ht⟩
  · rintro ⟨r1, r2⟩ s' ⟨hr, rfl, _⟩
    simp only at hr
    subst hr
    exact wpAny_pure h
theorem wpAny_seen_no {x : Addr} {kx : List (List Int)} {ys : List Value} {Q : Bool → Shared → Prop} (hx : IsNestKey (intKind prog w) s.heap kx x) (hy : ∀ y ∈ ys, ∃ b ky, y = Value.ref b ∧ IsNestKey (intKind prog w) s.heap ky b) (h : Q false s) :
    wpAny (model prog w) A (searchCouldBeSeen (.ref x) ys) Q E s := by
  unfold searchCouldBeSeen
  refine wpAny_bind ?_
  refine wpAny_forIn_list _ (fun rest r s' => r.1 = none ∧ s' = s ∧ ∀ y ∈ rest, ∃ b ky, y = Value.ref b ∧ IsNestKey (intKind prog w) s.heap ky b) _ ?_ ?_ _ _ ⟨rfl, rfl, hy⟩
  · rintro v rest r s' ⟨hr, rfl, hall⟩
    obtain ⟨b, ky, rfl, hb⟩ := hall v List.mem_cons_self
    have tl : ∀ y ∈ rest, ∃ b ky, y = Value.ref b ∧ IsNestKey (intKind prog w) s'.heap ky b := fun u hu' => hall u (List.mem_cons_of_mem _ hu')
    dsimp only
    by_cases hq : ((x == b) || (carriedByValue (.ref x) && carriedByValue (.ref b))) = true
    · rw [if_pos hq]
      exact wpAny_pure ⟨rfl, rfl, tl⟩
    · rw [if_neg hq]
      refine wpAny_bind (wpAny_quiet_nest 6 hx ?_)
      simp only [Bool.not_true, Bool.false_eq_true, if_false]
      refine wpAny_bind (wpAny_quiet_nest 6 hb ?_)
      simp only [Bool.not_true, Bool.false_eq_true, if_false]
      refine wpAny_bind (wpAny_own_nest 6 hx ?_)
      simp only [Bool.false_eq_true, if_false]
      refine wpAny_bind (wpAny_own_nest 6 hb ?_)
      simp only [Bool.false_eq_true, if_false]
      exact wpAny_pure ⟨rfl, rfl, tl⟩
  · rintro ⟨r1, r2⟩ s' ⟨hr, rfl, _⟩
    simp only at hr
    subst hr
    exact wpAny_pure h
theorem wpAny_search_no {a x : Addr} {h : Int} {es : Array (Int × Value)} {ep : Nat} {t : SetTable} {kx : List (List Int)} {Q : SetFound → Shared → Prop} (g : s.heap.get? a = some (L2.setObj es ep t)) (hf : t.fits es.size = true) (T : L2.TbOk t)
    (hx : IsNestKey (intKind prog w) s.heap kx x) (hes : ∀ e ∈ es.toList, ∃ b ky, e.2 = Value.ref b ∧ IsNestKey (intKind prog w) s.heap ky b ∧ ky ≠ kx) (hu : A.units + 64 < cLine) (hQ : ∀ j, Q (.free j false) s) :
    ∀ (N fuel : Nat) (o : Option SetTable.Probe), L2.PrOk t (o.getD (t.probeStart h)) → (∃ n, n ≤ N ∧ t.slot (L2.advN t n (o.getD (t.probeStart h))).j = .empty) → N < fuel → wpAny (model prog w) A (setSearchFrom a (.ref x) h true fuel o) Q E s := by
  intro N
  induction N using Nat.strongRecOn with
  | _ N ih =>
  intro fuel o hp hn hlt
  obtain ⟨fuel, rfl⟩ : ∃ f, fuel = f + 1 := ⟨fuel - 1, by omega⟩
  unfold setSearchFrom
  refine wpAny_bind (wpAny_setState_of g rfl hf ?_)
  dsimp only
  rw [if_neg (by unfold SetTable.gaveWay; have := T.odd; simp; omega)]
  generalize o.getD (t.probeStart h) = p at hp hn
  generalize hm : SetTable.probe t _ h p = met
  unfold SetTable.probe at hm
  cases met with
  | none =>
    obtain ⟨n, h1, h2⟩ := T.meets hp
    exact absurd h2 (L2.go_none T.no_dummy _ _ hm n h1)
  | some met =>
    cases met with
    | empty j dm =>
      obtain ⟨h1, h2⟩ := L2.go_empty T.no_dummy _ _ hm
      rw [hp.dum] at h2
      subst h2
      exact wpAny_pure (hQ j)
    | candidate j i nx =>
      obtain ⟨h1, m, h2, h3⟩ := L2.go_cand T.no_dummy _ _ hm
      obtain ⟨n, n1, n2⟩ := hn
      have hmn : m < n := by
        rcases Nat.lt_or_ge m n with q | q
        · exact q
        · exact absurd n2 (h3 n q)
      have hi : i < es.size := by
        have := (Array.getElem?_eq_some_iff.mp (L2.slot_live h1)).1
        have hf' := hf
        simp only [SetTable.fits, Bool.and_eq_true, beq_iff_eq] at hf'
        omega
      have ei : es[i]? = some es[i] := Array.getElem?_eq_getElem hi
      obtain ⟨b, ky, eb, hb, hne⟩ := hes es[i] (Array.getElem_mem_toList hi)
      have next : wpAny (model prog w) A (setSearchFrom a (.ref x) h true fuel (some nx)) Q E s := by
        refine ih (n - (m + 1)) (by omega) fuel (some nx) ?_ ⟨n - (m + 1), Nat.le_refl _, ?_⟩ (by omega)
        · show L2.PrOk t nx
          rw [h2]; exact hp.advN
        · show t.slot (L2.advN t (n - (m + 1)) nx).j = _
          rw [h2, ← L2.advN_add, show m + 1 + (n - (m + 1)) = n by omega]
          exact n2
      have sm : t.sameMemory t.moves t.mask = some true := by unfold SetTable.sameMemory; rw [if_pos (by simp)]
      dsimp only
      split
      · refine wpAny_bind (wpAny_seen_no hx (fun y hy => ?_) ?_)
        · obtain ⟨e, he, rfl⟩ := List.mem_map.mp hy
          rw [Array.toList_filter] at he
          obtain ⟨b', ky', e1, e2, _⟩ := hes e (List.mem_filter.mp he).1
          exact ⟨b', ky', e1, e2⟩
        rw [if_neg Bool.false_ne_true]
        generalize es[i] = e at ei eb
        obtain ⟨hh, y⟩ := e
        have eb : y = Value.ref b := eb
        subst eb
        rw [ei]
        dsimp only
        refine wpAny_bind (wpAny_holding (wpAny_eqBool_nest hu hb hx ?_))
        rw [decide_eq_false hne]
        refine wpAny_bind (wpAny_setState_of g rfl hf ?_)
        dsimp only
        rw [if_neg (by decide), sm]
        dsimp only
        rw [if_pos rfl, h1]
        dsimp only
        rw [ei]
        dsimp only
        refine wpAny_bind (wpAny_isSame_ref_self ?_)
        refine wpAny_bind (wpAny_pure ?_)
        exact next
      · generalize es[i] = e at ei eb
        obtain ⟨hh, y⟩ := e
        have eb : y = Value.ref b := eb
        subst eb
        rw [ei]
        dsimp only
        refine wpAny_bind (wpAny_holding (wpAny_eqBool_nest hu hb hx ?_))
        rw [decide_eq_false hne]
        refine wpAny_bind (wpAny_setState_of g rfl hf ?_)
        dsimp only
        rw [if_neg (by decide), sm]
        dsimp only
        rw [if_pos rfl, h1]
        dsimp only
        rw [ei]
        dsimp only
        refine wpAny_bind (wpAny_isSame_ref_self ?_)
        refine wpAny_bind (wpAny_pure ?_)
        exact next
end
end PySem
namespace L2
open PySem PySem.Spec PyProof.Rows
theorem tkey_stay {P : Program} {w : World} {h h' : Heap} {k : List Int} {b : Addr} (x : IsTupleKey (intKind P w) h k b) (hk : ∀ c o items n, h.get? c = some o → o.data = .seq items n → h'.get? c = some o) : IsTupleKey (intKind P w) h' k b := by
  obtain ⟨o, items, n, ho, hc, hd, hi⟩ := x
  exact ⟨o, items, n, hk _ _ _ _ ho hd, hc, hd, hi⟩
theorem nkey_stay {P : Program} {w : World} {h h' : Heap} {k : NKey} {b : Addr} (x : IsNestKey (intKind P w) h k b) (hk : ∀ c o items n, h.get? c = some o → o.data = .seq items n → h'.get? c = some o) : IsNestKey (intKind P w) h' k b := by
  obtain ⟨o, items, n, ho, hc, hd, hi⟩ := x
  refine ⟨o, items, n, hk _ _ _ _ ho hd, hc, hd, ?_⟩
  generalize items.toList = vs at hi
  induction hi with
  | nil => exact .nil
  | cons h1 _ ih => exact .cons (tkey_stay h1 hk) ih
theorem size_go (n : Nat) : ∀ (fuel k : Nat), n < 2 ^ (k + fuel) → ∃ k', k ≤ k' ∧ SetTable.sizeAbove.go n fuel (2 ^ k) = 2 ^ k' ∧ n < 2 ^ k' ∧ (k < k' → 2 ^ (k' - 1) ≤ n)
  | 0, k, h => ⟨k, Nat.le_refl _, rfl, h, fun q => absurd q (Nat.lt_irrefl _)⟩
  | fuel + 1, k, h => by
    unfold SetTable.sizeAbove.go
    by_cases q : 2 ^ k ≤ n
    · rw [if_pos q, ← Nat.pow_succ]
      obtain ⟨k', h1, h2, h3, h4⟩ := size_go n fuel (k + 1) (by rw [show k + 1 + fuel = k + (fuel + 1) by omega]; exact h)
      refine ⟨k', by omega, h2, h3, fun _ => ?_⟩
      by_cases e : k' = k + 1
      · rw [e]; exact q
      · exact h4 (by omega)
    · rw [if_neg q]
      exact ⟨k, Nat.le_refl _, rfl, by omega, fun z => absurd z (Nat.lt_irrefl _)⟩
theorem size_pow2 {n : Nat} (h : n < 2048) : ∃ k, 3 ≤ k ∧ k ≤ 11 ∧ SetTable.sizeAbove n = 2 ^ k ∧ n < 2 ^ k := by
  obtain ⟨k, h1, h2, h3, h4⟩ := size_go n 64 3 (Nat.lt_of_lt_of_le h (by decide))
  refine ⟨k, h1, ?_, h2, h3⟩
  rcases Nat.lt_or_ge k 12 with q | q
  · omega
  · have := h4 (by omega)
    have : 2 ^ 11 ≤ 2 ^ (k - 1) := Nat.pow_le_pow_right (by decide) (by omega)
    omega
structure SetRecN (P : Program) (w : World) (h : Heap) (es : Array (Int × Value)) (t : SetTable) (ks : List NKey) : Prop where
  el : ∀ e ∈ es.toList, ∃ b k, e.2 = Value.ref b ∧ IsNestKey (intKind P w) h k b ∧ k ∈ ks
  len : es.size = ks.length
  tb : TbOk t
  sz : t.place.size = es.size
  lim : 5 * es.size < 3 * t.mask
noncomputable def SetAtN (P : Program) (w : World) (h0 h : Heap) (a : Addr) (ks : List NKey) : Prop := ∃ es ep t, h.get? a = some (setObj es ep t) ∧ SetRecN P w h0 es t ks
theorem SetRecN.fit {P : Program} {w : World} {h : Heap} {es : Array (Int × Value)} {t : SetTable} {ks : List NKey} (r : SetRecN P w h es t ks) : t.fits es.size = true := by
  have := r.tb.room
  simp only [SetTable.fits, SetTable.fill, r.tb.nd, Bool.and_eq_true, beq_iff_eq, decide_eq_true_eq]
  exact ⟨r.sz, by simpa using this⟩
section
variable {P : Program} {w : World} {A : Around} {E : Value → Shared → Prop} {s : Shared}
theorem ins_size {α : Type} (xs : Array α) (p : Nat) (x : α) : (SetTable.insertAt xs p x).size = xs.size + 1 := by
  have := (SetTable.insertAt_perm xs p x).length_eq
  rw [Array.length_toList, Array.length_toList, Array.size_push] at this
  exact this
theorem add_nest {h0 : Heap} {a x : Addr} {ks : List NKey} {kx : NKey} {hs : Int} {Q : Bool → Shared → Prop} (X : SetAtN P w h0 s.heap a ks) (ho : ∀ b o, h0.get? b = some o → s.heap.get? b = some o) (hx0 : IsNestKey (intKind P w) h0 kx x) (hn : kx ∉ ks) (hb : ks.length < 400) (hu : A.units + 64 < cLine)
    (h : ∀ h', Heap.SameBut a s.heap h' → SetAtN P w h0 h' a (ks ++ [kx]) → Q true { s with heap := h' }) : wpAny (model P w) A (setAddHashed a (.ref x) hs) Q E s := by
  obtain ⟨es, ep, t, g, r⟩ := X
  have up : ∀ {k : NKey} {b : Addr}, IsNestKey (intKind P w) h0 k b → IsNestKey (intKind P w) s.heap k b := fun q => nkey_stay q fun c o _ _ e _ => ho c o e
  have hx := up hx0
  obtain ⟨p2, hp2, hp12⟩ := r.tb.pw
  have hlen := r.len
  have hlim := r.lim
  unfold setAddHashed
  refine wpAny_holding ?_
  unfold setAddHashedIn
  refine wpAny_bind (wpAny_setState_of g rfl r.fit ?_)
  dsimp only
  rw [if_neg (by simp [byScan, Value.scannable])]
  refine wpAny_bind ?_
  unfold setSearch
  obtain ⟨n0, n1, n2⟩ := r.tb.meets (PrOk.start (t := t) (h := hs))
  have hmask : t.mask ≤ 4095 := by
    have : 2 ^ p2 ≤ 2 ^ 12 := Nat.pow_le_pow_right (by decide) hp12
    omega
  refine wpAny_search_no (h := hs) g r.fit r.tb hx (fun e he => ?_) hu (fun j => ?_) n0 100000 none PrOk.start ⟨n0, Nat.le_refl _, n2⟩ (by unfold SetTable.turns at n1; omega)
  · obtain ⟨b, k, e1, e2, e3⟩ := r.el e he
    exact ⟨b, k, e1, up e2, fun z => hn (z ▸ e3)⟩
  dsimp only
  refine wpAny_bind (wpAny_setState_of g rfl r.fit ?_)
  dsimp only
  have hd0 : SetTable.has t.dummies j = false := by rw [r.tb.nd]; unfold SetTable.has; simp
  have eput : t.put j = ({ t with place := SetTable.insertAt t.place (SetTable.below t.place j) j }, SetTable.below t.place j) := by
    unfold SetTable.put
    rw [hd0]; rfl
  rw [eput]
  dsimp only
  have fin : ∀ (b : Bool), wpAny (model P w) A (do
      let t₂ : SetTable := if b = true then { t with place := SetTable.insertAt t.place (SetTable.below t.place j) j } else { t with place := SetTable.insertAt t.place (SetTable.below t.place j) j, plain := false }
      storeSet a (SetTable.insertAt es (SetTable.below t.place j) (hs, Value.ref x)) t₂
      if (!false && t₂.tooFull) = true then setRelay a (SetTable.grown (es.size + 1))
      pure true) Q E s := by
    intro b
    have ht2 : ∃ t₂ : SetTable, (if b = true then ({ t with place := SetTable.insertAt t.place (SetTable.below t.place j) j } : SetTable) else { t with place := SetTable.insertAt t.place (SetTable.below t.place j) j, plain := false }) = t₂ ∧ t₂.mask = t.mask ∧ t₂.dummies = #[] ∧ t₂.place.size = es.size + 1 := by
      cases b
      · exact ⟨_, rfl, rfl, r.tb.nd, by show (SetTable.insertAt _ _ _).size = _; rw [ins_size, r.sz]⟩
      · exact ⟨_, rfl, rfl, r.tb.nd, by show (SetTable.insertAt _ _ _).size = _; rw [ins_size, r.sz]⟩
    obtain ⟨t₂, e2, m2, d2, z2⟩ := ht2
    dsimp only
    rw [e2]
    have es1 := ins_size es (SetTable.below t.place j) (hs, Value.ref x)
    have mem1 : ∀ e ∈ (SetTable.insertAt es (SetTable.below t.place j) (hs, Value.ref x)).toList, e ∈ es.toList ∨ e = (hs, Value.ref x) := fun e he => by
      have := (SetTable.insertAt_perm es (SetTable.below t.place j) (hs, Value.ref x)).mem_iff.mp he
      rw [Array.toList_push] at this
      rcases List.mem_append.mp this with q | q
      · exact .inl q
      · exact .inr (List.mem_singleton.mp q)
    generalize SetTable.insertAt es (SetTable.below t.place j) (hs, Value.ref x) = E1 at es1 mem1
    refine wpAny_bind (wpAny_storeSet_of g rfl ?_ (scan_line (by omega)))
    have g1 := put_set (es' := E1) (t' := t₂) g
    have b1 := Heap.SameBut.update s.heap a (Obj.putSet E1 t₂)
    generalize s.heap.update a (Obj.putSet E1 t₂) = h1 at g1 b1
    have tb2 : TbOk t₂ := ⟨by rw [m2]; exact r.tb.pw, by rw [m2]; exact r.tb.odd, d2, by omega⟩
    have ele : ∀ e : Int × Value, e ∈ es.toList ∨ e = (hs, Value.ref x) → ∃ b k, e.2 = Value.ref b ∧ IsNestKey (intKind P w) h0 k b ∧ k ∈ ks ++ [kx] := fun e he => by
      rcases he with q | q
      · obtain ⟨b, k, q1, q2, q3⟩ := r.el e q
        exact ⟨b, k, q1, q2, List.mem_append_left _ q3⟩
      · rw [q]
        exact ⟨x, kx, rfl, hx0, List.mem_append_right _ (List.mem_singleton.mpr rfl)⟩
    have f2 : t₂.fits E1.size = true := by
      simp only [SetTable.fits, SetTable.fill, d2, Bool.and_eq_true, beq_iff_eq, decide_eq_true_eq]
      exact ⟨by omega, by simp; omega⟩
    have tf : t₂.tooFull = decide ((es.size + 1) * 5 ≥ t.mask * 3) := by
      unfold SetTable.tooFull SetTable.fill
      rw [d2, z2, m2]; rfl
    by_cases q : (es.size + 1) * 5 ≥ t.mask * 3
    · rw [if_pos (by rw [tf, decide_eq_true q]; rfl)]
      have eg : SetTable.grown (es.size + 1) = (es.size + 1) * 4 := by unfold SetTable.grown; rw [if_neg (by omega)]
      obtain ⟨k, k1, k2, k3, k4⟩ := size_pow2 (n := (es.size + 1) * 4) (by omega)
      have kp : 2 ^ k ≤ 2 ^ 11 := Nat.pow_le_pow_right (by decide) k2
      have k0 : 1 ≤ 2 ^ k := Nat.one_le_two_pow
      obtain ⟨t3, o3, l1, l2, l3⟩ := laid_all (mask := 2 ^ k - 1) (p2 := k) (finger := t₂.finger) (moves := t₂.movedTo (2 ^ k - 1)) (led := t₂.led) (plain := t₂.plain) (by omega) (hs := E1.map (·.1)) (by rw [Array.size_map]; omega)
      have er : t₂.relaid (E1.map (·.1)) (SetTable.grown (es.size + 1)) = some (t3, o3) := by
        unfold SetTable.relaid
        rw [eg, k3]; exact l1
      have op := ord_perm (es := E1) (o := o3) (by have := l2.ord; rwa [Array.size_map] at this)
      have oz : (o3.filterMap (E1[·]?)).size = E1.size := by have := op.length_eq; rwa [Array.length_toList, Array.length_toList] at this
      refine wpAny_bind ?_
      unfold setRelay
      refine wpAny_bind (wpAny_setState_of g1 rfl f2 ?_)
      dsimp only
      rw [if_neg (by rw [eg, k3]; have : 2048 ≤ sizeLine := by decide
                     omega), er]
      refine wpAny_bind ?_
      show wpAny _ _ (if ((o3.filterMap (E1[·]?)).size != E1.size) = true then _ else _) _ _ _
      rw [if_neg (by rw [oz]; simp)]
      refine wpAny_pure ?_
      dsimp only
      refine wpAny_storeSet_of g1 rfl ?_ (scan_line (by omega))
      have g3 := put_set (es' := o3.filterMap (E1[·]?)) (t' := t3) g1
      have b3 := b1.trans (Heap.SameBut.update h1 a (Obj.putSet (o3.filterMap (E1[·]?)) t3))
      refine wpAny_pure (h _ b3 ⟨_, _, _, g3, fun e he => ele e (mem1 e (op.mem_iff.mp he)), ?_, ⟨⟨k, ?_, by omega⟩, ?_, l2.nd, ?_⟩, ?_, ?_⟩)
      · rw [oz, es1, List.length_append]; simp; omega
      · rw [l2.mask]; omega
      · rw [l2.mask]
        obtain ⟨k', rfl⟩ : ∃ k', k = k' + 1 := ⟨k - 1, by omega⟩
        rw [Nat.pow_succ] at k0 ⊢
        omega
      · rw [l2.mask, l2.size, Array.size_map]; omega
      · rw [l2.size, Array.size_map, oz]
      · rw [oz, l2.mask]; omega
    · rw [if_neg (by rw [tf, decide_eq_false q]; decide)]
      refine wpAny_bind (wpAny_pure (wpAny_pure (h _ b1 ⟨_, _, _, g1, fun e he => ele e (mem1 e he), by rw [es1, List.length_append]; simp; omega, tb2, by omega, by rw [m2]; omega⟩)))
  split
  · exact wpAny_bind (wpAny_hbv_nest 6 hx (fin true))
  · exact wpAny_bind (wpAny_pure (fin true))
end
end L2
namespace L2
open PySem PySem.Spec PyProof.Rows
section
variable {P : Program} {w : World} {A : Around} {R : Result → Shared → Prop} {I : Addr} {fp wr : List Addr} {G : Array GenState → Array GenState → Prop} {n : Nat} {Pv : Nat → Value → Prop} {St : Nat → Shared → Prop}
theorem loop_setN (W : WalksS P w A.in1 I fp wr G n Pv St) (S : Addr) (hS : S ∉ fp) (h0 : Heap) (hS0 : h0.objs.size ≤ S) (hwr : ∀ b ∈ wr, h0.objs.size ≤ b) (ks : List NKey) (hn : ks.length = n) (nd : ks.Nodup) (hb : n < 400) (hu : A.units + 66 < cLine)
    (hv : ∀ i v, i < n → Pv i v → ∃ b, v = Value.ref b ∧ IsNestKey (intKind P w) h0 (ks.getD i []) b) :
    ∀ (k i : Nat) (s : Shared), n - i = k → i ≤ n → St i s → SetAtN P w h0 s.heap S (ks.take i) → (∀ b o, h0.get? b = some o → s.heap.get? b = some o) →
      (∀ s', Moved (S :: wr) G s s' → SetAtN P w h0 s'.heap S ks → R (.ok (.ret .none)) s') →
      codeAny (model P w) A (.builtin "set.update.loop" ⟨[.ref S, .ref I], []⟩) R s := by
  have up : ∀ b ∈ wr, b ∈ S :: wr := fun b h => List.mem_cons_of_mem _ h
  have sw : S ∉ wr := fun h => hS (W.sub _ h)
  intro k
  induction k with
  | zero =>
    intro i s hk hi st x ho hR
    obtain rfl : i = n := by omega
    rw [List.take_of_length_le (by omega)] at x
    refine codeAny_builtin ent_sul ?_
    rw [Around.under_plainId pl_sul _]
    show wpAny _ A.in1 (pyNext (.ref I) >>= _) _ _ s
    refine wpAny_bind (W.done s _ _ st fun s' hm => wpAny_pure (hR s' (hm.mono up) ?_))
    obtain ⟨es, ep, t, g, r⟩ := x
    exact ⟨es, ep, t, hm.heap S _ sw g, r⟩
  | succ k ih =>
    intro i s hk hi st x ho hR
    have hlt : i < n := by omega
    refine codeAny_builtin ent_sul ?_
    rw [Around.under_plainId pl_sul _]
    show wpAny _ A.in1 (pyNext (.ref I) >>= _) _ _ s
    refine wpAny_bind (W.item i s _ _ hlt st fun v s' pv st' hm => ?_)
    obtain ⟨b, rfl, hk'⟩ := hv i v hlt pv
    have ho' : ∀ b o, h0.get? b = some o → s'.heap.get? b = some o := fun b o e => hm.heap b o (fun z => by have h1 := hwr b z; have h2 := Heap.lt_size e; exact absurd (Nat.lt_of_lt_of_le h2 h1) (Nat.lt_irrefl _)) (ho b o e)
    have x' : SetAtN P w h0 s'.heap S (ks.take i) := by
      obtain ⟨es, ep, t, g, r⟩ := x
      exact ⟨es, ep, t, hm.heap S _ sw g, r⟩
    have ei : ks[i]? = some (ks.getD i []) := by rw [List.getD_eq_getElem?_getD, List.getElem?_eq_getElem (by omega)]; rfl
    have et : ks.take (i + 1) = ks.take i ++ [ks.getD i []] := by
      rw [List.take_add_one, ei]; rfl
    have hni : ks.getD i [] ∉ ks.take i := fun hm => by
      have h1 : (ks.take (i + 1)).Nodup := nd.sublist (List.take_sublist _ _)
      rw [et] at h1
      exact (List.nodup_append.mp h1).2.2 _ hm _ (List.mem_singleton.mpr rfl) rfl
    show wpAny _ A.in1 (holding [Value.ref b] (setAdd S (.ref b)) >>= _) _ _ s'
    refine wpAny_bind (wpAny_holding ?_)
    unfold setAdd
    refine wpAny_holding (wpAny_bind (wpAny_pyHash_nest (show A.units + 1 + 64 < cLine by omega) (nkey_stay hk' fun c o _ _ e _ => ho' c o e) ?_))
    refine add_nest (s := { s' with toks := s'.toks + (nestDraws (ks.getD i []) + 1) }) x' ho' hk' hni (by rw [List.length_take]; omega) (show A.units + 1 + 64 < cLine by omega) fun h' sb x2 => ?_
    rw [← et] at x2
    refine wpAny_pure ⟨plainId_quiet pl_sul _, ih (i + 1) _ (by omega) hlt (W.frame _ s' _ _ st' (Nat.le_add_right _ _) fun b hb' o e => ?_) x2 (fun c o e => ?_) fun s2 hm2 x4 => ?_⟩
    · rw [sb.2 b (fun z : b = S => hS (by rw [← z]; exact hb'))]; exact e
    · rw [sb.2 c (fun z : c = S => by have h2 := Heap.lt_size e; rw [z] at h2; exact absurd (Nat.lt_of_lt_of_le h2 hS0) (Nat.lt_irrefl _))]; exact ho' c o e
    · refine hR s2 (Moved.trans W.gtrans ((hm.mono up).then_heap (Nat.le_add_right _ _) fun b o hb' e => ?_) hm2) x4
      rw [sb.2 b (fun z : b = S => hb' (by rw [z]; exact List.mem_cons_self))]; exact e
end
section
variable {P : Program} {w : World} {A : Around} {E : Value → Shared → Prop} {s : Shared}
theorem fresh_recN {h0 : Heap} : SetRecN P w h0 #[] (.fresh 0 0 (ledW w)) [] := ⟨fun e he => by simp at he, rfl, ⟨⟨3, rfl, by decide⟩, (show 7 % 2 = 1 by decide), rfl, Nat.zero_le _⟩, rfl, (show 5 * 0 < 3 * 7 by decide)⟩
theorem call_setN {l : Addr} {items : Array Value} {ks : List NKey} {Q : Value → Shared → Prop} (hh : A.handled = none) (hl : s.heap.IsTuple l items) (hi : ks.length = items.size) (hv : ∀ i v, items[i]? = some v → ∃ b, v = Value.ref b ∧ IsNestKey (intKind P w) s.heap (ks.getD i []) b) (nd : ks.Nodup) (hb : ks.length < 400) (hu : A.units + 80 < cLine)
    (h : ∀ (h' : Heap) (tk : Nat), SetAtN P w s.heap h' s.heap.objs.size ks → (∀ b o, s.heap.get? b = some o → h'.get? b = some o) → Q (.ref s.heap.objs.size) { s with heap := h', toks := tk }) :
    wpAny (model P w) A (call (.type "set") [.ref l]) Q E s := by
  obtain ⟨c, tl, hmro⟩ := F.called_set.mro
  have q1 := F.called_set.made
  have q2 := F.called_set.sub
  refine wpAny_call (codeAny_of_tree ?_)
  show wpAny _ _ (callAny (.type "set") _) _ _ _
  refine wpAny_pure ⟨Code.quiet_builtin _ (by decide +kernel), codeAny_builtin F.entry_type_call ?_⟩
  rw [Around.under_plain (weight_type_call_type "set" [.ref l] []) rfl]
  have q3 := F.called_set.notType
  have q4 := F.called_set.canCreate
  have q5 := chk_set_call (.ref l)
  repeat any_goals first | wp_step | assumption
  refine codeAny_mono (new_set1 (.ref l) (E := E) (Q := fun obj s₁ => obj = .ref s.heap.objs.size ∧ s₁ = { s with heap := s.heap.push (setObj #[] 0 (.fresh 0 0 (ledW w))) }) ⟨rfl, rfl⟩) fun r s₁ hr => ?_
  cases r with
  | error e => exact hr
  | ok fl =>
    cases fl with
    | ret obj =>
      obtain ⟨rfl, rfl⟩ := hr
      have g0 : (s.heap.push (setObj #[] 0 (.fresh 0 0 (ledW w)))).get? s.heap.objs.size = some (setObj #[] 0 (.fresh 0 0 (ledW w))) := Heap.get?_push_size _ rfl
      have hT : Shared.TypeIs { s with heap := s.heap.push (setObj #[] 0 (.fresh 0 0 (ledW w))) } (.ref s.heap.objs.size) "set" := ⟨_, g0, rfl⟩
      have q6 := F.called_set.init.lookup
      have q7 := F.called_set.init.bind (.ref s.heap.objs.size)
      repeat any_goals first | wp_step | assumption
      refine codeAny_mono (codeAny_call_builtin (R := wants (fun r s₂ => r = .none ∧ ∃ h' tk, s₂ = { s with heap := h', toks := tk } ∧ SetAtN P w s.heap h' s.heap.objs.size ks ∧ (∀ b o, s.heap.get? b = some o → h'.get? b = some o)) E) F.called_set.init.plain F.entry_set_init (chk_set_init hT ?_)) fun r₂ s₂ hr₂ => ?_
      · have hTl : Shared.TypeIs { s with heap := s.heap.push (setObj #[] 0 (.fresh 0 0 (ledW w))) } (.ref l) "tuple" := by
          obtain ⟨o, ho, hc⟩ := hl.typeIs
          exact ⟨o, Heap.get?_push_of_some _ ho, hc⟩
        have n1 : isSubtype (.type "tuple") (.type "set") = pure false := by rw [isSubtype_type]; kernel_rfl
        have n2 : isSubtype (.type "tuple") (.type "frozenset") = pure false := by rw [isSubtype_type]; kernel_rfl
        have n3 : (Value.type "tuple" == Value.type "dict") = false := by decide
        unfold Builtin.«set.__init__» noKeywords
        unfold Builtin.Frozenset.updateFrom
        generalize hq : pyIter = PI
        wp_walk
        subst hq
        have hs3 : A.in1.in1.in1.handled = none := by simp [hh]
        have hsz : (s.heap.push (setObj #[] 0 (.fresh 0 0 (ledW w)))).objs.size = s.heap.objs.size + 1 := Heap.size_push ..
        have hl' : (s.heap.push (setObj #[] 0 (.fresh 0 0 (ledW w)))).IsTuple l items := hl.push _
        have hlt : l < s.heap.objs.size := by obtain ⟨o, ho, r⟩ := hl; exact Heap.lt_size ho
        refine wpAny_pyIter_tuple hl' ?_
        have W := fun A2 (h2 : Around.handled A2 = none) => (Walks.tuple (prog := P) (w := w) (A := A2) h2 (s.heap.objs.size + 1) l (Nat.ne_of_lt (Nat.lt_succ_of_lt hlt)) items).toS
        rw [hsz]
        refine wpAny_bind (wpAny_runValue (loop_setN (A := A.in1.in1) (W _ (by simp [hh])) s.heap.objs.size (fun hm => ?_) s.heap (Nat.le_refl _) (fun b hb => ?_) ks hi nd (by omega) (show A.units + 1 + 1 + 66 < cLine by omega) (fun i v _ hv' => hv i v hv') items.size 0 _ (by omega) (Nat.zero_le _) ⟨⟨_, Heap.get?_push_at hsz.symm rfl, rfl, rfl⟩, hl'.push _⟩ ⟨_, _, _, Heap.get?_push_of_some _ g0, fresh_recN⟩ (fun b o e => Heap.get?_push_of_some _ (Heap.get?_push_of_some _ e)) fun s' hm x' => ?_))
        · rcases List.mem_cons.mp hm with z | z
          · exact absurd z (Nat.ne_of_lt (Nat.lt_succ_self _))
          · rw [List.mem_singleton] at z; exact absurd z (Nat.ne_of_gt hlt)
        · rw [List.mem_singleton.mp hb]; exact Nat.le_succ _
        · obtain ⟨h2, g', d', tk', os'⟩ := s'
          obtain rfl : g' = s.gens := hm.gens
          obtain rfl : d' = s.drawn := hm.drawn
          obtain rfl : os' = s.os := hm.os
          refine wpAny_pure (wpAny_pure ⟨rfl, h2, tk', rfl, x', fun b o e => ?_⟩)
          have hlt := Heap.lt_size e
          refine hm.heap b o (fun z => ?_) (Heap.get?_push_of_some _ (Heap.get?_push_of_some _ e))
          rcases List.mem_cons.mp z with z | z
          · exact absurd z (Nat.ne_of_lt hlt)
          · rw [List.mem_singleton] at z; exact absurd z (Nat.ne_of_lt (Nat.lt_succ_of_lt hlt))
      · cases r₂ with
        | error e => exact hr₂
        | ok fl₂ =>
          cases fl₂ with
          | ret r =>
            obtain ⟨rfl, h', tk, rfl, x', k'⟩ := hr₂
            repeat any_goals first | wp_step | assumption
            exact h _ _ x' k'
          | _ => exact hr₂.elim
    | _ => exact hr.elim
end
end L2
namespace L3
open PySem PySem.Spec PyProof.Rows L2
theorem _root_.L2.Room.units3 {k : Nat} {A : Around} (r : Room k A) : A.units + 100 < cLine := by have := r.un; omega
noncomputable def keysT : List PyData → Option (List NKey)
  | [] => some []
  | d :: r => match keyN d, keysT r with
    | some k, some ks => some (k :: ks)
    | _, _ => none
noncomputable def lenSetN : List PyData → Res PyData
  | [.tuple es] => match keysT es with
    | some ks => gd (ks.Nodup ∧ ks.length < 400) (.ok (.int (ks.length : Nat)))
    | none => .bad
  | _ => .bad
section
variable {X : Cx} {O : List Fl} {m : ME} {e : Expr} {ta : TA} {p p2 pos pos2 : Pos}
noncomputable def tSetN (K : PySem.W.Frag) (ta : TA) : L2.St → Hp → (Nat → Hp → Prop) → Prop := fun σ H Q => ta σ H fun vs H1 => ∃ (q : Addr) (cs : List Addr) (ks : List NKey), vs = [.ref q] ∧ SqT K H1 q (cs.map V.ref) ∧ Paired (fun k b => NTup K H1 k b) ks cs ∧ ks.Nodup ∧ ks.length < 400 ∧ Q ks.length H1
theorem paired_at {K : PySem.W.Frag} {H1 : Hp} {ks : List NKey} {cs : List Addr} (r : Paired (fun k b => NTup K H1 k b) ks cs) : ∀ i c, cs[i]? = some c → NTup K H1 (ks.getD i []) c := by
  induction r with
  | nil => intro i c h; cases h
  | cons h1 _ ih =>
    intro i c h
    cases i with
    | zero => cases h; exact h1
    | succ i => exact ih i c h
theorem pe_lenSetN (hc : X.calm = true) (hu : X.A.units + 100 < cLine) (hg : Gl X "len") (hm : X.mg "len" = none) (hg2 : Gl X "set") (hm2 : X.mg "set" = none) (ha : PA X [e] ta) (hs : starEach [e] X.env = [(false, eval e X.env)] := by rfl)
    (hs2 : starEach [Expr.Call (.Name "set" p2) [e] [] pos2] X.env = [(false, eval (Expr.Call (.Name "set" p2) [e] [] pos2) X.env)] := by rfl) :
    PE X (.Call (.Name "len" p) [.Call (.Name "set" p2) [e] [] pos2] [] pos) (fun σ H Q => tSetN X.K ta σ H fun n H1 => Q (.int (n : Nat)) H1) := by
  intro pins s σ H Q I h
  refine wpAny_Call_Name_kw (ld_blt I hg hm boot_len ?_)
  refine PyProof.Rows.callWith_builtin1 ?_ hs2 rfl
  rw [hs2]
  show wpAny _ _ (spliced ((false, eval (Expr.Call (.Name "set" p2) [e] [] pos2) X.env) :: backTo pos [])) _ _ s
  refine Calls.spliced_cons ?_
  refine Call_ (ld_blt I hg2 hm2 L2.boot_set (PyProof.Rows.callWith_type1 (thn (ha pos2 pins s σ H _ I h) fun us s1 hq__ => ?_) hs rfl))
  obtain ⟨vs, H1, I1, r1, q1⟩ := hq__
  obtain ⟨q, cs, ks, rfl, hq, pr, nd, hl, hQ⟩ := q1
  obtain ⟨u, rfl, rx⟩ := vals1 r1
  cases rx
  obtain ⟨its, r', pl, hz⟩ := I1.tuple hq
  have ei := ref_vals r'
  subst ei
  refine call_setN (items := (cs.map Value.ref).toArray) (ks := ks) (I1.ok.hd hc) (show s1.heap.IsTuple q _ from pl) (by rw [Paired.length pr]; simp) (fun i v hv => ?_) nd hl (by omega) fun h' tk x k => Calls.spliced_nil ?_
  · rw [List.getElem?_toArray, List.getElem?_map] at hv
    obtain ⟨c, hc', rfl⟩ := Option.map_eq_some_iff.mp hv
    exact ⟨c, rfl, nkey_of I1 (paired_at pr i c hc')⟩
  · obtain ⟨es, ep, t, g, r⟩ := x
    have hz := r.len
    refine call_len_set (es := es) g ⟨rfl, rfl, rfl⟩ rfl r.fit (by omega) ?_
    exact ⟨.int (ks.length : Nat), H1, (I1.kept k).tok _, ⟨_, by rw [hz]⟩, hQ⟩
theorem keysT_at {K : PySem.W.Frag} {A : Hp} : ∀ {es : List PyData} {vs : List V} {ks : List NKey}, keysT es = some ks → RpAll K A es vs → ∃ cs : List Addr, vs = cs.map V.ref ∧ Paired (fun k b => NTup K A k b) ks cs
  | [], vs, ks, h, r => by
    cases h
    rw [RpAll.nil.mp r]
    exact ⟨[], rfl, .nil⟩
  | d :: es, vs, ks, h, r => by
    have h : (match keyN d, keysT es with | some k, some ks => some (k :: ks) | _, _ => none) = some ks := h
    cases h1 : keyN d with
    | none => rw [h1] at h; cases h
    | some k =>
      cases h2 : keysT es with
      | none => rw [h1, h2] at h; cases h
      | some ks' =>
        rw [h1, h2] at h
        cases h
        obtain ⟨v, r', rfl, r1, r2⟩ := RpAll.cons.mp r
        obtain ⟨b, rfl, hb⟩ := r1.nkey h1
        obtain ⟨cs, rfl, hp⟩ := keysT_at h2 r2
        exact ⟨b :: cs, rfl, .cons hb hp⟩
theorem se_lenSetN (hc : X.calm = true) (hu : X.A.units + 100 < cLine) (hg : Gl X "len") (hm : X.mg "len" = none) (hg2 : Gl X "set") (hm2 : X.mg "set" = none) (ha : QE X e (tP X.K O m)) (hs : noStar e = true := by rfl) :
    QE X (.Call (.Name "len" p) [.Call (.Name "set" p2) [e] [] pos2] [] pos) (tE X.K O (eFn lenSetN [m])) :=
  QE.imp (pe_lenSetN hc hu hg hm hg2 hm2 (pa_cons ha.h pa_nil (star_cons hs)) (star_cons hs)) fun σ H Q h => by
    obtain ⟨A, B, Γ, d, r, em, k⟩ := h
    obtain ⟨ds, e1, em⟩ := Res.bind_ok em
    obtain ⟨d1, e2, e1⟩ := Res.bind_ok e1
    obtain ⟨_, e3, e1⟩ := Res.bind_ok e1
    cases e3
    cases e1
    cases d1 with
    | tuple es =>
      have em : (match keysT es with | some ks => gd (ks.Nodup ∧ ks.length < 400) (.ok (.int (ks.length : Nat))) | none => .bad) = Res.ok d := em
      cases hn : keysT es with
      | none => rw [hn] at em; cases em
      | some ks =>
        rw [hn] at em
        obtain ⟨hz, em⟩ := gd_ok em
        cases em
        refine ⟨A, B, Γ, .tuple es, r, e2, fun v A1 H1 g1 p1 => ?_⟩
        obtain ⟨l, vs, rfl, h2, h1⟩ := p1.seqT (H := H1)
        obtain ⟨cs, rfl, hp⟩ := keysT_at hn h2
        exact ⟨l, cs, ks, rfl, h1 H1 g1.ah, Paired.mapP hp fun _ _ z => z.keeps fun _ _ y => g1.ah.seqT y, hz.1, hz.2, k _ A1 H1 g1 (Rp.int.mpr rfl)⟩
    | _ => cases em
end
end L3
namespace Gk
noncomputable def gnum (xs : List Int) : Int := xs.foldr (fun f n => 2 * n + f) 0
theorem gnum_cons (x : Int) (xs : List Int) : gnum (x :: xs) = 2 * gnum xs + x := rfl
theorem gnum_nonneg : ∀ {xs : List Int}, (∀ x ∈ xs, 0 ≤ x) → 0 ≤ gnum xs
  | [], _ => Int.le_refl 0
  | x :: xs, h => by
    have h1 := h x (by simp)
    have h2 := gnum_nonneg fun y hy => h y (List.mem_cons_of_mem _ hy)
    rw [gnum_cons]; omega
theorem two_pos (n : Nat) : (0 : Int) < 2 ^ n := Int.pow_pos (by decide)
theorem gnum_snoc (xs : List Int) (y : Int) : gnum (xs ++ [y]) = gnum xs + 2 ^ xs.length * y := by
  induction xs with
  | nil => simp [gnum]
  | cons x xs ih =>
    rw [List.cons_append, gnum_cons, ih, gnum_cons, List.length_cons, Int.pow_succ]
    have : (2 : Int) ^ xs.length * 2 * y = 2 * (2 ^ xs.length * y) := by rw [Int.mul_comm ((2 : Int) ^ xs.length) 2, Int.mul_assoc]
    rw [this]; omega
noncomputable def bitI (b p : Int) : Int := b / 2 ^ p.toNat % 2
theorem bitI_01 (b p : Int) : bitI b p = 0 ∨ bitI b p = 1 := by unfold bitI; omega
noncomputable def bitsOf (k r : Nat) : List Int := (List.range k).map fun j => ((r / 2 ^ j % 2 : Nat) : Int)
theorem bitsOf_length (k r : Nat) : (bitsOf k r).length = k := by simp [bitsOf]
theorem bitsOf_01 {k r : Nat} {x : Int} (h : x ∈ bitsOf k r) : x = 0 ∨ x = 1 := by
  unfold bitsOf at h
  obtain ⟨j, _, e⟩ := List.mem_map.mp h
  omega
end Gk
namespace Gk
noncomputable def All01 (xs : List Int) : Prop := ∀ x ∈ xs, x = 0 ∨ x = 1
theorem All01.map {α : Type} {l : List α} {f : α → Int} (h : ∀ a ∈ l, f a = 0 ∨ f a = 1) : All01 (l.map f) := fun x hx => by
  obtain ⟨a, ha, rfl⟩ := List.mem_map.mp hx
  exact h a ha
theorem All01.bits {α : Type} {l : List α} {f g : α → Int} : All01 (l.map fun a => bitI (f a) (g a)) := All01.map fun a _ => bitI_01 _ _
noncomputable def tab (m : Nat) (f : Nat → Int) : Int := gnum ((List.range m).map f)
theorem bitI_nat (r j : Nat) : bitI (r : Nat) (j : Nat) = ((r / 2 ^ j % 2 : Nat) : Int) := by
  unfold bitI
  rw [Int.toNat_natCast]
  simp
theorem row_of_bits {n r : Nat} : (List.range n).map (fun j => bitI (r : Nat) (j : Nat)) = bitsOf n r := by
  unfold bitsOf
  exact List.map_congr_left fun j _ => bitI_nat r j
end Gk
namespace Gk
theorem All01.bitsOf {k r : Nat} : All01 (bitsOf k r) := fun _ hx => bitsOf_01 hx
end Gk
namespace Gk
structure IsOrd (n : Nat) (os : List Nat) : Prop where
  len : os.length = n
  lt : ∀ k p : Nat, os[k]? = some p → p < n
  inj : ∀ j k p : Nat, os[j]? = some p → os[k]? = some p → j = k
  sur : ∀ i : Nat, i < n → ∃ k : Nat, os[k]? = some i
theorem IsOrd.of_perm {n : Nat} {os : List Nat} (h : os.Perm (List.range n)) : IsOrd n os := by
  have nd : os.Nodup := h.nodup_iff.mpr List.nodup_range
  refine ⟨by rw [h.length_eq, List.length_range], fun k p e => ?_, fun j k p e1 e2 => ?_, fun i hi => ?_⟩
  · exact List.mem_range.mp (h.mem_iff.mp (List.mem_of_getElem? e))
  · obtain ⟨h1, e1⟩ := List.getElem?_eq_some_iff.mp e1
    obtain ⟨h2, e2⟩ := List.getElem?_eq_some_iff.mp e2
    exact (List.getElem_inj nd).mp (e1.trans e2.symm)
  · exact List.getElem?_of_mem (h.mem_iff.mpr (List.mem_range.mpr hi))
theorem IsOrd.range (n : Nat) : IsOrd n (List.range n) := .of_perm (List.Perm.refl _)
end Gk
namespace Gk
end Gk
namespace Prog
open PySem L3
noncomputable def m_renamed : List PyData → Res PyData := fnR 2 (sRet (eTup [(eBin ixD (eVar 0) (eC (.int 0))), (eFn tupleD [(eComp (itL (eBin ixD (eVar 0) (eC (.int 1)))) (gN 0) (eC (.bool true)) (eBin ixY (eVar 1) (eVar 0)) 1 [1])])]))
noncomputable def m_without_doubles : List PyData → Res PyData := fnR 7 (sSeq (sSet 1 (eBin ixD (eVar 0) (eC (.int 0))))
    (sSeq (sSet 2 (eUn lrD (eVar 1)))
    (sSeq (sSet 3 (eLst []))
    (sSeq (sSet 4 (eDct []))
    (sSeq (sFor (itL (eBin ixD (eVar 0) (eC (.int 1)))) (gN 5) [5, 6] (sSeq (sSet 6 (eCall m_renamed [(eVar 5), (eVar 2)]))
    (sSeq (sIf (eNotInN 4 (eVar 6)) (sSeq (sPutN 4 (eVar 6) (eBin addD (eVar 1) (eFn lenD [(eVar 3)])))
    (sApp 3 (eVar 6))) sNil)
    (sApp 2 (eIxN 4 (eVar 6))))))
    (sRet (eTup [(eVar 1), (eFn tupleD [(eVar 3)]), (eBin ixD (eVar 2) (eBin ixD (eVar 0) (eC (.int 2))))])))))))
noncomputable def m_used_wires : List PyData → Res PyData := fnR 6 (sSeq (sSet 1 (eBin ixD (eVar 0) (eC (.int 0))))
    (sSeq (sSet 2 (eBin ixD (eVar 0) (eC (.int 1))))
    (sSeq (sSet 3 (eDctK (eBin ixD (eVar 0) (eC (.int 2))) (eC (.bool true))))
    (sSeq (sFor (itR3 (eBin subD (eFn lenD [(eVar 2)]) (eC (.int 1))) (eUn negD (eC (.int 1))) (eUn negD (eC (.int 1)))) (gN 4) [4, 5] (sIf (eBin inY (eBin addD (eVar 1) (eVar 4)) (eVar 3)) (sFor (itL (eBin ixD (eBin ixD (eVar 2) (eVar 4)) (eC (.int 1)))) (gN 5) [5] (sPutD 3 (eVar 5) (eC (.bool true)))) sNil))
    (sRet (eVar 3))))))
noncomputable def m_without_unused : List PyData → Res PyData := fnR 8 (sSeq (sSet 1 (eBin ixD (eVar 0) (eC (.int 0))))
    (sSeq (sSet 2 (eCall m_used_wires [(eVar 0)]))
    (sSeq (sSet 3 (eDct []))
    (sSeq (sFor (itR1 (eVar 1)) (gN 4) [4] (sPutD 3 (eVar 4) (eVar 4)))
    (sSeq (sSet 5 (eLst []))
    (sSeq (sFor (itE (eBin ixD (eVar 0) (eC (.int 1)))) (gT [(gN 6), (gN 7)]) [6, 7] (sIf (eBin inY (eBin addD (eVar 1) (eVar 6)) (eVar 2)) (sSeq (sApp 5 (eCall m_renamed [(eVar 7), (eVar 3)]))
    (sPutD 3 (eBin addD (eVar 1) (eVar 6)) (eBin subD (eBin addD (eVar 1) (eFn lenD [(eVar 5)])) (eC (.int 1))))) sNil))
    (sRet (eTup [(eVar 1), (eFn tupleD [(eVar 5)]), (eBin ixY (eVar 3) (eBin ixD (eVar 0) (eC (.int 2))))]))))))))
noncomputable def m_shared : List PyData → Res PyData := fnR 1 (sRet (eCall m_without_unused [(eCall m_without_doubles [(eVar 0)])]))
end Prog
theorem L2.sizeLine_eq : PySem.sizeLine = 16777216 := by decide
namespace L3
open PySem L2
theorem gv_zero {o : Option PyData} {Γ : Ev} : gv (o :: Γ) 0 = o := rfl
theorem gv_succ {o : Option PyData} {Γ : Ev} {i : Nat} : gv (o :: Γ) (i + 1) = gv Γ i := rfl
theorem eVar_zero {d : PyData} {Γ : Ev} : eVar 0 (some d :: Γ) = .ok d := rfl
theorem eVar_succ {o : Option PyData} {Γ : Ev} {i : Nat} : eVar (i + 1) (o :: Γ) = eVar i Γ := rfl
theorem eC_app {d : PyData} {Γ : Ev} : eC d Γ = .ok d := rfl
theorem eBin_app {f : PyData → PyData → Res PyData} {a b : ME} {Γ : Ev} : eBin f a b Γ = (a Γ).bind fun x => (b Γ).bind fun y => f x y := rfl
theorem eUn_app {f : PyData → Res PyData} {a : ME} {Γ : Ev} : eUn f a Γ = (a Γ).bind f := rfl
theorem eFn_app {f : List PyData → Res PyData} {ms : List ME} {Γ : Ev} : eFn f ms Γ = (evs ms Γ).bind f := rfl
theorem eCall_app {f : List PyData → Res PyData} {ms : List ME} {Γ : Ev} : eCall f ms Γ = (evs ms Γ).bind f := rfl
theorem evs_nil {Γ : Ev} : evs [] Γ = .ok [] := rfl
theorem evs_cons {m : ME} {ms : List ME} {Γ : Ev} : evs (m :: ms) Γ = (m Γ).bind fun d => (evs ms Γ).bind fun ds => .ok (d :: ds) := rfl
theorem eTup_app {ms : List ME} {Γ : Ev} : eTup ms Γ = (evs ms Γ).bind fun ds => .ok (.tuple ds) := rfl
theorem eLst_app {ms : List ME} {Γ : Ev} : eLst ms Γ = (evs ms Γ).bind fun ds => .ok (.list ds) := rfl
theorem eIsi_app {T : String} {a : ME} {Γ : Ev} : eIsi T a Γ = (a Γ).bind fun d => .ok (.bool (isiD T d)) := rfl
noncomputable def bT (x : PyData) (a b : Res PyData) : Res PyData := match x with
  | .bool true => a
  | .bool false => b
  | _ => .bad
noncomputable def bS (x : PyData) (a b : Res Out) : Res Out := match x with
  | .bool true => a
  | .bool false => b
  | _ => .bad
theorem bT_false {a b : Res PyData} : bT (.bool false) a b = b := rfl
theorem bS_true {a b : Res Out} : bS (.bool true) a b = a := rfl
theorem bS_false {a b : Res Out} : bS (.bool false) a b = b := rfl
theorem bT_dec {c : Bool} {a b : Res PyData} : bT (.bool c) a b = if c = true then a else b := by cases c <;> rfl
theorem bS_dec {c : Bool} {a b : Res Out} : bS (.bool c) a b = if c = true then a else b := by cases c <;> rfl
theorem eAnd_app {a b : ME} {Γ : Ev} : eAnd a b Γ = (a Γ).bind fun x => bT x (b Γ) (.ok (.bool false)) := by
  unfold eAnd bT; rfl
theorem eOr_app {a b : ME} {Γ : Ev} : eOr a b Γ = (a Γ).bind fun x => bT x (.ok (.bool true)) (b Γ) := by
  unfold eOr; congr 1; funext x; cases x <;> first | rfl | (rename_i b; cases b <;> rfl)
noncomputable def notD : PyData → Res PyData
  | .bool t => .ok (.bool (!t))
  | _ => .bad
theorem notD_app {t : Bool} : notD (.bool t) = .ok (.bool (!t)) := rfl
theorem eNot_app {a : ME} {Γ : Ev} : eNot a Γ = (a Γ).bind notD := rfl
noncomputable def seqO (b : MS) : Out → Res Out
  | .nx Γ' => b Γ'
  | .rt d => .ok (.rt d)
  | .bk Γ' => .ok (.bk Γ')
  | .ct Γ' => .ok (.ct Γ')
theorem seqO_nx {b : MS} {Γ : Ev} : seqO b (.nx Γ) = b Γ := rfl
theorem seqO_rt {b : MS} {d : PyData} : seqO b (.rt d) = .ok (.rt d) := rfl
theorem sSeq_app {a b : MS} {Γ : Ev} : sSeq a b Γ = (a Γ).bind (seqO b) := by
  unfold sSeq seqO; rfl
theorem gd_true {α : Type} {r : Res α} : gd True r = r := rfl
theorem sSet_app {i : Nat} {m : ME} {Γ : Ev} : sSet i m Γ = (m Γ).bind fun d => gd (i < Γ.length) (.ok (.nx (Γ.set i (some d)))) := rfl
theorem sIf_app {c : ME} {a b : MS} {Γ : Ev} : sIf c a b Γ = (c Γ).bind fun x => bS x (a Γ) (b Γ) := by
  unfold sIf bS; rfl
theorem sRet_app {m : ME} {Γ : Ev} : sRet m Γ = (m Γ).bind fun d => .ok (.rt d) := rfl
theorem sNil_app {Γ : Ev} : sNil Γ = .ok (.nx Γ) := rfl
theorem sAsg_app {g : MG} {m : ME} {Γ : Ev} : sAsg g m Γ = (m Γ).bind fun d => (g d Γ).bind fun Γ' => .ok (.nx Γ') := rfl
theorem sFor_app {it : MI} {g : MG} {cl : List Nat} {b : MS} {Γ : Ev} : sFor it g cl b Γ = (it Γ).bind fun xs => forR g cl b xs Γ := rfl
noncomputable def fin : Out → Res PyData
  | .rt d => .ok d
  | _ => .bad
theorem fin_rt {d : PyData} : fin (.rt d) = .ok d := rfl
theorem fnR_app {n : Nat} {m : MS} {ds : List PyData} : fnR n m ds = (m (ds.map some ++ List.replicate (n - ds.length) none)).bind fin := by
  unfold fnR; rfl
noncomputable def appD (Γ : Ev) (i : Nat) (d : PyData) : Option PyData → Res Out
  | some (.list ds) => gd (ds.length < sizeLine ∧ i < Γ.length) (.ok (.nx (Γ.set i (some (.list (ds ++ [d]))))))
  | _ => .bad
theorem appD_app {Γ : Ev} {i : Nat} {d : PyData} {ds : List PyData} : appD Γ i d (some (.list ds)) = gd (ds.length < sizeLine ∧ i < Γ.length) (.ok (.nx (Γ.set i (some (.list (ds ++ [d])))))) := rfl
theorem sApp_app {i : Nat} {m : ME} {Γ : Ev} : sApp i m Γ = (m Γ).bind fun d => appD Γ i d (gv Γ i) := by
  unfold sApp appD; rfl
theorem gN_app {i : Nat} {d : PyData} {Γ : Ev} : gN i d Γ = gd (i < Γ.length) (.ok (Γ.set i (some d))) := rfl
theorem gT_app {gs : List MG} {ds : List PyData} {Γ : Ev} : gT gs (.tuple ds) Γ = gTs gs ds Γ := rfl
theorem gTs_nil {Γ : Ev} : gTs [] [] Γ = .ok Γ := rfl
theorem gTs_cons {g : MG} {gs : List MG} {d : PyData} {ds : List PyData} {Γ : Ev} : gTs (g :: gs) (d :: ds) Γ = (g d Γ).bind fun Γ' => gTs gs ds Γ' := rfl
noncomputable def seqD : PyData → Res (List PyData)
  | .list ds => .ok ds
  | .tuple ds => .ok ds
  | _ => .bad
theorem seqD_list {ds : List PyData} : seqD (.list ds) = .ok ds := rfl
theorem seqD_tuple {ds : List PyData} : seqD (.tuple ds) = .ok ds := rfl
theorem itL_app {m : ME} {Γ : Ev} : itL m Γ = (m Γ).bind seqD := by
  unfold itL seqD; rfl
noncomputable def upN (n : Nat) : List PyData := (List.range n).map fun i => PyData.int (i : Nat)
noncomputable def rng1 : PyData → Res (List PyData)
  | .int j => gd (-(2 ^ 62) ≤ j ∧ j < 2 ^ 62) (.ok (upN j.toNat))
  | _ => .bad
theorem rng1_app {j : Int} : rng1 (.int j) = gd (-(2 ^ 62) ≤ j ∧ j < 2 ^ 62) (.ok (upN j.toNat)) := rfl
theorem rng1_nat {n : Nat} (h : n < 2 ^ 62) : rng1 (.int (n : Nat)) = .ok (upN n) := by
  rw [rng1_app, gd_pos (by omega), Int.toNat_natCast]
theorem itR1_app {m : ME} {Γ : Ev} : itR1 m Γ = (m Γ).bind rng1 := by
  unfold itR1; congr 1; funext d
  cases d with
  | int j => show gd _ _ = gd _ _; congr 2; unfold upN; simp only [Int.zero_add]
  | _ => rfl
theorem clr_nil {Γ : Ev} : clr [] Γ = Γ := rfl
theorem clr_cons {i : Nat} {l : List Nat} {Γ : Ev} : clr (i :: l) Γ = clr l (Γ.set i none) := rfl
theorem addD_int {a b : Int} : addD (.int a) (.int b) = .ok (.int (a + b)) := rfl
theorem subD_int {a b : Int} : subD (.int a) (.int b) = .ok (.int (a - b)) := rfl
theorem mulD_int {a b : Int} : mulD (.int a) (.int b) = gd (CMul a b) (.ok (.int (a * b))) := rfl
theorem fdivD_int {a b : Int} : fdivD (.int a) (.int b) = gd (CDiv a b) (.ok (.int (a / b))) := rfl
theorem modD_int {a b : Int} : modD (.int a) (.int b) = gd (0 < b) (.ok (.int (a % b))) := rfl
theorem shlD_int {a b : Int} : shlD (.int a) (.int b) = gd (CPow a b) (.ok (.int (a * 2 ^ b.toNat))) := rfl
theorem shrD_int {a b : Int} : shrD (.int a) (.int b) = gd (0 ≤ b) (.ok (.int (a / 2 ^ b.toNat))) := rfl
theorem andD_int {a b : Int} : andD (.int a) (.int b) = .ok (.int (Builtin.bitAnd a b)) := rfl
theorem ltD_int {a b : Int} : ltD (.int a) (.int b) = .ok (.bool (decide (a < b))) := rfl
theorem gtD_int {a b : Int} : gtD (.int a) (.int b) = .ok (.bool (decide (b < a))) := rfl
theorem shaped_int {a : Int} : SeqAt.shaped (.int a) = true := by unfold SeqAt.shaped; rw [PyData.canLay0, PyData.depth]; rfl
theorem eqD_int {a b : Int} : eqD (.int a) (.int b) = .ok (.bool (decide (a = b))) := by
  unfold eqD; rw [gd_pos ⟨shaped_int, shaped_int⟩, PyData.eqv]; congr 2
theorem neD_int {a b : Int} : neD (.int a) (.int b) = .ok (.bool (!decide (a = b))) := by
  unfold neD; rw [gd_pos ⟨shaped_int, shaped_int⟩, PyData.eqv]; congr 2
mutual
noncomputable def plain : PyData → Bool
  | .int _ => true
  | .none => true
  | .list ds => plains ds
  | .tuple ds => plains ds
  | .bool _ => false
  | .str _ => false
  | .dict _ => false
noncomputable def plains : List PyData → Bool
  | [] => true
  | d :: ds => plain d && plains ds
end
mutual
theorem plain_lay : ∀ (d : PyData), plain d = true → d.canLay0 = true
  | .int _, _ => by rw [PyData.canLay0]
  | .none, _ => by rw [PyData.canLay0]
  | .list ds, h => by rw [PyData.canLay0]; exact plains_lay ds (by rw [plain] at h; exact h)
  | .tuple ds, h => by rw [PyData.canLay0]; exact plains_lay ds (by rw [plain] at h; exact h)
  | .bool _, h => by rw [plain] at h; cases h
  | .str _, h => by rw [plain] at h; cases h
  | .dict _, h => by rw [plain] at h; cases h
theorem plains_lay : ∀ (ds : List PyData), plains ds = true → PyData.canLayAll0 ds = true
  | [], _ => by rw [PyData.canLayAll0]
  | d :: ds, h => by
    rw [plains, Bool.and_eq_true] at h
    rw [PyData.canLayAll0, plain_lay d h.1, plains_lay ds h.2]; rfl
end
mutual
theorem plain_eqv : ∀ (d e : PyData), plain d = true → plain e = true → (PyData.eqv d e = true ↔ d = e)
  | .int a, .int b, _, _ => by rw [PyData.eqv]; simp
  | .none, .none, _, _ => by rw [PyData.eqv]; simp
  | .list ds, .list es, h, g => by
    rw [plain] at h g
    rw [PyData.eqv, plains_eqv ds es h g]
    exact ⟨fun z => by rw [z], fun z => by cases z; rfl⟩
  | .tuple ds, .tuple es, h, g => by
    rw [plain] at h g
    rw [PyData.eqv, plains_eqv ds es h g]
    exact ⟨fun z => by rw [z], fun z => by cases z; rfl⟩
  | .int _, .none, _, _ | .int _, .list _, _, _ | .int _, .tuple _, _, _ | .none, .int _, _, _ | .none, .list _, _, _ | .none, .tuple _, _, _
  | .list _, .int _, _, _ | .list _, .none, _, _ | .list _, .tuple _, _, _ | .tuple _, .int _, _, _ | .tuple _, .none, _, _ | .tuple _, .list _, _, _ => by
    rw [PyData.eqv]; exact ⟨(fun z => nomatch z), (fun z => nomatch z)⟩
  | .bool _, _, h, _ => by rw [plain] at h; cases h
  | .str _, _, h, _ => by rw [plain] at h; cases h
  | .dict _, _, h, _ => by rw [plain] at h; cases h
  | _, .bool _, _, h => by rw [plain] at h; cases h
  | _, .str _, _, h => by rw [plain] at h; cases h
  | _, .dict _, _, h => by rw [plain] at h; cases h
theorem plains_eqv : ∀ (ds es : List PyData), plains ds = true → plains es = true → (PyData.eqvAll ds es = true ↔ ds = es)
  | [], [], _, _ => by rw [PyData.eqvAll]; simp
  | [], _ :: _, _, _ => by rw [PyData.eqvAll]; simp
  | _ :: _, [], _, _ => by rw [PyData.eqvAll]; simp
  | d :: ds, e :: es, h, g => by
    rw [plains, Bool.and_eq_true] at h g
    rw [PyData.eqvAll, Bool.and_eq_true, plain_eqv d e h.1 g.1, plains_eqv ds es h.2 g.2]
    simp
end
theorem shaped_of {d : PyData} (h : plain d = true) (hd : d.depth ≤ 64) : SeqAt.shaped d = true := by
  unfold SeqAt.shaped; rw [plain_lay d h, decide_eq_true hd]; rfl
theorem eqD_plain {a b : PyData} (ha : plain a = true) (hb : plain b = true) (da : a.depth ≤ 64) (db : b.depth ≤ 64) : (eqD a b = .ok (.bool true) ↔ a = b) ∧ (eqD a b = .ok (.bool false) ↔ a ≠ b) ∧ (neD a b = .ok (.bool true) ↔ a ≠ b) ∧ (neD a b = .ok (.bool false) ↔ a = b) := by
  unfold eqD neD
  rw [gd_pos ⟨shaped_of ha da, shaped_of hb db⟩, gd_pos ⟨shaped_of ha da, shaped_of hb db⟩]
  have h := plain_eqv a b ha hb
  cases q : PyData.eqv a b with
  | true => have e := h.mp q; simp [e]
  | false => have e : a ≠ b := fun z => by rw [h.mpr z] at q; cases q
             simp [e]
theorem eqD_same {a : PyData} (ha : plain a = true) (da : a.depth ≤ 64) : eqD a a = .ok (.bool true) := (eqD_plain ha ha da da).1.mpr rfl
theorem plains_ints : ∀ ns : List Int, plains (ns.map PyData.int) = true
  | [] => by rw [List.map_nil, plains]
  | n :: ns => by rw [List.map_cons, plains, plain, plains_ints ns]; rfl
theorem plain_ints (ns : List Int) : plain (.list (ns.map PyData.int)) = true := by rw [plain]; exact plains_ints ns
theorem plain_tints (ns : List Int) : plain (.tuple (ns.map PyData.int)) = true := by rw [plain]; exact plains_ints ns
theorem depth_list_ints (ns : List Int) : (PyData.list (ns.map PyData.int)).depth ≤ 64 := by rw [PyData.depth, depth_ints]; decide
theorem depth_tuple_ints (ns : List Int) : (PyData.tuple (ns.map PyData.int)).depth ≤ 64 := by rw [PyData.depth, depth_ints]; decide
theorem map_int_inj {a b : List Int} (h : a.map PyData.int = b.map PyData.int) : a = b := by
  have := intsOf_map a
  rw [h, intsOf_map] at this
  exact (Option.some.inj this).symm
theorem eqD_lints {a b : List Int} : eqD (.list (a.map PyData.int)) (.list (b.map PyData.int)) = .ok (.bool (decide (a = b))) := by
  have h := eqD_plain (plain_ints a) (plain_ints b) (depth_list_ints a) (depth_list_ints b)
  by_cases e : a = b
  · subst e; rw [h.1.mpr rfl]; simp
  · rw [h.2.1.mpr fun z => e (map_int_inj (PyData.list.inj z))]; simp [e]
noncomputable def clrO (cl : List Nat) : Out → Res Out
  | .nx Γ => .ok (.nx (clr cl Γ))
  | .ct Γ => .ok (.nx (clr cl Γ))
  | .bk Γ => .ok (.bk (clr cl Γ))
  | .rt d => .ok (.rt d)
theorem clrO_nx {cl : List Nat} {Γ : Ev} : clrO cl (.nx Γ) = .ok (.nx (clr cl Γ)) := rfl
noncomputable def Goes (r : Res Out) (P : Ev → Prop) : Prop := ∃ Γ, r = .ok (.nx Γ) ∧ P Γ
theorem Goes_ok {Γ : Ev} {P : Ev → Prop} : Goes (.ok (.nx Γ)) P ↔ P Γ := ⟨fun hq__ => by obtain ⟨Γ', e, h⟩ := hq__; cases e; exact h, fun h => ⟨Γ, rfl, h⟩⟩
theorem turn_ok {g : MG} {cl : List Nat} {b : MS} {x : PyData} {xs : List PyData} {Γ Γ' : Ev} (h : ((g x Γ).bind b).bind (clrO cl) = .ok (.nx Γ')) : forR g cl b (x :: xs) Γ = forR g cl b xs Γ' := by
  obtain ⟨o, h1, h2⟩ := Res.bind_ok h
  obtain ⟨Γ1, h3, h4⟩ := Res.bind_ok h1
  rw [forR, h3, Res.ok_bind, h4, Res.ok_bind]
  cases o <;> cases h2 <;> rfl
theorem forR_inv {g : MG} {cl : List Nat} {b : MS} (I : Nat → Ev → Prop) : ∀ {xs : List PyData} {Γ : Ev}, I 0 Γ →
    (∀ i x Γ, xs[i]? = some x → I i Γ → Goes (((g x Γ).bind b).bind (clrO cl)) (I (i + 1))) → ∃ Γ', forR g cl b xs Γ = .ok (.nx Γ') ∧ I xs.length Γ' := by
  intro xs
  induction xs generalizing I with
  | nil => intro Γ h0 _; exact ⟨Γ, rfl, h0⟩
  | cons x xs ih =>
    intro Γ h0 hs
    obtain ⟨Γ2, e, h2⟩ := hs 0 x Γ rfl h0
    obtain ⟨Γ', e3, h3⟩ := ih (fun i => I (i + 1)) h2 fun i y Γ hy h => hs (i + 1) y Γ (by simpa using hy) h
    refine ⟨Γ', ?_, h3⟩
    rw [turn_ok e]
    exact e3
theorem forR_eq {g : MG} {cl : List Nat} {b : MS} {xs : List PyData} {Γ : Ev} (S : Nat → Ev) (h0 : Γ = S 0)
    (h : ∀ i x, xs[i]? = some x → ((g x (S i)).bind b).bind (clrO cl) = .ok (.nx (S (i + 1)))) : forR g cl b xs Γ = .ok (.nx (S xs.length)) := by
  obtain ⟨Γ', e, h'⟩ := forR_inv (g := g) (cl := cl) (b := b) (fun i Γ => Γ = S i) (xs := xs) (Γ := Γ) h0 fun i x Γ hx hI => by
    subst hI
    exact ⟨_, h i x hx, rfl⟩
  rw [e, h']
theorem forR_bind {α : Type} {g : MG} {cl : List Nat} {b : MS} {xs : List PyData} {Γ : Ev} {f : Out → Res α} {r : Res α} (S : Nat → Ev) (h0 : Γ = S 0)
    (h : ∀ i x, xs[i]? = some x → ((g x (S i)).bind b).bind (clrO cl) = .ok (.nx (S (i + 1)))) (k : f (.nx (S xs.length)) = r) : (forR g cl b xs Γ).bind f = r := by
  rw [forR_eq S h0 h]; exact k
theorem Res.bind_assoc {α β γ : Type} {r : Res α} {f : α → Res β} {g : β → Res γ} : (r.bind f).bind g = r.bind fun a => (f a).bind g := by cases r <;> rfl
theorem compR_map {g : MG} {e : ME} {Γ : Ev} (F : PyData → PyData) : ∀ {xs : List PyData}, (∀ x ∈ xs, (g x Γ).bind e = .ok (F x)) → compR g (eC (.bool true)) e Γ xs = .ok (xs.map F)
  | [], _ => rfl
  | x :: xs, h => by
    obtain ⟨Γ1, e1, e2⟩ := Res.bind_ok (h x List.mem_cons_self)
    rw [compR, e1, Res.ok_bind, eC_app, Res.ok_bind]
    show (e Γ1).bind _ = _
    rw [e2, Res.ok_bind, compR_map F fun y hy => h y (List.mem_cons_of_mem _ hy)]
    rfl
theorem eComp_map {it : MI} {g : MG} {e : ME} {nt : Nat} {ix : List Nat} {Γ : Ev} {xs : List PyData} (F : PyData → PyData) (hi : it Γ = .ok xs) (hz : xs.length < sizeLine) (h : ∀ x ∈ xs, (g x (blockE nt ix Γ)).bind e = .ok (F x)) :
    eComp it g (eC (.bool true)) e nt ix Γ = .ok (.list (xs.map F)) := by
  unfold eComp
  rw [hi, Res.ok_bind, gd_pos hz, compR_map F h]
  rfl
theorem eComp_upN {it : MI} {g : MG} {e : ME} {nt : Nat} {ix : List Nat} {Γ : Ev} {n : Nat} (F : Nat → PyData) (hi : it Γ = .ok (upN n)) (hz : n < sizeLine) (h : ∀ i, i < n → (g (.int (i : Nat)) (blockE nt ix Γ)).bind e = .ok (F i)) :
    eComp it g (eC (.bool true)) e nt ix Γ = .ok (.list ((List.range n).map F)) := by
  have e1 : (upN n).map (fun d => match d with | .int i => F i.toNat | _ => .none) = (List.range n).map F := by
    unfold upN
    rw [List.map_map]
    refine List.map_congr_left fun i _ => ?_
    show F ((i : Nat) : Int).toNat = F i
    rw [Int.toNat_natCast]
  rw [← e1]
  refine eComp_map _ hi (by unfold upN; rw [List.length_map, List.length_range]; exact hz) fun x hx => ?_
  obtain ⟨i, hi, rfl⟩ := List.mem_map.mp hx
  show _ = Res.ok (F ((i : Nat) : Int).toNat)
  rw [Int.toNat_natCast]
  exact h i (List.mem_range.mp hi)
theorem upN_get {n i : Nat} {x : PyData} (h : (upN n)[i]? = some x) : i < n ∧ x = .int (i : Nat) := by
  unfold upN at h
  rw [List.getElem?_map] at h
  rcases Nat.lt_or_ge i n with hi | hi
  · rw [List.getElem?_range hi] at h; exact ⟨hi, (Option.some.inj h).symm⟩
  · rw [List.getElem?_eq_none (by rw [List.length_range]; exact hi)] at h; cases h
theorem upN_length (n : Nat) : (upN n).length = n := by unfold upN; rw [List.length_map, List.length_range]
theorem blockE_app {nt : Nat} {ix : List Nat} {Γ : Ev} : blockE nt ix Γ = List.replicate nt none ++ ix.map (gv Γ) := rfl
theorem ixD_list {ds : List PyData} {i : Nat} {d : PyData} (h : ds[i]? = some d) : ixD (.list ds) (.int (i : Nat)) = .ok d := by
  show (match L2.atI ds (i : Nat) with | some d => Res.ok d | none => .bad) = _
  rw [L2.atI_nat h]
theorem ixD_tuple {ds : List PyData} {i : Nat} {d : PyData} (h : ds[i]? = some d) : ixD (.tuple ds) (.int (i : Nat)) = .ok d := by
  show (match L2.atI ds (i : Nat) with | some d => Res.ok d | none => .bad) = _
  rw [L2.atI_nat h]
theorem lenD_list {ds : List PyData} : lenD [.list ds] = .ok (.int ds.length) := rfl
theorem lenD_tuple {ds : List PyData} : lenD [.tuple ds] = .ok (.int ds.length) := rfl
theorem tupleD_list {ds : List PyData} : tupleD [.list ds] = .ok (.tuple ds) := rfl
theorem truD_bool {b : Bool} : truD (.bool b) = .ok (.bool b) := rfl
noncomputable def enmD : PyData → Res (List PyData)
  | .list ds => .ok (enumL ds)
  | .tuple ds => .ok (enumL ds)
  | _ => .bad
theorem enmD_tup {ds : List PyData} : enmD (.tuple ds) = .ok (enumL ds) := rfl
theorem itE_app {m : ME} {Γ : Ev} : itE m Γ = (m Γ).bind enmD := by
  unfold itE enmD; rfl
theorem enumL_length (ds : List PyData) : (enumL ds).length = ds.length := by unfold enumL; rw [List.length_map, List.length_range]
theorem enumL_get {ds : List PyData} {i : Nat} {x : PyData} (h : (enumL ds)[i]? = some x) : ∃ d, ds[i]? = some d ∧ x = .tuple [.int (i : Nat), d] := by
  unfold enumL at h
  rw [List.getElem?_map] at h
  rcases Nat.lt_or_ge i ds.length with hi | hi
  · rw [List.getElem?_range hi] at h
    refine ⟨ds[i], List.getElem?_eq_getElem hi, ?_⟩
    have e : PyData.tuple [.int (i : Nat), ds.getD i .none] = x := Option.some.inj h
    rw [← e, List.getD_eq_getElem?_getD, List.getElem?_eq_getElem hi]
    rfl
  · rw [List.getElem?_eq_none (by rw [List.length_range]; exact hi)] at h; cases h
theorem compR_filter {g : MG} {c e : ME} {Γ : Ev} (p : PyData → Bool) (F : PyData → PyData) : ∀ {xs : List PyData}, (∀ x ∈ xs, (g x Γ).bind c = .ok (.bool (p x))) → (∀ x ∈ xs, p x = true → (g x Γ).bind e = .ok (F x)) → compR g c e Γ xs = .ok ((xs.filter p).map F)
  | [], _, _ => rfl
  | x :: xs, h, h' => by
    obtain ⟨Γ1, e1, e2⟩ := Res.bind_ok (h x List.mem_cons_self)
    rw [compR, e1, Res.ok_bind, e2, Res.ok_bind]
    have ih := compR_filter p F (fun y hy => h y (List.mem_cons_of_mem _ hy)) (fun y hy => h' y (List.mem_cons_of_mem _ hy))
    cases hp : p x with
    | true =>
      have e3 := h' x List.mem_cons_self hp
      rw [e1, Res.ok_bind] at e3
      show (e Γ1).bind _ = _
      rw [e3, Res.ok_bind, ih, List.filter_cons_of_pos hp]
      rfl
    | false =>
      show compR g c e Γ xs = _
      rw [ih, List.filter_cons_of_neg (by rw [hp]; exact Bool.false_ne_true)]
theorem eComp_filter {it : MI} {g : MG} {c e : ME} {nt : Nat} {ix : List Nat} {Γ : Ev} {xs : List PyData} (p : PyData → Bool) (F : PyData → PyData) (hi : it Γ = .ok xs) (hz : xs.length < sizeLine)
    (h : ∀ x ∈ xs, (g x (blockE nt ix Γ)).bind c = .ok (.bool (p x))) (h' : ∀ x ∈ xs, p x = true → (g x (blockE nt ix Γ)).bind e = .ok (F x)) : eComp it g c e nt ix Γ = .ok (.list ((xs.filter p).map F)) := by
  unfold eComp
  rw [hi, Res.ok_bind, gd_pos hz, compR_filter p F h h']
  rfl
theorem eComp_filterN {it : MI} {g : MG} {c e : ME} {nt : Nat} {ix : List Nat} {Γ : Ev} {n : Nat} (p : Nat → Bool) (F : Nat → PyData) (hi : it Γ = .ok (upN n)) (hz : n < sizeLine)
    (h : ∀ i, i < n → (g (.int (i : Nat)) (blockE nt ix Γ)).bind c = .ok (.bool (p i))) (h' : ∀ i, i < n → p i = true → (g (.int (i : Nat)) (blockE nt ix Γ)).bind e = .ok (F i)) : eComp it g c e nt ix Γ = .ok (.list (((List.range n).filter p).map F)) := by
  have e1 : ((upN n).filter (fun d => match d with | .int i => p i.toNat | _ => false)).map (fun d => match d with | .int i => F i.toNat | _ => .none) = ((List.range n).filter p).map F := by
    unfold upN
    rw [List.filter_map, List.map_map]
    have e2 : ((fun d => match d with | .int i => p i.toNat | _ => false) ∘ fun (i : Nat) => PyData.int (i : Nat)) = p := by
      funext i; show p ((i : Nat) : Int).toNat = p i; rw [Int.toNat_natCast]
    rw [e2]
    refine List.map_congr_left fun i _ => ?_
    show F ((i : Nat) : Int).toNat = F i
    rw [Int.toNat_natCast]
  rw [← e1]
  refine eComp_filter _ _ hi (by rw [upN_length]; exact hz) (fun x hx => ?_) fun x hx hp => ?_
  · obtain ⟨i, hi, rfl⟩ := List.mem_map.mp hx
    show _ = Res.ok (PyData.bool (p ((i : Nat) : Int).toNat))
    rw [Int.toNat_natCast]
    exact h i (List.mem_range.mp hi)
  · obtain ⟨i, hi, rfl⟩ := List.mem_map.mp hx
    have hp' : p ((i : Nat) : Int).toNat = true := hp
    show _ = Res.ok (F ((i : Nat) : Int).toNat)
    rw [Int.toNat_natCast] at hp' ⊢
    exact h' i (List.mem_range.mp hi) hp'
theorem compR_enc {α : Type} {g : MG} {c e : ME} {Γ : Ev} (enc : α → PyData) (p : α → Bool) (F : α → PyData) : ∀ {xs : List α}, (∀ a ∈ xs, (g (enc a) Γ).bind c = .ok (.bool (p a))) → (∀ a ∈ xs, p a = true → (g (enc a) Γ).bind e = .ok (F a)) → compR g c e Γ (xs.map enc) = .ok ((xs.filter p).map F)
  | [], _, _ => rfl
  | x :: xs, h, h' => by
    obtain ⟨Γ1, e1, e2⟩ := Res.bind_ok (h x List.mem_cons_self)
    rw [List.map_cons, compR, e1, Res.ok_bind, e2, Res.ok_bind]
    have ih := compR_enc enc p F (fun y hy => h y (List.mem_cons_of_mem _ hy)) (fun y hy => h' y (List.mem_cons_of_mem _ hy))
    cases hp : p x with
    | true =>
      have e3 := h' x List.mem_cons_self hp
      rw [e1, Res.ok_bind] at e3
      show (e Γ1).bind _ = _
      rw [e3, Res.ok_bind, ih, List.filter_cons_of_pos hp]
      rfl
    | false =>
      show compR g c e Γ (xs.map enc) = _
      rw [ih, List.filter_cons_of_neg (by rw [hp]; exact Bool.false_ne_true)]
theorem eComp_encF {α : Type} {it : MI} {g : MG} {c e : ME} {nt : Nat} {ix : List Nat} {Γ : Ev} {xs : List α} (enc : α → PyData) (p : α → Bool) (F : α → PyData) (hi : it Γ = .ok (xs.map enc)) (hz : xs.length < sizeLine)
    (h : ∀ a ∈ xs, (g (enc a) (blockE nt ix Γ)).bind c = .ok (.bool (p a))) (h' : ∀ a ∈ xs, p a = true → (g (enc a) (blockE nt ix Γ)).bind e = .ok (F a)) : eComp it g c e nt ix Γ = .ok (.list ((xs.filter p).map F)) := by
  unfold eComp
  rw [hi, Res.ok_bind, gd_pos (by rw [List.length_map]; exact hz), compR_enc enc p F h h']
  rfl
theorem eComp_enc {α : Type} {it : MI} {g : MG} {e : ME} {nt : Nat} {ix : List Nat} {Γ : Ev} {xs : List α} (enc : α → PyData) (F : α → PyData) (hi : it Γ = .ok (xs.map enc)) (hz : xs.length < sizeLine)
    (h : ∀ a ∈ xs, (g (enc a) (blockE nt ix Γ)).bind e = .ok (F a)) : eComp it g (eC (.bool true)) e nt ix Γ = .ok (.list (xs.map F)) := by
  rw [eComp_encF enc (fun _ => true) F hi hz (fun a ha => ?_) fun a ha _ => h a ha, List.filter_eq_self.mpr fun _ _ => rfl]
  obtain ⟨Γ1, e1, e2⟩ := Res.bind_ok (h a ha)
  rw [e1]; rfl
theorem enc_get {α : Type} {enc : α → PyData} {xs : List α} {i : Nat} {x : PyData} (h : (xs.map enc)[i]? = some x) : ∃ a, xs[i]? = some a ∧ x = enc a := by
  rw [List.getElem?_map] at h
  cases e : xs[i]? with
  | none => rw [e] at h; cases h
  | some v => rw [e] at h; exact ⟨v, rfl, (Option.some.inj h).symm⟩
noncomputable def Gives {α : Type} (r : Res α) (P : α → Prop) : Prop := ∃ a, r = .ok a ∧ P a
theorem Gives_ok {α : Type} {a : α} {P : α → Prop} : Gives (.ok a) P ↔ P a := ⟨fun hq__ => by obtain ⟨b, e, h⟩ := hq__; cases e; exact h, fun h => ⟨a, rfl, h⟩⟩
theorem forR_gives {α : Type} {g : MG} {cl : List Nat} {b : MS} {xs : List PyData} {Γ : Ev} {f : Out → Res α} {P : α → Prop} (I : Nat → Ev → Prop) (h0 : I 0 Γ)
    (h : ∀ i x Γ, xs[i]? = some x → I i Γ → Goes (((g x Γ).bind b).bind (clrO cl)) (I (i + 1))) (k : ∀ Γ, I xs.length Γ → Gives (f (.nx Γ)) P) : Gives ((forR g cl b xs Γ).bind f) P := by
  obtain ⟨Γ', e, h'⟩ := forR_inv I h0 h
  rw [e]; exact k Γ' h'
theorem forR_goes {g : MG} {cl : List Nat} {b : MS} {xs : List PyData} {Γ : Ev} {f : Out → Res Out} {P : Ev → Prop} (I : Nat → Ev → Prop) (h0 : I 0 Γ)
    (h : ∀ i x Γ, xs[i]? = some x → I i Γ → Goes (((g x Γ).bind b).bind (clrO cl)) (I (i + 1))) (k : ∀ Γ, I xs.length Γ → Goes (f (.nx Γ)) P) : Goes ((forR g cl b xs Γ).bind f) P := by
  obtain ⟨Γ', e, h'⟩ := forR_inv I h0 h
  rw [e]; exact k Γ' h'
theorem ixD_t0 {a : PyData} {ds : List PyData} : ixD (.tuple (a :: ds)) (.int 0) = .ok a := ixD_tuple (i := 0) rfl
theorem ixD_t1 {a b : PyData} {ds : List PyData} : ixD (.tuple (a :: b :: ds)) (.int 1) = .ok b := ixD_tuple (i := 1) rfl
theorem ixD_t2 {a b c : PyData} {ds : List PyData} : ixD (.tuple (a :: b :: c :: ds)) (.int 2) = .ok c := ixD_tuple (i := 2) rfl
noncomputable def dG (n : Nat) (b : Int) : PyData := .tuple [.int (n : Nat), .int b]
noncomputable def dL (ns : List Int) : PyData := .list (ns.map PyData.int)
theorem ix0 {n : Nat} {b : Int} : ixD (dG n b) (.int 0) = .ok (.int (n : Nat)) := rfl
theorem ix1 {n : Nat} {b : Int} : ixD (dG n b) (.int 1) = .ok (.int b) := rfl
theorem lenD_dL {ns : List Int} : lenD [dL ns] = .ok (.int ns.length) := by unfold dL; rw [lenD_list, List.length_map]
theorem plain_dG {n : Nat} {b : Int} : plain (dG n b) = true := plain_tints [(n : Nat), b]
theorem depth_dG {n : Nat} {b : Int} : (dG n b).depth ≤ 64 := depth_tuple_ints [(n : Nat), b]
theorem dG_inj {n m : Nat} {a b : Int} (z : dG n a = dG m b) : n = m ∧ a = b := by
  unfold dG at z; injection z with z; injection z with z1 z2; injection z2 with z3 z4; injection z1 with z5; injection z3 with z6; exact ⟨by omega, z6⟩
theorem eqD_dG {n m : Nat} {a b : Int} : eqD (dG n a) (dG m b) = .ok (.bool (decide (n = m ∧ a = b))) := by
  have h := eqD_plain (a := dG n a) (b := dG m b) plain_dG plain_dG depth_dG depth_dG
  by_cases e : n = m ∧ a = b
  · obtain ⟨rfl, rfl⟩ := e; rw [h.1.mpr rfl]; simp
  · rw [h.2.1.mpr fun z => e (dG_inj z)]; simp [e]
end L3
namespace L3
open PySem L2
theorem lrD_app {n : Int} : lrD (.int n) = gd (-(2 ^ 20) ≤ n ∧ n ≤ 2 ^ 20) (.ok (.list (upN n.toNat))) := rfl
end L3
set_option hygiene false in
local macro_rules | `(tactic| walk_at "ev") => `(tactic| simp (config := { decide := true, implicitDefEqProofs := false }) only [L3.fnR_app, L3.sSeq_app, L3.seqO_nx, L3.seqO_rt, L3.gd_true, L3.sSet_app, L3.sIf_app, L3.sRet_app, L3.sNil_app, L3.sAsg_app, L3.sFor_app, L3.sApp_app, L3.appD_app, L3.lrD_app, L3.itE_app, L3.gv_zero, L3.gv_succ, L3.eVar_zero, L3.eVar_succ, L3.eC_app, L3.eBin_app, L3.eUn_app, L3.eFn_app, L3.eCall_app, L3.evs_nil, L3.evs_cons, L3.eTup_app, L3.eLst_app, L3.eIsi_app, L3.eAnd_app, L3.eOr_app, L3.eNot_app, L3.notD_app, L3.itL_app, L3.itR1_app, L3.seqD_list, L3.seqD_tuple, L3.gN_app, L3.gT_app, L3.gTs_nil, L3.gTs_cons, L3.clr_nil, L3.clrO_nx, L3.Goes_ok, L3.Gives_ok, L3.clr_cons, L3.blockE_app, L3.Res.ok_bind, L3.Res.bind_assoc, L3.fin_rt, L3.bT_false, L3.bS_true, L3.bS_false, L3.addD_int, L3.subD_int, L3.mulD_int, L3.fdivD_int, L3.modD_int, L3.shlD_int, L3.shrD_int, L3.andD_int, L3.ltD_int, L3.gtD_int, L3.eqD_int, L3.neD_int, L3.ixD_t0, L3.ixD_t1, L3.ixD_t2, L3.ix0, L3.ix1, L3.lenD_dL, L3.eqD_dG, L3.lenD_list, L3.lenD_tuple, L3.tupleD_list, L3.truD_bool, decide_false, decide_true, if_true, if_false, Bool.not_true, Bool.not_false, and_true, true_and, List.map_cons, List.map_nil, List.length_cons, List.length_nil, List.length_map, List.length_range, List.replicate_succ, List.replicate_zero, List.cons_append, List.nil_append, List.set_cons_zero, List.set_cons_succ, Nat.reduceSub, Nat.reduceAdd, Nat.zero_add])
set_option hygiene false in
local macro_rules | `(tactic| walk_at "gd") => `(tactic| (rw [L3.gd_pos (by first | omega (config := {}) | (unfold L2.CMul; omega (config := {})) | (unfold L2.CDiv; omega (config := {})) | (unfold L2.CPow; omega (config := {})) | (simp (config := { decide := true }) only [L2.sizeLine_eq, List.length_append, List.length_map, List.length_range, List.length_take, List.length_drop, List.length_cons, List.length_nil]; omega (config := {})))]))
set_option hygiene false in
local macro_rules | `(tactic| walk_at "go") => `(tactic| (repeat (first | walk_at "ev" | walk_at "gd")))
namespace Prog
open PySem L2 L3 Gk
theorem small_pow {n : Nat} (h : n ≤ 4) : 2 ^ n ≤ 16 := by
  have : n = 0 ∨ n = 1 ∨ n = 2 ∨ n = 3 ∨ n = 4 := by omega
  rcases this with rfl | rfl | rfl | rfl | rfl <;> decide
theorem rng1_pow {n : Nat} (h : n ≤ 4) : rng1 (.int (2 ^ n)) = .ok (upN (2 ^ n)) := by
  have e : ((2 : Int) ^ n) = (((2 ^ n : Nat)) : Int) := by simp
  have := small_pow h
  rw [e, rng1_nat (by omega)]
theorem size_le {n : Nat} (h : n ≤ 100000) : n < sizeLine := Nat.lt_of_le_of_lt h (by decide)
theorem map_int {n : Nat} {f : Nat → Int} : (List.range n).map (fun i => PyData.int (f i)) = ((List.range n).map f).map PyData.int := by rw [List.map_map]; rfl
theorem beyond {n : Nat} (h : n ≤ 4) : ixD (.list [.int 2, .int 4, .int 16, .int 256, .int 65536]) (.int (n : Nat)) = .ok (.int (2 ^ 2 ^ n)) := by
  have : n = 0 ∨ n = 1 ∨ n = 2 ∨ n = 3 ∨ n = 4 := by omega
  rcases this with rfl | rfl | rfl | rfl | rfl <;> rfl
theorem modN (a : Int) {m : Int} (h : 0 < m) : ∃ n : Nat, a % m = (n : Nat) ∧ (n : Int) < m :=
  ⟨(a % m).toNat, by have := Int.emod_nonneg a (show m ≠ 0 by omega); omega, by have := Int.emod_lt_of_pos a h; have := Int.emod_nonneg a (show m ≠ 0 by omega); omega⟩
end Prog
namespace Prog
open PySem L2 L3 Gk
structure CStep where
  m : Nat
  b : Int
  ws : List Nat
noncomputable def dN (ks : List Nat) : List PyData := ks.map fun k => PyData.int (k : Nat)
noncomputable def CStep.d (s : CStep) : PyData := .tuple [dG s.m s.b, .tuple (dN s.ws)]
structure CStep.Ok (t : Nat) (s : CStep) : Prop where
  m4 : s.m ≤ 4
  len : s.ws.length = s.m
  lt : ∀ k ∈ s.ws, k < t
  b0 : 0 ≤ s.b
  b1 : s.b < 2 ^ 2 ^ s.m
noncomputable def StepsOk (n : Nat) (ss : List CStep) : Prop := ∀ (i : Nat) (s : CStep), ss[i]? = some s → s.Ok (n + i)
noncomputable def dC (n : Nat) (ss : List CStep) (o : Nat) : PyData := .tuple [.int (n : Nat), .tuple (ss.map CStep.d), .int (o : Nat)]
noncomputable def stepV (vs : List Int) (s : CStep) : List Int := vs ++ [bitI s.b (gnum (s.ws.map fun k => vs.getD k 0))]
noncomputable def valsI (n : Nat) (ss : List CStep) (r : Nat) : List Int := ss.foldl stepV (bitsOf n r)
theorem vals_snoc {n : Nat} {ss : List CStep} {s : CStep} {r : Nat} : valsI n (ss ++ [s]) r = stepV (valsI n ss r) s := by unfold valsI; rw [List.foldl_append]; rfl
theorem snoc_ind {α : Type} {P : List α → Prop} (h0 : P []) (h : ∀ l a, P l → P (l ++ [a])) (l : List α) : P l := by
  have : ∀ k : Nat, ∀ l : List α, l.length = k → P l := by
    intro k
    induction k with
    | zero => intro l hl; rw [List.length_eq_zero_iff.mp hl]; exact h0
    | succ k ih =>
      intro l hl
      have hne : l ≠ [] := fun z => by rw [z] at hl; cases hl
      rw [← List.dropLast_concat_getLast hne]
      exact h _ _ (ih _ (by rw [List.length_dropLast, hl]; rfl))
  exact this _ l rfl
theorem vals_length {n : Nat} {ss : List CStep} {r : Nat} : (valsI n ss r).length = n + ss.length := by
  induction ss using snoc_ind with
  | h0 => unfold valsI; simp [bitsOf_length]
  | h l a ih => rw [vals_snoc]; unfold stepV; rw [List.length_append, ih, List.length_append]; simp; omega
theorem vals_01 {n : Nat} {ss : List CStep} {r : Nat} : All01 (valsI n ss r) := by
  induction ss using snoc_ind with
  | h0 => unfold valsI; exact All01.bitsOf
  | h l a ih =>
    rw [vals_snoc]; unfold stepV
    intro x hx
    rcases List.mem_append.mp hx with z | z
    · exact ih x z
    · rw [List.mem_singleton.mp z]; exact bitI_01 _ _
theorem getD_01 {vs : List Int} (h : All01 vs) (k : Nat) : vs.getD k 0 = 0 ∨ vs.getD k 0 = 1 := by
  rw [List.getD_eq_getElem?_getD]
  cases e : vs[k]? with
  | none => exact .inl rfl
  | some x => exact h x (List.mem_of_getElem? e)
theorem StepsOk.nil {n : Nat} : StepsOk n [] := fun i s h => by cases h
theorem StepsOk.snoc {n : Nat} {ss : List CStep} {s : CStep} (h : StepsOk n ss) (hs : s.Ok (n + ss.length)) : StepsOk n (ss ++ [s]) := fun i t ht => by
  rcases Nat.lt_or_ge i ss.length with hi | hi
  · rw [List.getElem?_append_left hi] at ht; exact h i t ht
  · rw [List.getElem?_append_right hi] at ht
    have : i - ss.length = 0 := by
      have := (List.getElem?_eq_some_iff.mp ht).1
      simp at this; omega
    rw [this] at ht
    have e : s = t := Option.some.inj ht
    subst e
    rw [show i = ss.length by omega]; exact hs
theorem CStep.Ok.mono {t u : Nat} {s : CStep} (h : s.Ok t) (k : t ≤ u) : s.Ok u := ⟨h.m4, h.len, fun x hx => Nat.lt_of_lt_of_le (h.lt x hx) k, h.b0, h.b1⟩
theorem getD_ix {ts : List Int} {k : Nat} (h : k < ts.length) : ixD (dL ts) (.int (k : Nat)) = .ok (.int (ts.getD k 0)) := by
  unfold dL
  refine ixD_list (i := k) ?_
  rw [List.getElem?_map, List.getD_eq_getElem?_getD, List.getElem?_eq_getElem h]; rfl
theorem steps_take {ss : List CStep} {i : Nat} {s : CStep} (h : ss[i]? = some s) : ss.take (i + 1) = ss.take i ++ [s] := by
  rw [List.take_add_one, h]; rfl
theorem sumD_ints {xs : List Int} : sumD [.list (xs.map PyData.int)] = .ok (.int xs.sum) := by
  show (match intsOf (xs.map PyData.int) with | some ns => Res.ok (PyData.int ns.sum) | none => .bad) = _
  rw [intsOf_map]
theorem sum_powers : ∀ (xs : List Int), ((List.range xs.length).map fun i => xs.getD i 0 * 2 ^ i).sum = gnum xs := by
  intro xs
  induction xs using snoc_ind with
  | h0 => rfl
  | h l a ih =>
    rw [List.length_append, List.length_singleton, List.range_succ, List.map_append, List.sum_append, gnum_snoc, ← ih]
    congr 1
    · congr 1
      refine List.map_congr_left fun i hi => ?_
      rw [List.getD_eq_getElem?_getD, List.getD_eq_getElem?_getD, List.getElem?_append_left (List.mem_range.mp hi)]
    · show List.sum [(l ++ [a]).getD l.length 0 * 2 ^ l.length] = _
      rw [List.getD_eq_getElem?_getD, List.getElem?_append_right (Nat.le_refl _), Nat.sub_self]
      show a * 2 ^ l.length + 0 = _
      rw [Int.add_zero, Int.mul_comm]
theorem bitAnd1 (b : Int) (k : Nat) : Builtin.bitAnd (b / 2 ^ k) 1 = bitI b (k : Nat) := by
  rw [PyProof.Rows.bitAnd_m1]; unfold bitI; rw [Int.toNat_natCast]
end Prog
namespace Prog
open PySem L2 L3 Gk
theorem depthAll_le {k : Nat} : ∀ {ds : List PyData}, (∀ d ∈ ds, d.depth ≤ k) → PyData.depthAll ds ≤ k
  | [], _ => by rw [PyData.depthAll]; exact Nat.zero_le _
  | d :: ds, h => by
    rw [PyData.depthAll]
    exact Nat.max_le.mpr ⟨h d List.mem_cons_self, depthAll_le fun e he => h e (List.mem_cons_of_mem _ he)⟩
theorem depth_tup {k : Nat} {ds : List PyData} (h : ∀ d ∈ ds, d.depth ≤ k) : (PyData.tuple ds).depth ≤ k + 1 := by
  rw [PyData.depth]
  have := depthAll_le h
  omega
theorem plains_of {ds : List PyData} (h : ∀ d ∈ ds, plain d = true) : plains ds = true := by
  induction ds with
  | nil => rw [plains]
  | cons d ds ih => rw [plains, h d List.mem_cons_self, ih fun e he => h e (List.mem_cons_of_mem _ he)]; rfl
theorem plain_tup {ds : List PyData} (h : ∀ d ∈ ds, plain d = true) : plain (.tuple ds) = true := by rw [L3.plain]; exact plains_of h
theorem plain_I {i : Int} : plain (.int i) = true := by rw [L3.plain]
theorem depth_I {i : Int} : (PyData.int i).depth ≤ 0 := by rw [PyData.depth]; exact Nat.le_refl _
theorem plain_dN {ws : List Nat} : plain (.tuple (dN ws)) = true := plain_tup fun d hd => by
  obtain ⟨k, _, rfl⟩ := List.mem_map.mp hd; exact plain_I
theorem depth_dN {ws : List Nat} : (PyData.tuple (dN ws)).depth ≤ 1 := depth_tup (k := 0) fun d hd => by
  obtain ⟨k, _, rfl⟩ := List.mem_map.mp hd; exact depth_I
theorem depth_dG1 {n : Nat} {b : Int} : (dG n b).depth ≤ 1 := depth_tup (k := 0) fun d hd => by
  rcases List.mem_cons.mp hd with rfl | hd
  · exact depth_I
  · rw [List.mem_singleton.mp hd]; exact depth_I
theorem plain_step (s : CStep) : plain s.d = true := plain_tup fun d hd => by
  rcases List.mem_cons.mp hd with rfl | hd
  · exact plain_dG
  · rw [List.mem_singleton.mp hd]; exact plain_dN
theorem depth_step (s : CStep) : s.d.depth ≤ 2 := depth_tup (k := 1) fun d hd => by
  rcases List.mem_cons.mp hd with rfl | hd
  · exact depth_dG1
  · rw [List.mem_singleton.mp hd]; exact depth_dN
theorem plain_dC (n : Nat) (ss : List CStep) (o : Nat) : plain (dC n ss o) = true := plain_tup fun d hd => by
  rcases List.mem_cons.mp hd with rfl | hd
  · exact plain_I
  · rcases List.mem_cons.mp hd with rfl | hd
    · exact plain_tup fun d hd => by obtain ⟨s, _, rfl⟩ := List.mem_map.mp hd; exact plain_step s
    · rw [List.mem_singleton.mp hd]; exact plain_I
theorem depth_dC (n : Nat) (ss : List CStep) (o : Nat) : (dC n ss o).depth ≤ 64 := Nat.le_trans (depth_tup (k := 3) fun d hd => by
  rcases List.mem_cons.mp hd with rfl | hd
  · exact Nat.le_trans depth_I (by decide)
  · rcases List.mem_cons.mp hd with rfl | hd
    · exact depth_tup (k := 2) fun d hd => by obtain ⟨s, _, rfl⟩ := List.mem_map.mp hd; exact depth_step s
    · rw [List.mem_singleton.mp hd]; exact Nat.le_trans depth_I (by decide)) (by decide)
theorem eqD_dC (n : Nat) (ss : List CStep) (o : Nat) : eqD (dC n ss o) (dC n ss o) = .ok (.bool true) := eqD_same (plain_dC n ss o) (depth_dC n ss o)
theorem ixC0 {n : Nat} {ss : List CStep} {o : Nat} : ixD (dC n ss o) (.int 0) = .ok (.int (n : Nat)) := rfl
theorem ixC1 {n : Nat} {ss : List CStep} {o : Nat} : ixD (dC n ss o) (.int 1) = .ok (.tuple (ss.map CStep.d)) := rfl
theorem ixC2 {n : Nat} {ss : List CStep} {o : Nat} : ixD (dC n ss o) (.int 2) = .ok (.int (o : Nat)) := rfl
theorem isi_dC {n : Nat} {ss : List CStep} {o : Nat} : isiD "tuple" (dC n ss o) = true := rfl
theorem StepsOk.init {n : Nat} {ss : List CStep} {s : CStep} (h : StepsOk n (ss ++ [s])) : StepsOk n ss ∧ s.Ok (n + ss.length) := by
  refine ⟨fun i t e => h i t ?_, h ss.length s ?_⟩
  · rw [List.getElem?_append_left (List.getElem?_eq_some_iff.mp e).1]; exact e
  · rw [List.getElem?_append_right (Nat.le_refl _), Nat.sub_self]; rfl
end Prog
namespace Prog
open PySem L2 L3 Gk
end Prog
namespace Prog
open PySem L2 L3 Gk
theorem take_snoc {α : Type} {l : List α} {i : Nat} {x : α} (h : l[i]? = some x) : l.take (i + 1) = l.take i ++ [x] := by
  rw [List.take_succ, h]; rfl
end Prog
namespace Prog
open PySem L2 L3 Gk
noncomputable def dT (m : Nat) (b : Int) (ds : List PyData) : PyData := .tuple [dG m b, .tuple ds]
end Prog
namespace Prog
open PySem L2 L3 Gk
noncomputable def ren (n1 t : Nat) (hs : List Nat) (w : Nat) : Nat := if w < n1 then hs.getD w 0 else t + (w - n1)
noncomputable def mv (n1 t : Nat) (hs : List Nat) (s : CStep) : CStep := ⟨s.m, s.b, s.ws.map (ren n1 t hs)⟩
theorem dN_ix {ks : List Nat} {w : Nat} (h : w < ks.length) : ixD (.list (dN ks)) (.int (w : Nat)) = .ok (.int (ks.getD w 0 : Nat)) := by
  refine ixD_list ?_
  unfold dN
  rw [List.getElem?_map, List.getElem?_eq_getElem h, List.getD_eq_getElem?_getD, List.getElem?_eq_getElem h]
  rfl
theorem dN_app {a b : List Nat} : dN (a ++ b) = dN a ++ dN b := by unfold dN; rw [List.map_append]
theorem dN_len {a : List Nat} : (dN a).length = a.length := by unfold dN; rw [List.length_map]
theorem p_renamed {s : CStep} {ks : List Nat} (hw : ∀ w ∈ s.ws, w < ks.length) (hl : s.ws.length ≤ 100) : m_renamed [s.d, .list (dN ks)] = .ok (CStep.mk s.m s.b (s.ws.map fun w => ks.getD w 0)).d := by
  unfold m_renamed CStep.d
  walk_at "ev"
  rw [eComp_enc (xs := s.ws) (fun w => PyData.int (w : Nat)) (fun w => .int (ks.getD w 0 : Nat)) ?_ (size_le (by omega)) fun w hw' => ?_]
  rotate_left
  · walk_at "ev"
    rfl
  · walk_at "ev"
    exact dN_ix (hw w hw')
  walk_at "ev"
  unfold dN
  rw [List.map_map]
  rfl
noncomputable abbrev Part := List CStep × Nat
structure Part.Ok (n : Nat) (p : Part) : Prop where
  st : StepsOk n p.1
  le : p.1.length ≤ 600
  lt : p.2 < n + p.1.length
end Prog
namespace Prog
open PySem L2 L3 Gk
end Prog
namespace Prog
open PySem L2 L3 Gk
noncomputable def foldW {β : Type} (φ : Nat → Int → List β → β) (z : β) (base : List β) (ss : List CStep) : List β := ss.foldl (fun xs s => xs ++ [φ s.m s.b (s.ws.map fun w => xs.getD w z)]) base
section
variable {β : Type} {φ : Nat → Int → List β → β} {z : β} {base : List β} {n : Nat}
theorem fold_snoc {ss : List CStep} {s : CStep} : foldW φ z base (ss ++ [s]) = foldW φ z base ss ++ [φ s.m s.b (s.ws.map fun w => (foldW φ z base ss).getD w z)] := by unfold foldW; rw [List.foldl_append]; rfl
theorem fold_length (hb : base.length = n) {ss : List CStep} : (foldW φ z base ss).length = n + ss.length := by
  induction ss using snoc_ind with
  | h0 => exact hb
  | h ss s ih => rw [fold_snoc, List.length_append, ih, List.length_append]; rfl
theorem b_left {xs ys : List β} {w : Nat} (h : w < xs.length) : (xs ++ ys).getD w z = xs.getD w z := by
  rw [List.getD_eq_getElem?_getD, List.getElem?_append_left h, List.getD_eq_getElem?_getD]
theorem fold_pre (hb : base.length = n) {acc : List CStep} {w : Nat} (hw : w < n + acc.length) (more : List CStep) : (foldW φ z base (acc ++ more)).getD w z = (foldW φ z base acc).getD w z := by
  induction more using snoc_ind with
  | h0 => rw [List.append_nil]
  | h ss s ih =>
    rw [← List.append_assoc, fold_snoc, b_left (by rw [fold_length hb, List.length_append]; omega), ih]
end
end Prog
namespace Prog
open PySem L2 L3 Gk
noncomputable def kS (s : CStep) : NKey := [[(s.m : Int), s.b], s.ws.map fun w => ((w : Nat) : Int)]
theorem natI_inj : ∀ {a b : List Nat}, (a.map fun w => ((w : Nat) : Int)) = (b.map fun w => ((w : Nat) : Int)) → a = b
  | [], [], _ => rfl
  | [], _ :: _, e => by cases e
  | _ :: _, [], e => by cases e
  | x :: xs, y :: ys, e => by
    rw [List.map_cons, List.map_cons] at e
    injection e with e1 e2
    rw [Int.ofNat.inj e1, natI_inj e2]
theorem kS_inj {s t : CStep} (h : kS s = kS t) : s = t := by
  obtain ⟨m, b, ws⟩ := s
  obtain ⟨m', b', ws'⟩ := t
  unfold kS at h
  injection h with h1 h2
  injection h1 with h3 h4
  injection h4 with h5 _
  injection h2 with h6 _
  rw [show m = m' from Int.ofNat.inj h3, show b = b' from h5, show ws = ws' from natI_inj h6]
theorem intsD_dN : ∀ ks : List Nat, intsD (dN ks) = some (ks.map fun w => ((w : Nat) : Int))
  | [] => rfl
  | k :: ks => by
    show (match intsD (dN ks) with | some l => some (((k : Nat) : Int) :: l) | none => none) = _
    rw [intsD_dN ks]; rfl
theorem keyN_d (s : CStep) : keyN s.d = some (kS s) := by
  show (match intsD [PyData.int (s.m : Nat), .int s.b], keysD [.tuple (dN s.ws)] with | some a, some b => some (a :: b) | _, _ => none) = _
  have e : keysD [.tuple (dN s.ws)] = some [s.ws.map fun w => ((w : Nat) : Int)] := by
    show (match intsD (dN s.ws), keysD [] with | some a, some b => some (a :: b) | _, _ => none) = _
    rw [intsD_dN]; rfl
  rw [e]; rfl
noncomputable def stK : Nat → List CStep → List (PyData × PyData)
  | _, [] => []
  | k, s :: r => (s.d, .int (k : Nat)) :: stK (k + 1) r
noncomputable def plc (t : CStep) : List CStep → Option Nat
  | [] => none
  | s :: r => if kS s = kS t then some 0 else (plc t r).map (· + 1)
theorem look_stK (t : CStep) : ∀ (k : Nat) (acc : List CStep), lookN (kS t) (stK k acc) = (plc t acc).map fun i => PyData.int ((k + i : Nat) : Int)
  | k, [] => rfl
  | k, s :: r => by
    unfold stK lookN plc
    by_cases h : kS s = kS t
    · rw [if_pos (by rw [keyN_d, h]), if_pos h]; rfl
    · rw [if_neg (by rw [keyN_d]; exact fun z => h (Option.some.inj z)), if_neg h, look_stK t (k + 1) r, Option.map_map]
      congr 1
      funext i
      show PyData.int _ = PyData.int _
      congr 2
      simp; omega
theorem has_stK (t : CStep) : ∀ (k : Nat) (acc : List CStep), hasN (kS t) (stK k acc) = (plc t acc).isSome
  | k, [] => rfl
  | k, s :: r => by
    unfold stK hasN plc
    by_cases h : kS s = kS t
    · rw [if_pos (by rw [keyN_d, h]), if_pos h]; rfl
    · rw [if_neg (by rw [keyN_d]; exact fun z => h (Option.some.inj z)), if_neg h, has_stK t (k + 1) r, Option.isSome_map]
theorem stK_snoc (t : CStep) : ∀ (k : Nat) (acc : List CStep), stK k (acc ++ [t]) = stK k acc ++ [(t.d, PyData.int ((k + acc.length : Nat) : Int))]
  | k, [] => rfl
  | k, s :: r => by
    rw [List.cons_append, stK, stK_snoc t (k + 1) r, stK, List.cons_append, List.length_cons]
    congr 4
    congr 2
    omega
theorem stK_len : ∀ (k : Nat) (acc : List CStep), (stK k acc).length = acc.length
  | k, [] => rfl
  | k, s :: r => by rw [stK, List.length_cons, stK_len, List.length_cons]
theorem plc_get {t : CStep} : ∀ {acc : List CStep} {i : Nat}, plc t acc = some i → acc[i]? = some t
  | [], i, h => by cases h
  | s :: r, i, h => by
    unfold plc at h
    by_cases e : kS s = kS t
    · rw [if_pos e] at h; cases h; rw [kS_inj e]; rfl
    · rw [if_neg e] at h
      obtain ⟨j, h1, rfl⟩ := Option.map_eq_some_iff.mp h
      rw [List.getElem?_cons_succ]; exact plc_get h1
theorem plc_no {t : CStep} : ∀ {acc : List CStep}, plc t acc = none → t ∉ acc
  | [], _ => fun z => nomatch z
  | s :: r, h => by
    unfold plc at h
    by_cases e : kS s = kS t
    · rw [if_pos e] at h; cases h
    · rw [if_neg e] at h
      exact fun z => (List.mem_cons.mp z).elim (fun z => e (by rw [z])) (plc_no (Option.map_eq_none_iff.mp h))
noncomputable def rnS (ks : List Nat) (s : CStep) : CStep := ⟨s.m, s.b, s.ws.map fun w => ks.getD w 0⟩
noncomputable def dbl1 (n : Nat) (a : List CStep × List Nat) (s : CStep) : List CStep × List Nat := match plc (rnS a.2 s) a.1 with
  | some i => (a.1, a.2 ++ [n + i])
  | none => (a.1 ++ [rnS a.2 s], a.2 ++ [n + a.1.length])
noncomputable def dblL (n : Nat) (ss : List CStep) : List CStep × List Nat := ss.foldl (dbl1 n) ([], List.range n)
theorem dblL_snoc {n : Nat} {ss : List CStep} {s : CStep} : dblL n (ss ++ [s]) = dbl1 n (dblL n ss) s := by unfold dblL; rw [List.foldl_append]; rfl
theorem fold_at {β : Type} {φ : Nat → Int → List β → β} {z : β} {base : List β} {n : Nat} (hb : base.length = n) (l : List CStep) : StepsOk n l → ∀ i t, l[i]? = some t → (foldW φ z base l).getD (n + i) z = φ t.m t.b (t.ws.map fun k => (foldW φ z base l).getD k z) := by
  refine snoc_ind (P := fun l => StepsOk n l → ∀ i t, l[i]? = some t → (foldW φ z base l).getD (n + i) z = φ t.m t.b (t.ws.map fun k => (foldW φ z base l).getD k z)) (fun _ i t h => by cases h) (fun l s ih hs i t h => ?_) l
  have hok := hs i t h
  obtain ⟨h0, _⟩ := StepsOk.init hs
  have hi := (List.getElem?_eq_some_iff.mp h).1
  rw [List.length_append, List.length_singleton] at hi
  have vl : (foldW φ z base l).length = n + l.length := fold_length hb
  have e : (t.ws.map fun k => (foldW φ z base (l ++ [s])).getD k z) = t.ws.map fun k => (foldW φ z base l).getD k z := List.map_congr_left fun k hk => by
    have := hok.lt k hk
    rw [fold_snoc]; exact b_left (by omega)
  rw [e, fold_snoc]
  by_cases hl : i < l.length
  · rw [List.getElem?_append_left hl] at h
    rw [b_left (by omega)]
    exact ih h0 i t h
  · have ei : i = l.length := by omega
    subst ei
    rw [List.getElem?_append_right (Nat.le_refl _), Nat.sub_self] at h
    cases h
    rw [← vl, List.getD_eq_getElem?_getD, List.getElem?_append_right (Nat.le_refl _), Nat.sub_self]
    rfl
theorem n_left {xs : List Nat} {y w : Nat} (h : w < xs.length) : (xs ++ [y]).getD w 0 = xs.getD w 0 := b_left h
theorem b_last {β : Type} {z : β} {xs : List β} {y : β} : (xs ++ [y]).getD xs.length z = y := by
  rw [List.getD_eq_getElem?_getD, List.getElem?_append_right (Nat.le_refl _), Nat.sub_self]; rfl
theorem n_mem {xs : List Nat} {w : Nat} (h : w < xs.length) : xs.getD w 0 ∈ xs := by
  rw [List.getD_eq_getElem?_getD, List.getElem?_eq_getElem h]; exact List.getElem_mem h
theorem fold_last {β : Type} {φ : Nat → Int → List β → β} {z : β} {base : List β} {n : Nat} (hb : base.length = n) {l : List CStep} {s : CStep} : (foldW φ z base (l ++ [s])).getD (n + l.length) z = φ s.m s.b (s.ws.map fun k => (foldW φ z base l).getD k z) := by
  rw [fold_snoc, ← fold_length (φ := φ) (z := z) hb (ss := l)]; exact b_last
theorem rnS_ok {n : Nat} {ss : List CStep} {s : CStep} {a : List CStep × List Nat} (hok : s.Ok (n + ss.length)) (i2 : a.2.length = n + ss.length) (i4 : ∀ x ∈ a.2, x < n + a.1.length) : (rnS a.2 s).Ok (n + a.1.length) := ⟨hok.m4, by show (s.ws.map _).length = _; rw [List.length_map]; exact hok.len, fun k hk => by
  obtain ⟨w, hw, rfl⟩ := List.mem_map.mp hk
  exact i4 _ (n_mem (by rw [i2]; exact hok.lt w hw)), hok.b0, hok.b1⟩
theorem dblL_ok {n : Nat} (ss : List CStep) : StepsOk n ss → StepsOk n (dblL n ss).1 ∧ (dblL n ss).2.length = n + ss.length ∧ (dblL n ss).1.length ≤ ss.length ∧ (∀ x ∈ (dblL n ss).2, x < n + (dblL n ss).1.length) := by
  refine snoc_ind (P := fun ss => StepsOk n ss → StepsOk n (dblL n ss).1 ∧ (dblL n ss).2.length = n + ss.length ∧ (dblL n ss).1.length ≤ ss.length ∧ (∀ x ∈ (dblL n ss).2, x < n + (dblL n ss).1.length)) ?_ ?_ ss
  · intro _
    exact ⟨StepsOk.nil, by show (List.range n).length = _; rw [List.length_range]; rfl, Nat.le_refl _, fun x hx => by have := List.mem_range.mp hx; exact this⟩
  · intro ss s ih hs
    obtain ⟨h0, hok⟩ := StepsOk.init hs
    obtain ⟨i1, i2, i3, i4⟩ := ih h0
    rw [dblL_snoc]
    generalize dblL n ss = a at i1 i2 i3 i4
    have ok1 := rnS_ok hok i2 i4
    unfold dbl1
    cases hp : plc (rnS a.2 s) a.1 with
    | none =>
      refine ⟨i1.snoc ok1, by simp [i2]; omega, by simp; omega, fun x hx => ?_⟩
      show x < n + (a.1 ++ [_]).length
      rw [List.length_append, List.length_singleton]
      rcases List.mem_append.mp hx with hx | hx
      · have := i4 x hx; omega
      · rw [List.mem_singleton.mp hx]; omega
    | some i =>
      have hi := (List.getElem?_eq_some_iff.mp (plc_get hp)).1
      refine ⟨i1, by simp [i2]; omega, by simp; omega, fun x hx => ?_⟩
      rcases List.mem_append.mp hx with hx | hx
      · exact i4 x hx
      · rw [List.mem_singleton.mp hx]; show n + i < n + a.1.length; omega
theorem dblL_fold {β : Type} {φ : Nat → Int → List β → β} {z : β} {base : List β} {n : Nat} (hb : base.length = n) (ss : List CStep) : StepsOk n ss → ∀ w, w < n + ss.length → (foldW φ z base (dblL n ss).1).getD ((dblL n ss).2.getD w 0) z = (foldW φ z base ss).getD w z := by
  refine snoc_ind (P := fun ss => StepsOk n ss → ∀ w, w < n + ss.length → (foldW φ z base (dblL n ss).1).getD ((dblL n ss).2.getD w 0) z = (foldW φ z base ss).getD w z) ?_ ?_ ss
  · intro _ w hw
    show (foldW φ z base []).getD ((List.range n).getD w 0) z = _
    have hw : w < n := hw
    rw [List.getD_eq_getElem?_getD (l := List.range n), List.getElem?_range hw]
    rfl
  · intro ss s ih hs w hw
    obtain ⟨h0, hok⟩ := StepsOk.init hs
    have i5 := ih h0
    obtain ⟨i1, i2, i3, i4⟩ := dblL_ok ss h0
    rw [dblL_snoc]
    generalize dblL n ss = a at i1 i2 i3 i4 i5
    have hv : ((rnS a.2 s).ws.map fun k => (foldW φ z base a.1).getD k z) = s.ws.map fun k => (foldW φ z base ss).getD k z := by
      show (s.ws.map _).map _ = _
      rw [List.map_map]
      exact List.map_congr_left fun w hw => i5 w (hok.lt w hw)
    have a2 : ∀ w, w < n + ss.length → a.2.getD w 0 < n + a.1.length := fun w hw => i4 _ (n_mem (by rw [i2]; exact hw))
    rw [List.length_append, List.length_singleton] at hw
    by_cases hlt : w < n + ss.length
    · rw [fold_pre hb hlt, ← i5 w hlt]
      unfold dbl1
      cases hp : plc (rnS a.2 s) a.1 with
      | none =>
        show (foldW φ z base (a.1 ++ [_])).getD ((a.2 ++ [_]).getD w 0) z = _
        rw [n_left (by omega), fold_pre hb (a2 w hlt)]
      | some i =>
        show (foldW φ z base a.1).getD ((a.2 ++ [_]).getD w 0) z = _
        rw [n_left (by omega)]
    · have e : w = n + ss.length := by omega
      subst e
      rw [fold_last hb, ← i2, ← hv]
      unfold dbl1
      cases hp : plc (rnS a.2 s) a.1 with
      | none =>
        show (foldW φ z base (a.1 ++ [_])).getD ((a.2 ++ [_]).getD _ 0) z = _
        rw [b_last, fold_last hb]; rfl
      | some i =>
        show (foldW φ z base a.1).getD ((a.2 ++ [_]).getD _ 0) z = _
        rw [b_last, fold_at hb a.1 i1 i _ (plc_get hp)]; rfl
section
variable {i k : Nat} {m m' : ME} {Γ : Ev} {t : CStep} {acc : List CStep}
theorem notInN_ok (h : m Γ = .ok t.d) (hg : gv Γ i = some (.dict (stK k acc))) : eNotInN i m Γ = .ok (.bool (!(plc t acc).isSome)) := by
  unfold eNotInN
  rw [h, Res.ok_bind, hg]
  show (match keyN t.d with | some key => Res.ok (PyData.bool (!(lookN key (stK k acc)).isSome)) | none => .bad) = _
  rw [keyN_d]
  show Res.ok (PyData.bool (!(lookN (kS t) (stK k acc)).isSome)) = _
  rw [look_stK, Option.isSome_map]
theorem ixN_ok {j : Nat} (h : m Γ = .ok t.d) (hg : gv Γ i = some (.dict (stK k acc))) (hp : plc t acc = some j) : eIxN i m Γ = .ok (.int ((k + j : Nat) : Int)) := by
  unfold eIxN
  rw [h, Res.ok_bind, hg]
  show (match keyN t.d with | some key => (match lookN key (stK k acc) with | some d => Res.ok d | none => .bad) | none => .bad) = _
  rw [keyN_d]
  show (match lookN (kS t) (stK k acc) with | some d => Res.ok d | none => .bad) = _
  rw [look_stK, hp]; rfl
theorem putN_ok (h : m Γ = .ok t.d) (h' : m' Γ = .ok (.int ((k + acc.length : Nat) : Int))) (hg : gv Γ i = some (.dict (stK k acc))) (hp : plc t acc = none) (hl : acc.length ≤ 100000) (hi : i < Γ.length) : sPutN i m m' Γ = .ok (.nx (Γ.set i (some (.dict (stK k (acc ++ [t])))))) := by
  unfold sPutN
  rw [h', Res.ok_bind, h, Res.ok_bind, hg]
  show (match keyN t.d with | some key => gd ((stK k acc).length < sizeLine ∧ i < Γ.length) (Res.ok (Out.nx (Γ.set i (some (.dict (putN t.d key _ (stK k acc))))))) | none => .bad) = _
  rw [keyN_d]
  show gd ((stK k acc).length < sizeLine ∧ i < Γ.length) (Res.ok (Out.nx (Γ.set i (some (.dict (putN t.d (kS t) _ (stK k acc))))))) = _
  rw [gd_pos ⟨by rw [stK_len]; exact Nat.lt_of_le_of_lt hl (by rw [L2.sizeLine_eq]; decide), hi⟩]
  unfold putN
  rw [has_stK, hp, if_neg (by decide), stK_snoc]
end
theorem plc_end {t : CStep} : ∀ {acc : List CStep}, plc t acc = none → plc t (acc ++ [t]) = some acc.length
  | [], _ => by show (if kS t = kS t then some 0 else _) = _; rw [if_pos rfl]; rfl
  | s :: r, h => by
    unfold plc at h
    by_cases e : kS s = kS t
    · rw [if_pos e] at h; cases h
    · rw [if_neg e] at h
      show (if kS s = kS t then some 0 else (plc t (r ++ [t])).map (· + 1)) = _
      rw [if_neg e, plc_end (Option.map_eq_none_iff.mp h)]; rfl
theorem p_doubles {n o : Nat} {ss : List CStep} (hs : StepsOk n ss) (hn : n ≤ 100) (hl : ss.length ≤ 5000) (ho : o < n + ss.length) : m_without_doubles [dC n ss o] = .ok (dC n (dblL n ss).1 ((dblL n ss).2.getD o 0)) := by
  unfold m_without_doubles
  walk_at "ev"
  rw [ixC0]
  walk_at "ev"
  rw [gd_pos (by omega)]
  walk_at "ev"
  rw [ixC1]
  walk_at "ev"
  refine forR_bind (fun i => [some (dC n ss o), some (.int (n : Nat)), some (.list (dN (dblL n (ss.take i)).2)), some (.list ((dblL n (ss.take i)).1.map CStep.d)), some (.dict (stK n (dblL n (ss.take i)).1)), none, none]) ?_ (fun i x hx => ?_) ?_
  · rw [List.take_zero, Int.toNat_natCast]
    rfl
  · obtain ⟨s, e, rfl⟩ := enc_get hx
    have ok := hs i s e
    have hi := (List.getElem?_eq_some_iff.mp e).1
    have m4 := ok.m4
    have ln := ok.len
    obtain ⟨_, d2, d3, d4⟩ := dblL_ok (n := n) (ss.take i) fun j t h => by
      rw [List.getElem?_take] at h
      split at h
      · exact hs j t h
      · cases h
    rw [List.length_take, Nat.min_eq_left (by omega)] at d2 d3
    rw [steps_take e, dblL_snoc]
    generalize dblL n (ss.take i) = a at d2 d3 d4
    walk_at "ev"
    rw [p_renamed (fun w hw => by have := ok.lt w hw; rw [d2]; exact this) (by omega)]
    rw [show CStep.mk s.m s.b (s.ws.map fun w => a.2.getD w 0) = rnS a.2 s from rfl]
    generalize ht : rnS a.2 s = t
    walk_at "ev"
    rw [notInN_ok (t := t) (k := n) (acc := a.1) rfl rfl]
    unfold dbl1
    rw [ht]
    cases hp : plc t a.1 with
    | none =>
      rw [show (PyData.bool !(none : Option Nat).isSome) = .bool true from rfl]
      walk_at "ev"
      rw [putN_ok (t := t) (k := n) (acc := a.1) rfl (by walk_at "ev"; rfl) rfl hp (by omega) (of_decide_eq_true rfl)]
      walk_at "ev"
      rw [gd_pos (size_le (by omega))]
      walk_at "ev"
      rw [ixN_ok (t := t) (k := n) (acc := a.1 ++ [t]) rfl rfl (plc_end hp)]
      walk_at "ev"
      rw [gd_pos (size_le (by rw [dN_len]; omega))]
      walk_at "ev"
      rw [dN_app, List.map_append]
      rfl
    | some j =>
      rw [show (PyData.bool !(some j).isSome) = .bool false from rfl]
      walk_at "ev"
      rw [ixN_ok (t := t) (k := n) (acc := a.1) rfl rfl hp]
      walk_at "ev"
      rw [gd_pos (size_le (by rw [dN_len]; omega))]
      walk_at "ev"
      rw [dN_app]
      rfl
  · rw [List.length_map, List.take_length]
    walk_at "ev"
    rw [ixC2]
    walk_at "ev"
    rw [dN_ix (by rw [(dblL_ok ss hs).2.1]; exact ho)]
    rfl
end Prog
namespace Prog
open PySem L2 L3 Gk
noncomputable def mk (ks : List Int) : List (PyData × PyData) := ks.map fun k => (PyData.int k, PyData.bool true)
noncomputable def insK (x : Int) (ks : List Int) : List Int := if x ∈ ks then ks else ks ++ [x]
theorem mk_has {x : Int} : ∀ ks : List Int, hasK (.inl x) (mk ks) = decide (x ∈ ks)
  | [] => rfl
  | k :: ks => by
    show (if keyD (PyData.int k) = some (.inl x) then true else hasK (.inl x) (mk ks)) = _
    rw [mk_has ks]
    by_cases h : k = x
    · subst h
      rw [if_pos (show keyD (PyData.int k) = some (.inl k) from rfl), decide_eq_true List.mem_cons_self]
    · rw [if_neg (show ¬ (keyD (PyData.int k) = some (.inl x)) from fun z => h (Sum.inl.inj (Option.some.inj z)))]
      have : (x ∈ k :: ks) ↔ x ∈ ks := ⟨fun z => (List.mem_cons.mp z).resolve_left (fun e => h e.symm), List.mem_cons_of_mem _⟩
      exact decide_eq_decide.mpr this.symm
theorem mk_look {x : Int} : ∀ ks : List Int, (lookD (.inl x) (mk ks)).isSome = decide (x ∈ ks)
  | [] => rfl
  | k :: ks => by
    show (if keyD (PyData.int k) = some (.inl x) then some (PyData.bool true) else lookD (.inl x) (mk ks)).isSome = _
    by_cases h : k = x
    · subst h
      rw [if_pos (show keyD (PyData.int k) = some (.inl k) from rfl), decide_eq_true List.mem_cons_self]; rfl
    · rw [if_neg (show ¬ (keyD (PyData.int k) = some (.inl x)) from fun z => h (Sum.inl.inj (Option.some.inj z))), mk_look ks]
      have : (x ∈ k :: ks) ↔ x ∈ ks := ⟨fun z => (List.mem_cons.mp z).resolve_left (fun e => h e.symm), List.mem_cons_of_mem _⟩
      exact decide_eq_decide.mpr this.symm
theorem mk_set {x : Int} : ∀ ks : List Int, setK (.inl x) (.bool true) (mk ks) = mk ks
  | [] => rfl
  | k :: ks => by
    show (if keyD (PyData.int k) = some (.inl x) then (PyData.int k, PyData.bool true) else (PyData.int k, PyData.bool true)) :: setK (.inl x) (.bool true) (mk ks) = (PyData.int k, PyData.bool true) :: mk ks
    rw [mk_set ks, ite_self]
theorem mk_put {x : Int} {ks : List Int} : putD2 (.int x) (.inl x) (.bool true) (mk ks) = mk (insK x ks) := by
  unfold putD2 insK
  rw [mk_has]
  by_cases h : x ∈ ks
  · rw [if_pos (decide_eq_true h), if_pos h, mk_set]
  · rw [if_neg (by rw [decide_eq_true_eq]; exact h), if_neg h]
    unfold mk
    rw [List.map_append]
    rfl
theorem insK_len {x : Int} {ks : List Int} : (insK x ks).length ≤ ks.length + 1 := by
  unfold insK
  split
  · omega
  · rw [List.length_append]; exact Nat.le_refl _
theorem insK_mem {x y : Int} {ks : List Int} : y ∈ insK x ks ↔ y = x ∨ y ∈ ks := by
  unfold insK
  split
  · rename_i h
    exact ⟨.inr, fun z => z.elim (fun e => e ▸ h) id⟩
  · rw [List.mem_append, List.mem_singleton]
    exact Or.comm
theorem mk_len {ks : List Int} : (mk ks).length = ks.length := by unfold mk; rw [List.length_map]
theorem sPutD_ok {i : Nat} {m1 m2 : ME} {Γ : Ev} {x : Int} {ks : List Int} (h2 : m2 Γ = .ok (.bool true)) (h1 : m1 Γ = .ok (.int x)) (hg : gv Γ i = some (.dict (mk ks))) (hl : ks.length ≤ 100000) (hi : i < Γ.length) : sPutD i m1 m2 Γ = .ok (.nx (Γ.set i (some (.dict (mk (insK x ks)))))) := by
  unfold sPutD
  rw [h2, h1]
  show (match gv Γ i with
    | some (.dict kvs) => (match keyD (.int x) with
      | some key => gd (kvs.length < sizeLine ∧ i < Γ.length) (.ok (Out.nx (Γ.set i (some (.dict (putD2 (.int x) key (.bool true) kvs))))))
      | none => .bad)
    | _ => Res.bad) = _
  rw [hg]
  show gd ((mk ks).length < sizeLine ∧ i < Γ.length) (.ok (Out.nx (Γ.set i (some (.dict (putD2 (.int x) (.inl x) (.bool true) (mk ks))))))) = _
  rw [gd_pos ⟨size_le (by rw [mk_len]; exact hl), hi⟩, mk_put]
end Prog
namespace Prog
open PySem L2 L3 Gk
end Prog
namespace Prog
open PySem L2 L3 Gk
end Prog
namespace Prog
open PySem L2 L3 Gk
theorem in_mk {x : Int} {ks : List Int} : inY (.int x) (.dict (mk ks)) = .ok (.bool (decide (x ∈ ks))) := by
  show Res.ok (PyData.bool ((lookD (.inl x) (mk ks)).isSome)) = _
  rw [mk_look]
end Prog
namespace Prog
open PySem L2 L3 Gk
theorem rng3_down {k : Nat} (h : k ≤ 100000) : rng3 (.int (((k : Nat) : Int) - 1)) (.int (-1)) (.int (-1)) = .ok ((List.range k).map fun i => PyData.int (((k : Nat) : Int) - 1 - (i : Nat))) := by
  have e : Builtin.Range.rangeSize (((k : Nat) : Int) - 1) (-1) (-1) = ((k : Nat) : Int) := by
    unfold Builtin.Range.rangeSize
    simp
    omega
  show gd ((-1 : Int) ≠ 0 ∧ (-1 : Int).natAbs < 1073741824 ∧ Builtin.Range.small (((k : Nat) : Int) - 1) (-1) (-1) = true ∧ 0 ≤ Builtin.Range.rangeSize (((k : Nat) : Int) - 1) (-1) (-1)) (Res.ok ((List.range (Builtin.Range.rangeSize (((k : Nat) : Int) - 1) (-1) (-1)).toNat).map fun j => PyData.int (((k : Nat) : Int) - 1 + (j : Nat) * (-1)))) = _
  rw [e, gd_pos ⟨by decide, by decide, by unfold Builtin.Range.small; simp only [e, Builtin.Range.rangeFitsLong]; simp; omega, by omega⟩, Int.toNat_natCast]
  congr 1
  exact List.map_congr_left fun i _ => by congr 1; omega
noncomputable def insAll (U : List Int) (ws : List Nat) : List Int := ws.foldl (fun U w => insK ((w : Nat) : Int) U) U
theorem insAll_snoc {U : List Int} {ws : List Nat} {w : Nat} : insAll U (ws ++ [w]) = insK ((w : Nat) : Int) (insAll U ws) := by unfold insAll; rw [List.foldl_append]; rfl
theorem insAll_mem {U : List Int} {x : Int} (ws : List Nat) : x ∈ insAll U ws ↔ x ∈ U ∨ ∃ w ∈ ws, x = ((w : Nat) : Int) := by
  induction ws using snoc_ind with
  | h0 => simp [insAll]
  | h ws w ih =>
    rw [insAll_snoc, insK_mem, ih]
    constructor
    · rintro (rfl | h | ⟨v, hv, rfl⟩)
      · exact .inr ⟨w, by simp, rfl⟩
      · exact .inl h
      · exact .inr ⟨v, by simp [hv], rfl⟩
    · rintro (h | ⟨v, hv, rfl⟩)
      · exact .inr (.inl h)
      · rcases List.mem_append.mp hv with hv | hv
        · exact .inr (.inr ⟨v, hv, rfl⟩)
        · rw [List.mem_singleton.mp hv]; exact .inl rfl
theorem insAll_len {U : List Int} (ws : List Nat) : (insAll U ws).length ≤ U.length + ws.length := by
  induction ws using snoc_ind with
  | h0 => exact Nat.le_refl _
  | h ws w ih => rw [insAll_snoc, List.length_append, List.length_singleton]; have := insK_len (x := ((w : Nat) : Int)) (ks := insAll U ws); omega
noncomputable def useL (n : Nat) (ss : List CStep) (o : Nat) : Nat → List Int
  | 0 => [((o : Nat) : Int)]
  | i + 1 => if ((n + (ss.length - 1 - i) : Nat) : Int) ∈ useL n ss o i then insAll (useL n ss o i) ((ss[ss.length - 1 - i]?.map CStep.ws).getD []) else useL n ss o i
theorem useL_len {n o : Nat} {ss : List CStep} (hs : StepsOk n ss) : ∀ i, (useL n ss o i).length ≤ 1 + 4 * i
  | 0 => Nat.le_refl _
  | i + 1 => by
    have ih := useL_len (o := o) hs i
    unfold useL
    split
    · cases e : ss[ss.length - 1 - i]? with
      | none => have := insAll_len (U := useL n ss o i) []; simp at this ⊢; omega
      | some s =>
        have := insAll_len (U := useL n ss o i) s.ws
        have ok := hs _ s e
        have := ok.len
        have := ok.m4
        simp; omega
    · omega
theorem p_used {n o : Nat} {ss : List CStep} (hs : StepsOk n ss) (hl : ss.length ≤ 5000) : m_used_wires [dC n ss o] = .ok (.dict (mk (useL n ss o ss.length))) := by
  unfold m_used_wires
  walk_at "ev"
  rw [ixC0]
  walk_at "ev"
  rw [ixC1]
  walk_at "ev"
  rw [show ∀ Γ : Ev, gv Γ 0 = some (dC n ss o) → eDctK (eBin ixD (eVar 0) (eC (.int 2))) (eC (.bool true)) Γ = .ok (.dict (mk [((o : Nat) : Int)])) from fun Γ h => by
    unfold eDctK
    rw [show (eBin ixD (eVar 0) (eC (.int 2))) Γ = .ok (.int (o : Nat)) by unfold eBin eVar; rw [h]; rfl]
    rfl]
  · walk_at "ev"
    rw [show ∀ Γ : Ev, gv Γ 2 = some (.tuple (ss.map CStep.d)) → itR3 (eBin subD (eFn lenD [(eVar 2)]) (eC (.int 1))) (eUn negD (eC (.int 1))) (eUn negD (eC (.int 1))) Γ = .ok ((List.range ss.length).map fun i => PyData.int (((ss.length : Nat) : Int) - 1 - (i : Nat))) from fun Γ h => by
      unfold itR3
      rw [show (eBin subD (eFn lenD [(eVar 2)]) (eC (.int 1))) Γ = .ok (.int (((ss.length : Nat) : Int) - 1)) by
        show ((eFn lenD [(eVar 2)]) Γ).bind _ = _
        rw [show (eFn lenD [(eVar 2)]) Γ = .ok (.int (ss.length : Nat)) by
          unfold eFn evs eVar
          rw [h]
          show lenD [.tuple (ss.map CStep.d)] = _
          rw [lenD_tuple, List.length_map]]
        rfl]
      exact rng3_down (by omega)]
    · walk_at "ev"
      refine forR_bind (fun i => [some (dC n ss o), some (.int (n : Nat)), some (.tuple (ss.map CStep.d)), some (.dict (mk (useL n ss o i))), none, none]) rfl (fun i x hx => ?_) ?_
      · obtain ⟨i', ei, rfl⟩ := enc_get hx
        obtain ⟨hi, ei'⟩ : i < ss.length ∧ i' = i := by
          have := (List.getElem?_eq_some_iff.mp ei)
          obtain ⟨h1, h2⟩ := this
          rw [List.length_range] at h1
          rw [List.getElem_range] at h2
          exact ⟨h1, h2.symm⟩
        rw [ei']
        have hu := useL_len (o := o) hs i
        walk_at "ev"
        rw [show ((n : Nat) : Int) + (((ss.length : Nat) : Int) - 1 - (i : Nat)) = ((n + (ss.length - 1 - i) : Nat) : Int) by omega, in_mk]
        rw [show useL n ss o (i + 1) = if ((n + (ss.length - 1 - i) : Nat) : Int) ∈ useL n ss o i then insAll (useL n ss o i) ((ss[ss.length - 1 - i]?.map CStep.ws).getD []) else useL n ss o i from rfl]
        by_cases hm : ((n + (ss.length - 1 - i) : Nat) : Int) ∈ useL n ss o i
        · rw [if_pos hm, decide_eq_true hm]
          generalize useL n ss o i = U at hu
          have hlt : ss.length - 1 - i < ss.length := by omega
          have es : ss[ss.length - 1 - i]? = some ss[ss.length - 1 - i] := List.getElem?_eq_getElem hlt
          generalize ss[ss.length - 1 - i] = s at es
          have ok := hs _ s es
          have ln := ok.len
          have m4 := ok.m4
          walk_at "ev"
          rw [show ((ss.length : Nat) : Int) - 1 - (i : Nat) = ((ss.length - 1 - i : Nat) : Int) by omega, ixD_tuple (i := ss.length - 1 - i) (by rw [List.getElem?_map, es]; rfl), es]
          walk_at "ev"
          rw [show ixD s.d (.int 1) = .ok (.tuple (dN s.ws)) from rfl]
          walk_at "ev"
          refine forR_bind (fun j => [some (dC n ss o), some (.int (n : Nat)), some (.tuple (ss.map CStep.d)), some (.dict (mk (insAll U (s.ws.take j)))), some (.int ((ss.length - 1 - i : Nat) : Int)), none]) rfl (fun j x hx => ?_) ?_
          · obtain ⟨w, ew, rfl⟩ := enc_get hx
            have := insAll_len (U := U) (s.ws.take j)
            rw [List.length_take] at this
            walk_at "ev"
            rw [sPutD_ok (x := ((w : Nat) : Int)) (ks := insAll U (s.ws.take j)) rfl rfl rfl (by omega) (of_decide_eq_true rfl)]
            walk_at "ev"
            rw [take_snoc ew, insAll_snoc]
          · rw [show (dN s.ws).length = s.ws.length from dN_len, List.take_length]
            walk_at "ev"
            rfl
        · rw [if_neg hm, decide_eq_false hm]
          walk_at "ev"
      · rw [List.length_map, List.length_range]
        walk_at "ev"
    · rfl
  · rfl
section
variable {n o : Nat} {ss : List CStep} {x : Int}
theorem useL_step {i : Nat} (h : x ∈ useL n ss o i) : x ∈ useL n ss o (i + 1) := by
  unfold useL
  split
  · exact (insAll_mem _).mpr (.inl h)
  · exact h
theorem useL_mono {i : Nat} : ∀ d, x ∈ useL n ss o i → x ∈ useL n ss o (i + d)
  | 0, h => h
  | d + 1, h => useL_step (useL_mono d h)
theorem useL_out : ∀ i, ((o : Nat) : Int) ∈ useL n ss o i
  | 0 => List.mem_singleton.mpr rfl
  | i + 1 => useL_step (useL_out i)
theorem useL_old (hs : StepsOk n ss) {i : Nat} : ∀ d, i + d ≤ ss.length → x ∈ useL n ss o (i + d) → x ∈ useL n ss o i ∨ x < ((n + (ss.length - 1 - i) : Nat) : Int)
  | 0, _, h => .inl h
  | d + 1, hd, h => by
    have h : x ∈ useL n ss o (i + d + 1) := h
    unfold useL at h
    split at h
    · rcases (insAll_mem _).mp h with h | ⟨w, hw, rfl⟩
      · exact useL_old hs d (by omega) h
      · have hlt : ss.length - 1 - (i + d) < ss.length := by omega
        rw [List.getElem?_eq_getElem hlt] at hw
        have := (hs _ _ (List.getElem?_eq_getElem hlt)).lt w hw
        right
        omega
    · exact useL_old hs d (by omega) h
theorem useL_closed (hs : StepsOk n ss) {j : Nat} {s : CStep} (e : ss[j]? = some s) (h : ((n + j : Nat) : Int) ∈ useL n ss o ss.length) : ∀ w ∈ s.ws, ((w : Nat) : Int) ∈ useL n ss o ss.length := fun w hw => by
  have hj := (List.getElem?_eq_some_iff.mp e).1
  obtain ⟨i, hi⟩ : ∃ i, i = ss.length - 1 - j := ⟨_, rfl⟩
  have hj' : ss.length - 1 - i = j := by omega
  have h1 : ((n + j : Nat) : Int) ∈ useL n ss o i := by
    rcases useL_old hs (i := i) (ss.length - i) (by omega) (by rw [show i + (ss.length - i) = ss.length by omega]; exact h) with h | h
    · exact h
    · rw [hj'] at h; omega
  have h2 : ((w : Nat) : Int) ∈ useL n ss o (i + 1) := by
    unfold useL
    rw [hj', if_pos h1, e]
    exact (insAll_mem _).mpr (.inr ⟨w, hw, rfl⟩)
  have := useL_mono (ss.length - (i + 1)) h2
  rwa [show i + 1 + (ss.length - (i + 1)) = ss.length by omega] at this
end
end Prog
namespace Prog
open PySem L2 L3 Gk
noncomputable def dP (ps : List (Nat × Nat)) : List (PyData × PyData) := ps.map fun p => (PyData.int (p.1 : Nat), PyData.int (p.2 : Nat))
noncomputable def lkP (w : Nat) : List (Nat × Nat) → Option Nat
  | [] => none
  | p :: r => if p.1 = w then some p.2 else lkP w r
theorem look_dP (w : Nat) : ∀ ps : List (Nat × Nat), lookD (.inl ((w : Nat) : Int)) (dP ps) = (lkP w ps).map fun v => PyData.int (v : Nat)
  | [] => rfl
  | p :: r => by
    show (if keyD (PyData.int (p.1 : Nat)) = some (.inl ((w : Nat) : Int)) then some (PyData.int (p.2 : Nat)) else lookD (.inl ((w : Nat) : Int)) (dP r)) = _
    unfold lkP
    by_cases h : p.1 = w
    · rw [if_pos (by rw [h]; rfl), if_pos h]; rfl
    · rw [if_neg (show ¬ (keyD (PyData.int (p.1 : Nat)) = some (.inl ((w : Nat) : Int))) from fun z => h (Int.ofNat.inj (Sum.inl.inj (Option.some.inj z)))), if_neg h, look_dP w r]
theorem has_dP (w : Nat) : ∀ ps : List (Nat × Nat), hasK (.inl ((w : Nat) : Int)) (dP ps) = (lkP w ps).isSome
  | [] => rfl
  | p :: r => by
    show (if keyD (PyData.int (p.1 : Nat)) = some (.inl ((w : Nat) : Int)) then true else hasK (.inl ((w : Nat) : Int)) (dP r)) = _
    unfold lkP
    by_cases h : p.1 = w
    · rw [if_pos (by rw [h]; rfl), if_pos h]; rfl
    · rw [if_neg (show ¬ (keyD (PyData.int (p.1 : Nat)) = some (.inl ((w : Nat) : Int))) from fun z => h (Int.ofNat.inj (Sum.inl.inj (Option.some.inj z)))), if_neg h, has_dP w r]
theorem lkP_app {w k v : Nat} : ∀ {ps : List (Nat × Nat)}, lkP w (ps ++ [(k, v)]) = match lkP w ps with | some u => some u | none => if k = w then some v else none
  | [] => rfl
  | p :: r => by
    show (if p.1 = w then some p.2 else lkP w (r ++ [(k, v)])) = match (if p.1 = w then some p.2 else lkP w r) with | some u => some u | none => if k = w then some v else none
    by_cases h : p.1 = w
    · rw [if_pos h, if_pos h]
    · rw [if_neg h, if_neg h, lkP_app]
theorem putP {i k v : Nat} {m m' : ME} {Γ : Ev} {ps : List (Nat × Nat)} (h : m Γ = .ok (.int (k : Nat))) (h' : m' Γ = .ok (.int (v : Nat))) (hg : gv Γ i = some (.dict (dP ps))) (hn : lkP k ps = none) (hl : ps.length ≤ 100000) (hi : i < Γ.length) :
    sPutD i m m' Γ = .ok (.nx (Γ.set i (some (.dict (dP (ps ++ [(k, v)])))))) := by
  unfold sPutD
  rw [h', Res.ok_bind, h, Res.ok_bind, hg]
  show gd ((dP ps).length < sizeLine ∧ i < Γ.length) (Res.ok (Out.nx (Γ.set i (some (.dict (putD2 (.int (k : Nat)) (.inl ((k : Nat) : Int)) (.int (v : Nat)) (dP ps))))))) = _
  rw [gd_pos ⟨size_le (by unfold dP; rw [List.length_map]; exact hl), hi⟩]
  unfold putD2
  rw [has_dP, hn, if_neg (by decide)]
  unfold dP
  rw [List.map_append]
  rfl
noncomputable def rnP (ps : List (Nat × Nat)) (s : CStep) : CStep := ⟨s.m, s.b, s.ws.map fun w => (lkP w ps).getD 0⟩
theorem p_renamedP {s : CStep} {ps : List (Nat × Nat)} (hw : ∀ w ∈ s.ws, (lkP w ps).isSome = true) (hl : s.ws.length ≤ 100) : m_renamed [s.d, .dict (dP ps)] = .ok (rnP ps s).d := by
  unfold m_renamed CStep.d
  walk_at "ev"
  rw [eComp_enc (xs := s.ws) (fun w => PyData.int (w : Nat)) (fun w => .int ((lkP w ps).getD 0 : Nat)) ?_ (size_le (by omega)) fun w hw' => ?_]
  rotate_left
  · walk_at "ev"
    rfl
  · walk_at "ev"
    show (match lookD (.inl ((w : Nat) : Int)) (dP ps) with | some d => Res.ok d | none => .bad) = _
    rw [look_dP]
    obtain ⟨v, e⟩ := Option.isSome_iff_exists.mp (hw w hw')
    rw [e]; rfl
  walk_at "ev"
  unfold rnP dN
  rw [List.map_map]
  rfl
noncomputable def unuK (n : Nat) (U : List Int) (ss : List CStep) : Nat → List CStep × List (Nat × Nat)
  | 0 => ([], (List.range n).map fun j => (j, j))
  | i + 1 => if ((n + i : Nat) : Int) ∈ U then ((unuK n U ss i).1 ++ [rnP (unuK n U ss i).2 (ss.getD i ⟨0, 0, []⟩)], (unuK n U ss i).2 ++ [(n + i, n + (unuK n U ss i).1.length)]) else unuK n U ss i
theorem lkP_diag {w : Nat} : ∀ l : List Nat, lkP w (l.map fun j => (j, j)) = if w ∈ l then some w else none
  | [] => rfl
  | j :: r => by
    show (if j = w then some j else lkP w (r.map fun j => (j, j))) = _
    rw [lkP_diag r]
    by_cases h : j = w
    · rw [if_pos h, if_pos (by rw [h]; exact List.mem_cons_self), h]
    · rw [if_neg h]
      by_cases h2 : w ∈ r
      · rw [if_pos h2, if_pos (List.mem_cons_of_mem _ h2)]
      · rw [if_neg h2, if_neg (fun z => (List.mem_cons.mp z).elim (fun z => h z.symm) h2)]
theorem unuK_in {n i : Nat} {U : List Int} {ss : List CStep} (h : ((n + i : Nat) : Int) ∈ U) : unuK n U ss (i + 1) = ((unuK n U ss i).1 ++ [rnP (unuK n U ss i).2 (ss.getD i ⟨0, 0, []⟩)], (unuK n U ss i).2 ++ [(n + i, n + (unuK n U ss i).1.length)]) := by
  show (if _ then _ else _) = _
  rw [if_pos h]
theorem unuK_out {n i : Nat} {U : List Int} {ss : List CStep} (h : ((n + i : Nat) : Int) ∉ U) : unuK n U ss (i + 1) = unuK n U ss i := by
  show (if _ then _ else _) = _
  rw [if_neg h]
structure UnuOk (n : Nat) (U : List Int) (i : Nat) (a : List CStep × List (Nat × Nat)) : Prop where
  st : StepsOk n a.1
  len : a.1.length ≤ i
  pl : a.2.length ≤ n + i
  has : ∀ w, w < n + i → (w < n ∨ ((w : Nat) : Int) ∈ U) → ∃ v, lkP w a.2 = some v ∧ v < n + a.1.length
  new : ∀ w, n + i ≤ w → lkP w a.2 = none
noncomputable def Clos (n : Nat) (U : List Int) (ss : List CStep) : Prop := ∀ j s, ss[j]? = some s → ((n + j : Nat) : Int) ∈ U → ∀ w ∈ s.ws, w < n ∨ ((w : Nat) : Int) ∈ U
theorem unuK_ok {n : Nat} {U : List Int} {ss : List CStep} (hs : StepsOk n ss) (hc : Clos n U ss) : ∀ i, i ≤ ss.length → UnuOk n U i (unuK n U ss i)
  | 0, _ => by
    refine ⟨StepsOk.nil, Nat.le_refl _, by show ((List.range n).map _).length ≤ _; rw [List.length_map, List.length_range]; exact Nat.le_refl _, fun w hw _ => ⟨w, ?_, hw⟩, fun w hw => ?_⟩
    · show lkP w ((List.range n).map fun j => (j, j)) = _
      rw [lkP_diag, if_pos (List.mem_range.mpr (show w < n from hw))]
    · show lkP w ((List.range n).map fun j => (j, j)) = _
      rw [lkP_diag, if_neg (fun z => by have := List.mem_range.mp z; omega)]
  | i + 1, hi => by
    obtain ⟨a1, a2, a3, a4, a5⟩ := unuK_ok hs hc i (by omega)
    by_cases h : ((n + i : Nat) : Int) ∈ U
    · have es : ss[i]? = some ss[i] := List.getElem?_eq_getElem (by omega)
      rw [unuK_in h, show ss.getD i ⟨0, 0, []⟩ = ss[i] by rw [List.getD_eq_getElem?_getD, es]; rfl]
      generalize ss[i] = s at es
      have ok := hs i s es
      have cl := hc i s es h
      generalize unuK n U ss i = a at a1 a2 a3 a4 a5
      refine ⟨a1.snoc ⟨ok.m4, by show (s.ws.map _).length = _; rw [List.length_map]; exact ok.len, fun k hk => ?_, ok.b0, ok.b1⟩, by simp; omega, by simp; omega, fun w hw hu => ?_, fun w hw => ?_⟩
      · obtain ⟨w, hw, rfl⟩ := List.mem_map.mp hk
        obtain ⟨v, e, hv⟩ := a4 w (ok.lt w hw) (cl w hw)
        rw [e]; exact hv
      · rw [List.length_append, List.length_singleton]
        by_cases hlt : w < n + i
        · obtain ⟨v, e, hv⟩ := a4 w hlt hu
          exact ⟨v, by rw [lkP_app, e], by omega⟩
        · have ew : w = n + i := by omega
          subst ew
          exact ⟨n + a.1.length, by rw [lkP_app, a5 _ (Nat.le_refl _), if_pos rfl], by omega⟩
      · rw [lkP_app, a5 w (by omega)]
        show (if n + i = w then _ else _) = _
        rw [if_neg (by omega)]
    · rw [unuK_out h]
      refine ⟨a1, by omega, by omega, fun w hw hu => a4 w ?_ hu, fun w hw => a5 w (by omega)⟩
      rcases Nat.lt_or_ge w (n + i) with z | z
      · exact z
      · have ew : w = n + i := by omega
        subst ew
        rcases hu with hu | hu
        · omega
        · exact absurd hu h
theorem unuK_fold {β : Type} {φ : Nat → Int → List β → β} {z : β} {base : List β} {n : Nat} {U : List Int} {ss : List CStep} (hb : base.length = n) (hs : StepsOk n ss) (hc : Clos n U ss) : ∀ i, i ≤ ss.length → ∀ w v, w < n + i → (w < n ∨ ((w : Nat) : Int) ∈ U) → lkP w (unuK n U ss i).2 = some v → (foldW φ z base (unuK n U ss i).1).getD v z = (foldW φ z base ss).getD w z
  | 0, _, w, v, hw, _, e => by
    have e : lkP w ((List.range n).map fun j => (j, j)) = some v := e
    rw [lkP_diag, if_pos (List.mem_range.mpr (show w < n from hw))] at e
    cases e
    show (foldW φ z base []).getD w z = _
    have := fold_pre (φ := φ) (z := z) hb (acc := []) (w := w) hw ss
    exact this.symm
  | i + 1, hi, w, v, hw, hu, e => by
    obtain ⟨a1, a2, a3, a4, a5⟩ := unuK_ok hs hc i (by omega)
    have ih := unuK_fold (φ := φ) (z := z) hb hs hc i (by omega)
    by_cases h : ((n + i : Nat) : Int) ∈ U
    · have es : ss[i]? = some ss[i] := List.getElem?_eq_getElem (by omega)
      rw [unuK_in h, show ss.getD i ⟨0, 0, []⟩ = ss[i] by rw [List.getD_eq_getElem?_getD, es]; rfl] at e ⊢
      generalize ss[i] = s at es e
      have ok := hs i s es
      have cl := hc i s es h
      generalize unuK n U ss i = a at a1 a2 a3 a4 a5 ih e
      rw [lkP_app] at e
      by_cases hlt : w < n + i
      · obtain ⟨v', e', hv⟩ := a4 w hlt hu
        rw [e'] at e
        cases e
        rw [fold_pre hb hv]
        exact ih w v hlt hu e'
      · have ew : w = n + i := by omega
        subst ew
        rw [a5 _ (Nat.le_refl _), if_pos rfl] at e
        cases e
        rw [fold_last hb, fold_at hb ss hs i s es]
        show φ s.m s.b ((s.ws.map _).map _) = _
        rw [List.map_map]
        congr 1
        refine List.map_congr_left fun w hw => ?_
        obtain ⟨v, e, hv⟩ := a4 w (ok.lt w hw) (cl w hw)
        show (foldW φ z base a.1).getD ((lkP w a.2).getD 0) z = _
        rw [e]
        exact ih w v (ok.lt w hw) (cl w hw) e
    · rw [unuK_out h] at e ⊢
      refine ih w v ?_ hu e
      rcases Nat.lt_or_ge w (n + i) with y | y
      · exact y
      · have ew : w = n + i := by omega
        subst ew
        rcases hu with hu | hu
        · omega
        · exact absurd hu h
theorem p_unused {n o : Nat} {ss : List CStep} (hs : StepsOk n ss) (hn : n ≤ 100) (hl : ss.length ≤ 5000) (ho : o < n + ss.length) :
    m_without_unused [dC n ss o] = .ok (dC n (unuK n (useL n ss o ss.length) ss ss.length).1 ((lkP o (unuK n (useL n ss o ss.length) ss ss.length).2).getD 0)) := by
  have hc : Clos n (useL n ss o ss.length) ss := fun j s e h w hw => .inr (useL_closed hs e h w hw)
  have ho' := useL_out (n := n) (ss := ss) (o := o) ss.length
  unfold m_without_unused
  walk_at "ev"
  rw [ixC0]
  walk_at "ev"
  rw [p_used hs hl]
  generalize useL n ss o ss.length = U at hc ho'
  walk_at "ev"
  rw [rng1_nat (by omega)]
  walk_at "ev"
  refine forR_bind (fun i => [some (dC n ss o), some (.int (n : Nat)), some (.dict (mk U)), some (.dict (dP ((List.range i).map fun j => (j, j)))), none, none, none, none]) rfl (fun i x hx => ?_) ?_
  · obtain ⟨hi, rfl⟩ := upN_get hx
    walk_at "ev"
    rw [putP (k := i) (v := i) (ps := (List.range i).map fun j => (j, j)) rfl rfl rfl (by rw [lkP_diag, if_neg (fun z => by have := List.mem_range.mp z; omega)]) (by rw [List.length_map, List.length_range]; omega) (of_decide_eq_true rfl)]
    walk_at "ev"
    rw [List.range_succ, List.map_append]
    rfl
  · rw [upN_length]
    walk_at "ev"
    rw [ixC1]
    walk_at "ev"
    rw [enmD_tup]
    walk_at "ev"
    refine forR_bind (fun i => [some (dC n ss o), some (.int (n : Nat)), some (.dict (mk U)), some (.dict (dP (unuK n U ss i).2)), none, some (.list ((unuK n U ss i).1.map CStep.d)), none, none]) rfl (fun i x hx => ?_) ?_
    · obtain ⟨d, hd, rfl⟩ := enumL_get hx
      obtain ⟨s, es, rfl⟩ := enc_get hd
      have hi := (List.getElem?_eq_some_iff.mp es).1
      have ok := hs i s es
      have m4 := ok.m4
      have ln := ok.len
      have u := unuK_ok hs hc i (by omega)
      have u2 := u.len
      have u3 := u.pl
      walk_at "ev"
      rw [show ((n : Nat) : Int) + (i : Nat) = ((n + i : Nat) : Int) by omega, in_mk]
      by_cases h : ((n + i : Nat) : Int) ∈ U
      · rw [decide_eq_true h, unuK_in h, show ss.getD i ⟨0, 0, []⟩ = s by rw [List.getD_eq_getElem?_getD, es]; rfl]
        have cl := hc i s es h
        generalize unuK n U ss i = a at u u2 u3
        walk_at "ev"
        rw [p_renamedP (fun w hw => by obtain ⟨v, e, _⟩ := u.has w (ok.lt w hw) (cl w hw); rw [e]; rfl) (by omega)]
        walk_at "ev"
        rw [gd_pos (size_le (by omega))]
        walk_at "ev"
        rw [putP (k := n + i) (v := n + a.1.length) (ps := a.2) (by walk_at "ev"; congr 1) (by walk_at "ev"; congr 2; rw [List.length_append, List.length_map, List.length_singleton]; omega) rfl (u.new _ (Nat.le_refl _)) (by omega) (of_decide_eq_true rfl)]
        walk_at "ev"
        rw [List.map_append]
        rfl
      · rw [decide_eq_false h, unuK_out h]
        walk_at "ev"
    · rw [enumL_length, List.length_map]
      have u := unuK_ok hs hc ss.length (Nat.le_refl _)
      obtain ⟨v, e, _⟩ := u.has o ho (.inr ho')
      walk_at "ev"
      rw [ixC2]
      walk_at "ev"
      rw [show ixY (.dict (dP (unuK n U ss ss.length).2)) (.int (o : Nat)) = .ok (.int (v : Nat)) from by
        show (match lookD (.inl ((o : Nat) : Int)) (dP (unuK n U ss ss.length).2) with | some d => Res.ok d | none => .bad) = _
        rw [look_dP, e]; rfl, e]
      rfl
end Prog
namespace Prog
open PySem L2 L3 Gk
section
variable {β : Type} {φ : Nat → Int → List β → β} {z : β} {base : List β} {n : Nat} {ss : List CStep}
end
end Prog
namespace Prog
open PySem L2 L3 Gk
noncomputable abbrev zS : CStep := ⟨0, 0, []⟩
theorem getD_of {ss : List CStep} {i : Nat} {s : CStep} (e : ss[i]? = some s) : ss.getD i zS = s := by rw [List.getD_eq_getElem?_getD, e]; rfl
theorem get_of {ss : List CStep} {i : Nat} (h : i < ss.length) : ss[i]? = some (ss.getD i zS) := by rw [List.getD_eq_getElem?_getD, List.getElem?_eq_getElem h]; rfl
theorem getN {xs : List Nat} {i : Nat} (h : i < xs.length) : xs[i]? = some (xs.getD i 0) := by rw [List.getD_eq_getElem?_getD, List.getElem?_eq_getElem h]; rfl
theorem useL_least {n o : Nat} {ss : List CStep} {Pd : Nat → Prop} (h0 : Pd o) (hc : ∀ j s, ss[j]? = some s → Pd (n + j) → ∀ w ∈ s.ws, Pd w) : ∀ i, i ≤ ss.length → ∀ x ∈ useL n ss o i, ∃ w : Nat, x = ((w : Nat) : Int) ∧ Pd w
  | 0, _, x, hx => ⟨o, List.mem_singleton.mp hx, h0⟩
  | i + 1, hi, x, hx => by
    have ih := useL_least h0 hc i (by omega)
    unfold useL at hx
    split at hx
    · rename_i hm
      rcases (insAll_mem _).mp hx with hx | ⟨w, hw, rfl⟩
      · exact ih x hx
      · have hlt : ss.length - 1 - i < ss.length := by omega
        rw [List.getElem?_eq_getElem hlt] at hw
        obtain ⟨v, ev, hv⟩ := ih _ hm
        have ev : n + (ss.length - 1 - i) = v := Int.ofNat.inj ev
        subst ev
        exact ⟨w, rfl, hc _ _ (List.getElem?_eq_getElem hlt) hv w hw⟩
    · exact ih x hx
theorem rnP_cong {ps qs : List (Nat × Nat)} {s : CStep} (h : ∀ w ∈ s.ws, lkP w ps = lkP w qs) : rnP ps s = rnP qs s := by
  unfold rnP
  congr 1
  exact List.map_congr_left fun w hw => by rw [h w hw]
structure UnuAll (n : Nat) (U : List Int) (ss : List CStep) (i : Nat) (a : List CStep × List (Nat × Nat)) : Prop where
  low : ∀ w, w < n → lkP w a.2 = some w
  lt : ∀ w v, lkP w a.2 = some v → v < n + a.1.length
  inj : ∀ w w' v, lkP w a.2 = some v → lkP w' a.2 = some v → w = w'
  at_ : ∀ j, j < i → ((n + j : Nat) : Int) ∈ U → ∃ k, lkP (n + j) a.2 = some (n + k) ∧ a.1[k]? = some (rnP a.2 (ss.getD j zS))
  of_ : ∀ k, k < a.1.length → ∃ j, j < i ∧ ((n + j : Nat) : Int) ∈ U ∧ lkP (n + j) a.2 = some (n + k) ∧ a.1[k]? = some (rnP a.2 (ss.getD j zS))
  out : ∀ j, ((n + j : Nat) : Int) ∉ U → lkP (n + j) a.2 = none
theorem unuK_all {n : Nat} {U : List Int} {ss : List CStep} (hs : StepsOk n ss) (hc : Clos n U ss) : ∀ i, i ≤ ss.length → UnuAll n U ss i (unuK n U ss i)
  | 0, _ => by
    have e : ∀ w, lkP w (unuK n U ss 0).2 = if w < n then some w else none := fun w => by
      show lkP w ((List.range n).map fun j => (j, j)) = _
      rw [lkP_diag]
      by_cases h : w < n
      · rw [if_pos (List.mem_range.mpr h), if_pos h]
      · rw [if_neg (fun z => h (List.mem_range.mp z)), if_neg h]
    refine ⟨fun w hw => by rw [e, if_pos hw], fun w v h => ?_, fun w w' v h h' => ?_, fun j hj => by omega, fun k hk => by exact absurd hk (Nat.not_lt_zero _), fun j _ => by rw [e, if_neg (by omega)]⟩
    · rw [e] at h
      split at h
      · cases h; show w < n + 0; omega
      · cases h
    · rw [e] at h h'
      split at h
      · split at h'
        · cases h; cases h'; rfl
        · cases h'
      · cases h
  | i + 1, hi => by
    have u := unuK_all hs hc i (by omega)
    have ok := unuK_ok hs hc i (by omega)
    by_cases h : ((n + i : Nat) : Int) ∈ U
    · have es := get_of (ss := ss) (i := i) (by omega)
      have oks := hs i _ es
      have cl := hc i _ es h
      rw [unuK_in h]
      generalize hs' : ss.getD i ⟨0, 0, []⟩ = s at es oks cl
      generalize unuK n U ss i = a at u ok
      have new := ok.new (n + i) (Nat.le_refl _)
      have app : ∀ w, lkP w (a.2 ++ [(n + i, n + a.1.length)]) = if w = n + i then some (n + a.1.length) else lkP w a.2 := fun w => by
        rw [lkP_app]
        by_cases q : w = n + i
        · rw [q, new]
        · rw [if_neg q]
          cases lkP w a.2 with
          | none => exact if_neg (fun z => q z.symm)
          | some v => rfl
      have same : ∀ j, j ≤ i → ((n + j : Nat) : Int) ∈ U → rnP (a.2 ++ [(n + i, n + a.1.length)]) (ss.getD j zS) = rnP a.2 (ss.getD j zS) := fun j hj _ => by
        refine rnP_cong fun w hw => ?_
        have := (hs j _ (get_of (by omega))).lt w hw
        rw [app, if_neg (by omega)]
      refine ⟨fun w hw => ?_, fun w v hv => ?_, fun w w' v h1 h2 => ?_, fun j hj hu => ?_, fun k hk => ?_, fun j hj => ?_⟩
      · show lkP w (a.2 ++ _) = _
        rw [app, if_neg (by omega)]; exact u.low w hw
      · have hv : lkP w (a.2 ++ _) = some v := hv
        show v < n + (a.1 ++ [_]).length
        rw [List.length_append, List.length_singleton]
        rw [app] at hv
        split at hv
        · cases hv; omega
        · have := u.lt w v hv; omega
      · have h1 : lkP w (a.2 ++ _) = some v := h1
        have h2 : lkP w' (a.2 ++ _) = some v := h2
        rw [app] at h1 h2
        split at h1
        · rename_i q1
          split at h2
          · rename_i q2; rw [q1, q2]
          · cases h1
            have := u.lt _ _ h2; omega
        · split at h2
          · cases h2
            have := u.lt _ _ h1; omega
          · exact u.inj _ _ _ h1 h2
      · show ∃ k, lkP (n + j) (a.2 ++ _) = some (n + k) ∧ (a.1 ++ [_])[k]? = some (rnP (a.2 ++ _) (ss.getD j zS))
        by_cases q : j = i
        · subst q
          refine ⟨a.1.length, by rw [app, if_pos rfl], ?_⟩
          rw [List.getElem?_append_right (Nat.le_refl _), Nat.sub_self, same j (Nat.le_refl _) hu, show ss.getD j zS = s from hs']
          rfl
        · obtain ⟨k, k1, k2⟩ := u.at_ j (by omega) hu
          refine ⟨k, by rw [app, if_neg (by omega)]; exact k1, ?_⟩
          rw [List.getElem?_append_left (List.getElem?_eq_some_iff.mp k2).1, same j (by omega) hu]
          exact k2
      · have hk : k < (a.1 ++ [_]).length := hk
        rw [List.length_append, List.length_singleton] at hk
        show ∃ j, j < i + 1 ∧ _ ∧ lkP (n + j) (a.2 ++ _) = some (n + k) ∧ (a.1 ++ [_])[k]? = some (rnP (a.2 ++ _) (ss.getD j zS))
        by_cases q : k = a.1.length
        · subst q
          refine ⟨i, Nat.lt_succ_self _, h, by rw [app, if_pos rfl], ?_⟩
          rw [List.getElem?_append_right (Nat.le_refl _), Nat.sub_self, same i (Nat.le_refl _) h, show ss.getD i zS = s from hs']
          rfl
        · obtain ⟨j, j1, j2, j3, j4⟩ := u.of_ k (by omega)
          refine ⟨j, by omega, j2, by rw [app, if_neg (by omega)]; exact j3, ?_⟩
          rw [List.getElem?_append_left (by omega), same j (by omega) j2]
          exact j4
      · show lkP (n + j) (a.2 ++ _) = none
        rw [app, if_neg (fun z => hj (by rw [show j = i by omega]; exact h))]
        exact u.out j hj
    · rw [unuK_out h]
      refine ⟨u.low, u.lt, u.inj, fun j hj hu => ?_, fun k hk => ?_, u.out⟩
      · by_cases q : j = i
        · subst q; exact absurd hu h
        · exact u.at_ j (by omega) hu
      · obtain ⟨j, j1, j2, j3, j4⟩ := u.of_ k hk
        exact ⟨j, by omega, j2, j3, j4⟩
theorem rnP_inj {ps : List (Nat × Nat)} {s t : CStep} (hi : ∀ w w' v, lkP w ps = some v → lkP w' ps = some v → w = w') (h1 : ∀ w ∈ s.ws, (lkP w ps).isSome = true) (h2 : ∀ w ∈ t.ws, (lkP w ps).isSome = true) (e : rnP ps s = rnP ps t) : s = t := by
  obtain ⟨m, b, ws⟩ := s
  obtain ⟨m', b', ws'⟩ := t
  unfold rnP at e
  injection e with e1 e2 e3
  have e1 : m = m' := e1
  have e2 : b = b' := e2
  have key : ∀ (a c : List Nat), (∀ w ∈ a, (lkP w ps).isSome = true) → (∀ w ∈ c, (lkP w ps).isSome = true) → (a.map fun w => (lkP w ps).getD 0) = (c.map fun w => (lkP w ps).getD 0) → a = c := fun a => by
    induction a with
    | nil => intro c _ _ e; cases c with
      | nil => rfl
      | cons _ _ => cases e
    | cons x a ih =>
      intro c ha hc e
      cases c with
      | nil => cases e
      | cons y c =>
        rw [List.map_cons, List.map_cons] at e
        injection e with q1 q2
        obtain ⟨v, ev⟩ := Option.isSome_iff_exists.mp (ha x List.mem_cons_self)
        obtain ⟨u, eu⟩ := Option.isSome_iff_exists.mp (hc y List.mem_cons_self)
        rw [ev, eu] at q1
        have q1 : v = u := q1
        subst q1
        rw [hi x y v ev eu, ih c (fun w hw => ha w (List.mem_cons_of_mem _ hw)) (fun w hw => hc w (List.mem_cons_of_mem _ hw)) q2]
  subst e1 e2
  rw [key ws ws' h1 h2 e3]
theorem nodup_of_get {α : Type} {l : List α} (h : ∀ (i j : Nat) (x : α), l[i]? = some x → l[j]? = some x → i = j) : l.Nodup := by
  refine List.pairwise_iff_getElem.mpr fun i j hi hj hlt e => ?_
  have := h i j l[i] (List.getElem?_eq_getElem hi) (by rw [List.getElem?_eq_getElem hj, e])
  omega
theorem get_nodup {α : Type} {l : List α} (h : l.Nodup) {i j : Nat} {x : α} (hi : l[i]? = some x) (hj : l[j]? = some x) : i = j := by
  obtain ⟨i1, i2⟩ := List.getElem?_eq_some_iff.mp hi
  obtain ⟨j1, j2⟩ := List.getElem?_eq_some_iff.mp hj
  have p := List.pairwise_iff_getElem.mp h
  rcases Nat.lt_trichotomy i j with q | q | q
  · exact absurd (i2.trans j2.symm) (p i j i1 j1 q)
  · exact q
  · exact absurd (j2.trans i2.symm) (p j i j1 i1 q)
theorem unuK_nodup {n : Nat} {U : List Int} {ss : List CStep} (hs : StepsOk n ss) (hc : Clos n U ss) (hn : ss.Nodup) : (unuK n U ss ss.length).1.Nodup := by
  have u := unuK_all hs hc ss.length (Nat.le_refl _)
  have named : ∀ j, j < ss.length → ((n + j : Nat) : Int) ∈ U → ∀ w ∈ (ss.getD j zS).ws, (lkP w (unuK n U ss ss.length).2).isSome = true := fun j hj hu w hw => by
    have es := get_of hj
    have hlt := (hs j _ es).lt w hw
    obtain ⟨v, e, _⟩ := (unuK_ok hs hc ss.length (Nat.le_refl _)).has w (by omega) (hc j _ es hu w hw)
    rw [e]; rfl
  refine nodup_of_get fun k k' x hk hk' => ?_
  obtain ⟨j, j1, j2, j3, j4⟩ := u.of_ k (List.getElem?_eq_some_iff.mp hk).1
  obtain ⟨j', j1', j2', j3', j4'⟩ := u.of_ k' (List.getElem?_eq_some_iff.mp hk').1
  rw [hk] at j4; rw [hk'] at j4'
  have e : rnP (unuK n U ss ss.length).2 (ss.getD j zS) = rnP (unuK n U ss ss.length).2 (ss.getD j' zS) := by
    rw [← Option.some.inj j4, ← Option.some.inj j4']
  have e2 := rnP_inj u.inj (named j j1 j2) (named j' j1' j2') e
  have e3 := get_nodup hn (get_of j1) (by rw [get_of j1', e2])
  subst e3
  rw [j3] at j3'
  have := Option.some.inj j3'
  omega
theorem unuK_used {n o : Nat} {ss : List CStep} (hs : StepsOk n ss) (ho : o < n + ss.length) : ∀ k, k < (unuK n (useL n ss o ss.length) ss ss.length).1.length →
    ((n + k : Nat) : Int) ∈ useL n (unuK n (useL n ss o ss.length) ss ss.length).1 ((lkP o (unuK n (useL n ss o ss.length) ss ss.length).2).getD 0) (unuK n (useL n ss o ss.length) ss ss.length).1.length := by
  have hc : Clos n (useL n ss o ss.length) ss := fun j s e h w hw => .inr (useL_closed hs e h w hw)
  have ho' := useL_out (n := n) (ss := ss) (o := o) ss.length
  have u := unuK_all hs hc ss.length (Nat.le_refl _)
  have ok := unuK_ok hs hc ss.length (Nat.le_refl _)
  obtain ⟨vo, eo, _⟩ := ok.has o ho (.inr ho')
  intro k hk
  obtain ⟨j, j1, j2, j3, j4⟩ := u.of_ k hk
  have L := useL_least (n := n) (o := o) (ss := ss) (Pd := fun w => ∃ v, lkP w (unuK n (useL n ss o ss.length) ss ss.length).2 = some v ∧ ((v : Nat) : Int) ∈ useL n (unuK n (useL n ss o ss.length) ss ss.length).1 ((lkP o (unuK n (useL n ss o ss.length) ss ss.length).2).getD 0) (unuK n (useL n ss o ss.length) ss ss.length).1.length) ⟨vo, eo, by rw [eo]; exact useL_out _⟩ (fun i s es ⟨v, ev, hv⟩ w hw => ?_) ss.length (Nat.le_refl _) _ j2
  · obtain ⟨w, ew, v, ev, hv⟩ := L
    have ew : n + j = w := Int.ofNat.inj ew
    subst ew
    rw [j3] at ev
    rw [Option.some.inj ev]; exact hv
  · have hi := (List.getElem?_eq_some_iff.mp es).1
    by_cases q : ((n + i : Nat) : Int) ∈ useL n ss o ss.length
    · obtain ⟨k', k1, k2⟩ := u.at_ i hi q
      rw [k1] at ev
      have ev := Option.some.inj ev
      subst ev
      obtain ⟨v', ev', _⟩ := ok.has w (by have := (hs i s es).lt w hw; omega) (hc i s es q w hw)
      refine ⟨v', ev', ?_⟩
      refine useL_closed ok.st k2 hv v' ?_
      show v' ∈ ((ss.getD i zS).ws.map _)
      rw [getD_of es]
      exact List.mem_map.mpr ⟨w, hw, by rw [ev']; rfl⟩
    · rw [u.out i q] at ev; cases ev
end Prog
namespace Prog
open PySem L2 L3 Gk
noncomputable def lastJ (c : Nat → Bool) (z n : Nat) : Nat → Nat
  | 0 => z
  | j + 1 => if c j = true then n + j else lastJ c z n j
theorem lastJ_no {c : Nat → Bool} {z n : Nat} : ∀ {k : Nat}, (∀ j, j < k → c j ≠ true) → lastJ c z n k = z
  | 0, _ => rfl
  | k + 1, h => by
    show (if c k = true then n + k else lastJ c z n k) = z
    rw [if_neg (h k (Nat.lt_succ_self _)), lastJ_no fun j hj => h j (by omega)]
theorem lastJ_one {c : Nat → Bool} {z n j0 : Nat} : ∀ {k : Nat}, j0 < k → c j0 = true → (∀ j, j < k → c j = true → j = j0) → lastJ c z n k = n + j0
  | 0, h, _, _ => by omega
  | k + 1, h, hc, h1 => by
    show (if c k = true then n + k else lastJ c z n k) = _
    by_cases q : c k = true
    · rw [if_pos q, h1 k (Nat.lt_succ_self _) q]
    · rw [if_neg q]
      have : j0 ≠ k := fun e => q (e ▸ hc)
      exact lastJ_one (by omega) hc fun j hj => h1 j (by omega)
noncomputable def cndJ (n : Nat) (ss : List CStep) (N : List Nat) (k j : Nat) : Bool :=
  decide (N.getD (n + j) 0 = n + j) && (decide ((ss.getD j zS).m = (ss.getD k zS).m ∧ (ss.getD j zS).b = (ss.getD k zS).b) && decide (((ss.getD j zS).ws.map fun w => N.getD w 0) = ((ss.getD k zS).ws.map fun w => N.getD w 0)))
theorem cndJ_iff {n : Nat} {ss : List CStep} {N : List Nat} {k j : Nat} : cndJ n ss N k j = true ↔ N.getD (n + j) 0 = n + j ∧ (ss.getD j zS).m = (ss.getD k zS).m ∧ (ss.getD j zS).b = (ss.getD k zS).b ∧ ((ss.getD j zS).ws.map fun w => N.getD w 0) = ((ss.getD k zS).ws.map fun w => N.getD w 0) := by
  unfold cndJ
  rw [Bool.and_eq_true, Bool.and_eq_true, decide_eq_true_eq, decide_eq_true_eq, decide_eq_true_eq, and_assoc]
noncomputable def nmdL (n : Nat) (ss : List CStep) : Nat → List Nat
  | 0 => List.range n
  | k + 1 => nmdL n ss k ++ [lastJ (cndJ n ss (nmdL n ss k) k) (n + k) n k]
structure Cor (n : Nat) (ss : List CStep) (k : Nat) (a : List CStep × List Nat) (N : List Nat) : Prop where
  lenN : N.length = n + k
  lenA : a.2.length = n + k
  lt : ∀ x ∈ a.2, x < n + a.1.length
  low : ∀ w, w < n → N.getD w 0 = w
  rep : ∀ w, w < n + k → N.getD w 0 ≤ w ∧ N.getD (N.getD w 0) 0 = N.getD w 0
  nm : ∀ w, w < n + k → a.2.getD (N.getD w 0) 0 = a.2.getD w 0
  inp : ∀ w, w < n → a.2.getD w 0 = w
  stp : ∀ j, j < k → N.getD (n + j) 0 = n + j → ∃ i, a.2.getD (n + j) 0 = n + i ∧ a.1[i]? = some (rnS a.2 (ss.getD j zS))
  ofi : ∀ i, i < a.1.length → ∃ j, j < k ∧ N.getD (n + j) 0 = n + j ∧ a.2.getD (n + j) 0 = n + i
  inj : ∀ j j', j < k → j' < k → N.getD (n + j) 0 = n + j → N.getD (n + j') 0 = n + j' → a.2.getD (n + j) 0 = a.2.getD (n + j') 0 → j = j'
  nod : a.1.Nodup
theorem Cor.injR {n : Nat} {ss : List CStep} {k : Nat} {a : List CStep × List Nat} {N : List Nat} (c : Cor n ss k a N) {w w' : Nat} (h : w < n + k) (h' : w' < n + k) (r : N.getD w 0 = w) (r' : N.getD w' 0 = w') (e : a.2.getD w 0 = a.2.getD w' 0) : w = w' := by
  by_cases q : w < n
  · by_cases q' : w' < n
    · rw [c.inp w q, c.inp w' q'] at e; exact e
    · obtain ⟨j, rfl⟩ : ∃ j, w' = n + j := ⟨w' - n, by omega⟩
      obtain ⟨i, e1, _⟩ := c.stp j (by omega) r'
      rw [c.inp w q, e1] at e; omega
  · obtain ⟨j, rfl⟩ : ∃ j, w = n + j := ⟨w - n, by omega⟩
    by_cases q' : w' < n
    · obtain ⟨i, e1, _⟩ := c.stp j (by omega) r
      rw [c.inp w' q', e1] at e; omega
    · obtain ⟨j', rfl⟩ : ∃ j, w' = n + j := ⟨w' - n, by omega⟩
      rw [c.inj j j' (by omega) (by omega) r r' e]
theorem Cor.maps {n : Nat} {ss : List CStep} {k : Nat} {a : List CStep × List Nat} {N : List Nat} (c : Cor n ss k a N) : ∀ (x y : List Nat), (∀ w ∈ x, w < n + k) → (∀ w ∈ y, w < n + k) → ((x.map fun w => N.getD w 0) = (y.map fun w => N.getD w 0) ↔ (x.map fun w => a.2.getD w 0) = (y.map fun w => a.2.getD w 0))
  | [], [], _, _ => ⟨fun _ => rfl, fun _ => rfl⟩
  | [], _ :: _, _, _ => ⟨(fun e => by cases e), (fun e => by cases e)⟩
  | _ :: _, [], _, _ => ⟨(fun e => by cases e), (fun e => by cases e)⟩
  | w :: x, v :: y, hx, hy => by
    have ih := c.maps x y (fun u hu => hx u (List.mem_cons_of_mem _ hu)) (fun u hu => hy u (List.mem_cons_of_mem _ hu))
    have hw := hx w List.mem_cons_self
    have hv := hy v List.mem_cons_self
    rw [List.map_cons, List.map_cons, List.map_cons, List.map_cons, List.cons.injEq, List.cons.injEq, ih]
    constructor
    · rintro ⟨e, r⟩
      exact ⟨by rw [← c.nm w hw, ← c.nm v hv, e], r⟩
    · rintro ⟨e, r⟩
      have r1 := c.rep w hw
      have r2 := c.rep v hv
      exact ⟨c.injR (by omega) (by omega) r1.2 r2.2 (by rw [c.nm w hw, c.nm v hv, e]), r⟩
theorem rnS_eq {ks : List Nat} {s t : CStep} : rnS ks s = rnS ks t ↔ s.m = t.m ∧ s.b = t.b ∧ (s.ws.map fun w => ks.getD w 0) = (t.ws.map fun w => ks.getD w 0) := by
  unfold rnS
  rw [CStep.mk.injEq]
theorem rnS_app {ks : List Nat} {y : Nat} {s : CStep} (h : ∀ w ∈ s.ws, w < ks.length) : rnS (ks ++ [y]) s = rnS ks s := by
  unfold rnS
  congr 1
  exact List.map_congr_left fun w hw => n_left (h w hw)
noncomputable def TakeC (n : Nat) (ss : List CStep) (k : Nat) : Prop :=
  ((nmdL n ss (k + 1)).getD (n + k) 0 = n + k ∧ (dblL n (ss.take (k + 1))).1 = (dblL n (ss.take k)).1 ++ [rnS (dblL n (ss.take k)).2 (ss.getD k zS)] ∧ (dblL n (ss.take (k + 1))).2 = (dblL n (ss.take k)).2 ++ [n + (dblL n (ss.take k)).1.length]) ∨
  ((nmdL n ss (k + 1)).getD (n + k) 0 ≠ n + k ∧ (dblL n (ss.take (k + 1))).1 = (dblL n (ss.take k)).1 ∧ ∃ y, (dblL n (ss.take (k + 1))).2 = (dblL n (ss.take k)).2 ++ [y])
theorem cor_step {n : Nat} {ss : List CStep} (hs : StepsOk n ss) {k : Nat} (hk : k < ss.length) (c : Cor n ss k (dblL n (ss.take k)) (nmdL n ss k)) : Cor n ss (k + 1) (dblL n (ss.take (k + 1))) (nmdL n ss (k + 1)) ∧ TakeC n ss k := by
  have es := get_of hk
  have oks := hs k _ es
  have wsl : ∀ j, j ≤ k → ∀ w ∈ (ss.getD j zS).ws, w < n + k := fun j hj w hw => by
    have := (hs j _ (get_of (by omega))).lt w hw
    omega
  unfold TakeC
  rw [steps_take es, dblL_snoc]
  show Cor n ss (k + 1) _ (nmdL n ss k ++ [lastJ (cndJ n ss (nmdL n ss k) k) (n + k) n k]) ∧ (((nmdL n ss k ++ [lastJ (cndJ n ss (nmdL n ss k) k) (n + k) n k]).getD (n + k) 0 = n + k ∧ _ ∧ _) ∨ ((nmdL n ss k ++ [lastJ (cndJ n ss (nmdL n ss k) k) (n + k) n k]).getD (n + k) 0 ≠ n + k ∧ _ ∧ _))
  generalize nmdL n ss k = N at c
  generalize dblL n (ss.take k) = a at c
  have lenN := c.lenN
  have lenA := c.lenA
  have key : ∀ j, j < k → N.getD (n + j) 0 = n + j → (cndJ n ss N k j = true ↔ rnS a.2 (ss.getD j zS) = rnS a.2 (ss.getD k zS)) := fun j hj hr => by
    rw [cndJ_iff, rnS_eq, c.maps _ _ (wsl j (by omega)) (wsl k (Nat.le_refl _))]
    exact ⟨fun h => h.2, fun h => ⟨hr, h⟩⟩
  have Nl : ∀ y w, w < n + k → (N ++ [y]).getD w 0 = N.getD w 0 := fun y w hw => n_left (by omega)
  have Al : ∀ y w, w < n + k → (a.2 ++ [y]).getD w 0 = a.2.getD w 0 := fun y w hw => n_left (by omega)
  have Nz : ∀ y, (N ++ [y]).getD (n + k) 0 = y := fun y => by rw [← lenN]; exact b_last
  have Az : ∀ y, (a.2 ++ [y]).getD (n + k) 0 = y := fun y => by rw [← lenA]; exact b_last
  have rA : ∀ y j, j ≤ k → rnS (a.2 ++ [y]) (ss.getD j zS) = rnS a.2 (ss.getD j zS) := fun y j hj => rnS_app fun w hw => by rw [lenA]; exact wsl j hj w hw
  unfold dbl1
  cases hp : plc (rnS a.2 (ss.getD k zS)) a.1 with
  | some i =>
    have gi := plc_get hp
    have hi := (List.getElem?_eq_some_iff.mp gi).1
    obtain ⟨j0, j1, j2, j3⟩ := c.ofi i hi
    have c0 : cndJ n ss N k j0 = true := by
      obtain ⟨i', e1, e2⟩ := c.stp j0 j1 j2
      rw [j3] at e1
      have : i' = i := by omega
      subst this
      rw [gi] at e2
      exact (key j0 j1 j2).mpr (Option.some.inj e2).symm
    have eL : lastJ (cndJ n ss N k) (n + k) n k = n + j0 := lastJ_one j1 c0 fun j hj hc => by
      have hr := (cndJ_iff.mp hc).1
      have e := (key j hj hr).mp hc
      obtain ⟨i', e1, e2⟩ := c.stp j hj hr
      rw [e] at e2
      have := get_nodup c.nod gi e2
      subst this
      exact c.inj j j0 hj j1 hr j2 (by rw [e1, j3])
    rw [eL]
    refine ⟨⟨?_, ?_, fun x hx => ?_, fun w hw => ?_, fun w hw => ?_, fun w hw => ?_, fun w hw => ?_, fun j hj hr => ?_, fun i' hi' => ?_, fun j j' hj hj' hr hr' e => ?_, c.nod⟩, .inr ⟨by rw [Nz]; omega, rfl, _, rfl⟩⟩
    · rw [List.length_append, List.length_singleton]; omega
    · show (a.2 ++ [_]).length = _
      rw [List.length_append, List.length_singleton]; omega
    · rcases List.mem_append.mp hx with hx | hx
      · exact c.lt x hx
      · rw [List.mem_singleton.mp hx]; show n + i < n + a.1.length; omega
    · rw [Nl _ _ (by omega)]; exact c.low w hw
    · by_cases q : w < n + k
      · have r1 := c.rep w q
        rw [Nl _ _ q, Nl _ _ (by omega)]; exact r1
      · have : w = n + k := by omega
        subst this
        rw [Nz, Nl _ _ (by omega)]
        exact ⟨by omega, j2⟩
    · show (a.2 ++ [n + i]).getD _ 0 = (a.2 ++ [n + i]).getD w 0
      by_cases q : w < n + k
      · have r1 := c.rep w q
        rw [Nl _ _ q, Al _ _ (by omega), Al _ _ q]; exact c.nm w q
      · have : w = n + k := by omega
        subst this
        rw [Nz, Az, Al _ _ (by omega)]; exact j3
    · show (a.2 ++ [n + i]).getD w 0 = w
      rw [Al _ _ (by omega)]; exact c.inp w hw
    · by_cases q : j < k
      · rw [Nl _ _ (by omega)] at hr
        obtain ⟨i', e1, e2⟩ := c.stp j q hr
        exact ⟨i', by show (a.2 ++ [n + i]).getD _ 0 = _; rw [Al _ _ (by omega)]; exact e1, by show a.1[i']? = some (rnS (a.2 ++ [n + i]) _); rw [rA _ _ (by omega)]; exact e2⟩
      · have : j = k := by omega
        subst this
        rw [Nz] at hr; omega
    · obtain ⟨j, h1, h2, h3⟩ := c.ofi i' hi'
      exact ⟨j, by omega, by rw [Nl _ _ (by omega)]; exact h2, by show (a.2 ++ [n + i]).getD _ 0 = _; rw [Al _ _ (by omega)]; exact h3⟩
    · have lo : ∀ j, j < k + 1 → (N ++ [n + j0]).getD (n + j) 0 = n + j → j < k := fun j hj hr => by
        by_cases q : j = k
        · subst q; rw [Nz] at hr; omega
        · omega
      have h1 := lo j hj hr
      have h2 := lo j' hj' hr'
      rw [Nl _ _ (by omega)] at hr hr'
      have e : (a.2 ++ [n + i]).getD (n + j) 0 = (a.2 ++ [n + i]).getD (n + j') 0 := e
      rw [Al _ _ (by omega), Al _ _ (by omega)] at e
      exact c.inj j j' h1 h2 hr hr' e
  | none =>
    have nin := plc_no hp
    have eL : lastJ (cndJ n ss N k) (n + k) n k = n + k := lastJ_no fun j hj hc => by
      have hr := (cndJ_iff.mp hc).1
      have e := (key j hj hr).mp hc
      obtain ⟨i', e1, e2⟩ := c.stp j hj hr
      rw [e] at e2
      exact nin (List.mem_of_getElem? e2)
    rw [eL]
    refine ⟨⟨?_, ?_, fun x hx => ?_, fun w hw => ?_, fun w hw => ?_, fun w hw => ?_, fun w hw => ?_, fun j hj hr => ?_, fun i' hi' => ?_, fun j j' hj hj' hr hr' e => ?_, ?_⟩, .inl ⟨Nz _, rfl, rfl⟩⟩
    · rw [List.length_append, List.length_singleton]; omega
    · show (a.2 ++ [_]).length = _
      rw [List.length_append, List.length_singleton]; omega
    · show x < n + (a.1 ++ [_]).length
      rw [List.length_append, List.length_singleton]
      rcases List.mem_append.mp hx with hx | hx
      · have := c.lt x hx; omega
      · rw [List.mem_singleton.mp hx]; omega
    · rw [Nl _ _ (by omega)]; exact c.low w hw
    · by_cases q : w < n + k
      · have r1 := c.rep w q
        rw [Nl _ _ q, Nl _ _ (by omega)]; exact r1
      · have : w = n + k := by omega
        subst this
        rw [Nz, Nz]
        exact ⟨Nat.le_refl _, rfl⟩
    · show (a.2 ++ [n + a.1.length]).getD _ 0 = (a.2 ++ [n + a.1.length]).getD w 0
      by_cases q : w < n + k
      · have r1 := c.rep w q
        rw [Nl _ _ q, Al _ _ (by omega), Al _ _ q]; exact c.nm w q
      · have : w = n + k := by omega
        subst this
        rw [Nz]
    · show (a.2 ++ [n + a.1.length]).getD w 0 = w
      rw [Al _ _ (by omega)]; exact c.inp w hw
    · by_cases q : j < k
      · rw [Nl _ _ (by omega)] at hr
        obtain ⟨i', e1, e2⟩ := c.stp j q hr
        refine ⟨i', by show (a.2 ++ [n + a.1.length]).getD _ 0 = _; rw [Al _ _ (by omega)]; exact e1, ?_⟩
        show (a.1 ++ [_])[i']? = some (rnS (a.2 ++ [_]) _)
        rw [rA _ _ (by omega), List.getElem?_append_left (List.getElem?_eq_some_iff.mp e2).1]; exact e2
      · have : j = k := by omega
        subst this
        refine ⟨a.1.length, Az _, ?_⟩
        show (a.1 ++ [_])[a.1.length]? = some (rnS (a.2 ++ [_]) _)
        rw [rA _ _ (Nat.le_refl _), List.getElem?_append_right (Nat.le_refl _), Nat.sub_self]; rfl
    · have hi' : i' < (a.1 ++ [_]).length := hi'
      rw [List.length_append, List.length_singleton] at hi'
      by_cases q : i' < a.1.length
      · obtain ⟨j, h1, h2, h3⟩ := c.ofi i' q
        exact ⟨j, by omega, by rw [Nl _ _ (by omega)]; exact h2, by show (a.2 ++ [_]).getD _ 0 = _; rw [Al _ _ (by omega)]; exact h3⟩
      · exact ⟨k, Nat.lt_succ_self _, Nz _, by show (a.2 ++ [_]).getD _ 0 = _; rw [Az]; omega⟩
    · have e2 : (a.2 ++ [n + a.1.length]).getD (n + j) 0 = (a.2 ++ [n + a.1.length]).getD (n + j') 0 := e
      clear e
      have below : ∀ j, j < k → a.2.getD (n + j) 0 < n + a.1.length := fun j hj => c.lt _ (n_mem (by omega))
      by_cases q : j < k
      · rw [Al _ _ (by omega)] at e2
        rw [Nl _ _ (by omega)] at hr
        by_cases q' : j' < k
        · rw [Al _ _ (by omega)] at e2
          rw [Nl _ _ (by omega)] at hr'
          exact c.inj j j' q q' hr hr' e2
        · have : j' = k := by omega
          subst this
          rw [Az] at e2
          have hb := below j q
          rw [e2] at hb
          exact absurd hb (Nat.lt_irrefl _)
      · have : j = k := by omega
        subst this
        by_cases q' : j' < j
        · rw [Az, Al _ _ (by omega)] at e2
          have hb := below j' q'
          rw [← e2] at hb
          exact absurd hb (Nat.lt_irrefl _)
        · omega
    · exact List.nodup_append.mpr ⟨c.nod, by simp, fun x hx y hy e => nin (by rw [List.mem_singleton.mp hy] at e; exact e ▸ hx)⟩
theorem cor_all {n : Nat} {ss : List CStep} (hs : StepsOk n ss) : ∀ k, k ≤ ss.length → Cor n ss k (dblL n (ss.take k)) (nmdL n ss k)
  | 0, _ => by
    have e : ∀ w, w < n → (List.range n).getD w 0 = w := fun w hw => by rw [List.getD_eq_getElem?_getD, List.getElem?_range hw]; rfl
    rw [List.take_zero]
    refine ⟨by show (List.range n).length = _; rw [List.length_range]; rfl, by show (List.range n).length = _; rw [List.length_range]; rfl, fun x hx => by have := List.mem_range.mp hx; exact this, e, fun w hw => ?_, fun w hw => ?_, e, fun j hj => by omega, fun i hi => absurd hi (Nat.not_lt_zero _), fun j j' hj => by omega, List.nodup_nil⟩
    · show (List.range n).getD w 0 ≤ w ∧ (List.range n).getD ((List.range n).getD w 0) 0 = _
      rw [e w hw, e w hw]; exact ⟨Nat.le_refl _, (e w hw).symm⟩
    · show (List.range n).getD ((List.range n).getD w 0) 0 = (List.range n).getD w 0
      rw [e w hw, e w hw]
  | k + 1, h => (cor_step hs (by omega) (cor_all hs k (by omega))).1
end Prog
namespace Prog
open PySem L2 L3 Gk
theorem take_c {n : Nat} {ss : List CStep} (hs : StepsOk n ss) {k : Nat} (hk : k < ss.length) : TakeC n ss k := (cor_step hs hk (cor_all hs k (by omega))).2
theorem pre_all {n : Nat} {ss : List CStep} (hs : StepsOk n ss) {k : Nat} : ∀ d, k + d ≤ ss.length → (∃ r, (dblL n (ss.take (k + d))).1 = (dblL n (ss.take k)).1 ++ r) ∧ (∃ r, (dblL n (ss.take (k + d))).2 = (dblL n (ss.take k)).2 ++ r) ∧ ∃ r, nmdL n ss (k + d) = nmdL n ss k ++ r
  | 0, _ => ⟨⟨[], by rw [List.append_nil]; rfl⟩, ⟨[], by rw [List.append_nil]; rfl⟩, [], by rw [List.append_nil]; rfl⟩
  | d + 1, h => by
    obtain ⟨⟨r1, e1⟩, ⟨r2, e2⟩, r3, e3⟩ := pre_all (k := k) hs d (by omega)
    have e4 : nmdL n ss (k + (d + 1)) = nmdL n ss k ++ (r3 ++ [lastJ (cndJ n ss (nmdL n ss (k + d)) (k + d)) (n + (k + d)) n (k + d)]) := by
      rw [← List.append_assoc, ← e3]
      rfl
    rcases take_c hs (show k + d < ss.length by omega) with ⟨_, q1, q2⟩ | ⟨_, q1, y, q2⟩
    · exact ⟨⟨_, by rw [show k + (d + 1) = k + d + 1 from rfl, q1, e1, List.append_assoc]⟩, ⟨_, by rw [show k + (d + 1) = k + d + 1 from rfl, q2, e2, List.append_assoc]⟩, _, e4⟩
    · exact ⟨⟨_, by rw [show k + (d + 1) = k + d + 1 from rfl, q1, e1]⟩, ⟨_, by rw [show k + (d + 1) = k + d + 1 from rfl, q2, e2, List.append_assoc]⟩, _, e4⟩
theorem getD_pre {xs r : List Nat} {w : Nat} (h : w < xs.length) : (xs ++ r).getD w 0 = xs.getD w 0 := by
  rw [List.getD_eq_getElem?_getD, List.getElem?_append_left h, ← List.getD_eq_getElem?_getD]
section
variable {n o : Nat} {ss : List CStep}
theorem pre_N (hs : StepsOk n ss) {k w : Nat} (hk : k ≤ ss.length) (hw : w < n + k) : (nmdL n ss ss.length).getD w 0 = (nmdL n ss k).getD w 0 := by
  obtain ⟨_, _, r, e⟩ := pre_all hs (k := k) (ss.length - k) (by omega)
  rw [show k + (ss.length - k) = ss.length by omega] at e
  rw [e, getD_pre (by rw [(cor_all hs k hk).lenN]; exact hw)]
theorem pre_A (hs : StepsOk n ss) {k w : Nat} (hk : k ≤ ss.length) (hw : w < n + k) : (dblL n ss).2.getD w 0 = (dblL n (ss.take k)).2.getD w 0 := by
  obtain ⟨_, ⟨r, e⟩, _⟩ := pre_all hs (k := k) (ss.length - k) (by omega)
  rw [show k + (ss.length - k) = ss.length by omega, List.take_length] at e
  rw [e, getD_pre (by rw [(cor_all hs k hk).lenA]; exact hw)]
theorem pre_D (hs : StepsOk n ss) {k i : Nat} (hk : k ≤ ss.length) (hi : i < (dblL n (ss.take k)).1.length) : (dblL n ss).1[i]? = (dblL n (ss.take k)).1[i]? := by
  obtain ⟨⟨r, e⟩, _, _⟩ := pre_all hs (k := k) (ss.length - k) (by omega)
  rw [show k + (ss.length - k) = ss.length by omega, List.take_length] at e
  rw [e, List.getElem?_append_left hi]
theorem pre_L (hs : StepsOk n ss) {k : Nat} (hk : k ≤ ss.length) : (dblL n (ss.take k)).1.length ≤ (dblL n ss).1.length := by
  obtain ⟨⟨r, e⟩, _, _⟩ := pre_all hs (k := k) (ss.length - k) (by omega)
  rw [show k + (ss.length - k) = ss.length by omega, List.take_length] at e
  rw [e, List.length_append]; omega
theorem corF (hs : StepsOk n ss) : Cor n ss ss.length (dblL n ss) (nmdL n ss ss.length) := by
  have := cor_all hs ss.length (Nat.le_refl _)
  rwa [List.take_length] at this
noncomputable def stN (n : Nat) (ss : List CStep) : List CStep := ss.map (rnS (nmdL n ss ss.length))
theorem stN_get {j : Nat} {s : CStep} (e : ss[j]? = some s) : (stN n ss)[j]? = some (rnS (nmdL n ss ss.length) s) := by
  unfold stN; rw [List.getElem?_map, e]; rfl
theorem stN_len : (stN n ss).length = ss.length := by unfold stN; rw [List.length_map]
theorem stN_ok (hs : StepsOk n ss) : StepsOk n (stN n ss) := fun j t e => by
  unfold stN at e
  rw [List.getElem?_map] at e
  obtain ⟨s, es, rfl⟩ := Option.map_eq_some_iff.mp e
  have ok := hs j s es
  have hj := (List.getElem?_eq_some_iff.mp es).1
  refine ⟨ok.m4, by show (s.ws.map _).length = _; rw [List.length_map]; exact ok.len, fun k hk => ?_, ok.b0, ok.b1⟩
  obtain ⟨w, hw, rfl⟩ := List.mem_map.mp hk
  have hw := ok.lt w hw
  have := ((corF hs).rep w (by omega)).1
  omega
theorem stN_back {j : Nat} {t : CStep} (e : (stN n ss)[j]? = some t) : ∃ s, ss[j]? = some s ∧ t = rnS (nmdL n ss ss.length) s := by
  unfold stN at e
  rw [List.getElem?_map] at e
  obtain ⟨s, es, rfl⟩ := Option.map_eq_some_iff.mp e
  exact ⟨s, es, rfl⟩
noncomputable abbrev usD (n o : Nat) (ss : List CStep) : List Int := useL n (dblL n ss).1 ((dblL n ss).2.getD o 0) (dblL n ss).1.length
noncomputable abbrev usN (n o : Nat) (ss : List CStep) : List Int := useL n (stN n ss) ((nmdL n ss ss.length).getD o 0) (stN n ss).length
theorem use_NA (hs : StepsOk n ss) (ho : o < n + ss.length) {x : Int} (hx : x ∈ usN n o ss) : ∃ w : Nat, x = ((w : Nat) : Int) ∧ w < n + ss.length ∧ (nmdL n ss ss.length).getD w 0 = w ∧ (((dblL n ss).2.getD w 0 : Nat) : Int) ∈ usD n o ss := by
  have c := corF hs
  have okD := (dblL_ok ss hs).1
  refine useL_least (n := n) (o := (nmdL n ss ss.length).getD o 0) (ss := stN n ss) (Pd := fun w => w < n + ss.length ∧ (nmdL n ss ss.length).getD w 0 = w ∧ (((dblL n ss).2.getD w 0 : Nat) : Int) ∈ usD n o ss) ?_ (fun j t et ⟨p1, p2, p3⟩ w' hw' => ?_) _ (Nat.le_refl _) x hx
  · have r := c.rep o ho
    exact ⟨by omega, r.2, by rw [c.nm o ho]; exact useL_out _⟩
  · obtain ⟨s, es, rfl⟩ := stN_back et
    have hj := (List.getElem?_eq_some_iff.mp es).1
    obtain ⟨w, hw, rfl⟩ := List.mem_map.mp hw'
    have hlt := (hs j s es).lt w hw
    have r := c.rep w (by omega)
    refine ⟨by omega, r.2, ?_⟩
    rw [c.nm w (by omega)]
    obtain ⟨i, i1, i2⟩ := c.stp j hj p2
    rw [i1] at p3
    refine useL_closed okD i2 p3 _ ?_
    show _ ∈ ((ss.getD j zS).ws.map _)
    rw [getD_of es]
    exact List.mem_map.mpr ⟨w, hw, rfl⟩
theorem use_DA (hs : StepsOk n ss) (ho : o < n + ss.length) {x : Int} (hx : x ∈ usD n o ss) : ∃ v : Nat, x = ((v : Nat) : Int) ∧ ∃ w, w < n + ss.length ∧ (dblL n ss).2.getD w 0 = v ∧ (nmdL n ss ss.length).getD w 0 = w ∧ ((w : Nat) : Int) ∈ usN n o ss := by
  have c := corF hs
  refine useL_least (n := n) (o := (dblL n ss).2.getD o 0) (ss := (dblL n ss).1) (Pd := fun v => ∃ w, w < n + ss.length ∧ (dblL n ss).2.getD w 0 = v ∧ (nmdL n ss ss.length).getD w 0 = w ∧ ((w : Nat) : Int) ∈ usN n o ss) ?_ (fun i t et ⟨w, p1, p2, p3, p4⟩ v hv => ?_) _ (Nat.le_refl _) x hx
  · have r := c.rep o ho
    exact ⟨_, by omega, c.nm o ho, r.2, useL_out _⟩
  · have hge : n ≤ w := by
      rcases Nat.lt_or_ge w n with q | q
      · rw [c.inp w q] at p2; omega
      · exact q
    obtain ⟨j, rfl⟩ : ∃ j, w = n + j := ⟨w - n, by omega⟩
    obtain ⟨i', i1, i2⟩ := c.stp j (by omega) p3
    rw [p2] at i1
    have : i' = i := by omega
    subst this
    rw [et] at i2
    have e2 := Option.some.inj i2
    rw [e2] at hv
    obtain ⟨u, hu, rfl⟩ := List.mem_map.mp hv
    have es := get_of (ss := ss) (i := j) (by omega)
    have hlt := (hs j _ es).lt u hu
    have r := c.rep u (by omega)
    exact ⟨_, by omega, c.nm u (by omega), r.2, useL_closed (stN_ok hs) (stN_get es) p4 _ (List.mem_map.mpr ⟨u, hu, rfl⟩)⟩
theorem use_iff (hs : StepsOk n ss) (ho : o < n + ss.length) {w : Nat} (hw : w < n + ss.length) (hr : (nmdL n ss ss.length).getD w 0 = w) : ((w : Nat) : Int) ∈ usN n o ss ↔ (((dblL n ss).2.getD w 0 : Nat) : Int) ∈ usD n o ss := by
  constructor
  · intro h
    obtain ⟨v, ev, _, _, h3⟩ := use_NA hs ho h
    have : w = v := Int.ofNat.inj ev
    subst this; exact h3
  · intro h
    obtain ⟨v, ev, w', h1, h2, h3, h4⟩ := use_DA hs ho h
    have ev : (dblL n ss).2.getD w 0 = v := Int.ofNat.inj ev
    have := (corF hs).injR hw h1 hr h3 (by rw [ev, h2])
    subst this; exact h4
theorem clos_D (hs : StepsOk n ss) : Clos n (usD n o ss) (dblL n ss).1 := fun j s e h w hw => .inr (useL_closed (dblL_ok ss hs).1 e h w hw)
theorem clos_N (hs : StepsOk n ss) : Clos n (usN n o ss) (stN n ss) := fun j s e h w hw => .inr (useL_closed (stN_ok hs) e h w hw)
theorem left_same (hs : StepsOk n ss) (ho : o < n + ss.length) : ∀ k, k ≤ ss.length → (unuK n (usD n o ss) (dblL n ss).1 (dblL n (ss.take k)).1.length).1 = (unuK n (usN n o ss) (stN n ss) k).1 ∧
    ∀ w, w < n + k → (nmdL n ss ss.length).getD w 0 = w → lkP ((dblL n ss).2.getD w 0) (unuK n (usD n o ss) (dblL n ss).1 (dblL n (ss.take k)).1.length).2 = lkP w (unuK n (usN n o ss) (stN n ss) k).2
  | 0, _ => by
    rw [List.take_zero]
    refine ⟨rfl, fun w hw _ => ?_⟩
    rw [(corF hs).inp w hw]
    rfl
  | k + 1, hk => by
    obtain ⟨ih1, ih2⟩ := left_same hs ho k (by omega)
    have c := corF hs
    have es := get_of (ss := ss) (i := k) (by omega)
    have oks := hs k _ es
    have okD := unuK_ok (dblL_ok ss hs).1 (clos_D (o := o) hs) _ (pre_L hs (k := k) (by omega))
    have okN := unuK_ok (stN_ok hs) (clos_N (o := o) hs) k (by rw [stN_len]; omega)
    have eN := pre_N hs (k := k + 1) (w := n + k) hk (by omega)
    have eA := pre_A hs (k := k + 1) (w := n + k) hk (by omega)
    have lenA := (cor_all hs k (by omega)).lenA
    rcases take_c hs (show k < ss.length by omega) with ⟨q0, q1, q2⟩ | ⟨q0, q1, y, q2⟩
    · rw [← eN] at q0
      rw [q2, ← lenA, b_last, lenA] at eA
      have hiff := use_iff hs ho (w := n + k) (by omega) q0
      rw [eA] at hiff
      have gD : (dblL n ss).1[(dblL n (ss.take k)).1.length]? = some (rnS (dblL n ss).2 (ss.getD k zS)) := by
        rw [pre_D hs (k := k + 1) hk (by rw [q1, List.length_append, List.length_singleton]; omega), q1, List.getElem?_append_right (Nat.le_refl _), Nat.sub_self]
        show some (rnS (dblL n (ss.take k)).2 (ss.getD k zS)) = _
        congr 1
        unfold rnS
        congr 1
        exact List.map_congr_left fun w hw => (pre_A hs (k := k) (by omega) (oks.lt w hw)).symm
      have el : (dblL n (ss.take (k + 1))).1.length = (dblL n (ss.take k)).1.length + 1 := by rw [q1, List.length_append, List.length_singleton]
      rw [el]
      generalize (dblL n (ss.take k)).1.length = i at *
      by_cases h : ((n + k : Nat) : Int) ∈ usN n o ss
      · have h' := hiff.mp h
        rw [unuK_in h, unuK_in h']
        have gN := stN_get (n := n) es
        rw [show (dblL n ss).1.getD i ⟨0, 0, []⟩ = rnS (dblL n ss).2 (ss.getD k zS) from getD_of gD, show (stN n ss).getD k ⟨0, 0, []⟩ = rnS (nmdL n ss ss.length) (ss.getD k zS) from getD_of gN]
        have nD := okD.new (n + i) (Nat.le_refl _)
        have nN := okN.new (n + k) (Nat.le_refl _)
        generalize unuK n (usD n o ss) (dblL n ss).1 i = a at ih1 ih2 nD
        generalize unuK n (usN n o ss) (stN n ss) k = b at ih1 ih2 nN
        refine ⟨?_, fun w hw hr => ?_⟩
        · show a.1 ++ [_] = b.1 ++ [_]
          rw [ih1]
          congr 2
          unfold rnP rnS
          congr 1
          show ((ss.getD k zS).ws.map _).map _ = ((ss.getD k zS).ws.map _).map _
          rw [List.map_map, List.map_map]
          refine List.map_congr_left fun w hw => ?_
          have hlt := oks.lt w hw
          have r := c.rep w (by omega)
          show (lkP ((dblL n ss).2.getD w 0) a.2).getD 0 = (lkP ((nmdL n ss ss.length).getD w 0) b.2).getD 0
          rw [← c.nm w (by omega), ih2 _ (by omega) r.2]
        · show lkP ((dblL n ss).2.getD w 0) (a.2 ++ [(n + i, n + a.1.length)]) = lkP w (b.2 ++ [(n + k, n + b.1.length)])
          rw [lkP_app, lkP_app, ih1]
          by_cases q : w < n + k
          · rw [ih2 w q hr]
            cases lkP w b.2 with
            | some v => rfl
            | none =>
              show (if n + i = (dblL n ss).2.getD w 0 then _ else _) = (if n + k = w then _ else _)
              rw [if_neg (fun z => by
                have := c.injR (w := n + k) (w' := w) (by omega) (by omega) q0 hr (by rw [eA, z])
                omega), if_neg (by omega)]
          · have : w = n + k := by omega
            subst this
            rw [eA, nD, nN]
            show (if n + i = n + i then _ else _) = (if n + k = n + k then _ else _)
            rw [if_pos rfl, if_pos rfl]
      · have h' : ((n + i : Nat) : Int) ∉ usD n o ss := fun z => h (hiff.mpr z)
        rw [unuK_out h, unuK_out h']
        refine ⟨ih1, fun w hw hr => ?_⟩
        by_cases q : w < n + k
        · exact ih2 w q hr
        · have : w = n + k := by omega
          subst this
          rw [eA, okD.new _ (Nat.le_refl _), okN.new _ (Nat.le_refl _)]
    · rw [← eN] at q0
      have h : ((n + k : Nat) : Int) ∉ usN n o ss := fun z => by
        obtain ⟨w, ew, _, hr, _⟩ := use_NA hs ho z
        have : n + k = w := Int.ofNat.inj ew
        subst this
        exact q0 hr
      rw [q1, unuK_out h]
      refine ⟨ih1, fun w hw hr => ih2 w ?_ hr⟩
      rcases Nat.lt_or_ge w (n + k) with q | q
      · exact q
      · have : w = n + k := by omega
        subst this
        exact absurd hr q0
theorem left_all (hs : StepsOk n ss) (ho : o < n + ss.length) : (unuK n (usD n o ss) (dblL n ss).1 (dblL n ss).1.length).1 = (unuK n (usN n o ss) (stN n ss) (stN n ss).length).1 ∧
    lkP ((dblL n ss).2.getD o 0) (unuK n (usD n o ss) (dblL n ss).1 (dblL n ss).1.length).2 = lkP ((nmdL n ss ss.length).getD o 0) (unuK n (usN n o ss) (stN n ss) (stN n ss).length).2 := by
  obtain ⟨h1, h2⟩ := left_same hs ho ss.length (Nat.le_refl _)
  rw [List.take_length] at h1 h2
  have c := corF hs
  have r := c.rep o ho
  rw [stN_len]
  refine ⟨h1, ?_⟩
  rw [← c.nm o ho]
  exact h2 _ (by omega) r.2
end
end Prog
namespace Prog
open PySem L2 L3 Gk
theorem range_getD {m w : Nat} (h : w < m) : (List.range m).getD w 0 = w := by rw [List.getD_eq_getElem?_getD, List.getElem?_range h]; rfl
theorem dblL_id {n : Nat} (ss : List CStep) : StepsOk n ss → ss.Nodup → dblL n ss = (ss, List.range (n + ss.length)) := by
  refine snoc_ind (P := fun ss => StepsOk n ss → ss.Nodup → dblL n ss = (ss, List.range (n + ss.length))) (fun _ _ => rfl) (fun ss s ih hs hn => ?_) ss
  obtain ⟨h0, hok⟩ := hs.init
  obtain ⟨n1, n2, n3⟩ := List.nodup_append.mp hn
  rw [dblL_snoc, ih h0 n1]
  have e : rnS (List.range (n + ss.length)) s = s := by
    unfold rnS
    rw [show (s.ws.map fun w => (List.range (n + ss.length)).getD w 0) = s.ws from by
      rw [show s.ws.map (fun w => (List.range (n + ss.length)).getD w 0) = s.ws.map id from List.map_congr_left fun w hw => range_getD (hok.lt w hw), List.map_id]]
  unfold dbl1
  rw [show rnS ((ss, List.range (n + ss.length)) : List CStep × List Nat).2 s = s from e]
  cases hp : plc s ((ss, List.range (n + ss.length)) : List CStep × List Nat).1 with
  | some i => exact absurd rfl (n3 s (List.mem_of_getElem? (plc_get hp)) s (List.mem_singleton.mpr rfl))
  | none =>
    show (ss ++ [s], List.range (n + ss.length) ++ [n + ss.length]) = _
    rw [List.length_append, List.length_singleton, show n + (ss.length + 1) = n + ss.length + 1 from rfl, List.range_succ]
theorem unuK_id {n : Nat} {U : List Int} {ss : List CStep} (hs : StepsOk n ss) (hU : ∀ k, k < ss.length → ((n + k : Nat) : Int) ∈ U) : ∀ i, i ≤ ss.length → unuK n U ss i = (ss.take i, (List.range (n + i)).map fun j => (j, j))
  | 0, _ => by rw [List.take_zero]; rfl
  | i + 1, hi => by
    rw [unuK_in (hU i (by omega)), unuK_id hs hU i (by omega)]
    have es := get_of (ss := ss) (i := i) (by omega)
    have ok := hs i _ es
    have e : rnP ((List.range (n + i)).map fun j => (j, j)) (ss.getD i zS) = ss.getD i zS := by
      unfold rnP
      rw [show ((ss.getD i zS).ws.map fun w => (lkP w ((List.range (n + i)).map fun j => (j, j))).getD 0) = (ss.getD i zS).ws from by
        rw [show (ss.getD i zS).ws.map (fun w => (lkP w ((List.range (n + i)).map fun j => (j, j))).getD 0) = (ss.getD i zS).ws.map id from List.map_congr_left fun w hw => by
          rw [lkP_diag, if_pos (List.mem_range.mpr (ok.lt w hw))]; rfl, List.map_id]]
    show (ss.take i ++ [rnP ((List.range (n + i)).map fun j => (j, j)) (ss.getD i zS)], ((List.range (n + i)).map fun j => (j, j)) ++ [(n + i, n + (ss.take i).length)]) = _
    rw [e, steps_take es, List.length_take, Nat.min_eq_left (by omega), show n + (i + 1) = n + i + 1 from rfl, List.range_succ, List.map_append]
    rfl
structure ShOk (n o : Nat) (ss rs : List CStep) (v : Nat) : Prop where
  ok : StepsOk n rs
  lt : v < n + rs.length
  len : rs.length ≤ ss.length
  nod : rs.Nodup
  used : ∀ k, k < rs.length → ((n + k : Nat) : Int) ∈ useL n rs v rs.length
  same : ∀ {β : Type} (φ : Nat → Int → List β → β) (z : β) (base : List β), base.length = n → (foldW φ z base rs).getD v z = (foldW φ z base ss).getD o z
theorem p_sharedX {n o : Nat} {ss : List CStep} (hs : StepsOk n ss) (hn : n ≤ 100) (hl : ss.length ≤ 5000) (ho : o < n + ss.length) :
    m_shared [dC n ss o] = .ok (dC n (unuK n (usN n o ss) (stN n ss) (stN n ss).length).1 ((lkP ((nmdL n ss ss.length).getD o 0) (unuK n (usN n o ss) (stN n ss) (stN n ss).length).2).getD 0)) ∧
    ShOk n o ss (unuK n (usN n o ss) (stN n ss) (stN n ss).length).1 ((lkP ((nmdL n ss ss.length).getD o 0) (unuK n (usN n o ss) (stN n ss) (stN n ss).length).2).getD 0) := by
  obtain ⟨l1, l2⟩ := left_all hs ho
  rw [← l1, ← l2]
  obtain ⟨i1, i2, i3, i4⟩ := dblL_ok ss hs
  have nod := (corF hs).nod
  have i5 : ∀ {β : Type} (φ : Nat → Int → List β → β) (z : β) (base : List β), base.length = n → (foldW φ z base (dblL n ss).1).getD ((dblL n ss).2.getD o 0) z = (foldW φ z base ss).getD o z := fun φ z base hb => dblL_fold hb ss hs o ho
  have ho1 : (dblL n ss).2.getD o 0 < n + (dblL n ss).1.length := i4 _ (n_mem (by rw [i2]; exact ho))
  have e1 := p_doubles hs hn hl ho
  unfold usD
  generalize (dblL n ss).2.getD o 0 = o1 at i5 ho1 e1
  generalize (dblL n ss).1 = s1 at i1 i3 i5 ho1 e1 nod
  have e2 := p_unused i1 hn (by omega) ho1
  have hc : Clos n (useL n s1 o1 s1.length) s1 := fun j s e h w hw => .inr (useL_closed i1 e h w hw)
  have ho' := useL_out (n := n) (ss := s1) (o := o1) s1.length
  have u := unuK_ok i1 hc s1.length (Nat.le_refl _)
  obtain ⟨v, ev, hv⟩ := u.has o1 ho1 (.inr ho')
  refine ⟨?_, u.st, by rw [ev]; exact hv, Nat.le_trans u.len i3, unuK_nodup i1 hc nod, unuK_used i1 ho1, fun φ z base hb => ?_⟩
  · unfold m_shared
    walk_at "ev"
    rw [e1]
    walk_at "ev"
    rw [e2]
    walk_at "ev"
  · rw [← i5 φ z base hb, ev]
    exact unuK_fold hb i1 hc _ (Nat.le_refl _) o1 v ho1 (.inr ho') ev
theorem p_sharedI {n o : Nat} {ss rs : List CStep} {v : Nat} (h : ShOk n o ss rs v) (hn : n ≤ 100) (hl : ss.length ≤ 5000) : m_shared [dC n rs v] = .ok (dC n rs v) := by
  have e1 := p_doubles h.ok hn (Nat.le_trans h.len hl) h.lt
  rw [dblL_id rs h.ok h.nod] at e1
  have e1 : m_without_doubles [dC n rs v] = .ok (dC n rs ((List.range (n + rs.length)).getD v 0)) := e1
  rw [range_getD h.lt] at e1
  have e2 := p_unused h.ok hn (Nat.le_trans h.len hl) h.lt
  rw [unuK_id h.ok h.used _ (Nat.le_refl _)] at e2
  have e2 : m_without_unused [dC n rs v] = .ok (dC n (rs.take rs.length) ((lkP v ((List.range (n + rs.length)).map fun j => (j, j))).getD 0)) := e2
  rw [List.take_length, lkP_diag, if_pos (List.mem_range.mpr h.lt)] at e2
  unfold m_shared
  walk_at "ev"
  rw [e1]
  walk_at "ev"
  rw [e2]
  walk_at "ev"
  rfl
theorem keysT_steps : ∀ rs : List CStep, keysT (rs.map CStep.d) = some (rs.map kS)
  | [] => rfl
  | s :: rs => by
    show (match keyN s.d, keysT (rs.map CStep.d) with | some k, some ks => some (k :: ks) | _, _ => none) = _
    rw [keyN_d, keysT_steps rs]; rfl
theorem kS_nodup {rs : List CStep} (h : rs.Nodup) : (rs.map kS).Nodup := by
  refine List.pairwise_map.mpr (List.Pairwise.imp ?_ h)
  intro a b hne e
  exact hne (kS_inj e)
end Prog
namespace Law
open PySem PySem.Spec PyProof.Rows L2 L3 Prog
noncomputable def m_law_cell_at : List PyData → Res PyData := fnR 2 (sSeq (sIf (eBin ltD (eVar 1) (eFn lenD [(eVar 0)])) (sRet (eBin ixD (eVar 0) (eVar 1))) sNil)
    (sSeq (sIf (eBin eqD (eFn lenD [(eVar 0)]) (eC (.int 0))) (sRet (eBin addD (eBin mulD (eBin mulD (eVar 1) (eVar 1)) (eC (.int 48271))) (eBin mulD (eC (.int 7)) (eVar 1)))) sNil)
    (sRet (eBin addD (eBin fdivD (eBin ixD (eVar 0) (eBin modD (eVar 1) (eFn lenD [(eVar 0)]))) (eBin addD (eC (.int 1)) (eBin fdivD (eVar 1) (eFn lenD [(eVar 0)])))) (eBin mulD (eBin mulD (eVar 1) (eVar 1)) (eC (.int 7919)))))))
noncomputable def m_law_gate : List PyData → Res PyData := fnR 3 (sSeq (sSet 1 (eBin ixD (eLst [(eC (.int 2)), (eC (.int 2)), (eC (.int 1)), (eC (.int 3)), (eC (.int 2)), (eC (.int 2)), (eC (.int 3)), (eC (.int 1)), (eC (.int 0)), (eC (.int 4))]) (eBin modD (eVar 0) (eC (.int 10)))))
    (sSeq (sSet 0 (eBin fdivD (eVar 0) (eC (.int 10))))
    (sSeq (sSet 2 (eLst [(eC (.int 8)), (eC (.int 14)), (eC (.int 6)), (eC (.int 7)), (eC (.int 9)), (eC (.int 1)), (eC (.int 11)), (eC (.int 2))]))
    (sSeq (sIf (eAnd (eBin eqD (eVar 1) (eC (.int 2))) (eBin eqD (eBin modD (eVar 0) (eC (.int 3))) (eC (.int 0)))) (sRet (eTup [(eC (.int 2)), (eBin ixD (eVar 2) (eBin modD (eBin fdivD (eVar 0) (eC (.int 3))) (eC (.int 8))))])) sNil)
    (sRet (eTup [(eVar 1), (eBin modD (eBin addD (eBin mulD (eBin fdivD (eVar 0) (eC (.int 3))) (eC (.int 40503))) (eVar 0)) (eBin ixD (eLst [(eC (.int 2)), (eC (.int 4)), (eC (.int 16)), (eC (.int 256)), (eC (.int 65536))]) (eVar 1)))]))))))
noncomputable def m_law_circuit : List PyData → Res PyData := fnR 12 (sSeq (sSet 4 (eLst []))
    (sSeq (sFor (itR1 (eBin modD (eCall m_law_cell_at [(eVar 0), (eVar 1)]) (eBin addD (eVar 3) (eC (.int 1))))) (gN 5) [5, 6, 7, 8, 9] (sSeq (sSet 6 (eCall m_law_cell_at [(eVar 0), (eBin addD (eBin addD (eVar 1) (eC (.int 1))) (eVar 5))]))
    (sSeq (sSet 7 (eCall m_law_gate [(eVar 6)]))
    (sSeq (sIf (eBin eqD (eBin addD (eVar 2) (eVar 5)) (eC (.int 0))) (sSet 7 (eTup [(eC (.int 0)), (eBin modD (eBin fdivD (eVar 6) (eC (.int 10))) (eC (.int 2)))])) sNil)
    (sSeq (sSet 8 (eLst []))
    (sSeq (sFor (itR1 (eBin ixD (eVar 7) (eC (.int 0)))) (gN 9) [9] (sApp 8 (eBin modD (eBin addD (eBin fdivD (eVar 6) (eC (.int 7))) (eBin mulD (eBin fdivD (eVar 6) (eBin addD (eC (.int 11)) (eBin mulD (eC (.int 6)) (eVar 9)))) (eBin addD (eVar 9) (eC (.int 1))))) (eBin addD (eVar 2) (eVar 5)))))
    (sSeq (sIf (eAnd (eBin gtD (eVar 5) (eC (.int 1))) (eBin eqD (eBin modD (eBin fdivD (eVar 6) (eC (.int 13))) (eC (.int 5))) (eC (.int 0)))) (sAsg (gT [(gN 7), (gN 8)]) (eBin ixD (eVar 4) (eBin modD (eBin fdivD (eVar 6) (eC (.int 65))) (eVar 5)))) sNil)
    (sApp 4 (eTup [(eVar 7), (eFn tupleD [(eVar 8)])])))))))))
    (sSeq (sIf (eBin eqD (eBin addD (eVar 2) (eFn lenD [(eVar 4)])) (eC (.int 0))) (sSet 4 (eLst [(eTup [(eTup [(eC (.int 0)), (eC (.int 1))]), (eTup [])])])) sNil)
    (sSeq (sSet 10 (eBin addD (eVar 2) (eFn lenD [(eVar 4)])))
    (sSeq (sSet 11 (eBin subD (eVar 10) (eC (.int 1))))
    (sSeq (sIf (eBin eqD (eBin modD (eCall m_law_cell_at [(eVar 0), (eBin addD (eBin addD (eVar 1) (eVar 3)) (eC (.int 1)))]) (eC (.int 5))) (eC (.int 1))) (sSet 11 (eBin modD (eBin fdivD (eCall m_law_cell_at [(eVar 0), (eBin addD (eBin addD (eVar 1) (eVar 3)) (eC (.int 1)))]) (eC (.int 5))) (eVar 10))) sNil)
    (sRet (eTup [(eVar 2), (eFn tupleD [(eVar 4)]), (eVar 11)]))))))))
noncomputable def m_law_out : List PyData → Res PyData := fnR 6 (sSeq (sSet 2 (eComp (itR1 (eBin ixD (eVar 0) (eC (.int 0)))) (gN 0) (eC (.bool true)) (eBin andD (eBin shrD (eVar 1) (eVar 0)) (eC (.int 1))) 1 [1]))
    (sSeq (sFor (itL (eBin ixD (eVar 0) (eC (.int 1)))) (gT [(gN 3), (gN 4)]) [3, 4, 5] (sSeq (sSet 5 (eFn sumD [(eComp (itE (eVar 4)) (gT [(gN 0), (gN 1)]) (eC (.bool true)) (eBin shlD (eBin ixD (eVar 2) (eVar 1)) (eVar 0)) 2 [2])]))
    (sApp 2 (eBin andD (eBin shrD (eBin ixD (eVar 3) (eC (.int 1))) (eVar 5)) (eC (.int 1))))))
    (sRet (eBin ixD (eVar 2) (eBin ixD (eVar 0) (eC (.int 2)))))))
noncomputable def m_law_due : List PyData → Res PyData := fnR 13 (sSeq (sAsg (gT [(gN 1), (gN 2), (gN 3)]) (eVar 0))
    (sSeq (sSet 4 (eDct []))
    (sSeq (sFor (itR1 (eVar 1)) (gN 5) [5] (sPutD 4 (eVar 5) (eVar 5)))
    (sSeq (sFor (itR1 (eFn lenD [(eVar 2)])) (gN 5) [5, 6, 7, 8, 9, 10] (sSeq (sAsg (gT [(gN 6), (gN 7)]) (eBin ixD (eVar 2) (eVar 5)))
    (sSeq (sSet 8 (eComp (itL (eVar 7)) (gN 0) (eC (.bool true)) (eBin ixY (eVar 1) (eVar 0)) 1 [4]))
    (sSeq (sPutD 4 (eBin addD (eVar 1) (eVar 5)) (eBin addD (eVar 1) (eVar 5)))
    (sFor (itR1 (eVar 5)) (gN 9) [9, 10] (sSeq (sSet 10 (eComp (itL (eBin ixD (eBin ixD (eVar 2) (eVar 9)) (eC (.int 1)))) (gN 0) (eC (.bool true)) (eBin ixY (eVar 1) (eVar 0)) 1 [4]))
    (sIf (eAnd (eBin eqD (eBin ixY (eVar 4) (eBin addD (eVar 1) (eVar 9))) (eBin addD (eVar 1) (eVar 9))) (eAnd (eBin eqD (eBin ixD (eBin ixD (eVar 2) (eVar 9)) (eC (.int 0))) (eVar 6)) (eBin eqD (eVar 10) (eVar 8)))) (sPutD 4 (eBin addD (eVar 1) (eVar 5)) (eBin addD (eVar 1) (eVar 9))) sNil)))))))
    (sSeq (sSet 11 (eDctK (eBin ixY (eVar 4) (eVar 3)) (eC (.bool true))))
    (sSeq (sFor (itR3 (eBin subD (eFn lenD [(eVar 2)]) (eC (.int 1))) (eUn negD (eC (.int 1))) (eUn negD (eC (.int 1)))) (gN 5) [5, 12] (sIf (eBin inY (eBin addD (eVar 1) (eVar 5)) (eVar 11)) (sFor (itL (eBin ixD (eBin ixD (eVar 2) (eVar 5)) (eC (.int 1)))) (gN 12) [12] (sPutD 11 (eBin ixY (eVar 4) (eVar 12)) (eC (.bool true)))) sNil))
    (sRet (eTup [(eVar 4), (eComp (itR1 (eFn lenD [(eVar 2)])) (gN 0) (eBin inY (eBin addD (eVar 1) (eVar 0)) (eVar 2)) (eBin addD (eVar 1) (eVar 0)) 1 [1, 11])]))))))))
noncomputable def m_law_right : List PyData → Res PyData := fnR 13 (sSeq (sAsg (gT [(gN 2), (gN 3), (gN 4)]) (eVar 0))
    (sSeq (sAsg (gT [(gN 5), (gN 6)]) (eCall m_law_due [(eVar 0)]))
    (sSeq (sSet 7 (eDct []))
    (sSeq (sFor (itR1 (eVar 2)) (gN 8) [8] (sPutD 7 (eVar 8) (eVar 8)))
    (sSeq (sFor (itR1 (eFn lenD [(eVar 6)])) (gN 8) [8] (sPutD 7 (eBin ixD (eVar 6) (eVar 8)) (eBin addD (eVar 2) (eVar 8))))
    (sSeq (sSet 9 (eLst []))
    (sSeq (sFor (itL (eVar 6)) (gN 10) [10, 11, 12] (sSeq (sAsg (gT [(gN 11), (gN 12)]) (eBin ixD (eVar 3) (eBin subD (eVar 10) (eVar 2))))
    (sApp 9 (eTup [(eVar 11), (eFn tupleD [(eComp (itL (eVar 12)) (gN 0) (eC (.bool true)) (eBin ixY (eVar 1) (eBin ixY (eVar 2) (eVar 0))) 1 [7, 5])])]))))
    (sRet (eBin eqD (eVar 1) (eTup [(eVar 2), (eFn tupleD [(eVar 9)]), (eBin ixY (eVar 7) (eBin ixY (eVar 5) (eVar 4)))]))))))))))
noncomputable def m_law : List PyData → Res PyData := fnR 5 (sSeq (sSet 1 (eBin ixD (eLst [(eC (.int 18)), (eC (.int 18)), (eC (.int 18)), (eC (.int 18)), (eC (.int 60)), (eC (.int 200))]) (eBin modD (eCall m_law_cell_at [(eVar 0), (eC (.int 0))]) (eC (.int 6)))))
    (sSeq (sSet 2 (eCall m_law_circuit [(eVar 0), (eC (.int 1)), (eBin modD (eBin fdivD (eCall m_law_cell_at [(eVar 0), (eC (.int 0))]) (eC (.int 6))) (eC (.int 5))), (eVar 1)]))
    (sSeq (sSet 3 (eCall m_shared [(eVar 2)]))
    (sSeq (sIf (eOr (eNot (eIsi "tuple" (eVar 3))) (eNot (eUn truD (eCall m_law_right [(eVar 2), (eVar 3)])))) (sRet (eC (.bool false))) sNil)
    (sSeq (sIf (eBin neD (eFn lenSetN [(eBin ixD (eVar 3) (eC (.int 1)))]) (eFn lenD [(eBin ixD (eVar 3) (eC (.int 1)))])) (sRet (eC (.bool false))) sNil)
    (sSeq (sFor (itR1 (eBin shlD (eC (.int 1)) (eBin ixD (eVar 2) (eC (.int 0))))) (gN 4) [4] (sIf (eBin neD (eCall m_law_out [(eVar 3), (eVar 4)]) (eCall m_law_out [(eVar 2), (eVar 4)])) (sRet (eC (.bool false))) sNil))
    (sRet (eBin eqD (eCall m_shared [(eVar 3)]) (eVar 3)))))))))
end Law
namespace Law
open PySem L2 L3 Prog Gk
theorem l_cell (ns : List Int) (hns : ns.length ≤ 63) {k : Nat} (hk : k ≤ 10000) : ∃ c : Int, m_law_cell_at [dL ns, .int (k : Nat)] = .ok (.int c) := by
  unfold m_law_cell_at
  walk_at "ev"
  rw [bS_dec]
  by_cases h : k < ns.length
  · rw [if_pos (decide_eq_true (by omega)), getD_ix h]
    walk_at "ev"
    exact ⟨_, rfl⟩
  · rw [if_neg (by rw [decide_eq_true_eq]; omega)]
    walk_at "ev"
    rw [bS_dec]
    have hk2 : ((k : Nat) : Int) * (k : Nat) ≤ 10000 * 10000 := Int.mul_le_mul (by omega) (by omega) (by omega) (by omega)
    have hk0 : 0 ≤ ((k : Nat) : Int) * (k : Nat) := Int.mul_nonneg (by omega) (by omega)
    by_cases h0 : ns.length = 0
    · rw [if_pos (decide_eq_true (by omega))]
      walk_at "go"
      exact ⟨_, rfl⟩
    · rw [if_neg (by rw [decide_eq_true_eq]; omega)]
      have hp : (0 : Int) < ns.length := by omega
      obtain ⟨q, eq, hq⟩ := modN ((k : Nat) : Int) hp
      have hd : ((k : Nat) : Int) / ns.length ≤ 10000 := Int.le_trans (Int.ediv_le_self _ (by omega)) (by omega)
      have hd0 : 0 ≤ ((k : Nat) : Int) / ns.length := Int.ediv_nonneg (by omega) (by omega)
      walk_at "ev"
      rw [gd_pos hp]
      walk_at "ev"
      rw [eq, getD_ix (by omega)]
      walk_at "ev"
      rw [gd_pos (show CDiv ((k : Nat) : Int) ns.length from ⟨hp, by omega⟩)]
      walk_at "ev"
      rw [gd_pos (show CDiv (ns.getD q 0) (1 + ((k : Nat) : Int) / ns.length) from ⟨by omega, by omega⟩)]
      walk_at "go"
      exact ⟨_, rfl⟩
theorem ten {v : Int} (h : 0 ≤ v ∧ v < 10) : ∃ n : Nat, n ≤ 4 ∧ ixD (.list [.int 2, .int 2, .int 1, .int 3, .int 2, .int 2, .int 3, .int 1, .int 0, .int 4]) (.int v) = .ok (.int (n : Nat)) := by
  have : v = 0 ∨ v = 1 ∨ v = 2 ∨ v = 3 ∨ v = 4 ∨ v = 5 ∨ v = 6 ∨ v = 7 ∨ v = 8 ∨ v = 9 := by omega
  rcases this with rfl | rfl | rfl | rfl | rfl | rfl | rfl | rfl | rfl | rfl
  · exact ⟨2, by decide, rfl⟩
  · exact ⟨2, by decide, rfl⟩
  · exact ⟨1, by decide, rfl⟩
  · exact ⟨3, by decide, rfl⟩
  · exact ⟨2, by decide, rfl⟩
  · exact ⟨2, by decide, rfl⟩
  · exact ⟨3, by decide, rfl⟩
  · exact ⟨1, by decide, rfl⟩
  · exact ⟨0, by decide, rfl⟩
  · exact ⟨4, by decide, rfl⟩
theorem eight {v : Int} (h : 0 ≤ v ∧ v < 8) : ∃ x : Int, 0 ≤ x ∧ x < 16 ∧ ixD (.list [.int 8, .int 14, .int 6, .int 7, .int 9, .int 1, .int 11, .int 2]) (.int v) = .ok (.int x) := by
  have : v = 0 ∨ v = 1 ∨ v = 2 ∨ v = 3 ∨ v = 4 ∨ v = 5 ∨ v = 6 ∨ v = 7 := by omega
  rcases this with rfl | rfl | rfl | rfl | rfl | rfl | rfl | rfl <;> exact ⟨_, by decide, by decide, rfl⟩
theorem and_res {a b : Bool} : (if a = true then Res.ok (PyData.bool b) else .ok (.bool false)) = .ok (.bool (a && b)) := by cases a <;> rfl
theorem l_gate (c : Int) : ∃ (m : Nat) (b : Int), m ≤ 4 ∧ 0 ≤ b ∧ b < 2 ^ 2 ^ m ∧ m_law_gate [.int c] = .ok (dG m b) := by
  unfold m_law_gate
  walk_at "go"
  obtain ⟨m, hm, em⟩ := ten (v := c % 10) ⟨Int.emod_nonneg _ (by decide), Int.emod_lt_of_pos _ (by decide)⟩
  rw [em]
  walk_at "go"
  rw [bT_dec, and_res]
  have h2 := two_pos (2 ^ m)
  generalize (decide (((m : Nat) : Int) = 2) && decide (c / 10 % 3 = 0)) = t
  cases t with
  | true =>
    obtain ⟨x, x0, x1, ex⟩ := eight (v := c / 10 / 3 % 8) ⟨Int.emod_nonneg _ (by decide), Int.emod_lt_of_pos _ (by decide)⟩
    rw [ex]
    walk_at "go"
    exact ⟨2, x, by decide, x0, x1, rfl⟩
  | false =>
    walk_at "go"
    rw [beyond hm]
    walk_at "go"
    exact ⟨m, _, hm, Int.emod_nonneg _ (by omega), Int.emod_lt_of_pos _ h2, rfl⟩
theorem Goes.two {α : Type} {c : Bool} {x y : Res Out} {f : Out → Res Out} {P : Ev → Prop} (V : α → Prop) (E : α → Ev) (hx : c = true → ∃ v, V v ∧ x = .ok (.nx (E v))) (hy : c = false → ∃ v, V v ∧ y = .ok (.nx (E v)))
    (k : ∀ v, V v → Goes (f (.nx (E v))) P) : Goes ((bS (.bool c) x y).bind f) P := by
  cases c with
  | true => obtain ⟨v, h, e⟩ := hx rfl; rw [bS_true, e]; exact k v h
  | false => obtain ⟨v, h, e⟩ := hy rfl; rw [bS_false, e]; exact k v h
theorem Gives.two {α β : Type} {c : Bool} {x y : Res Out} {f : Out → Res β} {P : β → Prop} (V : α → Prop) (E : α → Ev) (hx : c = true → ∃ v, V v ∧ x = .ok (.nx (E v))) (hy : c = false → ∃ v, V v ∧ y = .ok (.nx (E v)))
    (k : ∀ v, V v → L3.Gives (f (.nx (E v))) P) : L3.Gives ((bS (.bool c) x y).bind f) P := by
  cases c with
  | true => obtain ⟨v, h, e⟩ := hx rfl; rw [bS_true, e]; exact k v h
  | false => obtain ⟨v, h, e⟩ := hy rfl; rw [bS_false, e]; exact k v h
noncomputable def wiresD (w : CStep × Bool) : PyData := if w.2 = true then .tuple (dN w.1.ws) else .list (dN w.1.ws)
theorem tupleD_wires {w : CStep × Bool} : tupleD [wiresD w] = .ok (.tuple (dN w.1.ws)) := by
  obtain ⟨s, b⟩ := w
  cases b <;> rfl
theorem l_circuit (ns : List Int) (hns : ns.length ≤ 63) {a n k : Nat} (ha : a ≤ 1000) (hn : n ≤ 4) (hk : k ≤ 1000) : ∃ (ss : List CStep) (o : Nat), m_law_circuit [dL ns, .int (a : Nat), .int (n : Nat), .int (k : Nat)] = .ok (dC n ss o) ∧ StepsOk n ss ∧ ss.length ≤ k + 1 ∧ o < n + ss.length := by
  suffices h : Gives (m_law_circuit [dL ns, .int (a : Nat), .int (n : Nat), .int (k : Nat)]) fun d => ∃ (ss : List CStep) (o : Nat), d = dC n ss o ∧ StepsOk n ss ∧ ss.length ≤ k + 1 ∧ o < n + ss.length by
    obtain ⟨d, e, ss, o, rfl, h⟩ := h
    exact ⟨ss, o, e, h⟩
  unfold m_law_circuit
  walk_at "ev"
  obtain ⟨c0, e0⟩ := l_cell ns hns (k := a) (by omega)
  obtain ⟨q, eq, hq⟩ := modN c0 (m := ((k : Nat) : Int) + 1) (by omega)
  rw [e0]
  walk_at "go"
  rw [eq, rng1_nat (by omega)]
  walk_at "ev"
  refine forR_gives (fun i Γ => ∃ ss : List CStep, Γ = [some (dL ns), some (.int (a : Nat)), some (.int (n : Nat)), some (.int (k : Nat)), some (.list (ss.map CStep.d)), none, none, none, none, none, none, none] ∧ ss.length = i ∧ StepsOk n ss) ⟨[], rfl, rfl, StepsOk.nil⟩ (fun i x Γ hx hI => ?_) fun Γ hI => ?_
  · obtain ⟨ss, rfl, hl, hss⟩ := hI
    obtain ⟨hi, rfl⟩ := upN_get hx
    walk_at "ev"
    have e1 : ((a : Nat) : Int) + 1 + (i : Nat) = ((a + 1 + i : Nat) : Nat) := by omega
    obtain ⟨c, ec⟩ := l_cell ns hns (k := a + 1 + i) (by omega)
    rw [e1, ec]
    walk_at "ev"
    obtain ⟨m, b, hm, gb0, gb1, eg⟩ := l_gate c
    rw [eg]
    walk_at "ev"
    refine Goes.two (α := Nat × Int) (fun v => v.1 ≤ 4 ∧ (n + i = 0 → v.1 = 0) ∧ 0 ≤ v.2 ∧ v.2 < 2 ^ 2 ^ v.1) (fun v => [some (dL ns), some (.int (a : Nat)), some (.int (n : Nat)), some (.int (k : Nat)), some (.list (ss.map CStep.d)), some (.int (i : Nat)), some (.int c), some (dG v.1 v.2), none, none, none, none]) (fun h => ?_) (fun h => ?_) fun v hv => ?_
    · refine ⟨(0, c / 10 % 2), ⟨by show (0 : Nat) ≤ 4; decide, fun _ => rfl, Int.emod_nonneg _ (by decide), Int.emod_lt_of_pos _ (by decide)⟩, ?_⟩
      walk_at "go"
      rfl
    · have := of_decide_eq_false h
      exact ⟨(m, b), ⟨hm, fun z => absurd (show ((n : Nat) : Int) + (i : Nat) = 0 by omega) this, gb0, gb1⟩, rfl⟩
    obtain ⟨m, b⟩ := v
    obtain ⟨hm, h0, vb0, vb1⟩ := hv
    replace vb0 : 0 ≤ b := vb0
    replace vb1 : b < 2 ^ 2 ^ m := vb1
    replace hm : m ≤ 4 := hm
    replace h0 : n + i = 0 → m = 0 := h0
    walk_at "ev"
    rw [rng1_nat (show m < 2 ^ 62 by omega)]
    walk_at "ev"
    refine forR_goes (fun j Γ => ∃ ws : List Nat, Γ = [some (dL ns), some (.int (a : Nat)), some (.int (n : Nat)), some (.int (k : Nat)), some (.list (ss.map CStep.d)), some (.int (i : Nat)), some (.int c), some (dG m b), some (.list (dN ws)), none, none, none] ∧ ws.length = j ∧ ∀ w ∈ ws, w < n + i) ⟨[], rfl, rfl, fun w hw => nomatch hw⟩ (fun j x Γ hx hI => ?_) fun Γ hI => ?_
    · obtain ⟨ws, rfl, hwl, hws⟩ := hI
      obtain ⟨hj, rfl⟩ := upN_get hx
      have hpos : (0 : Int) < ((n : Nat) : Int) + (i : Nat) := by
        rcases Nat.eq_zero_or_pos (n + i) with z | z
        · have := h0 z; omega
        · omega
      obtain ⟨w, ew, hw⟩ := modN (c / 7 + c / (11 + 6 * (j : Nat)) * ((j : Nat) + 1)) hpos
      have hz : (dN ws).length < sizeLine := size_le (by unfold dN; rw [List.length_map]; omega)
      walk_at "go"
      rw [ew]
      refine ⟨ws ++ [w], by unfold dN; rw [List.map_append]; rfl, by rw [List.length_append, hwl]; rfl, fun u hu => ?_⟩
      rcases List.mem_append.mp hu with z | z
      · exact hws u z
      · rw [List.mem_singleton.mp z]; omega
    · obtain ⟨ws, rfl, hwl, hws⟩ := hI
      rw [upN_length] at hwl
      walk_at "go"
      rw [bT_dec, and_res]
      refine Goes.two (α := CStep × Bool) (fun v => v.1.Ok (n + i)) (fun v => [some (dL ns), some (.int (a : Nat)), some (.int (n : Nat)), some (.int (k : Nat)), some (.list (ss.map CStep.d)), some (.int (i : Nat)), some (.int c), some (dG v.1.m v.1.b), some (wiresD v), none, none, none]) (fun h => ?_) (fun h => ?_) fun v hv => ?_
      · have hi1 : (1 : Int) < (i : Nat) := by
          rw [Bool.and_eq_true] at h
          exact of_decide_eq_true h.1
        obtain ⟨p, ep, hp⟩ := modN (c / 65) (m := ((i : Nat) : Int)) (by omega)
        have hp' : p < ss.length := by omega
        have ok := hss p ss[p] (List.getElem?_eq_getElem hp')
        refine ⟨(ss[p], true), ok.mono (by omega), ?_⟩
        walk_at "go"
        rw [ep, ixD_list (i := p) (d := ss[p].d) (by rw [List.getElem?_map, List.getElem?_eq_getElem hp']; rfl)]
        unfold CStep.d
        walk_at "go"
        rfl
      · exact ⟨(⟨m, b, ws⟩, false), ⟨hm, hwl, hws, vb0, vb1⟩, rfl⟩
      · walk_at "ev"
        rw [tupleD_wires]
        have hz : ss.length < sizeLine := size_le (by omega)
        walk_at "ev"
        rw [gd_pos hz]
        walk_at "ev"
        refine ⟨ss ++ [v.1], by rw [List.map_append]; rfl, by rw [List.length_append, hl]; rfl, hss.snoc (by rw [hl]; exact hv)⟩
  · obtain ⟨ss, rfl, hl, hss⟩ := hI
    rw [upN_length] at hl
    walk_at "ev"
    refine Gives.two (α := List CStep) (fun v => StepsOk n v ∧ v.length ≤ k + 1 ∧ 0 < n + v.length) (fun v => [some (dL ns), some (.int (a : Nat)), some (.int (n : Nat)), some (.int (k : Nat)), some (.list (v.map CStep.d)), none, none, none, none, none, none, none]) (fun h => ?_) (fun h => ?_) fun v hv => ?_
    · refine ⟨[⟨0, 1, []⟩], ⟨StepsOk.nil.snoc ⟨by show (0 : Nat) ≤ 4; decide, rfl, fun w hw => (nomatch hw), by show (0 : Int) ≤ 1; decide, by show (1 : Int) < 2 ^ 2 ^ 0; decide⟩, by show 1 ≤ k + 1; omega, by show 0 < n + 1; omega⟩, rfl⟩
    · have := of_decide_eq_false h
      exact ⟨ss, ⟨hss, by omega, by omega⟩, rfl⟩
    · obtain ⟨v1, v2, v3⟩ := hv
      obtain ⟨c1, e1⟩ := l_cell ns hns (k := a + k + 1) (by omega)
      have e2 : ((a : Nat) : Int) + (k : Nat) + 1 = ((a + k + 1 : Nat) : Nat) := by omega
      walk_at "ev"
      rw [e2, e1]
      walk_at "go"
      refine Gives.two (α := Nat) (fun o => o < n + v.length) (fun o => [some (dL ns), some (.int (a : Nat)), some (.int (n : Nat)), some (.int (k : Nat)), some (.list (v.map CStep.d)), none, none, none, none, none, some (.int (((n : Nat) : Int) + (v.length : Nat))), some (.int (o : Nat))]) (fun h => ?_) (fun h => ?_) fun o ho => ?_
      · obtain ⟨o, eo, ho⟩ := modN (c1 / 5) (m := ((n : Nat) : Int) + (v.length : Nat)) (by omega)
        refine ⟨o, by omega, ?_⟩
        walk_at "go"
        rw [eo]
      · refine ⟨n + v.length - 1, by omega, ?_⟩
        rw [show ((n + v.length - 1 : Nat) : Int) = ((n : Nat) : Int) + (v.length : Nat) - 1 by omega]
      · walk_at "ev"
        exact ⟨v, o, rfl, v1, v2, ho⟩
theorem enum_dN {ws : List Nat} : enumL (dN ws) = (List.range ws.length).map fun i => PyData.tuple [.int (i : Nat), .int (ws.getD i 0 : Nat)] := by
  unfold enumL dN
  rw [List.length_map]
  refine List.map_congr_left fun i hi => ?_
  have hi := List.mem_range.mp hi
  rw [List.getD_eq_getElem?_getD, List.getD_eq_getElem?_getD, List.getElem?_map, List.getElem?_eq_getElem hi]
  rfl
theorem l_out {n r : Nat} {ss : List CStep} {o : Nat} (hn : n ≤ 4) (hs : StepsOk n ss) (hl : ss.length ≤ 10000) (ho : o < n + ss.length) : m_law_out [dC n ss o, .int (r : Nat)] = .ok (.int ((valsI n ss r).getD o 0)) := by
  unfold m_law_out dC
  walk_at "ev"
  rw [eComp_upN (n := n) (fun i => .int (bitI (r : Nat) (i : Nat))) ?_ (size_le (by omega)) fun i _ => ?_]
  rotate_left
  · walk_at "ev"
    exact rng1_nat (by omega)
  · walk_at "go"
    rw [Int.toNat_natCast, bitAnd1]
  walk_at "ev"
  rw [map_int, row_of_bits]
  refine forR_bind (fun i => [some (.tuple [.int (n : Nat), .tuple (ss.map CStep.d), .int (o : Nat)]), some (.int (r : Nat)), some (dL (valsI n (ss.take i) r)), none, none, none]) rfl (fun i x hx => ?_) ?_
  · obtain ⟨s, h1, rfl⟩ := enc_get hx
    have ok := hs i s h1
    have hi := (List.getElem?_eq_some_iff.mp h1).1
    have hv : (valsI n (ss.take i) r).length = n + i := by rw [vals_length, List.length_take]; omega
    have m4 := ok.m4
    have h01 := vals_01 (n := n) (ss := ss.take i) (r := r)
    unfold CStep.d
    walk_at "ev"
    rw [eComp_enc (α := Nat) (xs := List.range s.ws.length) (fun i => PyData.tuple [.int (i : Nat), .int (s.ws.getD i 0 : Nat)]) (fun j => .int ((s.ws.map fun k => (valsI n (ss.take i) r).getD k 0).getD j 0 * 2 ^ j)) ?_ (size_le (by rw [List.length_range, ok.len]; omega)) fun j hj => ?_]
    rotate_left
    · walk_at "ev"
      rw [enmD_tup, enum_dN]
    · have hj := List.mem_range.mp hj
      have hk := ok.lt s.ws[j] (List.getElem_mem hj)
      have hg : s.ws.getD j 0 = s.ws[j] := by rw [List.getD_eq_getElem?_getD, List.getElem?_eq_getElem hj]; rfl
      have ge := getD_01 h01 s.ws[j]
      walk_at "ev"
      rw [hg, getD_ix (by omega)]
      walk_at "ev"
      rw [gd_pos (show CPow _ _ from ⟨by omega, by have := ok.len; omega, by omega⟩), Int.toNat_natCast]
      rw [List.getD_eq_getElem?_getD (l := s.ws.map _), List.getElem?_map, List.getElem?_eq_getElem hj]
      rfl
    walk_at "ev"
    rw [map_int, sumD_ints]
    have e2 := sum_powers (s.ws.map fun k => (valsI n (ss.take i) r).getD k 0)
    rw [List.length_map] at e2
    rw [e2]
    have g0 : 0 ≤ gnum (s.ws.map fun k => (valsI n (ss.take i) r).getD k 0) := gnum_nonneg fun x hx => by
      obtain ⟨k, _, rfl⟩ := List.mem_map.mp hx
      rcases getD_01 h01 k with z | z <;> omega
    unfold dL
    walk_at "ev"
    rw [gd_pos g0]
    walk_at "ev"
    rw [gd_pos (size_le (by omega)), PyProof.Rows.bitAnd_m1]
    walk_at "ev"
    rw [steps_take h1, vals_snoc]
    unfold stepV
    rw [List.map_append]
    rfl
  · rw [List.length_map, List.take_length]
    walk_at "ev"
    rw [getD_ix (by rw [vals_length]; exact ho)]
    walk_at "ev"
noncomputable def enumP (N : List Nat) : List (Nat × Nat) := (List.range N.length).map fun w => (w, N.getD w 0)
theorem enumP_snoc {N : List Nat} {v : Nat} : enumP (N ++ [v]) = enumP N ++ [(N.length, v)] := by
  unfold enumP
  rw [List.length_append, List.length_singleton, List.range_succ, List.map_append]
  congr 1
  · exact List.map_congr_left fun w hw => by rw [n_left (List.mem_range.mp hw)]
  · show [(N.length, (N ++ [v]).getD N.length 0)] = _
    rw [b_last]
theorem enumP_len {N : List Nat} : (enumP N).length = N.length := by unfold enumP; rw [List.length_map, List.length_range]
theorem lkP_enum {w : Nat} (N : List Nat) : lkP w (enumP N) = if w < N.length then some (N.getD w 0) else none := by
  refine snoc_ind (P := fun N => lkP w (enumP N) = if w < N.length then some (N.getD w 0) else none) rfl (fun N v ih => ?_) N
  rw [enumP_snoc, lkP_app, ih, List.length_append, List.length_singleton]
  by_cases h : w < N.length
  · rw [if_pos h, if_pos (show w < N.length + 1 by omega), n_left h]
  · rw [if_neg h]
    show (if N.length = w then some v else none) = _
    by_cases e : N.length = w
    · subst e
      rw [if_pos rfl, if_pos (show N.length < N.length + 1 by omega), b_last]
    · rw [if_neg e, if_neg (show ¬ w < N.length + 1 by omega)]
theorem diag_enum {n : Nat} : ((List.range n).map fun j => (j, j)) = enumP (List.range n) := by
  unfold enumP
  rw [List.length_range]
  exact List.map_congr_left fun w hw => by rw [range_getD (List.mem_range.mp hw)]
theorem ixE {w : Nat} {N : List Nat} (h : w < N.length) : ixY (.dict (dP (enumP N))) (.int (w : Nat)) = .ok (.int (N.getD w 0 : Nat)) := by
  show (match lookD (.inl ((w : Nat) : Int)) (dP (enumP N)) with | some d => Res.ok d | none => .bad) = _
  rw [look_dP, lkP_enum, if_pos h]; rfl
theorem setK_none {k : Nat} {x : PyData} : ∀ {ps : List (Nat × Nat)}, lkP k ps = none → setK (.inl ((k : Nat) : Int)) x (dP ps) = dP ps
  | [], _ => rfl
  | p :: r, h => by
    have h : (if p.1 = k then some p.2 else lkP k r) = none := h
    by_cases e : p.1 = k
    · rw [if_pos e] at h; cases h
    · rw [if_neg e] at h
      show (if keyD (PyData.int (p.1 : Nat)) = some (.inl ((k : Nat) : Int)) then _ else (PyData.int (p.1 : Nat), PyData.int (p.2 : Nat))) :: setK (.inl ((k : Nat) : Int)) x (dP r) = _
      rw [if_neg (show ¬ (keyD (PyData.int (p.1 : Nat)) = some (.inl ((k : Nat) : Int))) from fun z => e (Int.ofNat.inj (Sum.inl.inj (Option.some.inj z)))), setK_none h]
      rfl
theorem setK_app {key : Key} {x : PyData} : ∀ {a b : List (PyData × PyData)}, setK key x (a ++ b) = setK key x a ++ setK key x b
  | [], b => rfl
  | (k, d) :: a, b => by
    show (if keyD k = some key then (k, x) else (k, d)) :: setK key x (a ++ b) = _
    rw [setK_app]; rfl
theorem putQ {i k v v0 : Nat} {m m' : ME} {Γ : Ev} {ps : List (Nat × Nat)} (h : m Γ = .ok (.int (k : Nat))) (h' : m' Γ = .ok (.int (v : Nat))) (hg : gv Γ i = some (.dict (dP (ps ++ [(k, v0)])))) (hn : lkP k ps = none) (hl : ps.length ≤ 90000) (hi : i < Γ.length) :
    sPutD i m m' Γ = .ok (.nx (Γ.set i (some (.dict (dP (ps ++ [(k, v)])))))) := by
  unfold sPutD
  rw [h', Res.ok_bind, h, Res.ok_bind, hg]
  show gd ((dP (ps ++ [(k, v0)])).length < sizeLine ∧ i < Γ.length) (Res.ok (Out.nx (Γ.set i (some (.dict (putD2 (.int (k : Nat)) (.inl ((k : Nat) : Int)) (.int (v : Nat)) (dP (ps ++ [(k, v0)])))))))) = _
  rw [gd_pos ⟨size_le (by unfold dP; rw [List.length_map, List.length_append, List.length_singleton]; omega), hi⟩]
  unfold putD2
  rw [has_dP, lkP_app, hn]
  rw [if_pos (by show (if k = k then some v0 else none).isSome = true; rw [if_pos rfl]; rfl)]
  rw [show dP (ps ++ [(k, v0)]) = dP ps ++ dP [(k, v0)] by unfold dP; rw [List.map_append], setK_app, setK_none hn]
  rw [show dP (ps ++ [(k, v)]) = dP ps ++ dP [(k, v)] by unfold dP; rw [List.map_append]]
  congr 6
  show [(if keyD (PyData.int (k : Nat)) = some (.inl ((k : Nat) : Int)) then (PyData.int (k : Nat), PyData.int (v : Nat)) else _)] = _
  rw [if_pos (show keyD (PyData.int (k : Nat)) = some (.inl ((k : Nat) : Int)) from rfl)]; rfl
theorem eqD_dN {a b : List Nat} : eqD (.list (dN a)) (.list (dN b)) = .ok (.bool (decide (a = b))) := by
  have e : ∀ a : List Nat, dN a = (a.map fun w => ((w : Nat) : Int)).map PyData.int := fun a => by unfold dN; rw [List.map_map]; rfl
  rw [e, e, eqD_lints]
  congr 2
  exact decide_eq_decide.mpr ⟨fun z => natI_inj z, fun z => by rw [z]⟩
theorem and_r {a b : Bool} : bT (.bool a) (Res.ok (PyData.bool b)) (Res.ok (.bool false)) = .ok (.bool (a && b)) := by cases a <;> rfl
noncomputable def stayL (n : Nat) (V : List Int) (k : Nat) : List Nat := ((List.range k).filter fun j => decide (((n + j : Nat) : Int) ∈ V)).map fun j => n + j
theorem l_due {n o : Nat} {ss : List CStep} (hs : StepsOk n ss) (hn : n ≤ 100) (hl : ss.length ≤ 5000) (ho : o < n + ss.length) :
    m_law_due [dC n ss o] = .ok (.tuple [.dict (dP (enumP (nmdL n ss ss.length))), .list (dN (stayL n (usN n o ss) ss.length))]) := by
  have okN := stN_ok hs
  have c := corF hs
  unfold m_law_due
  walk_at "ev"
  rw [show gT [gN 1, gN 2, gN 3] (dC n ss o) [some (dC n ss o), none, none, none, none, none, none, none, none, none, none, none, none] = .ok [some (dC n ss o), some (.int (n : Nat)), some (.tuple (ss.map CStep.d)), some (.int (o : Nat)), none, none, none, none, none, none, none, none, none] from rfl]
  walk_at "ev"
  rw [rng1_nat (by omega)]
  walk_at "ev"
  refine forR_bind (fun i => [some (dC n ss o), some (.int (n : Nat)), some (.tuple (ss.map CStep.d)), some (.int (o : Nat)), some (.dict (dP ((List.range i).map fun j => (j, j)))), none, none, none, none, none, none, none, none]) rfl (fun i x hx => ?_) ?_
  · obtain ⟨hi, rfl⟩ := upN_get hx
    walk_at "ev"
    rw [putP (k := i) (v := i) (ps := (List.range i).map fun j => (j, j)) rfl rfl rfl (by rw [lkP_diag, if_neg (fun z => by have := List.mem_range.mp z; omega)]) (by rw [List.length_map, List.length_range]; omega) (of_decide_eq_true rfl)]
    walk_at "ev"
    rw [List.range_succ, List.map_append]
    rfl
  rw [upN_length, diag_enum]
  walk_at "ev"
  rw [rng1_nat (by omega)]
  walk_at "ev"
  refine forR_bind (fun k => [some (dC n ss o), some (.int (n : Nat)), some (.tuple (ss.map CStep.d)), some (.int (o : Nat)), some (.dict (dP (enumP (nmdL n ss k)))), none, none, none, none, none, none, none, none]) rfl (fun k x hx => ?_) ?_
  · obtain ⟨hk, rfl⟩ := upN_get hx
    have es := get_of hk
    have cK := cor_all hs k (by omega)
    have lenN := cK.lenN
    rw [show nmdL n ss (k + 1) = nmdL n ss k ++ [lastJ (cndJ n ss (nmdL n ss k) k) (n + k) n k] from rfl]
    generalize nmdL n ss k = N at lenN
    have ok := hs k _ es
    have m4 := ok.m4
    have ln := ok.len
    have wsl : ∀ j, j ≤ k → ∀ w ∈ (ss.getD j zS).ws, w < n + k := fun j hj w hw => by
      have := (hs j _ (get_of (by omega))).lt w hw
      omega
    have wl4 : ∀ j, j ≤ k → (ss.getD j zS).ws.length ≤ 4 := fun j hj => by
      have o2 := hs j _ (get_of (ss := ss) (i := j) (by omega))
      rw [o2.len]; exact o2.m4
    walk_at "ev"
    rw [ixD_tuple (i := k) (by rw [List.getElem?_map, es]; rfl)]
    walk_at "ev"
    rw [show ∀ Γ : Ev, gT [gN 6, gN 7] (ss.getD k zS).d Γ = (gN 6 (dG (ss.getD k zS).m (ss.getD k zS).b) Γ).bind fun Γ => gT [gN 7] (.tuple [.tuple (dN (ss.getD k zS).ws)]) Γ from fun _ => rfl]
    walk_at "ev"
    have comp : ∀ (M : List Nat) (Γ : Ev) (ws : List Nat) (e : MI), (∀ w ∈ ws, w < M.length) → ws.length ≤ 4 → e Γ = .ok (dN ws) → blockE 1 [4] Γ = [none, some (.dict (dP (enumP M)))] → eComp e (gN 0) (eC (.bool true)) (eBin ixY (eVar 1) (eVar 0)) 1 [4] Γ = .ok (.list (dN (ws.map fun w => M.getD w 0))) := fun M Γ ws e hw hl he hb => by
      rw [eComp_enc (xs := ws) (fun w => PyData.int (w : Nat)) (fun w => .int (M.getD w 0 : Nat)) he (size_le (by omega)) fun w hw' => ?_]
      · unfold dN; rw [List.map_map]; rfl
      · rw [hb]
        walk_at "ev"
        exact ixE (hw w hw')
    rw [comp N _ (ss.getD k zS).ws _ (fun w hw => by rw [lenN]; exact ok.lt w hw) (by omega) (by walk_at "ev") rfl]
    walk_at "ev"
    rw [putP (k := n + k) (v := n + k) (ps := enumP N) (by walk_at "ev"; congr 1) (by walk_at "ev"; congr 1) rfl (by rw [lkP_enum, if_neg (by omega)]) (by rw [enumP_len]; omega) (of_decide_eq_true rfl)]
    walk_at "ev"
    rw [rng1_nat (by omega)]
    walk_at "ev"
    rw [show enumP N ++ [(n + k, n + k)] = enumP (N ++ [n + k]) by rw [enumP_snoc, lenN]]
    refine forR_bind (fun j => [some (dC n ss o), some (.int (n : Nat)), some (.tuple (ss.map CStep.d)), some (.int (o : Nat)), some (.dict (dP (enumP (N ++ [lastJ (cndJ n ss N k) (n + k) n j])))), some (.int (k : Nat)), some (dG (ss.getD k zS).m (ss.getD k zS).b), some (.tuple (dN (ss.getD k zS).ws)), some (.list (dN ((ss.getD k zS).ws.map fun w => N.getD w 0))), none, none, none, none]) rfl (fun j x hx => ?_) ?_
    · obtain ⟨hj, rfl⟩ := upN_get hx
      have ej := get_of (ss := ss) (i := j) (by omega)
      have okj := hs j _ ej
      generalize hcur : lastJ (cndJ n ss N k) (n + k) n j = cur
      rw [show lastJ (cndJ n ss N k) (n + k) n (j + 1) = if cndJ n ss N k j = true then n + j else cur by rw [← hcur]; rfl]
      walk_at "ev"
      rw [comp (N ++ [cur]) _ (ss.getD j zS).ws _ (fun w hw => by have := wsl j (by omega) w hw; rw [List.length_append, List.length_singleton]; omega) (wl4 j (by omega)) (by walk_at "ev"; rw [ixD_tuple (i := j) (by rw [List.getElem?_map, ej]; rfl)]; walk_at "ev"; rw [show ixD (ss.getD j zS).d (.int 1) = .ok (.tuple (dN (ss.getD j zS).ws)) from rfl]; walk_at "ev") rfl]
      walk_at "ev"
      rw [show ((ss.getD j zS).ws.map fun w => (N ++ [cur]).getD w 0) = (ss.getD j zS).ws.map fun w => N.getD w 0 from List.map_congr_left fun w hw => n_left (by rw [lenN]; exact wsl j (by omega) w hw)]
      rw [show ((n : Nat) : Int) + (j : Nat) = ((n + j : Nat) : Int) by omega, ixE (by rw [List.length_append, List.length_singleton]; omega), n_left (by omega)]
      walk_at "ev"
      rw [ixD_tuple (i := j) (by rw [List.getElem?_map, ej]; rfl)]
      walk_at "ev"
      rw [show ixD (ss.getD j zS).d (.int 0) = .ok (dG (ss.getD j zS).m (ss.getD j zS).b) from rfl]
      walk_at "ev"
      rw [eqD_dN, and_r, and_r]
      walk_at "ev"
      rw [show (decide (((N.getD (n + j) 0 : Nat) : Int) = ((n + j : Nat) : Int)) && (decide ((ss.getD j zS).m = (ss.getD k zS).m ∧ (ss.getD j zS).b = (ss.getD k zS).b) && decide (((ss.getD j zS).ws.map fun w => N.getD w 0) = ((ss.getD k zS).ws.map fun w => N.getD w 0)))) = cndJ n ss N k j from by
        unfold cndJ
        congr 1
        exact decide_eq_decide.mpr ⟨fun z => Int.ofNat.inj z, fun z => by rw [z]⟩]
      by_cases hc : cndJ n ss N k j = true
      · rw [hc, if_pos rfl]
        walk_at "ev"
        rw [putQ (k := n + k) (v := n + j) (v0 := cur) (ps := enumP N) (by walk_at "ev"; congr 1) (by walk_at "ev"; congr 1) (by rw [enumP_snoc, lenN]; rfl) (by rw [lkP_enum, if_neg (by omega)]) (by rw [enumP_len]; omega) (of_decide_eq_true rfl)]
        walk_at "ev"
        rw [enumP_snoc, lenN]
      · rw [Bool.not_eq_true] at hc
        rw [hc, if_neg Bool.false_ne_true]
        walk_at "ev"
    · rw [upN_length]
      walk_at "ev"
  rw [upN_length]
  walk_at "ev"
  have lenN := c.lenN
  rw [show ∀ Γ : Ev, gv Γ 4 = some (.dict (dP (enumP (nmdL n ss ss.length)))) → gv Γ 3 = some (.int (o : Nat)) → eDctK (eBin ixY (eVar 4) (eVar 3)) (eC (.bool true)) Γ = .ok (.dict (mk [(((nmdL n ss ss.length).getD o 0 : Nat) : Int)])) from fun Γ h4 h3 => by
    unfold eDctK
    rw [show (eBin ixY (eVar 4) (eVar 3)) Γ = .ok (.int ((nmdL n ss ss.length).getD o 0 : Nat)) by unfold eBin eVar; rw [h4, h3]; exact ixE (by omega)]
    rfl]
  rotate_left
  · rfl
  · rfl
  walk_at "ev"
  rw [show ∀ Γ : Ev, gv Γ 2 = some (.tuple (ss.map CStep.d)) → itR3 (eBin subD (eFn lenD [(eVar 2)]) (eC (.int 1))) (eUn negD (eC (.int 1))) (eUn negD (eC (.int 1))) Γ = .ok ((List.range ss.length).map fun i => PyData.int (((ss.length : Nat) : Int) - 1 - (i : Nat))) from fun Γ h => by
    unfold itR3
    rw [show (eBin subD (eFn lenD [(eVar 2)]) (eC (.int 1))) Γ = .ok (.int (((ss.length : Nat) : Int) - 1)) by
      show ((eFn lenD [(eVar 2)]) Γ).bind _ = _
      rw [show (eFn lenD [(eVar 2)]) Γ = .ok (.int (ss.length : Nat)) by
        unfold eFn evs eVar
        rw [h]
        show lenD [.tuple (ss.map CStep.d)] = _
        rw [lenD_tuple, List.length_map]]
      rfl]
    exact rng3_down (by omega)]
  rotate_left
  · rfl
  walk_at "ev"
  refine forR_bind (fun i => [some (dC n ss o), some (.int (n : Nat)), some (.tuple (ss.map CStep.d)), some (.int (o : Nat)), some (.dict (dP (enumP (nmdL n ss ss.length)))), none, none, none, none, none, none, some (.dict (mk (useL n (stN n ss) ((nmdL n ss ss.length).getD o 0) i))), none]) rfl (fun i x hx => ?_) ?_
  · obtain ⟨i', ei, rfl⟩ := enc_get hx
    obtain ⟨hi, ei'⟩ : i < ss.length ∧ i' = i := by
      obtain ⟨h1, h2⟩ := (List.getElem?_eq_some_iff.mp ei)
      rw [List.length_range] at h1
      rw [List.getElem_range] at h2
      exact ⟨h1, h2.symm⟩
    rw [ei']
    have hu := useL_len (o := (nmdL n ss ss.length).getD o 0) okN i
    walk_at "ev"
    rw [show ((n : Nat) : Int) + (((ss.length : Nat) : Int) - 1 - (i : Nat)) = ((n + (ss.length - 1 - i) : Nat) : Int) by omega, in_mk]
    rw [show useL n (stN n ss) ((nmdL n ss ss.length).getD o 0) (i + 1) = if ((n + ((stN n ss).length - 1 - i) : Nat) : Int) ∈ useL n (stN n ss) ((nmdL n ss ss.length).getD o 0) i then insAll (useL n (stN n ss) ((nmdL n ss ss.length).getD o 0) i) (((stN n ss)[(stN n ss).length - 1 - i]?.map CStep.ws).getD []) else useL n (stN n ss) ((nmdL n ss ss.length).getD o 0) i from rfl, stN_len]
    by_cases hm : ((n + (ss.length - 1 - i) : Nat) : Int) ∈ useL n (stN n ss) ((nmdL n ss ss.length).getD o 0) i
    · rw [if_pos hm, decide_eq_true hm]
      generalize useL n (stN n ss) ((nmdL n ss ss.length).getD o 0) i = U at hu
      have hlt : ss.length - 1 - i < ss.length := by omega
      have es : ss[ss.length - 1 - i]? = some (ss.getD (ss.length - 1 - i) zS) := get_of hlt
      rw [stN_get es]
      generalize ss.getD (ss.length - 1 - i) zS = s at es
      have ok := hs _ s es
      have ln := ok.len
      have m4 := ok.m4
      walk_at "ev"
      rw [show ((ss.length : Nat) : Int) - 1 - (i : Nat) = ((ss.length - 1 - i : Nat) : Int) by omega, ixD_tuple (i := ss.length - 1 - i) (by rw [List.getElem?_map, es]; rfl)]
      walk_at "ev"
      rw [show ixD s.d (.int 1) = .ok (.tuple (dN s.ws)) from rfl]
      walk_at "ev"
      refine forR_bind (fun j => [some (dC n ss o), some (.int (n : Nat)), some (.tuple (ss.map CStep.d)), some (.int (o : Nat)), some (.dict (dP (enumP (nmdL n ss ss.length)))), some (.int ((ss.length - 1 - i : Nat) : Int)), none, none, none, none, none, some (.dict (mk (insAll U ((s.ws.map fun w => (nmdL n ss ss.length).getD w 0).take j)))), none]) rfl (fun j x hx => ?_) ?_
      · obtain ⟨w, ew, rfl⟩ := enc_get hx
        have hw := ok.lt w (List.mem_of_getElem? ew)
        have := insAll_len (U := U) ((s.ws.map fun w => (nmdL n ss ss.length).getD w 0).take j)
        rw [List.length_take, List.length_map] at this
        walk_at "ev"
        rw [sPutD_ok (x := (((nmdL n ss ss.length).getD w 0 : Nat) : Int)) (ks := insAll U ((s.ws.map fun w => (nmdL n ss ss.length).getD w 0).take j)) rfl (by walk_at "ev"; exact ixE (by omega)) rfl (by omega) (of_decide_eq_true rfl)]
        walk_at "ev"
        rw [take_snoc (l := s.ws.map fun w => (nmdL n ss ss.length).getD w 0) (x := (nmdL n ss ss.length).getD w 0) (by rw [List.getElem?_map, ew]; rfl), insAll_snoc]
      · rw [show (dN s.ws).length = s.ws.length from dN_len, List.take_of_length_le (by rw [List.length_map]; exact Nat.le_refl _)]
        walk_at "ev"
        rfl
    · rw [if_neg hm, decide_eq_false hm]
      walk_at "ev"
  · rw [List.length_map, List.length_range]
    walk_at "ev"
    rw [eComp_filterN (n := ss.length) (fun k => decide (((n + k : Nat) : Int) ∈ usN n o ss)) (fun k => .int ((n + k : Nat) : Int)) (by walk_at "ev"; exact rng1_nat (by omega)) (size_le (by omega)) (fun k hk => ?_) (fun k hk _ => ?_)]
    · walk_at "ev"
      unfold stayL dN
      rw [List.map_map]
      rfl
    · walk_at "ev"
      rw [show ((n : Nat) : Int) + (k : Nat) = ((n + k : Nat) : Int) by omega, in_mk]
      unfold usN
      rw [stN_len]
    · walk_at "ev"
      congr 2
theorem lkP_none {w : Nat} : ∀ {ps : List (Nat × Nat)}, (∀ p ∈ ps, p.1 ≠ w) → lkP w ps = none
  | [], _ => rfl
  | p :: r, h => by
    show (if p.1 = w then some p.2 else lkP w r) = none
    rw [if_neg (h p List.mem_cons_self), lkP_none fun q hq => h q (List.mem_cons_of_mem _ hq)]
noncomputable def namK (n : Nat) (st : List Nat) (k : Nat) : List (Nat × Nat) := ((List.range n).map fun j => (j, j)) ++ (List.range k).map fun j => (st.getD j 0, n + j)
theorem namK_succ {n k : Nat} {st : List Nat} : namK n st (k + 1) = namK n st k ++ [(st.getD k 0, n + k)] := by
  unfold namK
  rw [List.range_succ, List.map_append, List.append_assoc]
  rfl
theorem namK_len {n k : Nat} {st : List Nat} : (namK n st k).length = n + k := by
  unfold namK
  rw [List.length_append, List.length_map, List.length_map, List.length_range, List.length_range]
theorem stay_succ {n k : Nat} {V : List Int} : stayL n V (k + 1) = if ((n + k : Nat) : Int) ∈ V then stayL n V k ++ [n + k] else stayL n V k := by
  unfold stayL
  rw [List.range_succ, List.filter_append, List.map_append]
  by_cases h : ((n + k : Nat) : Int) ∈ V
  · rw [if_pos h, List.filter_cons_of_pos (by rw [decide_eq_true h])]; rfl
  · rw [if_neg h, List.filter_cons_of_neg (by rw [decide_eq_false h]; exact Bool.false_ne_true)]
    show _ ++ [] = _
    rw [List.append_nil]
theorem stay_mem {n k x : Nat} {V : List Int} (h : x ∈ stayL n V k) : ∃ j, j < k ∧ x = n + j ∧ ((n + j : Nat) : Int) ∈ V := by
  obtain ⟨j, hj, rfl⟩ := List.mem_map.mp h
  obtain ⟨h1, h2⟩ := List.mem_filter.mp hj
  exact ⟨j, List.mem_range.mp h1, rfl, of_decide_eq_true h2⟩
theorem stay_nodup {n k : Nat} {V : List Int} : (stayL n V k).Nodup := by
  unfold stayL
  refine List.pairwise_map.mpr (List.Pairwise.imp ?_ (List.Pairwise.filter _ List.nodup_range))
  intro a b hne e
  exact hne (by omega)
theorem stay_len {n k : Nat} {V : List Int} : (stayL n V k).length ≤ k := by
  unfold stayL
  rw [List.length_map]
  have := List.length_filter_le (fun j => decide (((n + j : Nat) : Int) ∈ V)) (List.range k)
  rwa [List.length_range] at this
theorem unuK_names {n : Nat} {V : List Int} {ss : List CStep} : ∀ i, (unuK n V ss i).2 = namK n (stayL n V i) (stayL n V i).length ∧ (unuK n V ss i).1.length = (stayL n V i).length
  | 0 => ⟨by show _ = _ ++ []; rw [List.append_nil]; rfl, rfl⟩
  | i + 1 => by
    obtain ⟨h1, h2⟩ := unuK_names (n := n) (V := V) (ss := ss) i
    rw [stay_succ]
    by_cases h : ((n + i : Nat) : Int) ∈ V
    · rw [unuK_in h, if_pos h]
      refine ⟨?_, by show (_ ++ [_]).length = _; rw [List.length_append, List.length_append, h2]; rfl⟩
      show (unuK n V ss i).2 ++ [(n + i, n + (unuK n V ss i).1.length)] = _
      rw [h1, h2, List.length_append, List.length_singleton, namK_succ, b_last]
      congr 1
      unfold namK
      congr 1
      exact List.map_congr_left fun j hj => by rw [n_left (List.mem_range.mp hj)]
    · rw [unuK_out h, if_neg h]
      exact ⟨h1, h2⟩
theorem namK_no {n k : Nat} {V : List Int} {m : Nat} (hk : k < (stayL n V m).length) : lkP ((stayL n V m).getD k 0) (namK n (stayL n V m) k) = none := by
  refine lkP_none fun p hp e => ?_
  rcases List.mem_append.mp hp with hp | hp
  · obtain ⟨j, hj, rfl⟩ := List.mem_map.mp hp
    obtain ⟨j', _, ej, _⟩ := stay_mem (List.mem_of_getElem? (getN hk))
    have := List.mem_range.mp hj
    have e : j = (stayL n V m).getD k 0 := e
    omega
  · obtain ⟨j, hj, rfl⟩ := List.mem_map.mp hp
    have hj := List.mem_range.mp hj
    have e : (stayL n V m).getD j 0 = (stayL n V m).getD k 0 := e
    have := get_nodup stay_nodup (getN (show j < (stayL n V m).length by omega)) (by rw [getN hk, e])
    omega
theorem unuK_steps {n : Nat} {V : List Int} {ss : List CStep} (hs : StepsOk n ss) (hc : Clos n V ss) : (unuK n V ss ss.length).1 = (stayL n V ss.length).map fun x => rnP (unuK n V ss ss.length).2 (ss.getD (x - n) zS) := by
  obtain ⟨h1, h2⟩ := unuK_names (n := n) (V := V) (ss := ss) ss.length
  have u := unuK_all hs hc ss.length (Nat.le_refl _)
  refine List.ext_getElem? fun k => ?_
  by_cases hk : k < (stayL n V ss.length).length
  · have gk := getN hk
    rw [List.getElem?_map, gk]
    obtain ⟨j, hj, ej, hv⟩ := stay_mem (List.mem_of_getElem? gk)
    obtain ⟨k', e1, e2⟩ := u.at_ j hj hv
    have : k' = k := by
      have e3 : lkP ((stayL n V ss.length).getD k 0) (unuK n V ss ss.length).2 = some (n + k) := by
        rw [h1]
        have key : ∀ m, k < m → m ≤ (stayL n V ss.length).length → lkP ((stayL n V ss.length).getD k 0) (namK n (stayL n V ss.length) m) = some (n + k) := fun m => by
          induction m with
          | zero => intro h; omega
          | succ m ih =>
            intro hm hm'
            rw [namK_succ, lkP_app]
            by_cases q : k < m
            · rw [ih q (by omega)]
            · have : k = m := by omega
              subst this
              rw [namK_no hk]
              show (if _ = _ then _ else _) = _
              rw [if_pos rfl]
        exact key _ hk (Nat.le_refl _)
      rw [ej, e1] at e3
      have := Option.some.inj e3
      omega
    subst this
    rw [e2, ej]
    show _ = some (rnP _ (ss.getD (n + j - n) zS))
    rw [Nat.add_sub_cancel_left]
  · rw [List.getElem?_eq_none (by omega), List.getElem?_eq_none (by rw [List.length_map]; omega)]
theorem l_right {n o : Nat} {ss : List CStep} (hs : StepsOk n ss) (hn : n ≤ 100) (hl : ss.length ≤ 5000) (ho : o < n + ss.length) :
    m_law_right [dC n ss o, dC n (unuK n (usN n o ss) (stN n ss) (stN n ss).length).1 ((lkP ((nmdL n ss ss.length).getD o 0) (unuK n (usN n o ss) (stN n ss) (stN n ss).length).2).getD 0)] = .ok (.bool true) := by
  have okN := stN_ok hs
  have c := corF hs
  have lenN := c.lenN
  have cl := clos_N (o := o) hs
  have kO := unuK_ok okN cl (stN n ss).length (Nat.le_refl _)
  have st := unuK_steps okN cl
  obtain ⟨nm, _⟩ := unuK_names (n := n) (V := usN n o ss) (ss := stN n ss) (stN n ss).length
  have sl := stay_len (n := n) (V := usN n o ss) (k := ss.length)
  unfold m_law_right
  walk_at "ev"
  rw [show ∀ x : PyData, gT [gN 2, gN 3, gN 4] (dC n ss o) [some (dC n ss o), some x, none, none, none, none, none, none, none, none, none, none, none] = .ok [some (dC n ss o), some x, some (.int (n : Nat)), some (.tuple (ss.map CStep.d)), some (.int (o : Nat)), none, none, none, none, none, none, none, none] from fun _ => rfl]
  walk_at "ev"
  rw [l_due hs hn hl ho]
  walk_at "ev"
  rw [rng1_nat (by omega)]
  walk_at "ev"
  refine forR_bind (fun i => [some (dC n ss o), some (dC n (unuK n (usN n o ss) (stN n ss) (stN n ss).length).1 ((lkP ((nmdL n ss ss.length).getD o 0) (unuK n (usN n o ss) (stN n ss) (stN n ss).length).2).getD 0)), some (.int (n : Nat)), some (.tuple (ss.map CStep.d)), some (.int (o : Nat)), some (.dict (dP (enumP (nmdL n ss ss.length)))), some (.list (dN (stayL n (usN n o ss) ss.length))), some (.dict (dP ((List.range i).map fun j => (j, j)))), none, none, none, none, none]) rfl (fun i x hx => ?_) ?_
  · obtain ⟨hi, rfl⟩ := upN_get hx
    walk_at "ev"
    rw [putP (k := i) (v := i) (ps := (List.range i).map fun j => (j, j)) rfl rfl rfl (by rw [lkP_diag, if_neg (fun z => by have := List.mem_range.mp z; omega)]) (by rw [List.length_map, List.length_range]; omega) (of_decide_eq_true rfl)]
    walk_at "ev"
    rw [List.range_succ, List.map_append]
    rfl
  rw [upN_length]
  walk_at "ev"
  generalize unuK n (usN n o ss) (stN n ss) (stN n ss).length = K at *
  rw [stN_len] at st nm kO
  have smem : ∀ x ∈ stayL n (usN n o ss) ss.length, ∃ j, j < ss.length ∧ x = n + j ∧ ((n + j : Nat) : Int) ∈ usN n o ss := fun x hx => stay_mem hx
  have sno : ∀ k, k < (stayL n (usN n o ss) ss.length).length → lkP ((stayL n (usN n o ss) ss.length).getD k 0) (namK n (stayL n (usN n o ss) ss.length) k) = none := fun k hk => namK_no hk
  generalize stayL n (usN n o ss) ss.length = ST at *
  have ixK : ∀ w, w < n + ss.length → (w < n ∨ ((w : Nat) : Int) ∈ usN n o ss) → ixY (.dict (dP K.2)) (.int (w : Nat)) = .ok (.int ((lkP w K.2).getD 0 : Nat)) := fun w hw hu => by
    obtain ⟨v, ev, _⟩ := kO.has w hw hu
    show (match lookD (.inl ((w : Nat) : Int)) (dP K.2) with | some d => Res.ok d | none => .bad) = _
    rw [look_dP, ev]; rfl
  rw [dN_len, rng1_nat (by omega)]
  walk_at "ev"
  refine forR_bind (fun k => [some (dC n ss o), some (dC n K.1 ((lkP ((nmdL n ss ss.length).getD o 0) K.2).getD 0)), some (.int (n : Nat)), some (.tuple (ss.map CStep.d)), some (.int (o : Nat)), some (.dict (dP (enumP (nmdL n ss ss.length)))), some (.list (dN ST)), some (.dict (dP (namK n ST k))), none, none, none, none, none]) (by rw [show namK n ST 0 = (List.range n).map fun j => (j, j) from List.append_nil _]) (fun k x hx => ?_) ?_
  · obtain ⟨hk, rfl⟩ := upN_get hx
    walk_at "ev"
    rw [putP (k := ST.getD k 0) (v := n + k) (ps := namK n ST k) (by walk_at "ev"; exact dN_ix hk) (by walk_at "ev"; congr 1) rfl (sno k hk) (by rw [namK_len]; omega) (of_decide_eq_true rfl)]
    walk_at "ev"
    rw [namK_succ]
  rw [upN_length, ← nm]
  walk_at "ev"
  refine forR_bind (fun j => [some (dC n ss o), some (dC n K.1 ((lkP ((nmdL n ss ss.length).getD o 0) K.2).getD 0)), some (.int (n : Nat)), some (.tuple (ss.map CStep.d)), some (.int (o : Nat)), some (.dict (dP (enumP (nmdL n ss ss.length)))), some (.list (dN ST)), some (.dict (dP K.2)), none, some (.list ((ST.take j).map fun x => (rnP K.2 ((stN n ss).getD (x - n) zS)).d)), none, none, none]) rfl (fun j x hx => ?_) ?_
  · obtain ⟨y, ey, rfl⟩ := enc_get hx
    obtain ⟨i, hi, rfl, hv⟩ := smem y (List.mem_of_getElem? ey)
    have hj := (List.getElem?_eq_some_iff.mp ey).1
    have es := get_of hi
    have ok := hs i _ es
    have ln := ok.len
    have m4 := ok.m4
    have cN := cl i _ (stN_get es) hv
    walk_at "ev"
    rw [show ((n + i : Nat) : Int) - (n : Nat) = (i : Nat) by omega, ixD_tuple (i := i) (by rw [List.getElem?_map, es]; rfl)]
    walk_at "ev"
    rw [show ∀ Γ : Ev, gT [gN 11, gN 12] (ss.getD i zS).d Γ = (gN 11 (dG (ss.getD i zS).m (ss.getD i zS).b) Γ).bind fun Γ => gT [gN 12] (.tuple [.tuple (dN (ss.getD i zS).ws)]) Γ from fun _ => rfl]
    walk_at "ev"
    rw [eComp_enc (xs := (ss.getD i zS).ws) (fun w => PyData.int (w : Nat)) (fun w => .int ((lkP ((nmdL n ss ss.length).getD w 0) K.2).getD 0 : Nat)) (by walk_at "ev"; rfl) (size_le (by omega)) fun w hw => ?_]
    rotate_left
    · walk_at "ev"
      have hlt := ok.lt w hw
      have r := c.rep w (by omega)
      rw [ixE (by omega)]
      walk_at "ev"
      exact ixK _ (by omega) (cN _ (List.mem_map.mpr ⟨w, hw, rfl⟩))
    walk_at "ev"
    rw [gd_pos (size_le (by rw [List.length_take]; omega))]
    walk_at "ev"
    rw [take_snoc ey, List.map_append]
    have e9 : (rnP K.2 ((stN n ss).getD (n + i - n) zS)).d = .tuple [dG (ss.getD i zS).m (ss.getD i zS).b, .tuple ((ss.getD i zS).ws.map fun w => .int ((lkP ((nmdL n ss ss.length).getD w 0) K.2).getD 0 : Nat))] := by
      rw [Nat.add_sub_cancel_left, getD_of (stN_get es)]
      show PyData.tuple [dG _ _, .tuple (dN (((ss.getD i zS).ws.map _).map _))] = _
      unfold dN
      rw [List.map_map, List.map_map]
      rfl
    rw [List.map_cons, List.map_nil, e9]
  · rw [dN_len, List.take_length]
    have r := c.rep o ho
    walk_at "ev"
    rw [ixE (by omega)]
    walk_at "ev"
    rw [ixK _ (by omega) (.inr (useL_out _))]
    walk_at "ev"
    rw [show PyData.tuple [.int (n : Nat), .tuple (ST.map fun x => (rnP K.2 ((stN n ss).getD (x - n) zS)).d), .int ((lkP ((nmdL n ss ss.length).getD o 0) K.2).getD 0 : Nat)] = dC n K.1 ((lkP ((nmdL n ss ss.length).getD o 0) K.2).getD 0) from by unfold dC; rw [st, List.map_map]; rfl, eqD_dC]
    walk_at "ev"
theorem six {v : Int} (h : 0 ≤ v ∧ v < 6) : ∃ k : Nat, k ≤ 200 ∧ ixD (.list [.int 18, .int 18, .int 18, .int 18, .int 60, .int 200]) (.int v) = .ok (.int (k : Nat)) := by
  obtain ⟨h1, h2⟩ := h
  rcases (by omega : v = 0 ∨ v = 1 ∨ v = 2 ∨ v = 3 ∨ v = 4 ∨ v = 5) with rfl | rfl | rfl | rfl | rfl | rfl
  · exact ⟨18, by decide, rfl⟩
  · exact ⟨18, by decide, rfl⟩
  · exact ⟨18, by decide, rfl⟩
  · exact ⟨18, by decide, rfl⟩
  · exact ⟨60, by decide, rfl⟩
  · exact ⟨200, by decide, rfl⟩
theorem main (ns : List Int) (h : ns.length ≤ 63) : m_law [.list (ns.map PyData.int)] = .ok (.bool true) := by
  show m_law [dL ns] = _
  unfold m_law
  obtain ⟨c0, e0⟩ := l_cell ns h (k := 0) (by decide)
  rw [show ((0 : Nat) : Int) = 0 from rfl] at e0
  obtain ⟨n, en, hn⟩ := modN (c0 / 6) (m := 5) (by decide)
  obtain ⟨k, hk, ek⟩ := six (v := c0 % 6) ⟨Int.emod_nonneg _ (by decide), Int.emod_lt_of_pos _ (by decide)⟩
  obtain ⟨ss, o, ec, hs, hl, ho⟩ := l_circuit ns h (a := 1) (n := n) (k := k) (by decide) (by omega) (by omega)
  rw [show ((1 : Nat) : Int) = 1 from rfl] at ec
  have hn : n ≤ 4 := by omega
  obtain ⟨es, S⟩ := p_sharedX hs (by omega) (by omega) ho
  have er := l_right hs (by omega) (by omega) ho
  generalize (lkP ((nmdL n ss ss.length).getD o 0) (unuK n (usN n o ss) (stN n ss) (stN n ss).length).2).getD 0 = v at es S er
  generalize (unuK n (usN n o ss) (stN n ss) (stN n ss).length).1 = rs at es S er
  have sl := S.len
  walk_at "ev"
  rw [e0]
  walk_at "go"
  rw [ek]
  walk_at "ev"
  rw [en, ec]
  walk_at "ev"
  rw [es]
  walk_at "ev"
  rw [isi_dC]
  walk_at "ev"
  rw [er]
  walk_at "ev"
  rw [ixC1]
  walk_at "ev"
  rw [show lenSetN [.tuple (rs.map CStep.d)] = .ok (.int (rs.length : Nat)) from by
    show (match keysT (rs.map CStep.d) with | some ks => gd (ks.Nodup ∧ ks.length < 400) (Res.ok (PyData.int (ks.length : Nat))) | none => .bad) = _
    rw [keysT_steps]
    show gd ((rs.map kS).Nodup ∧ (rs.map kS).length < 400) (Res.ok (PyData.int ((rs.map kS).length : Nat))) = _
    rw [gd_pos ⟨kS_nodup S.nod, by rw [List.length_map]; omega⟩, List.length_map]]
  walk_at "ev"
  rw [ixC0]
  walk_at "ev"
  rw [gd_pos (show CPow 1 (n : Nat) from ⟨by omega, by omega, by decide⟩), Int.toNat_natCast, Int.one_mul]
  walk_at "ev"
  rw [rng1_pow hn]
  walk_at "ev"
  refine forR_bind (fun _ => [some (dL ns), some (.int (k : Nat)), some (dC n ss o), some (dC n rs v), none]) rfl (fun r x hx => ?_) ?_
  · obtain ⟨hr, rfl⟩ := upN_get hx
    walk_at "ev"
    rw [l_out hn S.ok (by omega) S.lt]
    walk_at "ev"
    rw [l_out hn hs (by omega) ho]
    walk_at "ev"
    rw [decide_eq_true (show (valsI n rs r).getD v 0 = (valsI n ss r).getD o 0 from S.same (fun _ b xs => bitI b (gnum xs)) 0 (bitsOf n r) (bitsOf_length n r))]
    walk_at "ev"
  · walk_at "ev"
    rw [p_sharedI S (by omega) (by omega)]
    walk_at "ev"
    rw [eqD_dC]
    walk_at "ev"
end Law
namespace Law
open PySem PySem.Spec PyProof.Rows L2 L3 Prog
noncomputable def top (i : Nat) : Stmt := PySem.Challenge.pw_gatekin_k14_shared.main.body.getD i (.Pass ⟨0, 0, 0, 0⟩)
noncomputable abbrev s_renamed : Stmt := top 1
noncomputable abbrev s_without_doubles : Stmt := top 2
noncomputable abbrev s_used_wires : Stmt := top 3
noncomputable abbrev s_without_unused : Stmt := top 4
noncomputable abbrev s_shared : Stmt := top 5
noncomputable abbrev s_law_cell_at : Stmt := top 7
noncomputable abbrev s_law_gate : Stmt := top 8
noncomputable abbrev s_law_circuit : Stmt := top 9
noncomputable abbrev s_law_out : Stmt := top 10
noncomputable abbrev s_law_due : Stmt := top 11
noncomputable abbrev s_law_right : Stmt := top 12
noncomputable abbrev s_law : Stmt := top 13
theorem sc_renamed : FnScope ["step", "names"] ["step", "names"] (defScope s_renamed) := ⟨rfl, rfl, rfl, by decide +kernel, rfl, by decide +kernel, by decide +kernel⟩
theorem sc_without_doubles : FnScope ["circuit", "inputs", "names", "steps", "stayed", "old", "step"] ["circuit"] (defScope s_without_doubles) := ⟨rfl, rfl, rfl, by decide +kernel, rfl, by decide +kernel, by decide +kernel⟩
theorem sc_used_wires : FnScope ["circuit", "inputs", "steps", "used", "s", "wire"] ["circuit"] (defScope s_used_wires) := ⟨rfl, rfl, rfl, by decide +kernel, rfl, by decide +kernel, by decide +kernel⟩
theorem sc_without_unused : FnScope ["circuit", "inputs", "used", "names", "j", "steps", "s", "step"] ["circuit"] (defScope s_without_unused) := ⟨rfl, rfl, rfl, by decide +kernel, rfl, by decide +kernel, by decide +kernel⟩
theorem sc_shared : FnScope ["circuit"] ["circuit"] (defScope s_shared) := ⟨rfl, rfl, rfl, by decide +kernel, rfl, by decide +kernel, by decide +kernel⟩
theorem sc_law_cell_at : FnScope ["_law_script", "_law_k"] ["_law_script", "_law_k"] (defScope s_law_cell_at) := ⟨rfl, rfl, rfl, by decide +kernel, rfl, by decide +kernel, by decide +kernel⟩
theorem sc_law_gate : FnScope ["_law_cell", "_law_inputs", "_law_some"] ["_law_cell"] (defScope s_law_gate) := ⟨rfl, rfl, rfl, by decide +kernel, rfl, by decide +kernel, by decide +kernel⟩
theorem sc_law_circuit : FnScope ["_law_script", "_law_start", "_law_inputs", "_law_most", "_law_steps", "_law_k", "_law_cell", "_law_gate_here", "_law_some", "_law_j", "_law_beyond", "_law_out_here"] ["_law_script", "_law_start", "_law_inputs", "_law_most"] (defScope s_law_circuit) := ⟨rfl, rfl, rfl, by decide +kernel, rfl, by decide +kernel, by decide +kernel⟩
theorem sc_law_out : FnScope ["_law_circuit_here", "_law_row", "_law_found", "_law_gate_here", "_law_some", "_law_at"] ["_law_circuit_here", "_law_row"] (defScope s_law_out) := ⟨rfl, rfl, rfl, by decide +kernel, rfl, by decide +kernel, by decide +kernel⟩
theorem sc_law_due : FnScope ["_law_circuit_here", "_law_inputs", "_law_steps", "_law_out_here", "_law_named", "_law_k", "_law_gate_here", "_law_some", "_law_mine", "_law_j", "_law_theirs", "_law_need", "_law_wire"] ["_law_circuit_here"] (defScope s_law_due) := ⟨rfl, rfl, rfl, by decide +kernel, rfl, by decide +kernel, by decide +kernel⟩
theorem sc_law_right : FnScope ["_law_circuit_here", "_law_found", "_law_inputs", "_law_steps", "_law_out_here", "_law_named", "_law_stay", "_law_names", "_law_k", "_law_due_here", "_law_wire", "_law_gate_here", "_law_some"] ["_law_circuit_here", "_law_found"] (defScope s_law_right) := ⟨rfl, rfl, rfl, by decide +kernel, rfl, by decide +kernel, by decide +kernel⟩
theorem sc_law : FnScope ["_law_script", "_law_most", "_law_circuit_here", "_law_found", "_law_row"] ["_law_script"] (defScope s_law) := ⟨rfl, rfl, rfl, by decide +kernel, rfl, by decide +kernel, by decide +kernel⟩
section
variable {P : Program} {w : World} {K : PySem.W.Frag} {mg : Str → Option Value} {base : Heap}
theorem ok_renamed (F : At K mg "renamed" s_renamed ["step", "names"]) (z_tuple : mg "tuple" = none) : Def P w K mg base 1 "renamed" ["step", "names"] (spF K [.bor, .bor] .f m_renamed) :=
  def_ok (N := ["step", "names"]) (fs := [.bor, .bor]) (O := [.bor, .bor]) (O' := []) (Ol := []) (rm := .f) F sc_renamed rfl (by decide) (by decide) fun f cdv A outer s H E hr =>
  (ss_one (ss_ret (se_tup (si_cons (se_ix (sp_var 0) (sp se_int) (fun _ _ => rfl)) (si_cons (se_callTy cd_tuple rfl z_tuple (show bootBuiltins "tuple" = some (.type "tuple") by decide +kernel) (sa_bor (sfp (sf_comp ["wire"] [1] (Ob := [.imm, .bor]) (O1 := [.imm, .bor]) (is := [0]) rfl rfl rfl rfl (by decide) (sc_seq (sp (se_ix (sp_var 0) (sp se_int) (fun _ _ => rfl)))) (fun _ _ _ _ _ => (sg_name 0 (show List.Nodup (["wire", "names"] : List Str) by decide +kernel) rfl (Or.inl rfl))) (fun _ _ _ _ _ => sifs_nil) (fun _ _ _ _ _ => (se_ixY hr.units2 (sp_var 1) (sp_var 0) (fun _ _ => rfl))))) sa_nil)) si_nil)))))
theorem ok_without_doubles (F : At K mg "without_doubles" s_without_doubles ["circuit"]) (d_renamed : Def P w K mg base 1 "renamed" ["step", "names"] (spF K [.bor, .bor] .f m_renamed)) (z_len : mg "len" = none) (z_list : mg "list" = none) (z_range : mg "range" = none) (z_tuple : mg "tuple" = none) : Def P w K mg base 2 "without_doubles" ["circuit"] (spF K [.bor] .f m_without_doubles) :=
  def_ok (N := ["circuit", "inputs", "names", "steps", "stayed", "old", "step"]) (fs := [.bor]) (O := [.bor, .imm, .own, .own, .own, .imm, .imm]) (O' := []) (Ol := []) (rm := .f) F sc_without_doubles rfl (by decide) (by decide) fun f cdv A outer s H E hr =>
  (ss_cons (O1 := [.bor, .imm, .own, .own, .own, .imm, .imm]) (ss_set 1 sc_without_doubles.nd rfl (Or.inl rfl) (se_ix (sp_var 0) (sp se_int) (fun _ _ => rfl)))
    (ss_cons (O1 := [.bor, .imm, .own, .own, .own, .imm, .imm]) (ss_setF 2 sc_without_doubles.nd rfl (Or.inl rfl) (sf_lrange rfl rfl z_list (show bootBuiltins "list" = some (.type "list") by decide +kernel) rfl z_range (show bootBuiltins "range" = some (.type "range") by decide +kernel) (sp_var 1)))
    (ss_cons (O1 := [.bor, .imm, .own, .own, .own, .imm, .imm]) (ss_setF 3 sc_without_doubles.nd rfl (Or.inl rfl) (sf_lst si_nil))
    (ss_cons (O1 := [.bor, .imm, .own, .own, .nst true, .imm, .imm]) (ss_nest 4 (O1 := [.bor, .imm, .own, .own, .own, .imm, .imm]) (ss_setF 4 sc_without_doubles.nd rfl (Or.inl rfl) sf_dct0))
    (ss_cons (O1 := [.bor, .imm, .own, .own, .nst true, .imm, .imm]) (ss_for PassesOwn.never rfl [5, 6] (Oe := [.bor, .imm, .own, .own, .nst true, .imm, .imm]) (si_seq (sq (se_ix (sp_var 0) (sp se_int) (fun _ _ => rfl)))) (sg_name 5 sc_without_doubles.nd rfl (Or.inl rfl)) (ss_cons (O1 := [.bor, .imm, .own, .own, .nst true, .imm, .imm]) (ss_set 6 sc_without_doubles.nd rfl (Or.inl rfl) (se_call d_renamed (hr.mono (by decide)) rfl (sa_bor (sp_var 5) (sa_bor (sp_var 2) sa_nil))))
    (ss_cons (O1 := [.bor, .imm, .own, .own, .nst true, .imm, .imm]) (ss_if (st_notInN 4 hr.units2 (se_var 6)) (ss_cons (O1 := [.bor, .imm, .own, .own, .nst true, .imm, .imm]) (ss_nput 4 hr.units2 (se_var 6) (se_bin od_add (sp_var 1) (sp (se_callB cd_len rfl z_len (show bootBuiltins "len" = some (.builtin "len") by decide +kernel) (sa_bor (sp_var 3) sa_nil)))))
    (ss_one (ss_app 3 (se_var 6)))) ss_nil)
    (ss_one (ss_app 2 (se_ixN 4 hr.units2 (se_var 6) (fun _ _ => rfl)))))) (by decide))
    (ss_one (ss_ret (se_tup (si_cons (se_var 1) (si_cons (se_callTy cd_tuple rfl z_tuple (show bootBuiltins "tuple" = some (.type "tuple") by decide +kernel) (sa_bor (sp_var 3) sa_nil)) (si_cons (se_ix (sp_var 2) (sp (se_ix (sp_var 0) (sp se_int) (fun _ _ => rfl))) (fun _ _ => rfl)) si_nil)))))))))))
theorem ok_used_wires (F : At K mg "used_wires" s_used_wires ["circuit"]) (z_len : mg "len" = none) (z_range : mg "range" = none) : Def P w K mg base 1 "used_wires" ["circuit"] (spF K [.bor] .t m_used_wires) :=
  def_ok (N := ["circuit", "inputs", "steps", "used", "s", "wire"]) (fs := [.bor]) (O := [.bor, .imm, .imm, .own, .imm, .imm]) (O' := []) (Ol := []) (rm := .t) F sc_used_wires rfl (by decide) (by decide) fun f cdv A outer s H E hr =>
  (ss_cons (O1 := [.bor, .imm, .imm, .own, .imm, .imm]) (ss_set 1 sc_used_wires.nd rfl (Or.inl rfl) (se_ix (sp_var 0) (sp se_int) (fun _ _ => rfl)))
    (ss_cons (O1 := [.bor, .imm, .imm, .own, .imm, .imm]) (ss_set 2 sc_used_wires.nd rfl (Or.inl rfl) (se_ix (sp_var 0) (sp se_int) (fun _ _ => rfl)))
    (ss_cons (O1 := [.bor, .imm, .imm, .own, .imm, .imm]) (ss_setF 3 sc_used_wires.nd rfl (Or.inl rfl) (sf_dctK (se_ix (sp_var 0) (sp se_int) (fun _ _ => rfl)) se_bl))
    (ss_cons (O1 := [.bor, .imm, .imm, .own, .imm, .imm]) (ss_for PassesOwn.never rfl [4, 5] (Oe := [.bor, .imm, .imm, .own, .imm, .imm]) (si_range3 rfl z_range (sp (se_bin od_sub (sp (se_callB cd_len rfl z_len (show bootBuiltins "len" = some (.builtin "len") by decide +kernel) (sa_bor (sp_var 2) sa_nil))) (sp se_int))) (sp (se_neg (sp se_int))) (sp (se_neg (sp se_int)))) (sg_name 4 sc_used_wires.nd rfl (Or.inl rfl)) (ss_one (ss_if (st_cmp (od_inY hr.units2) (sp (se_bin od_add (sp_var 1) (sp_var 4))) (sp_var 3) rfl) (ss_one (ss_for PassesOwn.never rfl [5] (Oe := [.bor, .imm, .imm, .own, .imm, .imm]) (si_seq (sq (se_ix (sp (se_ix (sp_var 2) (sp_var 4) (fun _ _ => rfl))) (sp se_int) (fun _ _ => rfl)))) (sg_name 5 sc_used_wires.nd rfl (Or.inl rfl)) (ss_one (ss_dput 3 hr.units2 (se_var 5) se_bl)) (by decide))) ss_nil)) (by decide))
    (ss_one (ss_retO 3))))))
theorem ok_without_unused (F : At K mg "without_unused" s_without_unused ["circuit"]) (d_used_wires : Def P w K mg base 1 "used_wires" ["circuit"] (spF K [.bor] .t m_used_wires)) (d_renamed : Def P w K mg base 1 "renamed" ["step", "names"] (spF K [.bor, .bor] .f m_renamed)) (z_enumerate : mg "enumerate" = none) (z_len : mg "len" = none) (z_range : mg "range" = none) (z_tuple : mg "tuple" = none) : Def P w K mg base 2 "without_unused" ["circuit"] (spF K [.bor] .f m_without_unused) :=
  def_ok (N := ["circuit", "inputs", "used", "names", "j", "steps", "s", "step"]) (fs := [.bor]) (O := [.bor, .imm, .imm, .own, .imm, .own, .imm, .imm]) (O' := []) (Ol := []) (rm := .f) F sc_without_unused rfl (by decide) (by decide) fun f cdv A outer s H E hr =>
  (ss_cons (O1 := [.bor, .imm, .imm, .own, .imm, .own, .imm, .imm]) (ss_set 1 sc_without_unused.nd rfl (Or.inl rfl) (se_ix (sp_var 0) (sp se_int) (fun _ _ => rfl)))
    (ss_cons (O1 := [.bor, .imm, .imm, .own, .imm, .own, .imm, .imm]) (ss_set 2 sc_without_unused.nd rfl (Or.inl rfl) (sfe (sf_call d_used_wires (hr.mono (by decide)) rfl (sa_bor (sp_var 0) sa_nil))))
    (ss_cons (O1 := [.bor, .imm, .imm, .own, .imm, .own, .imm, .imm]) (ss_setF 3 sc_without_unused.nd rfl (Or.inl rfl) sf_dct0)
    (ss_cons (O1 := [.bor, .imm, .imm, .own, .imm, .own, .imm, .imm]) (ss_for PassesOwn.never rfl [4] (Oe := [.bor, .imm, .imm, .own, .imm, .own, .imm, .imm]) (si_range1 rfl z_range (sp_var 1)) (sg_name 4 sc_without_unused.nd rfl (Or.inl rfl)) (ss_one (ss_dput 3 hr.units2 (se_var 4) (se_var 4))) (by decide))
    (ss_cons (O1 := [.bor, .imm, .imm, .own, .imm, .own, .imm, .imm]) (ss_setF 5 sc_without_unused.nd rfl (Or.inl rfl) (sf_lst si_nil))
    (ss_cons (O1 := [.bor, .imm, .imm, .own, .imm, .own, .imm, .imm]) (ss_for PassesOwn.never rfl [6, 7] (Oe := [.bor, .imm, .imm, .own, .imm, .own, .imm, .imm]) (si_enum rfl z_enumerate (sq (se_ix (sp_var 0) (sp se_int) (fun _ _ => rfl)))) (sg_tup rfl (sgs_cons (O1 := [.bor, .imm, .imm, .own, .imm, .own, .imm, .imm]) (sg_name 6 sc_without_unused.nd rfl (Or.inl rfl)) (sgs_cons (O1 := [.bor, .imm, .imm, .own, .imm, .own, .imm, .imm]) (sg_name 7 sc_without_unused.nd rfl (Or.inl rfl)) sgs_nil))) (ss_one (ss_if (st_cmp (od_inY hr.units2) (sp (se_bin od_add (sp_var 1) (sp_var 6))) (sp_var 2) rfl) (ss_cons (O1 := [.bor, .imm, .imm, .own, .imm, .own, .imm, .imm]) (ss_app 5 (se_call d_renamed (hr.mono (by decide)) rfl (sa_bor (sp_var 7) (sa_bor (sp_var 3) sa_nil))))
    (ss_one (ss_dput 3 hr.units2 (se_bin od_add (sp_var 1) (sp_var 6)) (se_bin od_sub (sp (se_bin od_add (sp_var 1) (sp (se_callB cd_len rfl z_len (show bootBuiltins "len" = some (.builtin "len") by decide +kernel) (sa_bor (sp_var 5) sa_nil))))) (sp se_int))))) ss_nil)) (by decide))
    (ss_one (ss_ret (se_tup (si_cons (se_var 1) (si_cons (se_callTy cd_tuple rfl z_tuple (show bootBuiltins "tuple" = some (.type "tuple") by decide +kernel) (sa_bor (sp_var 5) sa_nil)) (si_cons (se_ixY hr.units2 (sp_var 3) (sp (se_ix (sp_var 0) (sp se_int) (fun _ _ => rfl))) (fun _ _ => rfl)) si_nil))))))))))))
theorem ok_shared (F : At K mg "shared" s_shared ["circuit"]) (d_without_unused : Def P w K mg base 2 "without_unused" ["circuit"] (spF K [.bor] .f m_without_unused)) (d_without_doubles : Def P w K mg base 2 "without_doubles" ["circuit"] (spF K [.bor] .f m_without_doubles)) : Def P w K mg base 3 "shared" ["circuit"] (spF K [.bor] .f m_shared) :=
  def_ok (N := ["circuit"]) (fs := [.bor]) (O := [.bor]) (O' := []) (Ol := []) (rm := .f) F sc_shared rfl (by decide) (by decide) fun f cdv A outer s H E hr =>
  (ss_one (ss_ret (se_call d_without_unused (hr.mono (by decide)) rfl (sa_bor (sp (se_call d_without_doubles (hr.mono (by decide)) rfl (sa_bor (sp_var 0) sa_nil))) sa_nil))))
theorem ok_law_cell_at (F : At K mg "_law_cell_at" s_law_cell_at ["_law_script", "_law_k"]) (z_len : mg "len" = none) : Def P w K mg base 1 "_law_cell_at" ["_law_script", "_law_k"] (spF K [.bor, .bor] .f m_law_cell_at) :=
  def_ok (N := ["_law_script", "_law_k"]) (fs := [.bor, .bor]) (O := [.bor, .bor]) (O' := []) (Ol := []) (rm := .f) F sc_law_cell_at rfl (by decide) (by decide) fun f cdv A outer s H E hr =>
  (ss_cons (O1 := [.bor, .bor]) (ss_if (st_cmp od_lt (sp_var 1) (sp (se_callB cd_len rfl z_len (show bootBuiltins "len" = some (.builtin "len") by decide +kernel) (sa_bor (sp_var 0) sa_nil))) (nomark _)) (ss_one (ss_ret (se_ix (sp_var 0) (sp_var 1) (fun _ _ => rfl)))) ss_nil)
    (ss_cons (O1 := [.bor, .bor]) (ss_if (st_cmp (od_eq hr.units) (sp (se_callB cd_len rfl z_len (show bootBuiltins "len" = some (.builtin "len") by decide +kernel) (sa_bor (sp_var 0) sa_nil))) (sp se_int) (nomark _)) (ss_one (ss_ret (se_bin od_add (sp (se_bin od_mul (sp (se_bin od_mul (sp_var 1) (sp_var 1))) (sp se_int))) (sp (se_bin od_mul (sp se_int) (sp_var 1)))))) ss_nil)
    (ss_one (ss_ret (se_bin od_add (sp (se_bin od_fdiv (sp (se_ix (sp_var 0) (sp (se_bin od_mod (sp_var 1) (sp (se_callB cd_len rfl z_len (show bootBuiltins "len" = some (.builtin "len") by decide +kernel) (sa_bor (sp_var 0) sa_nil))))) (fun _ _ => rfl))) (sp (se_bin od_add (sp se_int) (sp (se_bin od_fdiv (sp_var 1) (sp (se_callB cd_len rfl z_len (show bootBuiltins "len" = some (.builtin "len") by decide +kernel) (sa_bor (sp_var 0) sa_nil))))))))) (sp (se_bin od_mul (sp (se_bin od_mul (sp_var 1) (sp_var 1))) (sp se_int))))))))
theorem ok_law_gate (F : At K mg "_law_gate" s_law_gate ["_law_cell"]) : Def P w K mg base 1 "_law_gate" ["_law_cell"] (spF K [.imm] .f m_law_gate) :=
  def_ok (N := ["_law_cell", "_law_inputs", "_law_some"]) (fs := [.imm]) (O := [.imm, .imm, .imm]) (O' := []) (Ol := []) (rm := .f) F sc_law_gate rfl (by decide) (by decide) fun f cdv A outer s H E hr =>
  (ss_cons (O1 := [.imm, .imm, .imm]) (ss_set 1 sc_law_gate.nd rfl (Or.inl rfl) (se_ix (sfp (sf_lst (si_cons se_int (si_cons se_int (si_cons se_int (si_cons se_int (si_cons se_int (si_cons se_int (si_cons se_int (si_cons se_int (si_cons se_int (si_cons se_int si_nil)))))))))))) (sp (se_bin od_mod (sp_var 0) (sp se_int))) (fun _ _ => rfl)))
    (ss_cons (O1 := [.imm, .imm, .imm]) (ss_set 0 sc_law_gate.nd rfl (Or.inl rfl) (se_bin od_fdiv (sp_var 0) (sp se_int)))
    (ss_cons (O1 := [.imm, .imm, .imm]) (ss_set 2 sc_law_gate.nd rfl (Or.inl rfl) (sfe (sf_lst (si_cons se_int (si_cons se_int (si_cons se_int (si_cons se_int (si_cons se_int (si_cons se_int (si_cons se_int (si_cons se_int si_nil)))))))))))
    (ss_cons (O1 := [.imm, .imm, .imm]) (ss_if (sw_pt (sw_and (st_cmp (od_eq hr.units) (sp_var 1) (sp se_int) (nomark _)) (sw_and1 (st_cmp (od_eq hr.units) (sp (se_bin od_mod (sp_var 0) (sp se_int))) (sp se_int) (nomark _))))) (ss_one (ss_ret (se_tup (si_cons se_int (si_cons (se_ix (sp_var 2) (sp (se_bin od_mod (sp (se_bin od_fdiv (sp_var 0) (sp se_int))) (sp se_int))) (fun _ _ => rfl)) si_nil))))) ss_nil)
    (ss_one (ss_ret (se_tup (si_cons (se_var 1) (si_cons (se_bin od_mod (sp (se_bin od_add (sp (se_bin od_mul (sp (se_bin od_fdiv (sp_var 0) (sp se_int))) (sp se_int))) (sp_var 0))) (sp (se_ix (sfp (sf_lst (si_cons se_int (si_cons se_int (si_cons se_int (si_cons se_int (si_cons se_int si_nil))))))) (sp_var 1) (fun _ _ => rfl)))) si_nil)))))))))
theorem ok_law_circuit (F : At K mg "_law_circuit" s_law_circuit ["_law_script", "_law_start", "_law_inputs", "_law_most"]) (d__law_cell_at : Def P w K mg base 1 "_law_cell_at" ["_law_script", "_law_k"] (spF K [.bor, .bor] .f m_law_cell_at)) (d__law_gate : Def P w K mg base 1 "_law_gate" ["_law_cell"] (spF K [.imm] .f m_law_gate)) (z_len : mg "len" = none) (z_range : mg "range" = none) (z_tuple : mg "tuple" = none) : Def P w K mg base 2 "_law_circuit" ["_law_script", "_law_start", "_law_inputs", "_law_most"] (spF K [.bor, .bor, .imm, .bor] .f m_law_circuit) :=
  def_ok (N := ["_law_script", "_law_start", "_law_inputs", "_law_most", "_law_steps", "_law_k", "_law_cell", "_law_gate_here", "_law_some", "_law_j", "_law_beyond", "_law_out_here"]) (fs := [.bor, .bor, .imm, .bor]) (O := [.bor, .bor, .imm, .bor, .own, .imm, .imm, .imm, .own, .imm, .imm, .imm]) (O' := []) (Ol := []) (rm := .f) F sc_law_circuit rfl (by decide) (by decide) fun f cdv A outer s H E hr =>
  (ss_cons (O1 := [.bor, .bor, .imm, .bor, .own, .imm, .imm, .imm, .own, .imm, .imm, .imm]) (ss_setF 4 sc_law_circuit.nd rfl (Or.inl rfl) (sf_lst si_nil))
    (ss_cons (O1 := [.bor, .bor, .imm, .bor, .own, .imm, .imm, .imm, .own, .imm, .imm, .imm]) (ss_for PassesOwn.never rfl [5, 6, 7, 8, 9] (Oe := [.bor, .bor, .imm, .bor, .own, .imm, .imm, .imm, .imm, .imm, .imm, .imm]) (si_range1 rfl z_range (sp (se_bin od_mod (sp (se_call d__law_cell_at (hr.mono (by decide)) rfl (sa_bor (sp_var 0) (sa_bor (sp_var 1) sa_nil)))) (sp (se_bin od_add (sp_var 3) (sp se_int)))))) (sg_name 5 sc_law_circuit.nd rfl (Or.inl rfl)) (ss_cons (O1 := [.bor, .bor, .imm, .bor, .own, .imm, .imm, .imm, .own, .imm, .imm, .imm]) (ss_set 6 sc_law_circuit.nd rfl (Or.inl rfl) (se_call d__law_cell_at (hr.mono (by decide)) rfl (sa_bor (sp_var 0) (sa_bor (sp (se_bin od_add (sp (se_bin od_add (sp_var 1) (sp se_int))) (sp_var 5))) sa_nil))))
    (ss_cons (O1 := [.bor, .bor, .imm, .bor, .own, .imm, .imm, .imm, .own, .imm, .imm, .imm]) (ss_set 7 sc_law_circuit.nd rfl (Or.inl rfl) (se_call d__law_gate (hr.mono (by decide)) rfl (sa_imm (se_var 6) sa_nil)))
    (ss_cons (O1 := [.bor, .bor, .imm, .bor, .own, .imm, .imm, .imm, .own, .imm, .imm, .imm]) (ss_if (st_cmp (od_eq hr.units) (sp (se_bin od_add (sp_var 2) (sp_var 5))) (sp se_int) (nomark _)) (ss_one (ss_set 7 sc_law_circuit.nd rfl (Or.inl rfl) (se_tup (si_cons se_int (si_cons (se_bin od_mod (sp (se_bin od_fdiv (sp_var 6) (sp se_int))) (sp se_int)) si_nil))))) ss_nil)
    (ss_cons (O1 := [.bor, .bor, .imm, .bor, .own, .imm, .imm, .imm, .own, .imm, .imm, .imm]) (ss_setF 8 sc_law_circuit.nd rfl (Or.inl rfl) (sf_lst si_nil))
    (ss_cons (O1 := [.bor, .bor, .imm, .bor, .own, .imm, .imm, .imm, .own, .imm, .imm, .imm]) (ss_for PassesOwn.never rfl [9] (Oe := [.bor, .bor, .imm, .bor, .own, .imm, .imm, .imm, .own, .imm, .imm, .imm]) (si_range1 rfl z_range (sp (se_ix (sp_var 7) (sp se_int) (fun _ _ => rfl)))) (sg_name 9 sc_law_circuit.nd rfl (Or.inl rfl)) (ss_one (ss_app 8 (se_bin od_mod (sp (se_bin od_add (sp (se_bin od_fdiv (sp_var 6) (sp se_int))) (sp (se_bin od_mul (sp (se_bin od_fdiv (sp_var 6) (sp (se_bin od_add (sp se_int) (sp (se_bin od_mul (sp se_int) (sp_var 9))))))) (sp (se_bin od_add (sp_var 9) (sp se_int))))))) (sp (se_bin od_add (sp_var 2) (sp_var 5)))))) (by decide))
    (ss_cons (O1 := [.bor, .bor, .imm, .bor, .own, .imm, .imm, .imm, .imm, .imm, .imm, .imm]) (ss_if (sw_pt (sw_and (st_cmp od_gt (sp_var 5) (sp se_int) (nomark _)) (sw_and1 (st_cmp (od_eq hr.units) (sp (se_bin od_mod (sp (se_bin od_fdiv (sp_var 6) (sp se_int))) (sp se_int))) (sp se_int) (nomark _))))) (ss_one (ss_asg (se_ix (sp_var 4) (sp (se_bin od_mod (sp (se_bin od_fdiv (sp_var 6) (sp se_int))) (sp_var 5))) (fun _ _ => rfl)) (sg_tup rfl (sgs_cons (O1 := [.bor, .bor, .imm, .bor, .own, .imm, .imm, .imm, .own, .imm, .imm, .imm]) (sg_name 7 sc_law_circuit.nd rfl (Or.inl rfl)) (sgs_cons (O1 := [.bor, .bor, .imm, .bor, .own, .imm, .imm, .imm, .imm, .imm, .imm, .imm]) (sg_name 8 sc_law_circuit.nd rfl (Or.inl rfl)) sgs_nil))))) (se_frz 8 (O' := [.bor, .bor, .imm, .bor, .own, .imm, .imm, .imm, .own, .imm, .imm, .imm]) ss_nil))
    (ss_one (ss_app 4 (se_tup (si_cons (se_var 7) (si_cons (se_callTy cd_tuple rfl z_tuple (show bootBuiltins "tuple" = some (.type "tuple") by decide +kernel) (sa_bor (sp_var 8) sa_nil)) si_nil))))))))))) (by decide))
    (ss_cons (O1 := [.bor, .bor, .imm, .bor, .own, .imm, .imm, .imm, .own, .imm, .imm, .imm]) (ss_if (st_cmp (od_eq hr.units) (sp (se_bin od_add (sp_var 2) (sp (se_callB cd_len rfl z_len (show bootBuiltins "len" = some (.builtin "len") by decide +kernel) (sa_bor (sp_var 4) sa_nil))))) (sp se_int) (nomark _)) (ss_one (ss_setF 4 sc_law_circuit.nd rfl (Or.inl rfl) (sf_lst (si_cons (se_tup (si_cons (se_tup (si_cons se_int (si_cons se_int si_nil))) (si_cons (se_tup si_nil) si_nil))) si_nil)))) ss_nil)
    (ss_cons (O1 := [.bor, .bor, .imm, .bor, .own, .imm, .imm, .imm, .own, .imm, .imm, .imm]) (ss_set 10 sc_law_circuit.nd rfl (Or.inl rfl) (se_bin od_add (sp_var 2) (sp (se_callB cd_len rfl z_len (show bootBuiltins "len" = some (.builtin "len") by decide +kernel) (sa_bor (sp_var 4) sa_nil)))))
    (ss_cons (O1 := [.bor, .bor, .imm, .bor, .own, .imm, .imm, .imm, .own, .imm, .imm, .imm]) (ss_set 11 sc_law_circuit.nd rfl (Or.inl rfl) (se_bin od_sub (sp_var 10) (sp se_int)))
    (ss_cons (O1 := [.bor, .bor, .imm, .bor, .own, .imm, .imm, .imm, .own, .imm, .imm, .imm]) (ss_if (st_cmp (od_eq hr.units) (sp (se_bin od_mod (sp (se_call d__law_cell_at (hr.mono (by decide)) rfl (sa_bor (sp_var 0) (sa_bor (sp (se_bin od_add (sp (se_bin od_add (sp_var 1) (sp_var 3))) (sp se_int))) sa_nil)))) (sp se_int))) (sp se_int) (nomark _)) (ss_one (ss_set 11 sc_law_circuit.nd rfl (Or.inl rfl) (se_bin od_mod (sp (se_bin od_fdiv (sp (se_call d__law_cell_at (hr.mono (by decide)) rfl (sa_bor (sp_var 0) (sa_bor (sp (se_bin od_add (sp (se_bin od_add (sp_var 1) (sp_var 3))) (sp se_int))) sa_nil)))) (sp se_int))) (sp_var 10)))) ss_nil)
    (ss_one (ss_ret (se_tup (si_cons (se_var 2) (si_cons (se_callTy cd_tuple rfl z_tuple (show bootBuiltins "tuple" = some (.type "tuple") by decide +kernel) (sa_bor (sp_var 4) sa_nil)) (si_cons (se_var 11) si_nil))))))))))))
theorem ok_law_out (F : At K mg "_law_out" s_law_out ["_law_circuit_here", "_law_row"]) (z_enumerate : mg "enumerate" = none) (z_range : mg "range" = none) (z_sum : mg "sum" = none) : Def P w K mg base 1 "_law_out" ["_law_circuit_here", "_law_row"] (spF K [.bor, .bor] .f m_law_out) :=
  def_ok (N := ["_law_circuit_here", "_law_row", "_law_found", "_law_gate_here", "_law_some", "_law_at"]) (fs := [.bor, .bor]) (O := [.bor, .bor, .own, .imm, .imm, .imm]) (O' := []) (Ol := []) (rm := .f) F sc_law_out rfl (by decide) (by decide) fun f cdv A outer s H E hr =>
  (ss_cons (O1 := [.bor, .bor, .own, .imm, .imm, .imm]) (ss_setF 2 sc_law_out.nd rfl (Or.inr rfl) (sf_comp ["_law_j"] [1] (Ob := [.imm, .bor]) (O1 := [.imm, .bor]) (is := [0]) rfl rfl rfl rfl (by decide) (sc_range1 rfl z_range (sp (se_ix (sp_var 0) (sp se_int) (fun _ _ => rfl)))) (fun _ _ _ _ _ => (sg_name 0 (show List.Nodup (["_law_j", "_law_row"] : List Str) by decide +kernel) rfl (Or.inl rfl))) (fun _ _ _ _ _ => sifs_nil) (fun _ _ _ _ _ => (se_bin od_and (sp (se_bin od_shr (sp_var 1) (sp_var 0))) (sp se_int)))))
    (ss_cons (O1 := [.bor, .bor, .own, .imm, .imm, .imm]) (ss_for PassesOwn.never rfl [3, 4, 5] (Oe := [.bor, .bor, .own, .imm, .imm, .imm]) (si_seq (sq (se_ix (sp_var 0) (sp se_int) (fun _ _ => rfl)))) (sg_tup rfl (sgs_cons (O1 := [.bor, .bor, .own, .imm, .imm, .imm]) (sg_name 3 sc_law_out.nd rfl (Or.inl rfl)) (sgs_cons (O1 := [.bor, .bor, .own, .imm, .imm, .imm]) (sg_name 4 sc_law_out.nd rfl (Or.inl rfl)) sgs_nil))) (ss_cons (O1 := [.bor, .bor, .own, .imm, .imm, .imm]) (ss_set 5 sc_law_out.nd rfl (Or.inl rfl) (se_callB (cd_sum rfl) rfl z_sum (show bootBuiltins "sum" = some (.builtin "sum") by decide +kernel) (sa_bor (sfp (sf_comp ["_law_k", "_law_wire"] [2] (Ob := [.imm, .imm, .bor]) (O1 := [.imm, .imm, .bor]) (is := [0, 1]) rfl rfl rfl rfl (by decide) (sc_enum rfl z_enumerate (sp_var 4)) (fun _ _ _ _ _ => (sg_tup rfl (sgs_cons (O1 := [.imm, .imm, .bor]) (sg_name 0 (show List.Nodup (["_law_k", "_law_wire", "_law_found"] : List Str) by decide +kernel) rfl (Or.inl rfl)) (sgs_cons (O1 := [.imm, .imm, .bor]) (sg_name 1 (show List.Nodup (["_law_k", "_law_wire", "_law_found"] : List Str) by decide +kernel) rfl (Or.inl rfl)) sgs_nil)))) (fun _ _ _ _ _ => sifs_nil) (fun _ _ _ _ _ => (se_bin od_shl (sp (se_ix (sp_var 2) (sp_var 1) (fun _ _ => rfl))) (sp_var 0))))) sa_nil)))
    (ss_one (ss_app 2 (se_bin od_and (sp (se_bin od_shr (sp (se_ix (sp_var 3) (sp se_int) (fun _ _ => rfl))) (sp_var 5))) (sp se_int))))) (by decide))
    (ss_one (ss_ret (se_ix (sp_var 2) (sp (se_ix (sp_var 0) (sp se_int) (fun _ _ => rfl))) (fun _ _ => rfl))))))
theorem ok_law_due (F : At K mg "_law_due" s_law_due ["_law_circuit_here"]) (z_len : mg "len" = none) (z_range : mg "range" = none) : Def P w K mg base 1 "_law_due" ["_law_circuit_here"] (spF K [.imm] .f m_law_due) :=
  def_ok (N := ["_law_circuit_here", "_law_inputs", "_law_steps", "_law_out_here", "_law_named", "_law_k", "_law_gate_here", "_law_some", "_law_mine", "_law_j", "_law_theirs", "_law_need", "_law_wire"]) (fs := [.imm]) (O := [.imm, .imm, .imm, .imm, .own, .imm, .imm, .imm, .imm, .imm, .imm, .own, .imm]) (O' := []) (Ol := []) (rm := .f) F sc_law_due rfl (by decide) (by decide) fun f cdv A outer s H E hr =>
  (ss_cons (O1 := [.imm, .imm, .imm, .imm, .own, .imm, .imm, .imm, .imm, .imm, .imm, .own, .imm]) (ss_asg (se_var 0) (sg_tup rfl (sgs_cons (O1 := [.imm, .imm, .imm, .imm, .own, .imm, .imm, .imm, .imm, .imm, .imm, .own, .imm]) (sg_name 1 sc_law_due.nd rfl (Or.inr rfl)) (sgs_cons (O1 := [.imm, .imm, .imm, .imm, .own, .imm, .imm, .imm, .imm, .imm, .imm, .own, .imm]) (sg_name 2 sc_law_due.nd rfl (Or.inl rfl)) (sgs_cons (O1 := [.imm, .imm, .imm, .imm, .own, .imm, .imm, .imm, .imm, .imm, .imm, .own, .imm]) (sg_name 3 sc_law_due.nd rfl (Or.inl rfl)) sgs_nil)))))
    (ss_cons (O1 := [.imm, .imm, .imm, .imm, .own, .imm, .imm, .imm, .imm, .imm, .imm, .own, .imm]) (ss_setF 4 sc_law_due.nd rfl (Or.inr rfl) sf_dct0)
    (ss_cons (O1 := [.imm, .imm, .imm, .imm, .own, .imm, .imm, .imm, .imm, .imm, .imm, .own, .imm]) (ss_for PassesOwn.never rfl [5] (Oe := [.imm, .imm, .imm, .imm, .own, .imm, .imm, .imm, .imm, .imm, .imm, .own, .imm]) (si_range1 rfl z_range (sp_var 1)) (sg_name 5 sc_law_due.nd rfl (Or.inl rfl)) (ss_one (ss_dput 4 hr.units2 (se_var 5) (se_var 5))) (by decide))
    (ss_cons (O1 := [.imm, .imm, .imm, .imm, .own, .imm, .imm, .imm, .imm, .imm, .imm, .own, .imm]) (ss_for PassesOwn.never rfl [5, 6, 7, 8, 9, 10] (Oe := [.imm, .imm, .imm, .imm, .own, .imm, .imm, .imm, .own, .imm, .imm, .own, .imm]) (si_range1 rfl z_range (sp (se_callB cd_len rfl z_len (show bootBuiltins "len" = some (.builtin "len") by decide +kernel) (sa_bor (sp_var 2) sa_nil)))) (sg_name 5 sc_law_due.nd rfl (Or.inl rfl)) (ss_cons (O1 := [.imm, .imm, .imm, .imm, .own, .imm, .imm, .imm, .imm, .imm, .imm, .own, .imm]) (ss_asg (se_ix (sp_var 2) (sp_var 5) (fun _ _ => rfl)) (sg_tup rfl (sgs_cons (O1 := [.imm, .imm, .imm, .imm, .own, .imm, .imm, .imm, .imm, .imm, .imm, .own, .imm]) (sg_name 6 sc_law_due.nd rfl (Or.inl rfl)) (sgs_cons (O1 := [.imm, .imm, .imm, .imm, .own, .imm, .imm, .imm, .imm, .imm, .imm, .own, .imm]) (sg_name 7 sc_law_due.nd rfl (Or.inl rfl)) sgs_nil))))
    (ss_cons (O1 := [.imm, .imm, .imm, .imm, .own, .imm, .imm, .imm, .own, .imm, .imm, .own, .imm]) (ss_setC 8 ["_law_wire"] [4] (Ob := [.imm, .bor]) (O1 := [.imm, .bor]) (is := [0]) sc_law_due.nd rfl (Or.inl rfl) rfl rfl rfl rfl (by decide) (sc_seq (sp_var 7)) (fun _ _ _ _ _ => (sg_name 0 (show List.Nodup (["_law_wire", "_law_named"] : List Str) by decide +kernel) rfl (Or.inl rfl))) (fun _ _ _ _ _ => sifs_nil) (fun _ _ _ _ _ => (se_ixY hr.units2 (sp_var 1) (sp_var 0) (fun _ _ => rfl))))
    (ss_cons (O1 := [.imm, .imm, .imm, .imm, .own, .imm, .imm, .imm, .own, .imm, .imm, .own, .imm]) (ss_dput 4 hr.units2 (se_bin od_add (sp_var 1) (sp_var 5)) (se_bin od_add (sp_var 1) (sp_var 5)))
    (ss_one (ss_for PassesOwn.never rfl [9, 10] (Oe := [.imm, .imm, .imm, .imm, .own, .imm, .imm, .imm, .own, .imm, .own, .own, .imm]) (si_range1 rfl z_range (sp_var 5)) (sg_name 9 sc_law_due.nd rfl (Or.inl rfl)) (ss_cons (O1 := [.imm, .imm, .imm, .imm, .own, .imm, .imm, .imm, .own, .imm, .own, .own, .imm]) (ss_setC 10 ["_law_wire"] [4] (Ob := [.imm, .bor]) (O1 := [.imm, .bor]) (is := [0]) sc_law_due.nd rfl (Or.inl rfl) rfl rfl rfl rfl (by decide) (sc_seq (sp (se_ix (sp (se_ix (sp_var 2) (sp_var 9) (fun _ _ => rfl))) (sp se_int) (fun _ _ => rfl)))) (fun _ _ _ _ _ => (sg_name 0 (show List.Nodup (["_law_wire", "_law_named"] : List Str) by decide +kernel) rfl (Or.inl rfl))) (fun _ _ _ _ _ => sifs_nil) (fun _ _ _ _ _ => (se_ixY hr.units2 (sp_var 1) (sp_var 0) (fun _ _ => rfl))))
    (ss_one (ss_if (sw_pt (sw_and (st_cmp (od_eq hr.units) (sp (se_ixY hr.units2 (sp_var 4) (sp (se_bin od_add (sp_var 1) (sp_var 9))) (fun _ _ => rfl))) (sp (se_bin od_add (sp_var 1) (sp_var 9))) (nomark _)) (sw_and (st_cmp (od_eq hr.units) (sp (se_ix (sp (se_ix (sp_var 2) (sp_var 9) (fun _ _ => rfl))) (sp se_int) (fun _ _ => rfl))) (sp_var 6) (nomark _)) (sw_and1 (st_cmp (od_eq hr.units) (sp_var 10) (sp_var 8) (nomark _)))))) (ss_one (ss_dput 4 hr.units2 (se_bin od_add (sp_var 1) (sp_var 5)) (se_bin od_add (sp_var 1) (sp_var 9)))) ss_nil))) (by decide)))))) (by decide))
    (ss_cons (O1 := [.imm, .imm, .imm, .imm, .own, .imm, .imm, .imm, .imm, .imm, .imm, .own, .imm]) (ss_setF 11 sc_law_due.nd rfl (Or.inr rfl) (sf_dctK (se_ixY hr.units2 (sp_var 4) (sp_var 3) (fun _ _ => rfl)) se_bl))
    (ss_cons (O1 := [.imm, .imm, .imm, .imm, .own, .imm, .imm, .imm, .imm, .imm, .imm, .own, .imm]) (ss_for PassesOwn.never rfl [5, 12] (Oe := [.imm, .imm, .imm, .imm, .own, .imm, .imm, .imm, .imm, .imm, .imm, .own, .imm]) (si_range3 rfl z_range (sp (se_bin od_sub (sp (se_callB cd_len rfl z_len (show bootBuiltins "len" = some (.builtin "len") by decide +kernel) (sa_bor (sp_var 2) sa_nil))) (sp se_int))) (sp (se_neg (sp se_int))) (sp (se_neg (sp se_int)))) (sg_name 5 sc_law_due.nd rfl (Or.inl rfl)) (ss_one (ss_if (st_cmp (od_inY hr.units2) (sp (se_bin od_add (sp_var 1) (sp_var 5))) (sp_var 11) rfl) (ss_one (ss_for PassesOwn.never rfl [12] (Oe := [.imm, .imm, .imm, .imm, .own, .imm, .imm, .imm, .imm, .imm, .imm, .own, .imm]) (si_seq (sq (se_ix (sp (se_ix (sp_var 2) (sp_var 5) (fun _ _ => rfl))) (sp se_int) (fun _ _ => rfl)))) (sg_name 12 sc_law_due.nd rfl (Or.inl rfl)) (ss_one (ss_dput 11 hr.units2 (se_ixY hr.units2 (sp_var 4) (sp_var 12) (fun _ _ => rfl)) se_bl)) (by decide))) ss_nil)) (by decide))
    (ss_one (s1_frz 4 (O2 := [.imm, .imm, .imm, .imm, .imm, .imm, .imm, .imm, .imm, .imm, .imm, .own, .imm]) (ss_ret (se_tup (si_cons (se_var 4) (si_cons (sfe (sf_comp ["_law_k"] [1, 11] (Ob := [.imm, .imm, .bor]) (O1 := [.imm, .imm, .bor]) (is := [0]) rfl rfl rfl rfl (by decide) (sc_range1 rfl z_range (sp (se_callB cd_len rfl z_len (show bootBuiltins "len" = some (.builtin "len") by decide +kernel) (sa_bor (sp_var 2) sa_nil)))) (fun _ _ _ _ _ => (sg_name 0 (show List.Nodup (["_law_k", "_law_inputs", "_law_need"] : List Str) by decide +kernel) rfl (Or.inl rfl))) (fun _ _ _ _ _ => (sifs_one (st_cmp (od_inY hr.units2) (sp (se_bin od_add (sp_var 1) (sp_var 0))) (sp_var 2) rfl))) (fun _ _ _ _ _ => (se_bin od_add (sp_var 1) (sp_var 0))))) si_nil))))))))))))
theorem ok_law_right (F : At K mg "_law_right" s_law_right ["_law_circuit_here", "_law_found"]) (d__law_due : Def P w K mg base 1 "_law_due" ["_law_circuit_here"] (spF K [.imm] .f m_law_due)) (z_len : mg "len" = none) (z_range : mg "range" = none) (z_tuple : mg "tuple" = none) : Def P w K mg base 2 "_law_right" ["_law_circuit_here", "_law_found"] (spF K [.imm, .bor] .f m_law_right) :=
  def_ok (N := ["_law_circuit_here", "_law_found", "_law_inputs", "_law_steps", "_law_out_here", "_law_named", "_law_stay", "_law_names", "_law_k", "_law_due_here", "_law_wire", "_law_gate_here", "_law_some"]) (fs := [.imm, .bor]) (O := [.imm, .bor, .imm, .imm, .imm, .imm, .imm, .own, .imm, .own, .imm, .imm, .imm]) (O' := []) (Ol := []) (rm := .f) F sc_law_right rfl (by decide) (by decide) fun f cdv A outer s H E hr =>
  (ss_cons (O1 := [.imm, .bor, .imm, .imm, .imm, .imm, .imm, .own, .imm, .own, .imm, .imm, .imm]) (ss_asg (se_var 0) (sg_tup rfl (sgs_cons (O1 := [.imm, .bor, .imm, .imm, .imm, .imm, .imm, .own, .imm, .own, .imm, .imm, .imm]) (sg_name 2 sc_law_right.nd rfl (Or.inl rfl)) (sgs_cons (O1 := [.imm, .bor, .imm, .imm, .imm, .imm, .imm, .own, .imm, .own, .imm, .imm, .imm]) (sg_name 3 sc_law_right.nd rfl (Or.inl rfl)) (sgs_cons (O1 := [.imm, .bor, .imm, .imm, .imm, .imm, .imm, .own, .imm, .own, .imm, .imm, .imm]) (sg_name 4 sc_law_right.nd rfl (Or.inl rfl)) sgs_nil)))))
    (ss_cons (O1 := [.imm, .bor, .imm, .imm, .imm, .imm, .imm, .own, .imm, .own, .imm, .imm, .imm]) (ss_asg (se_call d__law_due (hr.mono (by decide)) rfl (sa_imm (se_var 0) sa_nil)) (sg_tup rfl (sgs_cons (O1 := [.imm, .bor, .imm, .imm, .imm, .imm, .imm, .own, .imm, .own, .imm, .imm, .imm]) (sg_name 5 sc_law_right.nd rfl (Or.inr rfl)) (sgs_cons (O1 := [.imm, .bor, .imm, .imm, .imm, .imm, .imm, .own, .imm, .own, .imm, .imm, .imm]) (sg_name 6 sc_law_right.nd rfl (Or.inl rfl)) sgs_nil))))
    (ss_cons (O1 := [.imm, .bor, .imm, .imm, .imm, .imm, .imm, .own, .imm, .own, .imm, .imm, .imm]) (ss_setF 7 sc_law_right.nd rfl (Or.inr rfl) sf_dct0)
    (ss_cons (O1 := [.imm, .bor, .imm, .imm, .imm, .imm, .imm, .own, .imm, .own, .imm, .imm, .imm]) (ss_for PassesOwn.never rfl [8] (Oe := [.imm, .bor, .imm, .imm, .imm, .imm, .imm, .own, .imm, .own, .imm, .imm, .imm]) (si_range1 rfl z_range (sp_var 2)) (sg_name 8 sc_law_right.nd rfl (Or.inl rfl)) (ss_one (ss_dput 7 hr.units2 (se_var 8) (se_var 8))) (by decide))
    (ss_cons (O1 := [.imm, .bor, .imm, .imm, .imm, .imm, .imm, .own, .imm, .own, .imm, .imm, .imm]) (ss_for PassesOwn.never rfl [8] (Oe := [.imm, .bor, .imm, .imm, .imm, .imm, .imm, .own, .imm, .own, .imm, .imm, .imm]) (si_range1 rfl z_range (sp (se_callB cd_len rfl z_len (show bootBuiltins "len" = some (.builtin "len") by decide +kernel) (sa_bor (sp_var 6) sa_nil)))) (sg_name 8 sc_law_right.nd rfl (Or.inl rfl)) (ss_one (ss_dput 7 hr.units2 (se_ix (sp_var 6) (sp_var 8) (fun _ _ => rfl)) (se_bin od_add (sp_var 2) (sp_var 8)))) (by decide))
    (ss_cons (O1 := [.imm, .bor, .imm, .imm, .imm, .imm, .imm, .own, .imm, .own, .imm, .imm, .imm]) (ss_setF 9 sc_law_right.nd rfl (Or.inl rfl) (sf_lst si_nil))
    (ss_cons (O1 := [.imm, .bor, .imm, .imm, .imm, .imm, .imm, .own, .imm, .own, .imm, .imm, .imm]) (ss_for PassesOwn.never rfl [10, 11, 12] (Oe := [.imm, .bor, .imm, .imm, .imm, .imm, .imm, .own, .imm, .own, .imm, .imm, .imm]) (si_seq (sq_var 6)) (sg_name 10 sc_law_right.nd rfl (Or.inl rfl)) (ss_cons (O1 := [.imm, .bor, .imm, .imm, .imm, .imm, .imm, .own, .imm, .own, .imm, .imm, .imm]) (ss_asg (se_ix (sp_var 3) (sp (se_bin od_sub (sp_var 10) (sp_var 2))) (fun _ _ => rfl)) (sg_tup rfl (sgs_cons (O1 := [.imm, .bor, .imm, .imm, .imm, .imm, .imm, .own, .imm, .own, .imm, .imm, .imm]) (sg_name 11 sc_law_right.nd rfl (Or.inl rfl)) (sgs_cons (O1 := [.imm, .bor, .imm, .imm, .imm, .imm, .imm, .own, .imm, .own, .imm, .imm, .imm]) (sg_name 12 sc_law_right.nd rfl (Or.inl rfl)) sgs_nil))))
    (ss_one (ss_app 9 (se_tup (si_cons (se_var 11) (si_cons (se_callTy cd_tuple rfl z_tuple (show bootBuiltins "tuple" = some (.type "tuple") by decide +kernel) (sa_bor (sfp (sf_comp ["_law_one"] [7, 5] (Ob := [.imm, .bor, .imm]) (O1 := [.imm, .bor, .imm]) (is := [0]) rfl rfl rfl rfl (by decide) (sc_seq (sp_var 12)) (fun _ _ _ _ _ => (sg_name 0 (show List.Nodup (["_law_one", "_law_names", "_law_named"] : List Str) by decide +kernel) rfl (Or.inl rfl))) (fun _ _ _ _ _ => sifs_nil) (fun _ _ _ _ _ => (se_ixY hr.units2 (sp_var 1) (sp (se_ixY hr.units2 (sp_var 2) (sp_var 0) (fun _ _ => rfl))) (fun _ _ => rfl))))) sa_nil)) si_nil)))))) (by decide))
    (ss_one (ss_ret (se_cmp (od_eq hr.units) (sp_var 1) (sp (se_tup (si_cons (se_var 2) (si_cons (se_callTy cd_tuple rfl z_tuple (show bootBuiltins "tuple" = some (.type "tuple") by decide +kernel) (sa_bor (sp_var 9) sa_nil)) (si_cons (se_ixY hr.units2 (sp_var 7) (sp (se_ixY hr.units2 (sp_var 5) (sp_var 4) (fun _ _ => rfl))) (fun _ _ => rfl)) si_nil))))) (nomark _)))))))))))
theorem ok_law {fa : Addr} {fd : FuncData} (F : Fun K "law" "law" s_law fa fd) (d__law_circuit : Def P w K mg base 2 "_law_circuit" ["_law_script", "_law_start", "_law_inputs", "_law_most"] (spF K [.bor, .bor, .imm, .bor] .f m_law_circuit)) (d_shared : Def P w K mg base 3 "shared" ["circuit"] (spF K [.bor] .f m_shared)) (d__law_cell_at : Def P w K mg base 1 "_law_cell_at" ["_law_script", "_law_k"] (spF K [.bor, .bor] .f m_law_cell_at)) (d__law_right : Def P w K mg base 2 "_law_right" ["_law_circuit_here", "_law_found"] (spF K [.imm, .bor] .f m_law_right)) (d__law_out : Def P w K mg base 1 "_law_out" ["_law_circuit_here", "_law_row"] (spF K [.bor, .bor] .f m_law_out)) (z_isinstance : mg "isinstance" = none) (z_len : mg "len" = none) (z_range : mg "range" = none) (z_set : mg "set" = none) (z_tuple : mg "tuple" = none) : FnOk P w K mg base CX0 4 fa fd ["_law_script"] (spF K [.bor] .f m_law) :=
  def_okF (N := ["_law_script", "_law_most", "_law_circuit_here", "_law_found", "_law_row"]) (fs := [.bor]) (O := [.bor, .imm, .imm, .imm, .imm]) (O' := []) (Ol := []) (rm := .f) F sc_law rfl (by decide) (by decide) fun f cdv A outer s H E hr =>
  (ss_cons (O1 := [.bor, .imm, .imm, .imm, .imm]) (ss_set 1 sc_law.nd rfl (Or.inl rfl) (se_ix (sfp (sf_lst (si_cons se_int (si_cons se_int (si_cons se_int (si_cons se_int (si_cons se_int (si_cons se_int si_nil)))))))) (sp (se_bin od_mod (sp (se_call d__law_cell_at (hr.mono (by decide)) rfl (sa_bor (sp_var 0) (sa_bor (sp se_int) sa_nil)))) (sp se_int))) (fun _ _ => rfl)))
    (ss_cons (O1 := [.bor, .imm, .imm, .imm, .imm]) (ss_set 2 sc_law.nd rfl (Or.inl rfl) (se_call d__law_circuit (hr.mono (by decide)) rfl (sa_bor (sp_var 0) (sa_bor (sp se_int) (sa_imm (se_bin od_mod (sp (se_bin od_fdiv (sp (se_call d__law_cell_at (hr.mono (by decide)) rfl (sa_bor (sp_var 0) (sa_bor (sp se_int) sa_nil)))) (sp se_int))) (sp se_int)) (sa_bor (sp_var 1) sa_nil))))))
    (ss_cons (O1 := [.bor, .imm, .imm, .imm, .imm]) (ss_set 3 sc_law.nd rfl (Or.inl rfl) (se_call d_shared (hr.mono (by decide)) rfl (sa_bor (sp_var 2) sa_nil)))
    (ss_cons (O1 := [.bor, .imm, .imm, .imm, .imm]) (ss_if (sw_pt (sw_or (st_not (st_val (se_isi isi_tuple rfl z_isinstance (sp_var 3) (pe_ty rfl z_tuple (show bootBuiltins "tuple" = some (.type "tuple") by decide +kernel))))) (sw_or1 (st_not (st_tru (sp (se_call d__law_right (hr.mono (by decide)) rfl (sa_imm (se_var 2) (sa_bor (sp_var 3) sa_nil))))))))) (ss_one (ss_ret se_bl)) ss_nil)
    (ss_cons (O1 := [.bor, .imm, .imm, .imm, .imm]) (ss_if (st_cmp (od_ne hr.units) (sp (se_lenSetN rfl hr.units3 rfl z_len rfl z_set (sp (se_ix (sp_var 3) (sp se_int) (fun _ _ => rfl))))) (sp (se_callB cd_len rfl z_len (show bootBuiltins "len" = some (.builtin "len") by decide +kernel) (sa_bor (sp (se_ix (sp_var 3) (sp se_int) (fun _ _ => rfl))) sa_nil))) (nomark _)) (ss_one (ss_ret se_bl)) ss_nil)
    (ss_cons (O1 := [.bor, .imm, .imm, .imm, .imm]) (ss_for PassesOwn.never rfl [4] (Oe := [.bor, .imm, .imm, .imm, .imm]) (si_range1 rfl z_range (sp (se_bin od_shl (sp se_int) (sp (se_ix (sp_var 2) (sp se_int) (fun _ _ => rfl)))))) (sg_name 4 sc_law.nd rfl (Or.inl rfl)) (ss_one (ss_if (st_cmp (od_ne hr.units) (sp (se_call d__law_out (hr.mono (by decide)) rfl (sa_bor (sp_var 3) (sa_bor (sp_var 4) sa_nil)))) (sp (se_call d__law_out (hr.mono (by decide)) rfl (sa_bor (sp_var 2) (sa_bor (sp_var 4) sa_nil)))) (nomark _)) (ss_one (ss_ret se_bl)) ss_nil)) (by decide))
    (ss_one (ss_ret (se_cmp (od_eq hr.units) (sp (se_call d_shared (hr.mono (by decide)) rfl (sa_bor (sp_var 3) sa_nil))) (sp_var 3) (nomark _))))))))))
end
theorem all_mk {l : PySem.W.OpenLaw} {w : World} {K : PySem.W.Frag} {h : Heap} {mg : Str → Option Value} {fa : Addr} (X : K.In h) (G : h.Ns mainGlobals mg) (hfa : mg "law" = some (.ref fa))
    {f0 : Addr} {od0 an0 : Option Addr} {sl0 : Array (Option Value)} {oc0 kV0 dc0 pm0 cd0 ct0 : Value}
    {f1 : Addr} {od1 an1 : Option Addr} {sl1 : Array (Option Value)} {oc1 kV1 dc1 pm1 cd1 ct1 : Value}
    {f2 : Addr} {od2 an2 : Option Addr} {sl2 : Array (Option Value)} {oc2 kV2 dc2 pm2 cd2 ct2 : Value}
    {f3 : Addr} {od3 an3 : Option Addr} {sl3 : Array (Option Value)} {oc3 kV3 dc3 pm3 cd3 ct3 : Value}
    {f4 : Addr} {od4 an4 : Option Addr} {sl4 : Array (Option Value)} {oc4 kV4 dc4 pm4 cd4 ct4 : Value}
    {f5 : Addr} {od5 an5 : Option Addr} {sl5 : Array (Option Value)} {oc5 kV5 dc5 pm5 cd5 ct5 : Value}
    {f6 : Addr} {od6 an6 : Option Addr} {sl6 : Array (Option Value)} {oc6 kV6 dc6 pm6 cd6 ct6 : Value}
    {f7 : Addr} {od7 an7 : Option Addr} {sl7 : Array (Option Value)} {oc7 kV7 dc7 pm7 cd7 ct7 : Value}
    {f8 : Addr} {od8 an8 : Option Addr} {sl8 : Array (Option Value)} {oc8 kV8 dc8 pm8 cd8 ct8 : Value}
    {f9 : Addr} {od9 an9 : Option Addr} {sl9 : Array (Option Value)} {oc9 kV9 dc9 pm9 cd9 ct9 : Value}
    {f10 : Addr} {od10 an10 : Option Addr} {sl10 : Array (Option Value)} {oc10 kV10 dc10 pm10 cd10 ct10 : Value}
    {f11 : Addr} {od11 an11 : Option Addr} {sl11 : Array (Option Value)} {oc11 kV11 dc11 pm11 cd11 ct11 : Value}
    (a0 : PySem.W.nsIn K mainGlobals "renamed" = some (some (.ref f0))) (l0 : K.lookup f0 = some ⟨oc0, od0, .func (PySem.W.fnOf "renamed" "renamed" (defArgs s_renamed) (defBody s_renamed) (defScope s_renamed) .none kV0 dc0 pm0 an0 cd0 ct0), sl0⟩) (c0 : PySem.W.codeIn K cd0 "renamed" = true) (k0 : PySem.W.keepIn K (.ref f0) = true)
    (a1 : PySem.W.nsIn K mainGlobals "without_doubles" = some (some (.ref f1))) (l1 : K.lookup f1 = some ⟨oc1, od1, .func (PySem.W.fnOf "without_doubles" "without_doubles" (defArgs s_without_doubles) (defBody s_without_doubles) (defScope s_without_doubles) .none kV1 dc1 pm1 an1 cd1 ct1), sl1⟩) (c1 : PySem.W.codeIn K cd1 "without_doubles" = true) (k1 : PySem.W.keepIn K (.ref f1) = true)
    (a2 : PySem.W.nsIn K mainGlobals "used_wires" = some (some (.ref f2))) (l2 : K.lookup f2 = some ⟨oc2, od2, .func (PySem.W.fnOf "used_wires" "used_wires" (defArgs s_used_wires) (defBody s_used_wires) (defScope s_used_wires) .none kV2 dc2 pm2 an2 cd2 ct2), sl2⟩) (c2 : PySem.W.codeIn K cd2 "used_wires" = true) (k2 : PySem.W.keepIn K (.ref f2) = true)
    (a3 : PySem.W.nsIn K mainGlobals "without_unused" = some (some (.ref f3))) (l3 : K.lookup f3 = some ⟨oc3, od3, .func (PySem.W.fnOf "without_unused" "without_unused" (defArgs s_without_unused) (defBody s_without_unused) (defScope s_without_unused) .none kV3 dc3 pm3 an3 cd3 ct3), sl3⟩) (c3 : PySem.W.codeIn K cd3 "without_unused" = true) (k3 : PySem.W.keepIn K (.ref f3) = true)
    (a4 : PySem.W.nsIn K mainGlobals "shared" = some (some (.ref f4))) (l4 : K.lookup f4 = some ⟨oc4, od4, .func (PySem.W.fnOf "shared" "shared" (defArgs s_shared) (defBody s_shared) (defScope s_shared) .none kV4 dc4 pm4 an4 cd4 ct4), sl4⟩) (c4 : PySem.W.codeIn K cd4 "shared" = true) (k4 : PySem.W.keepIn K (.ref f4) = true)
    (a5 : PySem.W.nsIn K mainGlobals "_law_cell_at" = some (some (.ref f5))) (l5 : K.lookup f5 = some ⟨oc5, od5, .func (PySem.W.fnOf "_law_cell_at" "_law_cell_at" (defArgs s_law_cell_at) (defBody s_law_cell_at) (defScope s_law_cell_at) .none kV5 dc5 pm5 an5 cd5 ct5), sl5⟩) (c5 : PySem.W.codeIn K cd5 "_law_cell_at" = true) (k5 : PySem.W.keepIn K (.ref f5) = true)
    (a6 : PySem.W.nsIn K mainGlobals "_law_gate" = some (some (.ref f6))) (l6 : K.lookup f6 = some ⟨oc6, od6, .func (PySem.W.fnOf "_law_gate" "_law_gate" (defArgs s_law_gate) (defBody s_law_gate) (defScope s_law_gate) .none kV6 dc6 pm6 an6 cd6 ct6), sl6⟩) (c6 : PySem.W.codeIn K cd6 "_law_gate" = true) (k6 : PySem.W.keepIn K (.ref f6) = true)
    (a7 : PySem.W.nsIn K mainGlobals "_law_circuit" = some (some (.ref f7))) (l7 : K.lookup f7 = some ⟨oc7, od7, .func (PySem.W.fnOf "_law_circuit" "_law_circuit" (defArgs s_law_circuit) (defBody s_law_circuit) (defScope s_law_circuit) .none kV7 dc7 pm7 an7 cd7 ct7), sl7⟩) (c7 : PySem.W.codeIn K cd7 "_law_circuit" = true) (k7 : PySem.W.keepIn K (.ref f7) = true)
    (a8 : PySem.W.nsIn K mainGlobals "_law_out" = some (some (.ref f8))) (l8 : K.lookup f8 = some ⟨oc8, od8, .func (PySem.W.fnOf "_law_out" "_law_out" (defArgs s_law_out) (defBody s_law_out) (defScope s_law_out) .none kV8 dc8 pm8 an8 cd8 ct8), sl8⟩) (c8 : PySem.W.codeIn K cd8 "_law_out" = true) (k8 : PySem.W.keepIn K (.ref f8) = true)
    (a9 : PySem.W.nsIn K mainGlobals "_law_due" = some (some (.ref f9))) (l9 : K.lookup f9 = some ⟨oc9, od9, .func (PySem.W.fnOf "_law_due" "_law_due" (defArgs s_law_due) (defBody s_law_due) (defScope s_law_due) .none kV9 dc9 pm9 an9 cd9 ct9), sl9⟩) (c9 : PySem.W.codeIn K cd9 "_law_due" = true) (k9 : PySem.W.keepIn K (.ref f9) = true)
    (a10 : PySem.W.nsIn K mainGlobals "_law_right" = some (some (.ref f10))) (l10 : K.lookup f10 = some ⟨oc10, od10, .func (PySem.W.fnOf "_law_right" "_law_right" (defArgs s_law_right) (defBody s_law_right) (defScope s_law_right) .none kV10 dc10 pm10 an10 cd10 ct10), sl10⟩) (c10 : PySem.W.codeIn K cd10 "_law_right" = true) (k10 : PySem.W.keepIn K (.ref f10) = true)
    (a11 : PySem.W.nsIn K mainGlobals "law" = some (some (.ref f11))) (l11 : K.lookup f11 = some ⟨oc11, od11, .func (PySem.W.fnOf "law" "law" (defArgs s_law) (defBody s_law) (defScope s_law) .none kV11 dc11 pm11 an11 cd11 ct11), sl11⟩) (c11 : PySem.W.codeIn K cd11 "law" = true) (k11 : PySem.W.keepIn K (.ref f11) = true)
    (y_enumerate : PySem.W.nsIn K mainGlobals "enumerate" = some none)
    (y_isinstance : PySem.W.nsIn K mainGlobals "isinstance" = some none)
    (y_len : PySem.W.nsIn K mainGlobals "len" = some none)
    (y_list : PySem.W.nsIn K mainGlobals "list" = some none)
    (y_range : PySem.W.nsIn K mainGlobals "range" = some none)
    (y_set : PySem.W.nsIn K mainGlobals "set" = some none)
    (y_sum : PySem.W.nsIn K mainGlobals "sum" = some none)
    (y_tuple : PySem.W.nsIn K mainGlobals "tuple" = some none) :
    ∃ fd : FuncData, (∀ (s : Shared) (v : Value), BindsTo s fd ⟨[v], []⟩ [("_law_script", v)]) ∧ ∀ base : Heap, K.In base → base.Ns mainGlobals mg → FnOk l.prog w K mg base CX0 4 fa fd ["_law_script"] (spF K [.bor] .f m_law) := by
  have F_renamed : At K mg "renamed" s_renamed ["step", "names"] := At.mk' (PySem.W.mg_of X G a0) l0 c0 k0 (bok2 (fun _ _ _ _ _ _ _ _ => rfl) rfl)
  have F_without_doubles : At K mg "without_doubles" s_without_doubles ["circuit"] := At.mk' (PySem.W.mg_of X G a1) l1 c1 k1 (bok1 (fun _ _ _ _ _ _ _ => rfl) rfl)
  have F_used_wires : At K mg "used_wires" s_used_wires ["circuit"] := At.mk' (PySem.W.mg_of X G a2) l2 c2 k2 (bok1 (fun _ _ _ _ _ _ _ => rfl) rfl)
  have F_without_unused : At K mg "without_unused" s_without_unused ["circuit"] := At.mk' (PySem.W.mg_of X G a3) l3 c3 k3 (bok1 (fun _ _ _ _ _ _ _ => rfl) rfl)
  have F_shared : At K mg "shared" s_shared ["circuit"] := At.mk' (PySem.W.mg_of X G a4) l4 c4 k4 (bok1 (fun _ _ _ _ _ _ _ => rfl) rfl)
  have F_law_cell_at : At K mg "_law_cell_at" s_law_cell_at ["_law_script", "_law_k"] := At.mk' (PySem.W.mg_of X G a5) l5 c5 k5 (bok2 (fun _ _ _ _ _ _ _ _ => rfl) rfl)
  have F_law_gate : At K mg "_law_gate" s_law_gate ["_law_cell"] := At.mk' (PySem.W.mg_of X G a6) l6 c6 k6 (bok1 (fun _ _ _ _ _ _ _ => rfl) rfl)
  have F_law_circuit : At K mg "_law_circuit" s_law_circuit ["_law_script", "_law_start", "_law_inputs", "_law_most"] := At.mk' (PySem.W.mg_of X G a7) l7 c7 k7 (bok4 (fun _ _ _ _ _ _ _ _ _ _ => rfl) rfl)
  have F_law_out : At K mg "_law_out" s_law_out ["_law_circuit_here", "_law_row"] := At.mk' (PySem.W.mg_of X G a8) l8 c8 k8 (bok2 (fun _ _ _ _ _ _ _ _ => rfl) rfl)
  have F_law_due : At K mg "_law_due" s_law_due ["_law_circuit_here"] := At.mk' (PySem.W.mg_of X G a9) l9 c9 k9 (bok1 (fun _ _ _ _ _ _ _ => rfl) rfl)
  have F_law_right : At K mg "_law_right" s_law_right ["_law_circuit_here", "_law_found"] := At.mk' (PySem.W.mg_of X G a10) l10 c10 k10 (bok2 (fun _ _ _ _ _ _ _ _ => rfl) rfl)
  have z_enumerate := PySem.W.mg_none_of X G y_enumerate
  have z_isinstance := PySem.W.mg_none_of X G y_isinstance
  have z_len := PySem.W.mg_none_of X G y_len
  have z_list := PySem.W.mg_none_of X G y_list
  have z_range := PySem.W.mg_none_of X G y_range
  have z_set := PySem.W.mg_none_of X G y_set
  have z_sum := PySem.W.mg_none_of X G y_sum
  have z_tuple := PySem.W.mg_none_of X G y_tuple
  have e := hfa.symm.trans (PySem.W.mg_of X G a11)
  cases e
  refine ⟨PySem.W.fnOf "law" "law" (defArgs s_law) (defBody s_law) (defScope s_law) .none kV11 dc11 pm11 an11 cd11 ct11, fun s v => .of_eq rfl, fun base _ _ => ?_⟩
  have d_renamed := ok_renamed (P := l.prog) (w := w) (base := base) F_renamed z_tuple
  have d_without_doubles := ok_without_doubles (P := l.prog) (w := w) (base := base) F_without_doubles d_renamed z_len z_list z_range z_tuple
  have d_used_wires := ok_used_wires (P := l.prog) (w := w) (base := base) F_used_wires z_len z_range
  have d_without_unused := ok_without_unused (P := l.prog) (w := w) (base := base) F_without_unused d_used_wires d_renamed z_enumerate z_len z_range z_tuple
  have d_shared := ok_shared (P := l.prog) (w := w) (base := base) F_shared d_without_unused d_without_doubles
  have d__law_cell_at := ok_law_cell_at (P := l.prog) (w := w) (base := base) F_law_cell_at z_len
  have d__law_gate := ok_law_gate (P := l.prog) (w := w) (base := base) F_law_gate
  have d__law_circuit := ok_law_circuit (P := l.prog) (w := w) (base := base) F_law_circuit d__law_cell_at d__law_gate z_len z_range z_tuple
  have d__law_out := ok_law_out (P := l.prog) (w := w) (base := base) F_law_out z_enumerate z_range z_sum
  have d__law_due := ok_law_due (P := l.prog) (w := w) (base := base) F_law_due z_len z_range
  have d__law_right := ok_law_right (P := l.prog) (w := w) (base := base) F_law_right d__law_due z_len z_range z_tuple
  exact ok_law (fun_mk (st := s_law) l11 c11 k11) d__law_circuit d_shared d__law_cell_at d__law_right d__law_out z_isinstance z_len z_range z_set z_tuple
theorem walk {l : PySem.W.OpenLaw} {q : Program} {loose : List Str} {XP : (Str → Option Value) → Heap → Prop} {YP : World → Heap → Prop} {d : DefRec} {K : Params → PySem.W.Frag} (hn : l.most = some 63) (hdf : d.params.defaults = [])
    (hY : ∀ (w : World) (h : Heap), YP w h → (K w.params).In h)
    (F : ∀ (w : World) (mg : Str → Option Value) (fa : Addr) (h : Heap), (K w.params).In h → h.Ns mainGlobals mg → mg d.name = some (.ref fa) →
      ∃ fd : FuncData, (∀ (s : Shared) (u : Value), BindsTo s fd ⟨[u], []⟩ [("_law_script", u)]) ∧ ∀ base : Heap, (K w.params).In base → base.Ns mainGlobals mg → FnOk l.prog w (K w.params) mg base CX0 4 fa fd ["_law_script"] (spF (K w.params) [.bor] .f m_law)) :
    PySem.W.WalkO q loose XP YP l.row.toRowW d [] (fun f vs => PySem.call f vs) :=
  L2.walk_of (n := 63) (k := 4) (x := "_law_script") (CX := fun _ => CX0) (sp := fun w => spF (K w.params) [.bor] .f m_law) hn (by decide) hdf ⟨rfl, by decide, by decide⟩ hY F (fun _ H a ns hl _ hS => law_script (main ns hl) hS) fun _ _ _ _ _ z => z
end Law
open PySem PySem.W PyProof.Rows
theorem PySem.W.Fast.tw7954617561875791282 : True := trivial
theorem PySem.W.Fast.tw17662283080898053367 : True := trivial
theorem PySem.W.Fast.tw5699374974043233720 : True := trivial
theorem PySem.W.Fast.tw9812335562564413083 : True := trivial
theorem PySem.W.Fast.tw68352310777988595 : True := trivial
theorem PySem.W.Fast.tw8754891326940961680 : True := trivial
theorem PySem.W.Fast.tw13384208104703440054 : True := trivial
theorem PySem.W.Fast.tw14913576086246944574 : True := trivial
theorem PySem.W.Fast.tw9577127475581040137 : True := trivial
theorem PySem.W.Fast.tw16004121509662761215 : True := trivial
theorem PySem.W.Fast.tw14281556545770103764 : True := trivial
theorem PySem.W.Fast.tw1612612784566715009 : True := trivial
theorem PySem.W.Fast.tw2971476017210303904 : True := trivial
theorem PySem.W.Fast.tw3907273183496549103 : True := trivial
theorem PySem.W.Fast.tw6704731292653115333 : True := trivial
theorem PySem.W.Fast.tw15558399035639279083 : True := trivial
theorem PySem.W.Fast.tw14219510231985629455 : True := trivial
theorem PySem.W.Fast.tw262091547002121870 : True := trivial
theorem PySem.W.Fast.tw12105054301637789184 : True := trivial
theorem PySem.W.Fast.tw18055955133219182806 : True := trivial
theorem PySem.W.Fast.tw4567587550869040177 : True := trivial
set_option maxRecDepth 100000 in
set_option maxHeartbeats 0 in
theorem PySem.Challenge.cw_gatekin_k14_shared_holds : PySem.Challenge.rw_gatekin_k14_shared.Holds := by
  w_on; o_law; k_head; (case hw => w_witness2)
  k_fill
  refine Law.walk (l := PySem.Challenge.rw_gatekin_k14_shared) rfl rfl (fun w h Y => PySem.W.kIn_of Y) ?F
  case F =>
    intro w mg fa h KX G hmg
    refine' Law.all_mk KX G hmg ?a0 ?l0 ?c0 ?k0 ?a1 ?l1 ?c1 ?k1 ?a2 ?l2 ?c2 ?k2 ?a3 ?l3 ?c3 ?k3 ?a4 ?l4 ?c4 ?k4 ?a5 ?l5 ?c5 ?k5 ?a6 ?l6 ?c6 ?k6 ?a7 ?l7 ?c7 ?k7 ?a8 ?l8 ?c8 ?k8 ?a9 ?l9 ?c9 ?k9 ?a10 ?l10 ?c10 ?k10 ?a11 ?l11 ?c11 ?k11 ?y_enumerate ?y_isinstance ?y_len ?y_list ?y_range ?y_set ?y_sum ?y_tuple
    (case a0 => k_is)
    (case l0 => k_is)
    (case c0 => k_is)
    (case k0 => k_is)
    (case a1 => k_is)
    (case l1 => k_is)
    (case c1 => k_is)
    (case k1 => k_is)
    (case a2 => k_is)
    (case l2 => k_is)
    (case c2 => k_is)
    (case k2 => k_is)
    (case a3 => k_is)
    (case l3 => k_is)
    (case c3 => k_is)
    (case k3 => k_is)
    (case a4 => k_is)
    (case l4 => k_is)
    (case c4 => k_is)
    (case k4 => k_is)
    (case a5 => k_is)
    (case l5 => k_is)
    (case c5 => k_is)
    (case k5 => k_is)
    (case a6 => k_is)
    (case l6 => k_is)
    (case c6 => k_is)
    (case k6 => k_is)
    (case a7 => k_is)
    (case l7 => k_is)
    (case c7 => k_is)
    (case k7 => k_is)
    (case a8 => k_is)
    (case l8 => k_is)
    (case c8 => k_is)
    (case k8 => k_is)
    (case a9 => k_is)
    (case l9 => k_is)
    (case c9 => k_is)
    (case k9 => k_is)
    (case a10 => k_is)
    (case l10 => k_is)
    (case c10 => k_is)
    (case k10 => k_is)
    (case a11 => k_is)
    (case l11 => k_is)
    (case c11 => k_is)
    (case k11 => k_is)
    (case y_enumerate => k_is)
    (case y_isinstance => k_is)
    (case y_len => k_is)
    (case y_list => k_is)
    (case y_range => k_is)
    (case y_set => k_is)
    (case y_sum => k_is)
    (case y_tuple => k_is)
