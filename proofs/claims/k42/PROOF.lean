import PyProof.Rows.All
import Wide.All
import OpenK.AllK
import Wide.FinOn
import Lean
import PyProof.EqAt
import PyProof.EqKinds
import PyProof.TupleCall
import PySem.Challenge.RW_gatekin_k42_kinds_of_a_set
set_option compiler.extract_closed false
set_option Elab.async false
set_option linter.all false
set_option maxRecDepth 100000
local macro_rules | `(tactic| omega) => `(tactic| lia)
namespace L2
open PySem PySem.Spec PyProof.Rows
noncomputable abbrev Key := Sum Int Str
noncomputable def keyIs : Key → Value → Bool
  | .inl k, v => Value.isInt k v
  | .inr x, v => Value.isStrOf x v
noncomputable def keyH (w : World) : Key → Int
  | .inl k => hashInt k
  | .inr x => hashStr w x
theorem keyIs_shape : ∀ {k : Key} {v : Value}, keyIs k v = true → (∃ i t, k = Sum.inl i ∧ v = Value.int i t) ∨ (∃ x t, k = Sum.inr x ∧ v = Value.str x t)
  | .inl i, v, h => by
    obtain ⟨t, e⟩ := Value.isInt_shape (k := i) (v := v) h
    exact .inl ⟨i, t, rfl, e⟩
  | .inr x, v, h => by
    obtain ⟨t, e⟩ := Value.isStrOf_shape (x := x) (v := v) h
    exact .inr ⟨x, t, rfl, e⟩
theorem keyIs_int (i : Int) (t : Tok) : keyIs (.inl i) (.int i t) = true := by simp [keyIs, Value.isInt]
theorem keyIs_str (x : Str) (t : Tok) : keyIs (.inr x) (.str x t) = true := by simp [keyIs, Value.isStrOf]
theorem key_ll (a b : Int) : decide ((Sum.inl a : Key) = Sum.inl b) = (a == b) := by
  by_cases e : a = b
  · subst e; simp
  · have h : ¬ (Sum.inl a : Key) = Sum.inl b := fun q => e (Sum.inl.inj q)
    rw [decide_eq_false h]
    exact (beq_eq_false_iff_ne.mpr e).symm
theorem key_rr (a b : Str) : decide ((Sum.inr a : Key) = Sum.inr b) = decide (a = b) := by
  by_cases e : a = b
  · subst e; simp
  · have h : ¬ (Sum.inr a : Key) = Sum.inr b := fun q => e (Sum.inr.inj q)
    rw [decide_eq_false h, decide_eq_false e]
theorem key_lr (a : Int) (b : Str) : decide ((Sum.inl a : Key) = Sum.inr b) = false := decide_eq_false (fun q => nomatch q)
theorem key_rl (a : Str) (b : Int) : decide ((Sum.inr a : Key) = Sum.inl b) = false := decide_eq_false (fun q => nomatch q)
noncomputable def mixKind (prog : Program) (w : World) : PySem.KeyKind prog w Key where
  is := keyIs
  hash := keyH w
  inj := fun v a b ha hb => by
    rcases keyIs_shape ha with ⟨i, t, rfl, rfl⟩ | ⟨x, t, rfl, rfl⟩
    · rcases keyIs_shape hb with ⟨j, u, rfl, e⟩ | ⟨y, u, rfl, e⟩
      · injection e with e1 _; rw [e1]
      · exact nomatch e
    · rcases keyIs_shape hb with ⟨j, u, rfl, e⟩ | ⟨y, u, rfl, e⟩
      · exact nomatch e
      · injection e with e1 _; rw [e1]
  byValue := fun k v h => by
    rcases keyIs_shape h with ⟨i, t, rfl, rfl⟩ | ⟨x, t, rfl, rfl⟩ <;> rfl
  pyHash := fun hv h => by
    rcases keyIs_shape hv with ⟨i, t, rfl, rfl⟩ | ⟨x, t, rfl, rfl⟩
    · exact wpAny_pyHash_int h
    · exact wpAny_pyHash_str h
  eqBool := fun hu hv h => by
    rcases keyIs_shape hu with ⟨i, t, rfl, rfl⟩ | ⟨x, t, rfl, rfl⟩
    · rcases keyIs_shape hv with ⟨j, u, rfl, rfl⟩ | ⟨y, u, rfl, rfl⟩
      · rw [key_ll] at h; exact wpAny_eqBool_int h
      · rw [key_lr] at h; exact SeqAt.EqAt.int_str i t y u _ _ _ _ h
    · rcases keyIs_shape hv with ⟨j, u, rfl, rfl⟩ | ⟨y, u, rfl, rfl⟩
      · rw [key_rl] at h; exact SeqAt.EqAt.str_int x t j u _ _ _ _ h
      · rw [key_rr] at h; exact wpAny_eqBool_str h
  «strs» := fun k x t v h => by
    rcases keyIs_shape h with ⟨i, u, rfl, e⟩ | ⟨y, u, rfl, e⟩
    · exact nomatch e
    · injection e with e1 _
      subst e1
      cases v <;> rfl
theorem mixKind_int (prog : Program) (w : World) (i : Int) (t : Tok) : (mixKind prog w).is (.inl i) (.int i t) = true := keyIs_int i t
theorem mixKind_str (prog : Program) (w : World) (x : Str) (t : Tok) : (mixKind prog w).is (.inr x) (.str x t) = true := keyIs_str x t
end L2
namespace L2
open PySem PySem.Spec PyProof.Rows
inductive V where
  | non | bl (b : Bool) | int (i : Int) | str (x : Str) | byt (b : Array UInt8) | flt (b : UInt64) | ref (a : Addr) | ty (n : String)
  deriving DecidableEq
noncomputable def RelV : V → Value → Prop
  | .non, u => u = Value.none
  | .bl b, u => u = Value.bool b
  | .int i, u => ∃ t, u = Value.int i t
  | .str x, u => ∃ t, u = Value.str x t
  | .byt b, u => ∃ t, u = Value.bytes b t
  | .flt b, u => ∃ t, u = Value.float b t
  | .ref a, u => u = Value.ref a
  | .ty n, u => u = Value.type n
noncomputable abbrev Vals : List V → List Value → Prop := Paired RelV
theorem Vals.length {xs : List V} {us : List Value} (r : Vals xs us) : xs.length = us.length := Paired.length r
theorem Vals.get : ∀ {xs : List V} {us : List Value} {i : Nat} {x : V}, Vals xs us → xs[i]? = some x → ∃ u, us[i]? = some u ∧ RelV x u
  | _, _, _, _, .nil, e => by simp at e
  | _, _, 0, _, .cons r _, e => by simp at e; subst e; exact ⟨_, rfl, r⟩
  | _, _, i + 1, x, .cons _ t, e => by
    obtain ⟨u, h1, h2⟩ := Vals.get (i := i) (x := x) t (by simpa using e)
    exact ⟨u, by simpa using h1, h2⟩
theorem Vals.append : ∀ {xs ys : List V} {us ws : List Value}, Vals xs us → Vals ys ws → Vals (xs ++ ys) (us ++ ws)
  | _, _, _, _, .nil, s => s
  | _, _, _, _, .cons r t, s => .cons r (Vals.append t s)
theorem Vals.take : ∀ {xs : List V} {us : List Value} (n : Nat), Vals xs us → Vals (xs.take n) (us.take n)
  | _, _, 0, _ => .nil
  | _, _, _ + 1, .nil => .nil
  | _, _, n + 1, .cons r t => .cons r (Vals.take n t)
theorem Vals.drop : ∀ {xs : List V} {us : List Value} (n : Nat), Vals xs us → Vals (xs.drop n) (us.drop n)
  | _, _, 0, r => r
  | _, _, _ + 1, .nil => .nil
  | _, _, n + 1, .cons _ t => Vals.drop n t
noncomputable def RelO : Option V → Option Value → Prop
  | some v, some u => RelV v u
  | none, none => True
  | _, _ => False
noncomputable def KV {κ : Type} : List (κ × V) → List (κ × Value) → Prop := Paired fun (p : κ × V) (q : κ × Value) => p.1 = q.1 ∧ RelV p.2 q.2
noncomputable def kV : Key → V
  | .inl i => .int i
  | .inr x => .str x
inductive HO where
    | lst (xs : List V)
    | tup (xs : List V)
    | dK (kvs : List (Key × V)) | dT (kvs : List (List Key × V))
    | set (S : Int → Bool) (n : Nat)
    | ins (C dx : Addr) (fs : List (Str × V))
    | own (x : Addr)
    | xd (fs : List (Str × V))
    | met (f x : Addr)
    | rng (lo hi : Int)
    | frz (o : Obj) (u : HO)
    | tbl (q : Str)
    | ext (φ : Heap → Prop)
noncomputable abbrev Hp := Addr → Option HO
noncomputable def upd (H : Hp) (a : Addr) (o : HO) : Hp := fun b => if b = a then some o else H b
theorem upd_same {H : Hp} {a : Addr} {o : HO} : upd H a o a = some o := by unfold upd; rw [if_pos rfl]
theorem upd_ne {H : Hp} {a b : Addr} {o : HO} (h : b ≠ a) : upd H a o b = H b := by unfold upd; rw [if_neg h]
theorem upd_upd {H : Hp} {a : Addr} {o u : HO} : upd (upd H a o) a u = upd H a u := by
  funext b; unfold upd; split <;> rfl
theorem ne_of {H : Hp} {a b : Addr} {o u : HO} (h : H a = some o) (h' : H b = some u) (d : o ≠ u) : a ≠ b := by
  intro e; subst e; rw [h] at h'; exact d (Option.some.inj h')
theorem ne_of_none {H : Hp} {a b : Addr} {o : HO} (h : H a = some o) (h' : H b = none) : a ≠ b := by
  intro e; subst e; rw [h] at h'; cases h'
section
variable (P : Program) (w : World)
noncomputable def ObjOk (H : Hp) (h : Heap) (a : Addr) : HO → Prop
  | .lst xs => xs.length ≤ sizeLine ∧ ∃ (its : List Value) (n : Nat), Vals xs its ∧ h.get? a = some { cls := .type "list", data := .seq its.toArray n }
  | .tup xs => xs.length ≤ sizeLine ∧ ∃ its : List Value, Vals xs its ∧ IsTup h a its.toArray
  | .dK kvs => kvs.length ≤ sizeLine ∧ (a == sysModules) = false ∧ ∃ vs, KV kvs vs ∧ h.DictOf (mixKind P w) a vs
  | .dT kvs => kvs.length ≤ sizeLine ∧ (a == sysModules) = false ∧ ∃ xs : List (List Key × Addr × Value),
      Paired (fun (p : List Key × V) (q : List Key × Addr × Value) => p.1 = q.1 ∧ H q.2.1 = some (.tup (p.1.map kV)) ∧ RelV p.2 q.2.2) kvs xs ∧
      ∃ o es ep, h.get? a = some o ∧ o.ExactDict ∧ o.data = .dict es ep ∧ es.toList = xs.map (entryOfKey (tupleKind (mixKind P w))) ∧ (xs.map (·.1)).Nodup
  | .set S n => h.SetOf (intKind P w) a S n
  | .ins C dx fs => H dx = some (.own a) ∧ fs.length ≤ 1000 ∧ dx ≠ a ∧ h.get? a = some (PySem.W.instObj C dx) ∧
      ∃ mA, h.Ns1 dx mA ∧ (∀ f, RelO (fs.lookup f) (mA f)) ∧ PySem.Within mA (fs.map (·.1))
  | .own _ => ∃ o, h.get? a = some o
  | .xd fs => ∃ mA, h.Ns1 a mA ∧ ∀ f, RelO (fs.lookup f) (mA f)
  | .rng lo hi => ∃ t u v, h.get? a = some { cls := .type "range", data := .fields #[.int lo t, .int hi u, .int 1 v] }
  | .frz o u => h.get? a = some o ∧ ObjOk H h a u
  | .tbl q => ∃ ps : Array Value, h.get? a = some { cls := .none, data := .fields ps } ∧ TriplesOk ps.toList ∧ ∀ (pos : Pos) (cv : Value), codeAmong pos ps.toList = some cv → ∃ c ob vs t, cv = .ref c ∧ H c = some (.own a) ∧ h.get? c = some ob ∧ ob.data = .fields vs ∧ vs[1]? = some (.str q t)
  | .met f x => h.get? a = some (PySem.W.methodObj (.ref f) (.ref x))
  | .ext φ => φ h ∧ (∃ o, h.get? a = some o) ∧ ∀ h1 h2 : Heap, φ h1 → (∀ o, h1.get? a = some o → h2.get? a = some o) → φ h2
noncomputable def HOk (H : Hp) (h : Heap) : Prop := ∀ a o, H a = some o → ObjOk P w H h a o
end
section
variable {P : Program} {w : World} {H H' : Hp} {h h' : Heap} {a : Addr} {o : HO}
theorem ObjOk.lt (x : ObjOk P w H h a o) : a < h.objs.size := by
  cases o with
  | lst xs => obtain ⟨_, _, _, _, e⟩ := x; exact Heap.lt_size e
  | tup xs => obtain ⟨_, _, _, p⟩ := x; exact p.lt
  | dK kvs => obtain ⟨_, _, _, _, o, _, _, e, _⟩ := x; exact Heap.lt_size e
  | dT kvs => obtain ⟨_, _, _, _, o, _, _, e, _⟩ := x; exact Heap.lt_size e
  | set S n => obtain ⟨o, _, _, _, e, _⟩ := x; exact Heap.lt_size e
  | ins C dx fs => obtain ⟨_, _, _, e, _⟩ := x; exact Heap.lt_size e
  | own y => obtain ⟨_, e⟩ := x; exact Heap.lt_size e
  | xd fs => obtain ⟨_, ⟨_, _, _, e, _⟩, _⟩ := x; exact Heap.lt_size e
  | rng lo hi => obtain ⟨_, _, _, e⟩ := x; exact Heap.lt_size e
  | frz ob u => obtain ⟨e, _⟩ := x; exact Heap.lt_size e
  | tbl q => obtain ⟨_, e, _⟩ := x; exact Heap.lt_size e
  | met f y => exact Heap.lt_size (show h.get? a = some _ from x)
  | ext φ => obtain ⟨_, ⟨_, e⟩, _⟩ := x; exact Heap.lt_size e
theorem Paired.mapP {α β : Type} {F G : α → β → Prop} : ∀ {l₁ : List α} {l₂ : List β}, Paired F l₁ l₂ → (∀ a b, F a b → G a b) → Paired G l₁ l₂
  | _, _, .nil, _ => .nil
  | _, _, .cons r t, f => .cons (f _ _ r) (Paired.mapP t f)
theorem ObjOk.stay (x : ObjOk P w H h a o) (k : ∀ b u, (b = a ∨ H b = some (.own a)) → h.get? b = some u → h'.get? b = some u)
    (ho : ∀ b, H b = some (.own a) → H' b = some (.own a)) (ht : ∀ b xs, H b = some (.tup xs) → H' b = some (.tup xs)) : ObjOk P w H' h' a o := by
  induction o with
  | lst xs => obtain ⟨z, its, n, r, e⟩ := x; exact ⟨z, its, n, r, k _ _ (.inl rfl) e⟩
  | tup xs => obtain ⟨z, its, r, ob, e, c⟩ := x; exact ⟨z, its, r, ob, k _ _ (.inl rfl) e, c⟩
  | dK kvs => obtain ⟨z, y, vs, r, ob, es, ep, e, c⟩ := x; exact ⟨z, y, vs, r, ob, es, ep, k _ _ (.inl rfl) e, c⟩
  | dT kvs =>
    obtain ⟨z, y, xs, r, ob, es, ep, e, c⟩ := x
    exact ⟨z, y, xs, Paired.mapP r fun p q z => ⟨z.1, ht _ _ z.2.1, z.2.2⟩, ob, es, ep, k _ _ (.inl rfl) e, c⟩
  | set S n => obtain ⟨ob, es, ep, t, e, c⟩ := x; exact ⟨ob, es, ep, t, k _ _ (.inl rfl) e, c⟩
  | ins C dx fs =>
    obtain ⟨d, z, ne, e, mA, ⟨od, es, ep, e2, c⟩, r⟩ := x
    exact ⟨ho _ d, z, ne, k _ _ (.inl rfl) e, mA, ⟨od, es, ep, k _ _ (.inr d) e2, c⟩, r⟩
  | own y => obtain ⟨ob, e⟩ := x; exact ⟨ob, k _ _ (.inl rfl) e⟩
  | xd fs => obtain ⟨mA, ⟨od, es, ep, e, c⟩, r⟩ := x; exact ⟨mA, ⟨od, es, ep, k _ _ (.inl rfl) e, c⟩, r⟩
  | rng lo hi => obtain ⟨t, u, v, e⟩ := x; exact ⟨t, u, v, k _ _ (.inl rfl) e⟩
  | frz ob u ih => obtain ⟨e, q⟩ := x; exact ⟨k _ _ (.inl rfl) e, ih q⟩
  | tbl q =>
    obtain ⟨ps, e, ht, hc⟩ := x
    refine ⟨ps, k _ _ (.inl rfl) e, ht, fun pos cv hv => ?_⟩
    obtain ⟨c, ob, vs, t, e1, e2, e3, e4⟩ := hc pos cv hv
    exact ⟨c, ob, vs, t, e1, ho _ e2, k _ _ (.inr e2) e3, e4⟩
  | met f y =>
    have e : h.get? a = some (PySem.W.methodObj (.ref f) (.ref y)) := x
    show h'.get? a = some (PySem.W.methodObj (.ref f) (.ref y))
    exact k a _ (.inl rfl) e
  | ext φ => obtain ⟨p, ⟨o, e⟩, st⟩ := x; exact ⟨st _ _ p fun o q => k _ _ (.inl rfl) q, ⟨o, k _ _ (.inl rfl) e⟩, st⟩
theorem HOk.lt (x : HOk P w H h) (e : H a = some o) : a < h.objs.size := (x a o e).lt
theorem HOk.fresh (x : HOk P w H h) (e : h.objs.size ≤ a) : H a = none := by
  cases q : H a with
  | none => rfl
  | some u => exact absurd (Nat.lt_of_lt_of_le (x.lt q) e) (Nat.lt_irrefl _)
theorem HOk.kept (x : HOk P w H h) (k : ∀ b u, h.get? b = some u → h'.get? b = some u) : HOk P w H h' := fun a o e =>
  (x a o e).stay (fun b u _ q => k b u q) (fun _ q => q) fun _ _ q => q
theorem HOk.laid (x : HOk P w H h) (k : ∀ b u, h.get? b = some u → h'.get? b = some u) (hp : h.objs.size ≤ a) (new : ObjOk P w (upd H a o) h' a o) : HOk P w (upd H a o) h' := fun b u e => by
  have hn := x.fresh hp
  by_cases hb : b = a
  · subst hb; rw [upd_same] at e; cases e; exact new
  · rw [upd_ne hb] at e
    exact (x b u e).stay (fun c v _ q => k c v q) (fun c q => by rw [upd_ne (ne_of_none q hn)]; exact q) fun c xs q => by rw [upd_ne (ne_of_none q hn)]; exact q
end
noncomputable def Rd (H : Hp) (a : Addr) (u : HO) : Prop := H a = some u ∨ ∃ o, H a = some (.frz o u)
theorem Rd.ok {P : Program} {w : World} {H : Hp} {h : Heap} {a : Addr} {u : HO} (r : Rd H a u) (x : HOk P w H h) : ObjOk P w H h a u := by
  rcases r with r | ⟨o, r⟩
  · exact x a u r
  · obtain ⟨_, q⟩ := x a _ r
    exact q
noncomputable def Mut : Option HO → Prop
  | some (.lst _) => True
  | some (.dK _) => True
  | some (.dT _) => True
  | some (.set _ _) => True
  | some (.ins _ _ _) => True
  | some (.ext _) => True
  | _ => False
section
variable {P : Program} {w : World} {H : Hp} {h h' : Heap} {x e : Addr} {o' : HO}
theorem HOk.write (ok : HOk P w H h) (mu : Mut (H x)) (he : e = x ∨ H e = some (.own x)) (k : ∀ b u, b ≠ e → h.get? b = some u → h'.get? b = some u) (heo : ∃ u, h'.get? e = some u)
    (new : ObjOk P w (upd H x o') h' x o') : HOk P w (upd H x o') h' := fun b u q => by
  have nown : ∀ c y, H c = some (.own y) → c ≠ x := fun c y r z => by subst z; rw [r] at mu; exact mu
  have ntup : ∀ c xs, H c = some (.tup xs) → c ≠ x := fun c xs r z => by subst z; rw [r] at mu; exact mu
  by_cases hb : b = x
  · subst hb; rw [upd_same] at q; cases q; exact new
  · rw [upd_ne hb] at q
    by_cases hbe : b = e
    · have q' : H b = some (.own x) := by
        rcases he with z | z
        · exact absurd (hbe.trans z) hb
        · rw [hbe]; exact z
      rw [q] at q'; cases q'
      obtain ⟨v, hv⟩ := heo
      exact ⟨v, by rw [hbe]; exact hv⟩
    · refine (ok b u q).stay (fun c v hc r => k c v ?_ r) (fun c r => by rw [upd_ne (nown c b r)]; exact r) fun c xs r => by rw [upd_ne (ntup c xs r)]; exact r
      rcases hc with rfl | hc
      · exact hbe
      · rintro rfl
        rcases he with z | z
        · exact nown c b hc z
        · rw [hc] at z; cases z; exact hb rfl
end
structure Un (fs ex : List Addr) (H H' : Hp) (h h' : Heap) : Prop where
  keep : ∀ b o, h.get? b = some o → H b = none → b ∉ fs → b ∉ ex → h'.get? b = some o
  slot : ∀ b o, h.get? b = some o → H b = none → b ∈ fs → b ∉ ex → ∃ sl, h'.get? b = some { o with slots := sl }
  free : ∀ b o, h.get? b = some o → H b = none → b ∉ ex → H' b = none
  there : ∀ b o, h.get? b = some o → b ∉ ex → ∃ o', h'.get? b = some o'
  tups : ∀ b xs, H b = some (.tup xs) → H' b = some (.tup xs)
  frzs : ∀ b o u, H b = some (.frz o u) → H' b = some (.frz o u)
  tbls : ∀ b q, H b = some (.tbl q) → H' b = some (.tbl q)
section
variable {fs fs' ex ex' : List Addr} {H H1 H2 : Hp} {h h1 h2 h' : Heap} {a x e : Addr} {o : HO}
theorem Un.any (u : Un fs ex H H1 h h1) {b : Addr} {ob : Obj} (q : h.get? b = some ob) (n : H b = none) (hx : b ∉ ex) : ∃ sl, h1.get? b = some { ob with slots := sl } := by
  by_cases hb : b ∈ fs
  · exact u.slot b ob q n hb hx
  · exact ⟨ob.slots, u.keep b ob q n hb hx⟩
theorem Un.trans (a : Un fs ex H H1 h h1) (b : Un fs ex H1 H2 h1 h2) : Un fs ex H H2 h h2 where
  keep := fun c ob q n hc hx => b.keep c ob (a.keep c ob q n hc hx) (a.free c ob q n hx) hc hx
  slot := fun c ob q n hc hx => by
    obtain ⟨sl, e1⟩ := a.slot c ob q n hc hx
    obtain ⟨sl', e2⟩ := b.slot c _ e1 (a.free c ob q n hx) hc hx
    exact ⟨sl', e2⟩
  free := fun c ob q n hx => by
    obtain ⟨o', e1⟩ := a.there c ob q hx
    exact b.free c o' e1 (a.free c ob q n hx) hx
  there := fun c ob q hx => by
    obtain ⟨o', e1⟩ := a.there c ob q hx
    exact b.there c o' e1 hx
  tups := fun c xs q => b.tups c xs (a.tups c xs q)
  frzs := fun c ob xs q => b.frzs c ob xs (a.frzs c ob xs q)
  tbls := fun c ps q => b.tbls c ps (a.tbls c ps q)
theorem Un.kept (k : ∀ b u, h.get? b = some u → h'.get? b = some u) : Un fs ex H H h h' :=
  ⟨fun b ob q _ _ _ => k b ob q, fun b ob q _ _ _ => ⟨ob.slots, k b ob q⟩, fun _ _ _ n _ => n, fun b ob q _ => ⟨ob, k b ob q⟩, fun _ _ q => q, fun _ _ _ q => q, fun _ _ q => q⟩
theorem Un.refl : Un fs ex H H h h := Un.kept fun _ _ q => q
theorem Un.laid (k : ∀ b u, h.get? b = some u → h'.get? b = some u) (hp : h.objs.size ≤ a) (hn : H a = none) : Un fs ex H (upd H a o) h h' where
  keep := fun b u q _ _ _ => k b u q
  slot := fun b u q _ _ _ => ⟨u.slots, k b u q⟩
  free := fun b u q n _ => by rw [upd_ne (Nat.ne_of_lt (Nat.lt_of_lt_of_le (Heap.lt_size q) hp))]; exact n
  there := fun b u q _ => ⟨u, k b u q⟩
  tups := fun b xs q => by rw [upd_ne (ne_of_none q hn)]; exact q
  frzs := fun b u xs q => by rw [upd_ne (ne_of_none q hn)]; exact q
  tbls := fun b xs q => by rw [upd_ne (ne_of_none q hn)]; exact q
theorem Un.write (mu : Mut (H x)) (he : e = x ∨ H e = some (.own x)) (k : ∀ b u, b ≠ e → h.get? b = some u → h'.get? b = some u) (heo : ∃ u, h'.get? e = some u) : Un fs ex H (upd H x o) h h' := by
  have hx : ∀ b, H b = none → b ≠ x := fun b n z => by subst z; rw [n] at mu; exact mu
  have hb : ∀ b, H b = none → b ≠ e := fun b n z => by
    subst z
    rcases he with r | r
    · exact hx b n r
    · rw [n] at r; cases r
  have hm : ∀ b u, H b = some u → ¬ Mut (some u) → b ≠ x := fun b u q nm z => by subst z; rw [q] at mu; exact nm mu
  refine ⟨fun b u q n _ _ => k b u (hb b n) q, fun b u q n _ _ => ⟨u.slots, k b u (hb b n) q⟩, fun b u q n _ => by rw [upd_ne (hx b n)]; exact n, fun b u q _ => ?_,
    fun b xs q => by rw [upd_ne (hm b _ q fun z => z)]; exact q, fun b u xs q => by rw [upd_ne (hm b _ q fun z => z)]; exact q, fun b _ q => by rw [upd_ne (hm b _ q fun z => z)]; exact q⟩
  by_cases hbe : b = e
  · subst hbe; exact heo
  · exact ⟨u, k b u hbe q⟩
end
noncomputable def trk (h : Heap) (H : Hp) : List Addr := (List.range h.objs.size).filter fun a => (H a).isSome
noncomputable def hidT (h : Heap) (H : Hp) : Heap := PySem.W.hideAll h (trk h H)
theorem hidT_size (h : Heap) (H : Hp) : (hidT h H).objs.size = h.objs.size := PySem.W.hideAll_size _ _
theorem hidT_get {h : Heap} {H : Hp} {b : Addr} {o : Obj} (e : h.get? b = some o) (n : H b = none) : (hidT h H).get? b = some o :=
  PySem.W.hideAll_get _ e fun hm => by
    have q : (H b).isSome = true := (List.mem_filter.mp hm).2
    rw [n] at q; simp at q
theorem of_hidT {h : Heap} {H : Hp} {b : Addr} {o : Obj} (e : (hidT h H).get? b = some o) : h.get? b = some o ∧ H b = none := by
  have e' : h.get? b = some o := PySem.W.of_hideAll (trk h H) e
  refine ⟨e', ?_⟩
  cases q : H b with
  | none => rfl
  | some x =>
    have hm : b ∈ trk h H := List.mem_filter.mpr ⟨List.mem_range.mpr (Heap.lt_size e'), by simp [q]⟩
    have z : (hidT h H).get? b = none := PySem.W.hideAll_none (trk h H) hm
    rw [z] at e; cases e
end L2
namespace L2
open PySem PySem.Spec PyProof.Rows
structure Mod (K : PySem.W.Frag) (mg : Str → Option Value) (base : Heap) : Prop where
  kin : K.In base
  glob : base.Ns mainGlobals mg
  blt : ∃ mb, base.Ns builtinsNs mb ∧ ∀ x : Str, x ≠ "__name__" → mb x = bootBuiltins x
  nolimit : base.NoLimit
  bmain : ∃ bm ob, mg "__builtins__" = some (.ref bm) ∧ bm ≠ builtinsNs ∧ base.get? bm = some ob ∧ ob.cls = .type "module" ∧ ob.dict = some builtinsNs ∧ ob.data = .plain
structure Cx where
  prog : Program
  w : World
  K : PySem.W.Frag
  mg : Str → Option Value
  base : Heap
  A : Around
  N : List Str
  s₀ : Shared
  H₀ : Hp
  env : Env
  outer : List Env
  stack : List Env
  ex : List Addr
  fn : Str → Bool
  calm : Bool
  pn : List (Addr × Obj)
  xe : Value → Shared → Prop
noncomputable def frs (l : List Env) : List Addr := l.filterMap (·.frame)
noncomputable abbrev Cx.fs (X : Cx) : List Addr := frs X.outer
noncomputable def Vis (sc : Scope) (x : Str) : Prop := sc.names.lookup x = some .local ∨ sc.names.lookup x = some .cell ∨ sc.names.lookup x = some .free
noncomputable def Loc (sc : Scope) (x : Str) : Prop := sc.names.lookup x = some .local ∨ sc.names.lookup x = some .cell
noncomputable def Look (env : Env) (h : Heap) (m : Str → Option Value) (x : Str) (u : Value) : Prop :=
  (env.kindOf x = some .local ∧ m x = some u) ∨ ((env.kindOf x = some .cell ∨ env.kindOf x = some .free) ∧ ∃ c, env.cells.lookup x = some c ∧ h.IsCell c (some u))
noncomputable def TabAt (K : PySem.W.Frag) (mg : Str → Option Value) (P : Addr) : Prop := ∃ (f : Addr) (o : Obj) (fd : FuncData) (c : Addr), mg "ways" = some (.ref f) ∧ K.lookup f = some o ∧ o.data = .func fd ∧ fd.code = .ref c ∧ PySem.W.codeHdIn K c P = true
noncomputable def tabQ : Str := "ways.<locals>.<lambda>"
structure Cx.Ok (X : Cx) : Prop where
  mod : Mod X.K X.mg X.base
  kind : X.env.scope.kind = .function
  glob : X.env.globals = mainGlobals
  blt : X.env.builtins = builtinsNs
  above : X.s₀.heap.objs.size ≤ X.env.locals
  inj : ∀ x y c, X.env.cells.lookup x = some c → X.env.cells.lookup y = some c → x = y
  has : ∀ x, (X.env.kindOf x = some .cell ∨ X.env.kindOf x = some .free) → ∃ c, X.env.cells.lookup x = some c
  cab : ∀ x c, X.fn x = true → X.env.cells.lookup x = some c → X.s₀.heap.objs.size ≤ c
  hd : X.calm = true → X.A.handled = none
  frames : X.A.frames = some X.stack
  stk : X.stack = X.outer ∨ (X.stack = X.env :: X.outer ∧ X.env.frame = some X.env.locals)
  exf : ∀ b ∈ X.ex, b ≠ X.env.locals ∧ ∀ x c, X.env.cells.lookup x = some c → c ≠ b
  bs : ∀ b o, X.base.get? b = some o → X.s₀.heap.get? b = some o ∧ X.H₀ b = none
  bsz : X.base.objs.size ≤ X.s₀.heap.objs.size
  noex : ∀ b o, X.base.get? b = some o → b ∉ X.ex
  exfs : ∀ b ∈ X.ex, b ∉ X.fs
  funs : X.s₀.heap.FunFrames X.base X.outer
  frf : ∀ b ∈ X.fs, X.H₀ b = none
  tabs : ∀ P, TabAt X.K X.mg P → X.H₀ P = some (.tbl tabQ)
structure Inv (X : Cx) (pins : List (Addr × Obj)) (σ : List (Option V)) (H : Hp) (s : Shared) : Prop where
  ok : X.Ok
  os : s.os = X.s₀.os
  bare : AllBare s.gens
  base : Un X.fs X.ex X.H₀ H X.s₀.heap s.heap
  loc : ∃ m, s.heap.Ns X.env.locals m ∧ ∀ (i : Nat) (x : Str) (v : V), X.N[i]? = some x → σ[i]? = some (some v) → Vis X.env.scope x → ∃ u, RelV v u ∧ Look X.env s.heap m x u
  cell : ∀ x c, X.env.cells.lookup x = some c → ∃ v, s.heap.IsCell c v
  free : H X.env.locals = none
  freeC : ∀ x c, X.env.cells.lookup x = some c → H c = none
  pin : ∀ p ∈ X.pn ++ pins, s.heap.get? p.1 = some p.2 ∧ H p.1 = none ∧ p.1 ≠ X.env.locals ∧ p.1 ∉ X.fs ∧ ∀ v, p.2.data ≠ .cell v
  hok : HOk X.prog X.w H s.heap
  len : σ.length = X.N.length
section
variable {X : Cx} {pins : List (Addr × Obj)} {σ : List (Option V)} {H H' : Hp} {s : Shared} {h' : Heap}
theorem Cx.Ok.nofr (ok : X.Ok) {b : Addr} {o : Obj} (e : X.base.get? b = some o) : b ∉ X.fs := fun hb => by
  have := (ok.funs.mem hb).1
  rw [e] at this; cases this
theorem Inv.bs (I : Inv X pins σ H s) : ∀ b o, X.base.get? b = some o → s.heap.get? b = some o ∧ H b = none := fun b o e =>
  ⟨I.base.keep b o (I.ok.bs b o e).1 (I.ok.bs b o e).2 (I.ok.nofr e) (I.ok.noex b o e), I.base.free b o (I.ok.bs b o e).1 (I.ok.bs b o e).2 (I.ok.noex b o e)⟩
theorem Inv.bk (I : Inv X pins σ H s) : ∀ b o, X.base.get? b = some o → s.heap.get? b = some o := fun b o e => (I.bs b o e).1
theorem Inv.mod (I : Inv X pins σ H s) : Mod X.K X.mg X.base := I.ok.mod
theorem Inv.kIn (I : Inv X pins σ H s) : X.K.In s.heap := I.ok.mod.kin.keeps I.bk
theorem Inv.lt (I : Inv X pins σ H s) : X.env.locals < s.heap.objs.size := let ⟨_, hn, _⟩ := I.loc; hn.lt
theorem Inv.sz (I : Inv X pins σ H s) : X.s₀.heap.objs.size ≤ s.heap.objs.size := Nat.le_trans I.ok.above (Nat.le_of_lt I.lt)
theorem Inv.nofs (I : Inv X pins σ H s) {a : Addr} (h : s.heap.objs.size ≤ a) : a ∉ X.fs := fun hb => by
  obtain ⟨_, o, ho, _⟩ := I.ok.funs.mem hb
  exact absurd (Nat.lt_of_lt_of_le (Heap.lt_size ho) (Nat.le_trans I.sz h)) (Nat.lt_irrefl _)
theorem Inv.cne (I : Inv X pins σ H s) : ∀ x c, X.env.cells.lookup x = some c → c ≠ X.env.locals := fun x c e z => by
  obtain ⟨v, o, ho, hd⟩ := I.cell x c e
  obtain ⟨m, ⟨o', es, ep, ho', hd', _⟩, _⟩ := I.loc
  rw [z, ho'] at ho; cases ho; rw [hd'] at hd; cases hd
theorem Inv.funs (I : Inv X pins σ H s) : s.heap.FunFrames X.base X.outer := by
  have all : ∀ (l : List Env), (∀ b ∈ frs l, b ∈ X.fs) → X.s₀.heap.FunFrames X.base l → s.heap.FunFrames X.base l := by
    intro l
    induction l with
    | nil => intro _ _; trivial
    | cons env r ih =>
      intro hs hl
      obtain ⟨hk, ⟨L, o, hf, hn, ho, hd⟩, hr⟩ := hl
      have hL : L ∈ X.fs := hs L (by unfold frs; rw [List.filterMap_cons, hf]; exact List.mem_cons_self)
      obtain ⟨sl, e⟩ := I.base.slot L o ho (I.ok.frf L hL) hL fun z => I.ok.exfs L z hL
      exact ⟨hk, ⟨L, _, hf, hn, e, hd⟩, ih (fun b hb => hs b (by unfold frs; rw [List.filterMap_cons, hf]; exact List.mem_cons_of_mem _ hb)) hr⟩
  exact all X.outer (fun _ hb => hb) I.ok.funs
theorem Inv.stack (I : Inv X pins σ H s) : s.heap.FunFrames X.base X.stack := by
  rcases I.ok.stk with e | ⟨e, hf⟩
  · rw [e]; exact I.funs
  · rw [e]
    obtain ⟨m, hn, _⟩ := I.loc
    refine .cons (by rw [I.ok.kind]; decide) hf hn ?_ I.funs
    exact Heap.get?_none_of_le (Nat.le_trans I.ok.bsz I.ok.above)
theorem Inv.stkSub (I : Inv X pins σ H s) : ∀ b ∈ frs X.stack, b ∈ X.env.locals :: X.fs := fun b hb => by
  rcases I.ok.stk with e | ⟨e, hf⟩
  · rw [e] at hb; exact List.mem_cons_of_mem _ hb
  · rw [e] at hb
    unfold frs at hb
    rw [List.filterMap_cons, hf] at hb
    exact hb
theorem Inv.stkFree (I : Inv X pins σ H s) : ∀ b ∈ frs X.stack, H b = none := fun b hb => by
  rcases List.mem_cons.mp (I.stkSub b hb) with e | hb
  · rw [e]; exact I.free
  · obtain ⟨_, o, ho, _⟩ := I.ok.funs.mem hb
    exact I.base.free b o ho (I.ok.frf b hb) fun z => I.ok.exfs b z hb
theorem Inv.step {g' : Array GenState} {t' : Nat} {d' : Drawn} {ch : List Addr} (I : Inv X pins σ H s)
    (hch : ∀ b ∈ ch, (b ∈ X.ex ∨ X.s₀.heap.objs.size ≤ b) ∧ b ≠ X.env.locals ∧ (∀ x c, X.env.cells.lookup x = some c → c ≠ b) ∧ ∀ p ∈ X.pn ++ pins, p.1 ≠ b)
    (keep : ∀ b o, b ≠ X.env.locals → b ∉ X.fs → b ∉ ch → s.heap.get? b = some o → H b = none → h'.get? b = some o)
    (slot : ∀ b o, b ≠ X.env.locals → b ∈ X.fs → b ∉ ch → s.heap.get? b = some o → H b = none → ∃ sl, h'.get? b = some { o with slots := sl }) (free : ∀ b o, b ∉ ch → s.heap.get? b = some o → H b = none → H' b = none)
    (there : ∀ b o, b ∉ ch → s.heap.get? b = some o → ∃ o', h'.get? b = some o')
    (tups : ∀ b xs, H b = some (.tup xs) → H' b = some (.tup xs)) (frzs : ∀ b o u, H b = some (.frz o u) → H' b = some (.frz o u)) (tbls : ∀ b q, H b = some (.tbl q) → H' b = some (.tbl q))
    (ns : ∀ m, s.heap.Ns X.env.locals m → h'.Ns X.env.locals m) (hok : HOk X.prog X.w H' h') (hg : AllBare g') :
    Inv X pins σ H' { s with heap := h', gens := g', drawn := d', toks := t' } := by
  have neL : ∀ b o, X.s₀.heap.get? b = some o → b ≠ X.env.locals := fun b o e => Nat.ne_of_lt (Nat.lt_of_lt_of_le (Heap.lt_size e) I.ok.above)
  have neC : ∀ b o, X.s₀.heap.get? b = some o → b ∉ X.ex → b ∉ ch := fun b o e hx hb => by
    rcases (hch b hb).1 with z | z
    · exact hx z
    · exact absurd (Nat.lt_of_lt_of_le (Heap.lt_size e) z) (Nat.lt_irrefl _)
  have cellK : ∀ x c, X.env.cells.lookup x = some c → ∀ v, s.heap.IsCell c v → h'.IsCell c v := fun x c e v hq__ => by
    obtain ⟨o, ho, hd⟩ := hq__
    have nch : c ∉ ch := fun z => (hch c z).2.2.1 x c e rfl
    by_cases hc : c ∈ X.fs
    · obtain ⟨sl, q⟩ := slot c o (I.cne x c e) hc nch ho (I.freeC x c e)
      exact ⟨_, q, hd⟩
    · exact ⟨o, keep c o (I.cne x c e) hc nch ho (I.freeC x c e), hd⟩
  refine ⟨I.ok, I.os, hg, ⟨fun b o e n hb hx => ?_, fun b o e n hb hx => ?_, fun b o e n hx => ?_, fun b o e hx => ?_, fun b xs e => tups b xs (I.base.tups b xs e), fun b o xs e => frzs b o xs (I.base.frzs b o xs e), fun b ps e => tbls b ps (I.base.tbls b ps e)⟩, ?_, fun x c e => ?_, ?_, fun x c e => ?_, fun p hp => ?_, hok, I.len⟩
  · exact keep b o (neL b o e) hb (neC b o e hx) (I.base.keep b o e n hb hx) (I.base.free b o e n hx)
  · obtain ⟨sl, e1⟩ := I.base.slot b o e n hb hx
    obtain ⟨sl', e2⟩ := slot b _ (neL b o e) hb (neC b o e hx) e1 (I.base.free b o e n hx)
    exact ⟨sl', e2⟩
  · obtain ⟨o', e1⟩ := I.base.there b o e hx
    exact free b o' (neC b o e hx) e1 (I.base.free b o e n hx)
  · obtain ⟨o', e1⟩ := I.base.there b o e hx
    exact there b o' (neC b o e hx) e1
  · obtain ⟨m, hn, hl⟩ := I.loc
    refine ⟨m, ns m hn, fun i x v e1 e2 e3 => ?_⟩
    obtain ⟨u, r, l⟩ := hl i x v e1 e2 e3
    refine ⟨u, r, ?_⟩
    rcases l with l | ⟨k, c, e, z⟩
    · exact .inl l
    · exact .inr ⟨k, c, e, cellK x c e _ z⟩
  · obtain ⟨v, z⟩ := I.cell x c e
    exact ⟨v, cellK x c e v z⟩
  · obtain ⟨m, ⟨o, _, _, ho, _⟩, _⟩ := I.loc
    exact free _ o (fun z => (hch _ z).2.1 rfl) ho I.free
  · obtain ⟨v, o, ho, hd⟩ := I.cell x c e
    exact free c o (fun z => (hch c z).2.2.1 x c e rfl) ho (I.freeC x c e)
  · obtain ⟨e, n, ne, nf, d⟩ := I.pin p hp
    have nch : p.1 ∉ ch := fun z => (hch p.1 z).2.2.2 p hp rfl
    exact ⟨keep p.1 p.2 ne nf nch e n, free p.1 p.2 nch e n, ne, nf, d⟩
theorem Inv.un {t' : Nat} (I : Inv X pins σ H s) (u : Un X.fs [] H H' s.heap h') (hok : HOk X.prog X.w H' h') : Inv X pins σ H' { s with heap := h', toks := t' } := by
  obtain ⟨m, ⟨o, es, ep, ho, r⟩, _⟩ := id I.loc
  obtain ⟨sl, hL⟩ := u.any ho I.free (by simp)
  exact I.step (g' := s.gens) (d' := s.drawn) (ch := []) (fun _ z => nomatch z) (fun b o _ hb _ e n => u.keep b o e n hb (by simp)) (fun b o _ hb _ e n => u.slot b o e n hb (by simp)) (fun b o _ e n => u.free b o e n (by simp)) (fun b o _ e => u.there b o e (by simp)) u.tups u.frzs u.tbls (fun m' hm => by
    obtain ⟨o', es', ep', ho', r'⟩ := hm
    rw [ho] at ho'; cases ho'
    exact ⟨_, es', ep', hL, r'⟩) hok I.bare
theorem Inv.call {g' : Array GenState} {t' : Nat} {d' : Drawn} {ch : List Addr} (I : Inv X pins σ H s) (u : Un (frs X.stack) ch H H' s.heap h') (hok : HOk X.prog X.w H' h') (hg : AllBare g')
    (hch : ∀ b ∈ ch, (b ∈ X.ex ∨ X.s₀.heap.objs.size ≤ b) ∧ b ≠ X.env.locals ∧ (∀ x c, X.env.cells.lookup x = some c → c ≠ b) ∧ ∀ p ∈ X.pn ++ pins, p.1 ≠ b) :
    Inv X pins σ H' { s with heap := h', gens := g', drawn := d', toks := t' } := by
  obtain ⟨m, ⟨o, es, ep, ho, r⟩, _⟩ := id I.loc
  obtain ⟨sl, hL⟩ := u.any ho I.free fun z => (hch _ z).2.1 rfl
  exact I.step (ch := ch) hch (fun b o hL hb hc e n => u.keep b o e n (fun z => (List.mem_cons.mp (I.stkSub b z)).elim hL hb) hc) (fun b o _ _ hc e n => u.any e n hc) (fun b o hc e n => u.free b o e n hc) (fun b o hc e => u.there b o e hc) u.tups u.frzs u.tbls (fun m' hm => by
    obtain ⟨o', es', ep', ho', r'⟩ := hm
    rw [ho] at ho'; cases ho'
    exact ⟨_, es', ep', hL, r'⟩) hok hg
theorem Inv.turned {t' : Nat} {it : Addr} (I : Inv X pins σ H s) (k : ∀ b o, b ≠ it → s.heap.get? b = some o → h'.get? b = some o) (hn : H it = none) (hL : it ≠ X.env.locals)
    (h1 : it ∈ X.ex ∨ X.s₀.heap.objs.size ≤ it) (h2 : ∀ x c, X.env.cells.lookup x = some c → c ≠ it) (h3 : ∀ p ∈ X.pn ++ pins, p.1 ≠ it) : Inv X pins σ H { s with heap := h', toks := t' } := by
  have nit : ∀ b u, H b = some u → b ≠ it := fun b u e z => by rw [z, hn] at e; cases e
  refine I.step (g' := s.gens) (d' := s.drawn) (ch := [it]) (fun b hb => ?_) (fun b o _ _ hc e _ => k b o (fun z => hc (by simp [z])) e) (fun b o _ _ hc e _ => ⟨o.slots, k b o (fun z => hc (by simp [z])) e⟩) (fun _ _ _ _ n => n)
    (fun b o hc e => ⟨o, k b o (fun z => hc (by simp [z])) e⟩) (fun _ _ e => e) (fun _ _ _ e => e) (fun _ _ e => e) (fun m hm => ?_) (fun b u e => ?_) I.bare
  · have e : b = it := by simpa using hb
    subst e
    exact ⟨h1, hL, h2, h3⟩
  · obtain ⟨o, es, ep, ho, r⟩ := hm
    exact ⟨o, es, ep, k _ o (Ne.symm hL) ho, r⟩
  · refine (I.hok b u e).stay (fun c v hc q => k c v ?_ q) (fun _ q => q) fun _ _ q => q
    rcases hc with z | z
    · rw [z]; exact nit b u e
    · exact nit c _ z
theorem Inv.tok (I : Inv X pins σ H s) (t : Nat) : Inv X pins σ H { s with toks := t } := I.un (h' := s.heap) (t' := t) Un.refl I.hok
theorem Inv.kept {t' : Nat} (I : Inv X pins σ H s) (k : ∀ b u, s.heap.get? b = some u → h'.get? b = some u) : Inv X pins σ H { s with heap := h', toks := t' } := I.un (Un.kept k) (I.hok.kept k)
theorem Inv.laid {a : Addr} {o : HO} {t' : Nat} (I : Inv X pins σ H s) (k : ∀ b u, s.heap.get? b = some u → h'.get? b = some u) (hp : s.heap.objs.size ≤ a) (new : ObjOk X.prog X.w (upd H a o) h' a o) :
    Inv X pins σ (upd H a o) { s with heap := h', toks := t' } := I.un (Un.laid k hp (I.hok.fresh hp)) (I.hok.laid k hp new)
theorem Inv.write {x e : Addr} {o : HO} {t' : Nat} (I : Inv X pins σ H s) (mu : Mut (H x)) (he : e = x ∨ H e = some (.own x)) (k : ∀ b u, b ≠ e → s.heap.get? b = some u → h'.get? b = some u) (heo : ∃ u, h'.get? e = some u)
    (new : ObjOk X.prog X.w (upd H x o) h' x o) : Inv X pins σ (upd H x o) { s with heap := h', toks := t' } := I.un (Un.write mu he k heo) (I.hok.write mu he k heo new)
theorem Inv.pins_of {pins' : List (Addr × Obj)} (I : Inv X pins σ H s) (h : ∀ p ∈ pins', s.heap.get? p.1 = some p.2 ∧ H p.1 = none ∧ p.1 ≠ X.env.locals ∧ p.1 ∉ X.fs ∧ ∀ v, p.2.data ≠ .cell v) : Inv X pins' σ H s :=
  ⟨I.ok, I.os, I.bare, I.base, I.loc, I.cell, I.free, I.freeC, fun p hp => (List.mem_append.mp hp).elim (fun z => I.pin p (List.mem_append_left _ z)) (h p), I.hok, I.len⟩
theorem nodup_ix {N : List Str} (hN : N.Nodup) {i j : Nat} {x : Str} (a : N[i]? = some x) (b : N[j]? = some x) : i = j := by
  obtain ⟨h1, e1⟩ := List.getElem?_eq_some_iff.mp a
  obtain ⟨h2, e2⟩ := List.getElem?_eq_some_iff.mp b
  exact (List.getElem_inj hN).mp (e1.trans e2.symm)
theorem store_ok2 {M : Model} {A : Around} {E : Value → Shared → Prop} {i : Nat} {x : Str} {v : V} {u : Value} {Q : Unit → Shared → Prop} (I : Inv X pins σ H s) (hN : X.N.Nodup) (hi : X.N[i]? = some x) (hx : Loc X.env.scope x) (r : RelV v u)
    (h : ∀ s', Inv X pins (σ.set i (some v)) H s' → (∃ a, Heap.SameBut a s.heap s'.heap ∧ (a = X.env.locals ∨ X.env.cells.lookup x = some a)) → Q () s') (hf : X.fn x = true ∨ X.env.scope.names.lookup x = some .local := by first | exact .inl rfl | exact .inr rfl | assumption) : wpAny M A (storeName X.env x u) Q E s := by
  obtain ⟨m, hn, hl⟩ := id I.loc
  have hcls : (X.env.scope.kind == .class || (X.env.scope.kind == .module && X.env.locals != X.env.globals)) = false := by rw [I.ok.kind]; rfl
  have hiσ : i < σ.length := by rw [I.len]; exact (List.getElem?_eq_some_iff.mp hi).1
  have cne := I.cne
  have tracked : ∀ {a : Addr} {h' : Heap}, (∃ o, s.heap.get? a = some o ∧ H a = none) → Heap.SameBut a s.heap h' → HOk X.prog X.w H h' := fun {a h'} ha hs b ob e => by
    obtain ⟨_, _, hfree⟩ := ha
    refine (I.hok b ob e).stay (fun c w' hc q => (hs.2 c ?_).trans q) (fun _ q => q) fun _ _ q => q
    rintro rfl
    rcases hc with rfl | hc
    · rw [hfree] at e; cases e
    · rw [hfree] at hc; cases hc
  rcases hx with hk | hk
  · refine wpAny_storeName_local hk hn (fun h' hn' hs => ?_) hcls
    obtain ⟨oL, _, _, hoL, _⟩ := id hn
    refine h _ ⟨I.ok, I.os, I.bare, ⟨fun b o e n hb hx => ?_, fun b o e n hb hx => ?_, I.base.free, fun b o e hx => ?_, I.base.tups, I.base.frzs, I.base.tbls⟩, ⟨_, hn', fun j y v' e1 e2 e3 => ?_⟩, fun y c e => ?_, I.free, I.freeC, fun p hp => ?_, tracked ⟨oL, hoL, I.free⟩ hs, by simpa using I.len⟩ ⟨_, hs, .inl rfl⟩
    · exact (hs.2 b (Nat.ne_of_lt (Nat.lt_of_lt_of_le (Heap.lt_size e) I.ok.above))).trans (I.base.keep b o e n hb hx)
    · obtain ⟨sl, e1⟩ := I.base.slot b o e n hb hx
      exact ⟨sl, (hs.2 b (Nat.ne_of_lt (Nat.lt_of_lt_of_le (Heap.lt_size e) I.ok.above))).trans e1⟩
    · obtain ⟨o', e1⟩ := I.base.there b o e hx
      exact ⟨o', (hs.2 b (Nat.ne_of_lt (Nat.lt_of_lt_of_le (Heap.lt_size e) I.ok.above))).trans e1⟩
    · by_cases hj : j = i
      · subst hj
        rw [hi] at e1; cases e1
        rw [List.getElem?_set_self hiσ] at e2
        cases e2
        exact ⟨u, r, .inl ⟨hk, by simp⟩⟩
      · rw [List.getElem?_set_ne (Ne.symm hj)] at e2
        obtain ⟨u', r', q⟩ := hl j y v' e1 e2 e3
        refine ⟨u', r', ?_⟩
        rcases q with ⟨k, e⟩ | ⟨k, c, e, z⟩
        · refine .inl ⟨k, ?_⟩
          have : y ≠ x := fun e => hj (nodup_ix hN e1 (e ▸ hi))
          simp [this, e]
        · exact .inr ⟨k, c, e, z.sameBut hs (cne y c e)⟩
    · obtain ⟨w', z⟩ := I.cell y c e
      exact ⟨w', z.sameBut hs (cne y c e)⟩
    · obtain ⟨e, n, ne, nf, d⟩ := I.pin p hp
      exact ⟨(hs.2 p.1 ne).trans e, n, ne, nf, d⟩
  · have hfn : X.fn x = true := by
      rcases hf with z | z
      · exact z
      · rw [z] at hk; cases hk
    obtain ⟨c, hc⟩ := I.ok.has x (.inl hk)
    obtain ⟨w', z⟩ := I.cell x c hc
    refine wpAny_storeName_cell I.ok.kind hk hc z (fun h' hc' hs => ?_)
    obtain ⟨oc, hoc, hocd⟩ := id z
    refine h { s with heap := h' } ⟨I.ok, I.os, I.bare, ⟨fun b o e n hb hx => ?_, fun b o e n hb hx => ?_, I.base.free, fun b o e hx => ?_, I.base.tups, I.base.frzs, I.base.tbls⟩, ⟨m, hn.sameBut hs (Ne.symm (cne x c hc)), fun j y v' e1 e2 e3 => ?_⟩, fun y c' e => ?_, I.free, I.freeC, fun p hp => ?_, tracked ⟨oc, hoc, I.freeC x c hc⟩ hs, by simpa using I.len⟩ ⟨c, hs, .inr hc⟩
    · exact (hs.2 b (Nat.ne_of_lt (Nat.lt_of_lt_of_le (Heap.lt_size e) (I.ok.cab x c hfn hc)))).trans (I.base.keep b o e n hb hx)
    · obtain ⟨sl, e1⟩ := I.base.slot b o e n hb hx
      exact ⟨sl, (hs.2 b (Nat.ne_of_lt (Nat.lt_of_lt_of_le (Heap.lt_size e) (I.ok.cab x c hfn hc)))).trans e1⟩
    · obtain ⟨o', e1⟩ := I.base.there b o e hx
      exact ⟨o', (hs.2 b (Nat.ne_of_lt (Nat.lt_of_lt_of_le (Heap.lt_size e) (I.ok.cab x c hfn hc)))).trans e1⟩
    · by_cases hj : j = i
      · subst hj
        rw [hi] at e1; cases e1
        rw [List.getElem?_set_self hiσ] at e2
        cases e2
        exact ⟨u, r, .inr ⟨.inl hk, c, hc, hc'⟩⟩
      · rw [List.getElem?_set_ne (Ne.symm hj)] at e2
        obtain ⟨u', r', q⟩ := hl j y v' e1 e2 e3
        refine ⟨u', r', ?_⟩
        rcases q with q | ⟨k, c', e, z'⟩
        · exact .inl q
        · refine .inr ⟨k, c', e, z'.sameBut hs ?_⟩
          rintro rfl
          exact hj (nodup_ix hN e1 (I.ok.inj _ _ _ e hc ▸ hi))
    · by_cases hcc : c' = c
      · subst hcc; exact ⟨_, hc'⟩
      · obtain ⟨w2, z2⟩ := I.cell y c' e
        exact ⟨w2, z2.sameBut hs hcc⟩
    · obtain ⟨e, n, ne, nf, d⟩ := I.pin p hp
      refine ⟨(hs.2 p.1 ?_).trans e, n, ne, nf, d⟩
      intro q
      rw [q, hoc] at e
      have q' : oc = p.2 := Option.some.inj e
      exact d w' (by rw [← q']; exact hocd)
theorem store_ok {M : Model} {A : Around} {E : Value → Shared → Prop} {i : Nat} {x : Str} {v : V} {u : Value} {Q : Unit → Shared → Prop} (I : Inv X pins σ H s) (hN : X.N.Nodup) (hi : X.N[i]? = some x) (hx : Loc X.env.scope x) (r : RelV v u)
    (h : ∀ s', Inv X pins (σ.set i (some v)) H s' → Q () s') (hf : X.fn x = true ∨ X.env.scope.names.lookup x = some .local := by first | exact .inl rfl | exact .inr rfl | assumption) : wpAny M A (storeName X.env x u) Q E s :=
  store_ok2 I hN hi hx r (fun s' I' _ => h s' I') hf
theorem Inv.call' {s' : Shared} {ch : List Addr} (I : Inv X pins σ H s) (ho : s'.os = s.os) (u : Un (frs X.stack) ch H H' s.heap s'.heap) (hok : HOk X.prog X.w H' s'.heap) (hg : AllBare s'.gens)
    (hch : ∀ b ∈ ch, (b ∈ X.ex ∨ X.s₀.heap.objs.size ≤ b) ∧ b ≠ X.env.locals ∧ (∀ x c, X.env.cells.lookup x = some c → c ≠ b) ∧ ∀ p ∈ X.pn ++ pins, p.1 ≠ b) : Inv X pins σ H' s' := by
  obtain ⟨h', g', d', t', o'⟩ := s'
  have e : o' = s.os := ho
  subst e
  exact I.call (g' := g') (t' := t') (d' := d') u hok hg hch
end
noncomputable abbrev XK := Value → Option Addr → Hp → Prop
noncomputable abbrev St := List (Option V)
noncomputable abbrev VK := V → Hp → Prop
noncomputable abbrev TE := St → Hp → VK → Prop
noncomputable abbrev TT := St → Hp → (Bool → Hp → Prop) → Prop
noncomputable abbrev TA := St → Hp → (List V → Hp → Prop) → Prop
structure Ends where
  nx : St → Hp → Prop
  rt : VK
  bk : St → Hp → Prop := fun _ _ => False
  ct : St → Hp → Prop := fun _ _ => False
noncomputable abbrev TS := Ends → St → Hp → Prop
noncomputable def EP (X : Cx) (pins : List (Addr × Obj)) (σ : St) (Q : VK) (u : Value) (s' : Shared) : Prop := ∃ v H', Inv X pins σ H' s' ∧ RelV v u ∧ Q v H'
noncomputable def TP (X : Cx) (pins : List (Addr × Obj)) (σ : St) (Q : Bool → Hp → Prop) (b : Bool) (s' : Shared) : Prop := ∃ H', Inv X pins σ H' s' ∧ Q b H'
noncomputable def AP (X : Cx) (pins : List (Addr × Obj)) (σ : St) (Q : List V → Hp → Prop) (us : List Value) (s' : Shared) : Prop := ∃ vs H', Inv X pins σ H' s' ∧ Vals vs us ∧ Q vs H'
noncomputable def SP (X : Cx) (pins : List (Addr × Obj)) (D : Ends) (f : Flow) (s' : Shared) : Prop :=
  match f with
  | .next => ∃ σ' H', Inv X pins σ' H' s' ∧ D.nx σ' H'
  | .brk => ∃ σ' H', Inv X pins σ' H' s' ∧ D.bk σ' H'
  | .cont => ∃ σ' H', Inv X pins σ' H' s' ∧ D.ct σ' H'
  | .ret u => ∃ v σ' H', Inv X pins σ' H' s' ∧ RelV v u ∧ D.rt v H'
noncomputable def PE (X : Cx) (e : Expr) (t : TE) : Prop :=
  ∀ (pins : List (Addr × Obj)) (s : Shared) (σ : St) (H : Hp) (Q : VK), Inv X pins σ H s → t σ H Q → wpAny (model X.prog X.w) X.A (eval e X.env) (EP X pins σ Q) X.xe s
noncomputable def PT (X : Cx) (e : Expr) (t : TT) : Prop :=
  ∀ (pins : List (Addr × Obj)) (s : Shared) (σ : St) (H : Hp) (Q : Bool → Hp → Prop), Inv X pins σ H s → t σ H Q → wpAny (model X.prog X.w) X.A (isTrue e X.env (eval e X.env)) (TP X pins σ Q) X.xe s
noncomputable def PW (X : Cx) (e : Expr) (t : TT) : Prop :=
  ∀ (whole : Sem Value) (pins : List (Addr × Obj)) (s : Shared) (σ : St) (H : Hp) (Q : Bool → Hp → Prop), Inv X pins σ H s → t σ H Q → wpAny (model X.prog X.w) X.A (isTrue e X.env whole) (TP X pins σ Q) X.xe s
theorem PW.pt {X : Cx} {e : Expr} {t : TT} (h : PW X e t) : PT X e t := h _
noncomputable def PA (X : Cx) (es : List Expr) (t : TA) : Prop :=
  ∀ (pos : Pos) (pins : List (Addr × Obj)) (s : Shared) (σ : St) (H : Hp) (Q : List V → Hp → Prop), Inv X pins σ H s → t σ H Q → wpAny (model X.prog X.w) X.A (spliced (backTo pos (starEach es X.env))) (AP X pins σ Q) X.xe s
noncomputable def PS (X : Cx) (st : Stmt) (t : TS) : Prop :=
  ∀ (pins : List (Addr × Obj)) (s : Shared) (σ : St) (H : Hp) (D : Ends), Inv X pins σ H s → t D σ H → wpAny (model X.prog X.w) X.A (exec st X.env) (SP X pins D) X.xe s
noncomputable def PSs (X : Cx) (st : List Stmt) (t : TS) : Prop :=
  ∀ (pins : List (Addr × Obj)) (s : Shared) (σ : St) (H : Hp) (D : Ends), Inv X pins σ H s → t D σ H → wpAny (model X.prog X.w) X.A (execs st X.env) (SP X pins D) X.xe s
theorem thn {α : Type} {t : Sem α} {Q Q' : α → Shared → Prop} {M : Model} {A : Around} {E : Value → Shared → Prop} {s : Shared} (h : wpAny M A t Q E s) (hQ : ∀ a s, Q a s → Q' a s) : wpAny M A t Q' E s := wpAny_mono h hQ fun _ _ x => x
end L2
namespace L2
open PySem PySem.Spec PyProof.Rows
section
variable {X : Cx}
noncomputable def tVar (i : Nat) : TE := fun σ H Q => ∃ v, σ[i]? = some (some v) ∧ Q v H
noncomputable def tC (v : V) : TE := fun _ H Q => Q v H
theorem pe_var {i : Nat} {x : Str} {pos : Pos} (hN : X.N[i]? = some x) (hv : Vis X.env.scope x) (hd : (x == ("__debug__" : Str)) = false := by decide) (hcd : (x == ("__classdict__" : Str)) = false := by decide) : PE X (.Name x pos) (tVar i) := by
  intro pins s σ H Q I h
  obtain ⟨v, e, h⟩ := h
  obtain ⟨m, hn, hl⟩ := I.loc
  obtain ⟨u, r, l⟩ := hl i x v hN e hv
  have fin : EP X pins σ Q u s := ⟨v, H, I, r, h⟩
  rcases l with ⟨hk, hm⟩ | ⟨hk, c, hc, hcell⟩
  · exact wpAny_Name (wpAny_loadName_local I.ok.kind hk hn hm fin) hd
  · rcases hk with hk | hk
    · exact wpAny_Name (wpAny_loadName_cell I.ok.kind hk hc hcell fin) hd
    · exact wpAny_Name (wpAny_loadName_free I.ok.kind hk hc hcell fin hcd) hd
theorem pe_int {i j pos} : PE X (.Constant (.int i) j pos) (tC (.int i)) := fun _ _ _ H _ I h => wpAny_Constant_int ⟨.int i, H, I.tok _, ⟨_, rfl⟩, h⟩
theorem pe_bl {b j pos} : PE X (.Constant (.bool b) j pos) (tC (.bl b)) := fun _ _ _ H _ I h => Constant_bool ⟨.bl b, H, I, rfl, h⟩
theorem pe_non {j pos} : PE X (.Constant .none j pos) (tC .non) := fun _ _ _ H _ I h => Constant_none ⟨.non, H, I, rfl, h⟩
theorem pe_str {x j pos} : PE X (.Constant (.str x) j pos) (tC (.str x)) := fun _ _ _ H _ I h => Calls.Constant_str ⟨.str x, H, I.tok _, ⟨_, rfl⟩, h⟩
noncomputable def Gl (X : Cx) (x : Str) : Prop := X.env.kindOf x = some .globalImplicit
theorem ld_glob {E : Value → Shared → Prop} {pins : List (Addr × Obj)} {s : Shared} {σ : St} {H : Hp} {x : Str} {u : Value} {pos : Pos} {Q : Value → Shared → Prop} (I : Inv X pins σ H s) (hg : Gl X x) (hm : X.mg x = some u) (h : Q u s)
    (hd : (x == ("__debug__" : Str)) = false := by decide) : wpAny (model X.prog X.w) X.A (eval (.Name x pos) X.env) Q E s :=
  Calls.Name_function_global I.ok.kind hg (Calls.loadGlobal_global (by rw [I.ok.glob]; exact I.mod.glob.keeps I.bk) hm h) hd
theorem ld_blt {E : Value → Shared → Prop} {pins : List (Addr × Obj)} {s : Shared} {σ : St} {H : Hp} {x : Str} {u : Value} {pos : Pos} {Q : Value → Shared → Prop} (I : Inv X pins σ H s) (hg : Gl X x) (hm : X.mg x = none) (hv : bootBuiltins x = some u) (h : Q u s)
    (hn : x ≠ "__name__" := by decide) (hd : (x == ("__debug__" : Str)) = false := by decide) : wpAny (model X.prog X.w) X.A (eval (.Name x pos) X.env) Q E s := by
  obtain ⟨mb, h1, h2⟩ := I.mod.blt
  exact Calls.Name_function_global I.ok.kind hg (Calls.loadGlobal_builtin (by rw [I.ok.glob]; exact I.mod.glob.keeps I.bk) hm (by rw [I.ok.blt]; exact h1.keeps I.bk) ((h2 x hn).trans hv) h) hd
theorem pe_glob {x : Str} {v : V} {u : Value} {pos : Pos} (hg : Gl X x) (hm : X.mg x = some u) (r : RelV v u) (hd : (x == ("__debug__" : Str)) = false := by decide) : PE X (.Name x pos) (tC v) :=
  fun _ _ _ H _ I h => ld_glob I hg hm ⟨v, H, I, r, h⟩ hd
theorem pe_bltn {x : Str} {v : V} {u : Value} {pos : Pos} (hg : Gl X x) (hm : X.mg x = none) (hv : bootBuiltins x = some u) (r : RelV v u) (hn : x ≠ "__name__" := by decide) (hd : (x == ("__debug__" : Str)) = false := by decide) : PE X (.Name x pos) (tC v) :=
  fun _ _ _ H _ I h => ld_blt I hg hm hv ⟨v, H, I, r, h⟩ hn hd
variable {a b : Expr} {ta tb : TE} {pos : Pos}
noncomputable def PC (X : Cx) (op : CmpOp) (a b : Expr) (t : TE) : Prop :=
  ∀ (pins : List (Addr × Obj)) (s : Shared) (σ : St) (H : Hp) (Q : VK), Inv X pins σ H s → t σ H Q →
    wpAny (model X.prog X.w) X.A (eval a X.env) (fun v s₁ => wpAny (model X.prog X.w) X.A (eval b X.env) (fun u s₂ => wpAny (model X.prog X.w) X.A (compareOp op v u) (EP X pins σ Q) X.xe s₂) X.xe s₁) X.xe s
theorem nobehind (b : Expr) {op : CmpOp} (h : op ≠ .In) (h2 : op ≠ .NotIn) : behindInMarks op b = false := by
  have e1 : (op == CmpOp.In) = false := by cases op <;> first | rfl | exact absurd rfl h
  have e2 : (op == CmpOp.NotIn) = false := by cases op <;> first | rfl | exact absurd rfl h2
  cases b <;> simp [behindInMarks, e1, e2]
noncomputable def tNotN (ta : TE) : TE := fun σ H Q => ta σ H fun x H1 => Q (.bl (!decide (x = .non))) H1
theorem RelV.none_iff {x : V} {v : Value} (r : RelV x v) : (v == Value.none) = decide (x = .non) := by
  cases x with
  | non => cases r; rfl
  | bl _ => cases r; rfl
  | int _ => obtain ⟨t, rfl⟩ := r; rfl
  | str _ => obtain ⟨t, rfl⟩ := r; rfl
  | byt _ => obtain ⟨t, rfl⟩ := r; rfl
  | flt _ => obtain ⟨t, rfl⟩ := r; rfl
  | ref _ => cases r; rfl
  | ty _ => cases r; rfl
theorem pc_notN {j pos'} (ha : PE X a ta) : PC X .IsNot a (.Constant .none j pos') (tNotN ta) := by
  intro pins s σ H Q I h
  refine thn (ha pins s σ H _ I h) fun v s1 hq__ => ?_
  obtain ⟨x, H1, I1, r1, q1⟩ := hq__
  exact Constant_none (isnot_none_gen ⟨.bl _, H1, I1, by rw [r1.none_iff]; rfl, q1⟩)
noncomputable def tB (t : TE) : TT := fun σ H Q => t σ H fun x H1 => ∃ c, x = .bl c ∧ Q c H1
theorem pt_cmp {op : CmpOp} {t : TE} (h : PC X op a b t) (h1 : behindInMarks op b = false := by first | exact nobehind _ (by decide) (by decide) | rfl) : PT X (.Compare a [op] [b] pos) (tB t) := by
  intro pins s σ H Q I hw
  refine wpAny_isTrue_Compare1 (thn (h pins s σ H _ I hw) fun v s1 h1 => thn h1 fun u s2 h2 => thn h2 fun c s3 hq__ => ?_) h1
  obtain ⟨x, H1, I1, r1, q1⟩ := hq__
  obtain ⟨d, rfl, q⟩ := q1
  cases r1
  exact wpAny_truthy_bool ⟨H1, I1, q⟩
theorem pt_val {e : Expr} {t : TE} (h : PE X e t) (he : ∀ whole, isTrue e X.env whole = (do let v ← whole; standAt e.pos; holding [v] (truthy v)) := by intro _; rfl) : PT X e (tB t) := by
  intro pins s σ H Q I hw
  refine isTrue_plain (thn (h pins s σ H _ I hw) fun v s1 hq__ => ?_) (he _)
  obtain ⟨x, H1, I1, r1, q1⟩ := hq__
  obtain ⟨d, rfl, q⟩ := q1
  cases r1
  exact wpAny_truthy_bool ⟨H1, I1, q⟩
variable {tA tB' : TT} {rest : List Expr}
noncomputable def tAnd (t u : TT) : TT := fun σ H Q => t σ H fun c H1 => if c = true then u σ H1 Q else Q false H1
noncomputable def tOr (t u : TT) : TT := fun σ H Q => t σ H fun c H1 => if c = true then Q true H1 else u σ H1 Q
noncomputable def tNot (t : TT) : TT := fun σ H Q => t σ H fun c H1 => Q (!c) H1
theorem pw_and1 (ha : PT X a tA) : PW X (.BoolOp .And [a] pos) tA := by
  intro wh pins s σ H Q I h
  refine isTrue_and (thn (ha pins s σ H Q I h) fun c s1 e => ?_)
  cases c with
  | true => exact isTrue_and_nil e
  | false => exact e
theorem pw_or1 (ha : PT X a tA) : PW X (.BoolOp .Or [a] pos) tA := by
  intro wh pins s σ H Q I h
  refine isTrue_or (thn (ha pins s σ H Q I h) fun c s1 e => ?_)
  cases c with
  | false => exact isTrue_or_nil e
  | true => exact e
theorem pw_and (ha : PT X a tA) (hb : PW X (.BoolOp .And (b :: rest) pos) tB') : PW X (.BoolOp .And (a :: b :: rest) pos) (tAnd tA tB') := by
  intro wh pins s σ H Q I h
  refine isTrue_and (thn (ha pins s σ H _ I h) fun c s1 hq__ => ?_)
  obtain ⟨H1, I1, q1⟩ := hq__
  cases c with
  | true => exact hb wh pins s1 σ H1 Q I1 q1
  | false => exact ⟨H1, I1, q1⟩
theorem pw_or (ha : PT X a tA) (hb : PW X (.BoolOp .Or (b :: rest) pos) tB') : PW X (.BoolOp .Or (a :: b :: rest) pos) (tOr tA tB') := by
  intro wh pins s σ H Q I h
  refine isTrue_or (thn (ha pins s σ H _ I h) fun c s1 hq__ => ?_)
  obtain ⟨H1, I1, q1⟩ := hq__
  cases c with
  | true => exact ⟨H1, I1, q1⟩
  | false => exact hb wh pins s1 σ H1 Q I1 q1
theorem pt_not (ha : PT X a tA) : PT X (.UnaryOp .Not a pos) (tNot tA) := by
  intro pins s σ H Q I h
  exact isTrue_not (ha pins s σ H (fun c H1 => Q (!c) H1) I h)
end
end L2
namespace L2
open PySem PySem.Spec PyProof.Rows
noncomputable def SqL (K : PySem.W.Frag) (H : Hp) (a : Addr) (xs : List V) : Prop :=
  Rd H a (.lst xs) ∨
    ∃ (o : Obj) (its : Array Value) (n : Nat), K.lookup a = some o ∧ o.cls = .type "list" ∧ o.dict = none ∧ o.data = .seq its n ∧ its.size ≤ sizeLine ∧ Vals xs its.toList
noncomputable def SqT (K : PySem.W.Frag) (H : Hp) (a : Addr) (xs : List V) : Prop :=
  Rd H a (.tup xs) ∨
    ∃ (o : Obj) (its : Array Value) (n : Nat), K.lookup a = some o ∧ o.cls = .type "tuple" ∧ o.data = .seq its n ∧ its.size ≤ sizeLine ∧ Vals xs its.toList
noncomputable def absV : Value → Option V
  | .none => some .non
  | .bool b => some (.bl b)
  | .int i _ => some (.int i)
  | .str x _ => some (.str x)
  | .bytes b _ => some (.byt b)
  | .float b _ => some (.flt b)
  | .ref a => some (.ref a)
  | .type n => some (.ty n)
  | _ => none
theorem RelV.abs {x : V} {u : Value} (r : RelV x u) : absV u = some x := by
  cases x with
  | non => cases r; rfl
  | bl _ => cases r; rfl
  | int _ => obtain ⟨t, rfl⟩ := r; rfl
  | str _ => obtain ⟨t, rfl⟩ := r; rfl
  | byt _ => obtain ⟨t, rfl⟩ := r; rfl
  | flt _ => obtain ⟨t, rfl⟩ := r; rfl
  | ref _ => cases r; rfl
  | ty _ => cases r; rfl
theorem RelV.inj {x y : V} {u : Value} (r : RelV x u) (q : RelV y u) : x = y := Option.some.inj (r.abs.symm.trans q.abs)
theorem Vals.inj : ∀ {xs ys : List V} {us : List Value}, Vals xs us → Vals ys us → xs = ys
  | _, _, _, .nil, .nil => rfl
  | _, _, _, .cons r t, .cons r' t' => by rw [r.inj r', Vals.inj t t']
section
variable {X : Cx} {pins : List (Addr × Obj)} {σ : St} {H : Hp} {s : Shared} {a : Addr} {xs ys : List V}
theorem SqL.of {K : PySem.W.Frag} (h : H a = some (.lst xs)) : SqL K H a xs := .inl (.inl h)
theorem SqT.of {K : PySem.W.Frag} (h : H a = some (.tup xs)) : SqT K H a xs := .inl (.inl h)
theorem Inv.list (I : Inv X pins σ H s) (h : SqL X.K H a xs) : ∃ its : List Value, Vals xs its ∧ PlainL s.heap a its.toArray ∧ xs.length ≤ sizeLine := by
  rcases h with h | ⟨o, its, n, hk, hc, hd, hs, hz, r⟩
  · obtain ⟨z, its, n, r, e⟩ := h.ok I.hok
    exact ⟨its, r, ⟨_, n, e, rfl, rfl, rfl⟩, z⟩
  · refine ⟨its.toList, r, ⟨o, n, I.kIn a o hk, hc, hd, by simpa using hs⟩, ?_⟩
    have e := r.length
    simp only [Array.length_toList] at e
    omega
theorem Inv.tuple (I : Inv X pins σ H s) (h : SqT X.K H a xs) : ∃ its : List Value, Vals xs its ∧ IsTup s.heap a its.toArray ∧ xs.length ≤ sizeLine := by
  rcases h with h | ⟨o, its, n, hk, hc, hs, hz, r⟩
  · obtain ⟨z, its, r, p⟩ := h.ok I.hok
    exact ⟨its, r, p, z⟩
  · refine ⟨its.toList, r, ⟨o, I.kIn a o hk, hc, n, by simpa using hs⟩, ?_⟩
    have e := r.length
    simp only [Array.length_toList] at e
    omega
theorem Inv.list_inj (I : Inv X pins σ H s) (h : SqL X.K H a xs) (h' : SqL X.K H a ys) : xs = ys := by
  obtain ⟨its, r, ⟨o, n, e, _, _, d⟩, _⟩ := I.list h
  obtain ⟨its', r', ⟨o', n', e', _, _, d'⟩, _⟩ := I.list h'
  rw [e] at e'; cases e'
  rw [d] at d'
  injection d' with d1 _
  have : its = its' := by simpa using congrArg Array.toList d1
  subst this
  exact r.inj r'
theorem Inv.tuple_inj (I : Inv X pins σ H s) (h : SqT X.K H a xs) (h' : SqT X.K H a ys) : xs = ys := by
  obtain ⟨its, r, ⟨o, e, _, n, d⟩, _⟩ := I.tuple h
  obtain ⟨its', r', ⟨o', e', _, n', d'⟩, _⟩ := I.tuple h'
  rw [e] at e'; cases e'
  rw [d] at d'
  injection d' with d1 _
  have : its = its' := by simpa using congrArg Array.toList d1
  subst this
  exact r.inj r'
end
noncomputable abbrev Cx.wish (X : Cx) (E : Value → Shared → Prop) : Cx := { X with xe := E }
noncomputable abbrev Cx.nox (X : Cx) : Cx := X.wish fun _ _ => False
theorem Cx.Ok.wish {X : Cx} (ok : X.Ok) (E : Value → Shared → Prop) : (X.wish E).Ok :=
  ⟨ok.mod, ok.kind, ok.glob, ok.blt, ok.above, ok.inj, ok.has, ok.cab, ok.hd, ok.frames, ok.stk, ok.exf, ok.bs, ok.bsz, ok.noex, ok.exfs, ok.funs, ok.frf, ok.tabs⟩
theorem Cx.Ok.unwish {X : Cx} {E : Value → Shared → Prop} (ok : (X.wish E).Ok) : X.Ok :=
  ⟨ok.mod, ok.kind, ok.glob, ok.blt, ok.above, ok.inj, ok.has, ok.cab, ok.hd, ok.frames, ok.stk, ok.exf, ok.bs, ok.bsz, ok.noex, ok.exfs, ok.funs, ok.frf, ok.tabs⟩
section
variable {X : Cx} {pins : List (Addr × Obj)} {σ : St} {H : Hp} {s : Shared} {E : Value → Shared → Prop}
theorem Inv.wish (I : Inv X pins σ H s) (E : Value → Shared → Prop) : Inv (X.wish E) pins σ H s := ⟨I.ok.wish E, I.os, I.bare, I.base, I.loc, I.cell, I.free, I.freeC, I.pin, I.hok, I.len⟩
theorem Inv.unwish (I : Inv (X.wish E) pins σ H s) : Inv X pins σ H s := ⟨I.ok.unwish, I.os, I.bare, I.base, I.loc, I.cell, I.free, I.freeC, I.pin, I.hok, I.len⟩
theorem SP.unwish {D : Ends} {f : Flow} {s' : Shared} (h : SP (X.wish E) pins D f s') : SP X pins D f s' := by
  cases f with
  | next => obtain ⟨σ', H', I, q⟩ := h; exact ⟨σ', H', I.unwish, q⟩
  | brk => obtain ⟨σ', H', I, q⟩ := h; exact ⟨σ', H', I.unwish, q⟩
  | cont => obtain ⟨σ', H', I, q⟩ := h; exact ⟨σ', H', I.unwish, q⟩
  | ret u => obtain ⟨v, σ', H', I, r, q⟩ := h; exact ⟨v, σ', H', I.unwish, r, q⟩
theorem PSs.nox {st : List Stmt} {t : TS} (h : PSs X.nox st t) : PSs X st t := fun pins s σ H D I hw =>
  wpAny_mono (h pins s σ H D (I.wish _) hw) (fun _ _ q => q.unwish) fun _ _ z => False.elim z
end
section
variable {X : Cx} {st : Stmt} {rest : List Stmt} {t u : TS} {e : Expr} {te : TE} {pos : Pos}
noncomputable def tNext : TS := fun D σ H => D.nx σ H
noncomputable def tSeq (t u : TS) : TS := fun D σ H => t { D with nx := u D } σ H
theorem pss_nil : PSs X [] tNext := fun _ _ σ H _ I h => wpAny_execs_nil ⟨σ, H, I, h⟩
theorem pss_cons (h1 : PS X st t) (h2 : PSs X rest u) : PSs X (st :: rest) (tSeq t u) := by
  intro pins s σ H D I h
  refine wpAny_execs_cons (thn (h1 pins s σ H { D with nx := u D } I h) fun f s1 q => ?_)
  cases f with
  | next =>
    obtain ⟨σ', H', I', q⟩ := q
    exact h2 pins s1 σ' H' D I' q
  | ret v => exact q
  | brk => exact q
  | cont => exact q
theorem pss_one (h1 : PS X st t) : PSs X [st] t := by
  intro pins s σ H D I h
  refine wpAny_execs_cons (thn (h1 pins s σ H D I h) fun f s1 q => ?_)
  cases f with
  | next => exact wpAny_execs_nil q
  | ret v => exact q
  | brk => exact q
  | cont => exact q
theorem Inv.quiet {pins : List (Addr × Obj)} {σ : St} {H : Hp} {s : Shared} (I : Inv X pins σ H s) : interactive X.env = false := by simp [interactive, I.ok.kind]
noncomputable def tDrop (te : TE) : TS := fun D σ H => te σ H fun _ H1 => D.nx σ H1
theorem ps_expr (he : PE X e te) (hs : swapsWith e none pos.line X.env = pure false := by rfl) : PS X (.Expr e pos) (tDrop te) := by
  intro pins s σ H D I h
  exact wpAny_Expr_any (thn (he pins s σ H _ I h) fun v s1 ⟨x, H1, I1, r1, q1⟩ => ⟨σ, H1, I1, q1⟩) I.quiet hs
noncomputable def tRet (te : TE) : TS := fun D σ H => te σ H D.rt
theorem ps_ret (he : PE X e te) : PS X (.Return (some e) pos) (tRet te) := by
  intro pins s σ H D I h
  exact wpAny_Return_some (thn (he pins s σ H _ I h) fun v s1 ⟨x, H1, I1, r1, q1⟩ => ⟨x, σ, H1, I1, r1, q1⟩)
noncomputable def tIfS (c : TT) (t u : TS) : TS := fun D σ H => c σ H fun b H1 => if b = true then t D σ H1 else u D σ H1
theorem ps_if {c : Expr} {a b : List Stmt} {tc : TT} (hc : PT X c tc) (ha : PSs X a t) (hb : PSs X b u) : PS X (.If c a b pos) (tIfS tc t u) := by
  intro pins s σ H D I h
  refine wpAny_If (thn (hc pins s σ H _ I h) fun d s1 hq__ => ?_)
  obtain ⟨H1, I1, q1⟩ := hq__
  cases d with
  | true => exact ha pins s1 σ H1 D I1 q1
  | false => exact hb pins s1 σ H1 D I1 q1
noncomputable def tNever : TS := fun _ _ _ => False
theorem ps_never : PS X st tNever := fun _ _ _ _ _ _ h => h.elim
end
noncomputable abbrev TG := V → St → Hp → (St → Hp → Prop) → Prop
noncomputable abbrev TGs := List V → St → Hp → (St → Hp → Prop) → Prop
noncomputable def PG (X : Cx) (target : Expr) (t : TG) : Prop :=
  ∀ (pins : List (Addr × Obj)) (s : Shared) (σ : St) (H : Hp) (v : V) (u : Value) (Q : St → Hp → Prop), Inv X pins σ H s → RelV v u → t v σ H Q →
    wpAny (model X.prog X.w) X.A (assign target X.env u) (fun _ s' => ∃ σ' H', Inv X pins σ' H' s' ∧ Q σ' H') X.xe s
noncomputable def PGs (X : Cx) (ts : List Expr) (t : TGs) : Prop :=
  ∀ (pins : List (Addr × Obj)) (s : Shared) (σ : St) (H : Hp) (vs : List V) (us : List Value) (Q : St → Hp → Prop), Inv X pins σ H s → Vals vs us → t vs σ H Q →
    wpAny (model X.prog X.w) X.A (assignInOrder ((assignEach ts X.env).map (·.2)) us) (fun _ s' => ∃ σ' H', Inv X pins σ' H' s' ∧ Q σ' H') X.xe s
section
variable {X : Cx} {pos : Pos}
noncomputable def gName (i : Nat) : TG := fun v σ H Q => Q (σ.set i (some v)) H
theorem pg_name {i : Nat} {x : Str} (hN : X.N.Nodup) (hi : X.N[i]? = some x) (hx : Loc X.env.scope x) (hf : X.fn x = true ∨ X.env.scope.names.lookup x = some .local := by first | exact .inl rfl | exact .inr rfl | assumption) : PG X (.Name x pos) (gName i) := by
  intro pins s σ H v u Q I r h
  exact wpAny_assign_Name (store_ok I hN hi hx r (fun s' I' => ⟨_, H, I', h⟩) hf)
noncomputable def gNil : TGs := fun vs σ H Q => vs = [] ∧ Q σ H
noncomputable def gCons (t : TG) (u : TGs) : TGs := fun vs σ H Q => ∃ v r, vs = v :: r ∧ t v σ H fun σ' H' => u r σ' H' Q
theorem pgs_nil : PGs X [] gNil := by
  intro pins s σ H vs us Q I r h
  obtain ⟨e, h⟩ := h
  subst e
  cases r
  exact assignInOrder_nil ⟨σ, H, I, h⟩
theorem pgs_cons {e : Expr} {es : List Expr} {t : TG} {u : TGs} (h1 : PG X e t) (h2 : PGs X es u)
    (hs : (assignEach (e :: es) X.env).map (·.2) = assign e X.env :: (assignEach es X.env).map (·.2) := by rfl) : PGs X (e :: es) (gCons t u) := by
  intro pins s σ H vs us Q I r h
  obtain ⟨v, vr, e1, h⟩ := h
  subst e1
  cases r with
  | cons r rr =>
    rw [hs]
    refine assignInOrder_cons (thn (h1 pins s σ H _ _ _ I r h) fun _ s1 hq__ => ?_)
    obtain ⟨σ1, H1, I1, q1⟩ := hq__
    exact h2 pins s1 σ1 H1 _ _ Q I1 rr q1
noncomputable def gTup (K : PySem.W.Frag) (n : Nat) (t : TGs) : TG := fun v σ H Q => ∃ a xs, v = .ref a ∧ SqT K H a xs ∧ xs.length = n ∧ t xs σ H Q
theorem pg_tup {es : List Expr} {k : Nat} {t : TGs} {n : Nat} (hc : X.calm = true) (h : PGs X es t)
    (hn : (assignEach es X.env).length = n := by rfl) (hst : (assignEach es X.env).findIdx? (·.1) = none := by rfl) : PG X (.Tuple es k pos) (gTup X.K n t) := by
  intro pins s σ H v u Q I r hw
  obtain ⟨a, xs, e1, hq, hl, hw⟩ := hw
  subst e1
  cases r
  obtain ⟨its, rv, ht, hz⟩ := I.tuple hq
  refine assign_Tuple_tuple (I.ok.hd hc) ht (by simp [hn, ← hl, rv.length]) hst fun h' hx => ?_
  have I1 : Inv X pins σ H { s with heap := h' } := I.kept (t' := s.toks) fun b o e => hx b o (Nat.ne_of_lt (Heap.lt_size e)) e
  exact h pins _ σ H xs _ Q I1 (by simpa using rv) hw
noncomputable def tAsg (te : TE) (g : TG) : TS := fun D σ H => te σ H fun x H1 => g x σ H1 D.nx
theorem ps_set {i : Nat} {x : Str} {e : Expr} {te : TE} {pos' : Pos} (hN : X.N.Nodup) (hi : X.N[i]? = some x) (hx : Loc X.env.scope x) (he : PE X e te) (hs : swapsWith e (some (.Name x pos')) pos.line X.env = pure false := by rfl) (hf : X.fn x = true ∨ X.env.scope.names.lookup x = some .local := by first | exact .inl rfl | exact .inr rfl | assumption) :
    PS X (.Assign [.Name x pos'] e pos) (tAsg te (gName i)) := by
  intro pins s σ H D I h
  refine wpAny_Assign_Name (thn (he pins s σ H _ I h) fun v s1 hq__ => ?_) hs
  obtain ⟨y, H1, I1, r1, q1⟩ := hq__
  exact store_ok I1 hN hi hx r1 (fun s2 I2 => ⟨_, H1, I2, q1⟩) hf
end
section
variable {X : Cx} {pos : Pos}
end
structure It where
  go : Nat → Hp → Prop
  yld : Nat → Hp → V → Hp → Prop
  stop : Nat → Hp → Prop
noncomputable def FpOk (X : Cx) (pins : List (Addr × Obj)) (H : Hp) (b : Addr) : Prop :=
  H b = none ∧ b ≠ X.env.locals ∧ b ∉ X.fs ∧ (b ∈ X.ex ∨ X.s₀.heap.objs.size ≤ b) ∧ (∀ x c, X.env.cells.lookup x = some c → c ≠ b) ∧ ∀ p ∈ X.pn ++ pins, p.1 ≠ b
theorem Inv.fpOk {X : Cx} {pins : List (Addr × Obj)} {σ : St} {H H' : Hp} {s : Shared} {b : Addr} (I : Inv X pins σ H s) (hb : s.heap.objs.size ≤ b) (hn : H' b = none) : FpOk X pins H' b := by
  refine ⟨hn, Nat.ne_of_gt (Nat.lt_of_lt_of_le I.lt hb), I.nofs hb, .inr (Nat.le_trans I.sz hb), fun x c e z => ?_, fun p hp z => ?_⟩
  · obtain ⟨v, q⟩ := I.cell x c e
    exact absurd (Nat.lt_of_lt_of_le q.lt (by rw [z]; exact hb)) (Nat.lt_irrefl _)
  · exact absurd (Nat.lt_of_lt_of_le (Heap.lt_size (I.pin p hp).1) (by rw [z]; exact hb)) (Nat.lt_irrefl _)
structure Turn (P : Program) (w : World) (K : PySem.W.Frag) (tg : Expr) (J : It) (fp : List Addr) (it : Addr) (tn : Nat → Heap → Prop) : Prop where
  mem : it ∈ fp
  obj : ∀ i h, tn i h → ∀ b ∈ fp, ∃ o, h.get? b = some o ∧ ∀ v, o.data ≠ .cell v
  keep : ∀ i h h', tn i h → (∀ b ∈ fp, ∀ o, h.get? b = some o → h'.get? b = some o) → tn i h'
  item : ∀ (X : Cx), X.prog = P → X.w = w → X.K = K → X.calm = true → ∀ (i : Nat) (pins : List (Addr × Obj)) (s : Shared) (σ : St) (H : Hp) (E : Value → Shared → Prop), Inv X pins σ H s → (∀ b ∈ fp, FpOk X pins H b) → tn i s.heap → J.go i H →
    wpAny (model P w) X.A (pyNext (.ref it)) (fun r s1 => ∃ u, r = some u ∧
      wpAny (model P w) X.A (letOwnedTupleGo tg (.ref it) u) (fun _ s2 => ∃ x H', Inv X pins σ H' s2 ∧ RelV x u ∧ J.yld i H x H' ∧ tn (i + 1) s2.heap ∧ ∀ b ∈ fp, H' b = none) E s1) E s
  done : ∀ (X : Cx), X.prog = P → X.w = w → X.K = K → X.calm = true → ∀ (i : Nat) (pins : List (Addr × Obj)) (s : Shared) (σ : St) (H : Hp) (E : Value → Shared → Prop), Inv X pins σ H s → (∀ b ∈ fp, FpOk X pins H b) → tn i s.heap → J.stop i H →
    wpAny (model P w) X.A (pyNext (.ref it)) (fun r s1 => r = none ∧ Inv X pins σ H s1) E s
  self : ∀ (A : Around) (i : Nat) (s : Shared) (Q : Value → Shared → Prop) (E : Value → Shared → Prop), tn i s.heap → Q (.ref it) s → wpAny (model P w) A (pyIter (.ref it)) Q E s
noncomputable abbrev TI := St → Hp → (It → Hp → Prop) → Prop
noncomputable def PIE (X : Cx) (pins : List (Addr × Obj)) (σ : St) (tg : Expr) (R : It → Hp → Prop) (itv : Value) (s2 : Shared) : Prop :=
  ∃ (it : Addr) (fp : List Addr) (tn : Nat → Heap → Prop) (J : It) (H' : Hp), itv = .ref it ∧ Inv X pins σ H' s2 ∧ Turn X.prog X.w X.K tg J fp it tn ∧ tn 0 s2.heap ∧ (∀ b ∈ fp, FpOk X pins H' b) ∧ R J H'
noncomputable def PI (X : Cx) (tg iter : Expr) (wi : TI) : Prop :=
  ∀ (pins : List (Addr × Obj)) (s : Shared) (σ : St) (H : Hp) (R : It → Hp → Prop), Inv X pins σ H s → wi σ H R →
    wpAny (model X.prog X.w) X.A (eval iter X.env) (fun v s1 => wpAny (model X.prog X.w) X.A (pyIter v) (PIE X pins σ tg R) X.xe s1) X.xe s
theorem go_of {M : Model} {A : Around} {E : Value → Shared → Prop} {s : Shared} {tg : Expr} {it : Addr} {u : Value} {o : Obj} {n : String} {vs : Array Value} {Q : Unit → Shared → Prop} (ho : s.heap.get? it = some o) (hc : o.cls = .type n) (hd : o.data = .fields vs)
    (hn : ["enumerate", "zip", "dict_itemiterator", "dict_reverseitemiterator", "odict_iterator", "itertools.zip_longest", "itertools.pairwise"].contains n = false) (hQ : Q () s) : wpAny M A (letOwnedTupleGo tg (.ref it) u) Q E s := by
  unfold letOwnedTupleGo
  cases tg <;> first
    | exact wpAny_pure hQ
    | (cases u <;> first
        | exact wpAny_pure hQ
        | (refine wpAny_bind (wpAny_load ho ?_)
           rw [hc, hd]
           show wpAny M A (if (["enumerate", "zip", "dict_itemiterator", "dict_reverseitemiterator", "odict_iterator", "itertools.zip_longest", "itertools.pairwise"].contains n && vs[0]? == some (rawInt _)) = true then _ else _) Q E s
           rw [if_neg (by intro h; rw [hn, Bool.false_and] at h; cases h)]
           exact wpAny_pure hQ))
noncomputable def Itl (K : PySem.W.Frag) (a : Addr) : It :=
  ⟨fun i H => ∃ xs x, SqL K H a xs ∧ xs[i]? = some x, fun i H x H' => H' = H ∧ ∀ xs, SqL K H a xs → xs[i]? = some x, fun i H => ∃ xs, SqL K H a xs ∧ xs.length ≤ i⟩
noncomputable def Itt (K : PySem.W.Frag) (a : Addr) : It :=
  ⟨fun i H => ∃ xs x, SqT K H a xs ∧ xs[i]? = some x, fun i H x H' => H' = H ∧ ∀ xs, SqT K H a xs → xs[i]? = some x, fun i H => ∃ xs, SqT K H a xs ∧ xs.length ≤ i⟩
noncomputable def Itr (lo : Int) (n : Nat) : It := ⟨fun i _ => i < n, fun i H x H' => H' = H ∧ x = .int (lo + i), fun i _ => n ≤ i⟩
theorem turn_list {P : Program} {w : World} {K : PySem.W.Frag} {tg : Expr} (a it : Addr) : Turn P w K tg (Itl K a) [it] it (fun i h => h.IsListIter it a i) where
  mem := by simp
  obj := fun i h st b hb => by
    have e : b = it := by simpa using hb
    subst e
    obtain ⟨o, e, c, d⟩ := st
    exact ⟨o, e, fun v z => by rw [d] at z; cases z⟩
  keep := fun i h h' st k => st.at fun o e => k it (by simp) o e
  item := by
    intro X hP hw hK hc i pins s σ H E I hf st hg
    subst hP hw hK
    obtain ⟨xs, x, hq, hx⟩ := hg
    obtain ⟨its, rv, p, hz⟩ := I.list hq
    obtain ⟨u, hu, ru⟩ := rv.get hx
    obtain ⟨f0, f1, f2, f3, f4, f5⟩ := hf it (by simp)
    refine wpAny_pyNext_list_item st p.isList (x := u) (by simpa using hu) fun h' st' sb => ?_
    have I1 : Inv X pins σ H { s with heap := h' } := I.turned (t' := s.toks) (fun b o hb e => (sb.2 b hb).trans e) f0 f1 f3 f4 f5
    obtain ⟨o, e, c, d⟩ := id st'
    exact ⟨u, rfl, go_of (s := { s with heap := h' }) e c d (by decide) ⟨x, H, I1, ru, ⟨rfl, fun ys hy => by rw [I.list_inj hy hq]; exact hx⟩, st', fun b hb => (hf b hb).1⟩⟩
  done := by
    intro X hP hw hK hc i pins s σ H E I hf st hg
    subst hP hw hK
    obtain ⟨xs, hq, hx⟩ := hg
    obtain ⟨its, rv, p, hz⟩ := I.list hq
    obtain ⟨f0, f1, f2, f3, f4, f5⟩ := hf it (by simp)
    have hl := rv.length
    exact wpAny_pyNext_list_end (I.ok.hd hc) st p.isList (by simp; omega) fun h' eb => ⟨rfl, I.turned (t' := s.toks) (fun b o hb e => eb b o hb e) f0 f1 f3 f4 f5⟩
  self := fun _ _ _ _ _ st h => wpAny_pyIter_listiter st h
theorem turn_tuple {P : Program} {w : World} {K : PySem.W.Frag} {tg : Expr} (a it : Addr) : Turn P w K tg (Itt K a) [it] it (fun i h => h.IsTupleIter it a i) where
  mem := by simp
  obj := fun i h st b hb => by
    have e : b = it := by simpa using hb
    subst e
    obtain ⟨o, e, c, d⟩ := st
    exact ⟨o, e, fun v z => by rw [d] at z; cases z⟩
  keep := fun i h h' st k => st.at fun o e => k it (by simp) o e
  item := by
    intro X hP hw hK hc i pins s σ H E I hf st hg
    subst hP hw hK
    obtain ⟨xs, x, hq, hx⟩ := hg
    obtain ⟨its, rv, p, hz⟩ := I.tuple hq
    obtain ⟨u, hu, ru⟩ := rv.get hx
    obtain ⟨f0, f1, f2, f3, f4, f5⟩ := hf it (by simp)
    refine wpAny_pyNext_tuple_item st (show s.heap.IsTuple a its.toArray from p) (x := u) (by simpa using hu) fun h' st' sb => ?_
    have I1 : Inv X pins σ H { s with heap := h' } := I.turned (t' := s.toks) (fun b o hb e => (sb.2 b hb).trans e) f0 f1 f3 f4 f5
    obtain ⟨o, e, c, d⟩ := id st'
    exact ⟨u, rfl, go_of (s := { s with heap := h' }) e c d (by decide) ⟨x, H, I1, ru, ⟨rfl, fun ys hy => by rw [I.tuple_inj hy hq]; exact hx⟩, st', fun b hb => (hf b hb).1⟩⟩
  done := by
    intro X hP hw hK hc i pins s σ H E I hf st hg
    subst hP hw hK
    obtain ⟨xs, hq, hx⟩ := hg
    obtain ⟨its, rv, p, hz⟩ := I.tuple hq
    obtain ⟨f0, f1, f2, f3, f4, f5⟩ := hf it (by simp)
    have hl := rv.length
    exact wpAny_pyNext_tuple_end (I.ok.hd hc) st (show s.heap.IsTuple a its.toArray from p) (by simp; omega) fun h' eb => ⟨rfl, I.turned (t' := s.toks) (fun b o hb e => eb b o hb e) f0 f1 f3 f4 f5⟩
  self := fun _ _ _ _ _ st h => wpAny_pyIter_tupleiter st h
theorem turn_range {P : Program} {w : World} {K : PySem.W.Frag} {tg : Expr} (it : Addr) (lo : Int) (n : Nat) : Turn P w K tg (Itr lo n) [it] it (fun i h => IsRangeIter h it (lo + (i : Nat) * 1) ((n : Int) - (i : Nat)) 1) where
  mem := by simp
  obj := fun i h st b hb => by
    have e : b = it := by simpa using hb
    subst e
    exact ⟨_, st, fun v z => by
      have z' : Data.fields _ = Data.cell v := z
      cases z'⟩
  keep := fun i h h' st k => k it (by simp) _ st
  item := by
    intro X hP hw hK hc i pins s σ H E I hf st hg
    subst hP hw hK
    obtain ⟨f0, f1, f2, f3, f4, f5⟩ := hf it (by simp)
    have W := Walks.range (prog := X.prog) (w := X.w) (I.ok.hd hc) it lo 1 n
    refine W.item i s _ _ hg st fun v h' tk hv st' kk => ?_
    obtain ⟨t, rfl⟩ := hv
    have I1 : Inv X pins σ H { s with heap := h', toks := tk } := I.turned (fun b o hb e => kk b o (by simpa using hb) e) f0 f1 f3 f4 f5
    refine ⟨_, rfl, go_of (s := { s with heap := h', toks := tk }) (n := "range_iterator") st' rfl rfl (by decide) ⟨.int (lo + i), H, I1, ⟨t, ?_⟩, ⟨rfl, rfl⟩, st', fun b hb => (hf b hb).1⟩⟩
    rw [Int.mul_one]
  done := by
    intro X hP hw hK hc i pins s σ H E I hf st hg
    subst hP hw hK
    obtain ⟨f0, f1, f2, f3, f4, f5⟩ := hf it (by simp)
    exact wpAny_pyNext_range_end (I.ok.hd hc) st (by have : n ≤ i := hg; omega) fun h' eb => ⟨rfl, I.turned (t' := s.toks) (fun b o hb e => eb b o hb e) f0 f1 f3 f4 f5⟩
  self := fun _ _ _ _ _ st h => wpAny_pyIter_rangeiter st h
end L2
namespace L2
open PySem PySem.Spec PyProof.Rows
section
variable {X : Cx} {tg : Expr}
noncomputable def iList (K : PySem.W.Frag) (tl : TE) : TI := fun σ H R => tl σ H fun x H1 => ∃ a, x = .ref a ∧ (∃ xs, SqL K H1 a xs) ∧ R (Itl K a) H1
theorem pi_list {l : Expr} {tl : TE} (hl : PE X l tl) : PI X tg l (iList X.K tl) := by
  intro pins s σ H R I h
  refine thn (hl pins s σ H _ I h) fun v s1 hq__ => ?_
  obtain ⟨x, H1, I1, r1, q1⟩ := hq__
  obtain ⟨a, e, ⟨xs, hq⟩, q⟩ := q1
  subst e
  cases r1
  obtain ⟨its, rv, p, hz⟩ := I1.list hq
  refine wpAny_pyIter_list p.isList ?_
  refine ⟨s1.heap.objs.size, [s1.heap.objs.size], _, _, H1, rfl, I1.kept (t' := s1.toks) fun b o e => Heap.get?_push_of_some _ e, turn_list a _, ⟨_, Heap.get?_push_size _ rfl, rfl, rfl⟩, fun b hb => ?_, q⟩
  have e : b = s1.heap.objs.size := by simpa using hb
  subst e
  exact I1.fpOk (Nat.le_refl _) (I1.hok.fresh (Nat.le_refl _))
theorem range_it {pins : List (Addr × Obj)} {σ : St} {H : Hp} {s : Shared} {R : It → Hp → Prop} {E : Value → Shared → Prop} {lo hi : Int} {t u v : Tok} {tk : Nat} (I : Inv X pins σ H s) (h1 : -(2 ^ 62) ≤ lo) (h2 : lo < 2 ^ 62) (h3 : -(2 ^ 62) ≤ hi) (h4 : hi < 2 ^ 62)
    (q : R (Itr lo (hi - lo).toNat) H) : wpAny (model X.prog X.w) X.A (pyIter (.ref s.heap.objs.size)) (PIE X pins σ tg R) E { s with heap := s.heap.push { cls := .type "range", data := .fields #[.int lo t, .int hi u, .int 1 v] }, toks := tk } := by
  refine wpAny_pyIter_range (IsRange.new ..) (small_one h1 h2 h3 h4) ?_
  have I1 : Inv X pins σ H { s with heap := s.heap.push { cls := .type "range", data := .fields #[.int lo t, .int hi u, .int 1 v] }, toks := tk } := I.kept fun b o e => Heap.get?_push_of_some _ e
  refine ⟨(s.heap.push { cls := .type "range", data := .fields #[.int lo t, .int hi u, .int 1 v] }).objs.size, [(s.heap.push { cls := .type "range", data := .fields #[.int lo t, .int hi u, .int 1 v] }).objs.size], _, _, H, rfl,
    I1.kept (t' := tk) fun b o e => Heap.get?_push_of_some _ e, turn_range _ lo (hi - lo).toNat, ?_, fun b hb => ?_, q⟩
  · have e1 : lo + ((0 : Nat) : Int) * 1 = lo := by simp
    have e2 : (((hi - lo).toNat : Nat) : Int) - ((0 : Nat) : Int) = Builtin.Range.rangeSize lo hi 1 := by rw [rangeSize_one]; split <;> omega
    show IsRangeIter _ _ (lo + ((0 : Nat) : Int) * 1) ((((hi - lo).toNat : Nat) : Int) - ((0 : Nat) : Int)) 1
    rw [e1, e2]
    exact Heap.get?_push_size _ rfl
  · have e : b = (s.heap.push { cls := .type "range", data := .fields #[.int lo t, .int hi u, .int 1 v] }).objs.size := by simpa using hb
    subst e
    exact I1.fpOk (Nat.le_refl _) (I1.hok.fresh (Nat.le_refl _))
noncomputable def iRng1 (ta : TA) : TI := fun σ H R => ta σ H fun vs H1 => ∃ j : Int, vs = [.int j] ∧ -(2 ^ 62) ≤ j ∧ j < 2 ^ 62 ∧ R (Itr 0 j.toNat) H1
theorem pi_range1 {a : Expr} {ta : TA} {p pos : Pos} (hg : Gl X "range") (hm : X.mg "range" = none) (ha : PA X [a] ta) (hs : starEach [a] X.env = [(false, eval a X.env)] := by rfl) : PI X tg (.Call (.Name "range" p) [a] [] pos) (iRng1 ta) := by
  intro pins s σ H R I h
  refine Call_ (ld_blt I hg hm boot_range (PyProof.Rows.callWith_type1 (thn (ha pos pins s σ H _ I h) fun us s1 hq__ => ?_) hs rfl))
  obtain ⟨vs, H1, I1, r1, q1⟩ := hq__
  obtain ⟨j, e, q1, q2, q⟩ := q1
  subst e
  cases r1 with
  | cons r rr =>
    cases rr
    obtain ⟨t, rfl⟩ := r
    exact call_range_1 (range_it I1 (by omega) (by omega) q1 q2 (by simpa using q))
noncomputable def tFor (wi : TI) (g : TG) (tb : TS) : TS := fun D σ H => wi σ H fun J H1 => ∃ W : Nat → Nat → St → Hp → Prop, (∃ m, W 0 m σ H1) ∧ ∀ i m σ H, W i m σ H →
  (J.stop i H ∧ D.nx σ H) ∨ (J.go i H ∧ ∃ N : St → Hp → Prop, (∀ σ' H', N σ' H' → ∃ m', m' < m ∧ W (i + 1) m' σ' H') ∧ ∀ x H', J.yld i H x H' → g x σ H' fun σ2 H2 => tb { D with nx := N, ct := N, bk := D.nx } σ2 H2)
noncomputable def pinsAt (fp : List Addr) (h : Heap) : List (Addr × Obj) := fp.filterMap fun b => (h.get? b).map fun o => (b, o)
theorem mem_pinsAt {fp : List Addr} {h : Heap} {b : Addr} {o : Obj} (hb : b ∈ fp) (e : h.get? b = some o) : (b, o) ∈ pinsAt fp h := List.mem_filterMap.mpr ⟨b, hb, by rw [e]; rfl⟩
theorem of_pinsAt {fp : List Addr} {h : Heap} {p : Addr × Obj} (hp : p ∈ pinsAt fp h) : p.1 ∈ fp ∧ h.get? p.1 = some p.2 := by
  obtain ⟨b, hb, e⟩ := List.mem_filterMap.mp hp
  cases q : h.get? b with
  | none => rw [q] at e; cases e
  | some o =>
    rw [q] at e
    have e' : (b, o) = p := Option.some.inj e
    subst e'
    exact ⟨hb, q⟩
theorem Inv.pinned {pins : List (Addr × Obj)} {σ : St} {H : Hp} {s : Shared} {fp : List Addr} (I : Inv X pins σ H s) (hf : ∀ b ∈ fp, FpOk X pins H b) (ho : ∀ b ∈ fp, ∃ o, s.heap.get? b = some o ∧ ∀ v, o.data ≠ .cell v) : Inv X (pins ++ pinsAt fp s.heap) σ H s :=
  I.pins_of fun p hp => (List.mem_append.mp hp).elim (fun z => I.pin p (List.mem_append_right _ z)) fun z => by
    obtain ⟨hb, e⟩ := of_pinsAt z
    obtain ⟨f0, f1, f2, _⟩ := hf p.1 hb
    obtain ⟨o, e', d⟩ := ho p.1 hb
    rw [e] at e'; cases e'
    exact ⟨e, f0, f1, f2, d⟩
theorem Inv.unpinned {pins pl : List (Addr × Obj)} {σ : St} {H : Hp} {s : Shared} (I : Inv X (pins ++ pl) σ H s) : Inv X pins σ H s := I.pins_of fun p hp => I.pin p (List.mem_append_right _ (List.mem_append_left _ hp))
theorem ps_for {iter : Expr} {body : List Stmt} {wi : TI} {g : TG} {tb : TS} {pos : Pos} (hp : PassesOwn (model X.prog X.w) X.A X.env X.xe) (hc : X.calm = true) (hi : PI X tg iter wi) (hg : PG X tg g) (hb : PSs X body tb)
    (hs : ∀ x, foldedSetIterable iter X.env x = pure x := by intro _; rfl) : PS X (.For tg iter body [] pos) (tFor wi g tb) := by
  intro pins s σ H D I h
  refine wpAny_For (thn (hi pins s σ H _ I h) fun v s1 h1 => thn h1 fun itv s2 h2 => ?_) hs
  obtain ⟨it, fp, tn, J, H2, e, I2, T, st2, f2, W, ⟨m0, w0⟩, turn⟩ := h2
  subst e
  have stat : ∀ {H' : Hp}, (∀ b ∈ fp, H' b = none) → ∀ b ∈ fp, FpOk X pins H' b := fun hn b hb => ⟨hn b hb, (f2 b hb).2⟩
  refine codeAny_forLoop_any (fun n s' => ∃ i σ' H', Inv X pins σ' H' s' ∧ tn i s'.heap ∧ (∀ b ∈ fp, H' b = none) ∧ W i n σ' H') ?_ m0 ⟨0, σ, H2, I2, st2, fun b hb => (f2 b hb).1, w0⟩
  rintro n s3 ⟨i, σ3, H3, I3, st3, fr3, w3⟩
  rcases turn i n σ3 H3 w3 with ⟨stop, qn⟩ | ⟨go, N, hN, step⟩
  · refine wpAny_passesOwn hp (thn (T.done X rfl rfl rfl hc i pins s3 σ3 H3 X.xe I3 (stat fr3) st3 stop) fun r s4 hq__ => ?_)
    obtain ⟨hr, I4⟩ := hq__
    subst hr
    exact wpAny_execs_nil ⟨σ3, H3, I4, qn⟩
  · refine wpAny_passesOwn hp (thn (T.item X rfl rfl rfl hc i pins s3 σ3 H3 X.xe I3 (stat fr3) st3 go) fun r s4 hq__ => ?_)
    obtain ⟨u, hr, h4⟩ := hq__
    subst hr
    refine wpAny_passesOwn hp (thn h4 fun _ s5 hq__ => ?_)
    obtain ⟨x, H5, I5, r5, y5, st5, fr5⟩ := hq__
    have I5' := I5.pinned (stat fr5) (T.obj _ _ st5)
    refine wpAny_passesOwn hp (thn (hg _ s5 σ3 H5 x u _ I5' r5 (step x H5 y5)) fun _ s6 hq__ => ?_)
    obtain ⟨σ6, H6, I6, q6⟩ := hq__
    refine wpAny_passesOwn hp (thn (hb _ s6 σ6 H6 _ I6 q6) fun f s7 q7 => ?_)
    have again : ∀ {σ7 : St} {H7 : Hp}, Inv X (pins ++ pinsAt fp s5.heap) σ7 H7 s7 → N σ7 H7 → ∃ m, m < n ∧ ∃ i σ' H', Inv X pins σ' H' s7 ∧ tn i s7.heap ∧ (∀ b ∈ fp, H' b = none) ∧ W i m σ' H' := fun {σ7 H7} I7 n7 => by
      obtain ⟨m', hm, w7⟩ := hN σ7 H7 n7
      refine ⟨m', hm, i + 1, σ7, H7, I7.unpinned, T.keep _ _ _ st5 fun b hb o e => (I7.pin (b, o) (List.mem_append_right _ (List.mem_append_right _ (mem_pinsAt hb e)))).1, fun b hb => ?_, w7⟩
      obtain ⟨o, e, d⟩ := T.obj _ _ st5 b hb
      exact (I7.pin (b, o) (List.mem_append_right _ (List.mem_append_right _ (mem_pinsAt hb e)))).2.1
    cases f with
    | next => obtain ⟨σ7, H7, I7, n7⟩ := q7; exact again I7 n7
    | cont => obtain ⟨σ7, H7, I7, n7⟩ := q7; exact again I7 n7
    | brk => obtain ⟨σ7, H7, I7, q7⟩ := q7; exact ⟨σ7, H7, I7.unpinned, q7⟩
    | ret v => obtain ⟨x7, σ7, H7, I7, r7, q7⟩ := q7; exact ⟨x7, σ7, H7, I7.unpinned, r7, q7⟩
end
end L2
namespace L2
open PySem PySem.Spec PyProof.Rows
noncomputable abbrev R2 := V → V → Hp → VK → Prop
noncomputable def OpR (X : Cx) (f : Value → Value → Sem Value) (r : R2) : Prop :=
  ∀ (pins : List (Addr × Obj)) (s : Shared) (σ : St) (H : Hp) (x y : V) (v u : Value) (Q : VK), Inv X pins σ H s → RelV x v → RelV y u → r x y H Q →
    wpAny (model X.prog X.w) X.A (f v u) (EP X pins σ Q) X.xe s
noncomputable def UnR (X : Cx) (f : Value → Sem Value) (r : V → Hp → VK → Prop) : Prop :=
  ∀ (pins : List (Addr × Obj)) (s : Shared) (σ : St) (H : Hp) (x : V) (v : Value) (Q : VK), Inv X pins σ H s → RelV x v → r x H Q →
    wpAny (model X.prog X.w) X.A (f v) (EP X pins σ Q) X.xe s
noncomputable def CallR (X : Cx) (f : Value) (r : List V → Hp → VK → Prop) : Prop :=
  ∀ (pins : List (Addr × Obj)) (s : Shared) (σ : St) (H : Hp) (xs : List V) (us : List Value) (Q : VK), Inv X pins σ H s → Vals xs us → r xs H Q →
    wpAny (model X.prog X.w) X.A (call f us) (EP X pins σ Q) X.xe s
noncomputable def TruR (X : Cx) (r : V → Hp → (Bool → Hp → Prop) → Prop) : Prop :=
  ∀ (pins : List (Addr × Obj)) (s : Shared) (σ : St) (H : Hp) (x : V) (v : Value) (Q : Bool → Hp → Prop), Inv X pins σ H s → RelV x v → r x H Q →
    wpAny (model X.prog X.w) X.A (truthy v) (TP X pins σ Q) X.xe s
noncomputable def tOp (r : R2) (ta tb : TE) : TE := fun σ H Q => ta σ H fun x H1 => tb σ H1 fun y H2 => r x y H2 Q
noncomputable def tUn (r : V → Hp → VK → Prop) (ta : TE) : TE := fun σ H Q => ta σ H fun x H1 => r x H1 Q
noncomputable def rI (C : Int → Int → Prop) (g : Int → Int → V) : R2 := fun x y H Q => ∃ i j, x = .int i ∧ y = .int j ∧ C i j ∧ Q (g i j) H
noncomputable def rI0 (g : Int → Int → V) : R2 := fun x y H Q => ∃ i j, x = .int i ∧ y = .int j ∧ Q (g i j) H
noncomputable def rU (g : Int → V) : V → Hp → VK → Prop := fun x H Q => ∃ i, x = .int i ∧ Q (g i) H
section
variable {X : Cx} {a b c : Expr} {ta tb tc : TE} {pos : Pos}
theorem binT (ha : PE X a ta) (hb : PE X b tb) {pins : List (Addr × Obj)} {s : Shared} {σ : St} {H : Hp} {R : V → V → Hp → Prop} (I : Inv X pins σ H s)
    (h : ta σ H fun x H1 => tb σ H1 fun y H2 => R x y H2) {Q : Value → Shared → Prop} {f : Value → Value → Sem Value}
    (hf : ∀ v u s2 x y H2, Inv X pins σ H2 s2 → RelV x v → RelV y u → R x y H2 → wpAny (model X.prog X.w) X.A (f v u) Q X.xe s2) :
    wpAny (model X.prog X.w) X.A (eval a X.env) (fun v s₁ => wpAny (model X.prog X.w) X.A (eval b X.env) (fun u s₂ => wpAny (model X.prog X.w) X.A (f v u) Q X.xe s₂) X.xe s₁) X.xe s := by
  refine thn (ha pins s σ H _ I h) fun v s1 hq__ => ?_
  obtain ⟨x, H1, I1, r1, q1⟩ := hq__
  refine thn (hb pins s1 σ H1 _ I1 q1) fun u s2 hq__ => ?_
  obtain ⟨y, H2, I2, r2, q2⟩ := hq__
  exact hf v u s2 x y H2 I2 r1 r2 q2
theorem pe_op {op : Operator} {r : R2} (ho : OpR X (binaryOp op) r) (ha : PE X a ta) (hb : PE X b tb) : PE X (.BinOp a op b pos) (tOp r ta tb) := by
  intro pins s σ H Q I h
  exact wpAny_BinOp (binT ha hb I h fun v u s2 x y H2 I2 rx ry q => ho pins s2 σ H2 x y v u Q I2 rx ry q)
theorem pe_un {op : UnaryOp} {r : V → Hp → VK → Prop} (ho : UnR X (unaryOp op) r) (ha : PE X a ta) : PE X (.UnaryOp op a pos) (tUn r ta) := by
  intro pins s σ H Q I h
  exact UnaryOp_ (thn (ha pins s σ H _ I h) fun v s1 ⟨x, H1, I1, r1, q1⟩ => ho pins s1 σ H1 x v Q I1 r1 q1)
theorem opI {f : Value → Value → Sem Value} {C : Int → Int → Prop} {g : Int → Int → Int}
    (rule : ∀ (i j : Int) (t u : Tok) (s : Shared) (Q : Value → Shared → Prop) (E : Value → Shared → Prop), C i j → Q (.int (g i j) s.toks) { s with toks := s.toks + 1 } → wpAny (model X.prog X.w) X.A (f (.int i t) (.int j u)) Q E s) :
    OpR X f (rI C fun i j => .int (g i j)) := by
  intro pins s σ H x y v u Q I rx ry h
  obtain ⟨i, j, rfl, rfl, hc, q⟩ := h
  obtain ⟨t, rfl⟩ := rx
  obtain ⟨t', rfl⟩ := ry
  exact rule i j t t' s _ _ hc ⟨.int (g i j), H, I.tok _, ⟨_, rfl⟩, q⟩
theorem opI0 {f : Value → Value → Sem Value} {g : Int → Int → Int}
    (rule : ∀ (i j : Int) (t u : Tok) (s : Shared) (Q : Value → Shared → Prop) (E : Value → Shared → Prop), Q (.int (g i j) s.toks) { s with toks := s.toks + 1 } → wpAny (model X.prog X.w) X.A (f (.int i t) (.int j u)) Q E s) :
    OpR X f (rI0 fun i j => .int (g i j)) := by
  intro pins s σ H x y v u Q I rx ry h
  obtain ⟨i, j, rfl, rfl, q⟩ := h
  obtain ⟨t, rfl⟩ := rx
  obtain ⟨t', rfl⟩ := ry
  exact rule i j t t' s _ _ ⟨.int (g i j), H, I.tok _, ⟨_, rfl⟩, q⟩
theorem opB0 {f : Value → Value → Sem Value} {g : Int → Int → Bool}
    (rule : ∀ (i j : Int) (t u : Tok) (s : Shared) (Q : Value → Shared → Prop) (E : Value → Shared → Prop), Q (.bool (g i j)) s → wpAny (model X.prog X.w) X.A (f (.int i t) (.int j u)) Q E s) :
    OpR X f (rI0 fun i j => .bl (g i j)) := by
  intro pins s σ H x y v u Q I rx ry h
  obtain ⟨i, j, rfl, rfl, q⟩ := h
  obtain ⟨t, rfl⟩ := rx
  obtain ⟨t', rfl⟩ := ry
  exact rule i j t t' s _ _ ⟨.bl (g i j), H, I, rfl, q⟩
noncomputable def CDiv (i j : Int) : Prop := 0 < j ∧ j < 1073741824
noncomputable def CPow (i j : Int) : Prop := 0 ≤ j ∧ j ≤ 1000000 ∧ i.natAbs < 2 ^ 64
noncomputable def CMul (i j : Int) : Prop := (-(2 ^ 64) < i ∧ i < 2 ^ 64) ∨ (-(2 ^ 64) < j ∧ j < 2 ^ 64)
theorem CMul.ok {i j : Int} (h : CMul i j) : IntMulOk i j := by
  rcases h with ⟨h1, h2⟩ | ⟨h1, h2⟩
  · exact .of_left (intBits_le_64 h1 h2)
  · exact .of_right (intBits_le_64 h1 h2)
theorem two_pow_nn (k : Nat) : (0 : Int) ≤ 2 ^ k := by
  rw [two_pow_cast]
  exact Int.natCast_nonneg _
theorem op_add : OpR X (binaryOp .Add) (rI0 fun i j => .int (i + j)) := opI0 fun _ _ _ _ _ _ _ q => add_int q
theorem op_sub : OpR X (binaryOp .Sub) (rI0 fun i j => .int (i - j)) := opI0 fun _ _ _ _ _ _ _ q => sub_int q
theorem op_mul : OpR X (binaryOp .Mult) (rI CMul fun i j => .int (i * j)) := opI fun _ _ _ _ _ _ _ hc q => mul_int q hc.ok
theorem op_fdiv : OpR X (binaryOp .FloorDiv) (rI CDiv fun i j => .int (i / j)) := opI fun i j _ _ _ _ _ hc q => by
  have h1 : (0 : Int) < j := hc.1
  have h2 : j < 1073741824 := hc.2
  exact floordiv_int (by omega) (by rw [Int.fdiv_eq_ediv_of_nonneg i (by omega)]; exact q) (.inl (PyProof.noPylong_small (by omega)))
theorem op_mod : OpR X (binaryOp .Mod) (rI (fun _ j => 0 < j) fun i j => .int (i % j)) := opI fun i j _ _ _ _ _ hc q => by
  have h1 : (0 : Int) < j := hc
  exact mod_int' (by omega) (by rw [Int.fmod_eq_emod_of_nonneg i (by omega)]; exact q)
theorem op_shl : OpR X (binaryOp .LShift) (rI CPow fun i j => .int (i * 2 ^ j.toNat)) := opI fun _ _ _ _ _ _ _ hc q => lshift_int_small hc.1 hc.2.1 hc.2.2 q
theorem op_shr : OpR X (binaryOp .RShift) (rI (fun _ j => 0 ≤ j) fun i j => .int (i / 2 ^ j.toNat)) := opI fun i j _ _ _ _ _ hc q =>
  rshift_int hc (by rw [Int.fdiv_eq_ediv_of_nonneg i (two_pow_nn _)]; exact q)
theorem op_and : OpR X (binaryOp .BitAnd) (rI0 fun i j => .int (Builtin.bitAnd i j)) := opI0 fun _ _ _ _ _ _ _ q => and_int q
theorem op_or : OpR X (binaryOp .BitOr) (rI0 fun i j => .int (Builtin.bitOr i j)) := opI0 fun _ _ _ _ _ _ _ q => or_int q
theorem unI {f : Value → Sem Value} {g : Int → Int}
    (rule : ∀ (i : Int) (t : Tok) (s : Shared) (Q : Value → Shared → Prop) (E : Value → Shared → Prop), Q (.int (g i) s.toks) { s with toks := s.toks + 1 } → wpAny (model X.prog X.w) X.A (f (.int i t)) Q E s) :
    UnR X f (rU fun i => .int (g i)) := by
  intro pins s σ H x v Q I rx h
  obtain ⟨i, rfl, q⟩ := h
  obtain ⟨t, rfl⟩ := rx
  exact rule i t s _ _ ⟨.int (g i), H, I.tok _, ⟨_, rfl⟩, q⟩
theorem un_inv : UnR X (unaryOp .Invert) (rU fun i => .int (Builtin.bitNot i)) := unI fun _ _ _ _ _ q => invert_int q
theorem op_add_ib : OpR X (binaryOp .Add) (fun x y H Q => ∃ i k, x = .int i ∧ y = .bl k ∧ Q (.int (i + b2i k)) H) := by
  intro pins s σ H x y v u Q I rx ry h
  obtain ⟨i, k, rfl, rfl, q⟩ := h
  obtain ⟨t, rfl⟩ := rx
  cases ry
  exact add_int_bool ⟨.int (i + b2i k), H, I.tok _, ⟨_, rfl⟩, q⟩
end
noncomputable def scal : V → V → Bool
  | .non, .non => true | .non, .int _ => true | .int _, .non => true | .non, .bl _ => true | .bl _, .non => true | .non, .str _ => true | .str _, .non => true
  | .int _, .int _ => true | .bl _, .bl _ => true | .str _, .str _ => true | .byt _, .byt _ => true
  | .int _, .str _ => true | .str _, .int _ => true | .bl _, .str _ => true | .str _, .bl _ => true
  | _, _ => false
noncomputable def rEq : R2 := fun x y H Q => scal x y = true ∧ Q (.bl (decide (x = y))) H
theorem dec_int {i j : Int} : decide (V.int i = V.int j) = (i == j) := by
  rw [Bool.eq_iff_iff]
  simp
theorem dec_bl {i j : Bool} : decide (V.bl i = V.bl j) = (i == j) := by
  rw [Bool.eq_iff_iff]
  simp
theorem dec_str {i j : Str} : decide (V.str i = V.str j) = (i == j) := by
  rw [Bool.eq_iff_iff]
  simp
theorem dec_byt {i j : Array UInt8} : decide (V.byt i = V.byt j) = (i.toList == j.toList) := by
  rw [Bool.eq_iff_iff]
  cases i
  cases j
  simp
section
variable {X : Cx} {a b c : Expr} {ta tb tc : TE} {pos : Pos}
theorem fin_bl {pins : List (Addr × Obj)} {σ : St} {H : Hp} {s : Shared} {Q : VK} {k k' : Bool} (I : Inv X pins σ H s) (q : Q (.bl k) H) (e : k = k') : EP X pins σ Q (.bool k') s := by
  subst e
  exact ⟨.bl k, H, I, rfl, q⟩
theorem op_eq : OpR X (compareOp .Eq) rEq := by
  intro pins s σ H x y v u Q I rx ry h
  obtain ⟨hs, q⟩ := h
  cases x with
  | non =>
    cases rx
    cases y with
    | non => cases ry; exact PySem.EqNone.eq_none_none (fin_bl I q (by simp))
    | bl j => cases ry; exact PySem.EqNone.eq_none_bool (fin_bl I q (by simp))
    | int j => obtain ⟨t', rfl⟩ := ry; exact PySem.EqNone.eq_none_int (fin_bl I q (by simp))
    | str j => obtain ⟨t', rfl⟩ := ry; exact PySem.EqNone.eq_none_str (fin_bl I q (by simp))
    | _ => exact absurd (show false = true from hs) Bool.false_ne_true
  | bl i =>
    cases rx
    cases y with
    | non => cases ry; exact PySem.EqNone.eq_bool_none (fin_bl I q (by simp))
    | bl j => cases ry; exact eq_bool (fin_bl I q dec_bl)
    | str j => obtain ⟨t', rfl⟩ := ry; exact PySem.EqMixed.eq_bool_str (fin_bl I q (by simp))
    | _ => exact absurd (show false = true from hs) Bool.false_ne_true
  | int i =>
    obtain ⟨t, rfl⟩ := rx
    cases y with
    | non => cases ry; exact PySem.EqNone.eq_int_none (fin_bl I q (by simp))
    | int j => obtain ⟨t', rfl⟩ := ry; exact eq_int (fin_bl I q dec_int)
    | str j => obtain ⟨t', rfl⟩ := ry; exact PySem.EqMixed.eq_int_str (fin_bl I q (by simp))
    | _ => exact absurd (show false = true from hs) Bool.false_ne_true
  | str i =>
    obtain ⟨t, rfl⟩ := rx
    cases y with
    | non => cases ry; exact PySem.EqNone.eq_str_none (fin_bl I q (by simp))
    | bl j => cases ry; exact PySem.EqMixed.eq_str_bool (fin_bl I q (by simp))
    | int j => obtain ⟨t', rfl⟩ := ry; exact PySem.EqMixed.eq_str_int (fin_bl I q (by simp))
    | str j => obtain ⟨t', rfl⟩ := ry; exact eq_str (fin_bl I q dec_str)
    | _ => exact absurd (show false = true from hs) Bool.false_ne_true
  | byt i =>
    obtain ⟨t, rfl⟩ := rx
    cases y with
    | byt j => obtain ⟨t', rfl⟩ := ry; exact PySem.W.eq_bytes (fin_bl I q dec_byt)
    | _ => exact absurd (show false = true from hs) Bool.false_ne_true
  | _ => cases y <;> exact absurd (show false = true from hs) Bool.false_ne_true
theorem op_lt : OpR X (compareOp .Lt) (rI0 fun i j => .bl (decide (i < j))) := opB0 fun _ _ _ _ _ _ _ q => lt_int q
theorem op_gt : OpR X (compareOp .Gt) (rI0 fun i j => .bl (decide (j < i))) := opB0 fun _ _ _ _ _ _ _ q => gt_int q
theorem op_isN : OpR X (compareOp .Is) (fun x y H Q => y = .non ∧ Q (.bl (decide (x = .non))) H) := by
  intro pins s σ H x y v u Q I rx ry h
  obtain ⟨rfl, q⟩ := h
  cases ry
  refine is_none_gen (fin_bl I q ?_)
  cases x <;> first
    | (cases rx; rfl)
    | (obtain ⟨t, rfl⟩ := rx; rfl)
theorem op_notN : OpR X (compareOp .IsNot) (fun x y H Q => y = .non ∧ Q (.bl (!decide (x = .non))) H) := by
  intro pins s σ H x y v u Q I rx ry h
  obtain ⟨rfl, q⟩ := h
  cases ry
  refine isnot_none_gen (fin_bl I q ?_)
  cases x <;> first
    | (cases rx; rfl)
    | (obtain ⟨t, rfl⟩ := rx; rfl)
theorem nomark (b : Expr) {op : CmpOp} (h : op ≠ .In := by decide) (h2 : op ≠ .NotIn := by decide) : behindInMarks op b = false := by
  have e1 : (op == CmpOp.In) = false := by cases op <;> first | rfl | exact absurd rfl h
  have e2 : (op == CmpOp.NotIn) = false := by cases op <;> first | rfl | exact absurd rfl h2
  cases b <;> simp [behindInMarks, e1, e2]
theorem pe_cmpR {op : CmpOp} {r : R2} (ho : OpR X (compareOp op) r) (ha : PE X a ta) (hb : PE X b tb) (hm : behindInMarks op b = false) : PE X (.Compare a [op] [b] pos) (tOp r ta tb) := by
  intro pins s σ H Q I h
  exact wpAny_Compare1 (binT ha hb I h fun v u s2 x y H2 I2 rx ry q => ho pins s2 σ H2 x y v u Q I2 rx ry q) hm
noncomputable def tTest (t : TE) : TT := fun σ H Q => t σ H fun x H' => ∃ k, x = .bl k ∧ Q k H'
theorem pt_cmpR {op : CmpOp} {r : R2} (ho : OpR X (compareOp op) r) (ha : PE X a ta) (hb : PE X b tb) (hm : behindInMarks op b = false) : PT X (.Compare a [op] [b] pos) (tTest (tOp r ta tb)) := by
  intro pins s σ H Q I h
  refine wpAny_isTrue_Compare1 (thn (ha pins s σ H _ I h) fun v s1 ⟨x, H1, I1, r1, q1⟩ => thn (hb pins s1 σ H1 _ I1 q1) fun u s2 ⟨y, H2, I2, r2, q2⟩ =>
    thn (ho pins s2 σ H2 x y v u _ I2 r1 r2 q2) fun c s3 ⟨z, H3, I3, r3, k, e, q3⟩ => ?_) hm
  subst e
  cases r3
  exact wpAny_truthy_bool ⟨H3, I3, q3⟩
noncomputable def TruV (K : PySem.W.Frag) (x : V) (H : Hp) (k : Bool) : Prop :=
  match x with
  | .non => k = false
  | .bl b => k = b
  | .int i => k = (i != 0)
  | .str y => y.length ≤ sizeLine ∧ k = ((y.length : Int) != 0)
  | .byt y => y.size ≤ sizeLine ∧ k = ((y.size : Int) != 0)
  | .ref p => (∃ xs, SqL K H p xs ∧ k = !xs.isEmpty) ∨ (∃ xs, SqT K H p xs ∧ k = !xs.isEmpty) ∨ ∃ kvs, H p = some (.dK kvs) ∧ k = !kvs.isEmpty
  | _ => False
theorem isEmpty_kv {κ : Type} {kvs : List (κ × V)} {vs : List (κ × Value)} (r : KV kvs vs) : (!vs.isEmpty) = !kvs.isEmpty := by
  cases r <;> rfl
theorem isEmpty_of {xs : List V} {its : List Value} (r : Vals xs its) : (!its.toArray.isEmpty) = !xs.isEmpty := by
  cases r <;> simp
theorem line63 : (sizeLine : Nat) < 2 ^ 63 := by rw [sizeLine_eq]; decide
theorem tru_ok : TruR X (fun x H Q => ∃ k, TruV X.K x H k ∧ Q k H) := by
  intro pins s σ H x v Q I rx h
  obtain ⟨k, e, q⟩ := h
  have hl := line63
  have hs : sizeLine = 16777216 := sizeLine_eq
  cases x with
  | non =>
    cases rx
    have e' : k = false := e
    subst e'
    exact truthy_none ⟨H, I, q⟩
  | bl b =>
    cases rx
    have e' : k = b := e
    subst e'
    exact wpAny_truthy_bool ⟨H, I, q⟩
  | int i =>
    obtain ⟨t, rfl⟩ := rx
    have e' : k = (i != 0) := e
    subst e'
    exact PySem.P.truthy_int ⟨H, I, q⟩
  | str y =>
    obtain ⟨t, rfl⟩ := rx
    obtain ⟨hy, e'⟩ : y.length ≤ sizeLine ∧ k = ((y.length : Int) != 0) := e
    subst e'
    exact PySem.P.truthy_str (by omega) ⟨H, I.tok _, q⟩
  | byt y =>
    obtain ⟨t, rfl⟩ := rx
    obtain ⟨hy, e'⟩ : y.size ≤ sizeLine ∧ k = ((y.size : Int) != 0) := e
    subst e'
    exact PySem.W.truthy_bytes (by omega) ⟨H, I.tok _, q⟩
  | ref p =>
    cases rx
    have e' : (∃ xs, SqL X.K H p xs ∧ k = !xs.isEmpty) ∨ (∃ xs, SqT X.K H p xs ∧ k = !xs.isEmpty) ∨ ∃ kvs, H p = some (.dK kvs) ∧ k = !kvs.isEmpty := e
    rcases e' with ⟨xs, hx, e'⟩ | ⟨xs, hx, e'⟩ | ⟨kvs, hx, e'⟩
    · subst e'
      obtain ⟨its, r, pl, hz⟩ := I.list hx
      have hlen := r.length
      exact wpAny_truthy_list pl.isList (by simp only [List.size_toArray]; omega) ⟨H, I.tok _, by rw [isEmpty_of r]; exact q⟩
    · subst e'
      obtain ⟨its, r, pl, hz⟩ := I.tuple hx
      have hlen := r.length
      exact truthy_tuple pl (by simp only [List.size_toArray]; omega) ⟨H, I.tok _, by rw [isEmpty_of r]; exact q⟩
    · subst e'
      obtain ⟨hz, hS, vs, r, m⟩ : kvs.length ≤ sizeLine ∧ (p == sysModules) = false ∧ ∃ vs, KV kvs vs ∧ s.heap.DictOf (mixKind X.prog X.w) p vs := I.hok p _ hx
      have hlen : kvs.length = vs.length := Paired.length r
      exact wpAny_truthy_dict hS m (by omega) ⟨H, I.tok _, by rw [isEmpty_kv r]; exact q⟩
  | _ => exact (show False from e).elim
theorem pt_truth (ha : PE X a ta) (he : ∀ whole, isTrue a X.env whole = (do let v ← whole; standAt a.pos; holding [v] (truthy v))) :
    PT X a (fun σ H Q => ta σ H fun x H' => ∃ k, TruV X.K x H' k ∧ Q k H') := by
  intro pins s σ H Q I h
  exact isTrue_plain (thn (ha pins s σ H _ I h) fun v s1 ⟨x, H1, I1, r1, q1⟩ => tru_ok pins s1 σ H1 x v Q I1 r1 q1) (he _)
theorem op_add_str : OpR X (binaryOp .Add) (fun x y H Q => ∃ i j, x = .str i ∧ y = .str j ∧ i.length + j.length ≤ sizeLine ∧ Q (.str (i ++ j)) H) := by
  intro pins s σ H x y v u Q I rx ry h
  obtain ⟨i, j, rfl, rfl, hz, q⟩ := h
  obtain ⟨t, rfl⟩ := rx
  obtain ⟨t', rfl⟩ := ry
  exact add_str (fun t' tk => ⟨.str (i ++ j), H, I.tok _, ⟨_, rfl⟩, q⟩) hz
theorem vals1 {x : V} {us : List Value} (r : Vals [x] us) : ∃ u, us = [u] ∧ RelV x u := by
  cases r with
  | cons r1 r2 => cases r2; exact ⟨_, rfl, r1⟩
end
end L2
namespace L2
open PySem PySem.Spec PyProof.Rows
section
variable {prog : Program} {w : World} {A : Around} {E : Value → Shared → Prop} {s : Shared} {K : PySem.W.Frag} {x dx C f : Addr} {mA : Str → Option Value} {name : Str} {v : Value}
end
theorem RelO.some_of {v : V} {o : Option Value} (r : RelO (some v) o) : ∃ u, o = some u ∧ RelV v u := by
  cases o with
  | none => exact (show False from r).elim
  | some u => exact ⟨u, rfl, r⟩
section
variable {P : Program} {w : World} {H H' : Hp} {h h' : Heap} {a C dx : Addr} {fs fs' : List (Str × V)}
end
section
variable {X : Cx} {pins : List (Addr × Obj)} {σ : St} {H : Hp} {s : Shared} {a C dx : Addr} {fs : List (Str × V)} {f : Str} {v : V} {A : Around} {E : Value → Shared → Prop}
end
section
variable {X : Cx} {o e value : Expr} {f : Str} {pos pos' tpos : Pos} {ta tv : TE}
end
section
variable {X : Cx} {pins : List (Addr × Obj)} {σ : St} {H : Hp} {s : Shared} {A : Around} {E : Value → Shared → Prop} {Q : Value → Shared → Prop} {c : Value} {b : Bool}
end
end L2
namespace L2
open PySem PySem.Spec PyProof.Rows
structure Room (k : Nat) (A : Around) : Prop where
  hd : A.handled = none
  dp : A.depth + 3 * k + 5 < recursionLimit
  un : A.units + 16 * k + 200 < cLine
  gd : A.guards = some []
theorem Room.mono {j k : Nat} {A : Around} (r : Room k A) (h : j ≤ k) : Room j A := ⟨r.hd, by have := r.dp; omega, by have := r.un; omega, r.gd⟩
theorem Room.deeper {k : Nat} {A : Around} (r : Room (k + 1) A) (env : Env) : Room k (A.deeper env) :=
  ⟨r.hd, by have := r.dp; show A.depth + 1 + 3 * k + 5 < _; omega, by have := r.un; show A.units + 3 + 16 * k + 200 < _; omega, r.gd⟩
theorem Room.depth {k : Nat} {A : Around} (r : Room k A) : A.depth < recursionLimit := by have := r.dp; omega
theorem Room.units {k : Nat} {A : Around} (r : Room k A) : A.units + 64 < cLine := by have := r.un; omega
noncomputable def tNil : TA := fun _ H Q => Q [] H
noncomputable def tCons (ta : TE) (tr : TA) : TA := fun σ H Q => ta σ H fun x H1 => tr σ H1 fun xs H2 => Q (x :: xs) H2
section
variable {X : Cx} {e : Expr} {es : List Expr} {te : TE} {t : TA} {pos : Pos}
theorem pa_nil : PA X [] tNil := fun _ _ _ _ H Q I h => Calls.spliced_nil ⟨[], H, I, .nil, h⟩
theorem pa_cons (ha : PE X e te) (hr : PA X es t) (hs : starEach (e :: es) X.env = (false, eval e X.env) :: starEach es X.env := by rfl) : PA X (e :: es) (tCons te t) := by
  intro pos pins s σ H Q I h
  rw [hs]
  show wpAny _ _ (spliced ((false, eval e X.env) :: backTo pos (starEach es X.env))) _ _ s
  refine Calls.spliced_cons (thn (ha pins s σ H _ I h) fun u s1 hq__ => ?_)
  obtain ⟨x, H1, I1, r1, q1⟩ := hq__
  exact thn (hr pos pins s1 σ H1 _ I1 q1) fun us s2 ⟨xs, H2, I2, r2, q2⟩ => ⟨x :: xs, H2, I2, .cons r1 r2, q2⟩
noncomputable def tTup (t : TA) : TE := fun σ H Q => t σ H fun xs H1 => xs.length ≤ sizeLine ∧ ∀ p, H1 p = none → Q (.ref p) (upd H1 p (.tup xs))
noncomputable def tLst (t : TA) : TE := fun σ H Q => t σ H fun xs H1 => xs.length ≤ sizeLine ∧ ∀ p, H1 p = none → Q (.ref p) (upd H1 p (.lst xs))
theorem pe_tup {x1} (h : PA X es t) : PE X (.Tuple es x1 pos) (tTup t) := by
  intro pins s σ H Q I hq
  refine wpAny_Tuple_spliced (thn (h pos pins s σ H _ I hq) fun us s1 ⟨xs, H1, I1, r, z, q⟩ => ⟨by rw [← r.length]; exact z, ?_⟩)
  have hf : H1 s1.heap.objs.size = none := I1.hok.fresh (Nat.le_refl _)
  refine ⟨.ref s1.heap.objs.size, upd H1 s1.heap.objs.size (.tup xs), I1.laid (t' := s1.toks) (fun b u e => Heap.get?_push_of_some _ e) (Nat.le_refl _) ?_, rfl, q _ hf⟩
  exact ⟨z, us, r, ⟨_, Heap.get?_push_size _ rfl, rfl, _, rfl⟩⟩
theorem pe_lst (h : PA X es t) : PE X (.List es pos) (tLst t) := by
  intro pins s σ H Q I hq
  refine wpAny_List_spliced (thn (h pos pins s σ H _ I hq) fun us s1 ⟨xs, H1, I1, r, z, q⟩ => ⟨by rw [← r.length]; exact z, ?_⟩)
  have hf : H1 s1.heap.objs.size = none := I1.hok.fresh (Nat.le_refl _)
  refine ⟨.ref s1.heap.objs.size, upd H1 s1.heap.objs.size (.lst xs), I1.laid (t' := s1.toks) (fun b u e => Heap.get?_push_of_some _ e) (Nat.le_refl _) ?_, rfl, q _ hf⟩
  exact ⟨z, us, 0, r, Heap.get?_push_size _ rfl⟩
end
noncomputable abbrev Sp := List V → Hp → VK → XK → Prop
noncomputable abbrev CXT := List Env → Hp → Shared → XK → Value → Shared → Prop
structure Env0 (P : Program) (w : World) (K : PySem.W.Frag) (mg : Str → Option Value) (base : Heap) (A : Around) (outer : List Env) (s : Shared) (H : Hp) : Prop where
  frames : A.frames = some outer
  mod : Mod K mg base
  bs : ∀ b o, base.get? b = some o → s.heap.get? b = some o ∧ H b = none
  bsz : base.objs.size ≤ s.heap.objs.size
  funs : s.heap.FunFrames base outer
  frf : ∀ b ∈ frs outer, H b = none
  hok : HOk P w H s.heap
  bare : AllBare s.gens
  tabs : ∀ P, TabAt K mg P → H P = some (.tbl tabQ)
noncomputable def CE (outer : List Env) (P : Program) (w : World) (H : Hp) (s : Shared) (Q : VK) (u : Value) (s' : Shared) : Prop :=
  ∃ v H', s'.os = s.os ∧ AllBare s'.gens ∧ Un (frs outer) [] H H' s.heap s'.heap ∧ HOk P w H' s'.heap ∧ RelV v u ∧ Q v H'
noncomputable def CR (CX : CXT) (outer : List Env) (P : Program) (w : World) (H : Hp) (s : Shared) (Q : VK) (E : XK) (r : Result) (s' : Shared) : Prop :=
  match r with
  | .ok (.ret u) => CE outer P w H s Q u s'
  | .ok _ => False
  | .error e => CX outer H s E e s'
structure FnOk (P : Program) (w : World) (K : PySem.W.Frag) (mg : Str → Option Value) (base : Heap) (CX : CXT) (k : Nat) (f : Addr) (fd : FuncData) (ps : List Str) (sp : Sp) : Prop where
  len : ∀ vs H Q E, sp vs H Q E → vs.length = ps.length
  run : ∀ (A : Around) (outer : List Env) (s : Shared) (H : Hp) (args : Args) (us : List Value) (vs : List V) (Q : VK) (E : XK), Room k A → Env0 P w K mg base A outer s H → BindsTo s fd args (ps.zip us) → Vals vs us → sp vs H Q E →
    codeAny (model P w) A (.call (.ref f) args) (CR CX outer P w H s Q E) s
section
variable {X : Cx} {pins : List (Addr × Obj)} {σ : St} {H : Hp} {s s' : Shared}
theorem Inv.env0 (I : Inv X pins σ H s) : Env0 X.prog X.w X.K X.mg X.base X.A X.stack s H :=
  ⟨I.ok.frames, I.ok.mod, I.bs, Nat.le_trans I.ok.bsz I.sz, I.stack, I.stkFree, I.hok, I.bare, fun P h => I.base.tbls _ _ (I.ok.tabs P h)⟩
theorem Inv.after {Q : VK} {u : Value} (I : Inv X pins σ H s) (h : CE X.stack X.prog X.w H s Q u s') : EP X pins σ Q u s' := by
  obtain ⟨v, H', os, bare, un, hok, r, q⟩ := h
  obtain ⟨hh, g, d, t, os'⟩ := s'
  obtain rfl : os' = s.os := os
  exact ⟨v, H', I.call (h' := hh) (g' := g) (d' := d) (t' := t) (ch := []) un hok bare (fun b z => absurd z (by simp)), r, q⟩
end
noncomputable def tCall (sp : Sp) (dvs : List V) (E : XK) (t : TA) : TE := fun σ H Q => t σ H fun vs H1 => sp (vs ++ dvs) H1 Q E
noncomputable def Binds (K : PySem.W.Frag) (fd : FuncData) (ps : List Str) (ds : List Value) : Prop :=
  ∀ (s : Shared) (us : List Value), K.In s.heap → (us ++ ds).length = ps.length → BindsTo s fd ⟨us, []⟩ (ps.zip (us ++ ds))
theorem Binds.all {K : PySem.W.Frag} {fd : FuncData} {ps : List Str} (h : ∀ us : List Value, us.length = ps.length → bindArgs fd ⟨us, []⟩ = pure (ps.zip us)) : Binds K fd ps [] := fun s us _ hl => by
  rw [List.append_nil] at hl ⊢
  exact .of_eq (h us hl)
noncomputable def Passes (CX : CXT) (X : Cx) (E : XK) : Prop := ∀ (pins : List (Addr × Obj)) (σ : St) (H : Hp) (s : Shared) (e : Value) (s' : Shared), Inv X pins σ H s → CX X.stack H s E e s' → X.xe e s'
section
variable {X : Cx} {CX : CXT} {k : Nat} {f C : Addr} {fd : FuncData} {ps : List Str} {sp : Sp} {dvs : List V} {ds : List Value} {E : XK} {x m : Str} {p pos apos : Pos} {e o : Expr} {es : List Expr} {ta : TE} {t : TA}
theorem run_fn {pins : List (Addr × Obj)} {σ : St} {H : Hp} {s : Shared} {Q : VK} {us : List Value} {vs : List V} (F : FnOk X.prog X.w X.K X.mg X.base CX k f fd ps sp) (hr : Room k X.A) (hb : Binds X.K fd ps ds) (hd : Vals dvs ds) (hx : Passes CX X E)
    (I : Inv X pins σ H s) (r : Vals vs us) (h : sp (vs ++ dvs) H Q E) : wpAny (model X.prog X.w) X.A (call (.ref f) us) (EP X pins σ Q) X.xe s := by
  have r2 : Vals (vs ++ dvs) (us ++ ds) := r.append hd
  have hl : (us ++ ds).length = ps.length := by rw [← r2.length]; exact F.len _ _ _ _ h
  refine wpAny_call (codeAny_mono (F.run X.A X.stack s H ⟨us, []⟩ (us ++ ds) (vs ++ dvs) Q E hr I.env0 (hb s us I.kIn hl) r2 h) fun r s' hq => ?_)
  cases r with
  | error e => exact hx pins σ H s e s' I hq
  | ok fl =>
    cases fl with
    | ret u => exact I.after hq
    | next => exact False.elim hq
    | brk => exact False.elim hq
    | cont => exact False.elim hq
theorem pe_call (F : FnOk X.prog X.w X.K X.mg X.base CX k f fd ps sp) (hr : Room k X.A) (hg : Gl X x) (hm : X.mg x = some (.ref f)) (hk : PySem.W.keepIn X.K (.ref f) = true) (hb : Binds X.K fd ps ds) (hd : Vals dvs ds) (hx : Passes CX X E)
    (ha : PA X (e :: es) t) (hdb : (x == ("__debug__" : Str)) = false := by decide) (he : starEach (e :: es) X.env = (false, eval e X.env) :: starEach es X.env := by rfl) (hpl : (backTo pos (starEach es X.env)).any (·.1) = false := by rfl) :
    PE X (.Call (.Name x p) (e :: es) [] pos) (tCall sp dvs E t) := by
  intro pins s σ H Q I h
  refine wpAny_Call_Name_kw (ld_glob I hg hm ?_ hdb)
  refine PySem.W.callWith_K (h₀ := X.base) I.ok.mod.kin hk (thn (ha pos pins s σ H _ I h) fun us s1 ⟨vs, H1, I1, r, q⟩ => ⟨I1.kIn, ?_⟩) he hpl
  exact run_fn F hr hb hd hx I1 r q
end
noncomputable def PK (X : Cx) (kws : List Keyword) (t : TA) : Prop :=
  ∀ (pos : Pos) (pins : List (Addr × Obj)) (s : Shared) (σ : St) (H : Hp) (Q : List V → Hp → Prop), Inv X pins σ H s → t σ H Q → wpAny (model X.prog X.w) X.A (evalAll ((backToKw pos (keywordEach kws X.env)).map (·.2))) (AP X pins σ Q) X.xe s
section
variable {X : Cx} {CX : CXT} {k : Nat} {f C : Addr} {fd : FuncData} {ps ks : List Str} {sp : Sp} {E : XK} {x m : Str} {p pos apos kpos : Pos} {e o : Expr} {es : List Expr} {kws : List Keyword} {te ta : TE} {t tk : TA} {nm : Option Str}
variable {g : List Value → List Value → List Value} {gV : List V → List V → List V}
end
structure FnScope (N P : List Str) (sc : Scope) : Prop where
  kind : sc.kind = .function
  co : sc.isCoroutine = false
  gen : sc.isGenerator = false
  nd : N.Nodup
  pre : N.take P.length = P
  par : ∀ x ∈ P, sc.names.lookup x = some .local ∨ sc.names.lookup x = some .cell
  nofree : ∀ y ∈ sc.names, y.2 ≠ .free
theorem bindL_out {kindOf : Str → Option NameKind} {x : Str} : ∀ {binds : List (Str × Value)} {m : Str → Option Value}, (∀ v, (x, v) ∉ binds) → bindL kindOf binds m x = m x
  | [], _, _ => rfl
  | (n, v) :: r, m, h => by
    unfold bindL
    rw [bindL_out fun w hw => h w (List.mem_cons_of_mem _ hw)]
    split
    · have : x ≠ n := by rintro rfl; exact h v List.mem_cons_self
      simp [this]
    · rfl
theorem bindC_out {kindOf : Str → Option NameKind} {x : Str} : ∀ {binds : List (Str × Value)} {m : Str → Option Value}, (∀ v, (x, v) ∉ binds) → bindC kindOf binds m x = m x
  | [], _, _ => rfl
  | (n, v) :: r, m, h => by
    unfold bindC
    rw [bindC_out fun w hw => h w (List.mem_cons_of_mem _ hw)]
    split
    · rfl
    · have : x ≠ n := by rintro rfl; exact h v List.mem_cons_self
      simp [this]
theorem bindL_get {kindOf : Str → Option NameKind} {x : Str} {v : Value} : ∀ {P : List Str} {vs : List Value} {i : Nat} {m : Str → Option Value}, P.Nodup → P[i]? = some x → vs[i]? = some v → kindOf x = some .local →
    bindL kindOf (P.zip vs) m x = some v
  | [], _, _, _, _, h, _, _ => by simp at h
  | _ :: _, [], _, _, _, _, h, _ => by simp at h
  | p :: P, w :: vs, 0, m, nd, h1, h2, hk => by
    simp at h1 h2; subst h1; subst h2
    show bindL kindOf ((p, w) :: P.zip vs) m p = _
    unfold bindL
    rw [bindL_out fun v hv => (List.nodup_cons.mp nd).1 (List.of_mem_zip hv).1, if_pos hk]
    simp
  | p :: P, w :: vs, i + 1, m, nd, h1, h2, hk => by
    show bindL kindOf ((p, w) :: P.zip vs) m x = _
    unfold bindL
    exact bindL_get (i := i) (List.nodup_cons.mp nd).2 (by simpa using h1) (by simpa using h2) hk
theorem bindC_get {kindOf : Str → Option NameKind} {x : Str} {v : Value} : ∀ {P : List Str} {vs : List Value} {i : Nat} {m : Str → Option Value}, P.Nodup → P[i]? = some x → vs[i]? = some v → kindOf x ≠ some .local →
    bindC kindOf (P.zip vs) m x = some v
  | [], _, _, _, _, h, _, _ => by simp at h
  | _ :: _, [], _, _, _, _, h, _ => by simp at h
  | p :: P, w :: vs, 0, m, nd, h1, h2, hk => by
    simp at h1 h2; subst h1; subst h2
    show bindC kindOf ((p, w) :: P.zip vs) m p = _
    unfold bindC
    rw [bindC_out fun v hv => (List.nodup_cons.mp nd).1 (List.of_mem_zip hv).1, if_neg hk]
    simp
  | p :: P, w :: vs, i + 1, m, nd, h1, h2, hk => by
    show bindC kindOf ((p, w) :: P.zip vs) m x = _
    unfold bindC
    exact bindC_get (i := i) (List.nodup_cons.mp nd).2 (by simpa using h1) (by simpa using h2) hk
noncomputable def start (N : List Str) (vs : List V) : St := vs.map some ++ List.replicate (N.length - vs.length) none
noncomputable def cxOf (CX : CXT) (P : Program) (w : World) (K : PySem.W.Frag) (mg : Str → Option Value) (base : Heap) (N : List Str) (qual : Str) (scope : Scope) (f : Addr) (cd : Value) (A : Around) (outer : List Env) (s : Shared) (H : Hp) (E : XK) : Cx where
  prog := P
  w := w
  K := K
  mg := mg
  base := base
  A := A.deeper (envOfC qual scope s.heap.objs.size f cd)
  N := N
  s₀ := s
  H₀ := H
  env := envOfC qual scope s.heap.objs.size f cd
  outer := outer
  stack := envOfC qual scope s.heap.objs.size f cd :: outer
  ex := []
  calm := true
  fn := fun _ => true
  pn := []
  xe := fun e s' => wpAny (model P w) (A.deeper (envOfC qual scope s.heap.objs.size f cd)) (leaving (envOfC qual scope s.heap.objs.size f cd) e) (fun _ s'' => CX outer H s E e s'') (fun e' s'' => CX outer H s E e' s'') s'
theorem cell_has {sc : Scope} {n : Nat} {x : Str} (h : sc.names.lookup x = some .cell) : ∃ c, (cellsFrom n sc.names []).lookup x = some c := by
  have q := PySem.W.cellsFrom_some sc.names n [] (.inl h)
  exact Option.isSome_iff_exists.mp q
theorem inv_start {CX : CXT} {P : Program} {w : World} {K : PySem.W.Frag} {mg : Str → Option Value} {base : Heap} {N ps : List Str} {qual : Str} {scope : Scope} {f : Addr} {cd : Value} {A : Around} {outer : List Env} {s s1 : Shared} {H : Hp} {E : XK} {us : List Value} {vs : List V}
    (S : FnScope N ps scope) (hd : A.handled = none) (e0 : Env0 P w K mg base A outer s H) (hl : vs.length = ps.length) (r : Vals vs us)
    (x : InCallC s s.heap.objs.size (bindL (envOfC qual scope s.heap.objs.size f cd).kindOf (ps.zip us) fun _ => none) (cellsFrom (s.heap.objs.size + 1) scope.names []) (bindC (envOfC qual scope s.heap.objs.size f cd).kindOf (ps.zip us) fun _ => none) s1) :
    Inv (cxOf CX P w K mg base N qual scope f cd A outer s H E) [] (start N vs) H s1 := by
  have hpl : ps.length ≤ N.length := by have := congrArg List.length S.pre; rw [List.length_take] at this; omega
  obtain ⟨h1, tk, rfl, hk⟩ := x.done
  have noA : ∀ b : Addr, b ∉ (cxOf CX P w K mg base N qual scope f cd A outer s H E).ex := fun b z => absurd (show b ∈ ([] : List Addr) from z) (by simp)
  refine ⟨⟨e0.mod, S.kind, rfl, rfl, Nat.le_refl _, fun y z c h1 h2 => ?_, fun y hy => ?_, fun y c _ h => ?_, fun _ => hd, Around.frames_deeper e0.frames, .inr ⟨rfl, rfl⟩, fun b z => absurd z (noA b), e0.bs, e0.bsz, fun b _ _ => noA b, fun b z => absurd z (noA b), e0.funs, e0.frf, e0.tabs⟩,
    rfl, e0.bare, Un.kept hk, ⟨_, x.toInCall.ns, fun i y v h1 h2 h3 => ?_⟩, fun y c h => ⟨_, x.cell y c h⟩, e0.hok.fresh (Nat.le_refl _), fun y c h => ?_, fun p hp => absurd (show p ∈ ([] : List (Addr × Obj)) from hp) (by simp), e0.hok.kept hk, ?_⟩
  · exact name_of_addr x.apart (PySem.mem_of_lookup h1) (PySem.mem_of_lookup h2)
  · have hy : scope.names.lookup y = some .cell ∨ scope.names.lookup y = some .free := hy
    rcases hy with hy | hy
    · exact cell_has hy
    · exact absurd rfl (S.nofree _ (PySem.mem_of_lookup hy))
  · exact Nat.le_of_lt (x.above y c (PySem.mem_of_lookup h))
  · have hi : i < vs.length := by
      unfold start at h2
      by_cases hi : i < vs.length
      · exact hi
      · rw [List.getElem?_append_right (by simpa using hi)] at h2
        rw [List.getElem?_replicate] at h2
        split at h2 <;> cases h2
    have ha : vs[i]? = some v := by
      unfold start at h2
      rw [List.getElem?_append_left (by simpa using hi), List.getElem?_map] at h2
      cases e : vs[i]? with
      | none => rw [e] at h2; cases h2
      | some a => rw [e] at h2; cases h2; rfl
    obtain ⟨u, hu, rv⟩ := r.get ha
    have hp : ps[i]? = some y := by
      rw [← S.pre, List.getElem?_take_of_lt (by omega)]; exact h1
    have ndP : ps.Nodup := by rw [← S.pre]; exact S.nd.sublist (List.take_sublist _ _)
    refine ⟨u, rv, ?_⟩
    rcases S.par y (List.mem_of_getElem? hp) with k | k
    · exact .inl ⟨k, bindL_get ndP hp hu k⟩
    · obtain ⟨c, e⟩ := cell_has (n := s.heap.objs.size + 1) k
      refine .inr ⟨.inl k, c, e, ?_⟩
      have q := x.cell y c e
      rw [bindC_get ndP hp hu (by show scope.names.lookup y ≠ _; rw [k]; decide)] at q
      exact q
  · exact e0.hok.fresh (Nat.le_of_lt (x.above y c (PySem.mem_of_lookup h)))
  · unfold start
    show _ = N.length
    rw [List.length_append, List.length_map, List.length_replicate]
    omega
theorem fn_of {CX : CXT} {P : Program} {w : World} {K : PySem.W.Frag} {mg : Str → Option Value} {base : Heap} {k : Nat} {f : Addr} {name qual : Str} {params : Arguments} {body : List Stmt} {scope : Scope} {dV kV doc pm cdv ct oc : Value} {an od : Option Addr}
    {osl : Array (Option Value)} {N ps : List Str} {sp : Sp} (lk : K.lookup f = some ⟨oc, od, .func (PySem.W.fnOf name qual params body scope dV kV doc pm an cdv ct), osl⟩) (hcd : PySem.W.codeIn K cdv qual = true) (S : FnScope N ps scope)
    (len : ∀ vs H Q E, sp vs H Q E → vs.length = ps.length)
    (hbody : ∀ (A : Around) (outer : List Env) (s : Shared) (H : Hp) (vs : List V) (Q : VK) (E : XK), Room k (A.deeper (envOfC qual scope s.heap.objs.size f cdv)) → sp vs H Q E →
      ∃ t, PSs (cxOf CX P w K mg base N qual scope f cdv A outer s H E) body t ∧ t { nx := fun _ H' => Q .non H', rt := Q } (start N vs) H) :
    FnOk P w K mg base CX (k + 1) f (PySem.W.fnOf name qual params body scope dV kV doc pm an cdv ct) ps sp := by
  refine ⟨len, fun A outer s H args us vs Q E hr e0 hb r hsp => ?_⟩
  have hl := len _ _ _ _ hsp
  have KX : K.In s.heap := e0.mod.kin.keeps fun b o e => (e0.bs b o e).1
  have lim : s.heap.NoLimit := e0.mod.nolimit.keeps fun b o e => (e0.bs b o e).1
  have hkind : ∀ y ∈ ps.zip us, scope.names.lookup y.1 = some .local ∨ (scope.names.lookup y.1 = some .cell ∧ ((cellsFrom (s.heap.objs.size + 1) scope.names []).lookup y.1).isSome = true) := fun ⟨n, v⟩ hy => by
    rcases S.par n (List.of_mem_zip hy).1 with q | q
    · exact .inl q
    · exact .inr ⟨q, PySem.W.cellsFrom_some _ _ _ (.inl q)⟩
  refine codeAny_call_function hr.depth (KX _ _ lk) rfl S.co S.gen rfl (PySem.W.codeRec_of KX hcd) (hb _ _ _ _ ?_)
  refine wpAny_newFunctionEnv_cells S.kind hkind fun env he s1 x => ?_
  subst he
  refine ⟨lim.keeps x.toInCall.keep, codeAny_func ?_⟩
  obtain ⟨t, ht, hq⟩ := hbody A outer s H vs Q E (hr.deeper _) hsp
  have I : Inv (cxOf CX P w K mg base N qual scope f cdv A outer s H E) [] (start N vs) H s1 := inv_start S hr.hd e0 hl r x
  refine wpAny_mono (ht [] s1 (start N vs) H _ I hq) (fun fl s' hs => ?_) fun e s' hs => hs
  have fin : ∀ {σ' : St} {H' : Hp} {v : V} {u : Value}, Inv (cxOf CX P w K mg base N qual scope f cdv A outer s H E) [] σ' H' s' → RelV v u → Q v H' → CE outer P w H s Q u s' :=
    fun {σ' H' v u} J rv q => ⟨v, H', J.os, J.bare, J.base, J.hok, rv, q⟩
  cases fl with
  | ret u =>
    obtain ⟨v, σ', H', J, rv, q⟩ := hs
    exact fin J rv q
  | next =>
    obtain ⟨σ', H', J, q⟩ := hs
    exact fin (v := V.non) (u := Value.none) J rfl q
  | brk =>
    obtain ⟨_, _, _, q⟩ := hs
    exact False.elim q
  | cont =>
    obtain ⟨_, _, _, q⟩ := hs
    exact False.elim q
end L2
namespace L2
open PySem PySem.Spec PyProof.Rows
section
variable {X : Cx} {x : Str} {p pos : Pos} {e : Expr} {es : List Expr} {t : TA} {id T : String} {r : List V → Hp → VK → Prop}
noncomputable def tCB (r : List V → Hp → VK → Prop) (t : TA) : TE := fun σ H Q => t σ H fun vs H1 => r vs H1 Q
theorem pe_callB (hc : CallR X (.builtin id) r) (hg : Gl X x) (hm : X.mg x = none) (hv : bootBuiltins x = some (.builtin id)) (ha : PA X (e :: es) t) (hn : x ≠ "__name__" := by decide) (hdb : (x == ("__debug__" : Str)) = false := by decide)
    (he : starEach (e :: es) X.env = (false, eval e X.env) :: starEach es X.env := by rfl) (hpl : (backTo pos (starEach es X.env)).any (·.1) = false := by rfl) : PE X (.Call (.Name x p) (e :: es) [] pos) (tCB r t) := by
  intro pins s σ H Q I h
  refine wpAny_Call_Name_kw (ld_blt I hg hm hv ?_ hn hdb)
  exact PyProof.Rows.callWith_builtin1 (thn (ha pos pins s σ H _ I h) fun us s1 ⟨vs, H1, I1, r1, q1⟩ => hc pins s1 σ H1 vs us Q I1 r1 q1) he hpl
theorem pe_callTy (hc : CallR X (.type T) r) (hg : Gl X x) (hm : X.mg x = none) (hv : bootBuiltins x = some (.type T)) (ha : PA X (e :: es) t) (hn : x ≠ "__name__" := by decide) (hdb : (x == ("__debug__" : Str)) = false := by decide)
    (he : starEach (e :: es) X.env = (false, eval e X.env) :: starEach es X.env := by rfl) (hpl : (backTo pos (starEach es X.env)).any (·.1) = false := by rfl) : PE X (.Call (.Name x p) (e :: es) [] pos) (tCB r t) := by
  intro pins s σ H Q I h
  refine wpAny_Call_Name_kw (ld_blt I hg hm hv ?_ hn hdb)
  exact PyProof.Rows.callWith_type1 (thn (ha pos pins s σ H _ I h) fun us s1 ⟨vs, H1, I1, r1, q1⟩ => hc pins s1 σ H1 vs us Q I1 r1 q1) he hpl
end
end L2
namespace HT
open PySem PyProof.Rows
section
open PySem.SeqAt
open PySem.AutoSeq1 (wpAny_loadPart')
open PySem.MeetsSeq PySem.MeetsSeq2 PySem.MeetsSeq3
end
section
variable {prog : Program} {w : World} {A : Around} {E : Value → Shared → Prop} {s : Shared}
theorem cat_tup {t b : Addr} {vs ws : List Value} {Q : Value → Shared → Prop} (ht : IsTup s.heap t vs.toArray) (hb : IsTup s.heap b ws.toArray) (hv : vs ≠ [])
    (h1 : ws = [] → Q (.ref t) s) (h2 : ws ≠ [] → Q (.ref s.heap.objs.size) { s with heap := s.heap.push { cls := .type "tuple", data := .seq (vs ++ ws).toArray } })
    (hsz : vs.length + ws.length ≤ sizeLine) : wpAny (model prog w) A (binaryOp .Add (.ref t) (.ref b)) Q E s := by
  obtain ⟨⟨cls, dd, data, sl⟩, ho, hc, n, hd⟩ := id ht
  obtain ⟨⟨cls2, dd2, data2, sl2⟩, ho2, hc2, n2, hd2⟩ := id hb
  simp only at hc hd hc2 hd2
  subst hc hd hc2 hd2
  have e : vs.toArray ++ ws.toArray = (vs ++ ws).toArray := by simp
  by_cases hw : ws = []
  · exact concat_meets ⟨_, ho, rfl⟩ ⟨_, ho2, rfl⟩ noFill_tuple_add seq_tuple_add PySem.F.slot_tuple_add PySem.F.entry_tuple_add (PySem.F.args_tuple_add_2 _ _)
      (tuple_addW1 t b vs.toArray ws.toArray n n2 dd dd2 sl sl2 (by simpa using hv) (by simp [hw])) ⟨ho, ho2, h1 hw⟩
  · refine concat_meets ⟨_, ho, rfl⟩ ⟨_, ho2, rfl⟩ noFill_tuple_add seq_tuple_add PySem.F.slot_tuple_add PySem.F.entry_tuple_add (PySem.F.args_tuple_add_2 _ _)
      (tuple_addW2 t b vs.toArray ws.toArray n n2 dd dd2 sl sl2 (by simpa using hv) (by simpa using hw) (by rw [List.size_toArray, List.size_toArray]; exact hsz)) ⟨ho, ho2, ?_⟩
    rw [e]
    exact h2 hw
noncomputable def sIx (n d : Nat) : Option Int → Nat
  | none => d
  | some v => if v < 0 then (v + (n : Int)).toNat else min v.toNat n
theorem sIx_none (n d : Nat) : sIx n d none = d := rfl
theorem sIx_nat (n d k : Nat) : sIx n d (some (k : Int)) = min k n := by
  show (if (k : Int) < 0 then ((k : Int) + (n : Int)).toNat else min (k : Int).toNat n) = min k n
  rw [if_neg (by omega), Int.toNat_natCast]
end
end HT
namespace L2
open PySem PySem.Spec PyProof.Rows
noncomputable abbrev TO := St → Hp → (Option Int → Hp → Prop) → Prop
noncomputable def PO (X : Cx) (e : Option Expr) (t : TO) : Prop :=
  ∀ (pins : List (Addr × Obj)) (s : Shared) (σ : St) (H : Hp) (Q : Option Int → Hp → Prop), Inv X pins σ H s → t σ H Q →
    wpAny (model X.prog X.w) X.A (evalPart e X.env) (fun u s' => ∃ o H', Inv X pins σ H' s' ∧ IsPart u o ∧ Q o H') X.xe s
noncomputable def tNoPart : TO := fun _ H Q => Q none H
noncomputable def tPart (t : TE) : TO := fun σ H Q => t σ H fun x H1 => ∃ i, x = .int i ∧ Q (some i) H1
section
variable {X : Cx} {e : Expr} {te : TE} {lo hi : Option Expr} {tl th : TO} {pos p2 : Pos}
theorem po_none : PO X none tNoPart := by
  intro pins s σ H Q I h
  rw [evalPart_none]
  exact wpAny_pure ⟨none, H, I, .none, h⟩
theorem po_some (h : PE X e te) : PO X (some e) (tPart te) := by
  intro pins s σ H Q I hw
  rw [evalPart_some]
  refine thn (h pins s σ H _ I hw) fun u s1 hq__ => ?_
  obtain ⟨x, H1, I1, r1, q1⟩ := hq__
  obtain ⟨i, rfl, q⟩ := q1
  obtain ⟨t, rfl⟩ := r1
  exact ⟨some i, H1, I1, .int i t, q⟩
noncomputable def SlR (X : Cx) (r : V → Option Int → Option Int → Hp → VK → Prop) : Prop :=
  ∀ (pins : List (Addr × Obj)) (s : Shared) (σ : St) (H : Hp) (x : V) (v vl vu : Value) (lo hi : Option Int) (sl : Addr) (Q : VK), Inv X pins σ H s → RelV x v → s.heap.IsSliceOf sl vl vu .none → IsPart vl lo → IsPart vu hi → r x lo hi H Q →
    ∃ T id, typeLookup (.type T) "__getitem__" = pure (some (.builtin id)) ∧ s.TypeIs v T ∧ wpAny (model X.prog X.w) X.A (getItem v (.ref sl)) (EP X pins σ Q) X.xe s
noncomputable def tSl (r : V → Option Int → Option Int → Hp → VK → Prop) (te : TE) (tl th : TO) : TE := fun σ H Q => te σ H fun x H1 => tl σ H1 fun l H2 => th σ H2 fun u H3 => r x l u H3 Q
theorem pe_slice {r : V → Option Int → Option Int → Hp → VK → Prop} (hr : SlR X r) (he : PE X e te) (hl : PO X lo tl) (hu : PO X hi th) : PE X (.Subscript e (.Slice lo hi none p2) pos) (tSl r te tl th) := by
  intro pins s σ H Q I h
  refine Subscript_ (thn (he pins s σ H _ I h) fun v s1 hq__ => ?_)
  obtain ⟨x, H1, I1, r1, q1⟩ := hq__
  refine wpAny_Slice (thn (hl pins s1 σ H1 _ I1 q1) fun vl s2 ⟨l, H2, I2, pl, q2⟩ => thn (hu pins s2 σ H2 _ I2 q2) fun vu s3 hq__ => ?_)
  obtain ⟨u, H3, I3, pu, q3⟩ := hq__
  rw [evalPart_none]
  refine wpAny_pure ?_
  have I4 : Inv X pins σ H3 { s3 with heap := s3.heap.push { cls := .type "slice", data := .fields #[vl, vu, .none] } } := I3.kept (t' := s3.toks) fun b ob q => Heap.get?_push_of_some _ q
  obtain ⟨T, id, hT, ht, hg⟩ := hr pins { s3 with heap := s3.heap.push { cls := .type "slice", data := .fields #[vl, vu, .none] } } σ H3 x v vl vu l u s3.heap.objs.size Q I4 r1 (Heap.IsSliceOf.new ..) pl pu q3
  show wpAny (model X.prog X.w) X.A (subscriptTail e (.Slice lo hi none p2) v (.ref s3.heap.objs.size)) (EP X pins σ Q) X.xe { s3 with heap := s3.heap.push { cls := .type "slice", data := .fields #[vl, vu, .none] } }
  exact tail_any (ops := [.ref s3.heap.objs.size, v]) ht hT hg (by with_unfolding_all rfl)
noncomputable def cutV (xs : List V) (lo hi : Option Int) : List V := (xs.drop (HT.sIx xs.length 0 lo)).take (HT.sIx xs.length xs.length hi - HT.sIx xs.length 0 lo)
theorem cutV_length (xs : List V) (lo hi : Option Int) : (cutV xs lo hi).length ≤ xs.length := by
  unfold cutV
  rw [List.length_take, List.length_drop]
  omega
noncomputable def rCatT (K : PySem.W.Frag) : R2 := fun x y H Q => ∃ a b xs ys, x = .ref a ∧ y = .ref b ∧ SqT K H a xs ∧ SqT K H b ys ∧ xs ≠ [] ∧ xs.length + ys.length ≤ sizeLine ∧
  (ys = [] → Q (.ref a) H) ∧ (ys ≠ [] → ∀ p, H p = none → Q (.ref p) (upd H p (.tup (xs ++ ys))))
theorem Vals.nil_iff {xs : List V} {us : List Value} (r : Vals xs us) : us = [] ↔ xs = [] := by
  cases r with
  | nil => simp
  | cons _ _ => simp
theorem op_catT : OpR X (binaryOp .Add) (rCatT X.K) := by
  intro pins s σ H x y v u Q I rx ry h
  obtain ⟨a, b, xs, ys, rfl, rfl, ha, hb, hx, hz, q1, q2⟩ := h
  cases rx
  cases ry
  obtain ⟨its, r1, p1, _⟩ := I.tuple ha
  obtain ⟨its2, r2, p2, _⟩ := I.tuple hb
  refine HT.cat_tup p1 p2 (fun z => hx (r1.nil_iff.mp z)) (fun z => ⟨.ref a, H, I, rfl, q1 (r2.nil_iff.mp z)⟩) (fun z => ?_) (by rw [← r1.length, ← r2.length]; exact hz)
  refine ⟨.ref s.heap.objs.size, _, I.laid (t' := s.toks) (o := .tup (xs ++ ys)) (fun b ob q => Heap.get?_push_of_some _ q) (Nat.le_refl _) ?_, rfl, q2 (fun w => z (r2.nil_iff.mpr w)) _ (I.hok.fresh (Nat.le_refl _))⟩
  exact ⟨by rw [List.length_append]; exact hz, _, r1.append r2, IsTup.new _ _⟩
end
end L2
namespace L2
open PySem PySem.Spec PyProof.Rows
noncomputable def ixN (n : Nat) (i : Int) : Option Nat := if 0 ≤ i then (if i < n then some i.toNat else none) else if -(n : Int) ≤ i then some (i + n).toNat else none
noncomputable def atI {α : Type} (xs : List α) (i : Int) : Option α := (ixN xs.length i).bind fun j => xs[j]?
theorem ixN_seq {n : Nat} {i : Int} {j : Nat} (h : ixN n i = some j) : seqIndex? i n = some j ∧ j < n ∧ -(n : Int) ≤ i ∧ i < n := by
  unfold ixN at h
  by_cases h0 : 0 ≤ i
  · rw [if_pos h0] at h
    by_cases h1 : i < n
    · rw [if_pos h1] at h
      have e : i.toNat = j := Option.some.inj h
      exact ⟨by rw [seqIndex_of h0 h1, e], by omega, by omega, h1⟩
    · rw [if_neg h1] at h; cases h
  · rw [if_neg h0] at h
    by_cases h1 : -(n : Int) ≤ i
    · rw [if_pos h1] at h
      have e : (i + n).toNat = j := Option.some.inj h
      exact ⟨by rw [seqIndex_neg (by omega) h1, e], by omega, h1, by omega⟩
    · rw [if_neg h1] at h; cases h
theorem atI_get {α : Type} {xs : List α} {i : Int} {v : α} (h : atI xs i = some v) : ∃ j, seqIndex? i xs.length = some j ∧ xs[j]? = some v ∧ j < xs.length ∧ -(xs.length : Int) ≤ i ∧ i < xs.length := by
  unfold atI at h
  cases e : ixN xs.length i with
  | none => rw [e] at h; cases h
  | some j =>
    rw [e] at h
    obtain ⟨h1, h2, h3, h4⟩ := ixN_seq e
    exact ⟨j, h1, h, h2, h3, h4⟩
theorem atI_nat {α : Type} {xs : List α} {j : Nat} {v : α} (h : xs[j]? = some v) : atI xs (j : Int) = some v := by
  have hj : j < xs.length := (List.getElem?_eq_some_iff.mp h).1
  have e : ixN xs.length (j : Int) = some j := by
    unfold ixN
    rw [if_pos (by omega), if_pos (by omega)]; simp
  unfold atI; rw [e]; exact h
noncomputable def PlainIx (b : Expr) : Prop := ∀ o i, subscripted b false o i = operate [o, i] (getItem o i)
noncomputable def IxR (X : Cx) (r : R2) : Prop :=
  ∀ (value slice : Expr) (pins : List (Addr × Obj)) (s : Shared) (σ : St) (H : Hp) (x y : V) (v u : Value) (Q : VK), Inv X pins σ H s → RelV x v → RelV y u → r x y H Q →
    subscripted slice false v u = operate [v, u] (getItem v u) → wpAny (model X.prog X.w) X.A (subscriptTail value slice v u) (EP X pins σ Q) X.xe s
noncomputable def MtR (X : Cx) (id : String) (r : V → List V → Hp → VK → Prop) : Prop :=
  ∀ (pins : List (Addr × Obj)) (s : Shared) (σ : St) (H : Hp) (x : V) (xs : List V) (v : Value) (us : List Value) (Q : VK), Inv X pins σ H s → RelV x v → Vals xs us → r x xs H Q →
    wpAny (model X.prog X.w) X.A (call (.builtin id) (v :: us)) (EP X pins σ Q) X.xe s
section
variable {X : Cx} {a b : Expr} {ta tb : TE} {pos : Pos}
theorem pe_ix {r : R2} (hr : IxR X r) (ha : PE X a ta) (hb : PE X b tb) (hs : PlainIx b) : PE X (.Subscript a b pos) (tOp r ta tb) := by
  intro pins s σ H Q I h
  exact Subscript_ (binT ha hb I h fun v u s2 x y H2 I2 rx ry q => hr a b pins s2 σ H2 x y v u Q I2 rx ry q (hs _ _))
noncomputable def rIxL (K : PySem.W.Frag) : R2 := fun x y H Q => ∃ p xs i v, x = .ref p ∧ y = .int i ∧ SqL K H p xs ∧ atI xs i = some v ∧ Q v H
noncomputable def rIxT (K : PySem.W.Frag) : R2 := fun x y H Q => ∃ p xs i v, x = .ref p ∧ y = .int i ∧ SqT K H p xs ∧ atI xs i = some v ∧ Q v H
theorem ix_list : IxR X (rIxL X.K) := by
  intro value slice pins s σ H x y v u Q I rx ry h hs
  obtain ⟨p, xs, i, z, rfl, rfl, hq, he, q⟩ := h
  cases rx
  obtain ⟨t, rfl⟩ := ry
  obtain ⟨its, r, pl, hz⟩ := I.list hq
  obtain ⟨j, h1, h2, h3, h4, h5⟩ := atI_get he
  obtain ⟨w, ew, rw'⟩ := r.get h2
  have hl := r.length
  have hn := line63
  have fin : EP X pins σ Q w s := ⟨z, H, I, rw', q⟩
  by_cases h0 : 0 ≤ i
  · have hj : i.toNat = j := by
      rw [seqIndex_of h0 h5] at h1
      exact Option.some.inj h1
    exact item_listR pl.isList h0 (by omega) (by rw [hj]; simpa using ew) fin hs
  · have hj : (i + (its.toArray.size : Int)).toNat = j := by
      rw [seqIndex_neg (by omega) h4] at h1
      rw [List.size_toArray, ← hl]
      exact Option.some.inj h1
    exact subscriptTail_builtinR (x := w) pl.isList.typeIs slot_list_getitem.lookup
      (wpAny_getItem_list_neg (Q := fun r s' => r = w ∧ EP X pins σ Q r s') pl.isList (by omega) (by rw [List.size_toArray] <;> omega) (by omega) (by rw [hj]; simpa using ew) ⟨rfl, fin⟩) hs
theorem ix_tup : IxR X (rIxT X.K) := by
  intro value slice pins s σ H x y v u Q I rx ry h hs
  obtain ⟨p, xs, i, z, rfl, rfl, hq, he, q⟩ := h
  cases rx
  obtain ⟨t, rfl⟩ := ry
  obtain ⟨its, r, pl, hz⟩ := I.tuple hq
  obtain ⟨j, h1, h2, h3, h4, h5⟩ := atI_get he
  obtain ⟨w, ew, rw'⟩ := r.get h2
  have hl := r.length
  have hn := line63
  have fin : EP X pins σ Q w s := ⟨z, H, I, rw', q⟩
  exact subscriptTail_builtinR (x := w) pl.typeIs slot_tuple_getitem.lookup
    (getItem_tuple (j := j) (Q := fun r s' => r = w ∧ EP X pins σ Q r s') pl (by omega) (by omega) (by rw [List.size_toArray, ← hl]; exact h1) (by simpa using ew) ⟨rfl, fin⟩) hs
theorem Inv.lst {pins : List (Addr × Obj)} {σ : St} {H : Hp} {s : Shared} {p : Addr} {xs : List V} (I : Inv X pins σ H s) (h : H p = some (.lst xs)) :
    ∃ (its : List Value) (n : Nat), Vals xs its ∧ s.heap.get? p = some { cls := .type "list", data := .seq its.toArray n } ∧ xs.length ≤ sizeLine := by
  obtain ⟨z, its, n, r, e⟩ := I.hok p _ h
  exact ⟨its, n, r, e, z⟩
theorem slice_bounds (lo hi : Option Int) (n : Nat) : (sliceBounds lo hi none n).1 = ((HT.sIx n 0 lo : Nat) : Int) ∧ (sliceBounds lo hi none n).2.1 = ((HT.sIx n n hi : Nat) : Int) ∧ (sliceBounds lo hi none n).2.2 = 1 := by
  refine ⟨?_, ?_, rfl⟩
  · cases lo with
    | none => simp [sliceBounds, HT.sIx]
    | some i =>
      simp only [sliceBounds, HT.sIx, Option.getD_none, show (1 : Int) > 0 by decide, if_true]
      by_cases h : i < 0
      · simp only [h, if_true] <;> omega
      · simp only [h, if_false] <;> omega
  · cases hi with
    | none => simp [sliceBounds, HT.sIx]
    | some i =>
      simp only [sliceBounds, HT.sIx, Option.getD_none, show (1 : Int) > 0 by decide, if_true]
      by_cases h : i < 0
      · simp only [h, if_true] <;> omega
      · simp only [h, if_false] <;> omega
theorem slicePick_cut (its : List Value) (lo hi : Option Int) : slicePick its.toArray lo hi none = ((its.drop (HT.sIx its.length 0 lo)).take (HT.sIx its.length its.length hi - HT.sIx its.length 0 lo)).toArray := by
  obtain ⟨h1, h2, h3⟩ := slice_bounds lo hi its.toArray.size
  unfold slicePick
  rw [h1, h2, h3]
  simp only [sliceRange_one, pick_run, List.size_toArray] <;> rfl
noncomputable def rSlL (K : PySem.W.Frag) : V → Option Int → Option Int → Hp → VK → Prop := fun x lo hi H Q => ∃ a xs, x = .ref a ∧ SqL K H a xs ∧ ∀ p, H p = none → Q (.ref p) (upd H p (.lst (cutV xs lo hi)))
theorem sl_list : SlR X (rSlL X.K) := by
  intro pins s σ H x v vl vu lo hi sl Q I rx hs pl pu h
  obtain ⟨a, xs, rfl, hx, q⟩ := h
  cases rx
  obtain ⟨its, r, ht, hz⟩ := I.list hx
  have hlen := r.length
  refine ⟨"list", _, slot_list_getitem.lookup, ht.isList.typeIs, ?_⟩
  refine wpAny_getItem_list_slice ht.isList hs pl pu .none (by simp) ?_ (by rw [List.size_toArray] <;> omega)
  rw [slicePick_cut, ← hlen]
  refine ⟨.ref s.heap.objs.size, _, I.laid (t' := s.toks) (o := .lst (cutV xs lo hi)) (fun b ob q => Heap.get?_push_of_some _ q) (Nat.le_refl _) ?_, rfl, q _ (I.hok.fresh (Nat.le_refl _))⟩
  exact ⟨Nat.le_trans (cutV_length xs lo hi) hz, _, 0, (r.drop (HT.sIx xs.length 0 lo)).take (HT.sIx xs.length xs.length hi - HT.sIx xs.length 0 lo), Heap.get?_push_size _ rfl⟩
theorem call_len_seq : CallR X (.builtin "len") (fun xs H Q => ∃ p ys, xs = [.ref p] ∧ (SqL X.K H p ys ∨ SqT X.K H p ys) ∧ Q (.int ys.length) H) := by
  intro pins s σ H xs us Q I r h
  obtain ⟨p, ys, rfl, hq, q⟩ := h
  obtain ⟨u, rfl, rx⟩ := vals1 r
  cases rx
  have hn := line63
  rcases hq with hq | hq
  · obtain ⟨its, r', pl, hz⟩ := I.list hq
    have hlen := r'.length
    exact Calls.call_len_list pl.isList (by simp only [List.size_toArray] <;> omega) ⟨.int ys.length, H, I.tok _, ⟨s.toks + 1, by rw [List.size_toArray, hlen]⟩, q⟩
  · obtain ⟨its, r', pl, hz⟩ := I.tuple hq
    have hlen := r'.length
    exact len_tuple pl (by simp only [List.size_toArray] <;> omega) ⟨.int ys.length, H, I.tok _, ⟨s.toks + 1, by rw [List.size_toArray, hlen]⟩, q⟩
theorem call_len_str : CallR X (.builtin "len") (fun xs H Q => ∃ z, xs = [.str z] ∧ z.length ≤ sizeLine ∧ Q (.int z.length) H) := by
  intro pins s σ H xs us Q I r h
  obtain ⟨z, rfl, hz, q⟩ := h
  obtain ⟨u, rfl, t, rfl⟩ := vals1 r
  have hn := line63
  exact len_str (by omega) ⟨.int z.length, H, I.tok _, ⟨_, rfl⟩, q⟩
theorem call_list_of : CallR X (.type "list") (fun xs H Q => ∃ p ys, xs = [.ref p] ∧ (SqL X.K H p ys ∨ SqT X.K H p ys) ∧ ∀ l, H l = none → Q (.ref l) (upd H l (.lst ys))) := by
  intro pins s σ H xs us Q I r h
  obtain ⟨p, ys, rfl, hq, q⟩ := h
  obtain ⟨u, rfl, rx⟩ := vals1 r
  cases rx
  have fin : ∀ (its : List Value), Vals ys its → ys.length ≤ sizeLine → ∀ (h' : Heap) (c' : Nat), (∀ b o', s.heap.get? b = some o' → h'.get? b = some o') →
      h'.get? s.heap.objs.size = some { cls := .type "list", dict := none, data := .seq its.toArray c', slots := #[] } → EP X pins σ Q (.ref s.heap.objs.size) { s with heap := h' } := fun its r' hz h' c' kp e =>
    ⟨.ref s.heap.objs.size, _, I.laid (t' := s.toks) kp (Nat.le_refl _) (show ObjOk X.prog X.w _ h' _ (.lst ys) from ⟨hz, its, c', r', e⟩), rfl, q _ (I.hok.fresh (Nat.le_refl _))⟩
  rcases hq with hq | hq
  · obtain ⟨its, r', pl, hz⟩ := I.list hq
    have hlen := r'.length
    obtain ⟨o, ho, hc, n, hd⟩ := pl.isList
    exact call_list_seq p (.inl rfl) ho hc hd (fun h' c' kp e => fin its r' hz h' c' kp e) (by simp only [List.size_toArray] <;> omega)
  · obtain ⟨its, r', pl, hz⟩ := I.tuple hq
    have hlen := r'.length
    obtain ⟨o, ho, hc, n, hd⟩ := pl
    exact call_list_seq p (.inr rfl) ho hc hd (fun h' c' kp e => fin its r' hz h' c' kp e) (by simp only [List.size_toArray] <;> omega)
noncomputable def tyV (K : PySem.W.Frag) (T : String) (x : V) (H : Hp) : Prop := match x with
  | .str _ => T = "str"
  | .int _ => T = "int"
  | .ref p => (T = "list" ∧ ∃ xs, SqL K H p xs) ∨ (T = "tuple" ∧ ∃ o, K.lookup p = some o ∧ o.cls = .type "tuple" ∧ o.dict = none) ∨
      (T = "dict" ∧ ((∃ kvs, H p = some (.dK kvs)) ∨ ∃ kvs, H p = some (.dT kvs))) ∨ (T = "set" ∧ ∃ S n, H p = some (.set S n))
  | _ => False
theorem tyV_is {pins : List (Addr × Obj)} {σ : St} {H : Hp} {s : Shared} {T : String} {x : V} {v : Value} (I : Inv X pins σ H s) (r : RelV x v) (ty : tyV X.K T x H) :
    s.TypeIs v T ∧ ∀ a, v = .ref a → ∃ ob, s.heap.get? a = some ob ∧ ob.dict = none := by
  cases x with
  | str z =>
    obtain ⟨t, rfl⟩ := r
    cases (show T = "str" from ty)
    exact ⟨typeIs_str s z t, fun _ e => nomatch e⟩
  | int i =>
    obtain ⟨t, rfl⟩ := r
    cases (show T = "int" from ty)
    exact ⟨typeIs_int s i t, fun _ e => nomatch e⟩
  | ref p =>
    cases r
    rcases ty with ⟨rfl, xs, hq⟩ | ⟨rfl, o, hk, hc, hd⟩ | ⟨rfl, hk⟩ | ⟨rfl, S, n, hk⟩
    · obtain ⟨its, _, pl, _⟩ := I.list hq
      refine ⟨pl.isList.typeIs, fun a e => ?_⟩
      cases e
      obtain ⟨o, n, e, c, hd, _⟩ := pl
      exact ⟨o, e, hd⟩
    · refine ⟨⟨o, I.kIn p o hk, hc⟩, fun a e => ?_⟩
      cases e
      exact ⟨o, I.kIn _ o hk, hd⟩
    · have z : ∃ o, s.heap.get? p = some o ∧ o.ExactDict := by
        rcases hk with ⟨kvs, hk⟩ | ⟨kvs, hk⟩
        · obtain ⟨_, _, _, _, o, _, _, e, ex, _⟩ := I.hok p _ hk
          exact ⟨o, e, ex⟩
        · obtain ⟨_, _, _, _, o, _, _, e, ex, _⟩ := I.hok p _ hk
          exact ⟨o, e, ex⟩
      obtain ⟨o, e, ex⟩ := z
      refine ⟨⟨o, e, ex.1⟩, fun a e2 => ?_⟩
      cases e2
      exact ⟨o, e, ex.2.1⟩
    · obtain ⟨o, _, _, _, e, ex, _⟩ := I.hok p _ hk
      refine ⟨⟨o, e, ex.1⟩, fun a e2 => ?_⟩
      cases e2
      exact ⟨o, e, ex.2.1⟩
  | _ => exact False.elim ty
noncomputable def tBM0 (K : PySem.W.Frag) (T : String) (r : V → List V → Hp → VK → Prop) (to : TE) : TE := fun σ H Q => to σ H fun x H1 => tyV K T x H1 ∧ r x [] H1 Q
noncomputable def tBM (K : PySem.W.Frag) (T : String) (r : V → List V → Hp → VK → Prop) (to : TE) (t : TA) : TE := fun σ H Q => to σ H fun x H1 => tyV K T x H1 ∧ t σ H1 fun xs H2 => r x xs H2 Q
variable {o e : Expr} {es : List Expr} {to : TE} {t : TA} {name : Str} {apos cpos : Pos} {T id : String} {r : V → List V → Hp → VK → Prop}
theorem pe_bm0 (pa : PlainAttrs T) (slot : Slot T name id) (hty : typeOf (.builtin id) = pure (.type "method_descriptor")) (hm : MtR X id r) (ho : PE X o to)
    (hbase : attributeBase o name X.env (eval o X.env) = eval o X.env := by rfl) (hline : (apos.endLine == cpos.line) = true := by rfl) : PE X (.Call (.Attribute o name apos) [] [] cpos) (tBM0 X.K T r to) := by
  intro pins s σ H Q I h
  refine wpAny_Call_method0_late hbase hline (thn (ho pins s σ H _ I h) fun v s1 hq__ => ?_)
  obtain ⟨x, H1, I1, r1, ty, q1⟩ := hq__
  obtain ⟨h1, h2⟩ := tyV_is I1 r1 ty
  exact ⟨T, id, pa, slot, hty, h1, h2, Calls.callWith_builtin rfl (PySem.evalArgs_none (hm pins s1 σ H1 x [] v [] Q I1 r1 .nil q1))⟩
theorem pe_bm (pa : PlainAttrs T) (slot : Slot T name id) (hty : typeOf (.builtin id) = pure (.type "method_descriptor")) (hm : MtR X id r) (ho : PE X o to) (ha : PA X (e :: es) t)
    (hbase : attributeBase o name X.env (eval o X.env) = eval o X.env := by rfl)
    (hfew : ((backTo cpos (starEach (e :: es) X.env)).all (fun x => !x.1) && (backToKw cpos (keywordEach [] X.env)).all (fun x => x.1.isSome)
      && decide ((e :: es).length + ([] : List Keyword).length + (if ([] : List Keyword).isEmpty then 0 else 1) < 30)) = true := by rfl)
    (hline : (apos.endLine == cpos.line) = true := by rfl) (hs : starEach (e :: es) X.env = (false, eval e X.env) :: starEach es X.env := by rfl) (hplain : (backTo cpos (starEach es X.env)).any (·.1) = false := by rfl) :
    PE X (.Call (.Attribute o name apos) (e :: es) [] cpos) (tBM X.K T r to t) := by
  intro pins s σ H Q I h
  refine wpAny_Call_method_late hbase hfew hline rfl (thn (ho pins s σ H _ I h) fun v s1 hq__ => ?_)
  obtain ⟨x, H1, I1, r1, ty, q1⟩ := hq__
  obtain ⟨h1, h2⟩ := tyV_is I1 r1 ty
  refine ⟨T, id, pa, slot, hty, h1, h2, ?_⟩
  have hA := ha cpos pins s1 σ H1 _ I1 q1
  rw [hs] at hA ⊢
  refine Calls.callWith_builtin (by show (false || (backTo cpos (starEach es X.env)).any (·.1)) = false; rw [hplain] <;> rfl) (Calls.evalArgs_plain ?_)
  exact thn hA fun us s2 ⟨vs, H2, I2, r2, q2⟩ => hm pins s2 σ H2 x vs v us Q I2 r1 r2 q2
end
end L2
namespace L2
open PySem PySem.Spec PyProof.Rows
noncomputable def MtM (X : Cx) (id : String) (r : V → List V → Hp → VK → Prop) : Prop :=
  ∀ (pins : List (Addr × Obj)) (s : Shared) (σ : St) (H : Hp) (x : V) (xs : List V) (v : Value) (us : List Value) (Q : VK), Inv X pins σ H s → RelV x v → Vals xs us → r x xs H Q →
    wpAny (model X.prog X.w) X.A (call (.builtin id) (v :: us)) (EP X pins σ Q) X.xe s
theorem Vals.one {x : V} {us : List Value} (h : Vals [x] us) : ∃ u, us = [u] ∧ RelV x u := by
  cases h with
  | cons r t => cases t; exact ⟨_, rfl, r⟩
theorem Vals.two {x y : V} {us : List Value} (h : Vals [x, y] us) : ∃ u v, us = [u, v] ∧ RelV x u ∧ RelV y v := by
  cases h with
  | cons r t =>
    cases t with
    | cons q t => cases t; exact ⟨_, _, rfl, r, q⟩
theorem Vals.zero : ∀ {us : List Value}, Vals [] us → us = []
  | _, .nil => rfl
theorem Vals.dropLast {xs : List V} {us : List Value} (h : Vals xs us) : Vals xs.dropLast us.dropLast := by
  induction h with
  | nil => exact .nil
  | cons r t ih =>
    cases t with
    | nil => exact .nil
    | cons q t' => exact .cons r ih
theorem Vals.rep {xs : List V} {us : List Value} (h : Vals xs us) : ∀ k : Nat, Vals (List.replicate k xs).flatten (List.replicate k us).flatten
  | 0 => .nil
  | k + 1 => by
    rw [List.replicate_succ, List.replicate_succ, List.flatten_cons, List.flatten_cons]
    exact Vals.append h (Vals.rep h k)
theorem erase_last {α : Type} (l : List α) : l.eraseIdx (l.length - 1) = l.dropLast := by
  induction l with
  | nil => rfl
  | cons a r ih =>
    cases r with
    | nil => rfl
    | cons b r =>
      have e : (a :: b :: r).length - 1 = ((b :: r).length - 1) + 1 := by
        have h1 : (a :: b :: r).length = r.length + 2 := rfl
        have h2 : (b :: r).length = r.length + 1 := rfl
        omega
      rw [e, List.eraseIdx_cons_succ, ih]
      all_goals rfl
theorem foldl_rep (its : List Value) : ∀ (k : Nat) (acc : List Value),
    List.foldl (fun x1 x2 => x1 ++ x2) acc.toArray (List.replicate k its.toArray) = (acc ++ (List.replicate k its).flatten).toArray
  | 0, acc => by simp
  | k + 1, acc => by
    have e : acc.toArray ++ its.toArray = (acc ++ its).toArray := by simp
    have e2 : (acc ++ its) ++ (List.replicate k its).flatten = acc ++ (List.replicate (k + 1) its).flatten := by
      rw [List.replicate_succ, List.flatten_cons, List.append_assoc]
    rw [← e2, ← foldl_rep its k (acc ++ its), ← e, List.replicate_succ, List.foldl_cons]
section
variable {X : Cx} {pins : List (Addr × Obj)} {σ : St} {H : Hp} {s : Shared} {l b : Addr} {xs ys zs : List V}
theorem Inv.lset {its its' : List Value} {n : Nat} {f : Array Value → Array Value} {t' : Nat} (I : Inv X pins σ H s) (hH : H l = some (.lst xs))
    (e : s.heap.get? l = some { cls := .type "list", data := .seq its.toArray n }) (hf : f its.toArray = its'.toArray) (hv : Vals ys its') (hz : ys.length ≤ sizeLine) :
    Inv X pins σ (upd H l (.lst ys)) { s with heap := s.heap.update l (Obj.mapSeq f), toks := t' } := by
  have q := PySem.IsL.update e f
  rw [hf] at q
  refine I.write (x := l) (e := l) (by rw [hH]; exact trivial) (.inl rfl) (fun b' u hb hu => (Heap.get?_update_other s.heap (Obj.mapSeq f) (Ne.symm hb)).trans hu) ⟨_, q⟩ ?_
  exact ⟨hz, its', _, hv, q⟩
theorem Inv.lnew {its : List Value} {t' : Nat} (I : Inv X pins σ H s) (hv : Vals ys its) (hz : ys.length ≤ sizeLine) :
    Inv X pins σ (upd H s.heap.objs.size (.lst ys)) { s with heap := s.heap.push { cls := .type "list", data := .seq its.toArray }, toks := t' } :=
  I.laid (fun _ _ q => Heap.get?_push_of_some _ q) (Nat.le_refl _) ⟨hz, its, 0, hv, Heap.get?_push_size _ rfl⟩
theorem Inv.fresh (I : Inv X pins σ H s) : H s.heap.objs.size = none := I.hok.fresh (Nat.le_refl _)
theorem Inv.lstM (I : Inv X pins σ H s) (hH : H l = some (.lst xs)) : xs.length ≤ sizeLine ∧ ∃ (its : List Value) (n : Nat), Vals xs its ∧ xs.length = its.length ∧ s.heap.get? l = some { cls := .type "list", data := .seq its.toArray n } := by
  obtain ⟨z, its, n, r, e⟩ := I.hok l _ hH
  exact ⟨z, its, n, r, r.length, e⟩
theorem notLongL {n : Nat} (h : n ≤ sizeLine) : Builtin.List.listTooLong n = false := by
  unfold Builtin.List.listTooLong
  exact decide_eq_false (by omega)
end
section
variable {X : Cx}
noncomputable def rAppend : V → List V → Hp → VK → Prop := fun x vs H Q => ∃ l xs y, x = .ref l ∧ vs = [y] ∧ H l = some (.lst xs) ∧ xs.length < sizeLine ∧ Q .non (upd H l (.lst (xs ++ [y])))
theorem mt_append : MtM X "list.append" rAppend := by
  intro pins s σ H x vs v us Q I rx rv h
  obtain ⟨l, xs, y, rfl, rfl, hH, hz, q⟩ := h
  cases rx
  obtain ⟨u, rfl, ru⟩ := rv.one
  obtain ⟨z, its, n, r, hl, e⟩ := I.lstM hH
  refine call_meets F.slot_list_append ⟨_, e, rfl⟩ F.entry_list_append (F.args_list_append_2 _ _) (PySem.list_append l its.toArray n u (by rw [List.size_toArray]; omega)) ⟨e, ?_⟩
  refine ⟨.non, _, I.lset (its' := its ++ [u]) hH e (by simp) (r.append (.cons ru .nil)) ?_, rfl, q⟩
  rw [List.length_append, List.length_singleton]
  omega
noncomputable def rPop : V → List V → Hp → VK → Prop := fun x vs H Q => ∃ l xs y, x = .ref l ∧ vs = [] ∧ H l = some (.lst xs) ∧ xs[xs.length - 1]? = some y ∧ Q y (upd H l (.lst xs.dropLast))
theorem mt_pop : MtM X "list.pop" rPop := by
  intro pins s σ H x vs v us Q I rx rv h
  obtain ⟨l, xs, y, rfl, rfl, hH, hy, q⟩ := h
  cases rx
  have hus := rv.zero
  subst hus
  obtain ⟨z, its, n, r, hl, e⟩ := I.lstM hH
  obtain ⟨u, hu, ru⟩ := r.get hy
  have hy' : its.toArray[its.toArray.size - 1]? = some u := by
    show its.toArray[its.length - 1]? = some u
    rw [← Array.getElem?_toList, ← hl]
    exact hu
  refine call_meets F.slot_list_pop ⟨_, e, rfl⟩ F.entry_list_pop (F.args_list_pop_1 _) (MeetsSeq.list_pop_last l its.toArray n u hy' (by rw [List.size_toArray]; omega)) ⟨e, ?_⟩
  refine ⟨y, _, I.lset (its' := its.dropLast) hH e ?_ r.dropLast ?_, ru, q⟩
  · show its.toArray.eraseIdxIfInBounds (its.toArray.size - 1) = its.dropLast.toArray
    rw [List.size_toArray, List.eraseIdxIfInBounds_toArray, erase_last]
  · rw [List.length_dropLast]
    omega
theorem len_rep {α : Type} (xs : List α) (k : Nat) : (List.replicate k xs).flatten.length = k * xs.length := by
  induction k with
  | zero => simp
  | succ k ih => rw [List.replicate_succ, List.flatten_cons, List.length_append, ih, Nat.succ_mul, Nat.add_comm]
end
section
variable {prog : Program} {w : World} {A : Around} {E : Value → Shared → Prop} {s : Shared}
end
section
variable {X : Cx}
end
end L2
namespace Att
open PySem PySem.W PySem.Calls PyProof.Rows
theorem ints_of_wellAll {P : Params} {h : Heap} : ∀ (ns : List Int) (vs : List Value), WellAll P h vs (ns.map WData.int) → IntsAre vs ns := by
  intro ns
  induction ns with
  | nil =>
    intro vs w
    rw [List.map_nil] at w
    cases w
    exact .nil
  | cons n ns ih =>
    intro vs w
    rw [List.map_cons] at w
    cases w with
    | cons a b =>
      cases a
      exact .cons _ _ (ih _ b)
theorem script_of {l : OpenLaw} {n : Nat} (hn : l.most = some n) {P : Params} {h : Heap} {args : List WData} {vals : List Value}
    (hpre : l.row.toRowW.claim.pre args = true) (hwl : WellAll P h vals args) :
    ∃ a vs ns, vals = [Value.ref a] ∧ args = [WData.list (ns.map WData.int)] ∧ h.get? a = some { cls := .type "list", data := .seq vs.toArray } ∧ IntsAre vs ns ∧ ns.length ≤ n := by
  have hsh : WShape.hasAll [] args [.list .int] = true := (pre_splitW hpre).1
  have hc : l.pre.holds [] { args := args } = true := (pre_splitW hpre).2
  obtain ⟨d, r, rfl, h1, h2⟩ := hasAllW_cons hsh
  obtain rfl := hasAllW_nil h2
  obtain ⟨xs, rfl, h3⟩ := hasW_list h1
  obtain ⟨ns, rfl⟩ := items_int h3
  have hlen : ns.length ≤ n := by
    unfold OpenLaw.pre at hc
    have h4 : (WTm.not (.lt (.lit (.int (n : Int))) (.len (.arg 0)))).holds [] { args := [.list (ns.map .int)] } = true := by
      have h4 := (holds_andW hc).1
      rw [hn] at h4
      exact h4
    have h5 := condW_of h4 (w_not (w_lt w_lit (w_len_list (w_arg rfl))))
    rw [List.length_map] at h5
    refine Nat.le_of_not_lt fun q => ?_
    have q' : (n : Int) < ((ns.length : Nat) : Int) := by omega
    first
      | (rw [decide_eq_true q'] at h5; exact absurd h5 (by decide))
      | (simp at h5; omega)
  cases hwl with
  | cons w1 w2 =>
    cases w2
    cases w1 with
    | list ho hall => exact ⟨_, _, ns, rfl, rfl, ho, ints_of_wellAll ns _ hall, hlen⟩
theorem post_true (l : OpenLaw) (args : List WData) : l.row.toRowW.claim.post args (.bool true) args = true :=
  postW_of (r := l.row.toRowW) (X := (true == true))
    (show WShape.has [] (.bool true) .bool = true by first | rfl | decide | simp [WShape.has, WShape.arms, WShape.armsAll])
    (show (WTm.eq .res (.lit (.bool true))).value [] { args := args, res := some (.bool true), after := args } = some (.bool (true == true)) from w_eq_bool (w_res rfl) w_lit) rfl
theorem attach_call {l : OpenLaw} {n : Nat} {q : Program} {loose : List Str} {XP : (Str → Option Value) → Heap → Prop} {YP : World → Heap → Prop} {d : DefRec}
    (hn : l.most = some n) (hdf : d.params.defaults = [])
    (call : ∀ (w : World) (s₀ s₁ : Shared) (mg mb : Str → Option Value) (fa : Addr) (o : Obj) (pm cd doc : Value) (a : Addr) (vs : List Value) (ns : List Int),
      Ground q loose [] XP w s₀ mg mb s₁.heap → YP w s₁.heap →
      s₁.heap.get? fa = some o → o.data = .func (docDef d.name d.params d.body d.scope pm cd doc) → s₁.heap.CodeRec cd d.name → mg d.name = some (.ref fa) →
      s₁.heap.get? a = some { cls := .type "list", data := .seq vs.toArray } → IntsAre vs ns → ns.length ≤ n → s₁.gens = #[] →
      codeAny (model l.prog w) callerA (.call (.ref fa) ⟨[.ref a], []⟩) (fun r s' => r = .ok (.ret (.bool true)) ∧ OldK s₁.heap s'.heap ∧ s'.os = s₁.os ∧ AllBare s'.gens) s₁) :
    WalkO q loose XP YP l.row.toRowW d [] (fun f vs => PySem.call f vs) := by
  intro w s₀ s₁ mg mb G Y fa o pm cd doc dV kV ho hd hcd hD hmg hg args vals as hpre hlay hrd hwl hlo
  obtain rfl : dV = .none := Dflts.none hD hdf
  obtain rfl : kV = .none := Dflts.noKw hD
  obtain ⟨a, vs, ns, rfl, rfl, hobj, hints, hlen⟩ := script_of hn hpre hwl
  refine enter_call (codeAny_mono (call w s₀ s₁ mg mb fa o pm cd doc a vs ns G Y ho (fd_plain hd) hcd hmg hobj hints hlen hg) fun r s' hq => ?_)
  obtain ⟨rfl, h2, h3, h4⟩ := hq
  exact ⟨.inl ⟨.bool true, .bool true, [], rfl, fun _ => rfl, .bool true, post_true l _, fun _ => ⟨List.Pairwise.nil, fun _ hm => (nomatch hm)⟩⟩, h2, h3, h4⟩
section
variable {prog : Program} {w : World} {A : Around} {E : Value → Shared → Prop} {s : Shared} {K : Frag}
end
end Att
namespace L2
open PySem PySem.Spec PyProof.Rows
theorem vals_ints : ∀ {vs : List Value} {ns : List Int}, IntsAre vs ns → Vals (ns.map V.int) vs
  | _, _, .nil => .nil
  | _, _, .cons n t h => .cons ⟨t, rfl⟩ (vals_ints h)
end L2
namespace L2
open PySem PySem.Spec PyProof.Rows
noncomputable def defArgs (s : Stmt) : Arguments := match s with
  | .FunctionDef _ a _ _ _ _ _ _ _ _ => a
  | _ => { posonlyargs := [], args := [], vararg := none, kwonlyargs := [], kw_defaults := [], kwarg := none, defaults := [] }
noncomputable def defBody (s : Stmt) : List Stmt := match s with
  | .FunctionDef _ _ b _ _ _ _ _ _ _ => b
  | _ => []
noncomputable def defScope (s : Stmt) : Scope := match s with
  | .FunctionDef _ _ _ _ _ _ sc _ _ _ => sc
  | _ => { kind := .function, names := [], isGenerator := false, isCoroutine := false }
noncomputable abbrev CX0 : CXT := fun _ _ _ _ _ _ => False
noncomputable abbrev E0 : XK := fun _ _ _ => False
theorem pass0 {X : Cx} : Passes CX0 X E0 := fun _ _ _ _ _ _ _ h => h.elim
structure Fun (K : PySem.W.Frag) (x qual : Str) (st : Stmt) (f : Addr) (fd : FuncData) : Prop where
  ex : ∃ (oc : Value) (od : Option Addr) (kV doc pm : Value) (an : Option Addr) (cdv ct : Value) (osl : Array (Option Value)),
    fd = PySem.W.fnOf x qual (defArgs st) (defBody st) (defScope st) .none kV doc pm an cdv ct ∧ K.lookup f = some ⟨oc, od, .func fd, osl⟩ ∧ PySem.W.codeIn K cdv qual = true
  kp : PySem.W.keepIn K (.ref f) = true
section
variable {P : Program} {w : World} {K : PySem.W.Frag} {mg : Str → Option Value} {base : Heap}
theorem Fun.ok {x qual : Str} {st : Stmt} {f : Addr} {fd : FuncData} {N ps : List Str} {k : Nat} {sp : Sp} (F : Fun K x qual st f fd) (S : FnScope N ps (defScope st)) (len : ∀ vs H Q E, sp vs H Q E → vs.length = ps.length)
    (hbody : ∀ (cdv : Value) (A : Around) (outer : List Env) (s : Shared) (H : Hp) (vs : List V) (Q : VK) (E : XK), Room k (A.deeper (envOfC qual (defScope st) s.heap.objs.size f cdv)) → sp vs H Q E →
      ∃ t, PSs (cxOf CX0 P w K mg base N qual (defScope st) f cdv A outer s H E).nox (defBody st) t ∧ t { nx := fun _ H' => Q .non H', rt := Q } (start N vs) H) : FnOk P w K mg base CX0 (k + 1) f fd ps sp := by
  obtain ⟨oc, od, kV, doc, pm, an, cdv, ct, osl, rfl, lk, hcd⟩ := F.ex
  refine fn_of lk hcd S len fun A outer s H vs Q E hr hsp => ?_
  obtain ⟨t, h, q⟩ := hbody cdv A outer s H vs Q E hr hsp
  exact ⟨t, h.nox, q⟩
theorem Fun.binds {x qual : Str} {st : Stmt} {f : Addr} {fd : FuncData} {ps : List Str} (F : Fun K x qual st f fd)
    (h : ∀ (kV doc pm : Value) (an : Option Addr) (cdv ct : Value) (us : List Value), us.length = ps.length → bindArgs (PySem.W.fnOf x qual (defArgs st) (defBody st) (defScope st) .none kV doc pm an cdv ct) ⟨us, []⟩ = pure (ps.zip us)) : Binds K fd ps [] := by
  obtain ⟨oc, od, kV, doc, pm, an, cdv, ct, osl, rfl, lk, hcd⟩ := F.ex
  exact .all (h kV doc pm an cdv ct)
theorem fun_mk {x qual : Str} {st : Stmt} {f : Addr} {oc : Value} {od an : Option Addr} {osl : Array (Option Value)} {kV doc pm cdv ct : Value} (l : K.lookup f = some ⟨oc, od, .func (PySem.W.fnOf x qual (defArgs st) (defBody st) (defScope st) .none kV doc pm an cdv ct), osl⟩)
    (c : PySem.W.codeIn K cdv qual = true) (k : PySem.W.keepIn K (.ref f) = true) : Fun K x qual st f (PySem.W.fnOf x qual (defArgs st) (defBody st) (defScope st) .none kV doc pm an cdv ct) := ⟨⟨oc, od, kV, doc, pm, an, cdv, ct, osl, rfl, l, c⟩, k⟩
end
section
variable {X : Cx}
end
theorem iteF {A B : Prop} (h : B) : if false = true then A else B := by
  rw [if_neg Bool.false_ne_true]
  exact h
theorem iteT {A B : Prop} (h : A) : if true = true then A else B := by
  rw [if_pos rfl]
  exact h
noncomputable def Same (H H' : Hp) : Prop := ∀ b o, H b = some o → H' b = some o
theorem Same.refl (H : Hp) : Same H H := fun _ _ h => h
theorem Same.trans {H H1 H2 : Hp} (a : Same H H1) (b : Same H1 H2) : Same H H2 := fun c o h => b c o (a c o h)
theorem Same.free {H H' : Hp} (e : Same H H') {l : Addr} (h : H' l = Option.none) : H l = Option.none := by
  cases q : H l with
  | none => rfl
  | some o =>
    rw [e l o q] at h
    cases h
theorem Same.seq {K : PySem.W.Frag} {H H' : Hp} {a : Addr} {xs : List V} (e : Same H H') (h : SqL K H a xs) : SqL K H' a xs := by
  rcases h with (h | ⟨o, h⟩) | h
  · exact .inl (.inl (e _ _ h))
  · exact .inl (.inr ⟨o, e _ _ h⟩)
  · exact .inr h
end L2
set_option maxHeartbeats 4000000
namespace L2
open PySem PySem.Spec PyProof.Rows
noncomputable def Cx.comp (X : Cx) (scope : Scope) (tn : List Str) (ix : List Nat) (cl : List (Str × Addr)) (C : Addr) (s₂ : Shared) (H₂ : Hp) (fp : List Addr) : Cx where
  prog := X.prog
  w := X.w
  K := X.K
  mg := X.mg
  base := X.base
  A := X.A
  N := tn ++ ix.map fun i => X.N.getD i Str.empty
  s₀ := s₂
  H₀ := H₂
  env := compEnvC scope cl C X.env
  outer := X.stack
  stack := X.stack
  ex := fp
  fn := fun x => scope.names.lookup x == some .cell
  calm := X.calm
  pn := []
  xe := fun _ _ => False
noncomputable def blockSt (tn : List Str) (ix : List Nat) (σ : St) : St := List.replicate tn.length none ++ ix.map fun i => (σ[i]?).join
noncomputable def PIfs (X : Cx) (ifs : List Expr) (t : TT) : Prop :=
  ∀ (pins : List (Addr × Obj)) (s : Shared) (σ : St) (H : Hp) (Q : Bool → Hp → Prop), Inv X pins σ H s → t σ H Q →
    wpAny (model X.prog X.w) X.A (forIn ifs true fun c r => if r = true then do let ok ← isTrue c X.env (eval c X.env); pure (ForInStep.yield ok) else pure (ForInStep.yield r)) (TP X pins σ Q) X.xe s
noncomputable def tYes : TT := fun _ H Q => Q true H
theorem pifs_nil {X : Cx} : PIfs X [] tYes := fun _ _ _ H _ I h => wpAny_tests_nil ⟨H, I, h⟩
theorem pifs_one {X : Cx} {c : Expr} {t : TT} (h : PT X c t) : PIfs X [c] t := fun pins s σ H Q I q => wpAny_tests_one (h pins s σ H Q I q)
noncomputable def CompGo (tn : List Str) (ix : List Nat) (g : TG) (tt : TT) (te : TE) (σ : St) (Q : VK) (J : It) (H1 : Hp) : Prop := ∀ D, H1 D = none →
  ∃ W : Nat → Nat → St → List V → Hp → Prop, (∃ m, W 0 m (blockSt tn ix σ) [] (upd H1 D (.lst []))) ∧ ∀ i m σb acc H2, W i m σb acc H2 → H2 D = some (.lst acc) ∧
    ((J.stop i H2 ∧ Q (.ref D) H2) ∨ (J.go i H2 ∧ acc.length < sizeLine ∧ ∀ x H3, J.yld i H2 x H3 → g x σb H3 fun σ4 H4 => tt σ4 H4 fun b H5 =>
      if b = true then te σ4 H5 fun v H6 => H6 D = some (.lst acc) ∧ ∃ m', m' < m ∧ W (i + 1) m' σ4 (acc ++ [v]) (upd H6 D (.lst (acc ++ [v]))) else ∃ m', m' < m ∧ W (i + 1) m' σ4 acc H5))
noncomputable def tComp (tn : List Str) (ix : List Nat) (wi : TI) (g : TG) (tt : TT) (te : TE) : TE := fun σ H Q => wi σ H (CompGo tn ix g tt te σ Q)
theorem closureFor_ok {scope : Scope} {env : Env} (h : ∀ x ∈ scope.names, x.2 = .free → ∃ c, env.cells.lookup x.1 = some c) :
    ∃ cl, closureFor scope env = pure cl ∧ (∀ x c, cl.lookup x = some c → env.cells.lookup x = some c) ∧ ∀ x ∈ scope.names, x.2 = .free → ∃ c, cl.lookup x.1 = some c := by
  have all : ∀ (l : List (Str × NameKind)) (acc : List (Str × Addr)), (∀ x ∈ l, x.2 = .free → ∃ c, env.cells.lookup x.1 = some c) → (∀ x c, acc.lookup x = some c → env.cells.lookup x = some c) →
      ∃ cl, (forIn l acc fun (x : Str × NameKind) (r : List (Str × Addr)) => (if (x.2 == NameKind.free) = true then (do let a ← cellOf env x.1; pure (ForInStep.yield ((x.1, a) :: r))) else pure (ForInStep.yield r) : Sem (ForInStep (List (Str × Addr))))) = pure cl ∧
        (∀ x c, cl.lookup x = some c → env.cells.lookup x = some c) ∧ (∀ x ∈ l, x.2 = .free → ∃ c, cl.lookup x.1 = some c) ∧ ∀ x, (∃ c, acc.lookup x = some c) → ∃ c, cl.lookup x = some c := by
    intro l
    induction l with
    | nil => intro acc _ ha; exact ⟨acc, rfl, ha, fun x hx => absurd hx (by simp), fun x hx => hx⟩
    | cons y r ih =>
      intro acc hl ha
      obtain ⟨n, k⟩ := y
      by_cases hk : k = .free
      · subst hk
        obtain ⟨c, hc⟩ := hl (n, .free) (by simp) rfl
        have ha' : ∀ x c', List.lookup x ((n, c) :: acc) = some c' → env.cells.lookup x = some c' := fun x c' e => by
          rw [List.lookup_cons] at e
          cases hx : x == n with
          | true =>
            rw [hx] at e
            have e1 : x = n := beq_iff_eq.mp hx
            cases e
            rw [e1]
            exact hc
          | false => rw [hx] at e; exact ha x c' e
        obtain ⟨cl, e1, e2, e3, e4⟩ := ih ((n, c) :: acc) (fun x hx => hl x (List.mem_cons_of_mem _ hx)) ha'
        have ec : cellOf env n = pure c := by unfold cellOf; rw [hc]
        refine ⟨cl, ?_, e2, fun x hx hf => ?_, fun x ⟨c', hc'⟩ => ?_⟩
        · rw [List.forIn_cons]
          simp only [ec, beq_self_eq_true, if_true, pure_bind]
          exact e1
        · rcases List.mem_cons.mp hx with rfl | hx
          · exact e4 n ⟨c, by simp⟩
          · exact e3 x hx hf
        · refine e4 x ?_
          rw [List.lookup_cons]
          cases x == n with
          | true => exact ⟨c, rfl⟩
          | false => exact ⟨c', hc'⟩
      · have hb : (k == NameKind.free) = false := by simpa using hk
        obtain ⟨cl, e1, e2, e3, e4⟩ := ih acc (fun x hx => hl x (List.mem_cons_of_mem _ hx)) ha
        refine ⟨cl, ?_, e2, fun x hx hf => ?_, e4⟩
        · rw [List.forIn_cons]
          simp only [hb, Bool.false_eq_true, if_false, pure_bind]
          exact e1
        · rcases List.mem_cons.mp hx with rfl | hx
          · exact absurd hf hk
          · exact e3 x hx hf
  obtain ⟨cl, e1, e2, e3, _⟩ := all scope.names [] h (fun x c e => by simp at e)
  refine ⟨cl, ?_, e2, e3⟩
  unfold closureFor
  refine Eq.trans (b := forIn scope.names ([] : List (Str × Addr)) _ >>= pure) rfl ?_
  have e0 := congrArg (· >>= (pure : List (Str × Addr) → Sem (List (Str × Addr)))) e1
  first
    | (simp only [pure_bind] at e0; exact e0)
    | exact e0.trans (pure_bind _ _)
theorem lookup_relabel_free {env : Env} : ∀ {names : List (Str × NameKind)} {x : Str}, names.lookup x = some .free →
    (names.map fun (n, k) => if (k == NameKind.free && env.scope.kind == .function && env.kindOf n == some .cell) then (n, NameKind.cell) else (n, k)).lookup x = some .cell ∨
    (names.map fun (n, k) => if (k == NameKind.free && env.scope.kind == .function && env.kindOf n == some .cell) then (n, NameKind.cell) else (n, k)).lookup x = some .free
  | [], _, h => by simp at h
  | (n, k) :: r, x, h => by
    have ih := @lookup_relabel_free env r x
    show List.lookup x ((if (k == NameKind.free && env.scope.kind == .function && env.kindOf n == some .cell) = true then (n, NameKind.cell) else (n, k)) :: _) = _ ∨ List.lookup x ((if (k == NameKind.free && env.scope.kind == .function && env.kindOf n == some .cell) = true then (n, NameKind.cell) else (n, k)) :: _) = _
    cases hx : x == n with
    | true =>
      simp only [List.lookup_cons, hx] at h
      cases h
      by_cases hc : (NameKind.free == NameKind.free && env.scope.kind == .function && env.kindOf n == some .cell) = true
      · rw [if_pos hc]; exact .inl (by simp [List.lookup_cons, hx])
      · rw [if_neg hc]; exact .inr (by simp [List.lookup_cons, hx])
    | false =>
      simp only [List.lookup_cons, hx] at h
      by_cases hc : (k == NameKind.free && env.scope.kind == .function && env.kindOf n == some .cell) = true
      · rw [if_pos hc]; simp only [List.lookup_cons, hx]; exact ih h
      · rw [if_neg hc]; simp only [List.lookup_cons, hx]; exact ih h
noncomputable def compOk (X : Cx) (scope : Scope) (ix : List Nat) : Bool :=
  scope.kind == .function && scope.names.all (fun y => scope.names.lookup y.1 == some y.2 && (y.2 != .free || (X.env.scope.names.lookup y.1 == some .cell || X.env.scope.names.lookup y.1 == some .free)) && (y.2 != .local || scope.names.lookup y.1 == some .local)) &&
  ix.all fun i => match X.N[i]? with
    | some x => scope.names.lookup x == some .free
    | none => false
structure CompOk (X : Cx) (scope : Scope) (ix : List Nat) : Prop where
  kind : scope.kind = .function
  one : ∀ y ∈ scope.names, scope.names.lookup y.1 = some y.2
  free : ∀ y ∈ scope.names, y.2 = .free → X.env.scope.names.lookup y.1 = some .cell ∨ X.env.scope.names.lookup y.1 = some .free
  loc : ∀ y ∈ scope.names, y.2 = .local → scope.names.lookup y.1 = some .local
  ix : ∀ i ∈ ix, ∃ x, X.N[i]? = some x ∧ scope.names.lookup x = some .free
theorem compOk.of {X : Cx} {scope : Scope} {ix : List Nat} (h : compOk X scope ix = true) : CompOk X scope ix := by
  unfold compOk at h
  rw [Bool.and_eq_true, Bool.and_eq_true] at h
  obtain ⟨⟨h1, h2⟩, h3⟩ := h
  rw [List.all_eq_true] at h2 h3
  have g : ∀ y ∈ scope.names, (scope.names.lookup y.1 = some y.2 ∧ (y.2 = .free → X.env.scope.names.lookup y.1 = some .cell ∨ X.env.scope.names.lookup y.1 = some .free)) ∧ (y.2 = .local → scope.names.lookup y.1 = some .local) := fun y hy => by
    have q := h2 y hy
    rw [Bool.and_eq_true, Bool.and_eq_true, Bool.or_eq_true, Bool.or_eq_true, Bool.or_eq_true] at q
    obtain ⟨⟨q1, q2⟩, q3⟩ := q
    refine ⟨⟨by simpa using q1, fun e => ?_⟩, fun e => ?_⟩
    · rcases q2 with q2 | q2 | q2
      · exact absurd e (by simpa using q2)
      · exact .inl (by simpa using q2)
      · exact .inr (by simpa using q2)
    · rcases q3 with q3 | q3
      · exact absurd e (by simpa using q3)
      · simpa using q3
  refine ⟨by simpa using h1, fun y hy => (g y hy).1.1, fun y hy => (g y hy).1.2, fun y hy => (g y hy).2, fun i hi => ?_⟩
  have q := h3 i hi
  cases e : X.N[i]? with
  | none => rw [e] at q; cases q
  | some x => rw [e] at q; exact ⟨x, rfl, by simpa using q⟩
section
variable {X : Cx} {pins : List (Addr × Obj)} {σ : St} {H : Hp} {s : Shared} {scope : Scope} {tn : List Str} {ix : List Nat} {cl : List (Str × Addr)} {C D : Addr} {fp : List Addr} {h₁ : Heap} {tk : Nat}
theorem Inv.block (S : CompOk X scope ix) (I : Inv X pins σ H s) (hcl0 : ∀ x c, cl.lookup x = some c → (X.env.cells.lookup x = some c ∧ scope.names.lookup x ≠ some .cell) ∨ (scope.names.lookup x = some .cell ∧ s.heap.objs.size ≤ c ∧ c ≠ D ∧ h₁.IsCell c none))
    (hinj : ∀ x y c, cl.lookup x = some c → cl.lookup y = some c → scope.names.lookup x = some .cell → scope.names.lookup y = some .cell → x = y) (hcl3 : ∀ x, scope.names.lookup x = some .cell → ∃ c, cl.lookup x = some c) (hcl2 : ∀ x ∈ scope.names, x.2 = .free → ∃ c, cl.lookup x.1 = some c)
    (hfp : ∀ b ∈ fp, FpOk X pins H b) (hfo : ∀ b ∈ fp, ∃ o, s.heap.get? b = some o) (old : ∀ b o, s.heap.get? b = some o → h₁.get? b = some o) (hD : s.heap.objs.size ≤ D) (hC : s.heap.objs.size ≤ C) (hDC : D ≠ C)
    (hd : h₁.get? D = some { cls := .type "list", data := .seq ([] : List Value).toArray }) (hn : ∃ m, h₁.Ns C m) :
    Inv (X.comp scope tn ix cl C s H fp) [] (blockSt tn ix σ) (upd H D (.lst [])) { s with heap := h₁, toks := tk } := by
  have frD : H D = none := I.hok.fresh hD
  have frC : H C = none := I.hok.fresh hC
  have lt_of : ∀ x c, X.env.cells.lookup x = some c → c < s.heap.objs.size := fun x c e => by
    obtain ⟨v, q⟩ := I.cell x c e
    exact q.lt
  have hcl : ∀ x c, scope.names.lookup x = some .free → cl.lookup x = some c → X.env.cells.lookup x = some c := fun x c hx e => by
    rcases hcl0 x c e with z | z
    · exact z.1
    · rw [hx] at z; cases z.1
  have ok : (X.comp scope tn ix cl C s H fp).Ok := by
    refine ⟨I.ok.mod, S.kind, I.ok.glob, I.ok.blt, hC, fun x y c h1 h2 => ?_, fun x hx => ?_, fun x c h e => ?_, I.ok.hd, I.ok.frames, .inl rfl, fun b hb => ⟨?_, fun x c e => ?_⟩, I.bs,
      Nat.le_trans I.ok.bsz I.sz, fun b o e hb => ?_, fun b hb hf => ?_, I.stack, I.stkFree, fun P h => I.base.tbls _ _ (I.ok.tabs P h)⟩
    · rcases hcl0 x c h1 with z1 | z1 <;> rcases hcl0 y c h2 with z2 | z2
      · exact I.ok.inj x y c z1.1 z2.1
      · exact absurd (lt_of x c z1.1) (Nat.not_lt.mpr z2.2.1)
      · exact absurd (lt_of y c z2.1) (Nat.not_lt.mpr z1.2.1)
      · exact hinj x y c h1 h2 z1.1 z2.1
    · -- a cell or a free name of the block has its cell
      have hx' : (scope.names.map fun (n, k) => if (k == NameKind.free && X.env.scope.kind == .function && X.env.kindOf n == some .cell) then (n, NameKind.cell) else (n, k)).lookup x = some .cell ∨
          (scope.names.map fun (n, k) => if (k == NameKind.free && X.env.scope.kind == .function && X.env.kindOf n == some .cell) then (n, NameKind.cell) else (n, k)).lookup x = some .free := hx
      have hm : ∃ k, (x, k) ∈ (scope.names.map fun (n, k) => if (k == NameKind.free && X.env.scope.kind == .function && X.env.kindOf n == some .cell) then (n, NameKind.cell) else (n, k)) ∧ (k = .cell ∨ k = .free) := by
        rcases hx' with h | h
        · exact ⟨_, PySem.mem_of_lookup h, .inl rfl⟩
        · exact ⟨_, PySem.mem_of_lookup h, .inr rfl⟩
      obtain ⟨k, hm, hk⟩ := hm
      obtain ⟨⟨n, k'⟩, hy, e⟩ := List.mem_map.mp hm
      dsimp only at e
      by_cases hc : (k' == NameKind.free && X.env.scope.kind == .function && X.env.kindOf n == some .cell) = true
      · rw [if_pos hc] at e
        cases e
        rw [Bool.and_eq_true, Bool.and_eq_true] at hc
        exact hcl2 _ hy (by simpa using hc.1.1)
      · rw [if_neg hc] at e
        cases e
        rcases hk with hk | hk
        · exact hcl3 _ (by rw [← hk]; exact S.one _ hy)
        · exact hcl2 _ hy hk
    · rcases hcl0 x c e with z | z
      · have h : (scope.names.lookup x == some NameKind.cell) = true := h
        exact absurd (by simpa using h) z.2
      · exact z.2.1
    · intro z
      obtain ⟨o, e⟩ := hfo b hb
      exact absurd (Nat.lt_of_lt_of_le (Heap.lt_size e) (by show s.heap.objs.size ≤ b; rw [z]; exact hC)) (Nat.lt_irrefl _)
    · rcases hcl0 x c e with z | z
      · exact (hfp b hb).2.2.2.2.1 x c z.1
      · intro y
        obtain ⟨o, e'⟩ := hfo b hb
        have q := Heap.lt_size e'
        rw [← y] at q
        exact absurd q (Nat.not_lt.mpr z.2.1)
    · rcases (hfp b hb).2.2.2.1 with z | z
      · exact I.ok.noex b o e z
      · exact absurd (Nat.lt_of_lt_of_le (Heap.lt_size (I.ok.bs b o e).1) z) (Nat.lt_irrefl _)
    · rcases List.mem_cons.mp (I.stkSub b hf) with z | z
      · exact (hfp b hb).2.1 z
      · exact (hfp b hb).2.2.1 z
  refine ⟨ok, rfl, I.bare, Un.laid old hD frD, ?_, fun x c e => ?_, ?_, fun x c e => ?_, fun p hp => absurd (show p ∈ ([] : List (Addr × Obj)) from hp) (by simp), ?_, ?_⟩
  · obtain ⟨m, hn⟩ := hn
    refine ⟨m, hn, fun i x v e1 e2 e3 => ?_⟩
    have hi : tn.length ≤ i := by
      rcases Nat.lt_or_ge i tn.length with hi | hi
      · have e2' : (List.replicate tn.length none ++ ix.map fun i => (σ[i]?).join)[i]? = some (some v) := e2
        rw [List.getElem?_append_left (by simpa using hi), List.getElem?_replicate, if_pos hi] at e2'
        cases e2'
      · exact hi
    have e1' : (tn ++ ix.map fun i => X.N.getD i Str.empty)[i]? = some x := e1
    have e2' : (List.replicate tn.length none ++ ix.map fun i => (σ[i]?).join)[i]? = some (some v) := e2
    rw [List.getElem?_append_right hi, List.getElem?_map] at e1'
    rw [List.getElem?_append_right (by simpa using hi), List.getElem?_map, List.length_replicate] at e2'
    cases ek : ix[i - tn.length]? with
    | none => rw [ek] at e1'; cases e1'
    | some k =>
      rw [ek] at e1' e2'
      have e1'' : X.N.getD k Str.empty = x := Option.some.inj e1'
      have e2'' : (σ[k]?).join = some v := Option.some.inj e2'
      have e2s : σ[k]? = some (some v) := by
        cases q : σ[k]? with
        | none => rw [q] at e2''; cases e2''
        | some o => rw [q] at e2''; have : o = some v := e2''; rw [this]
      obtain ⟨x', hx', hfx⟩ := S.ix k (List.mem_of_getElem? ek)
      have exx : x' = x := by
        rw [← e1'', List.getD_eq_getElem?_getD, hx']
        rfl
      subst exx
      have hfr := S.free _ (PySem.mem_of_lookup hfx) rfl
      obtain ⟨m0, hn0, hl0⟩ := I.loc
      obtain ⟨u, ru, lk⟩ := hl0 k x' v hx' e2s (.inr hfr)
      refine ⟨u, ru, ?_⟩
      rcases lk with ⟨kl, _⟩ | ⟨kc, c, ec, ic⟩
      · exfalso
        have kl' : X.env.scope.names.lookup x' = some .local := kl
        rcases hfr with z | z <;> rw [z] at kl' <;> cases kl'
      · obtain ⟨c', ec'⟩ := hcl2 _ (PySem.mem_of_lookup hfx) rfl
        have ecc : c' = c := by
          have q := hcl x' c' hfx ec'
          rw [ec] at q
          exact (Option.some.inj q).symm
        subst ecc
        refine .inr ⟨lookup_relabel_free hfx, c', ec', ?_⟩
        obtain ⟨o, ho, hdat⟩ := ic
        exact ⟨o, old _ _ ho, hdat⟩
  · rcases hcl0 x c e with z | z
    · obtain ⟨v, o, ho, hdat⟩ := I.cell x c z.1
      exact ⟨v, o, old _ _ ho, hdat⟩
    · exact ⟨_, z.2.2.2⟩
  · show upd H D (.lst []) C = none
    rw [upd_ne (Ne.symm hDC)]
    exact frC
  · show upd H D (.lst []) c = none
    rcases hcl0 x c e with z | z
    · rw [upd_ne (Nat.ne_of_lt (Nat.lt_of_lt_of_le (lt_of x c z.1) hD))]
      exact I.freeC x c z.1
    · rw [upd_ne z.2.2.1]
      exact I.hok.fresh z.2.1
  · exact I.hok.laid old hD ⟨Nat.zero_le _, [], 0, .nil, hd⟩
  · show (blockSt tn ix σ).length = (tn ++ ix.map fun i => X.N.getD i Str.empty).length
    unfold blockSt
    rw [List.length_append, List.length_append, List.length_replicate, List.length_map, List.length_map]
end
end L2
namespace L2
open PySem PySem.Spec PyProof.Rows
theorem compLoop_any {prog : Program} {w : World} {A : Around} {R : Result → Shared → Prop} {s : Shared} {elt target iter : Expr} {ifs : List Expr} {scope : Scope} {pos : Pos} {it acc : Value} {env : Env} (I : Nat → Shared → Prop)
    (turn : ∀ n s, I n s → wpAny (model prog w) A (pyNext it) (fun r s₁ => match r with
      | none => R (.ok .next) s₁
      | some v => wpAny (model prog w) A (letOwnedTupleGo target it v) (fun _ s₁' => wpAny (model prog w) A (assign target env v) (fun _ s₂ =>
          wpAny (model prog w) A (forIn ifs true fun c r => if r = true then do let ok ← isTrue c env (eval c env); pure (ForInStep.yield ok) else pure (ForInStep.yield r)) (fun ok s₃ =>
            if ok = true then wpAny (model prog w) A (eval elt env) (fun x s₄ =>
              wpAny (model prog w) A (call (.builtin "list.append") [acc, x]) (fun _ s₅ => ∃ m, m < n ∧ I m s₅) (fun _ _ => False) s₄) (fun _ _ => False) s₃
            else ∃ m, m < n ∧ I m s₃) (fun _ _ => False) s₂) (fun _ _ => False) s₁') (fun _ _ => False) s₁) (fun _ _ => False) s)
    (n : Nat) (h : I n s) :
    codeAny (model prog w) A (.compLoop (.ListComp elt [⟨target, iter, ifs, 0⟩] scope pos) 0 it acc env) R s := by
  refine codeAny_loop rfl I (fun n s hI => ?_) n h
  show wpAny _ A ((compTurn (.ListComp elt [⟨target, iter, ifs, 0⟩] scope pos) 0 it acc env).onRaise (fun x => do noteFrame x env; theTreesLotGoes x)) _ _ s
  refine wpAny_noted ?_
  rw [compTurn_list]
  refine wpAny_bind (wpAny_standAt (wpAny_bind (wpAny_mono (turn n s hI) (fun r s₁ h₁ => ?_) fun _ _ f => f.elim)))
  cases r with
  | none => exact wpAny_pure h₁
  | some v =>
    refine wpAny_bind (wpAny_mono h₁ (fun _ s₁' h₁' => ?_) fun _ _ f => f.elim)
    refine wpAny_bind (wpAny_mono h₁' (fun _ s₂ h₂ => wpAny_bind (wpAny_mono h₂ (fun ok s₃ h₃ => ?_) fun _ _ f => f.elim)) fun _ _ f => f.elim)
    cases ok with
    | false => exact wpAny_pure ⟨rfl, h₃⟩
    | true =>
      exact wpAny_bind (wpAny_bind (wpAny_mono h₃ (fun x s₄ h₄ => wpAny_bind (wpAny_mono h₄ (fun _ s₅ h₅ => wpAny_pure (wpAny_pure ⟨rfl, h₅⟩)) fun _ _ f => f.elim)) fun _ _ f => f.elim))
section
variable {X : Cx} {pins : List (Addr × Obj)} {σ : St} {H : Hp} {s : Shared} {scope : Scope} {tn : List Str} {ix : List Nat} {elt tg iter : Expr} {ifs : List Expr} {pos : Pos} {wi : TI} {g : TG} {tt : TT} {te : TE} {Q : VK}
theorem cells_app {c0 : List (Str × Addr)} : ∀ {l : List (Str × NameKind)} {n : Nat} {acc : List (Str × Addr)}, cellsFrom n l (acc ++ c0) = cellsFrom n l acc ++ c0
  | [], n, acc => rfl
  | (y, k) :: l, n, acc => by
    unfold cellsFrom
    by_cases hk : (k == .cell) = true
    · rw [if_pos hk, if_pos hk]
      exact cells_app (l := l) (n := n + 1) (acc := (y, n) :: acc)
    · rw [if_neg hk, if_neg hk]
      exact cells_app (l := l)
theorem cells_mem {x : Str} {c : Addr} : ∀ {l : List (Str × NameKind)} {n : Nat} {acc : List (Str × Addr)}, (x, c) ∈ cellsFrom n l acc → (x, c) ∈ acc ∨ (x, NameKind.cell) ∈ l
  | [], n, acc, h => .inl h
  | (y, k) :: l, n, acc, h => by
    unfold cellsFrom at h
    by_cases hk : (k == .cell) = true
    · rw [if_pos hk] at h
      rcases cells_mem (l := l) h with z | z
      · rcases List.mem_cons.mp z with e | z
        · cases e
          exact .inr (by rw [show k = NameKind.cell by simpa using hk]; exact List.mem_cons_self)
        · exact .inl z
      · exact .inr (List.mem_cons_of_mem _ z)
    · rw [if_neg hk] at h
      rcases cells_mem (l := l) h with z | z
      · exact .inl z
      · exact .inr (List.mem_cons_of_mem _ z)
theorem apart_inj {x y : Str} {c : Addr} : ∀ {cs : List (Str × Addr)}, cs.Pairwise (fun x y => x.2 ≠ y.2) → (x, c) ∈ cs → (y, c) ∈ cs → x = y
  | [], _, h, _ => nomatch h
  | z :: cs, h, h1, h2 => by
    obtain ⟨h3, h4⟩ := List.pairwise_cons.mp h
    rcases List.mem_cons.mp h1 with e1 | e1
    · rcases List.mem_cons.mp h2 with e2 | e2
      · rw [← e1] at e2; cases e2; rfl
      · rw [← e1] at h3; exact (h3 (y, c) e2 rfl).elim
    · rcases List.mem_cons.mp h2 with e2 | e2
      · rw [← e2] at h3; exact (h3 (x, c) e1 rfl).elim
      · exact apart_inj h4 e1 e2
theorem env_cells {M : Model} {A : Around} {E : Value → Shared → Prop} {s : Shared} {scope : Scope} {globals : Addr} {cl : List (Str × Addr)} {qual : Str} {env : Env} {Q : Env → Shared → Prop}
    (h : Q (newEnv scope s.heap.objs.size globals (cellsFrom (s.heap.objs.size + 1) scope.names cl) qual none .none (some env) builtinsNs) { s with heap := pushCells (s.heap.push { cls := .type "dict", data := .dict #[] }) scope.names }) :
    wpAny M A (newFunctionEnv scope globals cl [] qual none .none (some env)) Q E s := by
  simp only [newFunctionEnv, Option.isSome_some, if_true]
  refine wpAny_bind (wpAny_alloc (wpAny_bind (wpAny_layCells _ (fun name kind cells => by cases hkc : kind == NameKind.cell <;> simp [hkc]) _ _ _ _ ?_)))
  rw [show ({ s with heap := s.heap.push { cls := .type "dict", data := .dict #[] } } : Shared).heap.objs.size = s.heap.objs.size + 1 from Heap.size_push ..]
  exact wpAny_bind (wpAny_pure (wpAny_pure h))
theorem comp_core (S : CompOk X scope ix) (hc : X.calm = true) (hi : PI X tg iter wi)
    (hg : ∀ cl C s₂ H₂ fp, PG (X.comp scope tn ix cl C s₂ H₂ fp) tg g) (ht : ∀ cl C s₂ H₂ fp, PIfs (X.comp scope tn ix cl C s₂ H₂ fp) ifs tt) (he : ∀ cl C s₂ H₂ fp, PE (X.comp scope tn ix cl C s₂ H₂ fp) elt te)
    {P : Value → Addr → Result → Shared → Prop} (I : Inv X pins σ H s) (h : tComp tn ix wi g tt te σ H Q)
    (hP : ∀ D C s' H', Inv X pins σ H' s' → (∃ m, s'.heap.Ns C m) → FpOk X pins H' C → Q (.ref D) H' → P (.ref D) C (.ok .next) s') :
    ∃ cl, closureFor scope X.env = pure cl ∧ wpAny (model X.prog X.w) X.A (eval iter X.env) (fun x s₁ => wpAny (model X.prog X.w) X.A (pyIter x) (fun it s₂ => wpAny (model X.prog X.w) X.A (newList []) (fun acc s₃ =>
      wpAny (model X.prog X.w) X.A (newFunctionEnv scope X.env.globals cl [] X.env.qual none .none (some X.env)) (fun cenv s₄ =>
        codeAny (model X.prog X.w) X.A (.compStart (.ListComp elt [⟨tg, iter, ifs, 0⟩] scope pos) 0 it acc { cenv with scope := relabel scope X.env }) (P acc cenv.locals) s₄) X.xe s₃) X.xe s₂) X.xe s₁) X.xe s := by
  obtain ⟨cl, hcl, hc1, hc2⟩ := closureFor_ok (scope := scope) (env := X.env) fun x hx hf => I.ok.has x.1 (S.free x hx hf)
  refine ⟨cl, hcl, thn (hi pins s σ H _ I h) fun v s1 h1 => thn h1 fun itv s2 h2 => ?_⟩
  obtain ⟨it, fp, tnn, J, H2, e, I2, T, st2, f2, R⟩ := h2
  subst e
  refine wpAny_newObj_type (env_cells ?_)
  dsimp only
  generalize hHH : s2.heap.push { cls := .type "list", dict := none, data := .seq ([] : List Value).toArray } = HH
  have hCs : HH.objs.size = s2.heap.objs.size + 1 := by rw [← hHH, Heap.size_push]
  have hDC : s2.heap.objs.size ≠ HH.objs.size := by rw [hCs]; exact Nat.ne_of_lt (Nat.lt_succ_self _)
  have hCle : s2.heap.objs.size ≤ HH.objs.size := by rw [hCs]; exact Nat.le_succ _
  have oldH : ∀ b o, HH.get? b = some o → (pushCells (HH.push { cls := .type "dict", data := .dict #[] }) scope.names).get? b = some o := fun b o e => pushCells_keeps _ _ b o (Heap.get?_push_of_some _ e)
  have hns₁ : (pushCells (HH.push { cls := .type "dict", data := .dict #[] }) scope.names).Ns HH.objs.size (fun _ => none) := (Heap.Ns.new HH (.type "dict")).keeps (pushCells_keeps _ _)
  have okc := cellsFrom_ok scope.names (HH.push { cls := .type "dict", data := .dict #[] }) (HH.objs.size + 1) [] ⟨fun _ _ hm => (nomatch hm), List.Pairwise.nil⟩ (by rw [Heap.size_push]; exact Nat.le_refl _)
  rw [Heap.size_push] at okc
  have eCL : cellsFrom (HH.objs.size + 1) scope.names cl = cellsFrom (HH.objs.size + 1) scope.names [] ++ cl := cells_app (acc := [])
  have spl : ∀ x c, (cellsFrom (HH.objs.size + 1) scope.names cl).lookup x = some c → (scope.names.lookup x = some .cell ∧ (x, c) ∈ cellsFrom (HH.objs.size + 1) scope.names []) ∨ (cl.lookup x = some c ∧ scope.names.lookup x ≠ some .cell) := fun x c e => by
    rw [eCL, List.lookup_append] at e
    cases q : (cellsFrom (HH.objs.size + 1) scope.names []).lookup x with
    | none =>
      rw [q] at e
      refine .inr ⟨e, fun z => ?_⟩
      have := PySem.W.cellsFrom_some scope.names (HH.objs.size + 1) [] (.inl z)
      rw [q] at this
      cases this
    | some d =>
      rw [q] at e
      have e : some d = some c := e
      cases e
      have m := PySem.mem_of_lookup q
      rcases cells_mem m with z | z
      · nomatch z
      · exact .inl ⟨S.one _ z, m⟩
  have has : ∀ x, scope.names.lookup x = some .cell ∨ (cl.lookup x).isSome = true → ∃ c, (cellsFrom (HH.objs.size + 1) scope.names cl).lookup x = some c := fun x z => Option.isSome_iff_exists.mp (PySem.W.cellsFrom_some scope.names (HH.objs.size + 1) cl z)
  generalize hCL : cellsFrom (HH.objs.size + 1) scope.names cl = CL at spl has ⊢
  generalize hh1 : pushCells (HH.push { cls := .type "dict", data := .dict #[] }) scope.names = h₁ at oldH hns₁ okc ⊢
  have old : ∀ b o, s2.heap.get? b = some o → h₁.get? b = some o := fun b o e => oldH b o (hHH ▸ Heap.get?_push_of_some _ e)
  have hacc : h₁.get? s2.heap.objs.size = some { cls := .type "list", data := .seq ([] : List Value).toArray } := oldH _ _ (hHH ▸ Heap.get?_push_size _ rfl)
  have hfo : ∀ b ∈ fp, ∃ o, s2.heap.get? b = some o := fun b hb => let ⟨o, e, _⟩ := T.obj _ _ st2 b hb; ⟨o, e⟩
  obtain ⟨W, ⟨m0, w0⟩, turn⟩ := R s2.heap.objs.size (I2.hok.fresh (Nat.le_refl _))
  have hcl0 : ∀ x c, CL.lookup x = some c → (X.env.cells.lookup x = some c ∧ scope.names.lookup x ≠ some .cell) ∨ (scope.names.lookup x = some .cell ∧ s2.heap.objs.size ≤ c ∧ c ≠ s2.heap.objs.size ∧ h₁.IsCell c none) := fun x c e => by
    rcases spl x c e with ⟨z, m⟩ | ⟨z, m⟩
    · obtain ⟨q1, q2⟩ := okc.empty x c m
      rw [hCs] at q2
      exact .inr ⟨z, by omega, fun y => by rw [y] at q2; omega, q1⟩
    · exact .inl ⟨hc1 x c z, m⟩
  have J0 : Inv (X.comp scope tn ix CL HH.objs.size s2 H2 fp) [] (blockSt tn ix σ) (upd H2 s2.heap.objs.size (.lst [])) { s2 with heap := h₁, toks := s2.toks } :=
    Inv.block S I2 hcl0 (fun x y c e1 e2 k1 k2 => by
      rcases spl x c e1 with ⟨_, m1⟩ | ⟨_, m1⟩
      · rcases spl y c e2 with ⟨_, m2⟩ | ⟨_, m2⟩
        · exact apart_inj okc.apart m1 m2
        · exact absurd k2 m2
      · exact absurd k1 m1) (fun x z => has x (.inl z)) (fun x hx hf => by
      obtain ⟨c, e⟩ := hc2 x hx hf
      exact has x.1 (.inr (by rw [e]; rfl))) f2 hfo old (Nat.le_refl _) hCle hDC hacc ⟨_, hns₁⟩
  have stat : ∀ {H' : Hp}, (∀ b ∈ fp, H' b = none) → ∀ b ∈ fp, FpOk (X.comp scope tn ix CL HH.objs.size s2 H2 fp) [] H' b := fun hn b hb => by
    refine ⟨hn b hb, fun z => ?_, fun z => ?_, .inl hb, fun x c e => ?_, fun p hp => absurd (show p ∈ ([] : List (Addr × Obj)) from hp) (by simp)⟩
    · obtain ⟨o, e⟩ := hfo b hb
      exact absurd (Nat.lt_of_lt_of_le (Heap.lt_size e) (by show s2.heap.objs.size ≤ b; rw [z]; exact hCle)) (Nat.lt_irrefl _)
    · rcases List.mem_cons.mp (I2.stkSub b z) with z | z
      · exact (f2 b hb).2.1 z
      · exact (f2 b hb).2.2.1 z
    · rcases hcl0 x c e with z | z
      · exact (f2 b hb).2.2.2.2.1 x c z.1
      · intro y
        obtain ⟨o, e'⟩ := hfo b hb
        have q := Heap.lt_size e'
        rw [← y] at q
        exact absurd q (Nat.not_lt.mpr z.2.1)
  have fp0 : ∀ b ∈ fp, upd H2 s2.heap.objs.size (.lst []) b = none := fun b hb => by
    obtain ⟨o, e⟩ := hfo b hb
    rw [upd_ne (Nat.ne_of_lt (Heap.lt_size e))]
    exact (f2 b hb).1
  have st1 : tnn 0 h₁ := T.keep _ _ _ st2 fun b hb o e => old b o e
  have loop : ∀ s₃ : Shared, s₃ = { s2 with heap := h₁, toks := s2.toks } →
      codeAny (model X.prog X.w) X.A (.compLoop (.ListComp elt [⟨tg, iter, ifs, 0⟩] scope pos) 0 (.ref it) (.ref s2.heap.objs.size) (compEnvC scope CL HH.objs.size X.env)) (P (.ref s2.heap.objs.size) HH.objs.size) s₃ := by
    rintro s₃ rfl
    refine compLoop_any (fun n s' => ∃ i σ' acc H', Inv (X.comp scope tn ix CL HH.objs.size s2 H2 fp) [] σ' H' s' ∧ tnn i s'.heap ∧ (∀ b ∈ fp, H' b = none) ∧ W i n σ' acc H') ?_ m0 ⟨0, _, [], _, J0, st1, fp0, w0⟩
    rintro n s3 ⟨i, σ3, acc, H3, I3, st3, fr3, w3⟩
    obtain ⟨hD3, ways⟩ := turn i n σ3 acc H3 w3
    rcases ways with ⟨stop, qn⟩ | ⟨go, hsz, step⟩
    · refine thn (T.done (X.comp scope tn ix CL HH.objs.size s2 H2 fp) rfl rfl rfl hc i [] s3 σ3 H3 _ I3 (stat fr3) st3 stop) fun r s4 hq__ => ?_
      obtain ⟨hr, I4⟩ := hq__
      subst hr
      have I5 : Inv X pins σ H3 s4 := I2.call' I4.os I4.base I4.hok I4.bare fun b hb => ⟨(f2 b hb).2.2.2.1, (f2 b hb).2.1, (f2 b hb).2.2.2.2.1, (f2 b hb).2.2.2.2.2⟩
      obtain ⟨m4, hn4, _⟩ := I4.loc
      exact hP _ _ s4 H3 I5 ⟨m4, hn4⟩ (I2.fpOk hCle I4.free) qn
    · refine thn (T.item (X.comp scope tn ix CL HH.objs.size s2 H2 fp) rfl rfl rfl hc i [] s3 σ3 H3 _ I3 (stat fr3) st3 go) fun r s4 hq__ => ?_
      obtain ⟨u, hr, h4⟩ := hq__
      subst hr
      refine thn h4 fun _ s5 hq__ => ?_
      obtain ⟨x, H5, I5, r5, y5, st5, fr5⟩ := hq__
      have I5' := I5.pinned (stat fr5) (T.obj _ _ st5)
      have back : ∀ {σ7 : St} {H7 : Hp} {s7 : Shared}, Inv (X.comp scope tn ix CL HH.objs.size s2 H2 fp) ([] ++ pinsAt fp s5.heap) σ7 H7 s7 → Inv (X.comp scope tn ix CL HH.objs.size s2 H2 fp) [] σ7 H7 s7 ∧ tnn (i + 1) s7.heap ∧ ∀ b ∈ fp, H7 b = none := fun {σ7 H7 s7} I7 => by
        refine ⟨I7.unpinned, T.keep _ _ _ st5 fun b hb o e => (I7.pin (b, o) (List.mem_append_right _ (List.mem_append_right _ (mem_pinsAt hb e)))).1, fun b hb => ?_⟩
        obtain ⟨o, e, d⟩ := T.obj _ _ st5 b hb
        exact (I7.pin (b, o) (List.mem_append_right _ (List.mem_append_right _ (mem_pinsAt hb e)))).2.1
      refine thn (hg CL HH.objs.size s2 H2 fp _ s5 σ3 H5 x u _ I5' r5 (step x H5 y5)) fun _ s6 hq__ => ?_
      obtain ⟨σ6, H6, I6, q6⟩ := hq__
      refine thn (ht CL HH.objs.size s2 H2 fp _ s6 σ6 H6 _ I6 q6) fun ok s7 hq__ => ?_
      obtain ⟨H7, I7, q7⟩ := hq__
      cases ok with
      | false =>
        rw [if_neg Bool.false_ne_true] at q7 ⊢
        obtain ⟨m', hm, w7⟩ := q7
        obtain ⟨b1, b2, b3⟩ := back I7
        exact ⟨m', hm, i + 1, σ6, acc, H7, b1, b2, b3, w7⟩
      | true =>
        rw [if_pos rfl] at q7 ⊢
        refine thn (he CL HH.objs.size s2 H2 fp _ s7 σ6 H7 _ I7 q7) fun xv s8 hq__ => ?_
        obtain ⟨v8, H8, I8, r8, hD8, m', hm, w8⟩ := hq__
        refine thn (mt_append _ s8 σ6 H8 (.ref s2.heap.objs.size) [v8] (.ref s2.heap.objs.size) [xv] (fun _ H9 => H9 = upd H8 s2.heap.objs.size (.lst (acc ++ [v8]))) I8 rfl (.cons r8 .nil) ⟨_, acc, v8, rfl, rfl, hD8, hsz, rfl⟩) fun _ s9 hq__ => ?_
        obtain ⟨_, H9, I9, _, e9⟩ := hq__
        subst e9
        obtain ⟨b1, b2, b3⟩ := back I9
        exact ⟨m', hm, i + 1, σ6, acc ++ [v8], _, b1, b2, b3, w8⟩
  exact codeAny_compStart_list (loop _ rfl) (T.self X.A 0 _ _ _ st1 (loop _ rfl))
theorem pe_comp (S : compOk X scope ix = true) (hc : X.calm = true) (hi : PI X tg iter wi)
    (hg : ∀ cl C s₂ H₂ fp, PG (X.comp scope tn ix cl C s₂ H₂ fp) tg g) (ht : ∀ cl C s₂ H₂ fp, PIfs (X.comp scope tn ix cl C s₂ H₂ fp) ifs tt) (he : ∀ cl C s₂ H₂ fp, PE (X.comp scope tn ix cl C s₂ H₂ fp) elt te)
    (hs : ∀ x, foldedSetIterable iter X.env x = pure x := by intro _; rfl) : PE X (.ListComp elt [⟨tg, iter, ifs, 0⟩] scope pos) (tComp tn ix wi g tt te) := by
  intro pins s σ H Q I h
  obtain ⟨cl, hcl, q⟩ := comp_core (pos := pos) (P := fun acc C => compPost (model X.prog X.w) X.A X.xe none (EP X pins σ Q) acc C) (compOk.of S) hc hi hg ht he I h fun D C s' H' I' ⟨m, hn⟩ f q => by
    refine ⟨m, hn, fun h' sb => ⟨.ref D, H', ?_, rfl, q⟩⟩
    exact I'.turned (it := C) (t' := s'.toks) (fun b o hb e => sb.extBut b o hb e) f.1 f.2.1 f.2.2.2.1 f.2.2.2.2.1 f.2.2.2.2.2
  rw [eval_ListComp]
  exact wpAny_comprehension_free (use := none) rfl hs hcl (compOk.of S).kind (compOk.of S).loc q
theorem ps_setC {i : Nat} {y : Str} {py spos : Pos} (hN : X.N.Nodup) (hiN : X.N[i]? = some y) (hy : Loc X.env.scope y) (S : compOk X scope ix = true) (hc : X.calm = true) (hi : PI X tg iter wi)
    (hg : ∀ cl C s₂ H₂ fp, PG (X.comp scope tn ix cl C s₂ H₂ fp) tg g) (ht : ∀ cl C s₂ H₂ fp, PIfs (X.comp scope tn ix cl C s₂ H₂ fp) ifs tt) (he : ∀ cl C s₂ H₂ fp, PE (X.comp scope tn ix cl C s₂ H₂ fp) elt te)
    (hsw : swapsWith (.ListComp elt [⟨tg, iter, ifs, 0⟩] scope pos) (some (.Name y py)) spos.line X.env = pure true := by rfl)
    (hf : X.fn y = true ∨ X.env.scope.names.lookup y = some .local := by first | exact .inl rfl | exact .inr rfl | assumption)
    (hs : ∀ x, foldedSetIterable iter X.env x = pure x := by intro _; rfl) : PS X (.Assign [.Name y py] (.ListComp elt [⟨tg, iter, ifs, 0⟩] scope pos) spos) (tAsg (tComp tn ix wi g tt te) (gName i)) := by
  intro pins s σ H E I h
  rw [exec_Assign_Name_used _ _ _ _ hsw]
  refine wpAny_bind (wpAny_standAt (wpAny_bind ?_))
  show wpAny _ X.A (do let _ ← comprehension (.ListComp elt [⟨tg, iter, ifs, 0⟩] scope pos) scope X.env _ (newList []) false (eval iter X.env) (some (assign (.Name y py) X.env))) _ _ s
  obtain ⟨cl, hcl, q⟩ := comp_core (pos := pos) (P := fun acc C => compPost (model X.prog X.w) X.A X.xe (some (assign (.Name y py) X.env)) (fun _ s' => SP X pins E .next s') acc C) (compOk.of S) hc hi hg ht he I h fun D C s' H' I' ⟨m, hn⟩ f q => by
    show wpAny _ X.A (assign (.Name y py) X.env (.ref D)) _ _ _
    refine wpAny_assign_Name (store_ok2 (v := .ref D) I' hN hiN hy rfl (fun s2 I2 hq__ => ?_) hf)
    obtain ⟨a, sb, ha⟩ := hq__
    have hCa : C ≠ a := by
      rcases ha with ha | ha
      · rw [ha]; exact f.2.1
      · exact fun z => f.2.2.2.2.1 y a ha z.symm
    refine ⟨m, hn.sameBut sb hCa, fun h' sb' => ⟨_, H', ?_, q⟩⟩
    exact I2.turned (it := C) (t' := s2.toks) (fun b o hb e => sb'.extBut b o hb e) f.1 f.2.1 f.2.2.2.1 f.2.2.2.2.1 f.2.2.2.2.2
  refine wpAny_bind (wpAny_mono (wpAny_comprehension_free (use := some (assign (.Name y py) X.env)) (Q := fun _ s' => SP X pins E .next s') rfl hs hcl (compOk.of S).kind (compOk.of S).loc q) (fun _ s' hq => wpAny_pure (wpAny_pure hq)) fun _ _ e => e)
end
end L2
namespace L2
open PySem PySem.Spec PyProof.Rows
theorem Same.seqT {K : PySem.W.Frag} {H H' : Hp} {a : Addr} {xs : List V} (e : Same H H') (h : SqT K H a xs) : SqT K H' a xs := by
  rcases h with (h | ⟨o, h⟩) | h
  · exact .inl (.inl (e _ _ h))
  · exact .inl (.inr ⟨o, e _ _ h⟩)
  · exact .inr h
theorem Same.new {H : Hp} {p : Addr} (h : H p = none) (o : HO) : Same H (upd H p o) := fun b u q => by rw [upd_ne (ne_of_none q h)]; exact q
theorem Same.up {H H' : Hp} {p : Addr} {o : HO} (s : Same H H') (h : H p = none) : Same H (upd H' p o) := fun b u q => by rw [upd_ne (ne_of_none q h)]; exact s b u q
mutual
noncomputable def Is (K : PySem.W.Frag) (H : Hp) : PyData → V → Prop
  | .none, v => v = .non
  | .bool b, v => v = .bl b
  | .int i, v => v = .int i
  | .str x, v => v = .str x
  | .list ds, v => ∃ a vs, v = .ref a ∧ SqL K H a vs ∧ IsAll K H ds vs
  | .tuple ds, v => ∃ a vs, v = .ref a ∧ SqT K H a vs ∧ IsAll K H ds vs
  | .dict _, _ => False
noncomputable def IsAll (K : PySem.W.Frag) (H : Hp) : List PyData → List V → Prop
  | [], vs => vs = []
  | d :: ds, vs => ∃ v r, vs = v :: r ∧ Is K H d v ∧ IsAll K H ds r
end
mutual
theorem Is.mono {K : PySem.W.Frag} {H H' : Hp} (e : Same H H') : ∀ (d : PyData) {v : V}, Is K H d v → Is K H' d v
  | .none, v, h => h
  | .bool _, v, h => h
  | .int _, v, h => h
  | .str _, v, h => h
  | .list ds, v, h => by
    rw [Is] at h ⊢
    obtain ⟨a, vs, h1, h2, h3⟩ := h
    exact ⟨a, vs, h1, e.seq h2, IsAll.mono e ds h3⟩
  | .tuple ds, v, h => by
    rw [Is] at h ⊢
    obtain ⟨a, vs, h1, h2, h3⟩ := h
    exact ⟨a, vs, h1, e.seqT h2, IsAll.mono e ds h3⟩
  | .dict _, v, h => h
theorem IsAll.mono {K : PySem.W.Frag} {H H' : Hp} (e : Same H H') : ∀ (ds : List PyData) {vs : List V}, IsAll K H ds vs → IsAll K H' ds vs
  | [], vs, h => h
  | d :: ds, vs, h => by
    rw [IsAll] at h ⊢
    obtain ⟨v, r, h1, h2, h3⟩ := h
    exact ⟨v, r, h1, Is.mono e d h2, IsAll.mono e ds h3⟩
end
section
variable {X : Cx} {pins : List (Addr × Obj)} {σ : St} {H : Hp} {s : Shared}
mutual
theorem Is.reads (I : Inv X pins σ H s) : ∀ (d : PyData) {v : V} {u : Value}, Is X.K H d v → RelV v u → ∃ as, Reads s.heap u d as
  | .none, v, u, h, r => by
    rw [Is] at h; subst h; cases r; exact ⟨_, .none⟩
  | .bool b, v, u, h, r => by
    rw [Is] at h; subst h; cases r; exact ⟨_, .bool b⟩
  | .int i, v, u, h, r => by
    rw [Is] at h; subst h; obtain ⟨t, rfl⟩ := r; exact ⟨_, .int i t⟩
  | .str x, v, u, h, r => by
    rw [Is] at h; subst h; obtain ⟨t, rfl⟩ := r; exact ⟨_, .str x t⟩
  | .list ds, v, u, h, r => by
    rw [Is] at h
    obtain ⟨a, vs, rfl, h2, h3⟩ := h
    cases r
    obtain ⟨its, rv, ⟨o, n, e, c, _, d⟩, _⟩ := I.list h2
    obtain ⟨as, q⟩ := IsAll.reads I ds h3 rv
    exact ⟨_, .list e c d (by simpa using q)⟩
  | .tuple ds, v, u, h, r => by
    rw [Is] at h
    obtain ⟨a, vs, rfl, h2, h3⟩ := h
    cases r
    obtain ⟨its, rv, ⟨o, e, c, n, d⟩, _⟩ := I.tuple h2
    obtain ⟨as, q⟩ := IsAll.reads I ds h3 rv
    exact ⟨_, .tuple e c d (by simpa using q)⟩
  | .dict _, v, u, h, r => by
    rw [Is] at h; exact h.elim
theorem IsAll.reads (I : Inv X pins σ H s) : ∀ (ds : List PyData) {vs : List V} {us : List Value}, IsAll X.K H ds vs → Vals vs us → ∃ as, ReadsAll s.heap us ds as
  | [], vs, us, h, r => by
    rw [IsAll] at h; subst h; cases r; exact ⟨_, .nil⟩
  | d :: ds, vs, us, h, r => by
    rw [IsAll] at h
    obtain ⟨v, rr, rfl, h2, h3⟩ := h
    cases r with
    | cons r1 r2 =>
      obtain ⟨as, q⟩ := Is.reads I d h2 r1
      obtain ⟨bs, q'⟩ := IsAll.reads I ds h3 r2
      exact ⟨_, .cons q q'⟩
end
end
theorem IsAll.ints {K : PySem.W.Frag} {H : Hp} : ∀ ns : List Int, IsAll K H (ns.map PyData.int) (ns.map V.int)
  | [] => by rw [List.map_nil, List.map_nil, IsAll]
  | n :: ns => by
    rw [List.map_cons, List.map_cons, IsAll]
    exact ⟨_, _, rfl, by rw [Is], IsAll.ints ns⟩
theorem Is.ints {K : PySem.W.Frag} {H : Hp} {a : Addr} {ns : List Int} (h : SqL K H a (ns.map V.int)) : Is K H (.list (ns.map PyData.int)) (.ref a) := by
  rw [Is]; exact ⟨a, _, rfl, h, IsAll.ints ns⟩
theorem eqvAll_ints : ∀ ns ms : List Int, PyData.eqvAll (ns.map PyData.int) (ms.map PyData.int) = decide (ns = ms)
  | [], [] => by simp [PyData.eqvAll]
  | [], m :: ms => by simp [PyData.eqvAll]
  | n :: ns, [] => by simp [PyData.eqvAll]
  | n :: ns, m :: ms => by
    rw [List.map_cons, List.map_cons, PyData.eqvAll, eqvAll_ints ns ms, PyData.eqv]
    by_cases h : n = m
    · subst h; simp
    · simp [h]
theorem eqv_ints (ns ms : List Int) : PyData.eqv (.list (ns.map PyData.int)) (.list (ms.map PyData.int)) = decide (ns = ms) := by rw [PyData.eqv, eqvAll_ints]
theorem depth_ints : ∀ ns : List Int, PyData.depthAll (ns.map PyData.int) = 0
  | [] => by rw [List.map_nil, PyData.depthAll]
  | n :: ns => by rw [List.map_cons, PyData.depthAll, PyData.depth, depth_ints ns]; rfl
section
variable {X : Cx}
noncomputable def rEqD (K : PySem.W.Frag) : R2 := fun x y H Q => ∃ d e, Is K H d x ∧ Is K H e y ∧ SeqAt.shaped d = true ∧ SeqAt.shaped e = true ∧ Q (.bl (PyData.eqv d e)) H
noncomputable def rNeD (K : PySem.W.Frag) : R2 := fun x y H Q => ∃ d e, Is K H d x ∧ Is K H e y ∧ SeqAt.shaped d = true ∧ SeqAt.shaped e = true ∧ Q (.bl (!PyData.eqv d e)) H
theorem op_eqD (hu : X.A.units + 64 < cLine) : OpR X (compareOp .Eq) (rEqD X.K) := by
  intro pins s σ H x y v u Q I rx ry h
  obtain ⟨d, e, h1, h2, h3, h4, q⟩ := h
  obtain ⟨as, r1⟩ := Is.reads I d h1 rx
  obtain ⟨bs, r2⟩ := Is.reads I e h2 ry
  exact eq_dataH r1 r2 h3 h4 hu ⟨.bl (PyData.eqv d e), H, I, rfl, q⟩
theorem op_neD (hu : X.A.units + 64 < cLine) : OpR X (compareOp .NotEq) (rNeD X.K) := by
  intro pins s σ H x y v u Q I rx ry h
  obtain ⟨d, e, h1, h2, h3, h4, q⟩ := h
  obtain ⟨as, r1⟩ := Is.reads I d h1 rx
  obtain ⟨bs, r2⟩ := Is.reads I e h2 ry
  exact ne_dataH r1 r2 h3 h4 hu ⟨.bl (!PyData.eqv d e), H, I, rfl, q⟩
end
end L2
namespace L2
end L2
namespace L2
end L2
namespace L2
open PySem PySem.Spec PyProof.Rows
section
variable {X : Cx} {tg : Expr}
end
noncomputable def Ite (K : PySem.W.Frag) (a : Addr) : It :=
  ⟨fun i H => ∃ xs x, SqL K H a xs ∧ xs[i]? = some x, fun i H x H' => ∃ p v, H p = none ∧ x = .ref p ∧ H' = upd H p (.tup [.int (i : Nat), v]) ∧ ∀ xs, SqL K H a xs → xs[i]? = some v, fun i H => ∃ xs, SqL K H a xs ∧ xs.length ≤ i⟩
theorem Inv.pairNew {X : Cx} {pins : List (Addr × Obj)} {σ : St} {H : Hp} {s : Shared} {h2 : Heap} {tk : Nat} {fp : List Addr} {x y : V} {u v : Value} {ob : Obj} (I : Inv X pins σ H s) (hf : ∀ b ∈ fp, FpOk X pins H b)
    (k3 : ∀ c o, s.heap.get? c = some o → c ∉ fp → h2.get? c = some o) (hN : h2.get? s.heap.objs.size = some ob) (ho : ob.cls = .type "tuple") (hd : ob.data = .seq #[u, v] 0) (ru : RelV x u) (rv : RelV y v) :
    Inv X pins σ (upd H s.heap.objs.size (.tup [x, y])) { s with heap := h2, toks := tk } := by
  have hnew := I.hok.fresh (Nat.le_refl s.heap.objs.size)
  have ge : ∀ c o, H c = some o → c ∉ fp := fun c o q hc => by rw [(hf c hc).1] at q; cases q
  have nb : ∀ b o, s.heap.get? b = some o → b ≠ s.heap.objs.size := fun b o q => Nat.ne_of_lt (Heap.lt_size q)
  refine I.call' (ch := fp) (s' := { s with heap := h2, toks := tk }) rfl ⟨fun b o q n _ hc => k3 b o q hc, fun b o q n _ hc => ⟨o.slots, k3 b o q hc⟩, fun b o q n hc => by rw [upd_ne (nb b o q)]; exact n, fun b o q hc => ⟨o, k3 b o q hc⟩, fun b ys q => ?_, fun b o y q => ?_, fun b ps q => ?_⟩ (fun b o q => ?_) I.bare fun b hb => ?_
  · rw [upd_ne (ne_of_none q hnew)]; exact q
  · rw [upd_ne (ne_of_none q hnew)]; exact q
  · rw [upd_ne (ne_of_none q hnew)]; exact q
  · by_cases hb : b = s.heap.objs.size
    · subst hb
      rw [upd_same] at q
      cases q
      exact ⟨by show 2 ≤ sizeLine; decide, [u, v], .cons ru (.cons rv .nil), ⟨ob, hN, ho, 0, hd⟩⟩
    · rw [upd_ne hb] at q
      refine (I.hok b o q).stay (fun c w hc q' => ?_) (fun c q' => by rw [upd_ne (ne_of_none q' hnew)]; exact q') fun c ys q' => by rw [upd_ne (ne_of_none q' hnew)]; exact q'
      rcases hc with rfl | hc
      · exact k3 c w q' (ge c _ q)
      · exact k3 c w q' (ge c _ hc)
  · obtain ⟨f0, f1, f2, f3, f4, f5⟩ := hf b hb
    exact ⟨f3, f1, f4, f5⟩
theorem turn_enum {P : Program} {w : World} {K : PySem.W.Frag} {elts : List Expr} {x1} {tpos : Pos} (a e it : Addr) (hne : e ≠ it) :
    Turn P w K (.Tuple elts x1 tpos) (Ite K a) [e, it] e (fun i h => (∃ old, IsEnum h e it (i : Nat) old) ∧ h.IsListIter it a i) where
  mem := by simp
  obj := fun i h st b hb => by
    obtain ⟨⟨old, he⟩, o, ho, c, d⟩ := st
    have hb' : b = e ∨ b = it := by simpa using hb
    rcases hb' with rfl | rfl
    · exact ⟨_, he, fun v z => by cases z⟩
    · exact ⟨o, ho, fun v z => by rw [d] at z; cases z⟩
  keep := fun i h h' st k => by
    obtain ⟨⟨old, he⟩, hl⟩ := st
    exact ⟨⟨old, k e (by simp) _ he⟩, hl.at fun o q => k it (by simp) o q⟩
  item := by
    intro X hP hw hK hc i pins s σ H E I hf st hg
    subst hP hw hK
    obtain ⟨⟨old, he⟩, hit⟩ := st
    obtain ⟨xs, x, hq, hx⟩ := hg
    obtain ⟨its, rv, p, hz⟩ := I.list hq
    obtain ⟨u, hu, ru⟩ := rv.get hx
    obtain ⟨f0, f1, f2, f3, f4, f5⟩ := hf e (by simp)
    obtain ⟨g0, g1, g2, g3, g4, g5⟩ := hf it (by simp)
    refine wpAny_pyNext_enum_item he hit p.isList (x := u) (by simpa using hu) hne fun h' he' hit' ht' hz' hk' => ?_
    refine ⟨_, rfl, ?_⟩
    refine wpAny_letOwnedTupleGo_enum (s := { s with heap := h', toks := s.toks + 1 }) he' fun h2 he2 sb2 => ?_
    have hnew : H s.heap.objs.size = none := I.hok.fresh (Nat.le_refl _)
    have hpe : s.heap.objs.size ≠ e := Nat.ne_of_gt (Heap.lt_size he)
    have ht2 : h2.get? s.heap.objs.size = some { cls := .type "tuple", data := .seq #[.int (i : Nat) s.toks, u] } := sb2.extBut _ _ hpe ht'
    have k2 : ∀ b o, b ≠ e → b ≠ it → s.heap.get? b = some o → h2.get? b = some o := fun b o b1 b2 q => sb2.extBut b o b1 (hk' b o b1 b2 q)
    have hit2 : h2.IsListIter it a (i + 1) := hit'.extBut sb2.extBut (Ne.symm hne)
    have I2 := I.pairNew (tk := s.toks + 1) (x := .int (i : Nat)) hf (fun c o q hc => k2 c o (fun z => hc (by simp [z])) (fun z => hc (by simp [z])) q) ht2 rfl rfl ⟨_, rfl⟩ ru
    refine ⟨.ref s.heap.objs.size, _, I2, rfl, ⟨_, x, hnew, rfl, rfl, fun ys hy => by rw [I.list_inj hy hq]; exact hx⟩, ⟨⟨u, ?_⟩, hit2⟩, fun b hb => ?_⟩
    · have e3 : (((i + 1 : Nat)) : Int) = (i : Int) + 1 := by omega
      rw [e3]
      exact he2
    · have hb' : b = e ∨ b = it := by simpa using hb
      rcases hb' with rfl | rfl
      · rw [upd_ne (Ne.symm hpe)]; exact f0
      · obtain ⟨o, ho, _⟩ := hit
        rw [upd_ne (Nat.ne_of_lt (Heap.lt_size ho))]; exact g0
  done := by
    intro X hP hw hK hc i pins s σ H E I hf st hg
    subst hP hw hK
    obtain ⟨⟨old, he⟩, hit⟩ := st
    obtain ⟨xs, hq, hx⟩ := hg
    obtain ⟨its, rv, p, hz⟩ := I.list hq
    obtain ⟨g0, g1, g2, g3, g4, g5⟩ := hf it (by simp)
    have hl := rv.length
    exact wpAny_pyNext_enum_end (I.ok.hd hc) he hit p.isList (by simp; omega) fun h' eb => ⟨rfl, I.turned (t' := s.toks) (fun b o hb e => eb b o hb e) g0 g1 g3 g4 g5⟩
  self := fun _ _ _ _ _ st h => let ⟨⟨_, he⟩, _⟩ := st; wpAny_pyIter_enum he h
section
variable {X : Cx}
end
section
variable {K : PySem.W.Frag} {tn : List Str} {ix : List Nat} {te : TE} {σ : St} {H1 : Hp} {Q : VK}
end
section
variable {K : PySem.W.Frag} {tn : List Str} {ix : List Nat} {te : TE} {σ : St} {H1 : Hp} {Q : VK}
end
structure At (K : PySem.W.Frag) (mg : Str → Option Value) (x : Str) (st : Stmt) (ps : List Str) : Prop where
  ex : ∃ f fd, Fun K x x st f fd ∧ Binds K fd ps [] ∧ mg x = some (.ref f)
structure Def (P : Program) (w : World) (K : PySem.W.Frag) (mg : Str → Option Value) (base : Heap) (k : Nat) (x : Str) (ps : List Str) (sp : Sp) : Prop where
  ex : ∃ f fd, FnOk P w K mg base CX0 k f fd ps sp ∧ Binds K fd ps [] ∧ PySem.W.keepIn K (.ref f) = true ∧ mg x = some (.ref f)
section
variable {P : Program} {w : World} {K : PySem.W.Frag} {mg : Str → Option Value} {base : Heap}
theorem At.ok {x : Str} {st : Stmt} {N ps : List Str} {k : Nat} {sp : Sp} (F : At K mg x st ps) (S : FnScope N ps (defScope st)) (len : ∀ vs H Q E, sp vs H Q E → vs.length = ps.length)
    (hbody : ∀ (f : Addr) (cdv : Value) (A : Around) (outer : List Env) (s : Shared) (H : Hp) (vs : List V) (Q : VK) (E : XK), Room k (A.deeper (envOfC x (defScope st) s.heap.objs.size f cdv)) → sp vs H Q E →
      ∃ t, PSs (cxOf CX0 P w K mg base N x (defScope st) f cdv A outer s H E).nox (defBody st) t ∧ t { nx := fun _ H' => Q .non H', rt := Q } (start N vs) H) : Def P w K mg base (k + 1) x ps sp := by
  obtain ⟨f, fd, F, b, m⟩ := F.ex
  exact ⟨f, fd, F.ok S len (hbody f), b, F.kp, m⟩
theorem At.mk' {x : Str} {st : Stmt} {ps : List Str} {f : Addr} {oc : Value} {od an : Option Addr} {osl : Array (Option Value)} {kV doc pm cdv ct : Value} (m : mg x = some (.ref f))
    (l : K.lookup f = some ⟨oc, od, .func (PySem.W.fnOf x x (defArgs st) (defBody st) (defScope st) .none kV doc pm an cdv ct), osl⟩) (c : PySem.W.codeIn K cdv x = true) (k : PySem.W.keepIn K (.ref f) = true)
    (h : ∀ (kV doc pm : Value) (an : Option Addr) (cdv ct : Value) (us : List Value), us.length = ps.length → bindArgs (PySem.W.fnOf x x (defArgs st) (defBody st) (defScope st) .none kV doc pm an cdv ct) ⟨us, []⟩ = pure (ps.zip us)) : At K mg x st ps :=
  ⟨f, _, fun_mk l c k, (fun_mk (st := st) l c k).binds h, m⟩
end
section
variable {X : Cx} {k : Nat} {x : Str} {ps : List Str} {sp : Sp} {p pos : Pos} {e : Expr} {es : List Expr} {t : TA}
theorem pe_def (F : Def X.prog X.w X.K X.mg X.base k x ps sp) (hr : Room k X.A) (hg : Gl X x) (ha : PA X (e :: es) t) (hdb : (x == ("__debug__" : Str)) = false := by decide)
    (he : starEach (e :: es) X.env = (false, eval e X.env) :: starEach es X.env := by rfl) (hpl : (backTo pos (starEach es X.env)).any (·.1) = false := by rfl) : PE X (.Call (.Name x p) (e :: es) [] pos) (tCall sp [] E0 t) := by
  obtain ⟨f, fd, F, b, kp, m⟩ := F.ex
  exact pe_call F hr hg m kp b .nil pass0 ha hdb he hpl
end
end L2
namespace L2
open PySem PySem.Spec PyProof.Rows
section
variable {X : Cx} {K : PySem.W.Frag}
end
end L2
namespace L2
open PySem PySem.Spec PyProof.Rows
open Builtin Builtin.Str
section
variable {prog : Program} {w : World} {A : Around} {E : Value → Shared → Prop} {s : Shared}
theorem wpAny_nextOf_tup_item {it l : Addr} {i : Nat} {items} {x : Value} {Q : Value → Shared → Prop} (hit : s.heap.IsTupleIter it l i)
    (hl : s.heap.IsTuple l items) (hx : items[i]? = some x)
    (hQ : ∀ h', h'.IsTupleIter it l (i + 1) → Heap.SameBut it s.heap h' → Q x { s with heap := h' }) :
    wpAny (model prog w) A (Builtin.SmallTypes.nextOf (.ref it)) Q E s := by
  obtain ⟨o, ho, hc, hd⟩ := id hit
  obtain ⟨ol, hol, _, nl, hdl⟩ := hl
  unfold Builtin.SmallTypes.nextOf
  refine wpAny_bind (wpAny_callSpecial?_slot (name := Str.ofString "__next__") hit.typeIs F.slot_tuple_iterator_next
    (wpAny_call_entry F.slot_tuple_iterator_next hit.typeIs F.entry_tuple_iterator_next ?_ (F.args_tuple_iterator_next_1 _)))
  show wpAny _ _ (field (.ref it) 0 >>= _) _ _ s
  refine wpAny_bind (wpAny_field ho hd (x := .ref l) rfl ?_)
  show wpAny _ _ (if (Value.ref l == Value.none) = true then _ else _) _ _ s
  rw [if_neg (show ¬ ((Value.ref l == Value.none) = true) from Bool.false_ne_true)]
  show wpAny _ _ (field (.ref it) 1 >>= _) _ _ s
  refine wpAny_bind (wpAny_field ho hd (x := .int i 0) rfl ?_)
  show wpAny _ _ (seqItems? (.ref l) >>= _) _ _ s
  refine wpAny_bind (wpAny_seqItems hol hdl ?_)
  simp only [Int.toNat_natCast, hx]
  refine wpAny_bind (wpAny_setField ho hd (by simp) (wpAny_pure ⟨x, rfl, wpAny_pure (hQ _ ?_ (Heap.SameBut.update ..))⟩))
  exact ⟨_, Heap.get?_update_self _ ho (Obj.isFreed_of_fields (Obj.data_mapFields hd _)), (Obj.cls_mapFields ..).trans hc, by
    rw [Obj.data_mapFields hd]; simp [rawInt]⟩
theorem wpAny_nextOf_tup_end {it l : Addr} {i : Nat} {items} {Q : Value → Shared → Prop} (hh : A.handled = none)
    (hit : s.heap.IsTupleIter it l i) (hl : s.heap.IsTuple l items) (hx : items[i]? = none)
    (hE : ∀ h' e, Heap.ExtBut it s.heap h' → (∃ o, h'.get? e = some o ∧ o.cls = .type "StopIteration") → E (.ref e) { s with heap := h' }) :
    wpAny (model prog w) A (Builtin.SmallTypes.nextOf (.ref it)) Q E s := by
  obtain ⟨o, ho, hc, hd⟩ := id hit
  obtain ⟨ol, hol, _, nl, hdl⟩ := hl
  unfold Builtin.SmallTypes.nextOf
  refine wpAny_bind (wpAny_callSpecial?_slot (name := Str.ofString "__next__") hit.typeIs F.slot_tuple_iterator_next
    (wpAny_call_entry F.slot_tuple_iterator_next hit.typeIs F.entry_tuple_iterator_next ?_ (F.args_tuple_iterator_next_1 _)))
  show wpAny _ _ (field (.ref it) 0 >>= _) _ _ s
  refine wpAny_bind (wpAny_field ho hd (x := .ref l) rfl ?_)
  show wpAny _ _ (if (Value.ref l == Value.none) = true then _ else _) _ _ s
  rw [if_neg (show ¬ ((Value.ref l == Value.none) = true) from Bool.false_ne_true)]
  show wpAny _ _ (field (.ref it) 1 >>= _) _ _ s
  refine wpAny_bind (wpAny_field ho hd (x := .int i 0) rfl ?_)
  show wpAny _ _ (seqItems? (.ref l) >>= _) _ _ s
  refine wpAny_bind (wpAny_seqItems hol hdl ?_)
  simp only [Int.toNat_natCast, hx]
  refine wpAny_bind (wpAny_rule (wpAny_bind (wpAny_setField ho hd (by simp) ?_)))
  show wpAny _ _ (newExc (.type "StopIteration") [] >>= _) _ _ _
  refine wpAny_bind ?_
  simp only [newExc, newTuple]
  refine wpAny_bind (wpAny_newObj_type ?_ (by size_fits))
  refine wpAny_bind (m := firstArgMember _ _) (wpAny_of_eq (a := Value.none) (by first | rfl | (simp only [firstArgMember]; rfl)) ?_)
  refine wpAny_newObj_type ?_ (by size_fits)
  simp only [raiseNew]
  refine wpAny_bind (wpAny_handled ?_)
  first | rw [show A.in1.handled = none from hh] | rw [hh]
  refine wpAny_bind (wpAny_pure (wpAny_throw ?_))
  exact hE _ _ (((Heap.SameBut.update ..).extBut.push _).push _) ⟨_, Heap.get?_push_size _ rfl, rfl⟩
theorem _root_.PySem.Draws.tuple {prog : Program} {w : World} {A : Around} (hh : A.handled = none) (it l : Addr) (hne : l ≠ it) (items : Array Value) :
    Draws prog w A it [it, l] items.size (fun i v => items[i]? = some v) (fun i h => h.IsTupleIter it l i ∧ h.IsTuple l items) where
  live := fun _ _ st => let ⟨o, ho, _⟩ := st.1; ⟨o, ho⟩
  frame := fun _ _ _ st hk => ⟨st.1.at fun o e => hk it (by simp) o e, let ⟨o, ho, r⟩ := st.2; ⟨o, hk l (by simp) o ho, r⟩⟩
  item := fun i s Q E hi st hQ => by
    refine wpAny_nextOf_tup_item st.1 st.2 (x := items[i]) (by simp [hi]) fun h' hit' hs' => ?_
    exact hQ _ h' s.toks (by simp [hi]) ⟨hit', let ⟨o, ho, r⟩ := st.2; ⟨o, hs'.extBut l o hne ho, r⟩⟩ hs'
  done := fun s Q E st hE => wpAny_nextOf_tup_end hh st.1 st.2 (by simp) hE
theorem wpAny_pyNext_enum_end2 {e it l : Addr} {i : Nat} {items : Array Value} {old : Value} {Q : Option Value → Shared → Prop} (hh : A.in1.handled = none)
    (he : IsEnum s.heap e it i old) (hit : s.heap.IsTupleIter it l i) (hl : s.heap.IsTuple l items) (hx : items[i]? = none)
    (hQ : ∀ h', Heap.ExtBut it s.heap h' → Q none { s with heap := h' }) : wpAny (model prog w) A (pyNext (.ref e)) Q E s := by
  have hT : s.TypeIs (.ref e) "enumerate" := ⟨_, he, rfl⟩
  unfold pyNext
  refine wpAny_bind (wpAny_attempt (wpAny_callSpecial?_slot (name := Str.ofString "__next__") hT F.slot_enumerate_next
    (wpAny_call_entry F.slot_enumerate_next hT F.entry_enumerate_next ?_ (F.args_enumerate_next_1 _))))
  show wpAny _ _ (field (.ref e) 2 >>= _) _ _ _
  refine wpAny_bind (wpAny_field he rfl (x := .ref it) rfl ?_)
  refine wpAny_bind (wpAny_nextOf_tup_end hh hit hl hx fun h' x he' hx' => ?_)
  obtain ⟨o, ho, hc⟩ := hx'
  refine wpAny_bind (wpAny_isInstance (T := "StopIteration") (b := true) ⟨o, ho, hc⟩ isSubtype_stop ?_)
  exact wpAny_pure (hQ _ he')
end
open AutoSeq1 (wpAny_loadPart') in
theorem meets_enumerate_newT (l : Addr) (items : Array Value) (n : Nat) (dct : Option Addr) (sl : Array (Option Value)) :
    Meets (Builtin.«enumerate.__new__» ⟨[.type "enumerate", .ref l], []⟩) (fun _ R s => s.heap.get? l = some { cls := .type "tuple", dict := dct, data := .seq items n, slots := sl } ∧
      R (.ok (.ret (.ref (s.heap.push { cls := .type "tuple_iterator", data := .fields #[.ref l, .int 0 0] }).objs.size)))
        { s with heap := (s.heap.push { cls := .type "tuple_iterator", data := .fields #[.ref l, .int 0 0] }).push { cls := .type "enumerate", data := .fields #[.none, .bool false, .ref s.heap.objs.size, rawInt 0, .none, .none] } }) :=
  .of_wp fun prog w A R s h => by
    obtain ⟨hp, g, d, tk, os⟩ := s; obtain ⟨hl, h⟩ := h
    have hsub := sub_enumerate
    have hL : Heap.IsTuple (Shared.heap ⟨hp, g, d, tk, os⟩) l items := ⟨_, hl, rfl, n, rfl⟩
    wp_walk using wpAny_loadPart' hl
    refine wpAny_stack_any fun st => wpAny_pure ?_
    split
    · rename_i c _ _ _ _ _
      cases (c == Value.type "enumerate")
      · wp_walk using wpAny_loadPart' hl, wpAny_pyIter_tuple hL
        exact ⟨_, rfl, h⟩
      · wp_walk using wpAny_loadPart' hl, wpAny_pyIter_tuple hL
        exact ⟨_, rfl, h⟩
    · wp_walk using wpAny_loadPart' hl, wpAny_pyIter_tuple hL
      exact ⟨_, rfl, h⟩
section
variable {prog : Program} {w : World} {A : Around} {E : Value → Shared → Prop} {s : Shared}
theorem call_enumerate_tup {l : Addr} {items : Array Value} {Q : Value → Shared → Prop} (hL : s.heap.IsTuple l items)
    (h : ∀ h', IsEnum h' (s.heap.objs.size + 1) s.heap.objs.size 0 .none → h'.IsTupleIter s.heap.objs.size l 0 → h'.objs.size = s.heap.objs.size + 2 →
      (∀ b o, s.heap.get? b = some o → h'.get? b = some o) → Q (.ref (s.heap.objs.size + 1)) { s with heap := h' }) :
    wpAny (model prog w) A (call (.type "enumerate") [.ref l]) Q E s := by
  obtain ⟨⟨c, dct, dt, sl⟩, hl, hc, n, hd⟩ := hL
  replace hc : c = .type "tuple" := hc
  replace hd : dt = .seq items n := hd
  subst hc hd
  refine callType_new F.called_enumerate (by decide) (F.typeCall_enumerate_1 _) (F.newCall_enumerate_1 _) (fun obj => F.args_object_init_2 obj _) F.entry_enumerate_new
    (meets_enumerate_newT l items n dct sl) ⟨hl, ?_⟩
  have hz : (s.heap.push { cls := .type "tuple_iterator", data := .fields #[.ref l, .int 0 0] }).objs.size = s.heap.objs.size + 1 := Heap.size_push ..
  show _ ∧ _
  rw [hz]
  have he : IsEnum ((s.heap.push { cls := .type "tuple_iterator", data := .fields #[.ref l, .int 0 0] }).push
      { cls := .type "enumerate", data := .fields #[.none, .bool false, .ref s.heap.objs.size, rawInt 0, .none, .none] }) (s.heap.objs.size + 1) s.heap.objs.size 0 .none := by
    have := Heap.get?_push_size (s.heap.push { cls := .type "tuple_iterator", data := .fields #[.ref l, .int 0 0] })
      (o := { cls := .type "enumerate", data := .fields #[.none, .bool false, .ref s.heap.objs.size, rawInt 0, .none, .none] }) rfl
    rw [hz] at this; exact this
  refine ⟨⟨_, he, rfl⟩, h _ he ⟨_, Heap.get?_push_of_some _ (Heap.get?_push_size _ rfl), rfl, rfl⟩ (by rw [Heap.size_push, hz]) fun b o x => Heap.get?_push_of_some _ (Heap.get?_push_of_some _ x)⟩
end
theorem ne_tupIter {h : Heap} {a it l : Addr} {its : Array Value} {i : Nat} (p : h.IsTuple a its) (q : h.IsTupleIter it l i) : a ≠ it := by
  rintro rfl
  obtain ⟨o, ho, c, _⟩ := p
  obtain ⟨o', ho', c', _⟩ := q
  rw [ho] at ho'; cases ho'; rw [c] at c'; exact absurd c' (by decide)
theorem ne_tupEnum {h : Heap} {a e it : Addr} {its : Array Value} {i : Int} {old : Value} (p : h.IsTuple a its) (q : IsEnum h e it i old) : a ≠ e := by
  rintro rfl
  obtain ⟨o, ho, c, _⟩ := p
  rw [q] at ho; cases ho; exact absurd c (by show ¬ (Value.type "enumerate" = Value.type "tuple"); decide)
noncomputable def IteT (K : PySem.W.Frag) (a : Addr) : It :=
  ⟨fun i H => ∃ xs x, SqT K H a xs ∧ xs[i]? = some x, fun i H x H' => ∃ p v, H p = none ∧ x = .ref p ∧ H' = upd H p (.tup [.int (i : Nat), v]) ∧ ∀ xs, SqT K H a xs → xs[i]? = some v, fun i H => ∃ xs, SqT K H a xs ∧ xs.length ≤ i⟩
theorem turn_enumT {P : Program} {w : World} {K : PySem.W.Frag} {elts : List Expr} {x1} {tpos : Pos} (a e it : Addr) (hne : e ≠ it) :
    Turn P w K (.Tuple elts x1 tpos) (IteT K a) [e, it] e (fun i h => (∃ old, IsEnum h e it (i : Nat) old) ∧ h.IsTupleIter it a i) where
  mem := by simp
  obj := fun i h st b hb => by
    obtain ⟨⟨old, he⟩, o, ho, c, d⟩ := st
    have hb' : b = e ∨ b = it := by simpa using hb
    rcases hb' with rfl | rfl
    · exact ⟨_, he, fun v z => by cases z⟩
    · exact ⟨o, ho, fun v z => by rw [d] at z; cases z⟩
  keep := fun i h h' st k => by
    obtain ⟨⟨old, he⟩, hl⟩ := st
    exact ⟨⟨old, k e (by simp) _ he⟩, hl.at fun o q => k it (by simp) o q⟩
  item := by
    intro X hP hw hK hc i pins s σ H E I hf st hg
    subst hP hw hK
    obtain ⟨⟨old, he⟩, hit⟩ := st
    obtain ⟨xs, x, hq, hx⟩ := hg
    obtain ⟨its, rv, p, hz⟩ := I.tuple hq
    obtain ⟨u, hu, ru⟩ := rv.get hx
    obtain ⟨f0, f1, f2, f3, f4, f5⟩ := hf e (by simp)
    obtain ⟨g0, g1, g2, g3, g4, g5⟩ := hf it (by simp)
    have pt : s.heap.IsTuple a its.toArray := p
    have nai : a ≠ it := ne_tupIter pt hit
    have nae : a ≠ e := ne_tupEnum pt he
    refine wpAny_pyNext_enum_itemD (Draws.tuple (show X.A.in1.handled = none from I.ok.hd hc) it a nai its.toArray) he ⟨hit, pt⟩ (by have := rv.length; have := (List.getElem?_eq_some_iff.mp hx).1; simp; omega) hne (by simp [hne, Ne.symm nae]) fun u' h' tk hu' he' st' ht' hz' hk' => ?_
    have eu : u' = u := by have : its[i]? = some u' := by simpa using hu'
                           rw [hu] at this; exact (Option.some.inj this).symm
    subst eu
    obtain ⟨hit', -⟩ := st'
    refine ⟨_, rfl, ?_⟩
    refine wpAny_letOwnedTupleGo_enum (s := { s with heap := h', toks := tk + 1 }) he' fun h2 he2 sb2 => ?_
    have hnew : H s.heap.objs.size = none := I.hok.fresh (Nat.le_refl _)
    have hpe : s.heap.objs.size ≠ e := Nat.ne_of_gt (Heap.lt_size he)
    have ht2 : h2.get? s.heap.objs.size = some { cls := .type "tuple", data := .seq #[.int (i : Nat) tk, u'] } := sb2.extBut _ _ hpe ht'
    have k2 : ∀ b o, b ≠ e → b ≠ it → s.heap.get? b = some o → h2.get? b = some o := fun b o b1 b2 q => sb2.extBut b o b1 (hk' b o b1 b2 q)
    have hit2 : h2.IsTupleIter it a (i + 1) := hit'.extBut sb2.extBut (Ne.symm hne)
    have I2 := I.pairNew (tk := tk + 1) (x := .int (i : Nat)) hf (fun c o q hc => k2 c o (fun z => hc (by simp [z])) (fun z => hc (by simp [z])) q) ht2 rfl rfl ⟨_, rfl⟩ ru
    refine ⟨.ref s.heap.objs.size, _, I2, rfl, ⟨_, x, hnew, rfl, rfl, fun ys hy => by rw [I.tuple_inj hy hq]; exact hx⟩, ⟨⟨u', ?_⟩, hit2⟩, fun b hb => ?_⟩
    · have e3 : (((i + 1 : Nat)) : Int) = (i : Int) + 1 := by omega
      rw [e3]
      exact he2
    · have hb' : b = e ∨ b = it := by simpa using hb
      rcases hb' with rfl | rfl
      · rw [upd_ne (Ne.symm hpe)]; exact f0
      · obtain ⟨o, ho, _⟩ := hit
        rw [upd_ne (Nat.ne_of_lt (Heap.lt_size ho))]; exact g0
  done := by
    intro X hP hw hK hc i pins s σ H E I hf st hg
    subst hP hw hK
    obtain ⟨⟨old, he⟩, hit⟩ := st
    obtain ⟨xs, hq, hx⟩ := hg
    obtain ⟨its, rv, p, hz⟩ := I.tuple hq
    obtain ⟨g0, g1, g2, g3, g4, g5⟩ := hf it (by simp)
    have hl := rv.length
    have pt : s.heap.IsTuple a its.toArray := p
    exact wpAny_pyNext_enum_end2 (show X.A.in1.handled = none from I.ok.hd hc) he hit pt (by simp; omega) fun h' eb => ⟨rfl, I.turned (t' := s.toks) (fun b o hb e => eb b o hb e) g0 g1 g3 g4 g5⟩
  self := fun _ _ _ _ _ st h => let ⟨⟨_, he⟩, _⟩ := st; wpAny_pyIter_enum he h
section
variable {X : Cx}
noncomputable def iEnum2 (K : PySem.W.Frag) (ta : TA) : TI := fun σ H R => ta σ H fun vs H1 => ∃ a xs, vs = [.ref a] ∧ ((SqL K H1 a xs ∧ R (Ite K a) H1) ∨ (SqT K H1 a xs ∧ R (IteT K a) H1))
theorem pi_enum2 {elts : List Expr} {x1} {tpos : Pos} {a : Expr} {ta : TA} {p pos : Pos} (hg : Gl X "enumerate") (hm : X.mg "enumerate" = none) (ha : PA X [a] ta) (hs : starEach [a] X.env = [(false, eval a X.env)] := by rfl) :
    PI X (.Tuple elts x1 tpos) (.Call (.Name "enumerate" p) [a] [] pos) (iEnum2 X.K ta) := by
  intro pins s σ H R I h
  refine Call_ (ld_blt I hg hm (show bootBuiltins "enumerate" = some (.type "enumerate") by decide +kernel) (PyProof.Rows.callWith_type1 (thn (ha pos pins s σ H _ I h) fun us s1 hq__ => ?_) hs rfl))
  obtain ⟨vs, H1, I1, r1, q1⟩ := hq__
  obtain ⟨l, xs, e, q⟩ := q1
  subst e
  obtain ⟨u, rfl, ru⟩ := Vals.one r1
  cases ru
  have hfp : ∀ b, b ∈ [s1.heap.objs.size + 1, s1.heap.objs.size] → _ := fun b hb => by
    have hb' : b = s1.heap.objs.size + 1 ∨ b = s1.heap.objs.size := by simpa using hb
    exact show s1.heap.objs.size ≤ b by omega
  rcases q with ⟨hq, q⟩ | ⟨hq, q⟩
  · obtain ⟨its, rv, pl, hz⟩ := I1.list hq
    refine call_enumerate_list pl.isList fun h' he hit hz' k => ?_
    refine wpAny_pyIter_enum (s := { s1 with heap := h' }) he ?_
    exact ⟨s1.heap.objs.size + 1, [s1.heap.objs.size + 1, s1.heap.objs.size], _, _, H1, rfl, I1.kept (t' := s1.toks) k, turn_enum l _ _ (Nat.succ_ne_self _), ⟨⟨_, he⟩, hit⟩, fun b hb => I1.fpOk (hfp b hb) (I1.hok.fresh (hfp b hb)), q⟩
  · obtain ⟨its, rv, pl, hz⟩ := I1.tuple hq
    have pt : s1.heap.IsTuple l its.toArray := pl
    refine call_enumerate_tup pt fun h' he hit hz' k => ?_
    refine wpAny_pyIter_enum (s := { s1 with heap := h' }) he ?_
    exact ⟨s1.heap.objs.size + 1, [s1.heap.objs.size + 1, s1.heap.objs.size], _, _, H1, rfl, I1.kept (t' := s1.toks) k, turn_enumT l _ _ (Nat.succ_ne_self _), ⟨⟨_, he⟩, hit⟩, fun b hb => I1.fpOk (hfp b hb) (I1.hok.fresh (hfp b hb)), q⟩
end
end L2
namespace L2
open PySem PySem.Spec PyProof.Rows
section
variable {κ : Type} [DecidableEq κ]
noncomputable def valV (kvs : List (κ × V)) (k : κ) : Option V := (kvs.find? fun kv => decide (kv.1 = k)).map (·.2)
noncomputable def putK (kvs : List (κ × V)) (k : κ) (v : V) : List (κ × V) :=
  if (kvs.any fun kv => decide (kv.1 = k)) = true then kvs.map (fun kv => if kv.1 = k then (kv.1, v) else kv) else kvs ++ [(k, v)]
theorem valV_pos {p : κ × V} {r : List (κ × V)} {k : κ} (e : p.1 = k) : valV (p :: r) k = some p.2 := by simp [valV, List.find?_cons, e]
theorem valV_neg {p : κ × V} {r : List (κ × V)} {k : κ} (e : ¬ p.1 = k) : valV (p :: r) k = valV r k := by simp [valV, List.find?_cons, e]
theorem valV_any (k : κ) : ∀ kvs : List (κ × V), (kvs.any fun kv => decide (kv.1 = k)) = (valV kvs k).isSome
  | [] => rfl
  | p :: r => by
    rw [List.any_cons]
    by_cases e : p.1 = k
    · simp only [valV_pos e, decide_eq_true e, Bool.true_or, Option.isSome_some]
    · rw [valV_neg e, decide_eq_false e, Bool.false_or]; exact valV_any k r
theorem length_putK (kvs : List (κ × V)) (k : κ) (v : V) : (putK kvs k v).length ≤ kvs.length + 1 := by
  unfold putK
  split
  · rw [List.length_map]; omega
  · rw [List.length_append, List.length_cons, List.length_nil]; omega
theorem RelO.isSome_eq {o : Option V} {u : Option Value} (r : RelO o u) : o.isSome = u.isSome := by
  cases o with
  | none => cases u with
    | none => rfl
    | some _ => exact (show False from r).elim
  | some _ => cases u with
    | none => exact (show False from r).elim
    | some _ => rfl
theorem RelO.getD {o : Option V} {u : Option Value} {d : V} {d' : Value} (r : RelO o u) (rd : RelV d d') : RelV (o.getD d) (u.getD d') := by
  cases o with
  | none => cases u with
    | none => exact rd
    | some _ => exact (show False from r).elim
  | some _ => cases u with
    | none => exact (show False from r).elim
    | some _ => exact r
theorem KV.val {kvs : List (κ × V)} {vs : List (κ × Value)} (r : KV kvs vs) (k : κ) : RelO (valV kvs k) (valueAt vs k) := by
  unfold KV at r
  induction r with
  | nil => exact True.intro
  | @cons p q ps qs h t ih =>
    obtain ⟨h1, h2⟩ := h
    by_cases e : p.1 = k
    · have e' : q.1 = k := h1.symm.trans e
      have b : valueAt (q :: qs) k = some q.2 := by simp [valueAt, List.find?_cons, e']
      rw [valV_pos e, b]; exact h2
    · have e' : ¬ q.1 = k := fun z => e (h1.trans z)
      have b : valueAt (q :: qs) k = valueAt qs k := by simp [valueAt, List.find?_cons, e']
      rw [valV_neg e, b]; exact ih
theorem KV.any {kvs : List (κ × V)} {vs : List (κ × Value)} (r : KV kvs vs) (k : κ) : (kvs.any fun kv => decide (kv.1 = k)) = vs.any fun kv => decide (kv.1 = k) := by
  unfold KV at r
  induction r with
  | nil => rfl
  | cons h t ih => rw [List.any_cons, List.any_cons, ih, h.1]
theorem KV.repl {kvs : List (κ × V)} {vs : List (κ × Value)} (r : KV kvs vs) (k : κ) {y : V} {u : Value} (ry : RelV y u) :
    KV (kvs.map fun kv => if kv.1 = k then (kv.1, y) else kv) (vs.map fun kv => if kv.1 = k then (kv.1, u) else kv) := by
  unfold KV at r ⊢
  induction r with
  | nil => exact .nil
  | @cons p q ps qs h t ih =>
    rw [List.map_cons, List.map_cons]
    refine .cons ?_ ih
    obtain ⟨h1, h2⟩ := h
    by_cases e : p.1 = k
    · rw [if_pos e, if_pos (h1.symm.trans e)]; exact ⟨h1, ry⟩
    · rw [if_neg e, if_neg (fun z => e (h1.trans z))]; exact ⟨h1, h2⟩
theorem KV.put {kvs : List (κ × V)} {vs : List (κ × Value)} (r : KV kvs vs) (k : κ) {y : V} {u : Value} (ry : RelV y u) : KV (putK kvs k y) (stored vs k u) := by
  unfold putK stored
  rw [r.any k]
  by_cases e : (vs.any fun kv => decide (kv.1 = k)) = true
  · rw [if_pos e, if_pos e]; exact r.repl k ry
  · rw [if_neg e, if_neg e]; exact Paired.snoc r ⟨rfl, ry⟩
theorem KV.length {kvs : List (κ × V)} {vs : List (κ × Value)} (r : KV kvs vs) : kvs.length = vs.length := Paired.length r
end
theorem kV_is {P : Program} {w : World} {k : Key} {u : Value} (r : RelV (kV k) u) : (mixKind P w).is k u = true := by
  cases k with
  | inl i => obtain ⟨t, e⟩ := (show ∃ t, u = Value.int i t from r); subst e; exact mixKind_int P w i t
  | inr x => obtain ⟨t, e⟩ := (show ∃ t, u = Value.str x t from r); subst e; exact mixKind_str P w x t
theorem items_are {P : Program} {w : World} : ∀ {ks : List Key} {us : List Value}, Vals (ks.map kV) us → ItemsAre (mixKind P w) ks us
  | [], _, r => by rw [List.map_nil] at r; cases r; exact .nil
  | k :: ks, _, r => by
    rw [List.map_cons] at r
    cases r with
    | cons h t => exact .cons (kV_is h) (items_are t)
noncomputable abbrev KT (H : Hp) : List (List Key × V) → List (List Key × Addr × Value) → Prop := Paired fun p q => p.1 = q.1 ∧ H q.2.1 = some (.tup (p.1.map kV)) ∧ RelV p.2 q.2.2
theorem KT.val {H : Hp} {kvs : List (List Key × V)} {xs : List (List Key × Addr × Value)} (r : KT H kvs xs) (k : List Key) : RelO (valV kvs k) ((atKey xs k).map (·.2)) := by
  induction r with
  | nil => exact True.intro
  | @cons p q ps qs h t ih =>
    obtain ⟨h1, _, h2⟩ := h
    by_cases e : p.1 = k
    · have e' : q.1 = k := h1.symm.trans e
      have b : atKey (q :: qs) k = some q.2 := by simp [atKey, List.find?_cons, e']
      rw [valV_pos e, b]; exact h2
    · have e' : ¬ q.1 = k := fun z => e (h1.trans z)
      have b : atKey (q :: qs) k = atKey qs k := by simp [atKey, List.find?_cons, e']
      rw [valV_neg e, b]; exact ih
theorem KT.repl {H : Hp} {kvs : List (List Key × V)} {xs : List (List Key × Addr × Value)} (r : KT H kvs xs) (k : List Key) {y : V} {u : Value} (ry : RelV y u) :
    KT H (kvs.map fun kv => if kv.1 = k then (kv.1, y) else kv) (xs.map (putAt k u)) := by
  induction r with
  | nil => exact .nil
  | @cons p q ps qs h t ih =>
    rw [List.map_cons, List.map_cons]
    refine .cons ?_ ih
    obtain ⟨h1, h2, h3⟩ := h
    unfold putAt
    by_cases e : p.1 = k
    · rw [if_pos e, if_pos (h1.symm.trans e)]; exact ⟨h1, h2, ry⟩
    · rw [if_neg e, if_neg (fun z => e (h1.trans z))]; exact ⟨h1, h2, h3⟩
theorem KT.put {H : Hp} {kvs : List (List Key × V)} {xs : List (List Key × Addr × Value)} (r : KT H kvs xs) (k : List Key) {b : Addr} {y : V} {u : Value} (hb : H b = some (.tup (k.map kV))) (ry : RelV y u) :
    KT H (putK kvs k y) (storedH xs k b u) := by
  have e : (kvs.any fun kv => decide (kv.1 = k)) = (atKey xs k).isSome := by
    rw [valV_any, (r.val k).isSome_eq, Option.isSome_map]
  unfold putK storedH
  rw [e]
  by_cases q : (atKey xs k).isSome = true
  · rw [if_pos q, if_pos q]; exact r.repl k ry
  · rw [if_neg q, if_neg q]; exact Paired.snoc r ⟨rfl, hb, ry⟩
theorem KT.keeps {H H' : Hp} {kvs : List (List Key × V)} {xs : List (List Key × Addr × Value)} (r : KT H kvs xs) (ht : ∀ b ys, H b = some (.tup ys) → H' b = some (.tup ys)) : KT H' kvs xs :=
  Paired.mapP r fun _ _ z => ⟨z.1, ht _ _ z.2.1, z.2.2⟩
section
variable {P : Program} {w : World} {H : Hp} {h : Heap} {a : Addr}
theorem rd_of {u : HO} (ok : HOk P w H h) (e : Rd H a u) : ObjOk P w H h a u := e.ok ok
theorem dk_rd {kvs : List (Key × V)} (ok : HOk P w H h) (e : Rd H a (.dK kvs)) : kvs.length ≤ sizeLine ∧ (a == sysModules) = false ∧ ∃ vs, KV kvs vs ∧ h.DictOf (mixKind P w) a vs :=
  show ObjOk P w H h a (.dK kvs) from rd_of ok e
theorem dk_of {kvs : List (Key × V)} (ok : HOk P w H h) (e : H a = some (.dK kvs)) : kvs.length ≤ sizeLine ∧ (a == sysModules) = false ∧ ∃ vs, KV kvs vs ∧ h.DictOf (mixKind P w) a vs := dk_rd ok (.inl e)
theorem key_of {ks : List Key} (ok : HOk P w H h) (e : H a = some (.tup (ks.map kV))) : (tupleKind (mixKind P w)).is h ks a := by
  obtain ⟨_, its, r, o, h1, h2, n, h3⟩ := (show ObjOk P w H h a (.tup (ks.map kV)) from ok a _ e)
  exact ⟨o, its.toArray, n, h1, h2, h3, by simpa using items_are r⟩
theorem dt_rd {kvs : List (List Key × V)} (ok : HOk P w H h) (e : Rd H a (.dT kvs)) : kvs.length ≤ sizeLine ∧ (a == sysModules) = false ∧
    ∃ xs, KT H kvs xs ∧ h.DictOfH (tupleKind (mixKind P w)) a xs := by
  obtain ⟨z, y, xs, r, o, es, ep, h1, h2, h3, h4, h5⟩ := (show ObjOk P w H h a (.dT kvs) from rd_of ok e)
  refine ⟨z, y, xs, r, o, es, ep, h1, h2, h3, h4, fun x hx => ?_, h5⟩
  have all : ∀ {l : List (List Key × V)} {m : List (List Key × Addr × Value)}, KT H l m → ∀ x ∈ m, (tupleKind (mixKind P w)).is h x.1 x.2.1 := by
    intro l m q
    induction q with
    | nil => intro x hx; exact nomatch hx
    | @cons p q ps qs hq t ih =>
      intro x hx
      rcases List.mem_cons.mp hx with e | hx
      · subst e
        exact key_of ok (by rw [← hq.1]; exact hq.2.1)
      · exact ih x hx
  exact all r x hx
theorem dt_of {kvs : List (List Key × V)} (ok : HOk P w H h) (e : H a = some (.dT kvs)) : kvs.length ≤ sizeLine ∧ (a == sysModules) = false ∧
    ∃ xs, KT H kvs xs ∧ h.DictOfH (tupleKind (mixKind P w)) a xs := dt_rd ok (.inl e)
end
noncomputable def DGet (H : Hp) (a : Addr) (y : V) (r : Option V) : Prop :=
  (∃ kvs k, Rd H a (.dK kvs) ∧ y = kV k ∧ r = valV kvs k) ∨ ∃ kvs k b, Rd H a (.dT kvs) ∧ y = .ref b ∧ H b = some (.tup (k.map kV)) ∧ r = valV kvs k
noncomputable def DPut (H : Hp) (a : Addr) (y v : V) (H' : Hp) : Prop :=
  (∃ kvs k, H a = some (.dK kvs) ∧ y = kV k ∧ kvs.length < sizeLine ∧ H' = upd H a (.dK (putK kvs k v))) ∨
  ∃ kvs k b, H a = some (.dT kvs) ∧ y = .ref b ∧ H b = some (.tup (k.map kV)) ∧ kvs.length < sizeLine ∧ H' = upd H a (.dT (putK kvs k v))
theorem DGet.k {H : Hp} {a : Addr} {kvs : List (Key × V)} {k : Key} (e : H a = some (.dK kvs)) : DGet H a (kV k) (valV kvs k) := .inl ⟨kvs, k, .inl e, rfl, rfl⟩
theorem DGet.t {H : Hp} {a b : Addr} {kvs : List (List Key × V)} {k : List Key} (e : H a = some (.dT kvs)) (eb : H b = some (.tup (k.map kV))) : DGet H a (.ref b) (valV kvs k) := .inr ⟨kvs, k, b, .inl e, rfl, eb, rfl⟩
theorem DPut.k {H : Hp} {a : Addr} {kvs : List (Key × V)} {k : Key} {v : V} (e : H a = some (.dK kvs)) (hl : kvs.length < sizeLine) : DPut H a (kV k) v (upd H a (.dK (putK kvs k v))) := .inl ⟨kvs, k, e, rfl, hl, rfl⟩
theorem DPut.t {H : Hp} {a b : Addr} {kvs : List (List Key × V)} {k : List Key} {v : V} (e : H a = some (.dT kvs)) (eb : H b = some (.tup (k.map kV))) (hl : kvs.length < sizeLine) :
    DPut H a (.ref b) v (upd H a (.dT (putK kvs k v))) := .inr ⟨kvs, k, b, e, rfl, eb, hl, rfl⟩
section
variable {X : Cx} {pins : List (Addr × Obj)} {σ : St} {H : Hp} {s : Shared} {a : Addr} {y v : V} {u r : Value} {o : Option V} {A : Around} {E : Value → Shared → Prop}
theorem Inv.big (I : Inv X pins σ H s) : sysModules < s.heap.objs.size := by
  have h : mainGlobals < s.heap.objs.size := (I.mod.glob.keeps I.bk).lt
  exact Nat.lt_trans (by decide) h
theorem d_getItem {Q : Value → Shared → Prop} (hu : A.units + 1 < cLine) (I : Inv X pins σ H s) (g : DGet H a y (some v)) (ry : RelV y u) (h : ∀ w' s', Inv X pins σ H s' → RelV v w' → Q w' s') :
    wpAny (model X.prog X.w) A (getItem (.ref a) u) Q E s := by
  rcases g with ⟨kvs, k, e, ey, l⟩ | ⟨kvs, k, b, e, ey, eb, l⟩
  · subst ey
    obtain ⟨z, hd, vs, rel, dd⟩ := dk_rd I.hok e
    obtain ⟨w', hw, rw'⟩ := RelO.some_of (v := v) (o := valueAt vs k) (by rw [l]; exact rel.val k)
    exact wpAny_getItem_of (kV_is ry) dd.mapOf hw (h w' _ (I.tok _) rw')
  · subst ey
    cases (show u = Value.ref b from ry)
    obtain ⟨z, hd, xs, rel, dd⟩ := dt_rd I.hok e
    obtain ⟨w', hw, rw'⟩ := RelO.some_of (v := v) (o := (atKey xs k).map (·.2)) (by rw [l]; exact rel.val k)
    obtain ⟨p, hp, hp2⟩ := Option.map_eq_some_iff.mp hw
    refine wpAny_getItem_heap (tupleKind_room_in1 hu) (key_of I.hok eb) dd hp ?_
    rw [hp2]
    exact h w' _ (I.tok _) rw'
theorem d_notIn {Q : Value → Shared → Prop} (hu : A.units + 1 < cLine) (I : Inv X pins σ H s) (g : DGet H a y o) (ry : RelV y u) (h : ∀ s', Inv X pins σ H s' → Q (.bool (!o.isSome)) s') :
    wpAny (model X.prog X.w) A (compareOp .NotIn u (.ref a)) Q E s := by
  rcases g with ⟨kvs, k, e, ey, l⟩ | ⟨kvs, k, b, e, ey, eb, l⟩
  · subst ey
    obtain ⟨z, hd, vs, rel, dd⟩ := dk_rd I.hok e
    refine wpAny_notIn_of (kV_is ry) hd dd.mapOf ?_
    rw [← (rel.val k).isSome_eq, ← l]
    exact h _ (I.tok _)
  · subst ey
    cases (show u = Value.ref b from ry)
    obtain ⟨z, hd, xs, rel, dd⟩ := dt_rd I.hok e
    refine wpAny_notIn_heap (tupleKind_room_in1 hu) (key_of I.hok eb) hd dd ?_
    have q := (rel.val k).isSome_eq
    rw [Option.isSome_map] at q
    rw [← q, ← l]
    exact h _ (I.tok _)
theorem d_write {h' : Heap} {t' : Nat} {ob : HO} (I : Inv X pins σ H s) (mu : Mut (H a)) (hs : Heap.SameBut a s.heap h') (he : ∃ q, h'.get? a = some q) (new : ObjOk X.prog X.w (upd H a ob) h' a ob) :
    Inv X pins σ (upd H a ob) { s with heap := h', toks := t' } :=
  I.write (x := a) (e := a) mu (.inl rfl) (fun b q hb z => (hs.2 b hb).trans z) he new
theorem dk_new {P : Program} {w : World} {H' : Hp} {h' : Heap} {kvs : List (Key × V)} {vs : List (Key × Value)} (z : kvs.length ≤ sizeLine) (hd : (a == sysModules) = false) (rel : KV kvs vs) (dd : h'.DictOf (mixKind P w) a vs) :
    ObjOk P w H' h' a (.dK kvs) := ⟨z, hd, vs, rel, dd⟩
theorem d_setItem {H' : Hp} {Q : Unit → Shared → Prop} (hu : A.units + 1 < cLine) (I : Inv X pins σ H s) (g : DPut H a y v H') (ry : RelV y u) (rv : RelV v r) (h : ∀ s', Inv X pins σ H' s' → Q () s') :
    wpAny (model X.prog X.w) A (setItem (.ref a) u r) Q E s := by
  rcases g with ⟨kvs, k, e, ey, l, eH⟩ | ⟨kvs, k, b, e, ey, eb, l, eH⟩
  · subst ey eH
    obtain ⟨z, hd, vs, rel, dd⟩ := dk_of I.hok e
    have hz : vs.length ≤ sizeLine := by rw [← rel.length]; exact z
    have hl : (putK kvs k v).length ≤ sizeLine := by have := length_putK kvs k v; omega
    refine wpAny_setItem_pairs (hsz := hz) (kV_is ry) dd fun h' dd' hs => h _ ?_
    have he : ∃ q, h'.get? a = some q := let ⟨q, _, _, hq, _⟩ := dd'; ⟨q, hq⟩
    exact d_write I (by rw [e]; exact True.intro) hs he (dk_new hl hd (rel.put k rv) dd')
  · subst ey eH
    cases (show u = Value.ref b from ry)
    obtain ⟨z, hd, xs, rel, dd⟩ := dt_of I.hok e
    have hz : xs.length ≤ sizeLine := by rw [← Paired.length rel]; exact z
    have hl : (putK kvs k v).length ≤ sizeLine := by have := length_putK kvs k v; omega
    refine wpAny_setItem_heap (hsz := hz) (tupleKind_room_in1 hu) (key_of I.hok eb) dd fun h' dd' hs => h _ ?_
    obtain ⟨q, es, ep, hq, h2, h3, h4, _, h5⟩ := dd'
    refine d_write I (by rw [e]; exact True.intro) hs ⟨q, hq⟩ ⟨hl, hd, _, (rel.put k eb rv).keeps fun c ys ec => ?_, q, es, ep, hq, h2, h3, h4, h5⟩
    rw [upd_ne (ne_of ec e (fun z => nomatch z))]
    exact ec
end
section
variable {X : Cx} {pins : List (Addr × Obj)} {σ : St} {H : Hp} {s : Shared} {a : Addr} {kvs : List (Key × V)} {k : Key} {u : Value} {A : Around} {E : Value → Shared → Prop}
end
theorem dict_typeIs {X : Cx} {pins : List (Addr × Obj)} {σ : St} {H : Hp} {s : Shared} {a : Addr} {y : V} {o : Option V} (I : Inv X pins σ H s) (g : DGet H a y o) : s.TypeIs (.ref a) "dict" := by
  rcases g with ⟨kvs, k, e, _, _⟩ | ⟨kvs, k, b, e, _, _, _⟩
  · obtain ⟨_, _, vs, _, dd⟩ := dk_rd I.hok e
    exact dd.typeIs
  · obtain ⟨_, _, xs, _, dd⟩ := dt_rd I.hok e
    exact dd.typeIs
noncomputable def sDPut (td ty tv : TE) : TS := fun D σ H => tv σ H fun v H1 => td σ H1 fun x H2 => ty σ H2 fun y H3 => ∃ a H4, x = .ref a ∧ DPut H3 a y v H4 ∧ D.nx σ H4
section
variable {X : Cx} {o i e value : Expr} {pos pos' tpos : Pos} {td ty tv : TE}
theorem ps_dput (hu : X.A.units + 1 < cLine) (ho : PE X o td) (hi : PE X i ty) (hv : PE X value tv) (hs : swapsWith value (some (.Subscript o i pos')) pos.line X.env = pure false) :
    PS X (.Assign [.Subscript o i pos'] value pos) (sDPut td ty tv) := by
  intro pins s σ H D I h
  refine wpAny_Assign_Subscript (thn (hv pins s σ H _ I h) fun r s1 ⟨v, H1, I1, rv, q1⟩ => thn (ho pins s1 σ H1 _ I1 q1) fun u s2 ⟨x, H2, I2, rx, q2⟩ => thn (hi pins s2 σ H2 _ I2 q2) fun iv s3 hq__ => ?_) hs
  obtain ⟨y, H3, I3, ry, a, H4, ex, g, q3⟩ := hq__
  subst ex
  obtain rfl : u = Value.ref a := rx
  exact d_setItem hu I3 g ry rv fun s4 I4 => ⟨σ, H4, I4, q3⟩
end
theorem dk_empty {P : Program} {w : World} {H : Hp} (h : Heap) (hb : sysModules < h.objs.size) : ObjOk P w H (h.push { cls := .type "dict", data := .dict #[] }) h.objs.size (.dK []) :=
  ⟨Nat.zero_le _, beq_eq_false_iff_ne.mpr (Ne.symm (Nat.ne_of_lt hb)), [], .nil, Heap.DictOf.new h⟩
noncomputable def tDNewK : TE := fun _ H Q => ∀ p, H p = none → Q (.ref p) (upd H p (.dK []))
section
variable {X : Cx} {pos : Pos}
theorem pe_dnewK : PE X (.Dict [] [] pos) tDNewK := fun pins s σ H Q I h =>
  wpAny_Dict_empty ⟨.ref s.heap.objs.size, _, I.laid (a := s.heap.objs.size) (o := .dK []) (t' := s.toks) (fun _ _ q => Heap.get?_push_of_some _ q) (Nat.le_refl _) (dk_empty s.heap I.big), rfl, h _ (I.hok.fresh (Nat.le_refl _))⟩
end
noncomputable def tPairs : List (TE × TE) → St → Hp → (List (V × V) → Hp → Prop) → Prop
  | [], _, H, Q => Q [] H
  | (tk, tv) :: r, σ, H, Q => tk σ H fun x H1 => tv σ H1 fun y H2 => tPairs r σ H2 fun ps H3 => Q ((x, y) :: ps) H3
noncomputable abbrev VV : List (V × V) → List (Value × Value) → Prop := Paired fun p q => RelV p.1 q.1 ∧ RelV p.2 q.2
noncomputable def PPs (X : Cx) (pos : Pos) (keys : List (Option Expr)) (values : List Expr) (trs : List (TE × TE)) : Prop :=
  ∀ (pins : List (Addr × Obj)) (s : Shared) (σ : St) (H : Hp) (Q : List (V × V) → Hp → Prop), Inv X pins σ H s → tPairs trs σ H Q →
    wpAny (model X.prog X.w) X.A (evalPairs (pairTrees keys values X.env pos)) (fun vs s' => ∃ ps H', Inv X pins σ H' s' ∧ VV ps vs ∧ Q ps H') X.xe s
theorem pps_nil {X : Cx} {pos : Pos} : PPs X pos [] [] [] := fun pins s σ H Q I h => pairTrees_nil_walk ⟨[], H, I, .nil, h⟩
theorem pps_cons {X : Cx} {pos : Pos} {k v : Expr} {ks : List (Option Expr)} {vs : List Expr} {tk tv : TE} {trs : List (TE × TE)} (hk : PE X k tk) (hv : PE X v tv) (hr : PPs X pos ks vs trs) :
    PPs X pos (some k :: ks) (v :: vs) ((tk, tv) :: trs) := fun pins s σ H Q I h =>
  pairTrees_cons_walk (thn (hk pins s σ H _ I h) fun u s1 ⟨x, H1, I1, rx, q1⟩ => thn (hv pins s1 σ H1 _ I1 q1) fun w2 s2 ⟨y, H2, I2, ry, q2⟩ =>
    thn (hr pins s2 σ H2 _ I2 q2) fun ws s3 ⟨ps, H3, I3, rel, q3⟩ => ⟨(x, y) :: ps, H3, I3, .cons ⟨rx, ry⟩ rel, q3⟩)
noncomputable def mergeK (kvs more : List (Key × V)) : List (Key × V) := more.foldl (fun acc kv => putK acc kv.1 kv.2) kvs
theorem KV.merge : ∀ {more : List (Key × V)} {rs : List (Key × Value)} {kvs : List (Key × V)} {vs : List (Key × Value)}, KV more rs → KV kvs vs → KV (mergeK kvs more) (merged vs rs) := by
  intro more rs kvs vs r
  unfold KV at r
  induction r generalizing kvs vs with
  | nil => intro q; exact q
  | @cons p q ps qs h t ih =>
    intro r0
    have e : KV (putK kvs p.1 p.2) (stored vs q.1 q.2) := by
      have := r0.put p.1 h.2
      rw [← h.1]; exact this
    exact ih e
theorem length_mergeK : ∀ (more kvs : List (Key × V)), (mergeK kvs more).length ≤ kvs.length + more.length
  | [], kvs => by show kvs.length ≤ kvs.length + 0; omega
  | p :: r, kvs => by
    have h1 := length_mergeK r (putK kvs p.1 p.2)
    have h2 := length_putK kvs p.1 p.2
    show (mergeK (putK kvs p.1 p.2) r).length ≤ _
    rw [List.length_cons]; omega
theorem carries_of {P : Program} {w : World} : ∀ {kvs : List (Key × V)} {ws : List (Value × Value)}, VV (kvs.map fun kv => (kV kv.1, kv.2)) ws → ∃ rs, Carries (mixKind P w) ws rs ∧ KV kvs rs
  | [], _, r => by rw [List.map_nil] at r; cases r; exact ⟨[], True.intro, .nil⟩
  | p :: kvs, _, r => by
    rw [List.map_cons] at r
    cases r with
    | @cons a b as bs h t =>
      obtain ⟨rs, c, q⟩ := carries_of (P := P) (w := w) t
      obtain ⟨b1, b2⟩ := b
      exact ⟨(p.1, b2) :: rs, ⟨kV_is h.1, rfl, c⟩, .cons ⟨rfl, h.2⟩ q⟩
noncomputable def tDisp (trs : List (TE × TE)) : TE := fun σ H Q => ∀ p, H p = none → tPairs trs σ (upd H p (.dK [])) fun ps H2 => H2 p = some (.dK []) ∧ ∃ kvs : List (Key × V), ps = kvs.map (fun kv => (kV kv.1, kv.2)) ∧ kvs.length ≤ 15 ∧ Q (.ref p) (upd H2 p (.dK (mergeK [] kvs)))
theorem pe_disp {X : Cx} {pos : Pos} {keys : List (Option Expr)} {values : List Expr} {trs : List (TE × TE)} (h : PPs X pos keys values trs) (hall : keys.all (·.isSome) = true) (hl : keys.length = values.length) (h0 : keys ≠ [])
    (h15 : keys.length ≤ 15) : PE X (.Dict keys values pos) (tDisp trs) := by
  intro pins s σ H Q I q
  have hn := I.hok.fresh (Nat.le_refl s.heap.objs.size)
  have I1 := I.laid (a := s.heap.objs.size) (o := .dK []) (h' := s.heap.push { cls := .type "dict", data := .dict #[] }) (t' := s.toks) (fun _ _ q => Heap.get?_push_of_some _ q) (Nat.le_refl _) (dk_empty s.heap I.big)
  refine wpAny_Dict_walk (knd := mixKind X.prog X.w) hall hl h0 h15 (thn (h pins _ σ _ _ I1 (q _ hn)) fun ws s2 hq__ => ?_)
  obtain ⟨ps, H2, I2, rel, e, kvs, ep, lk, q2⟩ := hq__
  subst ep
  obtain ⟨rs, c, rk⟩ := carries_of (P := X.prog) (w := X.w) rel
  obtain ⟨z, hd, vs0, r0, dd⟩ := dk_of I2.hok e
  cases r0
  refine ⟨rs, c, dd, fun h' dd' hs => ⟨.ref s.heap.objs.size, _, ?_, rfl, q2⟩⟩
  have hz : (mergeK [] kvs).length ≤ sizeLine := by
    have h1 := length_mergeK kvs []
    rw [List.length_nil] at h1
    rw [sizeLine_eq]; omega
  have he : ∃ q, h'.get? s.heap.objs.size = some q := let ⟨q, _, _, hq, _⟩ := dd'; ⟨q, hq⟩
  exact d_write I2 (by rw [e]; exact True.intro) hs he (dk_new hz hd (rk.merge .nil) dd')
section
variable {X : Cx} {pins : List (Addr × Obj)} {σ : St} {H : Hp} {s : Shared} {a : Addr} {y d : V} {u r : Value} {o : Option V} {A : Around} {E : Value → Shared → Prop}
end
section
variable {X : Cx} {o e f : Expr} {apos cpos : Pos} {td ty tx : TE}
end
section
variable {X : Cx} {pins : List (Addr × Obj)} {σ : St} {H : Hp} {s : Shared} {a : Addr} {kvs : List (Key × V)} {A : Around} {E : Value → Shared → Prop}
end
section
variable {X : Cx} {pins : List (Addr × Obj)} {σ : St} {H : Hp} {s : Shared} {a : Addr} {y : V} {u : Value} {A : Around} {E : Value → Shared → Prop}
end
end L2
namespace L2
open PySem PySem.Spec PyProof.Rows
noncomputable abbrev NKey := List (List Int)
noncomputable def nHash (ks : NKey) : Int := reduceHash (Builtin.Tuple.tupleHashOf (ks.map fun k => reduceHash (Builtin.Tuple.tupleHashOf (k.map hashInt))))
noncomputable def NDict (a : Addr) (xs : List (NKey × Addr × Value)) : HO := .ext fun h =>
  xs.length ≤ sizeLine ∧ (a == sysModules) = false ∧ (xs.map (·.1)).Nodup ∧ ∃ o es ep, h.get? a = some o ∧ o.ExactDict ∧ o.data = .dict es ep ∧ es.toList = xs.map fun x => ⟨nHash x.1, .ref x.2.1, x.2.2⟩
noncomputable def NTup (K : PySem.W.Frag) (H : Hp) (ks : NKey) (b : Addr) : Prop := ∃ cs : List Addr, SqT K H b (cs.map V.ref) ∧ Paired (fun (k : List Int) c => SqT K H c (k.map V.int)) ks cs
noncomputable abbrev KN (K : PySem.W.Frag) (H : Hp) : List (NKey × V) → List (NKey × Addr × Value) → Prop := Paired fun p q => p.1 = q.1 ∧ NTup K H p.1 q.2.1 ∧ RelV p.2 q.2.2
theorem NTup.keeps {K : PySem.W.Frag} {H H' : Hp} {ks : NKey} {b : Addr} (n : NTup K H ks b) (ht : ∀ b ys, SqT K H b ys → SqT K H' b ys) : NTup K H' ks b := by
  obtain ⟨cs, h1, h2⟩ := n
  exact ⟨cs, ht _ _ h1, Paired.mapP h2 fun _ _ z => ht _ _ z⟩
theorem KN.keeps {K : PySem.W.Frag} {H H' : Hp} {kvs : List (NKey × V)} {xs : List (NKey × Addr × Value)} (r : KN K H kvs xs) (ht : ∀ b ys, SqT K H b ys → SqT K H' b ys) : KN K H' kvs xs :=
  Paired.mapP r fun _ _ z => ⟨z.1, z.2.1.keeps ht, z.2.2⟩
noncomputable def tHash (k : List Int) : Int := reduceHash (Builtin.Tuple.tupleHashOf (k.map hashInt))
noncomputable def TDict (a : Addr) (xs : List (List Int × Addr × Value)) : HO := .ext fun h =>
  xs.length ≤ sizeLine ∧ (a == sysModules) = false ∧ (xs.map (·.1)).Nodup ∧ ∃ o es ep, h.get? a = some o ∧ o.ExactDict ∧ o.data = .dict es ep ∧ es.toList = xs.map fun x => ⟨tHash x.1, .ref x.2.1, x.2.2⟩
end L2
namespace PySem
open Sem (wp)
section
variable {prog : Program} {w : World} {K : Type} [DecidableEq K] (knd : KeyKind prog w K)
inductive NestAre (h : Heap) : List (List K) → List Value → Prop
  | nil : NestAre h [] []
  | cons {k : List K} {a : Addr} {ks : List (List K)} {vs : List Value} : IsTupleKey knd h k a → NestAre h ks vs → NestAre h (k :: ks) (.ref a :: vs)
noncomputable def IsNestKey (h : Heap) (ks : List (List K)) (a : Addr) : Prop := ∃ o items n, h.get? a = some o ∧ o.cls = .type "tuple" ∧ o.data = .seq items n ∧ NestAre knd h ks items.toList
variable {knd}
theorem NestAre.inj {h : Heap} {x y : List (List K)} {vs : List Value} (hx : NestAre knd h x vs) (hy : NestAre knd h y vs) : x = y := by
  induction hx generalizing y with
  | nil => cases hy; rfl
  | cons h1 _ ih => cases hy with
    | cons h2 t2 => rw [h1.inj h2, ih t2]
theorem NestAre.length {h : Heap} {x : List (List K)} {vs : List Value} (hx : NestAre knd h x vs) : x.length = vs.length := by
  induction hx with
  | nil => rfl
  | cons _ _ ih => simp [ih]
theorem IsNestKey.typeIs {s : Shared} {ks : List (List K)} {a : Addr} (x : IsNestKey knd s.heap ks a) : s.TypeIs (.ref a) "tuple" := let ⟨o, _, _, ho, hc, _⟩ := x; ⟨o, ho, hc⟩
theorem IsNestKey.inj {h : Heap} {a : Addr} {x y : List (List K)} (hx : IsNestKey knd h x a) (hy : IsNestKey knd h y a) : x = y := by
  obtain ⟨o, items, n, ho, _, hd, hi⟩ := hx
  obtain ⟨o', items', n', ho', _, hd', hi'⟩ := hy
  obtain rfl : o = o' := Option.some.inj (ho.symm.trans ho')
  rw [hd] at hd'
  injection hd' with h1 _
  subst h1
  exact hi.inj hi'
variable {A : Around} {E : Value → Shared → Prop} {s : Shared}
end
end PySem
namespace L2
open PySem PySem.Spec PyProof.Rows
section
variable {X : Cx} {pins : List (Addr × Obj)} {σ : St} {H : Hp} {s : Shared} {a b : Addr} {v : V} {u r : Value} {A : Around} {E : Value → Shared → Prop} {kvs : List (NKey × V)} {xs : List (NKey × Addr × Value)} {k : NKey}
end
end L2
namespace L3
open PySem PySem.Spec PyProof.Rows L2
structure Exn where
  cls : Str
  arg : Option PyData
inductive Res (α : Type) where
  | ok (a : α)
  | err (x : Exn)
  | bad
noncomputable def Res.bind {α β : Type} : Res α → (α → Res β) → Res β
  | .ok a, f => f a
  | .err x, _ => .err x
  | .bad, _ => .bad
@[simp] theorem Res.ok_bind {α β : Type} (a : α) (f : α → Res β) : (Res.ok a).bind f = f a := rfl
@[simp] theorem Res.err_bind {α β : Type} (x : Exn) (f : α → Res β) : (Res.err x : Res α).bind f = .err x := rfl
@[simp] theorem Res.bad_bind {α β : Type} (f : α → Res β) : (Res.bad : Res α).bind f = .bad := rfl
theorem Res.bind_ok {α β : Type} {r : Res α} {f : α → Res β} {b : β} (h : r.bind f = .ok b) : ∃ a, r = .ok a ∧ f a = .ok b := by
  cases r with
  | ok a => exact ⟨a, rfl, h⟩
  | err x => cases h
  | bad => cases h
noncomputable def gd {α : Type} (c : Prop) [Decidable c] (r : Res α) : Res α := if c then r else .bad
theorem gd_ok {α : Type} {c : Prop} [Decidable c] {r : Res α} {a : α} (h : gd c r = .ok a) : c ∧ r = .ok a := by
  unfold gd at h
  by_cases hc : c
  · rw [if_pos hc] at h; exact ⟨hc, h⟩
  · rw [if_neg hc] at h; cases h
theorem gd_pos {α : Type} {c : Prop} [Decidable c] {r : Res α} (h : c) : gd c r = r := if_pos h
noncomputable abbrev Ev := List (Option PyData)
inductive Out where
  | nx (Γ : Ev)
  | rt (d : PyData)
  | bk (Γ : Ev)
  | ct (Γ : Ev)
noncomputable abbrev ME := Ev → Res PyData
noncomputable abbrev MS := Ev → Res Out
noncomputable def keyD : PyData → Option Key
  | .int i => some (.inl i)
  | .str x => some (.inr x)
  | _ => none
mutual
noncomputable def Rp (K : PySem.W.Frag) (A : Hp) : PyData → V → Prop
  | .none, v => v = .non
  | .bool b, v => v = .bl b
  | .int i, v => v = .int i
  | .str x, v => v = .str x
  | .list ds, v => ∃ a vs, v = .ref a ∧ SqL K A a vs ∧ RpAll K A ds vs
  | .tuple ds, v => ∃ a vs, v = .ref a ∧ SqT K A a vs ∧ RpAll K A ds vs
  | .dict kvs, v => ∃ a u, v = .ref a ∧ Rd A a (.dK u) ∧ RpKV K A kvs u
noncomputable def RpAll (K : PySem.W.Frag) (A : Hp) : List PyData → List V → Prop
  | [], vs => vs = []
  | d :: ds, vs => ∃ v r, vs = v :: r ∧ Rp K A d v ∧ RpAll K A ds r
noncomputable def RpKV (K : PySem.W.Frag) (A : Hp) : List (PyData × PyData) → List (Key × V) → Prop
  | [], u => u = []
  | (k, d) :: r, u => ∃ key v u', u = (key, v) :: u' ∧ keyD k = some key ∧ Rp K A d v ∧ RpKV K A r u'
end
theorem Same.rd {H H' : Hp} (e : Same H H') {a : Addr} {u : HO} (h : Rd H a u) : Rd H' a u := by
  rcases h with h | ⟨o, h⟩
  · exact .inl (e _ _ h)
  · exact .inr ⟨o, e _ _ h⟩
theorem Rd.seq {K : PySem.W.Frag} {H : Hp} {a : Addr} {vs : List V} (h : Rd H a (.lst vs)) : SqL K H a vs := .inl h
mutual
theorem Rp.mono {K : PySem.W.Frag} {H H' : Hp} (e : Same H H') : ∀ (d : PyData) {v : V}, Rp K H d v → Rp K H' d v
  | .none, v, h => by rw [Rp] at h ⊢; exact h
  | .bool _, v, h => by rw [Rp] at h ⊢; exact h
  | .int _, v, h => by rw [Rp] at h ⊢; exact h
  | .str _, v, h => by rw [Rp] at h ⊢; exact h
  | .list ds, v, h => by
    rw [Rp] at h ⊢
    obtain ⟨a, vs, h1, h2, h3⟩ := h
    exact ⟨a, vs, h1, e.seq h2, RpAll.mono e ds h3⟩
  | .tuple ds, v, h => by
    rw [Rp] at h ⊢
    obtain ⟨a, vs, h1, h2, h3⟩ := h
    exact ⟨a, vs, h1, e.seqT h2, RpAll.mono e ds h3⟩
  | .dict kvs, v, h => by
    rw [Rp] at h ⊢
    obtain ⟨a, u, h1, h2, h3⟩ := h
    exact ⟨a, u, h1, Same.rd e h2, RpKV.mono e kvs h3⟩
theorem RpAll.mono {K : PySem.W.Frag} {H H' : Hp} (e : Same H H') : ∀ (ds : List PyData) {vs : List V}, RpAll K H ds vs → RpAll K H' ds vs
  | [], vs, h => by rw [RpAll] at h ⊢; exact h
  | d :: ds, vs, h => by
    rw [RpAll] at h ⊢
    obtain ⟨v, r, h1, h2, h3⟩ := h
    exact ⟨v, r, h1, Rp.mono e d h2, RpAll.mono e ds h3⟩
theorem RpKV.mono {K : PySem.W.Frag} {H H' : Hp} (e : Same H H') : ∀ (kvs : List (PyData × PyData)) {u : List (Key × V)}, RpKV K H kvs u → RpKV K H' kvs u
  | [], u, h => by rw [RpKV] at h ⊢; exact h
  | (k, d) :: r, u, h => by
    rw [RpKV] at h ⊢
    obtain ⟨key, v, u', h1, h2, h3, h4⟩ := h
    exact ⟨key, v, u', h1, h2, Rp.mono e d h3, RpKV.mono e r h4⟩
end
mutual
theorem Rp.is {K : PySem.W.Frag} {H : Hp} : ∀ (d : PyData) {v : V}, d.canLay0 = true → Rp K H d v → Is K H d v
  | .none, v, _, h => by rw [Rp] at h; rw [Is]; exact h
  | .bool _, v, _, h => by rw [Rp] at h; rw [Is]; exact h
  | .int _, v, _, h => by rw [Rp] at h; rw [Is]; exact h
  | .str _, v, _, h => by rw [Rp] at h; rw [Is]; exact h
  | .list ds, v, c, h => by
    rw [Rp] at h; rw [Is]
    rw [PyData.canLay0] at c
    obtain ⟨a, vs, h1, h2, h3⟩ := h
    exact ⟨a, vs, h1, h2, RpAll.is ds c h3⟩
  | .tuple ds, v, c, h => by
    rw [Rp] at h; rw [Is]
    rw [PyData.canLay0] at c
    obtain ⟨a, vs, h1, h2, h3⟩ := h
    exact ⟨a, vs, h1, h2, RpAll.is ds c h3⟩
  | .dict _, v, c, h => by rw [PyData.canLay0] at c; cases c
theorem RpAll.is {K : PySem.W.Frag} {H : Hp} : ∀ (ds : List PyData) {vs : List V}, PyData.canLayAll0 ds = true → RpAll K H ds vs → IsAll K H ds vs
  | [], vs, _, h => by rw [RpAll] at h; rw [IsAll]; exact h
  | d :: ds, vs, c, h => by
    rw [RpAll] at h; rw [IsAll]
    rw [PyData.canLayAll0, Bool.and_eq_true] at c
    obtain ⟨v, r, h1, h2, h3⟩ := h
    exact ⟨v, r, h1, Rp.is d c.1 h2, RpAll.is ds c.2 h3⟩
end
section
variable {K : PySem.W.Frag} {A H : Hp} {v : V}
theorem Rp.int {i : Int} : Rp K A (.int i) v ↔ v = .int i := by rw [Rp]
theorem Rp.bool {b : Bool} : Rp K A (.bool b) v ↔ v = .bl b := by rw [Rp]
theorem Rp.none : Rp K A .none v ↔ v = .non := by rw [Rp]
theorem Rp.str {x : Str} : Rp K A (.str x) v ↔ v = .str x := by rw [Rp]
theorem Rp.list {ds : List PyData} : Rp K A (.list ds) v ↔ ∃ a vs, v = .ref a ∧ SqL K A a vs ∧ RpAll K A ds vs := by rw [Rp]
theorem Rp.tuple {ds : List PyData} : Rp K A (.tuple ds) v ↔ ∃ a vs, v = .ref a ∧ SqT K A a vs ∧ RpAll K A ds vs := by rw [Rp]
theorem RpAll.nil {vs : List V} : RpAll K A [] vs ↔ vs = [] := by rw [RpAll]
theorem RpAll.cons {d : PyData} {ds : List PyData} {vs : List V} : RpAll K A (d :: ds) vs ↔ ∃ v r, vs = v :: r ∧ Rp K A d v ∧ RpAll K A ds r := by rw [RpAll]
theorem RpAll.length : ∀ {ds : List PyData} {vs : List V}, RpAll K A ds vs → ds.length = vs.length
  | [], vs, h => by rw [RpAll.nil] at h; rw [h]; rfl
  | d :: ds, vs, h => by
    rw [RpAll.cons] at h
    obtain ⟨v, r, rfl, _, h⟩ := h
    rw [List.length_cons, List.length_cons, RpAll.length h]
theorem RpAll.get : ∀ {ds : List PyData} {vs : List V} {i : Nat} {x : V}, RpAll K A ds vs → vs[i]? = some x → ∃ d, ds[i]? = some d ∧ Rp K A d x
  | [], vs, i, x, h, e => by rw [RpAll.nil] at h; subst h; simp at e
  | d :: ds, vs, i, x, h, e => by
    rw [RpAll.cons] at h
    obtain ⟨v, r, rfl, h1, h⟩ := h
    match i with
    | 0 => simp at e; subst e; exact ⟨d, rfl, h1⟩
    | i + 1 =>
      have e' : r[i]? = some x := by simpa using e
      obtain ⟨d', h2, h3⟩ := RpAll.get h e'
      exact ⟨d', by simpa using h2, h3⟩
theorem RpAll.get' : ∀ {ds : List PyData} {vs : List V} {i : Nat} {d : PyData}, RpAll K A ds vs → ds[i]? = some d → ∃ x, vs[i]? = some x ∧ Rp K A d x
  | [], vs, i, x, h, e => by simp at e
  | d :: ds, vs, i, x, h, e => by
    rw [RpAll.cons] at h
    obtain ⟨v, r, rfl, h1, h⟩ := h
    match i with
    | 0 => simp at e; subst e; exact ⟨v, rfl, h1⟩
    | i + 1 =>
      have e' : ds[i]? = some x := by simpa using e
      obtain ⟨d', h2, h3⟩ := RpAll.get' h e'
      exact ⟨d', by simpa using h2, h3⟩
theorem RpAll.append : ∀ {ds es : List PyData} {vs us : List V}, RpAll K A ds vs → RpAll K A es us → RpAll K A (ds ++ es) (vs ++ us)
  | [], es, vs, us, h, g => by rw [RpAll.nil] at h; subst h; exact g
  | d :: ds, es, vs, us, h, g => by
    rw [RpAll.cons] at h
    obtain ⟨v, r, rfl, h1, h⟩ := h
    rw [List.cons_append, List.cons_append, RpAll.cons]
    exact ⟨v, r ++ us, rfl, h1, RpAll.append h g⟩
theorem RpAll.one {d : PyData} {x : V} (h : Rp K A d x) : RpAll K A [d] [x] := by rw [RpAll.cons]; exact ⟨x, [], rfl, h, RpAll.nil.mpr rfl⟩
theorem RpAll.take : ∀ {ds : List PyData} {vs : List V} (n : Nat), RpAll K A ds vs → RpAll K A (ds.take n) (vs.take n)
  | _, _, 0, _ => by rw [List.take_zero, List.take_zero]; exact RpAll.nil.mpr rfl
  | [], vs, n + 1, h => by rw [RpAll.nil] at h; subst h; exact RpAll.nil.mpr rfl
  | d :: ds, vs, n + 1, h => by
    rw [RpAll.cons] at h
    obtain ⟨v, r, rfl, h1, h⟩ := h
    rw [List.take_succ_cons, List.take_succ_cons, RpAll.cons]
    exact ⟨v, _, rfl, h1, RpAll.take n h⟩
theorem RpAll.drop : ∀ {ds : List PyData} {vs : List V} (n : Nat), RpAll K A ds vs → RpAll K A (ds.drop n) (vs.drop n)
  | _, _, 0, h => by rw [List.drop_zero, List.drop_zero]; exact h
  | [], vs, n + 1, h => by rw [RpAll.nil] at h; subst h; exact RpAll.nil.mpr rfl
  | d :: ds, vs, n + 1, h => by
    rw [RpAll.cons] at h
    obtain ⟨v, r, rfl, h1, h⟩ := h
    rw [List.drop_succ_cons, List.drop_succ_cons]
    exact RpAll.drop n h
theorem RpAll.ints {ns : List Int} : RpAll K A (ns.map PyData.int) (ns.map V.int) := by
  induction ns with
  | nil => exact RpAll.nil.mpr rfl
  | cons n ns ih => exact RpAll.cons.mpr ⟨_, _, rfl, Rp.int.mpr rfl, ih⟩
end
inductive Fl where
  | imm | bor | own | fix (p : Addr) | exc (C : Addr) | nst (b : Bool) | kit
  deriving DecidableEq
noncomputable def isO : Fl → Bool
  | .own => true
  | .fix _ => true
  | _ => false
noncomputable def isX : Fl → Bool
  | .exc _ => true
  | .nst _ => true
  | .kit => true
  | _ => false
noncomputable def ExcV (A : Hp) (C : Addr) (v : V) : Prop := ∃ p ob, v = .ref p ∧ A p = some (.frz ob (.own 0)) ∧ ob.cls = .ref C
noncomputable def intsD : List PyData → Option (List Int)
  | [] => some []
  | .int i :: r => match intsD r with
    | some l => some (i :: l)
    | none => none
  | _ :: _ => none
noncomputable def keysD : List PyData → Option NKey
  | [] => some []
  | .tuple ds :: r => match intsD ds, keysD r with
    | some a, some b => some (a :: b)
    | _, _ => none
  | _ :: _ => none
noncomputable def keyN : PyData → Option NKey
  | .tuple ds => keysD ds
  | _ => none
noncomputable def RpN (K : PySem.W.Frag) (A : Hp) (kvs : List (PyData × PyData)) (xs : List (NKey × Addr × Value)) : Prop := ∃ us : List (NKey × V), KN K A us xs ∧ Paired (fun p q => keyN p.1 = some q.1 ∧ Rp K A p.2 q.2) kvs us
noncomputable def NstV (K : PySem.W.Frag) (A B H : Hp) (d : PyData) (v : V) : Prop := ∃ p xs kvs, v = .ref p ∧ d = .dict kvs ∧ H p = some (NDict p xs) ∧ A p = none ∧ B p = none ∧ RpN K A kvs xs
noncomputable def intsT : PyData → Option (List Int)
  | .tuple ds => intsD ds
  | _ => none
noncomputable abbrev RpT (K : PySem.W.Frag) (A : Hp) : List (PyData × PyData) → List (List Int × Addr × Value) → Prop := Paired fun p q => intsT p.1 = some q.1 ∧ SqT K A q.2.1 (q.1.map V.int) ∧ ∃ v, RelV v q.2.2 ∧ Rp K A p.2 v
noncomputable def KitV (K : PySem.W.Frag) (A : Hp) (d : PyData) (v : V) : Prop := ∃ p xs kvs, v = .ref p ∧ d = .dict kvs ∧ A p = some (TDict p xs) ∧ RpT K A kvs xs
theorem KitV.mono {K : PySem.W.Frag} {A A' : Hp} {d : PyData} {v : V} (sa : Same A A') (h : KitV K A d v) : KitV K A' d v := by
  obtain ⟨p, xs, kvs, e1, e2, h1, h2⟩ := h
  exact ⟨p, xs, kvs, e1, e2, sa _ _ h1, Paired.mapP h2 fun _ _ z => ⟨z.1, sa.seqT z.2.1, z.2.2.imp fun v y => ⟨y.1, Rp.mono sa _ y.2⟩⟩⟩
noncomputable def Pk (K : PySem.W.Frag) (A H : Hp) (d : PyData) (v : V) : Prop :=
  Rp K A d v ∨ (∃ p vs ds, v = .ref p ∧ d = .list ds ∧ SqL K H p vs ∧ RpAll K A ds vs) ∨ ∃ p u kvs, v = .ref p ∧ d = .dict kvs ∧ Rd H p (.dK u) ∧ RpKV K A kvs u
noncomputable def OwnO (K : PySem.W.Frag) (A : Hp) (d : PyData) (o : HO) : Prop := (∃ ds vs, d = .list ds ∧ o = .lst vs ∧ RpAll K A ds vs) ∨ ∃ kvs u, d = .dict kvs ∧ o = .dK u ∧ RpKV K A kvs u
noncomputable def Own (K : PySem.W.Frag) (A B H : Hp) (d : PyData) (v : V) : Prop := ∃ p o, v = .ref p ∧ H p = some o ∧ A p = none ∧ B p = none ∧ OwnO K A d o
noncomputable def SlotV (K : PySem.W.Frag) (A B H : Hp) : Fl → PyData → V → Prop
  | .imm, d, v => Rp K A d v
  | .bor, d, v => Pk K A B d v
  | .own, d, v => Own K A B H d v
  | .fix p, d, v => v = .ref p ∧ Own K A B H d v
  | .exc C, _, v => ExcV A C v
  | .nst b, d, v => b = true → NstV K A B H d v
  | .kit, d, v => KitV K A d v
noncomputable def Slot (K : PySem.W.Frag) (A B H : Hp) (f : Fl) (d : Option PyData) (v : Option V) : Prop := ∀ d', d = some d' → ∃ v', v = some v' ∧ SlotV K A B H f d' v'
noncomputable abbrev fl (O : List Fl) (i : Nat) : Fl := O.getD i .imm
noncomputable abbrev gv (Γ : Ev) (i : Nat) : Option PyData := Γ.getD i none
noncomputable abbrev sv (σ : L2.St) (i : Nat) : Option V := σ.getD i none
structure StRep (K : PySem.W.Frag) (A B H : Hp) (O : List Fl) (σ : L2.St) (Γ : Ev) : Prop where
  a : Same A H
  b : Same B H
  len : Γ.length = σ.length
  slot : ∀ i, Slot K A B H (fl O i) (gv Γ i) (sv σ i)
  sep : ∀ i j, i ≠ j → isO (fl O i) = true → isO (fl O j) = true → gv Γ i ≠ none → gv Γ j ≠ none → sv σ i ≠ sv σ j
noncomputable def New (A A' B : Hp) : Prop := ∀ p, A p = none → B p ≠ none → A' p = none
structure Grow (A H A' H' : Hp) : Prop where
  aa : Same A A'
  hh : Same H H'
  ah : Same A' H'
  nw : New A A' H
theorem Grow.refl {A H : Hp} (h : Same A H) : Grow A H A H := ⟨Same.refl _, Same.refl _, h, fun _ h _ => h⟩
theorem Same.ne {H H' : Hp} (e : Same H H') {p : Addr} (h : H p ≠ none) : H' p ≠ none := by
  cases q : H p with
  | none => exact absurd q h
  | some o => rw [e p o q]; simp
theorem Grow.trans {A H A1 H1 A2 H2 : Hp} (g : Grow A H A1 H1) (g' : Grow A1 H1 A2 H2) : Grow A H A2 H2 :=
  ⟨g.aa.trans g'.aa, g.hh.trans g'.hh, g'.ah, fun p h1 h2 => g'.nw p (g.nw p h1 h2) (Same.ne g.hh h2)⟩
theorem New.mono {A A' B B' : Hp} (n : New A A' B') (s : Same B B') : New A A' B := fun p h1 h2 => n p h1 (Same.ne s h2)
theorem New.trans {A A1 A2 B : Hp} (n : New A A1 B) (m : New A1 A2 B) : New A A2 B := fun p h1 h2 => m p (n p h1 h2) h2
section
variable {K : PySem.W.Frag} {A B H A' H' : Hp} {O : List Fl} {σ : L2.St} {Γ : Ev} {d : PyData} {v : V}
theorem Pk.mono (ha : Same A A') (hh : Same H H') (h : Pk K A H d v) : Pk K A' H' d v := by
  rcases h with h | ⟨p, vs, ds, e1, e2, h1, h2⟩ | ⟨p, u, kvs, e1, e2, h1, h2⟩
  · exact .inl (Rp.mono ha d h)
  · exact .inr (.inl ⟨p, vs, ds, e1, e2, hh.seq h1, RpAll.mono ha ds h2⟩)
  · exact .inr (.inr ⟨p, u, kvs, e1, e2, Same.rd hh h1, RpKV.mono ha kvs h2⟩)
theorem OwnO.mono {o : HO} (ha : Same A A') (h : OwnO K A d o) : OwnO K A' d o := by
  rcases h with ⟨ds, vs, e1, e2, h⟩ | ⟨kvs, u, e1, e2, h⟩
  · exact .inl ⟨ds, vs, e1, e2, RpAll.mono ha ds h⟩
  · exact .inr ⟨kvs, u, e1, e2, RpKV.mono ha kvs h⟩
theorem RpN.mono {kvs : List (PyData × PyData)} {xs : List (NKey × Addr × Value)} (ha : Same A A') (h : RpN K A kvs xs) : RpN K A' kvs xs := by
  obtain ⟨us, h1, h2⟩ := h
  exact ⟨us, h1.keeps fun b ys e => ha.seqT e, Paired.mapP h2 fun _ _ z => ⟨z.1, Rp.mono ha _ z.2⟩⟩
theorem OwnO.nx {o : HO} {p : Addr} {xs : List (NKey × Addr × Value)} (h : OwnO K A d o) (e : some o = some (NDict p xs)) : False := by
  rcases h with ⟨ds, vs, e1, e2, h⟩ | ⟨kvs, u, e1, e2, h⟩ <;> (rw [e2] at e; cases e)
theorem SlotV.grow (g : Grow A H A' H') {f : Fl} (h : SlotV K A B H f d v) : SlotV K A' B H' f d v := by
  cases f with
  | imm => exact Rp.mono g.aa d h
  | bor => exact Pk.mono g.aa (Same.refl _) h
  | own =>
    obtain ⟨p, o, e, h1, h2, h3, h4⟩ := h
    exact ⟨p, o, e, g.hh _ _ h1, g.nw p h2 (by rw [h1]; simp), h3, h4.mono g.aa⟩
  | fix p0 =>
    obtain ⟨e0, p, o, e, h1, h2, h3, h4⟩ := h
    exact ⟨e0, p, o, e, g.hh _ _ h1, g.nw p h2 (by rw [h1]; simp), h3, h4.mono g.aa⟩
  | exc C =>
    obtain ⟨p, ob, e, h1, h2⟩ := h
    exact ⟨p, ob, e, g.aa _ _ h1, h2⟩
  | nst b =>
    intro z
    obtain ⟨p, xs, kvs, w1, w2, w3, w4, w5, w6⟩ := h z
    exact ⟨p, xs, kvs, w1, w2, g.hh _ _ w3, g.nw p w4 (by rw [w3]; simp), w5, w6.mono g.aa⟩
  | kit => exact KitV.mono g.aa h
theorem Slot.grow (g : Grow A H A' H') {f : Fl} {d : Option PyData} {v : Option V} (h : Slot K A B H f d v) : Slot K A' B H' f d v := fun d' e =>
  let ⟨v', e', q⟩ := h d' e; ⟨v', e', q.grow g⟩
theorem StRep.grow (g : Grow A H A' H') (r : StRep K A B H O σ Γ) : StRep K A' B H' O σ Γ :=
  ⟨g.ah, r.b.trans g.hh, r.len, fun i => (r.slot i).grow g, r.sep⟩
theorem OwnO.share {o : HO} {p : Addr} (h : OwnO K A d o) (s : Same A (upd A p o)) : Rp K (upd A p o) d (.ref p) := by
  rcases h with ⟨ds, vs, e1, e2, h⟩ | ⟨kvs, u, e1, e2, h⟩
  · subst e1; subst e2
    exact Rp.list.mpr ⟨p, vs, rfl, SqL.of upd_same, RpAll.mono s ds h⟩
  · subst e1; subst e2
    exact (by rw [Rp]; exact ⟨p, u, rfl, .inl upd_same, RpKV.mono s kvs h⟩)
theorem Own.pk (h : Own K A B H d v) : Pk K A H d v := by
  obtain ⟨p, o, e, h1, _, _, ⟨ds, vs, e2, e3, h4⟩ | ⟨kvs, u, e2, e3, h4⟩⟩ := h
  · subst e3
    exact .inr (.inl ⟨p, vs, ds, e, e2, SqL.of h1, h4⟩)
  · subst e3
    exact .inr (.inr ⟨p, u, kvs, e, e2, .inl h1, h4⟩)
theorem SlotV.pk (hb : Same B H) {f : Fl} (h : SlotV K A B H f d v) (hx : isX f = false) : Pk K A H d v := by
  cases f with
  | imm => exact .inl h
  | bor => exact Pk.mono (Same.refl _) hb h
  | own => exact Own.pk h
  | fix p0 => exact Own.pk h.2
  | exc C => cases hx
  | nst b => cases hx
  | kit => cases hx
theorem Pk.list (ha : Same A H) {ds : List PyData} (h : Pk K A H (.list ds) v) : ∃ p vs, v = .ref p ∧ SqL K H p vs ∧ RpAll K A ds vs := by
  rcases h with h | ⟨p, vs, ds', e1, e2, h1, h2⟩ | ⟨p, u, kvs, e1, e2, h1, h2⟩
  · obtain ⟨a, vs, e, h1, h2⟩ := Rp.list.mp h
    exact ⟨a, vs, e, ha.seq h1, h2⟩
  · cases e2
    exact ⟨p, vs, e1, h1, h2⟩
  · cases e2
theorem Pk.nolist (h : Pk K A H d v) (n : ∀ ds, d ≠ .list ds) (n2 : ∀ kvs, d ≠ .dict kvs) : Rp K A d v := by
  rcases h with h | ⟨p, vs, ds', e1, e2, h1, h2⟩ | ⟨p, u, kvs, e1, e2, h1, h2⟩
  · exact h
  · exact absurd e2 (n ds')
  · exact absurd e2 (n2 kvs)
theorem Pk.int {i : Int} (h : Pk K A H (.int i) v) : v = .int i := Rp.int.mp (h.nolist (fun _ z => nomatch z) (fun _ z => nomatch z))
theorem Pk.bool {i : Bool} (h : Pk K A H (.bool i) v) : v = .bl i := Rp.bool.mp (h.nolist (fun _ z => nomatch z) (fun _ z => nomatch z))
theorem Pk.none (h : Pk K A H .none v) : v = .non := Rp.none.mp (h.nolist (fun _ z => nomatch z) (fun _ z => nomatch z))
theorem Pk.str {x : Str} (h : Pk K A H (.str x) v) : v = .str x := Rp.str.mp (h.nolist (fun _ z => nomatch z) (fun _ z => nomatch z))
theorem Pk.tuple (ha : Same A H) {ds : List PyData} (h : Pk K A H (.tuple ds) v) : ∃ p vs, v = .ref p ∧ SqT K H p vs ∧ RpAll K A ds vs := by
  obtain ⟨a, vs, e, h1, h2⟩ := Rp.tuple.mp (h.nolist (fun _ z => nomatch z) (fun _ z => nomatch z))
  exact ⟨a, vs, e, ha.seqT h1, h2⟩
theorem Pk.is (ha : Same A H) (hc : SeqAt.shaped d = true) (h : Pk K A H d v) : Is K H d v := by
  have c := SeqAt.canLay_of_shaped hc
  rcases h with h | ⟨p, vs, ds', e1, e2, h1, h2⟩ | ⟨p, u, kvs, e1, e2, h1, h2⟩
  rotate_right
  · subst e2
    rw [PyData.canLay0] at c
    cases c
  · exact Is.mono ha d (Rp.is d c h)
  · subst e2
    rw [Is]
    rw [PyData.canLay0] at c
    exact ⟨p, vs, e1, h1, IsAll.mono ha ds' (RpAll.is ds' c h2)⟩
theorem Rp.dict {kvs : List (PyData × PyData)} : Rp K A (.dict kvs) v ↔ ∃ a u, v = .ref a ∧ Rd A a (.dK u) ∧ RpKV K A kvs u := by rw [Rp]
theorem RpKV.nil {u : List (Key × V)} : RpKV K A [] u ↔ u = [] := by rw [RpKV]
theorem RpKV.cons {k d : PyData} {r : List (PyData × PyData)} {u : List (Key × V)} : RpKV K A ((k, d) :: r) u ↔ ∃ key v u', u = (key, v) :: u' ∧ keyD k = some key ∧ Rp K A d v ∧ RpKV K A r u' := by rw [RpKV]
theorem Pk.dict (ha : Same A H) {kvs : List (PyData × PyData)} (h : Pk K A H (.dict kvs) v) : ∃ a u, v = .ref a ∧ Rd H a (.dK u) ∧ RpKV K A kvs u := by
  rcases h with h | ⟨p, vs, ds', e1, e2, h1, h2⟩ | ⟨p, u, kvs', e1, e2, h1, h2⟩
  · obtain ⟨a, u, e, h1, h2⟩ := Rp.dict.mp h
    exact ⟨a, u, e, Same.rd ha h1, h2⟩
  · cases e2
  · cases e2
    exact ⟨p, u, e1, h1, h2⟩
theorem Grow.new {p : Addr} {o : HO} (ha : Same A H) (h : H p = none) : Grow A H (upd A p o) (upd H p o) :=
  ⟨Same.new (ha.free h) o, Same.new h o, fun b u q => by
    by_cases hb : b = p
    · subst hb; rw [upd_same] at q ⊢; exact q
    · rw [upd_ne hb] at q ⊢; exact ha b u q, fun b h1 h2 => by
    have hb : b ≠ p := fun z => h2 (z ▸ h)
    rw [upd_ne hb]; exact h1⟩
theorem Grow.lay {p : Addr} {o : HO} (ha : Same A H) (h : H p = none) : Grow A H A (upd H p o) :=
  ⟨Same.refl _, Same.new h o, ha.trans (Same.new h o), fun b h1 _ => h1⟩
end
end L3
namespace L3
open PySem PySem.Spec PyProof.Rows L2
noncomputable def noStar : Expr → Bool
  | .Starred _ _ => false
  | _ => true
noncomputable def noStars : List Expr → Bool
  | [] => true
  | e :: es => noStar e && noStars es
theorem star_cons {e : Expr} {es : List Expr} {env : Env} (h : noStar e = true) : starEach (e :: es) env = (false, eval e env) :: starEach es env := by
  cases e <;> first | rfl | cases h
theorem star_any : ∀ {es : List Expr} {env : Env} {pos : Pos}, noStars es = true → (backTo pos (starEach es env)).any (·.1) = false
  | [], _, _, _ => rfl
  | e :: es, env, pos, h => by
    rw [noStars, Bool.and_eq_true] at h
    rw [star_cons h.1]
    show (false || (backTo pos (starEach es env)).any (·.1)) = false
    rw [star_any h.2]
    rfl
noncomputable def tE (K : PySem.W.Frag) (O : List Fl) (m : ME) : TE := fun σ H Q => ∃ A B Γ d, StRep K A B H O σ Γ ∧ m Γ = .ok d ∧ ∀ v A' H', Grow A H A' H' → Rp K A' d v → Q v H'
noncomputable def tP (K : PySem.W.Frag) (O : List Fl) (m : ME) : TE := fun σ H Q => ∃ A B Γ d, StRep K A B H O σ Γ ∧ m Γ = .ok d ∧ ∀ v A' H', Grow A H A' H' → Pk K A' H' d v → Q v H'
noncomputable def FreshV (K : PySem.W.Frag) (H A' H' : Hp) (d : PyData) (v : V) : Prop := ∃ p o, v = .ref p ∧ H p = none ∧ H' p = some o ∧ A' p = none ∧ OwnO K A' d o
noncomputable def tF (K : PySem.W.Frag) (O : List Fl) (m : ME) : TE := fun σ H Q => ∃ A B Γ d, StRep K A B H O σ Γ ∧ m Γ = .ok d ∧ ∀ v A' H', Grow A H A' H' → FreshV K H A' H' d v → Q v H'
noncomputable def tT (K : PySem.W.Frag) (O : List Fl) (m : ME) : TT := fun σ H Q => ∃ A B Γ b, StRep K A B H O σ Γ ∧ m Γ = .ok (.bool b) ∧ ∀ A' H', Grow A H A' H' → Q b H'
section
variable {X : Cx}
theorem PE.imp {e : Expr} {t t' : TE} (h : PE X e t) (i : ∀ σ H Q, t' σ H Q → t σ H Q) : PE X e t' := fun pins s σ H Q I q => h pins s σ H Q I (i σ H Q q)
theorem PT.imp {e : Expr} {t t' : TT} (h : PT X e t) (i : ∀ σ H Q, t' σ H Q → t σ H Q) : PT X e t' := fun pins s σ H Q I q => h pins s σ H Q I (i σ H Q q)
theorem PW.imp {e : Expr} {t t' : TT} (h : PW X e t) (i : ∀ σ H Q, t' σ H Q → t σ H Q) : PW X e t' := fun w pins s σ H Q I q => h w pins s σ H Q I (i σ H Q q)
theorem PA.imp {e : List Expr} {t t' : TA} (h : PA X e t) (i : ∀ σ H Q, t' σ H Q → t σ H Q) : PA X e t' := fun pos pins s σ H Q I q => h pos pins s σ H Q I (i σ H Q q)
theorem PS.imp {e : Stmt} {t t' : TS} (h : PS X e t) (i : ∀ D σ H, t' D σ H → t D σ H) : PS X e t' := fun pins s σ H D I q => h pins s σ H D I (i D σ H q)
theorem PSs.imp {e : List Stmt} {t t' : TS} (h : PSs X e t) (i : ∀ D σ H, t' D σ H → t D σ H) : PSs X e t' := fun pins s σ H D I q => h pins s σ H D I (i D σ H q)
theorem PI.imp {tg e : Expr} {t t' : TI} (h : PI X tg e t) (i : ∀ σ H R, t' σ H R → t σ H R) : PI X tg e t' := fun pins s σ H R I q => h pins s σ H R I (i σ H R q)
end
section
variable (X : Cx)
structure QE (e : Expr) (t : TE) : Prop where
  h : PE X e t
structure QT (e : Expr) (t : TT) : Prop where
  h : PT X e t
structure QW (e : Expr) (t : TT) : Prop where
  h : PW X e t
structure QA (e : List Expr) (t : TA) : Prop where
  h : PA X e t
structure QS (e : Stmt) (t : TS) : Prop where
  h : PS X e t
structure QSs (e : List Stmt) (t : TS) : Prop where
  h : PSs X e t
structure QI (tg e : Expr) (t : TI) : Prop where
  h : PI X tg e t
structure QO (e : Option Expr) (t : TO) : Prop where
  h : PO X e t
structure QG (tg : Expr) (t : TG) : Prop where
  h : PG X tg t
structure QGs (tg : List Expr) (t : TGs) : Prop where
  h : PGs X tg t
structure QIfs (e : List Expr) (t : TT) : Prop where
  h : PIfs X e t
end
section
variable {X : Cx}
theorem QE.imp {e : Expr} {t t' : TE} (h : PE X e t) (i : ∀ σ H Q, t' σ H Q → t σ H Q) : QE X e t' := ⟨PE.imp h i⟩
theorem QT.imp {e : Expr} {t t' : TT} (h : PT X e t) (i : ∀ σ H Q, t' σ H Q → t σ H Q) : QT X e t' := ⟨PT.imp h i⟩
theorem QW.imp {e : Expr} {t t' : TT} (h : PW X e t) (i : ∀ σ H Q, t' σ H Q → t σ H Q) : QW X e t' := ⟨PW.imp h i⟩
theorem QA.imp {e : List Expr} {t t' : TA} (h : PA X e t) (i : ∀ σ H Q, t' σ H Q → t σ H Q) : QA X e t' := ⟨PA.imp h i⟩
theorem QS.imp {e : Stmt} {t t' : TS} (h : PS X e t) (i : ∀ D σ H, t' D σ H → t D σ H) : QS X e t' := ⟨PS.imp h i⟩
theorem QSs.imp {e : List Stmt} {t t' : TS} (h : PSs X e t) (i : ∀ D σ H, t' D σ H → t D σ H) : QSs X e t' := ⟨PSs.imp h i⟩
theorem QI.imp {tg e : Expr} {t t' : TI} (h : PI X tg e t) (i : ∀ σ H R, t' σ H R → t σ H R) : QI X tg e t' := ⟨PI.imp h i⟩
end
section
variable {X : Cx} {K : PySem.W.Frag} {O : List Fl} {m m1 m2 : ME} {e a b c : Expr} {pos : Pos}
theorem sp (h : QE X e (tE K O m)) : QE X e (tP K O m) := QE.imp h.h fun σ H Q hq__ => by obtain ⟨A, B, Γ, d, r, em, k⟩ := hq__; exact ⟨A, B, Γ, d, r, em, fun v A' H' g p => k v A' H' g (.inl p)⟩
theorem FreshV.share {A H A' H' : Hp} {d : PyData} {v : V} (g : Grow A H A' H') (h : FreshV K H A' H' d v) : ∃ A'', Grow A H A'' H' ∧ Rp K A'' d v := by
  obtain ⟨p, o, rfl, h1, h2, h3, h4⟩ := h
  have s : Same A' (upd A' p o) := Same.new h3 _
  refine ⟨upd A' p o, ⟨g.aa.trans s, g.hh, fun b u q => ?_, fun b n1 n2 => ?_⟩, h4.share s⟩
  · by_cases hb : b = p
    · subst hb; rw [upd_same] at q; rw [h2]; exact q
    · rw [upd_ne hb] at q; exact g.ah b u q
  · have hb : b ≠ p := fun z => n2 (z ▸ h1)
    rw [upd_ne hb]; exact g.nw b n1 n2
theorem sfe (h : QE X e (tF K O m)) : QE X e (tE K O m) := QE.imp h.h fun σ H Q ⟨A, B, Γ, d, r, em, k⟩ => ⟨A, B, Γ, d, r, em, fun v A' H' g p => by
  obtain ⟨A'', g', p'⟩ := p.share g
  exact k v A'' H' g' p'⟩
theorem sfp (h : QE X e (tF K O m)) : QE X e (tP K O m) := sp (sfe h)
noncomputable def eVar (i : Nat) : ME := fun Γ => match gv Γ i with
  | some d => .ok d
  | none => .bad
noncomputable def eC (d : PyData) : ME := fun _ => .ok d
theorem eVar_ok {i : Nat} {Γ : Ev} {d : PyData} (h : eVar i Γ = .ok d) : gv Γ i = some d := by
  unfold eVar at h
  cases q : gv Γ i with
  | none => rw [q] at h; cases h
  | some d' => rw [q] at h; cases h; rfl
theorem sv_get {σ : L2.St} {i : Nat} {v : V} (h : sv σ i = some v) : σ[i]? = some (some v) := by
  unfold sv at h
  rw [List.getD_eq_getElem?_getD] at h
  cases q : σ[i]? with
  | none => rw [q] at h; cases h
  | some o => rw [q] at h; exact congrArg some h
theorem sp_var (i : Nat) {x : Str} (hN : X.N[i]? = some x := by rfl) (hv : Vis X.env.scope x := by first | exact Or.inl rfl | exact Or.inr (Or.inl rfl) | exact Or.inr (Or.inr rfl)) (hd : (x == ("__debug__" : Str)) = false := by decide)
    (hcd : (x == ("__classdict__" : Str)) = false := by decide) (hx : isX (fl O i) = false := by rfl) : QE X (.Name x pos) (tP K O (eVar i)) := QE.imp (pe_var hN hv hd hcd) fun σ H Q hq__ => by
  obtain ⟨A, B, Γ, d, r, em, k⟩ := hq__
  obtain ⟨v, e1, q⟩ := r.slot i d (eVar_ok em)
  exact ⟨v, sv_get e1, k v A H (Grow.refl r.a) (q.pk r.b hx)⟩
theorem se_var (i : Nat) {x : Str} (hi : fl O i = .imm := by rfl) (hN : X.N[i]? = some x := by rfl) (hv : Vis X.env.scope x := by first | exact Or.inl rfl | exact Or.inr (Or.inl rfl) | exact Or.inr (Or.inr rfl)) (hd : (x == ("__debug__" : Str)) = false := by decide)
    (hcd : (x == ("__classdict__" : Str)) = false := by decide) : QE X (.Name x pos) (tE K O (eVar i)) := QE.imp (pe_var hN hv hd hcd) fun σ H Q hq__ => by
  obtain ⟨A, B, Γ, d, r, em, k⟩ := hq__
  obtain ⟨v, e1, q⟩ := r.slot i d (eVar_ok em)
  rw [hi] at q
  exact ⟨v, sv_get e1, k v A H (Grow.refl r.a) q⟩
theorem se_C {v : V} {d : PyData} (h : PE X e (tC v)) (hr : ∀ A, Rp K A d v) : QE X e (tE K O (eC d)) := QE.imp h fun σ H Q hq__ => by
  obtain ⟨A, B, Γ, d', r, em, k⟩ := hq__
  cases em
  exact k v A H (Grow.refl r.a) (hr A)
theorem se_int {i : Int} {j pos} : QE X (.Constant (.int i) j pos) (tE K O (eC (.int i))) := se_C pe_int fun _ => Rp.int.mpr rfl
theorem se_bl {i : Bool} {j pos} : QE X (.Constant (.bool i) j pos) (tE K O (eC (.bool i))) := se_C pe_bl fun _ => Rp.bool.mpr rfl
theorem se_non {j pos} : QE X (.Constant .none j pos) (tE K O (eC .none)) := se_C pe_non fun _ => Rp.none.mpr rfl
theorem se_str {x : Str} {j pos} : QE X (.Constant (.str x) j pos) (tE K O (eC (.str x))) := se_C pe_str fun _ => Rp.str.mpr rfl
theorem se_glob {x : Str} {v : V} {u : Value} {d : PyData} {pos : Pos} (hg : Gl X x) (hm : X.mg x = some u) (r : RelV v u) (hr : ∀ A, Rp K A d v) (hd : (x == ("__debug__" : Str)) = false := by decide) : QE X (.Name x pos) (tE K O (eC d)) :=
  se_C (pe_glob hg hm r hd) hr
noncomputable def eBin (f : PyData → PyData → Res PyData) (a b : ME) : ME := fun Γ => (a Γ).bind fun x => (b Γ).bind fun y => f x y
noncomputable def rD (K : PySem.W.Frag) (f : PyData → PyData → Res PyData) : R2 := fun x y H Q => ∃ A d1 d2 d, f d1 d2 = .ok d ∧ Same A H ∧ Pk K A H d1 x ∧ Pk K A H d2 y ∧ ∀ v A' H', Grow A H A' H' → Rp K A' d v → Q v H'
theorem tE_bin {f : PyData → PyData → Res PyData} {σ : L2.St} {H : Hp} {Q : VK} (h : tE K O (eBin f m1 m2) σ H Q) : tOp (rD K f) (tP K O m1) (tP K O m2) σ H Q := by
  obtain ⟨A, B, Γ, d, r, em, k⟩ := h
  obtain ⟨d1, e1, em⟩ := Res.bind_ok em
  obtain ⟨d2, e2, em⟩ := Res.bind_ok em
  refine ⟨A, B, Γ, d1, r, e1, fun x A1 H1 g1 p1 => ⟨A1, B, Γ, d2, r.grow g1, e2, fun y A2 H2 g2 p2 => ⟨A2, d1, d2, d, em, g2.ah, p1.mono g2.aa g2.hh, p2, fun v A' H' g3 p3 => k v A' H' ((g1.trans g2).trans g3) p3⟩⟩⟩
theorem tT_bin {f : PyData → PyData → Res PyData} {σ : L2.St} {H : Hp} {Q : Bool → Hp → Prop} (h : tT K O (eBin f m1 m2) σ H Q) : tTest (tOp (rD K f) (tP K O m1) (tP K O m2)) σ H Q := by
  obtain ⟨A, B, Γ, bb, r, em, k⟩ := h
  exact tE_bin ⟨A, B, Γ, _, r, em, fun v A' H' g p => ⟨bb, Rp.bool.mp p, k A' H' g⟩⟩
theorem se_bin {op : Operator} {f : PyData → PyData → Res PyData} (ho : OpR X (binaryOp op) (rD K f)) (ha : QE X a (tP K O m1)) (hb : QE X b (tP K O m2)) : QE X (.BinOp a op b pos) (tE K O (eBin f m1 m2)) := QE.imp (pe_op ho ha.h hb.h) fun _ _ _ => tE_bin
theorem se_cmp {op : CmpOp} {f : PyData → PyData → Res PyData} (ho : OpR X (compareOp op) (rD K f)) (ha : QE X a (tP K O m1)) (hb : QE X b (tP K O m2)) (hm : behindInMarks op b = false) : QE X (.Compare a [op] [b] pos) (tE K O (eBin f m1 m2)) := QE.imp (pe_cmpR ho ha.h hb.h hm) fun _ _ _ => tE_bin
theorem st_cmp {op : CmpOp} {f : PyData → PyData → Res PyData} (ho : OpR X (compareOp op) (rD K f)) (ha : QE X a (tP K O m1)) (hb : QE X b (tP K O m2)) (hm : behindInMarks op b = false) : QT X (.Compare a [op] [b] pos) (tT K O (eBin f m1 m2)) := QT.imp (pt_cmpR ho ha.h hb.h hm) fun _ _ _ => tT_bin
noncomputable def eAnd (a b : ME) : ME := fun Γ => (a Γ).bind fun x => match x with
  | .bool true => b Γ
  | .bool false => .ok (.bool false)
  | _ => .bad
noncomputable def eOr (a b : ME) : ME := fun Γ => (a Γ).bind fun x => match x with
  | .bool false => b Γ
  | .bool true => .ok (.bool true)
  | _ => .bad
noncomputable def eNot (a : ME) : ME := fun Γ => (a Γ).bind fun x => match x with
  | .bool t => .ok (.bool (!t))
  | _ => .bad
theorem st_val (h : QE X e (tE K O m)) (he : ∀ whole, isTrue e X.env whole = (do let v ← whole; standAt e.pos; holding [v] (truthy v)) := by intro _; rfl) : QT X e (tT K O m) := QT.imp (pt_val h.h he) fun σ H Q ⟨A, B, Γ, bb, r, em, k⟩ =>
  ⟨A, B, Γ, _, r, em, fun v A' H' g p => ⟨bb, Rp.bool.mp p, k A' H' g⟩⟩
theorem sw_and1 (ha : QT X a (tT K O m)) : QW X (.BoolOp .And [a] pos) (tT K O m) := ⟨pw_and1 ha.h⟩
theorem sw_or1 (ha : QT X a (tT K O m)) : QW X (.BoolOp .Or [a] pos) (tT K O m) := ⟨pw_or1 ha.h⟩
theorem sw_and {rest : List Expr} (ha : QT X a (tT K O m1)) (hb : QW X (.BoolOp .And (b :: rest) pos) (tT K O m2)) : QW X (.BoolOp .And (a :: b :: rest) pos) (tT K O (eAnd m1 m2)) := QW.imp (pw_and ha.h hb.h) fun σ H Q hq__ => by
  obtain ⟨A, B, Γ, d, r, em, k⟩ := hq__
  obtain ⟨d1, e1, em⟩ := Res.bind_ok em
  cases d1 with
  | bool bb =>
    refine ⟨A, B, Γ, bb, r, e1, fun A1 H1 g1 => ?_⟩
    cases bb with
    | true => exact iteT ⟨A1, B, Γ, d, r.grow g1, em, fun A' H' g => k A' H' (g1.trans g)⟩
    | false => cases em; exact iteF (k A1 H1 g1)
  | _ => cases em
theorem sw_or {rest : List Expr} (ha : QT X a (tT K O m1)) (hb : QW X (.BoolOp .Or (b :: rest) pos) (tT K O m2)) : QW X (.BoolOp .Or (a :: b :: rest) pos) (tT K O (eOr m1 m2)) := QW.imp (pw_or ha.h hb.h) fun σ H Q hq__ => by
  obtain ⟨A, B, Γ, d, r, em, k⟩ := hq__
  obtain ⟨d1, e1, em⟩ := Res.bind_ok em
  cases d1 with
  | bool bb =>
    refine ⟨A, B, Γ, bb, r, e1, fun A1 H1 g1 => ?_⟩
    cases bb with
    | false => exact iteF ⟨A1, B, Γ, d, r.grow g1, em, fun A' H' g => k A' H' (g1.trans g)⟩
    | true => cases em; exact iteT (k A1 H1 g1)
  | _ => cases em
theorem sw_pt (h : QW X e (tT K O m)) : QT X e (tT K O m) := ⟨h.h.pt⟩
theorem st_not (ha : QT X a (tT K O m1)) : QT X (.UnaryOp .Not a pos) (tT K O (eNot m1)) := QT.imp (pt_not ha.h) fun σ H Q hq__ => by
  obtain ⟨A, B, Γ, d, r, em, k⟩ := hq__
  obtain ⟨d1, e1, em⟩ := Res.bind_ok em
  cases d1 with
  | bool bb => cases em; exact ⟨A, B, Γ, bb, r, e1, fun A1 H1 g1 => k A1 H1 g1⟩
  | _ => cases em
noncomputable def truD : PyData → Res PyData
  | .none => .ok (.bool false)
  | .bool b => .ok (.bool b)
  | .int i => .ok (.bool (i != 0))
  | .list ds => .ok (.bool (!ds.isEmpty))
  | .tuple ds => .ok (.bool (!ds.isEmpty))
  | .str x => gd (x.length ≤ sizeLine) (.ok (.bool ((x.length : Int) != 0)))
  | _ => .bad
noncomputable def eUn (f : PyData → Res PyData) (a : ME) : ME := fun Γ => (a Γ).bind f
theorem RpAll.isEmpty {A : Hp} {ds : List PyData} {vs : List V} (h : RpAll K A ds vs) : vs.isEmpty = ds.isEmpty := by
  cases ds with
  | nil => rw [RpAll.nil] at h; subst h; rfl
  | cons d ds => rw [RpAll.cons] at h; obtain ⟨v, r, rfl, _⟩ := h; rfl
theorem st_tru (h : QE X a (tP X.K O m)) (he : ∀ whole, isTrue a X.env whole = (do let v ← whole; standAt a.pos; holding [v] (truthy v)) := by intro _; rfl) : QT X a (tT X.K O (eUn truD m)) := QT.imp (pt_truth h.h he) fun σ H Q hq__ => by
  obtain ⟨A, B, Γ, bb, r, em, k⟩ := hq__
  obtain ⟨d1, e1, em⟩ := Res.bind_ok em
  refine ⟨A, B, Γ, d1, r, e1, fun v A1 H1 g1 p1 => ⟨bb, ?_, k A1 H1 g1⟩⟩
  cases d1 with
  | none => cases em; rw [p1.none]; rfl
  | bool b => cases em; rw [p1.bool]; rfl
  | int i => cases em; rw [p1.int]; rfl
  | str x =>
    obtain ⟨hz, em⟩ := gd_ok em
    cases em; rw [p1.str]; exact ⟨hz, rfl⟩
  | list ds =>
    cases em
    obtain ⟨p, vs, rfl, h1, h2⟩ := p1.list g1.ah
    exact .inl ⟨vs, h1, by rw [h2.isEmpty]⟩
  | tuple ds =>
    cases em
    obtain ⟨p, vs, rfl, h1, h2⟩ := p1.tuple g1.ah
    exact .inr (.inl ⟨vs, h1, by rw [h2.isEmpty]⟩)
  | dict _ => cases em
end
end L3
namespace L3
open PySem PySem.Spec PyProof.Rows L2
noncomputable def int2 (g : Int → Int → Res PyData) : PyData → PyData → Res PyData
  | .int a, .int b => g a b
  | _, _ => .bad
theorem int2_ok {g : Int → Int → Res PyData} {a b d : PyData} (e : int2 g a b = .ok d) : ∃ i j, a = .int i ∧ b = .int j ∧ g i j = .ok d := by
  cases a with
  | int i =>
    cases b with
    | int j => exact ⟨i, j, rfl, rfl, e⟩
    | _ => cases e
  | _ => cases e
noncomputable def addD : PyData → PyData → Res PyData
  | .int a, .int b => .ok (.int (a + b))
  | .str a, .str b => gd (a.length + b.length ≤ sizeLine) (.ok (.str (a ++ b)))
  | .list a, .list b => gd (a.length + b.length ≤ sizeLine) (.ok (.list (a ++ b)))
  | .tuple a, .tuple b => gd (a.length + b.length ≤ sizeLine) (.ok (.tuple (a ++ b)))
  | .int a, .bool b => .ok (.int (a + b2i b))
  | _, _ => .bad
noncomputable def subD : PyData → PyData → Res PyData := int2 fun a b => .ok (.int (a - b))
instance (i j : Int) : Decidable (CMul i j) := by unfold CMul; infer_instance
instance (i j : Int) : Decidable (CDiv i j) := by unfold CDiv; infer_instance
instance (i j : Int) : Decidable (CPow i j) := by unfold CPow; infer_instance
noncomputable def mulD : PyData → PyData → Res PyData := int2 fun a b => gd (CMul a b) (.ok (.int (a * b)))
noncomputable def fdivD : PyData → PyData → Res PyData := int2 fun a b => gd (CDiv a b) (.ok (.int (a / b)))
noncomputable def modD : PyData → PyData → Res PyData := int2 fun a b => gd (0 < b) (.ok (.int (a % b)))
noncomputable def shlD : PyData → PyData → Res PyData := int2 fun a b => gd (CPow a b) (.ok (.int (a * 2 ^ b.toNat)))
noncomputable def shrD : PyData → PyData → Res PyData := int2 fun a b => gd (0 ≤ b) (.ok (.int (a / 2 ^ b.toNat)))
noncomputable def andD : PyData → PyData → Res PyData := int2 fun a b => .ok (.int (Builtin.bitAnd a b))
noncomputable def orD : PyData → PyData → Res PyData := int2 fun a b => .ok (.int (Builtin.bitOr a b))
noncomputable def ltD : PyData → PyData → Res PyData := int2 fun a b => .ok (.bool (decide (a < b)))
noncomputable def gtD : PyData → PyData → Res PyData := int2 fun a b => .ok (.bool (decide (b < a)))
noncomputable def eqD (a b : PyData) : Res PyData := gd (SeqAt.shaped a = true ∧ SeqAt.shaped b = true) (.ok (.bool (PyData.eqv a b)))
noncomputable def neD (a b : PyData) : Res PyData := gd (SeqAt.shaped a = true ∧ SeqAt.shaped b = true) (.ok (.bool (!PyData.eqv a b)))
noncomputable def isNn : PyData → Bool
  | .none => true
  | _ => false
noncomputable def isND : PyData → PyData → Res PyData
  | a, .none => .ok (.bool (isNn a))
  | _, _ => .bad
noncomputable def notND : PyData → PyData → Res PyData
  | a, .none => .ok (.bool (!isNn a))
  | _, _ => .bad
noncomputable def ixD : PyData → PyData → Res PyData
  | .list ds, .int i => match atI ds i with | some d => .ok d | none => .bad
  | .tuple ds, .int i => match atI ds i with | some d => .ok d | none => .bad
  | _, _ => .bad
section
variable {X : Cx}
theorem rD_int {g : Value → Value → Sem Value} {f : PyData → PyData → Res PyData} {C : Int → Int → Prop} {h : Int → Int → Int} (ho : OpR X g (rI C fun i j => .int (h i j)))
    (hf : ∀ a b d, f a b = .ok d → ∃ i j, a = .int i ∧ b = .int j ∧ C i j ∧ d = .int (h i j)) : OpR X g (rD X.K f) := by
  intro pins s σ H x y v u Q I rx ry hq
  obtain ⟨A, d1, d2, d, e, ha, p1, p2, k⟩ := hq
  obtain ⟨i, j, rfl, rfl, hc, rfl⟩ := hf _ _ _ e
  exact ho pins s σ H x y v u Q I rx ry ⟨i, j, p1.int, p2.int, hc, k _ A H (Grow.refl ha) (Rp.int.mpr rfl)⟩
theorem rD_int0 {g : Value → Value → Sem Value} {f : PyData → PyData → Res PyData} {h : Int → Int → Int} (ho : OpR X g (rI0 fun i j => .int (h i j)))
    (hf : ∀ a b d, f a b = .ok d → ∃ i j, a = .int i ∧ b = .int j ∧ d = .int (h i j)) : OpR X g (rD X.K f) := by
  intro pins s σ H x y v u Q I rx ry hq
  obtain ⟨A, d1, d2, d, e, ha, p1, p2, k⟩ := hq
  obtain ⟨i, j, rfl, rfl, rfl⟩ := hf _ _ _ e
  exact ho pins s σ H x y v u Q I rx ry ⟨i, j, p1.int, p2.int, k _ A H (Grow.refl ha) (Rp.int.mpr rfl)⟩
theorem rD_cmp {g : Value → Value → Sem Value} {f : PyData → PyData → Res PyData} {h : Int → Int → Bool} (ho : OpR X g (rI0 fun i j => .bl (h i j)))
    (hf : ∀ a b d, f a b = .ok d → ∃ i j, a = .int i ∧ b = .int j ∧ d = .bool (h i j)) : OpR X g (rD X.K f) := by
  intro pins s σ H x y v u Q I rx ry hq
  obtain ⟨A, d1, d2, d, e, ha, p1, p2, k⟩ := hq
  obtain ⟨i, j, rfl, rfl, rfl⟩ := hf _ _ _ e
  exact ho pins s σ H x y v u Q I rx ry ⟨i, j, p1.int, p2.int, k _ A H (Grow.refl ha) (Rp.bool.mpr rfl)⟩
theorem od_sub : OpR X (binaryOp .Sub) (rD X.K subD) := rD_int0 op_sub fun a b d e => by
  obtain ⟨i, j, rfl, rfl, e⟩ := int2_ok e; cases e; exact ⟨_, _, rfl, rfl, rfl⟩
theorem od_fdiv : OpR X (binaryOp .FloorDiv) (rD X.K fdivD) := rD_int op_fdiv fun a b d e => by
  obtain ⟨i, j, rfl, rfl, e⟩ := int2_ok e; obtain ⟨hc, e⟩ := gd_ok e; cases e; exact ⟨_, _, rfl, rfl, hc, rfl⟩
theorem od_mod : OpR X (binaryOp .Mod) (rD X.K modD) := rD_int op_mod fun a b d e => by
  obtain ⟨i, j, rfl, rfl, e⟩ := int2_ok e; obtain ⟨hc, e⟩ := gd_ok e; cases e; exact ⟨_, _, rfl, rfl, hc, rfl⟩
theorem od_shl : OpR X (binaryOp .LShift) (rD X.K shlD) := rD_int op_shl fun a b d e => by
  obtain ⟨i, j, rfl, rfl, e⟩ := int2_ok e; obtain ⟨hc, e⟩ := gd_ok e; cases e; exact ⟨_, _, rfl, rfl, hc, rfl⟩
theorem od_shr : OpR X (binaryOp .RShift) (rD X.K shrD) := rD_int op_shr fun a b d e => by
  obtain ⟨i, j, rfl, rfl, e⟩ := int2_ok e; obtain ⟨hc, e⟩ := gd_ok e; cases e; exact ⟨_, _, rfl, rfl, hc, rfl⟩
theorem od_and : OpR X (binaryOp .BitAnd) (rD X.K andD) := rD_int0 op_and fun a b d e => by
  obtain ⟨i, j, rfl, rfl, e⟩ := int2_ok e; cases e; exact ⟨_, _, rfl, rfl, rfl⟩
theorem od_or : OpR X (binaryOp .BitOr) (rD X.K orD) := rD_int0 op_or fun a b d e => by
  obtain ⟨i, j, rfl, rfl, e⟩ := int2_ok e; cases e; exact ⟨_, _, rfl, rfl, rfl⟩
theorem od_lt : OpR X (compareOp .Lt) (rD X.K ltD) := rD_cmp op_lt fun a b d e => by
  obtain ⟨i, j, rfl, rfl, e⟩ := int2_ok e; cases e; exact ⟨_, _, rfl, rfl, rfl⟩
theorem od_gt : OpR X (compareOp .Gt) (rD X.K gtD) := rD_cmp op_gt fun a b d e => by
  obtain ⟨i, j, rfl, rfl, e⟩ := int2_ok e; cases e; exact ⟨_, _, rfl, rfl, rfl⟩
theorem od_eq (hu : X.A.units + 64 < cLine) : OpR X (compareOp .Eq) (rD X.K eqD) := by
  intro pins s σ H x y v u Q I rx ry hq
  obtain ⟨A, d1, d2, d, e, ha, p1, p2, k⟩ := hq
  obtain ⟨⟨h1, h2⟩, e⟩ := gd_ok e
  cases e
  exact op_eqD hu pins s σ H x y v u Q I rx ry ⟨d1, d2, p1.is ha h1, p2.is ha h2, h1, h2, k _ A H (Grow.refl ha) (Rp.bool.mpr rfl)⟩
theorem od_ne (hu : X.A.units + 64 < cLine) : OpR X (compareOp .NotEq) (rD X.K neD) := by
  intro pins s σ H x y v u Q I rx ry hq
  obtain ⟨A, d1, d2, d, e, ha, p1, p2, k⟩ := hq
  obtain ⟨⟨h1, h2⟩, e⟩ := gd_ok e
  cases e
  exact op_neD hu pins s σ H x y v u Q I rx ry ⟨d1, d2, p1.is ha h1, p2.is ha h2, h1, h2, k _ A H (Grow.refl ha) (Rp.bool.mpr rfl)⟩
theorem Pk.isNone {K : PySem.W.Frag} {A H : Hp} {d : PyData} {x : V} (ha : Same A H) (p : Pk K A H d x) : decide (x = V.non) = isNn d := by
  cases d with
  | none => rw [p.none]; rfl
  | bool b => rw [p.bool]; rfl
  | int b => rw [p.int]; rfl
  | str b => rw [p.str]; rfl
  | list b => obtain ⟨q, vs, rfl, _⟩ := p.list ha; rfl
  | tuple b => obtain ⟨q, vs, rfl, _⟩ := p.tuple ha; rfl
  | dict b => obtain ⟨q, u, rfl, _⟩ := p.dict ha; rfl
theorem od_isN : OpR X (compareOp .Is) (rD X.K isND) := by
  intro pins s σ H x y v u Q I rx ry hq
  obtain ⟨A, d1, d2, d, e, ha, p1, p2, k⟩ := hq
  cases d2 with
  | none =>
    have e' := Res.ok.inj e
    subst e'
    exact op_isN pins s σ H x y v u Q I rx ry ⟨p2.none, by rw [p1.isNone ha]; exact k _ A H (Grow.refl ha) (Rp.bool.mpr rfl)⟩
  | _ => cases e
theorem od_notN : OpR X (compareOp .IsNot) (rD X.K notND) := by
  intro pins s σ H x y v u Q I rx ry hq
  obtain ⟨A, d1, d2, d, e, ha, p1, p2, k⟩ := hq
  cases d2 with
  | none =>
    have e' := Res.ok.inj e
    subst e'
    refine op_notN pins s σ H x y v u Q I rx ry ⟨p2.none, ?_⟩
    rw [p1.isNone ha]
    exact k _ A H (Grow.refl ha) (Rp.bool.mpr rfl)
  | _ => cases e
noncomputable def rCatR (K : PySem.W.Frag) : R2 := fun x y H Q => ∃ l b xs zs, x = .ref l ∧ y = .ref b ∧ SqL K H l xs ∧ SqL K H b zs ∧ xs.length + zs.length ≤ sizeLine ∧ ∀ p, H p = none → Q (.ref p) (upd H p (.lst (xs ++ zs)))
theorem op_catR : OpR X (binaryOp .Add) (rCatR X.K) := by
  intro pins s σ H x y v u Q I rx ry h
  obtain ⟨l, b, xs, zs, rfl, rfl, hH, hB, hz, q⟩ := h
  cases rx
  cases ry
  obtain ⟨its, r, pl, _⟩ := I.list hH
  obtain ⟨its2, r2, pl2, _⟩ := I.list hB
  have hl := r.length
  have hl2 := r2.length
  obtain ⟨⟨cls, dd, data, sl⟩, ho, hc, n, hd⟩ := pl.isList
  obtain ⟨⟨cls2, dd2, data2, sl2⟩, ho2, hc2, n2, hd2⟩ := pl2.isList
  simp only at hc hd hc2 hd2
  subst hc hd hc2 hd2
  have ea : its.toArray ++ its2.toArray = (its ++ its2).toArray := by simp
  refine concat_meets ⟨_, ho, rfl⟩ ⟨_, ho2, rfl⟩ noFill_list_add seq_list_add PySem.F.slot_list_add PySem.F.entry_list_add (PySem.F.args_list_add_2 _ _) (list_addW l b its.toArray its2.toArray n n2 dd dd2 sl sl2 (by simp only [List.size_toArray]; omega)) ⟨ho, ho2, ?_⟩
  rw [ea]
  exact ⟨.ref _, _, I.lnew (t' := s.toks) (r.append r2) (by rw [List.length_append]; omega), rfl, q _ I.fresh⟩
theorem op_catT0 : OpR X (binaryOp .Add) (fun x y H Q => ∃ a b ys, x = .ref a ∧ y = .ref b ∧ SqT X.K H a [] ∧ SqT X.K H b ys ∧ Q (.ref b) H) := by
  intro pins s σ H x y v u Q I rx ry h
  obtain ⟨a, b, ys, rfl, rfl, ha, hb, q⟩ := h
  cases rx
  cases ry
  obtain ⟨its, r1, p1, _⟩ := I.tuple ha
  obtain ⟨its2, r2, p2, _⟩ := I.tuple hb
  cases r1
  obtain ⟨⟨cls, dd, data, sl⟩, ho, hc, n, hd⟩ := id p1
  obtain ⟨⟨cls2, dd2, data2, sl2⟩, ho2, hc2, n2, hd2⟩ := id p2
  simp only at hc hd hc2 hd2
  subst hc hd hc2 hd2
  exact concat_meets ⟨_, ho, rfl⟩ ⟨_, ho2, rfl⟩ noFill_tuple_add seq_tuple_add PySem.F.slot_tuple_add PySem.F.entry_tuple_add (PySem.F.args_tuple_add_2 _ _)
    (tuple_addW0 a b _ its2.toArray n n2 dd dd2 sl sl2 rfl) ⟨ho, ho2, ⟨.ref b, H, I, rfl, q⟩⟩
theorem od_add : OpR X (binaryOp .Add) (rD X.K addD) := by
  intro pins s σ H x y v u Q I rx ry hq
  obtain ⟨A, d1, d2, d, e, ha, p1, p2, k⟩ := hq
  cases d1 with
  | int i =>
    cases d2 with
    | int j => cases e; exact op_add pins s σ H x y v u Q I rx ry ⟨i, j, p1.int, p2.int, k _ A H (Grow.refl ha) (Rp.int.mpr rfl)⟩
    | bool j => cases e; exact op_add_ib pins s σ H x y v u Q I rx ry ⟨i, j, p1.int, p2.bool, k _ A H (Grow.refl ha) (Rp.int.mpr rfl)⟩
    | _ => cases e
  | str i =>
    cases d2 with
    | str j =>
      obtain ⟨hc, e⟩ := gd_ok e
      cases e
      exact op_add_str pins s σ H x y v u Q I rx ry ⟨i, j, p1.str, p2.str, hc, k _ A H (Grow.refl ha) (Rp.str.mpr rfl)⟩
    | _ => cases e
  | list i =>
    cases d2 with
    | list j =>
      obtain ⟨hc, e⟩ := gd_ok e
      cases e
      obtain ⟨l1, xs, e1, h1, q1⟩ := p1.list ha
      obtain ⟨l2, ys, e2, h2, q2⟩ := p2.list ha
      refine op_catR pins s σ H x y v u Q I rx ry ⟨l1, l2, xs, ys, e1, e2, h1, h2, by rw [← q1.length, ← q2.length]; exact hc, fun p hp => ?_⟩
      have g := Grow.new (o := .lst (xs ++ ys)) ha hp
      exact k _ _ _ g (Rp.list.mpr ⟨p, _, rfl, SqL.of upd_same, (RpAll.mono g.aa _ q1).append (RpAll.mono g.aa _ q2)⟩)
    | _ => cases e
  | tuple i =>
    cases d2 with
    | tuple j =>
      obtain ⟨hc, e⟩ := gd_ok e
      cases e
      obtain ⟨l1, xs, e1, h1, q1⟩ := p1.tuple ha
      obtain ⟨l2, ys, e2, h2, q2⟩ := p2.tuple ha
      by_cases hne : i = []
      · subst hne
        have ex : xs = [] := List.eq_nil_of_length_eq_zero q1.length.symm
        subst ex
        refine op_catT0 pins s σ H x y v u Q I rx ry ⟨l1, l2, ys, e1, e2, h1, h2, ?_⟩
        rw [List.nil_append] at k
        refine k _ A H (Grow.refl ha) ?_
        have := p2.nolist (fun _ z => nomatch z) (fun _ z => nomatch z)
        rw [e2] at this
        exact this
      refine op_catT pins s σ H x y v u Q I rx ry ⟨l1, l2, xs, ys, e1, e2, h1, h2, fun z => ?_, by rw [← q1.length, ← q2.length]; exact hc, fun z => ?_, fun z p hp => ?_⟩
      · subst z
        have := q1.length
        exact hne (List.eq_nil_of_length_eq_zero this)
      · subst z
        have e0 : j = [] := List.eq_nil_of_length_eq_zero q2.length
        subst e0
        rw [List.append_nil] at k
        refine k _ A H (Grow.refl ha) ?_
        have := p1.nolist (fun _ z => nomatch z) (fun _ z => nomatch z)
        rw [e1] at this
        exact this
      · have g := Grow.new (o := .tup (xs ++ ys)) ha hp
        exact k _ _ _ g (Rp.tuple.mpr ⟨p, _, rfl, SqT.of upd_same, (RpAll.mono g.aa _ q1).append (RpAll.mono g.aa _ q2)⟩)
    | _ => cases e
  | _ => cases e
noncomputable def rRepR : R2 := fun x y H Q => ∃ l k xs, x = .ref l ∧ y = .int k ∧ Rd H l (.lst xs) ∧ -(2 ^ 63) ≤ k ∧ k < 2 ^ 63 ∧ xs.length * k.toNat ≤ sizeLine ∧
  ∀ p, H p = none → Q (.ref p) (upd H p (.lst (List.replicate k.toNat xs).flatten))
theorem op_repR : OpR X (binaryOp .Mult) rRepR := by
  intro pins s σ H x y v u Q I rx ry h
  obtain ⟨l, k, xs, rfl, rfl, hH, h1, h2, hz, q⟩ := h
  cases rx
  obtain ⟨t, rfl⟩ := ry
  obtain ⟨z, its, n, r, e⟩ := hH.ok I.hok
  have hl := r.length
  have hlen : its.toArray.size * k.toNat ≤ sizeLine := by rw [List.size_toArray, ← hl]; exact hz
  have hcap : ¬ its.toArray.size * k.toNat > (2 ^ 63 - 1) / 8 := by
    have : (sizeLine : Nat) ≤ (2 ^ 63 - 1) / 8 := by decide
    omega
  have hfit : ¬ (!Builtin.List.listFitsIndex k) = true := by
    rw [fitsIndex_both h1 h2]
    exact Bool.false_ne_true
  have hlong : ¬ Builtin.List.listTooLong (its.toArray.size * k.toNat) = true := by
    rw [notLongL hlen]
    exact Bool.false_ne_true
  have hnew : List.foldl (fun x1 x2 => x1 ++ x2) #[] (List.replicate (if its.toArray.isEmpty = true then 0 else k.toNat) its.toArray) = (List.replicate k.toNat its).flatten.toArray := by
    have f0 : ∀ m : Nat, List.foldl (fun x1 x2 => x1 ++ x2) #[] (List.replicate m its.toArray) = (List.replicate m its).flatten.toArray := fun m => by
      have := foldl_rep its m []
      rw [List.nil_append] at this
      exact this
    rw [f0]
    cases its with
    | nil => simp
    | cons a r' => rw [if_neg (by simp)]
  refine wpAny_binaryOp_repeat_ref (T := "list") (U := "int") (by decide) ⟨_, e, rfl⟩ (fun s' => typeIs_int s' k t) noFill_list_mul F.fills_int_mul F.slot_int_rmul repeat_list F.slot_int_index.lookup
    (call_meets F.slot_int_rmul (typeIs_int s k t) F.entry_int_rmul (F.args_int_rmul_2 _ _) (int___rmul___int_list k t l its.toArray n)
      ⟨e, rfl, ⟨_, e, rfl⟩, call_meets F.slot_list_mul ⟨_, e, rfl⟩ F.entry_list_mul (F.args_list_mul_2 _ _) (AutoListH.list___mul___list_int_3 l its.toArray n k t hfit hcap hlong) ⟨e, ?_⟩⟩)
  rw [hnew]
  exact ⟨.ref _, _, I.lnew (t' := s.toks) (r.rep k.toNat) (by rw [len_rep, Nat.mul_comm]; exact hz), rfl, q _ I.fresh⟩
theorem RpAll.reps {K : PySem.W.Frag} {A : Hp} {ds : List PyData} {vs : List V} (h : RpAll K A ds vs) (k : Nat) : RpAll K A (List.replicate k ds).flatten (List.replicate k vs).flatten := by
  induction k with
  | zero => exact RpAll.nil.mpr rfl
  | succ k ih => rw [List.replicate_succ, List.replicate_succ, List.flatten_cons, List.flatten_cons]; exact h.append ih
theorem od_mul : OpR X (binaryOp .Mult) (rD X.K mulD) := rD_int op_mul fun a b d e => by
  obtain ⟨i, j, rfl, rfl, e⟩ := int2_ok e; obtain ⟨hc, e⟩ := gd_ok e; cases e; exact ⟨_, _, rfl, rfl, hc, rfl⟩
noncomputable def repD : PyData → PyData → Res PyData
  | .list a, .int k => gd (-(2 ^ 63) ≤ k ∧ k < 2 ^ 63 ∧ a.length * k.toNat ≤ sizeLine) (.ok (.list (List.replicate k.toNat a).flatten))
  | _, _ => .bad
theorem sf_rep {O : List Fl} {m1 m2 : ME} {a b : Expr} {pos : Pos} (ha : QE X a (tF X.K O m1)) (hb : QE X b (tP X.K O m2)) : QE X (.BinOp a .Mult b pos) (tF X.K O (eBin repD m1 m2)) := QE.imp (pe_op op_repR ha.h hb.h) fun σ H Q hq__ => by
  obtain ⟨A, B, Γ, d, r, em, k⟩ := hq__
  obtain ⟨d1, e1, em⟩ := Res.bind_ok em
  obtain ⟨d2, e2, em⟩ := Res.bind_ok em
  refine ⟨A, B, Γ, d1, r, e1, fun x A1 H1 g1 p1 => ⟨A1, B, Γ, d2, r.grow g1, e2, fun y A2 H2 g2 p2 => ?_⟩⟩
  cases d1 with
  | list i =>
    cases d2 with
    | int j =>
      obtain ⟨hc, em⟩ := gd_ok em
      cases em
      obtain ⟨l1, o, rfl, h0, h1, h2, ⟨ds, xs, e3, rfl, q1⟩ | ⟨kvs, u, e3, _⟩⟩ := p1
      rotate_right
      · cases e3
      cases e3
      refine ⟨l1, j, xs, rfl, p2.int, .inl (g2.hh _ _ h1), hc.1, hc.2.1, by rw [← q1.length]; exact hc.2.2, fun p hp => ?_⟩
      have gg := g1.trans g2
      exact k _ _ _ (gg.trans (Grow.lay g2.ah hp)) ⟨p, _, rfl, gg.hh.free hp, upd_same, g2.ah.free hp, .inl ⟨_, _, rfl, rfl, (RpAll.mono g2.aa _ q1).reps _⟩⟩
    | _ => cases em
  | _ => cases em
theorem RpAll.atI {K : PySem.W.Frag} {A : Hp} {ds : List PyData} {vs : List V} {i : Int} {d : PyData} (h : RpAll K A ds vs) (e : L2.atI ds i = some d) : ∃ x, L2.atI vs i = some x ∧ Rp K A d x := by
  unfold L2.atI at e ⊢
  rw [← h.length]
  cases q : ixN ds.length i with
  | none => rw [q] at e; cases e
  | some j => rw [q] at e; exact h.get' e
theorem od_ix : IxR X (rD X.K ixD) := by
  intro value slice pins s σ H x y v u Q I rx ry hq hs
  obtain ⟨A, d1, d2, d, e, ha, p1, p2, k⟩ := hq
  cases d1 with
  | list ds =>
    cases d2 with
    | int i =>
      have e' : (match L2.atI ds i with | some d => Res.ok d | none => .bad) = .ok d := e
      cases q : L2.atI ds i with
      | none => rw [q] at e'; cases e'
      | some d0 =>
        rw [q] at e'
        cases e'
        obtain ⟨l, vs, e1, h1, q2⟩ := p1.list ha
        obtain ⟨z, hz, rz⟩ := q2.atI q
        exact ix_list value slice pins s σ H x y v u Q I rx ry ⟨l, vs, i, z, e1, p2.int, h1, hz, k _ A H (Grow.refl ha) rz⟩ hs
    | _ => cases e
  | tuple ds =>
    cases d2 with
    | int i =>
      have e' : (match L2.atI ds i with | some d => Res.ok d | none => .bad) = .ok d := e
      cases q : L2.atI ds i with
      | none => rw [q] at e'; cases e'
      | some d0 =>
        rw [q] at e'
        cases e'
        obtain ⟨l, vs, e1, h1, q2⟩ := p1.tuple ha
        obtain ⟨z, hz, rz⟩ := q2.atI q
        exact ix_tup value slice pins s σ H x y v u Q I rx ry ⟨l, vs, i, z, e1, p2.int, h1, hz, k _ A H (Grow.refl ha) rz⟩ hs
    | _ => cases e
  | _ => cases e
theorem se_ix {a b : Expr} {O : List Fl} {m1 m2 : ME} {pos : Pos} (ha : QE X a (tP X.K O m1)) (hb : QE X b (tP X.K O m2)) (hs : PlainIx b) : QE X (.Subscript a b pos) (tE X.K O (eBin ixD m1 m2)) := QE.imp (pe_ix od_ix ha.h hb.h hs) fun _ _ _ => tE_bin
end
end L3
namespace L3
open PySem PySem.Spec PyProof.Rows L2
noncomputable def evs : List ME → Ev → Res (List PyData)
  | [], _ => .ok []
  | m :: ms, Γ => (m Γ).bind fun d => (evs ms Γ).bind fun ds => .ok (d :: ds)
theorem evs_length : ∀ {ms : List ME} {Γ : Ev} {ds : List PyData}, evs ms Γ = .ok ds → ds.length = ms.length
  | [], _, _, h => by cases h; rfl
  | m :: ms, Γ, ds, h => by
    obtain ⟨d, _, h⟩ := Res.bind_ok h
    obtain ⟨r, e, h⟩ := Res.bind_ok h
    cases h
    rw [List.length_cons, List.length_cons, evs_length e]
noncomputable def tAi (K : PySem.W.Frag) (O : List Fl) (ms : List ME) : TA := fun σ H Q => ∃ A B Γ ds, StRep K A B H O σ Γ ∧ evs ms Γ = .ok ds ∧ ∀ vs A' H', Grow A H A' H' → RpAll K A' ds vs → Q vs H'
noncomputable def ArgV (K : PySem.W.Frag) (A H : Hp) : Fl → PyData → V → Prop
  | .imm, d, v => Rp K A d v
  | _, d, v => Pk K A H d v
noncomputable def ArgsOk (K : PySem.W.Frag) (A H : Hp) : List Fl → List PyData → List V → Prop
  | [], ds, vs => ds = [] ∧ vs = []
  | f :: fs, ds, vs => ∃ d r v s, ds = d :: r ∧ vs = v :: s ∧ ArgV K A H f d v ∧ ArgsOk K A H fs r s
noncomputable def tAr (K : PySem.W.Frag) (O : List Fl) (fs : List Fl) (ms : List ME) : TA := fun σ H Q => ∃ A B Γ ds, StRep K A B H O σ Γ ∧ evs ms Γ = .ok ds ∧ ∀ vs A' H', Grow A H A' H' → ArgsOk K A' H' fs ds vs → Q vs H'
section
variable {X : Cx} {K : PySem.W.Frag} {O : List Fl} {m : ME} {ms : List ME} {fs : List Fl} {e : Expr} {es : List Expr} {pos : Pos}
theorem si_nil : QA X [] (tAi K O []) := QA.imp pa_nil fun σ H Q hq__ => by
  obtain ⟨A, B, Γ, ds, r, em, k⟩ := hq__
  cases em
  exact k [] A H (Grow.refl r.a) (RpAll.nil.mpr rfl)
theorem si_cons (ha : QE X e (tE K O m)) (hr : QA X es (tAi K O ms)) (hs : noStar e = true := by rfl) : QA X (e :: es) (tAi K O (m :: ms)) := QA.imp (pa_cons ha.h hr.h (star_cons hs)) fun σ H Q hq__ => by
  obtain ⟨A, B, Γ, ds, r, em, k⟩ := hq__
  obtain ⟨d, e1, em⟩ := Res.bind_ok em
  obtain ⟨ds', e2, em⟩ := Res.bind_ok em
  cases em
  exact ⟨A, B, Γ, d, r, e1, fun v A1 H1 g1 p1 => ⟨A1, B, Γ, ds', r.grow g1, e2, fun vs A2 H2 g2 p2 => k (v :: vs) A2 H2 (g1.trans g2) (RpAll.cons.mpr ⟨v, vs, rfl, Rp.mono g2.aa d p1, p2⟩)⟩⟩
theorem sa_nil : QA X [] (tAr K O [] []) := QA.imp pa_nil fun σ H Q hq__ => by
  obtain ⟨A, B, Γ, ds, r, em, k⟩ := hq__
  cases em
  exact k [] A H (Grow.refl r.a) ⟨rfl, rfl⟩
theorem sa_imm (ha : QE X e (tE K O m)) (hr : QA X es (tAr K O fs ms)) (hs : noStar e = true := by rfl) : QA X (e :: es) (tAr K O (.imm :: fs) (m :: ms)) := QA.imp (pa_cons ha.h hr.h (star_cons hs)) fun σ H Q hq__ => by
  obtain ⟨A, B, Γ, ds, r, em, k⟩ := hq__
  obtain ⟨d, e1, em⟩ := Res.bind_ok em
  obtain ⟨ds', e2, em⟩ := Res.bind_ok em
  cases em
  exact ⟨A, B, Γ, d, r, e1, fun v A1 H1 g1 p1 => ⟨A1, B, Γ, ds', r.grow g1, e2, fun vs A2 H2 g2 p2 => k (v :: vs) A2 H2 (g1.trans g2) ⟨d, ds', v, vs, rfl, rfl, Rp.mono g2.aa d p1, p2⟩⟩⟩
theorem sa_bor (ha : QE X e (tP K O m)) (hr : QA X es (tAr K O fs ms)) (hs : noStar e = true := by rfl) : QA X (e :: es) (tAr K O (.bor :: fs) (m :: ms)) := QA.imp (pa_cons ha.h hr.h (star_cons hs)) fun σ H Q hq__ => by
  obtain ⟨A, B, Γ, ds, r, em, k⟩ := hq__
  obtain ⟨d, e1, em⟩ := Res.bind_ok em
  obtain ⟨ds', e2, em⟩ := Res.bind_ok em
  cases em
  exact ⟨A, B, Γ, d, r, e1, fun v A1 H1 g1 p1 => ⟨A1, B, Γ, ds', r.grow g1, e2, fun vs A2 H2 g2 p2 => k (v :: vs) A2 H2 (g1.trans g2) ⟨d, ds', v, vs, rfl, rfl, p1.mono g2.aa g2.hh, p2⟩⟩⟩
noncomputable def eTup (ms : List ME) : ME := fun Γ => (evs ms Γ).bind fun ds => .ok (.tuple ds)
noncomputable def eLst (ms : List ME) : ME := fun Γ => (evs ms Γ).bind fun ds => .ok (.list ds)
theorem se_tup {x1} (h : QA X es (tAi K O ms)) (hl : ms.length ≤ sizeLine := by first | decide | exact of_decide_eq_true rfl) : QE X (.Tuple es x1 pos) (tE K O (eTup ms)) := QE.imp (pe_tup h.h) fun σ H Q hq__ => by
  obtain ⟨A, B, Γ, d, r, em, k⟩ := hq__
  obtain ⟨ds, e1, em⟩ := Res.bind_ok em
  cases em
  refine ⟨A, B, Γ, ds, r, e1, fun vs A1 H1 g1 p1 => ⟨by rw [← p1.length, evs_length e1]; exact hl, fun p hp => ?_⟩⟩
  have g := Grow.new (o := .tup vs) g1.ah hp
  exact k _ _ _ (g1.trans g) (Rp.tuple.mpr ⟨p, vs, rfl, SqT.of upd_same, RpAll.mono g.aa ds p1⟩)
theorem sf_lst (h : QA X es (tAi K O ms)) (hl : ms.length ≤ sizeLine := by first | decide | exact of_decide_eq_true rfl) : QE X (.List es pos) (tF K O (eLst ms)) := QE.imp (pe_lst h.h) fun σ H Q hq__ => by
  obtain ⟨A, B, Γ, d, r, em, k⟩ := hq__
  obtain ⟨ds, e1, em⟩ := Res.bind_ok em
  cases em
  refine ⟨A, B, Γ, ds, r, e1, fun vs A1 H1 g1 p1 => ⟨by rw [← p1.length, evs_length e1]; exact hl, fun p hp => ?_⟩⟩
  exact k _ _ _ (g1.trans (Grow.lay g1.ah hp)) ⟨p, _, rfl, g1.hh.free hp, upd_same, g1.ah.free hp, .inl ⟨ds, vs, rfl, rfl, p1⟩⟩
noncomputable def eDct : List (Str × ME) → ME
  | [] => fun _ => .ok (.dict [])
  | (x, m) :: r => fun Γ => (m Γ).bind fun d => (eDct r Γ).bind fun e => match e with
    | .dict ds => .ok (.dict ((.str x, d) :: ds))
    | _ => .bad
theorem sf_dct0 : QE X (.Dict [] [] pos) (tF K O (eDct [])) := QE.imp pe_dnewK fun σ H Q hq__ => by
  obtain ⟨A, B, Γ, d, r, em, k⟩ := hq__
  cases em
  intro p hp
  exact k _ _ _ (Grow.lay r.a hp) ⟨p, _, rfl, hp, upd_same, r.a.free hp, .inr ⟨_, _, rfl, rfl, RpKV.nil.mpr rfl⟩⟩
theorem se_un {op : UnaryOp} {f : PyData → Res PyData} {a : Expr} {r : V → Hp → VK → Prop} (ho : UnR X (unaryOp op) r) (hf : ∀ A H d1 d x (Q : VK), f d1 = .ok d → Same A H → Pk K A H d1 x → (∀ v A' H', Grow A H A' H' → Rp K A' d v → Q v H') → r x H Q)
    (ha : QE X a (tP K O m)) : QE X (.UnaryOp op a pos) (tE K O (eUn f m)) := QE.imp (pe_un ho ha.h) fun σ H Q hq__ => by
  obtain ⟨A, B, Γ, d, r, em, k⟩ := hq__
  obtain ⟨d1, e1, em⟩ := Res.bind_ok em
  exact ⟨A, B, Γ, d1, r, e1, fun v A1 H1 g1 p1 => hf A1 H1 d1 d v Q em g1.ah p1 fun v A' H' g p => k v A' H' (g1.trans g) p⟩
noncomputable def eFn (f : List PyData → Res PyData) (ms : List ME) : ME := fun Γ => (evs ms Γ).bind f
noncomputable def PkAll (K : PySem.W.Frag) (A H : Hp) (ds : List PyData) (vs : List V) : Prop := ArgsOk K A H (ds.map fun _ => .bor) ds vs
noncomputable def rC (K : PySem.W.Frag) (f : List PyData → Res PyData) : List V → Hp → VK → Prop := fun vs H Q => ∃ A ds d, f ds = .ok d ∧ Same A H ∧ PkAll K A H ds vs ∧ ∀ v A' H', Grow A H A' H' → Rp K A' d v → Q v H'
noncomputable def rCF (K : PySem.W.Frag) (f : List PyData → Res PyData) : List V → Hp → VK → Prop := fun vs H Q => ∃ A ds d, f ds = .ok d ∧ Same A H ∧ PkAll K A H ds vs ∧ ∀ v A' H', Grow A H A' H' → FreshV K H A' H' d v → Q v H'
noncomputable def allBor (ms : List ME) : List Fl := ms.map fun _ => .bor
theorem bor_of {Γ : Ev} {ds : List PyData} (h : evs ms Γ = .ok ds) : allBor ms = ds.map fun _ => .bor := by
  have e := evs_length h
  unfold allBor
  rw [List.map_const', List.map_const', e]
theorem tE_fn {f : List PyData → Res PyData} {σ : L2.St} {H : Hp} {Q : VK} (h : tE K O (eFn f ms) σ H Q) : tCB (rC K f) (tAr K O (allBor ms) ms) σ H Q := by
  obtain ⟨A, B, Γ, d, r, em, k⟩ := h
  obtain ⟨ds, e1, em⟩ := Res.bind_ok em
  refine ⟨A, B, Γ, ds, r, e1, fun vs A1 H1 g1 p1 => ⟨A1, ds, d, em, g1.ah, by unfold PkAll; rw [← bor_of e1]; exact p1, fun v A' H' g p => k v A' H' (g1.trans g) p⟩⟩
theorem tF_fn {f : List PyData → Res PyData} {σ : L2.St} {H : Hp} {Q : VK} (h : tF K O (eFn f ms) σ H Q) : tCB (rCF K f) (tAr K O (allBor ms) ms) σ H Q := by
  obtain ⟨A, B, Γ, d, r, em, k⟩ := h
  obtain ⟨ds, e1, em⟩ := Res.bind_ok em
  refine ⟨A, B, Γ, ds, r, e1, fun vs A1 H1 g1 p1 => ⟨A1, ds, d, em, g1.ah, by unfold PkAll; rw [← bor_of e1]; exact p1, fun v A' H' g p => k v A' H' (g1.trans g) ?_⟩⟩
  obtain ⟨q, o, e, h1, h2⟩ := p
  exact ⟨q, o, e, g1.hh.free h1, h2⟩
variable {x : Str} {p : Pos} {id : String} {f : List PyData → Res PyData}
theorem se_callB (hc : CallR X (.builtin id) (rC K f)) (hg : Gl X x) (hm : X.mg x = none) (hv : bootBuiltins x = some (.builtin id)) (ha : QA X (e :: es) (tAr K O (allBor ms) ms)) (hn : x ≠ "__name__" := by decide) (hdb : (x == ("__debug__" : Str)) = false := by decide)
    (hs : noStar e = true := by rfl) (hpl : noStars es = true := by rfl) : QE X (.Call (.Name x p) (e :: es) [] pos) (tE K O (eFn f ms)) := QE.imp (pe_callB hc hg hm hv ha.h hn hdb (star_cons hs) (star_any hpl)) fun _ _ _ => tE_fn
theorem sf_callTy (hc : CallR X (.type id) (rCF K f)) (hg : Gl X x) (hm : X.mg x = none) (hv : bootBuiltins x = some (.type id)) (ha : QA X (e :: es) (tAr K O (allBor ms) ms)) (hn : x ≠ "__name__" := by decide) (hdb : (x == ("__debug__" : Str)) = false := by decide)
    (hs : noStar e = true := by rfl) (hpl : noStars es = true := by rfl) : QE X (.Call (.Name x p) (e :: es) [] pos) (tF K O (eFn f ms)) := QE.imp (pe_callTy hc hg hm hv ha.h hn hdb (star_cons hs) (star_any hpl)) fun _ _ _ => tF_fn
end
theorem PkAll.nil {K : PySem.W.Frag} {A H : Hp} {vs : List V} (h : PkAll K A H [] vs) : vs = [] := h.2
theorem PkAll.cons {K : PySem.W.Frag} {A H : Hp} {d : PyData} {ds : List PyData} {vs : List V} (h : PkAll K A H (d :: ds) vs) : ∃ v r, vs = v :: r ∧ Pk K A H d v ∧ PkAll K A H ds r := by
  obtain ⟨d', r', v, s, e1, e2, h1, h2⟩ := h
  cases e1
  exact ⟨v, s, e2, h1, h2⟩
noncomputable def lenD : List PyData → Res PyData
  | [.list ds] => .ok (.int ds.length)
  | [.tuple ds] => .ok (.int ds.length)
  | [.str x] => gd (x.length ≤ sizeLine) (.ok (.int x.length))
  | _ => .bad
noncomputable def listD : List PyData → Res PyData
  | [.list ds] => .ok (.list ds)
  | [.tuple ds] => .ok (.list ds)
  | _ => .bad
section
variable {X : Cx}
theorem cd_len : CallR X (.builtin "len") (rC X.K lenD) := by
  intro pins s σ H xs us Q I r h
  obtain ⟨A, ds, d, e, ha, p, k⟩ := h
  match ds, e with
  | [.list es], e =>
    cases e
    obtain ⟨v, r', rfl, p1, p2⟩ := p.cons
    obtain rfl := p2.nil
    obtain ⟨l, vs, rfl, h1, q1⟩ := p1.list ha
    exact call_len_seq pins s σ H _ us Q I r ⟨l, vs, rfl, .inl h1, by rw [← q1.length]; exact k _ A H (Grow.refl ha) (Rp.int.mpr rfl)⟩
  | [.tuple es], e =>
    cases e
    obtain ⟨v, r', rfl, p1, p2⟩ := p.cons
    obtain rfl := p2.nil
    obtain ⟨l, vs, rfl, h1, q1⟩ := p1.tuple ha
    exact call_len_seq pins s σ H _ us Q I r ⟨l, vs, rfl, .inr h1, by rw [← q1.length]; exact k _ A H (Grow.refl ha) (Rp.int.mpr rfl)⟩
  | [.str x], e =>
    obtain ⟨hc, e⟩ := gd_ok e
    cases e
    obtain ⟨v, r', rfl, p1, p2⟩ := p.cons
    obtain rfl := p2.nil
    exact call_len_str pins s σ H _ us Q I r ⟨x, by rw [p1.str], hc, k _ A H (Grow.refl ha) (Rp.int.mpr rfl)⟩
theorem cf_list : CallR X (.type "list") (rCF X.K listD) := by
  intro pins s σ H xs us Q I r h
  obtain ⟨A, ds, d, e, ha, p, k⟩ := h
  match ds, e with
  | [.list es], e =>
    cases e
    obtain ⟨v, r', rfl, p1, p2⟩ := p.cons
    obtain rfl := p2.nil
    obtain ⟨l, vs, rfl, h1, q1⟩ := p1.list ha
    exact call_list_of pins s σ H _ us Q I r ⟨l, vs, rfl, .inl h1, fun q hq => k _ A _ (Grow.lay ha hq) ⟨q, _, rfl, hq, upd_same, ha.free hq, .inl ⟨_, _, rfl, rfl, q1⟩⟩⟩
  | [.tuple es], e =>
    cases e
    obtain ⟨v, r', rfl, p1, p2⟩ := p.cons
    obtain rfl := p2.nil
    obtain ⟨l, vs, rfl, h1, q1⟩ := p1.tuple ha
    exact call_list_of pins s σ H _ us Q I r ⟨l, vs, rfl, .inr h1, fun q hq => k _ A _ (Grow.lay ha hq) ⟨q, _, rfl, hq, upd_same, ha.free hq, .inl ⟨_, _, rfl, rfl, q1⟩⟩⟩
end
noncomputable def tyN : PyData → String
  | .none => "NoneType"
  | .bool _ => "bool"
  | .int _ => "int"
  | .str _ => "str"
  | .list _ => "list"
  | .tuple _ => "tuple"
  | .dict _ => "dict"
noncomputable def isiD (T : String) (d : PyData) : Bool := tyN d == T || (T == "int" && tyN d == "bool")
noncomputable def eIsi (T : String) (a : ME) : ME := fun Γ => (a Γ).bind fun d => .ok (.bool (isiD T d))
section
variable {K : PySem.W.Frag}
theorem kit_self (t : String) : PySem.W.kitOne K (.type t) (.type t) = some true := by unfold PySem.W.kitOne; rw [if_pos (by simp)]
theorem kit_of {t T : String} {b : Bool} (hne : (Value.type t == Value.type T) = false) (h : (if PySem.W.kitMeta T = true then (fastBuiltinMro t).map (·.contains (Value.type T)) else none) = some b) : PySem.W.kitOne K (.type t) (.type T) = some b := by
  unfold PySem.W.kitOne PySem.W.kitCls
  rw [if_neg (by rw [hne]; exact Bool.false_ne_true)]
  exact h
noncomputable def IsiT (K : PySem.W.Frag) (T : String) : Prop := ∀ d : PyData, PySem.W.kitOne K (.type (tyN d)) (.type T) = some (isiD T d)
theorem isi_mk {T : String} (h : ∀ t ∈ ["NoneType", "bool", "int", "str", "list", "tuple", "dict"], PySem.W.kitOne K (.type t) (.type T) = some (t == T || (T == "int" && t == "bool"))) : IsiT K T := fun d => h (tyN d) (by cases d <;> simp [tyN])
theorem isi_bool : IsiT K "bool" := isi_mk fun t h => by
  simp only [List.mem_cons, List.not_mem_nil, or_false] at h
  rcases h with rfl | rfl | rfl | rfl | rfl | rfl | rfl <;> first | exact (kit_self _).trans (by decide +kernel) | exact kit_of (by decide +kernel) (by decide +kernel)
theorem isi_list : IsiT K "list" := isi_mk fun t h => by
  simp only [List.mem_cons, List.not_mem_nil, or_false] at h
  rcases h with rfl | rfl | rfl | rfl | rfl | rfl | rfl <;> first | exact (kit_self _).trans (by decide +kernel) | exact kit_of (by decide +kernel) (by decide +kernel)
theorem isi_tuple : IsiT K "tuple" := isi_mk fun t h => by
  simp only [List.mem_cons, List.not_mem_nil, or_false] at h
  rcases h with rfl | rfl | rfl | rfl | rfl | rfl | rfl <;> first | exact (kit_self _).trans (by decide +kernel) | exact kit_of (by decide +kernel) (by decide +kernel)
end
section
variable {X : Cx} {O : List Fl} {m : ME} {a b : Expr} {p pos : Pos} {T : String}
noncomputable def rIsiD (K : PySem.W.Frag) (T : String) : List V → Hp → VK → Prop := fun xs H Q => ∃ x A d, xs = [x, .ty T] ∧ Same A H ∧ Pk K A H d x ∧ Q (.bl (isiD T d)) H
theorem cd_isi (hT : IsiT X.K T) : CallR X (.builtin "isinstance") (rIsiD X.K T) := by
  intro pins s σ H xs us Q I r h
  obtain ⟨x, A, d, rfl, ha, p1, q⟩ := h
  obtain ⟨u, c, rfl, rx, rc⟩ := Vals.two r
  cases rc
  have fin : ∀ tk, EP X pins σ Q (.bool (isiD T d)) { s with toks := tk } := fun tk => ⟨.bl _, H, I.tok tk, rfl, q⟩
  have e := hT d
  cases d with
  | none => rw [p1.none] at rx; cases rx; exact PySem.W.kia_one PySem.W.kitx_none I.kIn True.intro e (fun z => nomatch z) fin
  | bool y => rw [p1.bool] at rx; cases rx; exact PySem.W.kia_one PySem.W.kitx_bool I.kIn True.intro e (fun z => nomatch z) fin
  | int i => rw [p1.int] at rx; obtain ⟨t, rfl⟩ := rx; exact PySem.W.kia_one PySem.W.kitx_int I.kIn True.intro e (fun z => nomatch z) fin
  | str y => rw [p1.str] at rx; obtain ⟨t, rfl⟩ := rx; exact PySem.W.kia_one PySem.W.kitx_str I.kIn True.intro e (fun z => nomatch z) fin
  | list ds =>
    obtain ⟨l, vs, rfl, h1, q1⟩ := p1.list ha
    cases rx
    obtain ⟨its, _, pl, _⟩ := I.list h1
    obtain ⟨o, h2, h3, _⟩ := pl.isList
    exact PySem.W.kia_one PySem.W.kitx_list I.kIn ⟨o, h2, h3⟩ e (fun z => nomatch z) fin
  | tuple ds =>
    obtain ⟨l, vs, rfl, h1, q1⟩ := p1.tuple ha
    cases rx
    obtain ⟨its, _, ⟨o, h2, h3, _⟩, _⟩ := I.tuple h1
    exact PySem.W.kia_one PySem.W.kitx_tuple I.kIn ⟨o, h2, h3⟩ e (fun z => nomatch z) fin
  | dict ds =>
    obtain ⟨l, kvs, rfl, h1, _⟩ := p1.dict ha
    cases rx
    obtain ⟨_, _, vs, _, hd⟩ : kvs.length ≤ sizeLine ∧ (l == sysModules) = false ∧ ∃ vs, KV kvs vs ∧ s.heap.DictOf (mixKind X.prog X.w) l vs := dk_rd I.hok h1
    obtain ⟨o, _, _, h2, h3, _⟩ := hd
    exact PySem.W.kia_one PySem.W.kitx_dict I.kIn ⟨o, h2, h3.1⟩ e (fun z => nomatch z) fin
theorem se_isi (hT : IsiT X.K T) (hg : Gl X "isinstance") (hm : X.mg "isinstance" = none) (ha : QE X a (tP X.K O m)) (hb : PE X b (tC (.ty T)))
    (h1 : starEach (a :: [b]) X.env = (false, eval a X.env) :: starEach [b] X.env := by rfl) (h2 : starEach [b] X.env = (false, eval b X.env) :: starEach [] X.env := by rfl) (hpl : (backTo pos (starEach [b] X.env)).any (·.1) = false := by rfl) :
    QE X (.Call (.Name "isinstance" p) [a, b] [] pos) (tE X.K O (eIsi T m)) :=
  QE.imp (pe_callB (cd_isi hT) hg hm (show bootBuiltins "isinstance" = some (.builtin "isinstance") by decide +kernel) (pa_cons ha.h (pa_cons hb pa_nil h2) h1) (by decide) (by decide) h1 hpl) fun σ H Q hq__ => by
    obtain ⟨A, B, Γ, d, r, em, k⟩ := hq__
    obtain ⟨d1, e1, em⟩ := Res.bind_ok em
    cases em
    exact ⟨A, B, Γ, d1, r, e1, fun v A1 H1 g1 p1 => ⟨v, A1, d1, rfl, g1.ah, p1, k _ A1 H1 g1 (Rp.bool.mpr rfl)⟩⟩
theorem pe_ty {x : Str} {T : String} {pos : Pos} (hg : Gl X x) (hm : X.mg x = none) (hv : bootBuiltins x = some (.type T)) (hn : x ≠ "__name__" := by decide) (hd : (x == ("__debug__" : Str)) = false := by decide) : PE X (.Name x pos) (tC (.ty T)) :=
  pe_bltn (v := .ty T) hg hm hv rfl hn hd
end
noncomputable def cutD (xs : List PyData) (lo hi : Option Int) : List PyData := (xs.drop (HT.sIx xs.length 0 lo)).take (HT.sIx xs.length xs.length hi - HT.sIx xs.length 0 lo)
noncomputable def MO := Ev → Res (Option Int)
noncomputable def oNone : MO := fun _ => .ok none
noncomputable def oSome (m : ME) : MO := fun Γ => (m Γ).bind fun d => match d with
  | .int i => .ok (some i)
  | _ => .bad
noncomputable def slD : PyData → Option Int → Option Int → Res PyData
  | .list ds, lo, hi => .ok (.list (cutD ds lo hi))
  | .tuple ds, lo, hi => .ok (.tuple (cutD ds lo hi))
  | _, _, _ => .bad
noncomputable def tO (K : PySem.W.Frag) (O : List Fl) (m : MO) : TO := fun σ H Q => ∃ A B Γ o, StRep K A B H O σ Γ ∧ m Γ = .ok o ∧ ∀ A' H', Grow A H A' H' → Q o H'
theorem PO.imp {X : Cx} {e : Option Expr} {t t' : TO} (h : PO X e t) (i : ∀ σ H Q, t' σ H Q → t σ H Q) : PO X e t' := fun pins s σ H Q I q => h pins s σ H Q I (i σ H Q q)
theorem QO.imp {X : Cx} {e : Option Expr} {t t' : TO} (h : PO X e t) (i : ∀ σ H Q, t' σ H Q → t σ H Q) : QO X e t' := ⟨PO.imp h i⟩
section
variable {X : Cx} {O : List Fl} {m : ME} {lo hi : Option Expr} {ml mh : MO} {a e : Expr} {p pos p2 : Pos}
theorem so_none : QO X none (tO X.K O oNone) := QO.imp po_none fun σ H Q hq__ => by obtain ⟨A, B, Γ, o, r, em, k⟩ := hq__; cases em; exact k A H (Grow.refl r.a)
theorem so_some (h : QE X e (tP X.K O m)) : QO X (some e) (tO X.K O (oSome m)) := QO.imp (po_some h.h) fun σ H Q hq__ => by
  obtain ⟨A, B, Γ, o, r, em, k⟩ := hq__
  obtain ⟨d, e1, em⟩ := Res.bind_ok em
  cases d with
  | int i => cases em; exact ⟨A, B, Γ, _, r, e1, fun v A1 H1 g1 p1 => ⟨i, p1.int, k A1 H1 g1⟩⟩
  | _ => cases em
section
variable {prog : Program} {w : World} {A : Around} {E : Value → Shared → Prop} {s : Shared}
end
theorem RpAll.cut {K : PySem.W.Frag} {A : Hp} {ds : List PyData} {vs : List V} (h : RpAll K A ds vs) (lo hi : Option Int) : RpAll K A (cutD ds lo hi) (cutV vs lo hi) := by
  unfold cutD cutV
  rw [← h.length]
  exact (h.drop _).take _
noncomputable def slL : PyData → Option Int → Option Int → Res PyData
  | .list ds, lo, hi => .ok (.list (cutD ds lo hi))
  | _, _, _ => .bad
noncomputable def eSlL (a : ME) (lo hi : MO) : ME := fun Γ => (a Γ).bind fun d => (lo Γ).bind fun l => (hi Γ).bind fun h => slL d l h
theorem sf_sl (ha : QE X a (tP X.K O m)) (hl : QO X lo (tO X.K O ml)) (hh : QO X hi (tO X.K O mh)) : QE X (.Subscript a (.Slice lo hi none p2) pos) (tF X.K O (eSlL m ml mh)) := QE.imp (pe_slice sl_list ha.h hl.h hh.h) fun σ H Q hq__ => by
  obtain ⟨A, B, Γ, d, r, em, k⟩ := hq__
  obtain ⟨d1, e1, em⟩ := Res.bind_ok em
  obtain ⟨l, e2, em⟩ := Res.bind_ok em
  obtain ⟨h, e3, em⟩ := Res.bind_ok em
  refine ⟨A, B, Γ, d1, r, e1, fun v A1 H1 g1 p1 => ⟨A1, B, Γ, l, r.grow g1, e2, fun A2 H2 g2 => ⟨A2, B, Γ, h, (r.grow g1).grow g2, e3, fun A3 H3 g3 => ?_⟩⟩⟩
  have g : Grow A H A3 H3 := (g1.trans g2).trans g3
  have p3 := p1.mono (g2.trans g3).aa (g2.trans g3).hh
  cases d1 with
  | list ds =>
    cases em
    obtain ⟨q, vs, rfl, h1, q1⟩ := p3.list g3.ah
    refine ⟨q, vs, rfl, h1, fun t ht => ?_⟩
    exact k _ _ _ (g.trans (Grow.lay g3.ah ht)) ⟨t, _, rfl, g.hh.free ht, upd_same, g3.ah.free ht, .inl ⟨_, _, rfl, rfl, q1.cut l h⟩⟩
  | _ => cases em
end
end L3
namespace L3
open PySem PySem.Spec PyProof.Rows L2
theorem getD_set_eq {α : Type} {l : List α} {i : Nat} {x d : α} (h : i < l.length) : (l.set i x).getD i d = x := by
  rw [List.getD_eq_getElem?_getD, List.getElem?_set_self h]; rfl
theorem getD_set_ne {α : Type} {l : List α} {i j : Nat} {x d : α} (h : i ≠ j) : (l.set i x).getD j d = l.getD j d := by
  rw [List.getD_eq_getElem?_getD, List.getD_eq_getElem?_getD, List.getElem?_set_ne h]
section
variable {K : PySem.W.Frag} {A B H : Hp} {O : List Fl} {σ : L2.St} {Γ : Ev} {i : Nat} {d : PyData} {v : V}
theorem StRep.set (r : StRep K A B H O σ Γ) (hi : i < Γ.length) (hO : i < O.length) (p : Rp K A d v) : StRep K A B H (O.set i .imm) (σ.set i (some v)) (Γ.set i (some d)) := by
  have hs : i < σ.length := by rw [← r.len]; exact hi
  refine ⟨r.a, r.b, by rw [List.length_set, List.length_set]; exact r.len, fun j => ?_, fun j k hjk h1 h2 h3 h4 => ?_⟩
  · by_cases hj : i = j
    · subst hj
      unfold fl gv sv
      rw [getD_set_eq hO, getD_set_eq hi, getD_set_eq hs]
      exact fun d' e => ⟨v, rfl, by cases e; exact p⟩
    · unfold fl gv sv
      rw [getD_set_ne hj, getD_set_ne hj, getD_set_ne hj]
      exact r.slot j
  · have hj : i ≠ j := fun z => by subst z; unfold fl at h1; rw [getD_set_eq hO] at h1; cases h1
    have hk : i ≠ k := fun z => by subst z; unfold fl at h2; rw [getD_set_eq hO] at h2; cases h2
    unfold fl at h1 h2
    unfold gv at h3 h4
    rw [getD_set_ne hj] at h1 h3
    rw [getD_set_ne hk] at h2 h4
    unfold sv
    rw [getD_set_ne hj, getD_set_ne hk]
    exact r.sep j k hjk h1 h2 h3 h4
theorem StRep.setO {p : Addr} {o : HO} (r : StRep K A B H O σ Γ) (hi : i < Γ.length) (hO : i < O.length) (h1 : H p = some o) (h2 : A p = none) (h3 : B p = none) (h4 : OwnO K A d o)
    (hn : ∀ j, isO (fl O j) = true → gv Γ j ≠ none → sv σ j ≠ some (.ref p)) : StRep K A B H (O.set i .own) (σ.set i (some (.ref p))) (Γ.set i (some d)) := by
  have hs : i < σ.length := by rw [← r.len]; exact hi
  refine ⟨r.a, r.b, by rw [List.length_set, List.length_set]; exact r.len, fun j => ?_, fun j k hjk q1 q2 q3 q4 => ?_⟩
  · by_cases hj : i = j
    · subst hj
      unfold fl gv sv
      rw [getD_set_eq hO, getD_set_eq hi, getD_set_eq hs]
      exact fun d' e => ⟨_, rfl, by cases e; exact ⟨p, o, rfl, h1, h2, h3, h4⟩⟩
    · unfold fl gv sv
      rw [getD_set_ne hj, getD_set_ne hj, getD_set_ne hj]
      exact r.slot j
  · unfold fl at q1 q2
    unfold gv at q3 q4
    unfold sv
    by_cases hj : i = j
    · subst hj
      have hk : i ≠ k := hjk
      rw [getD_set_ne hk] at q2 q4
      rw [getD_set_eq hs, getD_set_ne hk]
      exact fun z => hn k q2 q4 z.symm
    · rw [getD_set_ne hj] at q1 q3
      rw [getD_set_ne hj]
      by_cases hk : i = k
      · subst hk
        rw [getD_set_eq hs]
        exact hn j q1 q3
      · rw [getD_set_ne hk] at q2 q4
        rw [getD_set_ne hk]
        exact r.sep j k hjk q1 q2 q3 q4
theorem StRep.own_at (r : StRep K A B H O σ Γ) {j : Nat} (h1 : isO (fl O j) = true) (h2 : gv Γ j ≠ none) : ∃ d p o, gv Γ j = some d ∧ sv σ j = some (.ref p) ∧ H p = some o ∧ A p = none ∧ B p = none ∧ OwnO K A d o := by
  cases e : gv Γ j with
  | none => exact absurd e h2
  | some d =>
    obtain ⟨v, e1, q⟩ := r.slot j d e
    cases hf : fl O j with
    | imm => rw [hf] at h1; cases h1
    | bor => rw [hf] at h1; cases h1
    | own =>
      rw [hf] at q
      obtain ⟨p, o, rfl, q⟩ := q
      exact ⟨d, p, o, rfl, e1, q⟩
    | fix p0 =>
      rw [hf] at q
      obtain ⟨_, p, o, rfl, q⟩ := q
      exact ⟨d, p, o, rfl, e1, q⟩
    | exc C => rw [hf] at h1; cases h1
    | nst b => rw [hf] at h1; cases h1
    | kit => rw [hf] at h1; cases h1
theorem StRep.fresh {A' H' : Hp} (r : StRep K A B H O σ Γ) (g : Grow A H A' H') {p : Addr} {o : HO} (hi : i < Γ.length) (hO : i < O.length) (h0 : H p = none) (h1 : H' p = some o) (h2 : A' p = none) (h4 : OwnO K A' d o) :
    StRep K A' B H' (O.set i .own) (σ.set i (some (.ref p))) (Γ.set i (some d)) := by
  refine (r.grow g).setO hi hO h1 h2 (r.b.free h0) h4 fun j q1 q2 z => ?_
  obtain ⟨d', p', o', e1, e2, e3, _⟩ := r.own_at q1 q2
  rw [e2] at z
  cases z
  rw [h0] at e3
  cases e3
theorem StRep.freeze (r : StRep K A B H O σ Γ) (hi : fl O i = .own) (hO : i < O.length) : ∃ A', Same A A' ∧ New A A' B ∧ StRep K A' B H (O.set i .imm) σ Γ := by
  by_cases hg : gv Γ i = none
  · refine ⟨A, Same.refl _, fun _ h _ => h, r.a, r.b, r.len, fun j => ?_, fun j k hjk h1 h2 h3 h4 => ?_⟩
    · by_cases hj : i = j
      · subst hj
        intro d e
        rw [hg] at e
        cases e
      · unfold fl
        rw [getD_set_ne hj]
        exact r.slot j
    · have hj : i ≠ j := fun z => by subst z; exact h3 hg
      have hk : i ≠ k := fun z => by subst z; exact h4 hg
      unfold fl at h1 h2
      rw [getD_set_ne hj] at h1
      rw [getD_set_ne hk] at h2
      exact r.sep j k hjk h1 h2 h3 h4
  · have hiO : isO (fl O i) = true := by rw [hi]; rfl
    obtain ⟨d, p, o, e1, e2, h1, h2, h3, h4⟩ := r.own_at hiO hg
    have s : Same A (upd A p o) := Same.new h2 o
    refine ⟨upd A p o, s, fun q n1 n2 => ?_, fun b u q => ?_, r.b, r.len, fun j => ?_, fun j k hjk q1 q2 q3 q4 => ?_⟩
    · have hq : q ≠ p := fun z => n2 (z ▸ h3)
      rw [upd_ne hq]; exact n1
    · by_cases hb : b = p
      · subst hb; rw [upd_same] at q; rw [h1]; exact q
      · rw [upd_ne hb] at q; exact r.a b u q
    · by_cases hj : i = j
      · subst hj
        unfold fl
        rw [getD_set_eq hO]
        intro d' e'
        rw [e1] at e'
        cases e'
        refine ⟨_, e2, ?_⟩
        exact h4.share s
      · unfold fl
        rw [getD_set_ne hj]
        intro d' e'
        obtain ⟨v', e'', q⟩ := r.slot j d' e'
        refine ⟨v', e'', ?_⟩
        cases hf : fl O j with
        | imm => rw [hf] at q; unfold fl at hf; rw [hf]; exact Rp.mono s d' q
        | bor => rw [hf] at q; unfold fl at hf; rw [hf]; exact Pk.mono s (Same.refl _) q
        | own =>
          rw [hf] at q
          have hf' := hf
          unfold fl at hf
          rw [hf]
          obtain ⟨p', o', rfl, g1, g2, g3, g4⟩ := q
          refine ⟨p', o', rfl, g1, ?_, g3, g4.mono s⟩
          have hne : p' ≠ p := fun z => by
            refine r.sep i j hj hiO (by rw [hf']; rfl) hg (by rw [e']; simp) ?_
            rw [e2, e'', z]
          rw [upd_ne hne]; exact g2
        | fix p0 =>
          rw [hf] at q
          have hf' := hf
          unfold fl at hf
          rw [hf]
          obtain ⟨q0, p', o', rfl, g1, g2, g3, g4⟩ := q
          refine ⟨q0, p', o', rfl, g1, ?_, g3, g4.mono s⟩
          have hne : p' ≠ p := fun z => by
            refine r.sep i j hj hiO (by rw [hf']; rfl) hg (by rw [e']; simp) ?_
            rw [e2, e'', z]
          rw [upd_ne hne]; exact g2
        | kit => rw [hf] at q; unfold fl at hf; rw [hf]; exact KitV.mono s q
        | exc C =>
          rw [hf] at q
          unfold fl at hf
          rw [hf]
          obtain ⟨p', ob, w1, w2, w3⟩ := q
          exact ⟨p', ob, w1, s _ _ w2, w3⟩
        | nst b =>
          rw [hf] at q
          unfold fl at hf
          rw [hf]
          intro z
          obtain ⟨p', xs, kvs, w1, w2, w3, w4, w5, w6⟩ := q z
          refine ⟨p', xs, kvs, w1, w2, w3, ?_, w5, w6.mono s⟩
          have hne : p' ≠ p := fun z => by subst z; rw [h1] at w3; exact h4.nx w3
          rw [upd_ne hne]; exact w4
    · have hj : i ≠ j := fun z => by subst z; unfold fl at q1; rw [getD_set_eq hO] at q1; cases q1
      have hk : i ≠ k := fun z => by subst z; unfold fl at q2; rw [getD_set_eq hO] at q2; cases q2
      unfold fl at q1 q2
      rw [getD_set_ne hj] at q1
      rw [getD_set_ne hk] at q2
      exact r.sep j k hjk q1 q2 q3 q4
theorem StRep.change {p : Addr} {o o' : HO} {d' : PyData} (r : StRep K A B H O σ Γ) (hi : isO (fl O i) = true) (hl : i < Γ.length) (he : gv Γ i ≠ none) (hs : sv σ i = some (.ref p)) (h1 : H p = some o) (h4 : OwnO K A d' o') :
    StRep K A B (upd H p o') O σ (Γ.set i (some d')) := by
  obtain ⟨d, p', o0, e1, e2, g1, g2, g3, g4⟩ := r.own_at hi he
  rw [hs] at e2
  cases e2
  refine ⟨fun b u q => ?_, fun b u q => ?_, by rw [List.length_set]; exact r.len, fun j => ?_, fun j k hjk q1 q2 q3 q4 => ?_⟩
  · have hb : b ≠ p := fun z => by rw [z, g2] at q; cases q
    rw [upd_ne hb]; exact r.a b u q
  · have hb : b ≠ p := fun z => by rw [z, g3] at q; cases q
    rw [upd_ne hb]; exact r.b b u q
  · by_cases hj : i = j
    · subst hj
      unfold gv
      rw [getD_set_eq hl]
      intro d'' e
      cases e
      refine ⟨_, hs, ?_⟩
      cases hf : fl O i with
      | imm => rw [hf] at hi; cases hi
      | bor => rw [hf] at hi; cases hi
      | own => exact ⟨p, o', rfl, upd_same, g2, g3, h4⟩
      | fix p0 =>
        obtain ⟨v', ev, q⟩ := r.slot i d e1
        rw [hf] at q
        rw [hs] at ev
        cases ev
        exact ⟨q.1, p, o', rfl, upd_same, g2, g3, h4⟩
      | exc C => rw [hf] at hi; cases hi
      | nst b => rw [hf] at hi; cases hi
      | kit => rw [hf] at hi; cases hi
    · unfold gv
      rw [getD_set_ne hj]
      intro d'' e''
      obtain ⟨v', ev, q⟩ := r.slot j d'' e''
      refine ⟨v', ev, ?_⟩
      cases hf : fl O j with
      | imm => rw [hf] at q; exact q
      | bor => rw [hf] at q; exact q
      | own =>
        rw [hf] at q
        obtain ⟨p', o', rfl, u1, u2, u3, u4⟩ := q
        refine ⟨p', o', rfl, ?_, u2, u3, u4⟩
        have hne : p' ≠ p := fun z => by
          refine r.sep i j hj hi (by rw [hf]; rfl) he (by show gv Γ j ≠ none; unfold gv; rw [e'']; simp) ?_
          rw [hs, ev, z]
        rw [upd_ne hne]; exact u1
      | fix p0 =>
        rw [hf] at q
        obtain ⟨q0, p', o', rfl, u1, u2, u3, u4⟩ := q
        refine ⟨q0, p', o', rfl, ?_, u2, u3, u4⟩
        have hne : p' ≠ p := fun z => by
          refine r.sep i j hj hi (by rw [hf]; rfl) he (by show gv Γ j ≠ none; unfold gv; rw [e'']; simp) ?_
          rw [hs, ev, z]
        rw [upd_ne hne]; exact u1
      | kit => rw [hf] at q; exact q
      | exc C => rw [hf] at q; exact q
      | nst b =>
        rw [hf] at q
        intro z
        obtain ⟨p', xs, kvs, w1, w2, w3, w4, w5, w6⟩ := q z
        have hne : p' ≠ p := fun z => by subst z; rw [g1] at w3; exact g4.nx w3
        exact ⟨p', xs, kvs, w1, w2, by rw [upd_ne hne]; exact w3, w4, w5, w6⟩
  · have h3 : gv Γ j ≠ none := by
      by_cases hj : i = j
      · subst hj; exact he
      · unfold gv at q3 ⊢; rw [getD_set_ne hj] at q3; exact q3
    have h4' : gv Γ k ≠ none := by
      by_cases hk : i = k
      · subst hk; exact he
      · unfold gv at q4 ⊢; rw [getD_set_ne hk] at q4; exact q4
    exact r.sep j k hjk q1 q2 h3 h4'
theorem StRep.weak {Γ' : Ev} (r : StRep K A B H O σ Γ) (hl : Γ'.length = Γ.length) (h : ∀ j, gv Γ' j = none ∨ gv Γ' j = gv Γ j) : StRep K A B H O σ Γ' := by
  have h' : ∀ j, gv Γ' j ≠ none → gv Γ j ≠ none := fun j n => by
    rcases h j with z | z
    · exact absurd z n
    · rw [← z]; exact n
  refine ⟨r.a, r.b, hl.trans r.len, fun j d e => ?_, fun j k hjk q1 q2 q3 q4 => r.sep j k hjk q1 q2 (h' j q3) (h' k q4)⟩
  rcases h j with z | z
  · rw [z] at e; cases e
  · rw [z] at e; exact r.slot j d e
end
noncomputable def clr (l : List Nat) (Γ : Ev) : Ev := l.foldl (fun Γ i => Γ.set i none) Γ
theorem clr_ok : ∀ (l : List Nat) (Γ : Ev), (clr l Γ).length = Γ.length ∧ ∀ j, gv (clr l Γ) j = none ∨ gv (clr l Γ) j = gv Γ j
  | [], Γ => ⟨rfl, fun _ => .inr rfl⟩
  | i :: l, Γ => by
    obtain ⟨h1, h2⟩ := clr_ok l (Γ.set i none)
    refine ⟨h1.trans (List.length_set ..), fun j => ?_⟩
    rcases h2 j with z | z
    · exact .inl z
    · by_cases hj : i = j
      · subst hj
        left
        show gv (clr l (Γ.set i none)) i = none
        rw [z]
        unfold gv
        rw [List.getD_eq_getElem?_getD]
        by_cases hi : i < Γ.length
        · rw [List.getElem?_set_self hi]; rfl
        · rw [List.getElem?_eq_none (by rw [List.length_set]; omega)]; rfl
      · right
        show gv (clr l (Γ.set i none)) j = gv Γ j
        rw [z]
        unfold gv
        exact getD_set_ne hj
theorem StRep.clr {K : PySem.W.Frag} {A B H : Hp} {O : List Fl} {σ : L2.St} {Γ : Ev} (r : StRep K A B H O σ Γ) (l : List Nat) : StRep K A B H O σ (L3.clr l Γ) := r.weak (clr_ok l Γ).1 (clr_ok l Γ).2
inductive Rm where
  | f | t | m (p : Addr)
noncomputable def RetV (K : PySem.W.Frag) (rm : Rm) (B A' H' : Hp) (d : PyData) (v : V) : Prop := match rm with
  | .f => Rp K A' d v
  | .t => FreshV K B A' H' d v
  | .m p => ∃ d1 dm o, d = .tuple [d1, dm] ∧ Rp K A' d1 v ∧ H' p = some o ∧ A' p = none ∧ OwnO K A' dm o
noncomputable def OutOk (K : PySem.W.Frag) (rm : Rm) (Ol O' : List Fl) (A B : Hp) (D : Ends) : Out → Prop
  | .nx Γ' => ∀ σ' A' H', StRep K A' B H' O' σ' Γ' → Same A A' → New A A' B → D.nx σ' H'
  | .bk Γ' => ∀ σ' A' H', StRep K A' B H' Ol σ' Γ' → Same A A' → New A A' B → D.bk σ' H'
  | .ct Γ' => ∀ σ' A' H', StRep K A' B H' Ol σ' Γ' → Same A A' → New A A' B → D.ct σ' H'
  | .rt d => ∀ v A' H', Same A' H' → Same B H' → Same A A' → New A A' B → RetV K rm B A' H' d v → D.rt v H'
noncomputable def tS (K : PySem.W.Frag) (rm : Rm) (Ol O O' : List Fl) (m : MS) : TS := fun D σ H => ∃ A B Γ o, StRep K A B H O σ Γ ∧ m Γ = .ok o ∧ OutOk K rm Ol O' A B D o
section
variable {K : PySem.W.Frag} {rm : Rm} {Ol O O' : List Fl} {A B A1 H H1 : Hp} {D : Ends} {o : Out}
theorem OutOk.sub (sa : Same A A1) (nw : New A A1 B) (h : OutOk K rm Ol O' A B D o) : OutOk K rm Ol O' A1 B D o := by
  cases o with
  | nx Γ => exact fun σ' A' H' r s n => h σ' A' H' r (sa.trans s) (nw.trans n)
  | bk Γ => exact fun σ' A' H' r s n => h σ' A' H' r (sa.trans s) (nw.trans n)
  | ct Γ => exact fun σ' A' H' r s n => h σ' A' H' r (sa.trans s) (nw.trans n)
  | rt d => exact fun v A' H' s1 s2 s n => h v A' H' s1 s2 (sa.trans s) (nw.trans n)
theorem Grow.nB (g : Grow A H A1 H1) (b : Same B H) : New A A1 B := g.nw.mono b
end
noncomputable def sNil : MS := fun Γ => .ok (.nx Γ)
noncomputable def sSeq (a b : MS) : MS := fun Γ => (a Γ).bind fun o => match o with
  | .nx Γ' => b Γ'
  | .rt d => .ok (.rt d)
  | .bk Γ' => .ok (.bk Γ')
  | .ct Γ' => .ok (.ct Γ')
noncomputable def sSet (i : Nat) (m : ME) : MS := fun Γ => (m Γ).bind fun d => gd (i < Γ.length) (.ok (.nx (Γ.set i (some d))))
noncomputable def sIf (c : ME) (a b : MS) : MS := fun Γ => (c Γ).bind fun x => match x with
  | .bool true => a Γ
  | .bool false => b Γ
  | _ => .bad
noncomputable def sRet (m : ME) : MS := fun Γ => (m Γ).bind fun d => .ok (.rt d)
noncomputable def sBad : MS := fun _ => .bad
section
variable {X : Cx} {K : PySem.W.Frag} {rm : Rm} {Ol O O1 O2 O' : List Fl} {m : ME} {m1 m2 : MS} {e c : Expr} {st : Stmt} {rest a b : List Stmt} {pos : Pos}
theorem ss_nil : QSs X [] (tS K rm Ol O O sNil) := QSs.imp pss_nil fun D σ H hq__ => by
  obtain ⟨A, B, Γ, o, r, em, k⟩ := hq__
  cases em
  exact k σ A H r (Same.refl _) fun _ h _ => h
theorem ss_cons (h1 : QS X st (tS K rm Ol O O1 m1)) (h2 : QSs X rest (tS K rm Ol O1 O2 m2)) : QSs X (st :: rest) (tS K rm Ol O O2 (sSeq m1 m2)) := QSs.imp (pss_cons h1.h h2.h) fun D σ H hq__ => by
  obtain ⟨A, B, Γ, o, r, em, k⟩ := hq__
  obtain ⟨o1, e1, em⟩ := Res.bind_ok em
  cases o1 with
  | nx Γ1 => exact ⟨A, B, Γ, _, r, e1, fun σ' A' H' r' sa nw => ⟨A', B, Γ1, o, r', em, k.sub sa nw⟩⟩
  | rt d => cases em; exact ⟨A, B, Γ, _, r, e1, k⟩
  | bk d => cases em; exact ⟨A, B, Γ, _, r, e1, k⟩
  | ct d => cases em; exact ⟨A, B, Γ, _, r, e1, k⟩
theorem ss_one (h1 : QS X st (tS K rm Ol O O1 m1)) : QSs X [st] (tS K rm Ol O O1 m1) := ⟨pss_one h1.h⟩
theorem s1_frz (i : Nat) {O2 : List Fl} (h : QS X st (tS K rm Ol O2 O' m1)) (hO : O.set i .imm = O2 := by rfl) (hi : fl O i = .own := by rfl) (hl : i < O.length := by exact of_decide_eq_true rfl) : QS X st (tS K rm Ol O O' m1) := QS.imp (hO ▸ h.h) fun D σ H hq__ => by
  obtain ⟨A, B, Γ, o, r, em, k⟩ := hq__
  obtain ⟨A', sa, nw, r'⟩ := r.freeze hi hl
  exact ⟨A', B, Γ, o, r', em, k.sub sa nw⟩
theorem tAsg_set {te : TE} {i : Nat} (h : ∀ σ H Q, tE K O m σ H Q → te σ H Q) (hl : i < O.length) {D : Ends} {σ : L2.St} {H : Hp} (q : tS K rm Ol O (O.set i .imm) (sSet i m) D σ H) : tAsg te (gName i) D σ H := by
  obtain ⟨A, B, Γ, o, r, em, k⟩ := q
  obtain ⟨d, e1, em⟩ := Res.bind_ok em
  obtain ⟨hi, em⟩ := gd_ok em
  cases em
  refine h σ H _ ⟨A, B, Γ, d, r, e1, fun v A' H' g p => ?_⟩
  exact k _ A' H' ((r.grow g).set hi hl p) g.aa (g.nB r.b)
theorem tAsg_setF {te : TE} {i : Nat} (h : ∀ σ H Q, tF K O m σ H Q → te σ H Q) (hl : i < O.length) {D : Ends} {σ : L2.St} {H : Hp} (q : tS K rm Ol O (O.set i .own) (sSet i m) D σ H) : tAsg te (gName i) D σ H := by
  obtain ⟨A, B, Γ, o, r, em, k⟩ := q
  obtain ⟨d, e1, em⟩ := Res.bind_ok em
  obtain ⟨hi, em⟩ := gd_ok em
  cases em
  refine h σ H _ ⟨A, B, Γ, d, r, e1, fun v A' H' g p => ?_⟩
  obtain ⟨p, o, rfl, h0, h1, h2, h4⟩ := p
  exact k _ A' H' (r.fresh g hi hl h0 h1 h2 h4) g.aa (g.nB r.b)
theorem ss_set (i : Nat) {O2 : List Fl} {x : Str} {pos' : Pos} (hN : X.N.Nodup) (hi : X.N[i]? = some x) (hx : Loc X.env.scope x) (he : QE X e (tE K O m)) (hl : i < O.length := by exact of_decide_eq_true rfl) (hs : swapsWith e (some (.Name x pos')) pos.line X.env = pure false := by rfl)
    (hf : X.fn x = true ∨ X.env.scope.names.lookup x = some .local := by first | exact .inl rfl | exact .inr rfl | assumption) (hO : O.set i .imm = O2 := by rfl) : QS X (.Assign [.Name x pos'] e pos) (tS K rm Ol O O2 (sSet i m)) :=
  hO ▸ QS.imp (ps_set hN hi hx he.h hs hf) fun D σ H => tAsg_set (fun _ _ _ z => z) hl
theorem ss_setF (i : Nat) {O2 : List Fl} {x : Str} {pos' : Pos} (hN : X.N.Nodup) (hi : X.N[i]? = some x) (hx : Loc X.env.scope x) (he : QE X e (tF K O m)) (hl : i < O.length := by exact of_decide_eq_true rfl) (hs : swapsWith e (some (.Name x pos')) pos.line X.env = pure false := by rfl)
    (hf : X.fn x = true ∨ X.env.scope.names.lookup x = some .local := by first | exact .inl rfl | exact .inr rfl | assumption) (hO : O.set i .own = O2 := by rfl) : QS X (.Assign [.Name x pos'] e pos) (tS K rm Ol O O2 (sSet i m)) :=
  hO ▸ QS.imp (ps_set hN hi hx he.h hs hf) fun D σ H => tAsg_setF (fun _ _ _ z => z) hl
theorem ss_if (hc : QT X c (tT K O m)) (ha : QSs X a (tS K rm Ol O O' m1)) (hb : QSs X b (tS K rm Ol O O' m2)) : QS X (.If c a b pos) (tS K rm Ol O O' (sIf m m1 m2)) := QS.imp (ps_if hc.h ha.h hb.h) fun D σ H hq__ => by
  obtain ⟨A, B, Γ, o, r, em, k⟩ := hq__
  obtain ⟨d1, e1, em⟩ := Res.bind_ok em
  cases d1 with
  | bool bb =>
    refine ⟨A, B, Γ, bb, r, e1, fun A1 H1 g1 => ?_⟩
    cases bb with
    | true => exact iteT ⟨A1, B, Γ, o, r.grow g1, em, k.sub g1.aa (g1.nB r.b)⟩
    | false => exact iteF ⟨A1, B, Γ, o, r.grow g1, em, k.sub g1.aa (g1.nB r.b)⟩
  | _ => cases em
theorem ss_ret (he : QE X e (tE K O m)) : QS X (.Return (some e) pos) (tS K .f Ol O O' (sRet m)) := QS.imp (ps_ret he.h) fun D σ H hq__ => by
  obtain ⟨A, B, Γ, o, r, em, k⟩ := hq__
  obtain ⟨d1, e1, em⟩ := Res.bind_ok em
  cases em
  exact ⟨A, B, Γ, d1, r, e1, fun v A' H' g p => k v A' H' g.ah (r.b.trans g.hh) g.aa (g.nB r.b) p⟩
theorem ss_retF (he : QE X e (tF K O m)) : QS X (.Return (some e) pos) (tS K .t Ol O O' (sRet m)) := QS.imp (ps_ret he.h) fun D σ H hq__ => by
  obtain ⟨A, B, Γ, o, r, em, k⟩ := hq__
  obtain ⟨d1, e1, em⟩ := Res.bind_ok em
  cases em
  refine ⟨A, B, Γ, d1, r, e1, fun v A' H' g p => k v A' H' g.ah (r.b.trans g.hh) g.aa (g.nB r.b) ?_⟩
  obtain ⟨q, o, e, h1, h2⟩ := p
  exact ⟨q, o, e, r.b.free h1, h2⟩
theorem ss_retO (i : Nat) {x : Str} {p : Pos} (hi : fl O i = .own := by rfl) (hN : X.N[i]? = some x := by rfl) (hv : Vis X.env.scope x := by first | exact Or.inl rfl | exact Or.inr (Or.inl rfl) | exact Or.inr (Or.inr rfl)) (hd : (x == ("__debug__" : Str)) = false := by decide)
    (hcd : (x == ("__classdict__" : Str)) = false := by decide) : QS X (.Return (some (.Name x p)) pos) (tS K .t Ol O O' (sRet (eVar i))) := QS.imp (ps_ret (pe_var hN hv hd hcd)) fun D σ H hq__ => by
  obtain ⟨A, B, Γ, o, r, em, k⟩ := hq__
  obtain ⟨d1, e1, em⟩ := Res.bind_ok em
  cases em
  obtain ⟨v, e2, q⟩ := r.slot i d1 (eVar_ok e1)
  rw [hi] at q
  refine ⟨v, sv_get e2, k v A H r.a r.b (Same.refl _) (fun _ h _ => h) ?_⟩
  obtain ⟨p, o, e, h1, h2, h3, h4⟩ := q
  exact ⟨p, o, e, h3, h1, h2, h4⟩
theorem ss_bad : QS X st (tS K rm Ol O O' sBad) := QS.imp ps_never fun D σ H hq__ => by obtain ⟨A, B, Γ, o, r, em, k⟩ := hq__; cases em
end
noncomputable def spF (K : PySem.W.Frag) (fs : List Fl) (rm : Rm) (f : List PyData → Res PyData) : Sp := fun vs H Q _ => ∃ A ds d, Same A H ∧ ArgsOk K A H fs ds vs ∧ f ds = .ok d ∧ ∀ v A' H', Grow A H A' H' → RetV K rm H A' H' d v → Q v H'
theorem ArgsOk.length {K : PySem.W.Frag} {A H : Hp} : ∀ {fs : List Fl} {ds : List PyData} {vs : List V}, ArgsOk K A H fs ds vs → vs.length = fs.length ∧ ds.length = fs.length
  | [], ds, vs, h => by obtain ⟨rfl, rfl⟩ := h; exact ⟨rfl, rfl⟩
  | f :: fs, ds, vs, h => by
    obtain ⟨d, r, v, s, rfl, rfl, _, h⟩ := h
    have := h.length
    exact ⟨by rw [List.length_cons, List.length_cons, this.1], by rw [List.length_cons, List.length_cons, this.2]⟩
noncomputable def eCall (f : List PyData → Res PyData) (ms : List ME) : ME := fun Γ => (evs ms Γ).bind f
section
variable {X : Cx} {k : Nat} {x : Str} {ps : List Str} {fs : List Fl} {f : List PyData → Res PyData} {O : List Fl} {ms : List ME} {p pos : Pos} {e : Expr} {es : List Expr}
theorem se_call (F : Def X.prog X.w X.K X.mg X.base k x ps (spF X.K fs .f f)) (hr : Room k X.A) (hg : Gl X x) (ha : QA X (e :: es) (tAr X.K O fs ms)) (hdb : (x == ("__debug__" : Str)) = false := by decide)
    (he : noStar e = true := by rfl) (hpl : noStars es = true := by rfl) : QE X (.Call (.Name x p) (e :: es) [] pos) (tE X.K O (eCall f ms)) :=
  QE.imp (pe_def F hr hg ha.h hdb (star_cons he) (star_any hpl)) fun σ H Q hq__ => by
    obtain ⟨A, B, Γ, d, r, em, k⟩ := hq__
    obtain ⟨ds, e1, em⟩ := Res.bind_ok em
    refine ⟨A, B, Γ, ds, r, e1, fun vs A1 H1 g1 p1 => ?_⟩
    show spF X.K fs .f f (vs ++ []) H1 Q E0
    rw [List.append_nil]
    exact ⟨A1, ds, d, g1.ah, p1, em, fun v A' H' g p => k v A' H' (g1.trans g) p⟩
theorem sf_call (F : Def X.prog X.w X.K X.mg X.base k x ps (spF X.K fs .t f)) (hr : Room k X.A) (hg : Gl X x) (ha : QA X (e :: es) (tAr X.K O fs ms)) (hdb : (x == ("__debug__" : Str)) = false := by decide)
    (he : noStar e = true := by rfl) (hpl : noStars es = true := by rfl) : QE X (.Call (.Name x p) (e :: es) [] pos) (tF X.K O (eCall f ms)) :=
  QE.imp (pe_def F hr hg ha.h hdb (star_cons he) (star_any hpl)) fun σ H Q hq__ => by
    obtain ⟨A, B, Γ, d, r, em, k⟩ := hq__
    obtain ⟨ds, e1, em⟩ := Res.bind_ok em
    refine ⟨A, B, Γ, ds, r, e1, fun vs A1 H1 g1 p1 => ?_⟩
    show spF X.K fs .t f (vs ++ []) H1 Q E0
    rw [List.append_nil]
    refine ⟨A1, ds, d, g1.ah, p1, em, fun v A' H' g p => k v A' H' (g1.trans g) ?_⟩
    obtain ⟨q, o, e, h1, h2⟩ := p
    exact ⟨q, o, e, g1.hh.free h1, h2⟩
end
noncomputable def fnR (n : Nat) (m : MS) (ds : List PyData) : Res PyData := (m (ds.map some ++ List.replicate (n - ds.length) none)).bind fun o => match o with
  | .rt d => .ok d
  | _ => .bad
section
variable {P : Program} {w : World} {K : PySem.W.Frag} {mg : Str → Option Value} {base : Heap}
theorem start_rep {fs O : List Fl} {N : List Str} {A H : Hp} : ∀ {ds : List PyData} {vs : List V}, Same A H → ArgsOk K A H fs ds vs → (∀ i, i < fs.length → (fl O i = .imm ∧ fl fs i = .imm) ∨ fl O i = .bor) → fs.length ≤ N.length →
    StRep K A H H O (L2.start N vs) (ds.map some ++ List.replicate (N.length - ds.length) none) := by
  intro ds vs ha h hO hn
  have hl := h.length
  have one : ∀ (fs : List Fl) (ds : List PyData) (vs : List V), ArgsOk K A H fs ds vs → ∀ i d, ds[i]? = some d → ∃ v, vs[i]? = some v ∧ ArgV K A H (fl fs i) d v := by
    intro fs
    induction fs with
    | nil => intro ds vs h i d e; obtain ⟨rfl, rfl⟩ := h; simp at e
    | cons f fs ih =>
      intro ds vs h i d e
      obtain ⟨d0, r, v, s, rfl, rfl, h1, h⟩ := h
      match i with
      | 0 => simp at e; subst e; exact ⟨v, rfl, h1⟩
      | i + 1 =>
        obtain ⟨v', h2, h3⟩ := ih r s h i d (by simpa using e)
        exact ⟨v', by simpa using h2, h3⟩
  have gvN : ∀ i, gv (ds.map some ++ List.replicate (N.length - ds.length) none) i = ds[i]? := fun i => by
    unfold gv
    rw [List.getD_eq_getElem?_getD]
    rcases Nat.lt_or_ge i ds.length with h | h
    · rw [List.getElem?_append_left (by simpa using h), List.getElem?_map, List.getElem?_eq_getElem h]; rfl
    · rw [List.getElem?_append_right (by simpa using h), List.getElem?_replicate, List.getElem?_eq_none h]
      split <;> rfl
  have svN : ∀ i v, vs[i]? = some v → sv (L2.start N vs) i = some v := fun i v e => by
    unfold sv L2.start
    rw [List.getD_eq_getElem?_getD]
    have h : i < vs.length := (List.getElem?_eq_some_iff.mp e).1
    rw [List.getElem?_append_left (by simpa using h), List.getElem?_map, e]; rfl
  refine ⟨ha, Same.refl _, ?_, fun i d e => ?_, fun i j hij h1 h2 h3 h4 => ?_⟩
  · unfold L2.start
    rw [List.length_append, List.length_append, List.length_map, List.length_map, List.length_replicate, List.length_replicate]
    omega
  · rw [gvN] at e
    obtain ⟨v, e1, q⟩ := one fs ds vs h i d e
    refine ⟨v, svN i v e1, ?_⟩
    have hi : i < fs.length := by rw [← hl.2]; exact (List.getElem?_eq_some_iff.mp e).1
    rcases hO i hi with ⟨z, z'⟩ | z
    · rw [z]; rw [z'] at q; exact q
    · rw [z]
      cases hf : fl fs i with
      | imm => rw [hf] at q; exact .inl q
      | bor => rw [hf] at q; exact q
      | own => rw [hf] at q; exact q
      | fix p0 => rw [hf] at q; exact q
      | exc C => rw [hf] at q; exact q
      | nst b => rw [hf] at q; exact q
      | kit => rw [hf] at q; exact q
  · rw [gvN] at h3
    have hi : i < fs.length := by
      rw [← hl.2]
      rcases Nat.lt_or_ge i ds.length with h | h
      · exact h
      · exact absurd (List.getElem?_eq_none h) h3
    rcases hO i hi with ⟨z, _⟩ | z <;> rw [z] at h1 <;> cases h1
theorem def_ok {x : Str} {st : Stmt} {N ps : List Str} {k : Nat} {fs O O' Ol : List Fl} {rm : Rm} {m : MS} (F : At K mg x st ps) (S : FnScope N ps (defScope st)) (hf : fs.length = ps.length) (hn : ps.length ≤ N.length)
    (hO : ∀ i, i < fs.length → (fl O i = .imm ∧ fl fs i = .imm) ∨ fl O i = .bor)
    (hbody : ∀ (f : Addr) (cdv : Value) (A : Around) (outer : List Env) (s : Shared) (H : Hp) (E : XK), Room k (A.deeper (envOfC x (defScope st) s.heap.objs.size f cdv)) →
      QSs (cxOf CX0 P w K mg base N x (defScope st) f cdv A outer s H E).nox (defBody st) (tS K rm Ol O O' m)) : Def P w K mg base (k + 1) x ps (spF K fs rm (fnR N.length m)) := by
  refine F.ok S (fun vs H Q E h => ?_) (fun f cdv A outer s H vs Q E hr h => ?_)
  · obtain ⟨A, ds, d, _, h, _⟩ := h
    rw [h.length.1, hf]
  · obtain ⟨A', ds, d, ha, h, em, q⟩ := h
    obtain ⟨o, e1, em⟩ := Res.bind_ok em
    cases o with
    | rt d' =>
      cases em
      refine ⟨_, (hbody f cdv A outer s H E hr).h, A', H, _, _, start_rep ha h hO (by omega), e1, fun v A2 H2 s1 s2 sa nw rv => q v A2 H2 ⟨sa, s2, s1, nw⟩ rv⟩
    | _ => cases em
end
end L3
namespace L3
open PySem PySem.Spec PyProof.Rows L2
noncomputable abbrev MI := Ev → Res (List PyData)
structure ItOk (K : PySem.W.Frag) (A B : Hp) (J : It) (xs : List PyData) : Prop where
  go : ∀ i H, Same A H → Same B H → i < xs.length → J.go i H
  stop : ∀ H, Same A H → Same B H → J.stop xs.length H
  yld : ∀ i A2 H x H', Same A A2 → Same A2 H → Same B H → i < xs.length → J.yld i H x H' → ∃ A' d, xs[i]? = some d ∧ Grow A2 H A' H' ∧ Rp K A' d x
noncomputable def tI (K : PySem.W.Frag) (O : List Fl) (it : MI) : TI := fun σ H R => ∃ A B Γ xs, StRep K A B H O σ Γ ∧ it Γ = .ok xs ∧ ∀ J A1 H1, Grow A H A1 H1 → ItOk K A1 B J xs → R J H1
noncomputable def tIc (K : PySem.W.Frag) (O : List Fl) (it : MI) : TI := fun σ H R => ∃ A B Γ xs, StRep K A B H O σ Γ ∧ it Γ = .ok xs ∧ ∀ J A1 H1, Grow A H A1 H1 → ItOk K A1 H1 J xs → R J H1
noncomputable def tQ (K : PySem.W.Frag) (O : List Fl) (m : ME) : TE := fun σ H Q => ∃ A B Γ d, StRep K A B H O σ Γ ∧ m Γ = .ok d ∧ ∀ v A' H', Grow A H A' H' → Pk K A' B d v → Q v H'
section
variable {X : Cx} {K : PySem.W.Frag} {O : List Fl} {m : ME} {e : Expr} {pos : Pos}
theorem sq (h : QE X e (tE K O m)) : QE X e (tQ K O m) := QE.imp h.h fun σ H Q hq__ => by obtain ⟨A, B, Γ, d, r, em, k⟩ := hq__; exact ⟨A, B, Γ, d, r, em, fun v A' H' g p => k v A' H' g (.inl p)⟩
theorem sq_var (i : Nat) {x : Str} (hi : isO (fl O i) = false := by rfl) (hN : X.N[i]? = some x := by rfl) (hv : Vis X.env.scope x := by first | exact Or.inl rfl | exact Or.inr (Or.inl rfl) | exact Or.inr (Or.inr rfl)) (hd : (x == ("__debug__" : Str)) = false := by decide)
    (hcd : (x == ("__classdict__" : Str)) = false := by decide) (hx : isX (fl O i) = false := by rfl) : QE X (.Name x pos) (tQ K O (eVar i)) := QE.imp (pe_var hN hv hd hcd) fun σ H Q hq__ => by
  obtain ⟨A, B, Γ, d, r, em, k⟩ := hq__
  obtain ⟨v, e1, q⟩ := r.slot i d (eVar_ok em)
  refine ⟨v, sv_get e1, k v A H (Grow.refl r.a) ?_⟩
  cases hf : fl O i with
  | imm => rw [hf] at q; exact .inl q
  | bor => rw [hf] at q; exact q
  | own => rw [hf] at hi; cases hi
  | fix p0 => rw [hf] at hi; cases hi
  | exc C => rw [hf] at hx; cases hx
  | nst b => rw [hf] at hx; cases hx
  | kit => rw [hf] at hx; cases hx
end
theorem Pk.seqL {K : PySem.W.Frag} {A B H : Hp} {ds : List PyData} {v : V} (h : Pk K A B (.list ds) v) : ∃ p vs, v = .ref p ∧ RpAll K A ds vs ∧ ∀ H, Same A H → Same B H → SqL K H p vs := by
  rcases h with h | ⟨p, vs, ds', e1, e2, h1, h2⟩ | ⟨_, _, _, _, e2, _⟩
  · obtain ⟨a, vs, e, h1, h2⟩ := Rp.list.mp h
    exact ⟨a, vs, e, h2, fun H s _ => s.seq h1⟩
  · cases e2
    exact ⟨p, vs, e1, h2, fun H _ s => s.seq h1⟩
  · cases e2
theorem Pk.seqT {K : PySem.W.Frag} {A B H : Hp} {ds : List PyData} {v : V} (h : Pk K A B (.tuple ds) v) : ∃ p vs, v = .ref p ∧ RpAll K A ds vs ∧ ∀ H, Same A H → SqT K H p vs := by
  obtain ⟨a, vs, e, h1, h2⟩ := Rp.tuple.mp (h.nolist (fun _ z => nomatch z) (fun _ z => nomatch z))
  exact ⟨a, vs, e, h2, fun H s => s.seqT h1⟩
section
variable {K : PySem.W.Frag} {A B : Hp} {ds : List PyData} {vs : List V} {p : Addr}
theorem it_list (hr : RpAll K A ds vs) (hq : ∀ H, Same A H → Same B H → SqL K H p vs) : ItOk K A B (Itl K p) ds := by
  have hl := hr.length
  refine ⟨fun i H s1 s2 hi => ?_, fun H s1 s2 => ⟨vs, hq H s1 s2, by omega⟩, fun i A2 H x H' sa s1 s2 hi y => ?_⟩
  · exact ⟨vs, vs[i]'(by omega), hq H s1 s2, List.getElem?_eq_getElem _⟩
  · obtain ⟨rfl, y⟩ := y
    have e := y vs (hq H' (sa.trans s1) s2)
    obtain ⟨d, e1, q⟩ := hr.get e
    exact ⟨A2, d, e1, Grow.refl s1, Rp.mono sa d q⟩
theorem it_tup (hr : RpAll K A ds vs) (hq : ∀ H, Same A H → SqT K H p vs) : ItOk K A B (Itt K p) ds := by
  have hl := hr.length
  refine ⟨fun i H s1 s2 hi => ?_, fun H s1 s2 => ⟨vs, hq H s1, by omega⟩, fun i A2 H x H' sa s1 s2 hi y => ?_⟩
  · exact ⟨vs, vs[i]'(by omega), hq H s1, List.getElem?_eq_getElem _⟩
  · obtain ⟨rfl, y⟩ := y
    have e := y vs (hq H' (sa.trans s1))
    obtain ⟨d, e1, q⟩ := hr.get e
    exact ⟨A2, d, e1, Grow.refl s1, Rp.mono sa d q⟩
theorem it_range (lo : Int) (n : Nat) : ItOk K A B (Itr lo n) ((List.range n).map fun i => PyData.int (lo + (i : Nat))) := by
  have hl : ((List.range n).map fun i => PyData.int (lo + (i : Nat))).length = n := by rw [List.length_map, List.length_range]
  refine ⟨fun i H _ _ hi => (by rw [hl] at hi; exact hi), fun H _ _ => (by rw [hl]; exact Nat.le_refl _), fun i A2 H x H' sa s1 s2 hi y => ?_⟩
  obtain ⟨rfl, rfl⟩ := y
  rw [hl] at hi
  exact ⟨A2, .int (lo + (i : Nat)), by rw [List.getElem?_map, List.getElem?_range hi]; rfl, Grow.refl s1, Rp.int.mpr rfl⟩
noncomputable def enumL (ds : List PyData) : List PyData := (List.range ds.length).map fun i => PyData.tuple [.int (i : Nat), ds.getD i .none]
theorem it_enum (hr : RpAll K A ds vs) (hq : ∀ H, Same A H → Same B H → SqL K H p vs) : ItOk K A B (Ite K p) (enumL ds) := by
  have hl := hr.length
  have he : (enumL ds).length = vs.length := by unfold enumL; rw [List.length_map, List.length_range, hl]
  refine ⟨fun i H s1 s2 hi => ?_, fun H s1 s2 => ⟨vs, hq H s1 s2, by omega⟩, fun i A2 H x H' sa s1 s2 hi y => ?_⟩
  · exact ⟨vs, vs[i]'(by omega), hq H s1 s2, List.getElem?_eq_getElem _⟩
  · obtain ⟨q, v, hq0, rfl, rfl, y⟩ := y
    have e := y vs (hq H (sa.trans s1) s2)
    obtain ⟨d, e1, rd⟩ := hr.get e
    have g := Grow.new (o := .tup [.int (i : Nat), v]) s1 hq0
    refine ⟨_, .tuple [.int (i : Nat), d], ?_, g, Rp.tuple.mpr ⟨q, _, rfl, SqT.of upd_same, RpAll.cons.mpr ⟨_, _, rfl, Rp.int.mpr rfl, RpAll.one (Rp.mono (sa.trans g.aa) d rd)⟩⟩⟩
    unfold enumL
    rw [List.getElem?_map, List.getElem?_range (by omega)]
    show some (PyData.tuple [PyData.int (i : Nat), ds.getD i .none]) = _
    rw [List.getD_eq_getElem?_getD, e1]
    rfl
theorem it_enumT (hr : RpAll K A ds vs) (hq : ∀ H, Same A H → SqT K H p vs) : ItOk K A B (IteT K p) (enumL ds) := by
  have hl := hr.length
  have he : (enumL ds).length = vs.length := by unfold enumL; rw [List.length_map, List.length_range, hl]
  refine ⟨fun i H s1 s2 hi => ?_, fun H s1 s2 => ⟨vs, hq H s1, by omega⟩, fun i A2 H x H' sa s1 s2 hi y => ?_⟩
  · exact ⟨vs, vs[i]'(by omega), hq H s1, List.getElem?_eq_getElem _⟩
  · obtain ⟨q, v, hq0, rfl, rfl, y⟩ := y
    have e := y vs (hq H (sa.trans s1))
    obtain ⟨d, e1, rd⟩ := hr.get e
    have g := Grow.new (o := .tup [.int (i : Nat), v]) s1 hq0
    refine ⟨_, .tuple [.int (i : Nat), d], ?_, g, Rp.tuple.mpr ⟨q, _, rfl, SqT.of upd_same, RpAll.cons.mpr ⟨_, _, rfl, Rp.int.mpr rfl, RpAll.one (Rp.mono (sa.trans g.aa) d rd)⟩⟩⟩
    unfold enumL
    rw [List.getElem?_map, List.getElem?_range (by omega)]
    show some (PyData.tuple [PyData.int (i : Nat), ds.getD i .none]) = _
    rw [List.getD_eq_getElem?_getD, e1]
    rfl
end
noncomputable def itL (m : ME) : MI := fun Γ => (m Γ).bind fun d => match d with
  | .list ds => .ok ds
  | .tuple ds => .ok ds
  | _ => .bad
noncomputable def itR1 (m : ME) : MI := fun Γ => (m Γ).bind fun d => match d with
  | .int j => gd (-(2 ^ 62) ≤ j ∧ j < 2 ^ 62) (.ok ((List.range j.toNat).map fun i => PyData.int (0 + (i : Nat))))
  | _ => .bad
noncomputable def itE (m : ME) : MI := fun Γ => (m Γ).bind fun d => match d with
  | .list ds => .ok (enumL ds)
  | .tuple ds => .ok (enumL ds)
  | _ => .bad
section
variable {X : Cx} {O : List Fl} {m m' : ME} {e a b tg : Expr} {pos p : Pos}
noncomputable def iSeq (K : PySem.W.Frag) (tl : TE) : TI := fun σ H R => tl σ H fun x H1 => ∃ a, x = .ref a ∧ (((∃ xs, SqL K H1 a xs) ∧ R (Itl K a) H1) ∨ ((∃ xs, SqT K H1 a xs) ∧ R (Itt K a) H1))
theorem pi_seq {l : Expr} {tl : TE} (hl : PE X l tl) : PI X tg l (iSeq X.K tl) := by
  intro pins s σ H R I h
  refine thn (hl pins s σ H _ I h) fun v s1 hq__ => ?_
  obtain ⟨x, H1, I1, r1, q1⟩ := hq__
  obtain ⟨a, e, q1⟩ := q1
  subst e
  cases r1
  rcases q1 with ⟨⟨xs, hq⟩, q⟩ | ⟨⟨xs, hq⟩, q⟩
  · obtain ⟨its, rv, p, hz⟩ := I1.list hq
    refine wpAny_pyIter_list p.isList ?_
    refine ⟨s1.heap.objs.size, [s1.heap.objs.size], _, _, H1, rfl, I1.kept (t' := s1.toks) fun b o e => Heap.get?_push_of_some _ e, turn_list a _, ⟨_, Heap.get?_push_size _ rfl, rfl, rfl⟩, fun b hb => ?_, q⟩
    have e : b = s1.heap.objs.size := by simpa using hb
    subst e
    exact I1.fpOk (Nat.le_refl _) (I1.hok.fresh (Nat.le_refl _))
  · obtain ⟨its, rv, p, hz⟩ := I1.tuple hq
    refine wpAny_pyIter_tuple (show s1.heap.IsTuple a its.toArray from p) ?_
    refine ⟨s1.heap.objs.size, [s1.heap.objs.size], _, _, H1, rfl, I1.kept (t' := s1.toks) fun b o e => Heap.get?_push_of_some _ e, turn_tuple a _, ⟨_, Heap.get?_push_size _ rfl, rfl, rfl⟩, fun b hb => ?_, q⟩
    have e : b = s1.heap.objs.size := by simpa using hb
    subst e
    exact I1.fpOk (Nat.le_refl _) (I1.hok.fresh (Nat.le_refl _))
theorem iSeq_of {K : PySem.W.Frag} {A B H1 : Hp} {d : PyData} {v : V} {R : It → Hp → Prop} {xs : List PyData} (sa : Same A H1) (sb : Same B H1) (p : Pk K A B d v) (e : (match d with | .list ds => Res.ok ds | .tuple ds => .ok ds | _ => .bad) = .ok xs)
    (k : ∀ J, ItOk K A B J xs → R J H1) : ∃ a, v = .ref a ∧ (((∃ xs, SqL K H1 a xs) ∧ R (Itl K a) H1) ∨ ((∃ xs, SqT K H1 a xs) ∧ R (Itt K a) H1)) := by
  cases d with
  | list ds =>
    cases e
    obtain ⟨q, vs, rfl, h2, h1⟩ := p.seqL (H := H1)
    exact ⟨q, rfl, .inl ⟨⟨vs, h1 H1 sa sb⟩, k _ (it_list h2 h1)⟩⟩
  | tuple ds =>
    cases e
    obtain ⟨q, vs, rfl, h2, h1⟩ := p.seqT (H := H1)
    exact ⟨q, rfl, .inr ⟨⟨vs, h1 H1 sa⟩, k _ (it_tup h2 h1)⟩⟩
  | _ => cases e
theorem si_seq (h : QE X e (tQ X.K O m)) : QI X tg e (tI X.K O (itL m)) := QI.imp (pi_seq h.h) fun σ H R hq__ => by
  obtain ⟨A, B, Γ, xs, r, em, k⟩ := hq__
  obtain ⟨d, e1, em⟩ := Res.bind_ok em
  refine ⟨A, B, Γ, d, r, e1, fun v A1 H1 g1 p1 => iSeq_of g1.ah (r.b.trans g1.hh) p1 em fun J hj => k J A1 H1 g1 hj⟩
theorem sc_seq (h : QE X e (tP X.K O m)) : QI X tg e (tIc X.K O (itL m)) := QI.imp (pi_seq h.h) fun σ H R hq__ => by
  obtain ⟨A, B, Γ, xs, r, em, k⟩ := hq__
  obtain ⟨d, e1, em⟩ := Res.bind_ok em
  refine ⟨A, B, Γ, d, r, e1, fun v A1 H1 g1 p1 => iSeq_of g1.ah (Same.refl _) p1 em fun J hj => k J A1 H1 g1 hj⟩
theorem si_range1 (hg : Gl X "range") (hm : X.mg "range" = none) (ha : QE X a (tP X.K O m)) (hs : starEach [a] X.env = [(false, eval a X.env)] := by rfl) : QI X tg (.Call (.Name "range" p) [a] [] pos) (tI X.K O (itR1 m)) :=
  QI.imp (pi_range1 hg hm (pa_cons ha.h pa_nil hs) hs) fun σ H R hq__ => by
    obtain ⟨A, B, Γ, xs, r, em, k⟩ := hq__
    obtain ⟨d, e1, em⟩ := Res.bind_ok em
    cases d with
    | int j =>
      obtain ⟨hc, em⟩ := gd_ok em
      cases em
      exact ⟨A, B, Γ, _, r, e1, fun v A1 H1 g1 p1 => ⟨j, by rw [p1.int], hc.1, hc.2, k _ A1 H1 g1 (it_range 0 _)⟩⟩
    | _ => cases em
theorem sc_range1 (hg : Gl X "range") (hm : X.mg "range" = none) (ha : QE X a (tP X.K O m)) (hs : starEach [a] X.env = [(false, eval a X.env)] := by rfl) : QI X tg (.Call (.Name "range" p) [a] [] pos) (tIc X.K O (itR1 m)) :=
  QI.imp (pi_range1 hg hm (pa_cons ha.h pa_nil hs) hs) fun σ H R hq__ => by
    obtain ⟨A, B, Γ, xs, r, em, k⟩ := hq__
    obtain ⟨d, e1, em⟩ := Res.bind_ok em
    cases d with
    | int j =>
      obtain ⟨hc, em⟩ := gd_ok em
      cases em
      exact ⟨A, B, Γ, _, r, e1, fun v A1 H1 g1 p1 => ⟨j, by rw [p1.int], hc.1, hc.2, k _ A1 H1 g1 (it_range 0 _)⟩⟩
    | _ => cases em
variable {elts : List Expr} {tpos : Pos}
theorem si_enum {x1} (hg : Gl X "enumerate") (hm : X.mg "enumerate" = none) (ha : QE X a (tQ X.K O m)) (hs : starEach [a] X.env = [(false, eval a X.env)] := by rfl) : QI X (.Tuple elts x1 tpos) (.Call (.Name "enumerate" p) [a] [] pos) (tI X.K O (itE m)) :=
  QI.imp (pi_enum2 hg hm (pa_cons ha.h pa_nil hs) hs) fun σ H R hq__ => by
    obtain ⟨A, B, Γ, xs, r, em, k⟩ := hq__
    obtain ⟨d, e1, em⟩ := Res.bind_ok em
    cases d with
    | list ds =>
      cases em
      refine ⟨A, B, Γ, _, r, e1, fun v A1 H1 g1 p1 => ?_⟩
      obtain ⟨q, vs, rfl, h2, h1⟩ := p1.seqL (H := H1)
      exact ⟨q, vs, rfl, .inl ⟨h1 H1 g1.ah (r.b.trans g1.hh), k _ A1 H1 g1 (it_enum h2 h1)⟩⟩
    | tuple ds =>
      cases em
      refine ⟨A, B, Γ, _, r, e1, fun v A1 H1 g1 p1 => ?_⟩
      obtain ⟨q, vs, rfl, h2, h1⟩ := p1.seqT (H := H1)
      exact ⟨q, vs, rfl, .inr ⟨h1 H1 g1.ah, k _ A1 H1 g1 (it_enumT h2 h1)⟩⟩
    | _ => cases em
theorem sc_enum {x1} (hg : Gl X "enumerate") (hm : X.mg "enumerate" = none) (ha : QE X a (tP X.K O m)) (hs : starEach [a] X.env = [(false, eval a X.env)] := by rfl) : QI X (.Tuple elts x1 tpos) (.Call (.Name "enumerate" p) [a] [] pos) (tIc X.K O (itE m)) :=
  QI.imp (pi_enum2 hg hm (pa_cons ha.h pa_nil hs) hs) fun σ H R hq__ => by
    obtain ⟨A, B, Γ, xs, r, em, k⟩ := hq__
    obtain ⟨d, e1, em⟩ := Res.bind_ok em
    cases d with
    | list ds =>
      cases em
      refine ⟨A, B, Γ, _, r, e1, fun v A1 H1 g1 p1 => ?_⟩
      obtain ⟨q, vs, rfl, h2, h1⟩ := p1.seqL (H := H1)
      exact ⟨q, vs, rfl, .inl ⟨h1 H1 g1.ah (Same.refl _), k _ A1 H1 g1 (it_enum h2 h1)⟩⟩
    | tuple ds =>
      cases em
      refine ⟨A, B, Γ, _, r, e1, fun v A1 H1 g1 p1 => ?_⟩
      obtain ⟨q, vs, rfl, h2, h1⟩ := p1.seqT (H := H1)
      exact ⟨q, vs, rfl, .inr ⟨h1 H1 g1.ah, k _ A1 H1 g1 (it_enumT h2 h1)⟩⟩
    | _ => cases em
end
noncomputable abbrev MG := PyData → Ev → Res Ev
noncomputable def gN (i : Nat) : MG := fun d Γ => gd (i < Γ.length) (.ok (Γ.set i (some d)))
noncomputable def gTs : List MG → List PyData → Ev → Res Ev
  | [], [], Γ => .ok Γ
  | g :: gs, d :: ds, Γ => (g d Γ).bind fun Γ' => gTs gs ds Γ'
  | _, _, _ => .bad
noncomputable def gT (gs : List MG) : MG := fun d Γ => match d with
  | .tuple ds => gTs gs ds Γ
  | _ => .bad
noncomputable def StayBut (is : List Nat) (σ σ' : L2.St) : Prop := σ'.length = σ.length ∧ ∀ j, j ∉ is → σ'[j]? = σ[j]?
theorem StayBut.trans {is js : List Nat} {σ σ' σ'' : L2.St} (h : StayBut is σ σ') (h' : StayBut js σ' σ'') : StayBut (is ++ js) σ σ'' :=
  ⟨h'.1.trans h.1, fun j hj => (h'.2 j fun z => hj (List.mem_append_right _ z)).trans (h.2 j fun z => hj (List.mem_append_left _ z))⟩
noncomputable def tG (K : PySem.W.Frag) (O O' : List Fl) (is : List Nat) (g : MG) : TG := fun v σ H Q => ∃ A B Γ d Γ', StRep K A B H O σ Γ ∧ Rp K A d v ∧ g d Γ = .ok Γ' ∧ ∀ σ', StRep K A B H O' σ' Γ' → StayBut is σ σ' → Q σ' H
noncomputable def tGs (K : PySem.W.Frag) (O O' : List Fl) (is : List Nat) (gs : List MG) : TGs := fun vs σ H Q => ∃ A B Γ ds Γ', StRep K A B H O σ Γ ∧ RpAll K A ds vs ∧ gTs gs ds Γ = .ok Γ' ∧ ∀ σ', StRep K A B H O' σ' Γ' → StayBut is σ σ' → Q σ' H
theorem PG.imp {X : Cx} {tg : Expr} {t t' : TG} (h : PG X tg t) (i : ∀ v σ H Q, t' v σ H Q → t v σ H Q) : PG X tg t' := fun pins s σ H v u Q I r q => h pins s σ H v u Q I r (i v σ H Q q)
theorem PGs.imp {X : Cx} {tg : List Expr} {t t' : TGs} (h : PGs X tg t) (i : ∀ v σ H Q, t' v σ H Q → t v σ H Q) : PGs X tg t' := fun pins s σ H v u Q I r q => h pins s σ H v u Q I r (i v σ H Q q)
theorem QG.imp {X : Cx} {tg : Expr} {t t' : TG} (h : PG X tg t) (i : ∀ v σ H Q, t' v σ H Q → t v σ H Q) : QG X tg t' := ⟨PG.imp h i⟩
theorem QGs.imp {X : Cx} {tg : List Expr} {t t' : TGs} (h : PGs X tg t) (i : ∀ v σ H Q, t' v σ H Q → t v σ H Q) : QGs X tg t' := ⟨PGs.imp h i⟩
theorem gTs_length : ∀ {gs : List MG} {ds : List PyData} {Γ Γ' : Ev}, gTs gs ds Γ = .ok Γ' → ds.length = gs.length
  | [], [], _, _, _ => rfl
  | g :: gs, d :: ds, Γ, Γ', h => by
    obtain ⟨Γ1, _, h⟩ := Res.bind_ok h
    rw [List.length_cons, List.length_cons, gTs_length h]
section
variable {X : Cx} {O O1 O2 O' : List Fl} {is js : List Nat} {g : MG} {gs : List MG} {e : Expr} {es : List Expr} {pos : Pos}
theorem sg_name (i : Nat) {O2 : List Fl} {x : Str} (hN : X.N.Nodup) (hi : X.N[i]? = some x) (hx : Loc X.env.scope x) (hl : i < O.length := by exact of_decide_eq_true rfl) (hf : X.fn x = true ∨ X.env.scope.names.lookup x = some .local := by first | exact .inl rfl | exact .inr rfl | assumption) (hO : O.set i .imm = O2 := by rfl) :
    QG X (.Name x pos) (tG X.K O O2 [i] (gN i)) := hO ▸ QG.imp (pg_name hN hi hx hf) fun v σ H Q hq__ => by
  obtain ⟨A, B, Γ, d, Γ', r, p, em, k⟩ := hq__
  obtain ⟨hi, em⟩ := gd_ok em
  cases em
  exact k _ (r.set hi hl p) ⟨List.length_set .., fun j hj => List.getElem?_set_ne (fun z => hj (by rw [z]; exact List.mem_cons_self))⟩
theorem sgs_nil : QGs X [] (tGs X.K O O [] []) := QGs.imp pgs_nil fun vs σ H Q hq__ => by
  obtain ⟨A, B, Γ, ds, Γ', r, p, em, k⟩ := hq__
  cases ds with
  | nil => cases em; exact ⟨RpAll.nil.mp p, k σ r ⟨rfl, fun _ _ => rfl⟩⟩
  | cons d ds => cases em
theorem sgs_cons (h1 : QG X e (tG X.K O O1 is g)) (h2 : QGs X es (tGs X.K O1 O2 js gs)) (hs : (assignEach (e :: es) X.env).map (·.2) = assign e X.env :: (assignEach es X.env).map (·.2) := by rfl) : QGs X (e :: es) (tGs X.K O O2 (is ++ js) (g :: gs)) := by
  refine QGs.imp (pgs_cons h1.h h2.h ?_) fun vs σ H Q ⟨A, B, Γ, ds, Γ', r, p, em, k⟩ => ?_
  · exact hs
  · cases ds with
    | nil => cases em
    | cons d ds =>
      obtain ⟨Γ1, e1, em⟩ := Res.bind_ok em
      obtain ⟨v, r', rfl, p1, p2⟩ := RpAll.cons.mp p
      exact ⟨v, r', rfl, A, B, Γ, d, Γ1, r, p1, e1, fun σ' r2 y => ⟨A, B, Γ1, ds, Γ', r2, p2, em, fun σ2 r3 y2 => k σ2 r3 (y.trans y2)⟩⟩
theorem sg_tup {k : Nat} {n : Nat} (hc : X.calm = true) (h : QGs X es (tGs X.K O O' is gs)) (hgs : gs.length = n := by rfl)
    (hn : (assignEach es X.env).length = n := by rfl) (hst : (assignEach es X.env).findIdx? (·.1) = none := by rfl) : QG X (.Tuple es k pos) (tG X.K O O' is (gT gs)) := QG.imp (pg_tup hc h.h hn hst) fun v σ H Q hq__ => by
  obtain ⟨A, B, Γ, d, Γ', r, p, em, k⟩ := hq__
  cases d with
  | tuple ds =>
    have p' := Rp.tuple.mp p
    obtain ⟨a, vs, rfl, h1, h2⟩ := p'
    exact ⟨a, vs, rfl, r.a.seqT h1, by rw [← h2.length, ← hgs]; exact gTs_length em, A, B, Γ, ds, Γ', r, h2, em, k⟩
  | _ => cases em
end
section
variable {X : Cx} {rm : Rm} {Ol O O' : List Fl} {is : List Nat} {g : MG} {m : ME} {tg e : Expr} {pos : Pos}
end
noncomputable def clrOk (O Oe : List Fl) (cl : List Nat) : Bool := Oe.length == O.length && (List.range O.length).all fun j => decide (fl Oe j = fl O j) || cl.contains j
theorem clrOk_of {O Oe : List Fl} {cl : List Nat} (h : clrOk O Oe cl = true) (j : Nat) : fl Oe j = fl O j ∨ j ∈ cl := by
  unfold clrOk at h
  rw [Bool.and_eq_true, List.all_eq_true] at h
  rcases Nat.lt_or_ge j O.length with hj | hj
  · have := h.2 j (List.mem_range.mpr hj)
    rw [Bool.or_eq_true] at this
    rcases this with z | z
    · exact .inl (of_decide_eq_true z)
    · exact .inr (by simpa using z)
  · left
    unfold fl
    rw [List.getD_eq_getElem?_getD, List.getD_eq_getElem?_getD, List.getElem?_eq_none hj, List.getElem?_eq_none (by rw [show Oe.length = O.length by simpa using h.1]; exact hj)]
theorem clr_none : ∀ (l : List Nat) (Γ : Ev) (j : Nat), j ∈ l → gv (clr l Γ) j = none
  | i :: l, Γ, j, h => by
    by_cases hj : j ∈ l
    · exact clr_none l (Γ.set i none) j hj
    · have e : j = i := by
        rcases List.mem_cons.mp h with z | z
        · exact z
        · exact absurd z hj
      subst e
      rcases (clr_ok l (Γ.set j none)).2 j with z | z
      · exact z
      · show gv (clr l (Γ.set j none)) j = none
        rw [z]
        unfold gv
        rw [List.getD_eq_getElem?_getD]
        by_cases hi : j < Γ.length
        · rw [List.getElem?_set_self hi]; rfl
        · rw [List.getElem?_eq_none (by rw [List.length_set]; omega)]; rfl
theorem StRep.clrO {K : PySem.W.Frag} {A B H : Hp} {O Oe : List Fl} {σ : L2.St} {Γ : Ev} {cl : List Nat} (hE : clrOk O Oe cl = true) (r : StRep K A B H Oe σ Γ) : StRep K A B H O σ (L3.clr cl Γ) := by
  have r' := r.clr cl
  have hf : ∀ j, gv (L3.clr cl Γ) j ≠ none → fl O j = fl Oe j := fun j n => by
    rcases clrOk_of hE j with z | z
    · exact z.symm
    · exact absurd (clr_none cl Γ j z) n
  refine ⟨r'.a, r'.b, r'.len, fun j d e => ?_, fun i j hij h1 h2 h3 h4 => r'.sep i j hij (by rw [← hf i h3]; exact h1) (by rw [← hf j h4]; exact h2) h3 h4⟩
  have := r'.slot j d e
  rw [hf j (by rw [e]; simp)]
  exact this
noncomputable def forR (g : MG) (cl : List Nat) (b : MS) : List PyData → Ev → Res Out
  | [], Γ => .ok (.nx Γ)
  | x :: xs, Γ => (g x Γ).bind fun Γ1 => (b Γ1).bind fun o => match o with
    | .nx Γ2 => forR g cl b xs (clr cl Γ2)
    | .ct Γ2 => forR g cl b xs (clr cl Γ2)
    | .bk Γ2 => .ok (.nx (clr cl Γ2))
    | .rt d => .ok (.rt d)
noncomputable def sFor (it : MI) (g : MG) (cl : List Nat) (b : MS) : MS := fun Γ => (it Γ).bind fun xs => forR g cl b xs Γ
section
variable {X : Cx} {rm : Rm} {Ol O : List Fl} {is : List Nat} {g : MG} {it : MI} {cl : List Nat} {mb : MS} {tg iter : Expr} {body : List Stmt} {pos : Pos}
theorem ss_for (hp : PassesOwn (model X.prog X.w) X.A X.env X.xe) (hc : X.calm = true) (cl : List Nat) {Oe : List Fl} (hi : QI X tg iter (tI X.K O it)) (hg : QG X tg (tG X.K O O is g)) (hb : QSs X body (tS X.K rm Oe O Oe mb)) (hE : clrOk O Oe cl = true)
    (hs : ∀ x, foldedSetIterable iter X.env x = pure x := by intro _; rfl) : QS X (.For tg iter body [] pos) (tS X.K rm Ol O O (sFor it g cl mb)) := by
  refine QS.imp (ps_for hp hc hi.h hg.h hb.h hs) fun D σ H hq__ => ?_
  obtain ⟨A, B, Γ, o, r, em, k⟩ := hq__
  obtain ⟨xs, e1, em⟩ := Res.bind_ok em
  refine ⟨A, B, Γ, xs, r, e1, fun J A1 H1 g1 hj => ?_⟩
  refine ⟨fun i n σ' H' => n = xs.length - i ∧ i ≤ xs.length ∧ ∃ A2 Γ2, StRep X.K A2 B H' O σ' Γ2 ∧ Same A A2 ∧ New A A2 B ∧ Same A1 A2 ∧ forR g cl mb (xs.drop i) Γ2 = .ok o, ⟨xs.length, rfl, Nat.zero_le _, A1, Γ, r.grow g1, g1.aa, g1.nB r.b, Same.refl _, em⟩, ?_⟩
  rintro i n σ' H' ⟨rfl, hi.h, A2, Γ2, r2, sa, nw, s12, e2⟩
  by_cases hlt : i < xs.length
  · refine .inr ⟨hj.go i H' (s12.trans r2.a) r2.b hlt, fun σ'' H'' => i + 1 ≤ xs.length ∧ ∃ A3 Γ3, StRep X.K A3 B H'' O σ'' Γ3 ∧ Same A A3 ∧ New A A3 B ∧ Same A1 A3 ∧ forR g cl mb (xs.drop (i + 1)) Γ3 = .ok o, ?_, fun x H3 y => ?_⟩
    · rintro σ'' H'' ⟨h1, A3, Γ3, h2⟩
      exact ⟨xs.length - (i + 1), by omega, rfl, h1, A3, Γ3, h2⟩
    · obtain ⟨A3, d, ed, g3, p3⟩ := hj.yld i A2 H' x H3 s12 r2.a r2.b hlt y
      have hd : xs.drop i = d :: xs.drop (i + 1) := by
        rw [List.drop_eq_getElem_cons hlt]
        rw [List.getElem?_eq_getElem hlt] at ed
        cases ed
        rfl
      rw [hd] at e2
      obtain ⟨Γ3, e3, e2⟩ := Res.bind_ok e2
      obtain ⟨o3, e4, e2⟩ := Res.bind_ok e2
      have sa3 := sa.trans g3.aa
      have nw3 : New A A3 B := nw.trans (g3.nB r2.b)
      refine ⟨A3, B, Γ2, d, Γ3, r2.grow g3, p3, e3, fun σ4 r4 _ => ⟨A3, B, Γ3, o3, r4, e4, ?_⟩⟩
      have sb : ∀ {D' : Ends}, OutOk X.K rm Ol O A B D' o → OutOk X.K rm Ol O A3 B D' o := fun h => h.sub sa3 nw3
      cases o3 with
      | nx Γ4 => exact fun σ5 A5 H5 r5 s5 n5 => ⟨hlt, A5, clr cl Γ4, r5.clrO hE, sa3.trans s5, nw3.trans n5, s12.trans (g3.aa.trans s5), e2⟩
      | ct Γ4 => exact fun σ5 A5 H5 r5 s5 n5 => ⟨hlt, A5, clr cl Γ4, r5.clrO hE, sa3.trans s5, nw3.trans n5, s12.trans (g3.aa.trans s5), e2⟩
      | bk Γ4 =>
        cases e2
        exact fun σ5 A5 H5 r5 s5 n5 => k σ5 A5 H5 (r5.clrO hE) (sa3.trans s5) (nw3.trans n5)
      | rt d' =>
        cases e2
        exact fun v A5 H5 q1 q2 s5 n5 rv => k v A5 H5 q1 q2 (sa3.trans s5) (nw3.trans n5) rv
  · have e : i = xs.length := by omega
    subst e
    rw [List.drop_length] at e2
    cases e2
    exact .inl ⟨hj.stop H' (s12.trans r2.a) r2.b, k σ' A2 H' r2 sa nw⟩
end
section
variable {X : Cx} {rm : Rm} {Ol O : List Fl} {cl : List Nat} {c : Expr} {mc : ME} {mb : MS} {body : List Stmt} {pos : Pos}
end
end L3
namespace L3
open PySem PySem.Spec PyProof.Rows L2
noncomputable def compR (g : MG) (c : ME) (e : ME) (Γ : Ev) : List PyData → Res (List PyData)
  | [] => .ok []
  | x :: xs => (g x Γ).bind fun Γ1 => (c Γ1).bind fun t => match t with
    | .bool true => (e Γ1).bind fun d => (compR g c e Γ xs).bind fun ds => .ok (d :: ds)
    | .bool false => compR g c e Γ xs
    | _ => .bad
noncomputable def blockE (nt : Nat) (ix : List Nat) (Γ : Ev) : Ev := List.replicate nt none ++ ix.map (gv Γ)
noncomputable def bfl : Fl → Fl
  | .own => .bor
  | .fix _ => .bor
  | .nst _ => .nst false
  | f => f
noncomputable def blockF (nt : Nat) (ix : List Nat) (O : List Fl) : List Fl := List.replicate nt .imm ++ ix.map fun i => bfl (fl O i)
noncomputable def eComp (it : MI) (g : MG) (c e : ME) (nt : Nat) (ix : List Nat) : ME := fun Γ => (it Γ).bind fun xs => gd (xs.length < sizeLine) ((compR g c e (blockE nt ix Γ) xs).bind fun ds => .ok (.list ds))
section
variable {K : PySem.W.Frag} {A B H : Hp} {O : List Fl} {σ : L2.St} {Γ : Ev}
theorem join_sv {σ : L2.St} {i : Nat} : (σ[i]?).join = sv σ i := by
  unfold sv
  rw [List.getD_eq_getElem?_getD]
  cases σ[i]? with
  | none => rfl
  | some o => rfl
theorem block_get {α : Type} {os : List α} {ix : List Nat} {f : Nat → α} {d : α} (j : Nat) : (os ++ ix.map f).getD j d = if j < os.length then os.getD j d else match ix[j - os.length]? with | some i => f i | none => d := by
  rw [List.getD_eq_getElem?_getD]
  split
  · rename_i h
    rw [List.getElem?_append_left h, List.getD_eq_getElem?_getD]
  · rename_i h
    rw [List.getElem?_append_right (by omega), List.getElem?_map]
    cases ix[j - os.length]? <;> rfl
theorem StRep.block (r : StRep K A B H O σ Γ) {os : List (Option V)} {nt : Nat} (ho : os.length = nt) (ix : List Nat) : StRep K A H H (blockF nt ix O) (os ++ ix.map fun i => (σ[i]?).join) (blockE nt ix Γ) := by
  have fN : ∀ j, isO (fl (blockF nt ix O) j) = false := fun j => by
    unfold fl blockF
    rw [block_get, List.length_replicate]
    split
    · rw [List.getD_eq_getElem?_getD, List.getElem?_replicate]
      split <;> rfl
    · cases ix[j - nt]? with
      | none => rfl
      | some i => simp only; unfold bfl; cases fl O i <;> rfl
  refine ⟨r.a, Same.refl _, ?_, fun j d e => ?_, fun i j _ h1 _ _ _ => absurd (h1.symm.trans (fN i)) Bool.noConfusion⟩
  · unfold blockE
    rw [List.length_append, List.length_append, List.length_replicate, List.length_map, List.length_map, ho]
  · unfold gv blockE at e
    rw [block_get, List.length_replicate] at e
    split at e
    · rw [List.getD_eq_getElem?_getD, List.getElem?_replicate] at e
      split at e <;> cases e
    · rename_i hj
      cases q : ix[j - nt]? with
      | none => rw [q] at e; cases e
      | some i =>
        rw [q] at e
        obtain ⟨v, e1, sl⟩ := r.slot i d e
        refine ⟨v, ?_, ?_⟩
        · unfold sv
          rw [block_get, if_neg (by omega), ho, q]
          show (σ[i]?).join = some v
          rw [join_sv]; exact e1
        · have ef : fl (blockF nt ix O) j = bfl (fl O i) := by
            unfold fl blockF
            rw [block_get, List.length_replicate, if_neg hj, q]
          rw [ef]
          cases hf : fl O i with
          | imm => rw [hf] at sl; exact sl
          | bor => rw [hf] at sl; exact Pk.mono (Same.refl _) r.b sl
          | own => rw [hf] at sl; exact Own.pk sl
          | fix p0 => rw [hf] at sl; exact Own.pk sl.2
          | exc C => rw [hf] at sl; exact sl
          | nst b => exact fun z => nomatch z
          | kit => rw [hf] at sl; exact sl
end
theorem PIfs.imp {X : Cx} {ifs : List Expr} {t t' : TT} (h : PIfs X ifs t) (i : ∀ σ H Q, t' σ H Q → t σ H Q) : PIfs X ifs t' := fun pins s σ H Q I q => h pins s σ H Q I (i σ H Q q)
theorem QIfs.imp {X : Cx} {ifs : List Expr} {t t' : TT} (h : PIfs X ifs t) (i : ∀ σ H Q, t' σ H Q → t σ H Q) : QIfs X ifs t' := ⟨PIfs.imp h i⟩
theorem sifs_nil {X : Cx} {O : List Fl} : QIfs X [] (tT X.K O (eC (.bool true))) := QIfs.imp pifs_nil fun σ H Q hq__ => by
  obtain ⟨A, B, Γ, b, r, em, k⟩ := hq__
  cases em; exact k A H (Grow.refl r.a)
theorem sifs_one {X : Cx} {O : List Fl} {c : Expr} {m : ME} (h : QT X c (tT X.K O m)) : QIfs X [c] (tT X.K O m) := ⟨pifs_one h.h⟩
section
variable {K : PySem.W.Frag} {O Ob : List Fl} {tn : List Str} {ix : List Nat} {it : MI} {g : MG} {mc me : ME}
theorem tComp_of (hOb : Ob = blockF tn.length ix O) {nt : Nat} (hnt : nt = tn.length) {O1 : List Fl} {is : List Nat} (his : ∀ j ∈ is, j < tn.length) {σ : L2.St} {H : Hp} {Q : VK} (h : tF K O (eComp it g mc me nt ix) σ H Q) : tComp tn ix (tIc K O it) (tG K Ob O1 is g) (tT K O1 mc) (tE K O1 me) σ H Q := by
  subst hOb hnt
  obtain ⟨A, B, Γ, d, r, em, k⟩ := h
  obtain ⟨xs, e1, em⟩ := Res.bind_ok em
  obtain ⟨hz, em⟩ := gd_ok em
  obtain ⟨ds, e2, em⟩ := Res.bind_ok em
  cases em
  refine ⟨A, B, Γ, xs, r, e1, fun J A1 H1 g1 hj D hD => ?_⟩
  have r1 := r.grow g1
  have hAD : A1 D = none := g1.ah.free hD
  refine ⟨fun i n σb acc H2 => n = xs.length - i ∧ i ≤ xs.length ∧ acc.length ≤ i ∧ (∃ os : List (Option V), os.length = tn.length ∧ σb = os ++ ix.map fun i => (σ[i]?).join) ∧ ∃ A2, Same A1 A2 ∧ New A1 A2 H1 ∧ Same A2 H2 ∧ Same H1 H2 ∧ A2 D = none ∧ H2 D = some (.lst acc) ∧
    ∃ ds1 ds2, ds = ds1 ++ ds2 ∧ RpAll K A2 ds1 acc ∧ compR g mc me (blockE tn.length ix Γ) (xs.drop i) = .ok ds2, ⟨xs.length, rfl, Nat.zero_le _, Nat.zero_le _, ⟨_, List.length_replicate, rfl⟩, A1, Same.refl _, fun _ h _ => h, g1.ah.trans (Same.new hD _), Same.new hD _, hAD, upd_same, [], ds, rfl, RpAll.nil.mpr rfl, e2⟩, ?_⟩
  rintro i n σb acc H2 ⟨rfl, hi, hacc, ⟨os, ho, rfl⟩, A2, sa, nw, s2, sh, a2, hD2, ds1, ds2, rfl, rp, e3⟩
  refine ⟨hD2, ?_⟩
  by_cases hlt : i < xs.length
  · refine .inr ⟨hj.go i H2 (sa.trans s2) sh hlt, by omega, fun x H3 y => ?_⟩
    obtain ⟨A3, dx, ed, g3, p3⟩ := hj.yld i A2 H2 x H3 sa s2 sh hlt y
    have hd : xs.drop i = dx :: xs.drop (i + 1) := by
      rw [List.drop_eq_getElem_cons hlt]
      rw [List.getElem?_eq_getElem hlt] at ed
      cases ed
      rfl
    rw [hd] at e3
    obtain ⟨Γ1, e4, e3⟩ := Res.bind_ok e3
    obtain ⟨t, e5, e3⟩ := Res.bind_ok e3
    have rb : StRep K A3 H3 H3 (blockF tn.length ix O) (os ++ ix.map fun i => (σ[i]?).join) (blockE tn.length ix Γ) := by
      have rr : StRep K A3 B H3 O σ Γ := by
        refine ⟨g3.ah, r1.b.trans (sh.trans g3.hh), r1.len, fun j => ?_, r1.sep⟩
        intro d' e'
        obtain ⟨v', e'', q⟩ := r1.slot j d' e'
        refine ⟨v', e'', ?_⟩
        cases hf : fl O j with
        | imm => rw [hf] at q; exact Rp.mono (sa.trans g3.aa) d' q
        | bor => rw [hf] at q; exact Pk.mono (sa.trans g3.aa) (Same.refl _) q
        | own =>
          rw [hf] at q
          obtain ⟨p', o', rfl, u1, u2, u3, u4⟩ := q
          have n1 : A2 p' = none := nw p' u2 (by rw [u1]; simp)
          exact ⟨p', o', rfl, g3.hh _ _ (sh _ _ u1), g3.nw p' n1 (by rw [sh _ _ u1]; simp), u3, u4.mono (sa.trans g3.aa)⟩
        | fix p0 =>
          rw [hf] at q
          obtain ⟨q0, p', o', rfl, u1, u2, u3, u4⟩ := q
          have n1 : A2 p' = none := nw p' u2 (by rw [u1]; simp)
          exact ⟨q0, p', o', rfl, g3.hh _ _ (sh _ _ u1), g3.nw p' n1 (by rw [sh _ _ u1]; simp), u3, u4.mono (sa.trans g3.aa)⟩
        | kit => rw [hf] at q; exact KitV.mono (sa.trans g3.aa) q
        | exc C =>
          rw [hf] at q
          obtain ⟨p', ob, w1, w2, w3⟩ := q
          exact ⟨p', ob, w1, (sa.trans g3.aa) _ _ w2, w3⟩
        | nst b =>
          rw [hf] at q
          intro z
          obtain ⟨p', xs, kvs, w1, w2, w3, w4, w5, w6⟩ := q z
          have n1 : A2 p' = none := nw p' w4 (by rw [w3]; simp)
          exact ⟨p', xs, kvs, w1, w2, g3.hh _ _ (sh _ _ w3), g3.nw p' n1 (by rw [sh _ _ w3]; simp), w5, w6.mono (sa.trans g3.aa)⟩
      exact rr.block ho ix
    refine ⟨A3, H3, _, dx, Γ1, rb, p3, e4, fun σ4 r4 y4 => ?_⟩
    have hos : ∃ os' : List (Option V), os'.length = tn.length ∧ σ4 = os' ++ ix.map fun i => (σ[i]?).join := by
      have hl4 : σ4.length = tn.length + ix.length := by rw [y4.1, List.length_append, List.length_map, ho]
      refine ⟨σ4.take tn.length, by rw [List.length_take]; omega, List.ext_getElem? fun j => ?_⟩
      rcases Nat.lt_or_ge j tn.length with hj | hj
      · rw [List.getElem?_append_left (by rw [List.length_take]; omega), List.getElem?_take_of_lt hj]
      · rw [y4.2 j (fun z => absurd (his j z) (by omega)), List.getElem?_append_right (by omega), List.getElem?_append_right (by rw [List.length_take]; omega), List.length_take, ho]
        congr 1
        omega
    cases t with
    | bool bb =>
      refine ⟨A3, H3, Γ1, bb, r4, e5, fun A4 H4 g4 => ?_⟩
      have nw4 : New A1 A4 H1 := nw.trans ((g3.trans g4).nw.mono sh)
      have hD4 : H4 D = some (.lst acc) := g4.hh _ _ (g3.hh _ _ hD2)
      have a4 : A4 D = none := (g3.trans g4).nw D a2 (by rw [hD2]; simp)
      cases bb with
      | false =>
        refine iteF ⟨xs.length - (i + 1), by omega, rfl, hlt, by omega, hos, A4, sa.trans (g3.trans g4).aa, nw4, g4.ah, sh.trans (g3.trans g4).hh, a4, hD4, ds1, ds2, rfl, RpAll.mono (g3.trans g4).aa _ rp, e3⟩
      | true =>
        obtain ⟨dv, e6, e3⟩ := Res.bind_ok e3
        obtain ⟨ds3, e7, e3⟩ := Res.bind_ok e3
        cases e3
        refine iteT ⟨A4, H3, Γ1, dv, r4.grow g4, e6, fun v A5 H5 g5 p5 => ?_⟩
        have gg := (g3.trans g4).trans g5
        have hD5 : H5 D = some (.lst acc) := g5.hh _ _ hD4
        have a5 : A5 D = none := gg.nw D a2 (by rw [hD2]; simp)
        refine ⟨hD5, xs.length - (i + 1), by omega, rfl, hlt, by rw [List.length_append, List.length_singleton]; omega, hos, A5, sa.trans gg.aa, nw.trans (gg.nw.mono sh), fun b u q => ?_, ?_, a5, upd_same, ds1 ++ [dv], ds3, by rw [List.append_assoc]; rfl, (RpAll.mono gg.aa _ rp).append (RpAll.one p5), e7⟩
        · have hb : b ≠ D := fun z => by rw [z, a5] at q; cases q
          rw [upd_ne hb]; exact g5.ah b u q
        · exact (sh.trans gg.hh).up hD
    | _ => cases e3
  · have e : i = xs.length := by omega
    subst e
    rw [List.drop_length] at e3
    cases e3
    rw [List.append_nil] at k
    refine .inl ⟨hj.stop H2 (sa.trans s2) sh, k _ A2 H2 ⟨g1.aa.trans sa, g1.hh.trans sh, s2, fun p n1 n2 => nw p (g1.nw p n1 n2) (Same.ne g1.hh n2)⟩ ⟨D, _, rfl, g1.hh.free hD, hD2, a2, .inl ⟨ds1, acc, rfl, rfl, rp⟩⟩⟩
end
end L3
namespace L3
open PySem PySem.Spec PyProof.Rows L2
section
variable {X : Cx} {O Ob O1 : List Fl} {scope : Scope} {tn : List Str} {ix is : List Nat} {it : MI} {g : MG} {mc me : ME} {elt tg iter : Expr} {ifs : List Expr} {pos : Pos} {nt : Nat}
theorem sf_comp (tn : List Str) (ix : List Nat) (S : compOk X scope ix = true) (hc : X.calm = true) (hOb : Ob = blockF tn.length ix O) (hnt : nt = tn.length) (his : ∀ j ∈ is, j < tn.length) (hi : QI X tg iter (tIc X.K O it))
    (hg : ∀ cl C s₂ H₂ fp, QG (X.comp scope tn ix cl C s₂ H₂ fp) tg (tG X.K Ob O1 is g)) (ht : ∀ cl C s₂ H₂ fp, QIfs (X.comp scope tn ix cl C s₂ H₂ fp) ifs (tT X.K O1 mc)) (he : ∀ cl C s₂ H₂ fp, QE (X.comp scope tn ix cl C s₂ H₂ fp) elt (tE X.K O1 me))
    (hs : ∀ x, foldedSetIterable iter X.env x = pure x := by intro _; rfl) : QE X (.ListComp elt [⟨tg, iter, ifs, 0⟩] scope pos) (tF X.K O (eComp it g mc me nt ix)) :=
  QE.imp (pe_comp S hc hi.h (fun cl C s₂ H₂ fp => (hg cl C s₂ H₂ fp).h) (fun cl C s₂ H₂ fp => (ht cl C s₂ H₂ fp).h) (fun cl C s₂ H₂ fp => (he cl C s₂ H₂ fp).h) hs) fun σ H Q h => tComp_of hOb hnt his h
theorem ss_setC (i : Nat) {O2 : List Fl} (tn : List Str) (ix : List Nat) {rm : Rm} {Ol : List Fl} {y : Str} {py spos : Pos} (hN : X.N.Nodup) (hiN : X.N[i]? = some y) (hy : Loc X.env.scope y) (S : compOk X scope ix = true) (hc : X.calm = true) (hOb : Ob = blockF tn.length ix O) (hnt : nt = tn.length) (his : ∀ j ∈ is, j < tn.length) (hi : QI X tg iter (tIc X.K O it))
    (hg : ∀ cl C s₂ H₂ fp, QG (X.comp scope tn ix cl C s₂ H₂ fp) tg (tG X.K Ob O1 is g)) (ht : ∀ cl C s₂ H₂ fp, QIfs (X.comp scope tn ix cl C s₂ H₂ fp) ifs (tT X.K O1 mc)) (he : ∀ cl C s₂ H₂ fp, QE (X.comp scope tn ix cl C s₂ H₂ fp) elt (tE X.K O1 me))
    (hl : i < O.length := by exact of_decide_eq_true rfl) (hsw : swapsWith (.ListComp elt [⟨tg, iter, ifs, 0⟩] scope pos) (some (.Name y py)) spos.line X.env = pure true := by rfl)
    (hf : X.fn y = true ∨ X.env.scope.names.lookup y = some .local := by first | exact .inl rfl | exact .inr rfl | assumption)
    (hs : ∀ x, foldedSetIterable iter X.env x = pure x := by intro _; rfl) (hO : O.set i .own = O2 := by rfl) : QS X (.Assign [.Name y py] (.ListComp elt [⟨tg, iter, ifs, 0⟩] scope pos) spos) (tS X.K rm Ol O O2 (sSet i (eComp it g mc me nt ix))) :=
  hO ▸ QS.imp (ps_setC hN hiN hy S hc hi.h (fun cl C s₂ H₂ fp => (hg cl C s₂ H₂ fp).h) (fun cl C s₂ H₂ fp => (ht cl C s₂ H₂ fp).h) (fun cl C s₂ H₂ fp => (he cl C s₂ H₂ fp).h) hsw hf hs) fun D σ H => tAsg_setF (fun σ H Q h => tComp_of hOb hnt his h) hl
end
noncomputable def sApp (i : Nat) (m : ME) : MS := fun Γ => (m Γ).bind fun d => match gv Γ i with
  | some (.list ds) => gd (ds.length < sizeLine ∧ i < Γ.length) (.ok (.nx (Γ.set i (some (.list (ds ++ [d]))))))
  | _ => .bad
noncomputable def sExt (i : Nat) (m : ME) : MS := fun Γ => (m Γ).bind fun d => match gv Γ i, d with
  | some (.list ds), .list es => gd (ds.length + es.length ≤ sizeLine ∧ i < Γ.length) (.ok (.nx (Γ.set i (some (.list (ds ++ es))))))
  | _, _ => .bad
section
variable {X : Cx} {rm : Rm} {Ol O : List Fl} {m m' : ME} {e a b : Expr} {pos p apos cpos : Pos}
theorem own_list {K : PySem.W.Frag} {A B H : Hp} {σ : L2.St} {Γ : Ev} {i : Nat} {ds : List PyData} (r : StRep K A B H O σ Γ) (hi : isO (fl O i) = true) (he : gv Γ i = some (.list ds)) : ∃ q vs, sv σ i = some (.ref q) ∧ H q = some (.lst vs) ∧ RpAll K A ds vs := by
  obtain ⟨d, q, o, e1, e2, h1, h2, h3, ⟨ds', vs, rfl, rfl, h4⟩ | ⟨kvs, u, rfl, rfl, h4⟩⟩ := r.own_at hi (by rw [he]; simp)
  rotate_right
  · rw [he] at e1; cases e1
  rw [he] at e1
  cases e1
  exact ⟨q, vs, e2, h1, h4⟩
theorem ss_app (i : Nat) {x : Str} (he : QE X e (tE X.K O m)) (hi : isO (fl O i) = true := by rfl) (hN : X.N[i]? = some x := by rfl) (hv : Vis X.env.scope x := by first | exact Or.inl rfl | exact Or.inr (Or.inl rfl) | exact Or.inr (Or.inr rfl)) (hd : (x == ("__debug__" : Str)) = false := by decide)
    (hcd : (x == ("__classdict__" : Str)) = false := by decide) (hbase : attributeBase (.Name x p) "append" X.env (eval (.Name x p) X.env) = eval (.Name x p) X.env := by rfl)
    (hfew : ((backTo cpos (starEach (e :: []) X.env)).all (fun x => !x.1) && (backToKw cpos (keywordEach [] X.env)).all (fun x => x.1.isSome)
      && decide ((e :: []).length + ([] : List Keyword).length + (if ([] : List Keyword).isEmpty then 0 else 1) < 30)) = true := by rfl)
    (hline : (apos.endLine == cpos.line) = true := by rfl) (hs : starEach (e :: []) X.env = (false, eval e X.env) :: starEach [] X.env := by rfl) (hplain : (backTo cpos (starEach [] X.env)).any (·.1) = false := by rfl)
    (hsw : swapsWith (.Call (.Attribute (.Name x p) "append" apos) [e] [] cpos) none pos.line X.env = pure false := by rfl) :
    QS X (.Expr (.Call (.Attribute (.Name x p) "append" apos) [e] [] cpos) pos) (tS X.K rm Ol O O (sApp i m)) := by
  refine QS.imp (ps_expr (pe_bm PySem.F.plainAttrs_list PySem.F.slot_list_append PySem.F.type_list_append mt_append (pe_var hN hv hd hcd) (pa_cons he.h pa_nil hs) hbase hfew hline hs hplain) hsw) fun D σ H hq__ => ?_
  obtain ⟨A, B, Γ, o, r, em, k⟩ := hq__
  obtain ⟨d, e1, em⟩ := Res.bind_ok em
  cases hg : gv Γ i with
  | none => rw [hg] at em; cases em
  | some dl =>
    rw [hg] at em
    cases dl with
    | list ds =>
      obtain ⟨⟨hc, hlt⟩, em⟩ := gd_ok em
      cases em
      obtain ⟨q, vs, e2, h1, h4⟩ := own_list r hi hg
      refine ⟨.ref q, sv_get e2, .inl ⟨rfl, vs, SqL.of h1⟩, A, B, Γ, d, r, e1, fun v A1 H1 g1 p1 => ⟨q, vs, v, rfl, rfl, g1.hh _ _ h1, by rw [← h4.length]; exact hc, ?_⟩⟩
      exact k σ A1 _ ((r.grow g1).change hi hlt (by rw [hg]; simp) e2 (g1.hh _ _ h1) (.inl ⟨_, _, rfl, rfl, (RpAll.mono g1.aa _ h4).append (RpAll.one p1)⟩)) g1.aa (g1.nB r.b)
    | _ => cases em
noncomputable def rExtendR : V → List V → Hp → VK → Prop := fun x vs H Q => ∃ l b xs zs, x = .ref l ∧ vs = [.ref b] ∧ H l = some (.lst xs) ∧ Rd H b (.lst zs) ∧ xs.length + zs.length ≤ sizeLine ∧ Q .non (upd H l (.lst (xs ++ zs)))
theorem mt_extendR : MtM X "list.extend" rExtendR := by
  intro pins s σ H x vs v us Q I rx rv h
  obtain ⟨l, b, xs, zs, rfl, rfl, hH, hB, hz, q⟩ := h
  cases rx
  obtain ⟨u, rfl, ru⟩ := rv.one
  cases ru
  obtain ⟨z, its, n, r, hl, e⟩ := I.lstM hH
  obtain ⟨z2, its2, n2, r2, e2⟩ := hB.ok I.hok
  have hl2 := r2.length
  have hsz : its.toArray.size + its2.toArray.size ≤ sizeLine := by rw [List.size_toArray, List.size_toArray]; omega
  have hlong : ¬ (!its.toArray.isEmpty && Builtin.List.listTooLong (its.toArray.size + its2.toArray.size)) = true := by
    rw [notLongL hsz, Bool.and_false]
    exact Bool.false_ne_true
  refine call_meets F.slot_list_extend ⟨_, e, rfl⟩ F.entry_list_extend (F.args_list_extend_2 _ _)
    (AutoSeq1.list_extend_list_list_0 l its.toArray n b its2.toArray n2 hlong (by rw [List.size_toArray]; omega) (by omega)) ⟨e, e2, ?_⟩
  refine ⟨.non, _, I.lset (its' := its ++ its2) hH e (by simp) (r.append r2) ?_, rfl, q⟩
  rw [List.length_append]
  omega
theorem ss_ext (i : Nat) {x : Str} (he : QE X e (tF X.K O m)) (hi : isO (fl O i) = true := by rfl) (hN : X.N[i]? = some x := by rfl) (hv : Vis X.env.scope x := by first | exact Or.inl rfl | exact Or.inr (Or.inl rfl) | exact Or.inr (Or.inr rfl)) (hd : (x == ("__debug__" : Str)) = false := by decide)
    (hcd : (x == ("__classdict__" : Str)) = false := by decide) (hbase : attributeBase (.Name x p) "extend" X.env (eval (.Name x p) X.env) = eval (.Name x p) X.env := by rfl)
    (hfew : ((backTo cpos (starEach (e :: []) X.env)).all (fun x => !x.1) && (backToKw cpos (keywordEach [] X.env)).all (fun x => x.1.isSome)
      && decide ((e :: []).length + ([] : List Keyword).length + (if ([] : List Keyword).isEmpty then 0 else 1) < 30)) = true := by rfl)
    (hline : (apos.endLine == cpos.line) = true := by rfl) (hs : starEach (e :: []) X.env = (false, eval e X.env) :: starEach [] X.env := by rfl) (hplain : (backTo cpos (starEach [] X.env)).any (·.1) = false := by rfl)
    (hsw : swapsWith (.Call (.Attribute (.Name x p) "extend" apos) [e] [] cpos) none pos.line X.env = pure false := by rfl) :
    QS X (.Expr (.Call (.Attribute (.Name x p) "extend" apos) [e] [] cpos) pos) (tS X.K rm Ol O O (sExt i m)) := by
  refine QS.imp (ps_expr (pe_bm PySem.F.plainAttrs_list PySem.F.slot_list_extend PySem.F.type_list_extend mt_extendR (pe_var hN hv hd hcd) (pa_cons he.h pa_nil hs) hbase hfew hline hs hplain) hsw) fun D σ H hq__ => ?_
  obtain ⟨A, B, Γ, o, r, em, k⟩ := hq__
  obtain ⟨d, e1, em⟩ := Res.bind_ok em
  cases hg : gv Γ i with
  | none => rw [hg] at em; cases em
  | some dl =>
    rw [hg] at em
    cases dl with
    | list ds =>
      cases d with
      | list es =>
        obtain ⟨⟨hc, hlt⟩, em⟩ := gd_ok em
        cases em
        obtain ⟨q, vs, e2, h1, h4⟩ := own_list r hi hg
        refine ⟨.ref q, sv_get e2, .inl ⟨rfl, vs, SqL.of h1⟩, A, B, Γ, _, r, e1, fun v A1 H1 g1 p1 => ?_⟩
        obtain ⟨q2, o2, rfl, h0, h5, h7, ⟨es', us, e3, rfl, h6⟩ | ⟨_, _, e3, _⟩⟩ := p1
        rotate_right
        · cases e3
        cases e3
        refine ⟨q, q2, vs, us, rfl, rfl, g1.hh _ _ h1, .inl h5, by rw [← h4.length, ← h6.length]; exact hc, ?_⟩
        exact k σ A1 _ ((r.grow g1).change hi hlt (by rw [hg]; simp) e2 (g1.hh _ _ h1) (.inl ⟨_, _, rfl, rfl, (RpAll.mono g1.aa _ h4).append h6⟩)) g1.aa (g1.nB r.b)
      | _ => cases em
    | _ => cases em
end
noncomputable def intsOf : List PyData → Option (List Int)
  | [] => some []
  | .int i :: ds => (intsOf ds).map (i :: ·)
  | _ :: _ => none
theorem intsOf_eq : ∀ {ds : List PyData} {ns : List Int}, intsOf ds = some ns → ds = ns.map PyData.int
  | [], ns, h => by cases h; rfl
  | .int i :: ds, ns, h => by
    unfold intsOf at h
    cases e : intsOf ds with
    | none => rw [e] at h; cases h
    | some ms => rw [e] at h; cases h; rw [intsOf_eq e]; rfl
@[simp] theorem intsOf_map (ns : List Int) : intsOf (ns.map PyData.int) = some ns := by
  induction ns with
  | nil => rfl
  | cons n ns ih => rw [List.map_cons, intsOf, ih]; rfl
noncomputable def boolsOf : List PyData → Option (List Bool)
  | [] => some []
  | .bool i :: ds => (boolsOf ds).map (i :: ·)
  | _ :: _ => none
@[simp] theorem boolsOf_map (ns : List Bool) : boolsOf (ns.map PyData.bool) = some ns := by
  induction ns with
  | nil => rfl
  | cons n ns ih => rw [List.map_cons, boolsOf, ih]; rfl
noncomputable def sumD : List PyData → Res PyData
  | [.list ds] => match intsOf ds with
    | some ns => .ok (.int ns.sum)
    | none => .bad
  | _ => .bad
theorem RpAll.intV {K : PySem.W.Frag} {A : Hp} : ∀ {ns : List Int} {vs : List V}, RpAll K A (ns.map PyData.int) vs → vs = ns.map V.int
  | [], vs, h => by rw [List.map_nil, RpAll.nil] at h; exact h
  | n :: ns, vs, h => by
    rw [List.map_cons, RpAll.cons] at h
    obtain ⟨v, r, rfl, h1, h2⟩ := h
    rw [Rp.int.mp h1, h2.intV]; rfl
theorem ints_vals : ∀ {ns : List Int} {us : List Value}, Vals (ns.map V.int) us → IntsAre us ns
  | [], _, .nil => .nil
  | n :: ns, _, .cons r t => by
    obtain ⟨tk, rfl⟩ := r
    exact .cons n tk (ints_vals t)
section
variable {X : Cx}
theorem cd_sum (hc : X.calm = true) : CallR X (.builtin "sum") (rC X.K sumD) := by
  intro pins s σ H xs us Q I r h
  obtain ⟨A, ds, d, e, ha, p, k⟩ := h
  match ds, e with
  | [.list es], e =>
    have e' : (match intsOf es with | some ns => Res.ok (PyData.int ns.sum) | none => .bad) = .ok d := e
    cases hn : intsOf es with
    | none => rw [hn] at e'; cases e'
    | some ns =>
      rw [hn] at e'
      cases e'
      obtain rfl := intsOf_eq hn
      obtain ⟨v, r', rfl, p1, p2⟩ := p.cons
      obtain rfl := p2.nil
      obtain ⟨l, vs, rfl, h1, q1⟩ := p1.list ha
      obtain rfl := q1.intV
      obtain ⟨u, rfl, rx⟩ := Vals.one r
      cases rx
      obtain ⟨its, rv, pl, hz⟩ := I.list h1
      have hi := ints_vals rv
      have hall : AllInts its.toArray := hi.allInts
      obtain ⟨ys, ey⟩ := hall.items
      have e2 := nums_intItems ys
      refine sum_intListG (xs := ys) (I.ok.hd hc) (by rw [← ey]; exact pl.isList) fun h' tk t' hk => ?_
      have e3 : numsOf (intItems ys).toList = ns := by
        rw [← ey]
        exact hi.numsOf
      rw [e2] at e3
      rw [preSum_eq, List.take_of_length_le (by simp), e3]
      exact ⟨.int ns.sum, H, I.kept (t' := tk) hk, ⟨t', rfl⟩, k _ A H (Grow.refl ha) (Rp.int.mpr rfl)⟩
end
end L3
namespace L3
open PySem PySem.Spec PyProof.Rows L2
end L3
namespace L2
open PySem PyProof.Rows
structure Mv (lo hi : Nat) (st st' : SortSt) : Prop where
  kind : kindOf st' = kindOf st
  failed : failedOf st' = failedOf st
  pend : pendingOf st' = pendingOf st
  perm : (arrOf st').Perm (arrOf st)
  out : ∀ i, i < lo ∨ hi ≤ i → K (arrOf st') i = K (arrOf st) i
noncomputable def Seg (a : Array Keyed) (lo hi : Nat) : Prop := ∀ i j, lo ≤ i → i ≤ j → j < hi → K a i ≤ K a j
theorem Mv.trans {lo hi : Nat} {a b c : SortSt} (x : Mv lo hi a b) (y : Mv lo hi b c) : Mv lo hi a c :=
  ⟨y.kind.trans x.kind, y.failed.trans x.failed, y.pend.trans x.pend, y.perm.trans x.perm, fun i h => (y.out i h).trans (x.out i h)⟩
section
variable {prog : Program} {w : World} {A : Around} {E : Value → Shared → Prop} {s : Shared}
local macro_rules | `(tactic| walk_at "up_eq") => `(tactic| (refine congrArg (_ >>= ·) (funext fun _ => ?_); refine congrArg (_ >>= ·) (funext fun c => ?_); obtain ⟨r, m⟩ := c; cases r <;> rfl))
local macro_rules | `(tactic| walk_at "dn_eq") => `(tactic| (refine congrArg (_ >>= ·) (funext fun c => ?_); obtain ⟨r, m, e⟩ := c; cases r with
  | some r => rfl
  | none => (dsimp only; split; (refine congrArg (_ >>= ·) (funext fun _ => ?_); walk_at "up_eq"); walk_at "up_eq")))
end
end L2
namespace L2
open PySem PyProof.Rows
section
variable {prog : Program} {w : World} {A : Around} {E : Value → Shared → Prop} {s : Shared}
end
end L2
namespace L2
open PySem PyProof.Rows
section
variable {α : Type} {le : α → α → Prop}
end
section
variable {prog : Program} {w : World} {A : Around} {E : Value → Shared → Prop} {s : Shared}
end
noncomputable def leK (p q : Keyed) : Prop := numOf p.1 ≤ numOf q.1
theorem K_at {a : Array Keyed} {i : Nat} (hi : i < a.size) : K a i = numOf a[i].1 := by unfold K; rw [getElem?_pos a i hi]
theorem Seg.pw {a : Array Keyed} (h : Seg a 0 a.size) : a.toList.Pairwise leK := by
  rw [List.pairwise_iff_getElem]
  intro i j hi hj hij
  have hi' : i < a.size := by simpa using hi
  have hj' : j < a.size := by simpa using hj
  have := h i j (by omega) (by omega) hj'
  rw [K_at hi', K_at hj'] at this
  simpa [leK] using this
section
variable {a b o : Array Keyed} {i j k : Nat}
end
section
variable {prog : Program} {w : World} {A : Around} {E : Value → Shared → Prop} {s : Shared}
end
end L2
namespace L2
open PySem PyProof.Rows
section
variable {a b o : Array Keyed} {i j z : Nat}
end
section
variable {prog : Program} {w : World} {A : Around} {E : Value → Shared → Prop} {s : Shared}
end
end L2
namespace L2
open PySem PyProof.Rows
section
variable {prog : Program} {w : World} {A : Around} {E : Value → Shared → Prop} {s : Shared}
end
section
variable {prog : Program} {w : World} {A : Around} {E : Value → Shared → Prop} {s : Shared}
end
end L2
namespace L2
open PySem PyProof.Rows
section
variable {prog : Program} {w : World} {A : Around} {E : Value → Shared → Prop} {s : Shared}
end
end L2
namespace L2
open PySem PyProof.Rows
section
variable {prog : Program} {w : World} {A : Around} {E : Value → Shared → Prop} {s : Shared}
end
end L2
namespace L3
open PySem PySem.Spec PyProof.Rows L2
section
variable {X : Cx}
end
open Classical in
noncomputable def eqR (h : Heap) (x : PyData) (y : Value) : Bool := if q : ∃ d as, Reads h y d as ∧ d.canLay0 = true then PyData.eqv (Classical.choose q) x else false
theorem eqR_of {h : Heap} {x d : PyData} {y : Value} {as : List Addr} (r : Reads h y d as) (hd : d.canLay0 = true) : eqR h x y = PyData.eqv d x := by
  unfold eqR
  have q : ∃ d as, Reads h y d as ∧ d.canLay0 = true := ⟨d, as, r, hd⟩
  rw [dif_pos q]
  obtain ⟨as', r', c'⟩ := Classical.choose_spec q
  rw [(PySem.Reads.unique r' d as r).1]
theorem anyR {h : Heap} {x : PyData} : ∀ {us : List Value} {ds : List PyData} {as : List Addr}, ReadsAll h us ds as → PyData.canLayAll0 ds = true → us.any (eqR h x) = ds.any fun d => PyData.eqv d x
  | _, _, _, .nil, _ => rfl
  | _, _, _, .cons r rs, c => by
    rw [PyData.canLayAll0, Bool.and_eq_true] at c
    rw [List.any_cons, List.any_cons, eqR_of r c.1, anyR rs c.2]
theorem memR {h : Heap} : ∀ {us : List Value} {ds : List PyData} {as : List Addr} {u : Value}, ReadsAll h us ds as → u ∈ us → ∃ d as, d ∈ ds ∧ Reads h u d as
  | _, _, _, u, .nil, m => nomatch m
  | _, _, _, u, .cons (d := d) r rs, m => by
    rcases List.mem_cons.mp m with rfl | m
    · exact ⟨_, _, List.mem_cons_self, r⟩
    · obtain ⟨d', as, h1, h2⟩ := memR rs m
      exact ⟨d', as, List.mem_cons_of_mem _ h1, h2⟩
noncomputable def inB (a : PyData) (ds : List PyData) : Bool := ds.any fun y => PyData.eqv y a
noncomputable def notInX : PyData → PyData → Res PyData
  | a, .list ds => gd (SeqAt.shaped a = true ∧ ds.all SeqAt.shaped = true) (.ok (.bool (!inB a ds)))
  | a, .tuple ds => gd (SeqAt.shaped a = true ∧ ds.all SeqAt.shaped = true) (.ok (.bool (!inB a ds)))
  | _, _ => .bad
theorem all_lay : ∀ {ds : List PyData}, ds.all SeqAt.shaped = true → PyData.canLayAll0 ds = true
  | [], _ => by rw [PyData.canLayAll0]
  | d :: ds, h => by
    rw [List.all_cons, Bool.and_eq_true] at h
    rw [PyData.canLayAll0, SeqAt.canLay_of_shaped h.1, all_lay h.2]; rfl
theorem shaped_depth {d : PyData} (h : SeqAt.shaped d = true) : d.depth ≤ 64 := by
  unfold SeqAt.shaped at h
  rw [Bool.and_eq_true] at h
  exact of_decide_eq_true h.2
section
variable {X : Cx}
theorem in_any {pins : List (Addr × Obj)} {s : Shared} {σ : L2.St} {H A : Hp} {d1 : PyData} {ds : List PyData} {x : V} {v : Value} {vs : List V} {its : List Value} (hu : X.A.units + 66 < cLine) (I : Inv X pins σ H s) (rx : RelV x v) (ha : Same A H)
    (p1 : Pk X.K A H d1 x) (f1 : SeqAt.shaped d1 = true) (f2 : ds.all SeqAt.shaped = true) (q2 : RpAll X.K A ds vs) (r : Vals vs its) :
    (∀ y, y ∈ its.toArray → SeqAt.EqAt X.A.in1 s y v (eqR s.heap d1 y)) ∧ its.toArray.any (eqR s.heap d1) = inB d1 ds := by
  obtain ⟨as, r1⟩ := Is.reads I d1 (p1.is ha f1) rx
  obtain ⟨bs, r2⟩ := IsAll.reads I ds (IsAll.mono ha ds (RpAll.is ds (all_lay f2) q2)) r
  refine ⟨fun y hy => ?_, by rw [List.any_toArray, anyR r2 (all_lay f2)]; rfl⟩
  obtain ⟨d, cs, hd, ry⟩ := memR r2 (by simpa using hy)
  have hs : SeqAt.shaped d = true := List.all_eq_true.mp f2 d hd
  rw [eqR_of ry (SeqAt.canLay_of_shaped hs)]
  refine SeqAt.eqAt_reads d d1 X.A.in1 s y v cs as ry r1 (SeqAt.canLay_of_shaped hs) (SeqAt.canLay_of_shaped f1) ?_
  have := shaped_depth hs
  have e : X.A.in1.units = X.A.units + 1 := rfl
  have := Nat.min_le_left d.depth d1.depth
  omega
theorem od_notInX (hu : X.A.units + 66 < cLine) : OpR X (compareOp .NotIn) (rD X.K notInX) := by
  intro pins s σ H x y v u Q I rx ry hq
  obtain ⟨A, d1, d2, d, e, ha, p1, p2, k⟩ := hq
  cases d2 with
  | list ds =>
    obtain ⟨⟨f1, f2⟩, e⟩ := gd_ok e
    have e' := Res.ok.inj e
    subst e'
    obtain ⟨l, vs, rfl, h1, q2⟩ := p2.list ha
    cases ry
    obtain ⟨its, r, pl, hz⟩ := I.list h1
    obtain ⟨w1, w2⟩ := in_any hu I rx ha p1 f1 f2 q2 r
    refine SeqAt.notIn_listAt (eqR s.heap d1) pl.isList w1 ?_
    rw [w2]
    exact ⟨.bl _, H, I, rfl, k _ A H (Grow.refl ha) (Rp.bool.mpr rfl)⟩
  | tuple ds =>
    obtain ⟨⟨f1, f2⟩, e⟩ := gd_ok e
    have e' := Res.ok.inj e
    subst e'
    obtain ⟨l, vs, rfl, h1, q2⟩ := p2.tuple ha
    cases ry
    obtain ⟨its, r, pl, hz⟩ := I.tuple h1
    obtain ⟨w1, w2⟩ := in_any hu I rx ha p1 f1 f2 q2 r
    refine SeqAt.notIn_tupleAt (eqR s.heap d1) (show s.heap.IsTuple l its.toArray from pl) w1 ?_
    rw [w2]
    exact ⟨.bl _, H, I, rfl, k _ A H (Grow.refl ha) (Rp.bool.mpr rfl)⟩
  | _ => cases e
end
theorem _root_.L2.Room.units2 {k : Nat} {A : Around} (r : Room k A) : A.units + 66 < cLine := by have := r.un; omega
end L3
namespace L3
open PySem PySem.Spec PyProof.Rows L2
noncomputable def lookD (key : Key) : List (PyData × PyData) → Option PyData
  | [] => none
  | (k, d) :: r => if keyD k = some key then some d else lookD key r
noncomputable def hasK (key : Key) : List (PyData × PyData) → Bool
  | [] => false
  | (k, _) :: r => if keyD k = some key then true else hasK key r
noncomputable def setK (key : Key) (x : PyData) : List (PyData × PyData) → List (PyData × PyData)
  | [] => []
  | (k, d) :: r => (if keyD k = some key then (k, x) else (k, d)) :: setK key x r
noncomputable def putD2 (kd : PyData) (key : Key) (x : PyData) (kvs : List (PyData × PyData)) : List (PyData × PyData) := if hasK key kvs = true then setK key x kvs else kvs ++ [(kd, x)]
theorem keyD_eq {k : PyData} {key key' : Key} (h : keyD k = some key') : keyD k = some key ↔ key' = key := by rw [h]; simp
section
variable {K : PySem.W.Frag} {A : Hp} {key : Key}
theorem RpKV.look : ∀ {kvs : List (PyData × PyData)} {u : List (Key × V)}, RpKV K A kvs u → (∀ d, lookD key kvs = some d → ∃ v, valV u key = some v ∧ Rp K A d v) ∧ (lookD key kvs = none → valV u key = none)
  | [], u, h => by
    rw [RpKV.nil] at h; subst h
    exact ⟨fun d e => (nomatch e), fun _ => rfl⟩
  | (k, d) :: r, u, h => by
    obtain ⟨key', v, u', rfl, hk, hd, hr⟩ := RpKV.cons.mp h
    unfold lookD
    by_cases e : keyD k = some key
    · have e' := (keyD_eq hk).mp e
      rw [if_pos e]
      exact ⟨fun d' z => by cases z; exact ⟨v, valV_pos (p := (key', v)) e', hd⟩, fun z => (nomatch z)⟩
    · have e' : ¬ key' = key := fun z => e ((keyD_eq hk).mpr z)
      rw [if_neg e, valV_neg (p := (key', v)) e']
      exact RpKV.look hr
theorem RpKV.has : ∀ {kvs : List (PyData × PyData)} {u : List (Key × V)}, RpKV K A kvs u → (u.any fun kv => decide (kv.1 = key)) = hasK key kvs
  | [], u, h => by rw [RpKV.nil] at h; subst h; rfl
  | (k, d) :: r, u, h => by
    obtain ⟨key', v, u', rfl, hk, hd, hr⟩ := RpKV.cons.mp h
    unfold hasK
    rw [List.any_cons, RpKV.has hr]
    by_cases e : keyD k = some key
    · rw [if_pos e, decide_eq_true ((keyD_eq hk).mp e)]; rfl
    · rw [if_neg e, decide_eq_false fun z => e ((keyD_eq hk).mpr z)]; rfl
theorem RpKV.set {x : PyData} {w : V} (hx : Rp K A x w) : ∀ {kvs : List (PyData × PyData)} {u : List (Key × V)}, RpKV K A kvs u → RpKV K A (setK key x kvs) (u.map fun kv => if kv.1 = key then (kv.1, w) else kv)
  | [], u, h => by rw [RpKV.nil] at h; subst h; exact RpKV.nil.mpr rfl
  | (k, d) :: r, u, h => by
    obtain ⟨key', v, u', rfl, hk, hd, hr⟩ := RpKV.cons.mp h
    unfold setK
    rw [List.map_cons]
    by_cases e : keyD k = some key
    · rw [if_pos e, if_pos ((keyD_eq hk).mp e)]
      exact RpKV.cons.mpr ⟨key', w, _, rfl, hk, hx, RpKV.set hx hr⟩
    · rw [if_neg e, if_neg fun z => e ((keyD_eq hk).mpr z)]
      exact RpKV.cons.mpr ⟨key', v, _, rfl, hk, hd, RpKV.set hx hr⟩
theorem RpKV.snoc {kd x : PyData} {w : V} (hk : keyD kd = some key) (hx : Rp K A x w) : ∀ {kvs : List (PyData × PyData)} {u : List (Key × V)}, RpKV K A kvs u → RpKV K A (kvs ++ [(kd, x)]) (u ++ [(key, w)])
  | [], u, h => by rw [RpKV.nil] at h; subst h; exact RpKV.cons.mpr ⟨key, w, [], rfl, hk, hx, RpKV.nil.mpr rfl⟩
  | (k, d) :: r, u, h => by
    obtain ⟨key', v, u', rfl, hk', hd, hr⟩ := RpKV.cons.mp h
    exact RpKV.cons.mpr ⟨key', v, _, rfl, hk', hd, RpKV.snoc hk hx hr⟩
theorem RpKV.put {kd x : PyData} {w : V} {kvs : List (PyData × PyData)} {u : List (Key × V)} (hk : keyD kd = some key) (hx : Rp K A x w) (h : RpKV K A kvs u) : RpKV K A (putD2 kd key x kvs) (putK u key w) := by
  unfold putD2 putK
  rw [h.has]
  by_cases e : hasK key kvs = true
  · rw [if_pos e, if_pos e]; exact h.set hx
  · rw [if_neg e, if_neg e]; exact h.snoc hk hx
theorem RpKV.length : ∀ {kvs : List (PyData × PyData)} {u : List (Key × V)}, RpKV K A kvs u → kvs.length = u.length
  | [], u, h => by rw [RpKV.nil] at h; subst h; rfl
  | (k, d) :: r, u, h => by
    obtain ⟨key', v, u', rfl, _, _, hr⟩ := RpKV.cons.mp h
    rw [List.length_cons, List.length_cons, RpKV.length hr]
end
noncomputable def notInY : PyData → PyData → Res PyData
  | a, .dict kvs => match keyD a with
    | some key => .ok (.bool (!(lookD key kvs).isSome))
    | none => .bad
  | a, b => notInX a b
section
variable {X : Cx}
theorem Pk.key {K : PySem.W.Frag} {A H : Hp} {d : PyData} {v : V} {key : Key} (p : Pk K A H d v) (h : keyD d = some key) : v = kV key := by
  cases d with
  | int i => cases h; exact p.int
  | str x => cases h; exact p.str
  | _ => cases h
theorem RpKV.some {K : PySem.W.Frag} {A : Hp} {kvs : List (PyData × PyData)} {u : List (Key × V)} {key : Key} (h : RpKV K A kvs u) : (valV u key).isSome = (lookD key kvs).isSome := by
  have := h.look (key := key)
  cases e : lookD key kvs with
  | none => rw [this.2 e]; rfl
  | some d => obtain ⟨v, e1, _⟩ := this.1 d e; rw [e1]; rfl
theorem od_notInY (hu : X.A.units + 66 < cLine) : OpR X (compareOp .NotIn) (rD X.K notInY) := by
  intro pins s σ H x y v u Q I rx ry hq
  obtain ⟨A, d1, d2, d, e, ha, p1, p2, k⟩ := hq
  cases d2 with
  | dict kvs =>
    have e : (match keyD d1 with | some key => Res.ok (PyData.bool (!(lookD key kvs).isSome)) | none => .bad) = .ok d := e
    cases hk : keyD d1 with
    | none => rw [hk] at e; cases e
    | some key =>
      rw [hk] at e
      cases e
      obtain ⟨l, w, rfl, h1, h2⟩ := p2.dict ha
      cases ry
      rw [p1.key hk] at rx
      exact d_notIn (by omega) I ((Or.inl ⟨_, key, h1, rfl, rfl⟩)) rx fun s' I' => ⟨.bl _, H, I', rfl, k _ A H (Grow.refl ha) (Rp.bool.mpr (by rw [h2.some]))⟩
  | list ds => exact od_notInX hu pins s σ H x y v u Q I rx ry ⟨A, d1, .list ds, d, e, ha, p1, p2, k⟩
  | tuple ds => exact od_notInX hu pins s σ H x y v u Q I rx ry ⟨A, d1, .tuple ds, d, e, ha, p1, p2, k⟩
  | _ => cases e
end
noncomputable def sPutD (i : Nat) (mk mv : ME) : MS := fun Γ => (mv Γ).bind fun x => (mk Γ).bind fun kd => match gv Γ i with
  | some (.dict kvs) => match keyD kd with
    | some key => gd (kvs.length < sizeLine ∧ i < Γ.length) (.ok (.nx (Γ.set i (some (.dict (putD2 kd key x kvs))))))
    | none => .bad
  | _ => .bad
section
variable {X : Cx} {rm : Rm} {Ol O : List Fl} {m m' : ME} {e a b : Expr} {pos p apos cpos : Pos}
theorem own_dict {K : PySem.W.Frag} {A B H : Hp} {σ : L2.St} {Γ : Ev} {i : Nat} {kvs : List (PyData × PyData)} (r : StRep K A B H O σ Γ) (hi : isO (fl O i) = true) (he : gv Γ i = some (.dict kvs)) : ∃ q u, sv σ i = some (.ref q) ∧ H q = some (.dK u) ∧ RpKV K A kvs u := by
  obtain ⟨d, q, o, e1, e2, h1, h2, h3, ⟨ds', vs, rfl, rfl, h4⟩ | ⟨kvs, u, rfl, rfl, h4⟩⟩ := r.own_at hi (by rw [he]; simp)
  · rw [he] at e1; cases e1
  · rw [he] at e1
    cases e1
    exact ⟨q, u, e2, h1, h4⟩
theorem Rp.key {K : PySem.W.Frag} {A : Hp} {d : PyData} {v : V} {key : Key} (p : Rp K A d v) (h : keyD d = some key) : v = kV key := Pk.key (H := A) (.inl p) h
theorem ss_dput (i : Nat) {x : Str} {xp tpos : Pos} (hu : X.A.units + 66 < cLine) (ha : QE X a (tE X.K O m)) (he : QE X e (tE X.K O m')) (hi : isO (fl O i) = true := by rfl) (hN : X.N[i]? = some x := by rfl) (hv : Vis X.env.scope x := by first | exact Or.inl rfl | exact Or.inr (Or.inl rfl) | exact Or.inr (Or.inr rfl)) (hd : (x == ("__debug__" : Str)) = false := by decide)
    (hcd : (x == ("__classdict__" : Str)) = false := by decide) (hs : swapsWith e (some (.Subscript (.Name x xp) a tpos)) pos.line X.env = pure false := by rfl) :
    QS X (.Assign [.Subscript (.Name x xp) a tpos] e pos) (tS X.K rm Ol O O (sPutD i m m')) := by
  refine QS.imp (ps_dput (by omega) (pe_var hN hv hd hcd) ha.h he.h hs) fun D σ H hq__ => ?_
  obtain ⟨A, B, Γ, o, r, em, k⟩ := hq__
  obtain ⟨d, e1, em⟩ := Res.bind_ok em
  obtain ⟨kd, e2, em⟩ := Res.bind_ok em
  cases hg : gv Γ i with
  | none => rw [hg] at em; cases em
  | some dl =>
    rw [hg] at em
    cases dl with
    | dict kvs =>
      have em' : (match keyD kd with | some key => gd (kvs.length < sizeLine ∧ i < Γ.length) (Res.ok (Out.nx (Γ.set i (some (.dict (putD2 kd key d kvs)))))) | none => .bad) = .ok o := em
      cases hk : keyD kd with
      | none => rw [hk] at em'; cases em'
      | some key =>
        rw [hk] at em'
        obtain ⟨⟨hz, hlt⟩, em'⟩ := gd_ok em'
        cases em'
        obtain ⟨q, u, e3, h2, h4⟩ := own_dict r hi hg
        refine ⟨A, B, Γ, d, r, e1, fun v A1 H1 g1 p1 => ⟨.ref q, sv_get e3, A1, B, Γ, _, r.grow g1, e2, fun w A2 H2 g2 p2 => ?_⟩⟩
        have gg := g1.trans g2
        refine ⟨q, _, rfl, by rw [Rp.key p2 hk]; exact DPut.k (gg.hh _ _ h2) (by rw [← h4.length]; exact hz), ?_⟩
        exact k σ A2 _ ((r.grow gg).change hi hlt (by rw [hg]; simp) e3 (gg.hh _ _ h2) (.inr ⟨_, _, rfl, rfl, RpKV.put hk (Rp.mono g2.aa _ p1) (RpKV.mono gg.aa _ h4)⟩)) gg.aa (gg.nB r.b)
    | _ => cases em
end
noncomputable def ixY : PyData → PyData → Res PyData
  | .dict kvs, a => match keyD a with
    | some key => match lookD key kvs with
      | some d => .ok d
      | none => .bad
    | none => .bad
  | a, b => ixD a b
section
variable {X : Cx}
theorem ix_dict : IxR X (fun x y H Q => ∃ a v, x = .ref a ∧ DGet H a y (some v) ∧ X.A.units + 1 < cLine ∧ Q v H) := by
  intro value slice pins s σ H x y v u Q I rx ry h hs
  obtain ⟨a, w, rfl, g, hu, q⟩ := h
  cases rx
  have hT := dict_typeIs I g
  unfold subscriptTail
  refine wpAny_bind ?_
  rw [getitemInPython_of_ne hT.not_modules]
  refine wpAny_bind (wpAny_specialOf hT PySem.F.slot_dict_getitem.lookup ?_)
  have fin : wpAny (model X.prog X.w) X.A (subscripted slice false (.ref a) u) (fun r s₃ => wpAny (model X.prog X.w) X.A (letTemporaryGo value (.ref a) r >>= fun _ => pure r) (EP X pins σ Q) X.xe s₃) X.xe s := by
    rw [hs]
    exact wpAny_operating (wpAny_mono (d_getItem hu I g ry fun w' s' I' rw' => (⟨w, H, I', rw', q⟩ : EP X pins σ Q w' s')) (fun r s₃ h₃ => wpAny_bind (wpAny_letTemporaryGo (wpAny_pure h₃))) fun _ _ x => x)
  first
    | exact wpAny_pure (wpAny_bind fin)
    | exact wpAny_bind (wpAny_pure (wpAny_bind fin))
    | exact wpAny_bind fin
theorem od_ixY (hu : X.A.units + 66 < cLine) : IxR X (rD X.K ixY) := by
  intro value slice pins s σ H x y v u Q I rx ry hq hs
  obtain ⟨A, d1, d2, d, e, ha, p1, p2, k⟩ := hq
  cases d1 with
  | dict kvs =>
    have e : (match keyD d2 with | some key => (match lookD key kvs with | some d => Res.ok d | none => .bad) | none => .bad) = .ok d := e
    cases hk : keyD d2 with
    | none => rw [hk] at e; cases e
    | some key =>
      rw [hk] at e
      have e : (match lookD key kvs with | some d => Res.ok d | none => .bad) = .ok d := e
      cases hl : lookD key kvs with
      | none => rw [hl] at e; cases e
      | some d0 =>
        rw [hl] at e
        cases e
        obtain ⟨l, w, rfl, h1, h2⟩ := p1.dict ha
        obtain ⟨v0, ev, rv⟩ := (h2.look (key := key)).1 d hl
        refine ix_dict value slice pins s σ H _ y v u Q I rx ry ⟨l, v0, rfl, ?_, by omega, k _ A H (Grow.refl ha) rv⟩ hs
        rw [p2.key hk, ← ev]
        exact (.inl ⟨_, _, h1, rfl, rfl⟩)
  | list ds => exact od_ix value slice pins s σ H x y v u Q I rx ry ⟨A, .list ds, d2, d, e, ha, p1, p2, k⟩ hs
  | tuple ds => exact od_ix value slice pins s σ H x y v u Q I rx ry ⟨A, .tuple ds, d2, d, e, ha, p1, p2, k⟩ hs
  | str ds => exact od_ix value slice pins s σ H x y v u Q I rx ry ⟨A, .str ds, d2, d, e, ha, p1, p2, k⟩ hs
  | _ => cases e
theorem se_ixY {a b : Expr} {O : List Fl} {m1 m2 : ME} {pos : Pos} (hu : X.A.units + 66 < cLine) (ha : QE X a (tP X.K O m1)) (hb : QE X b (tP X.K O m2)) (hs : PlainIx b) : QE X (.Subscript a b pos) (tE X.K O (eBin ixY m1 m2)) := QE.imp (pe_ix (od_ixY hu) ha.h hb.h hs) fun _ _ _ => tE_bin
end
end L3
namespace L3
open PySem PySem.Spec PyProof.Rows L2
section
variable {X : Cx}
end
end L3
namespace L3
open PySem PySem.Spec PyProof.Rows L2
section
variable {K : PySem.W.Frag} {A B H A' H' : Hp} {O : List Fl} {σ : L2.St} {Γ : Ev} {i : Nat}
end
inductive MA where
  | imm | bor | var (i : Nat) | new
noncomputable def ArgQ (K : PySem.W.Frag) (A B : Hp) (σ : L2.St) (Γ : Ev) (H0 H : Hp) : MA → PyData → V → Prop
  | .imm, d, v => Rp K A d v
  | .bor, d, v => Pk K A B d v
  | .var i, d, v => sv σ i = some v ∧ gv Γ i = some d
  | .new, d, v => ∃ p o, v = .ref p ∧ H0 p = none ∧ H p = some o ∧ A p = none ∧ OwnO K A d o
noncomputable def ArgsQ (K : PySem.W.Frag) (A B : Hp) (σ : L2.St) (Γ : Ev) (H0 H : Hp) : List MA → List PyData → List V → Prop
  | [], ds, vs => ds = [] ∧ vs = []
  | a :: as, ds, vs => ∃ d r v s, ds = d :: r ∧ vs = v :: s ∧ ArgQ K A B σ Γ H0 H a d v ∧ ArgsQ K A B σ Γ H0 H as r s
section
variable {K : PySem.W.Frag} {A B H H0 A' H' : Hp} {σ : L2.St} {Γ : Ev}
theorem ArgsQ.len : ∀ {as : List MA} {ds : List PyData} {vs : List V}, ArgsQ K A B σ Γ H0 H as ds vs → ds.length = as.length ∧ vs.length = as.length
  | [], ds, vs, h => by obtain ⟨rfl, rfl⟩ := h; exact ⟨rfl, rfl⟩
  | a :: as, ds, vs, h => by
    obtain ⟨d, r, v, t, rfl, rfl, _, h2⟩ := h
    have := h2.len
    exact ⟨by rw [List.length_cons, List.length_cons, this.1], by rw [List.length_cons, List.length_cons, this.2]⟩
end
section
variable {X : Cx} {K : PySem.W.Frag} {O : List Fl} {m : ME} {ms : List ME} {as : List MA} {e : Expr} {es : List Expr} {pos : Pos}
end
section
variable {X : Cx} {k : Nat} {x : Str} {ps : List Str} {fs : List Fl} {j : Nat} {f : List PyData → Res PyData} {O : List Fl} {as : List MA} {ms : List ME} {p pos : Pos} {e : Expr} {es : List Expr}
end
section
variable {X : Cx} {K : PySem.W.Frag} {rm : Rm} {Ol O O' : List Fl} {f : List PyData → Res PyData} {ms : List ME} {m : ME} {e : Expr} {pos : Pos}
end
section
variable {P : Program} {w : World} {K : PySem.W.Frag} {mg : Str → Option Value} {base : Heap}
end
end L3
namespace L3
open PySem PySem.Spec PyProof.Rows L2
section
variable {K : PySem.W.Frag} {A B H : Hp} {O : List Fl} {σ : L2.St} {Γ : Ev}
end
section
variable {K : PySem.W.Frag} {O Ob O1 : List Fl} {tn : List Str} {ix is : List Nat} {it : MI} {g : MG} {f : List PyData → Res PyData} {ms : List ME}
end
section
variable {X : Cx} {O Ob O1 Ol O' : List Fl} {scope : Scope} {is : List Nat} {it : MI} {g : MG} {m1 : ME} {f : List PyData → Res PyData} {ms : List ME} {e1 elt tg iter : Expr} {nt : Nat}
end
end L3
namespace L3
open PySem PySem.Spec PyProof.Rows L2
section
variable {X : Cx}
end
noncomputable abbrev MZ := Ev → Res Str
section
variable {X : Cx} {K : PySem.W.Frag} {rm : Rm} {Ol O O1 O2 : List Fl} {XE : Str → Hp → Prop} {m1 : MS} {m : ME} {z z1 z2 : MZ} {c : Expr} {st : Stmt} {rest a b : List Stmt} {pos : Pos}
end
section
variable {P : Program} {w : World} {K : PySem.W.Frag} {mg : Str → Option Value} {base : Heap}
end
end L3
namespace L3
open PySem PySem.Spec PyProof.Rows L2
section
variable {X : Cx} {pins : List (Addr × Obj)} {σ : L2.St} {H : Hp} {s : Shared} {O : List Fl} {Γ : Ev} {A B : Hp}
end
section
variable {M : Model} {A : Around} {E : Value → Shared → Prop} {K : PySem.W.Frag}
end
section
variable {X : Cx} {pins : List (Addr × Obj)} {σ : L2.St} {H : Hp} {s : Shared} {ea : Addr} {ob : Obj}
end
end L3
namespace L3
open PySem PySem.Spec PyProof.Rows L2
section
variable {X : Cx} {pins : List (Addr × Obj)} {σ : L2.St} {H : Hp} {s : Shared}
end
section
variable {X : Cx} {pins : List (Addr × Obj)} {σ : L2.St} {H : Hp} {s : Shared}
end
section
variable {X : Cx} {ea C : Addr} {ob : Obj}
end
section
variable {X : Cx} {k : Nat} {fn : Str} {ps : List Str} {fs : List Fl} {f : List PyData → Res PyData} {zf : List PyData → Res Str} {O Ol : List Fl} {rm : Rm} {ms : List ME} {pf pc pos px pa : Pos} {e : Expr} {es : List Expr}
end
end L3
namespace L3
open PySem PySem.Spec PyProof.Rows L2
end L3
namespace L3
open PySem PySem.Spec PyProof.Rows L2
end L3
namespace L3
open PySem PySem.Spec PyProof.Rows L2
theorem Pk.isL {K : PySem.W.Frag} {A H : Hp} {d : PyData} {v : V} (ha : Same A H) (c : d.canLay0 = true) (h : Pk K A H d v) : Is K H d v := by
  rcases h with h | ⟨p, vs, ds', e1, e2, h1, h2⟩ | ⟨p, u, kvs, e1, e2, h1, h2⟩
  rotate_right
  · subst e2
    rw [PyData.canLay0] at c
    cases c
  · exact Is.mono ha d (Rp.is d c h)
  · subst e2
    rw [Is]
    rw [PyData.canLay0] at c
    exact ⟨p, vs, e1, h1, IsAll.mono ha ds' (RpAll.is ds' c h2)⟩
end L3
namespace L2
open PySem PySem.Spec PyProof.Rows
open Builtin Builtin.Str
noncomputable def IsRvs (h : Heap) (a l : Addr) (i : Int) : Prop := ∃ o, h.get? a = some o ∧ o.cls = .type "reversed" ∧ o.data = .fields #[.ref l, rawInt i]
theorem IsRvs.typeIs {s : Shared} {a l : Addr} {i : Int} (x : IsRvs s.heap a l i) : s.TypeIs (.ref a) "reversed" := let ⟨o, ho, hc, _⟩ := x; ⟨o, ho, hc⟩
section
variable {prog : Program} {w : World} {A : Around} {E : Value → Shared → Prop} {s : Shared}
end
section
variable {X : Cx} {tg : Expr}
end
end L2
namespace L3
open PySem PySem.Spec PyProof.Rows L2
section
variable {X : Cx} {O : List Fl} {m m' : ME} {e a b tg : Expr} {pos p : Pos}
end
section
variable {X : Cx} {rm : Rm} {Ol O O' : List Fl} {is : List Nat} {g : MG} {tg : Expr} {p apos cpos pos : Pos}
end
end L3
namespace L2
open PySem PySem.Spec PyProof.Rows
end L2
namespace L3
open PySem PySem.Spec PyProof.Rows L2
noncomputable def NoLst (K : PySem.W.Frag) : Prop := ∀ a o, K.lookup a = some o → o.cls ≠ .type "list"
noncomputable def noLstB (K : PySem.W.Frag) : Bool := K.all fun q => !(q.2.cls == .type "list")
theorem NoLst.of {K : PySem.W.Frag} (h : noLstB K = true) : NoLst K := fun a o e hc => by
  unfold noLstB at h
  rw [List.all_eq_true] at h
  have hm : (a, o) ∈ K := by
    clear h
    induction K with
    | nil => cases e
    | cons q K ih =>
      obtain ⟨b, u⟩ := q
      rw [List.lookup_cons] at e
      split at e
      · rename_i hb
        cases e
        rw [eq_of_beq hb]; exact List.mem_cons_self
      · exact List.mem_cons_of_mem _ (ih e)
  have := h _ hm
  rw [hc] at this
  simp at this
section
variable {X : Cx} {k : Nat} {x : Str} {ps : List Str} {fs : List Fl} {f : List PyData → Res PyData} {O : List Fl} {ms : List ME} {p pos : Pos} {e : Expr} {es : List Expr}
end
section
variable {X : Cx} {K : PySem.W.Frag} {rm : Rm} {Ol O O' : List Fl} {m1 m2 : MS} {sts : List Stmt}
end
end L3
namespace L2
open PySem PySem.Spec PyProof.Rows
noncomputable def ItrS (lo c : Int) (n : Nat) : It := ⟨fun i _ => i < n, fun i H x H' => H' = H ∧ x = .int (lo + i * c), fun i _ => n ≤ i⟩
theorem turn_rangeS {P : Program} {w : World} {K : PySem.W.Frag} {tg : Expr} (it : Addr) (lo c : Int) (n : Nat) : Turn P w K tg (ItrS lo c n) [it] it (fun i h => IsRangeIter h it (lo + (i : Nat) * c) ((n : Int) - (i : Nat)) c) where
  mem := by simp
  obj := fun i h st b hb => by
    have e : b = it := by simpa using hb
    subst e
    exact ⟨_, st, fun v z => by
      have z' : Data.fields _ = Data.cell v := z
      cases z'⟩
  keep := fun i h h' st k => k it (by simp) _ st
  item := by
    intro X hP hw hK hc i pins s σ H E I hf st hg
    subst hP hw hK
    obtain ⟨f0, f1, f2, f3, f4, f5⟩ := hf it (by simp)
    have W := Walks.range (prog := X.prog) (w := X.w) (I.ok.hd hc) it lo c n
    refine W.item i s _ _ hg st fun v h' tk hv st' kk => ?_
    obtain ⟨t, rfl⟩ := hv
    have I1 : Inv X pins σ H { s with heap := h', toks := tk } := I.turned (fun b o hb e => kk b o (by simpa using hb) e) f0 f1 f3 f4 f5
    refine ⟨_, rfl, go_of (s := { s with heap := h', toks := tk }) (n := "range_iterator") st' rfl rfl (by decide) ⟨.int (lo + i * c), H, I1, ⟨t, rfl⟩, ⟨rfl, rfl⟩, st', fun b hb => (hf b hb).1⟩⟩
  done := by
    intro X hP hw hK hc i pins s σ H E I hf st hg
    subst hP hw hK
    obtain ⟨f0, f1, f2, f3, f4, f5⟩ := hf it (by simp)
    exact wpAny_pyNext_range_end (I.ok.hd hc) st (by have : n ≤ i := hg; omega) fun h' eb => ⟨rfl, I.turned (t' := s.toks) (fun b o hb e => eb b o hb e) f0 f1 f3 f4 f5⟩
  self := fun _ _ _ _ _ st h => wpAny_pyIter_rangeiter st h
section
variable {X : Cx} {tg : Expr}
theorem range_itS {pins : List (Addr × Obj)} {σ : St} {H : Hp} {s : Shared} {R : It → Hp → Prop} {E : Value → Shared → Prop} {lo hi c : Int} {t u v : Tok} {tk : Nat} (I : Inv X pins σ H s) (hs : Builtin.Range.small lo hi c = true) (h0 : 0 ≤ Builtin.Range.rangeSize lo hi c)
    (q : R (ItrS lo c (Builtin.Range.rangeSize lo hi c).toNat) H) : wpAny (model X.prog X.w) X.A (pyIter (.ref s.heap.objs.size)) (PIE X pins σ tg R) E { s with heap := s.heap.push { cls := .type "range", data := .fields #[.int lo t, .int hi u, .int c v] }, toks := tk } := by
  refine wpAny_pyIter_range (IsRange.new ..) hs ?_
  have I1 : Inv X pins σ H { s with heap := s.heap.push { cls := .type "range", data := .fields #[.int lo t, .int hi u, .int c v] }, toks := tk } := I.kept fun b o e => Heap.get?_push_of_some _ e
  refine ⟨(s.heap.push { cls := .type "range", data := .fields #[.int lo t, .int hi u, .int c v] }).objs.size, [(s.heap.push { cls := .type "range", data := .fields #[.int lo t, .int hi u, .int c v] }).objs.size], _, _, H, rfl,
    I1.kept (t' := tk) fun b o e => Heap.get?_push_of_some _ e, turn_rangeS _ lo c (Builtin.Range.rangeSize lo hi c).toNat, ?_, fun b hb => ?_, q⟩
  · have e1 : lo + ((0 : Nat) : Int) * c = lo := by simp
    have e2 : (((Builtin.Range.rangeSize lo hi c).toNat : Nat) : Int) - ((0 : Nat) : Int) = Builtin.Range.rangeSize lo hi c := by omega
    show IsRangeIter _ _ (lo + ((0 : Nat) : Int) * c) ((((Builtin.Range.rangeSize lo hi c).toNat : Nat) : Int) - ((0 : Nat) : Int)) c
    rw [e1, e2]
    exact Heap.get?_push_size _ rfl
  · have e : b = (s.heap.push { cls := .type "range", data := .fields #[.int lo t, .int hi u, .int c v] }).objs.size := by simpa using hb
    subst e
    exact I1.fpOk (Nat.le_refl _) (I1.hok.fresh (Nat.le_refl _))
noncomputable def iRng3 (ta : TA) : TI := fun σ H R => ta σ H fun vs H1 => ∃ i j c : Int, vs = [.int i, .int j, .int c] ∧ (c ≠ 0 ∧ c.natAbs < 1073741824 ∧ Builtin.Range.small i j c = true ∧ 0 ≤ Builtin.Range.rangeSize i j c) ∧ R (ItrS i c (Builtin.Range.rangeSize i j c).toNat) H1
theorem pi_range3 {a b c : Expr} {ta : TA} {p pos : Pos} (hg : Gl X "range") (hm : X.mg "range" = none) (ha : PA X [a, b, c] ta) (hs : starEach [a, b, c] X.env = [(false, eval a X.env), (false, eval b X.env), (false, eval c X.env)] := by rfl) (hs2 : starEach [b, c] X.env = [(false, eval b X.env), (false, eval c X.env)] := by rfl) :
    PI X tg (.Call (.Name "range" p) [a, b, c] [] pos) (iRng3 ta) := by
  intro pins s σ H R I h
  refine Call_ (ld_blt I hg hm boot_range (PyProof.Rows.callWith_type1 (thn (ha pos pins s σ H _ I h) fun us s1 hq__ => ?_) (by rw [hs, hs2]) (by rw [hs2]; rfl)))
  obtain ⟨vs, H1, I1, r1, q1⟩ := hq__
  obtain ⟨i, j, k, e, ⟨q0, q1, q2, q3⟩, q⟩ := q1
  subst e
  cases r1 with
  | cons r rr =>
    cases rr with
    | cons r' rr =>
      cases rr with
      | cons r'' rr =>
        cases rr
        obtain ⟨t, rfl⟩ := r
        obtain ⟨t', rfl⟩ := r'
        obtain ⟨t'', rfl⟩ := r''
        exact call_range_3 q0 (range_itS I1 q2 q3 q) (.inl (PyProof.noPylong_small q1))
end
end L2
namespace L3
open PySem PySem.Spec PyProof.Rows L2
section
variable {X : Cx} {O : List Fl} {m m' m'' : ME} {e a b c tg : Expr} {pos p : Pos} {K : PySem.W.Frag} {A B : Hp}
theorem it_rangeS (lo c : Int) (n : Nat) : ItOk K A B (ItrS lo c n) ((List.range n).map fun i => PyData.int (lo + (i : Nat) * c)) := by
  have hl : ((List.range n).map fun i => PyData.int (lo + (i : Nat) * c)).length = n := by rw [List.length_map, List.length_range]
  refine ⟨fun i H _ _ hi => (by rw [hl] at hi; exact hi), fun H _ _ => (by rw [hl]; exact Nat.le_refl _), fun i A2 H x H' sa s1 s2 hi y => ?_⟩
  obtain ⟨rfl, rfl⟩ := y
  rw [hl] at hi
  exact ⟨A2, .int (lo + (i : Nat) * c), by rw [List.getElem?_map, List.getElem?_range hi]; rfl, Grow.refl s1, Rp.int.mpr rfl⟩
noncomputable def rng3 (d d' d'' : PyData) : Res (List PyData) := match d, d', d'' with
  | .int i, .int j, .int c => gd (c ≠ 0 ∧ c.natAbs < 1073741824 ∧ Builtin.Range.small i j c = true ∧ 0 ≤ Builtin.Range.rangeSize i j c) (.ok ((List.range (Builtin.Range.rangeSize i j c).toNat).map fun k => PyData.int (i + (k : Nat) * c)))
  | _, _, _ => .bad
noncomputable def itR3 (m m' m'' : ME) : MI := fun Γ => (m Γ).bind fun d => (m' Γ).bind fun d' => (m'' Γ).bind fun d'' => rng3 d d' d''
theorem rng3_ok {d d' d'' : PyData} {xs : List PyData} (h : rng3 d d' d'' = .ok xs) : ∃ i j c : Int, d = .int i ∧ d' = .int j ∧ d'' = .int c ∧ (c ≠ 0 ∧ c.natAbs < 1073741824 ∧ Builtin.Range.small i j c = true ∧ 0 ≤ Builtin.Range.rangeSize i j c) ∧ xs = (List.range (Builtin.Range.rangeSize i j c).toNat).map fun k => PyData.int (i + (k : Nat) * c) := by
  unfold rng3 at h
  split at h
  · obtain ⟨hc, em⟩ := gd_ok h
    cases em
    exact ⟨_, _, _, rfl, rfl, rfl, hc, rfl⟩
  · cases h
theorem sc_range3 (hg : Gl X "range") (hm : X.mg "range" = none) (ha : QE X a (tP X.K O m)) (hb : QE X b (tP X.K O m')) (hc : QE X c (tP X.K O m'')) (hs : starEach [a, b, c] X.env = [(false, eval a X.env), (false, eval b X.env), (false, eval c X.env)] := by rfl) (hs2 : starEach [b, c] X.env = [(false, eval b X.env), (false, eval c X.env)] := by rfl) (hs3 : starEach [c] X.env = [(false, eval c X.env)] := by rfl) :
    QI X tg (.Call (.Name "range" p) [a, b, c] [] pos) (tIc X.K O (itR3 m m' m'')) :=
  QI.imp (pi_range3 hg hm (pa_cons ha.h (pa_cons hb.h (pa_cons hc.h pa_nil hs3) (by rw [hs2, hs3])) (by rw [hs, hs2])) hs hs2) fun σ H R hq__ => by
    obtain ⟨A, B, Γ, xs, r, em, k⟩ := hq__
    obtain ⟨d, e1, em⟩ := Res.bind_ok em
    obtain ⟨d', e2, em⟩ := Res.bind_ok em
    obtain ⟨d'', e3, em⟩ := Res.bind_ok em
    obtain ⟨i, j, s, rfl, rfl, rfl, hc, rfl⟩ := rng3_ok em
    exact ⟨A, B, Γ, _, r, e1, fun v A1 H1 g1 p1 => ⟨A1, B, Γ, _, r.grow g1, e2, fun v' A2 H2 g2 p2 => ⟨A2, B, Γ, _, (r.grow g1).grow g2, e3, fun v'' A3 H3 g3 p3 => ⟨i, j, s, by rw [p1.int, p2.int, p3.int], hc, k _ A3 H3 ((g1.trans g2).trans g3) (it_rangeS i s _)⟩⟩⟩⟩
noncomputable def invD : PyData → Res PyData
  | .int a => .ok (.int (Builtin.bitNot a))
  | _ => .bad
theorem se_inv {a : Expr} (ha : QE X a (tP K O m)) : QE X (.UnaryOp .Invert a pos) (tE K O (eUn invD m)) := se_un un_inv (fun A H d1 d x Q e hA p k => by
  cases d1 with
  | int i => cases e; exact ⟨i, p.int, k _ A H (Grow.refl hA) (Rp.int.mpr rfl)⟩
  | _ => cases e) ha
end
end L3
namespace L2
open PySem
noncomputable def Rising (xs : Array Nat) : Prop := xs.toList.Pairwise (· < ·)
structure TabOk (led : Bool) (t : SetTable) : Prop where
  up : Rising t.place
  led : t.led = led
end L2
namespace L2
open PySem
theorem runEnd_sub (mask i : Nat) : SetTable.runEnd mask i - i ≤ 9 := by
  unfold SetTable.runEnd; split <;> omega
structure PrOk (t : SetTable) (p : SetTable.Probe) : Prop where
  more : p.more ≤ 9
  pert : p.perturb < 2 ^ 64
  dum : p.dummy = none
theorem PrOk.start {t : SetTable} {h : Int} : PrOk t (t.probeStart h) := by
  refine ⟨runEnd_sub _ _, ?_, rfl⟩
  show SetTable.bits h < 2 ^ 64
  unfold SetTable.bits
  have := Int.emod_lt_of_pos h (show (0 : Int) < 2 ^ 64 by decide)
  have := Int.emod_nonneg h (show ((2 : Int) ^ 64) ≠ 0 by decide)
  omega
structure TbOk (t : SetTable) : Prop where
  pw : ∃ k, t.mask + 1 = 2 ^ k ∧ k ≤ 12
  odd : t.mask % 2 = 1
  nd : t.dummies = #[]
  room : t.place.size ≤ t.mask
end L2
namespace L2
open PySem
end L2
namespace L2
open PySem PySem.Spec PyProof.Rows
noncomputable def valI : Value → Int
  | .int k _ => k
  | _ => 0
noncomputable def ledW (w : World) : Bool := !(w.params.followText "set-order")
noncomputable def setObj (es : Array (Int × Value)) (ep : Nat) (t : SetTable) : Obj := { cls := .type "set", dict := none, data := .set es ep t, slots := #[] }
structure SetRec (P : Program) (w : World) (es : Array (Int × Value)) (t : SetTable) (ks : List Int) : Prop where
  el : ElemsOf (intKind P w) es.toList
  tab : TabOk (ledW w) t
  fit : t.fits es.size = true
  pm : (es.toList.map fun e => valI e.2).Perm ks
noncomputable def SetAt (P : Program) (w : World) (h : Heap) (a : Addr) (ks : List Int) : Prop := ∃ es ep t, h.get? a = some (setObj es ep t) ∧ SetRec P w es t ks
section
variable {P : Program} {w : World} {A : Around} {E : Value → Shared → Prop} {s : Shared}
theorem SetAt.typeIs {a : Addr} {ks : List Int} (x : SetAt P w s.heap a ks) : s.TypeIs (.ref a) "set" := by
  obtain ⟨es, ep, t, g, r⟩ := x
  exact ⟨_, g, rfl⟩
theorem SetRec.perm {es es' : Array (Int × Value)} {t t' : SetTable} {ks : List Int} (r : SetRec P w es t ks) (hp : es'.toList.Perm es.toList) (ht : TabOk (ledW w) t') (hf : t'.fits es'.size = true) : SetRec P w es' t' ks :=
  ⟨r.el.perm hp, ht, hf, (hp.map _).trans r.pm⟩
end
end L2
namespace L2
open PySem PySem.Spec PyProof.Rows
section
variable {P : Program} {w : World} {A : Around} {R : Result → Shared → Prop} {I : Addr} {fp wr : List Addr} {G : Array GenState → Array GenState → Prop} {n : Nat} {Pv : Nat → Value → Prop} {St : Nat → Shared → Prop}
end
section
variable {P : Program} {w : World} {A : Around} {E : Value → Shared → Prop} {s : Shared}
theorem intAt : ∀ {vs : List Value} {ns : List Int}, IntsAre vs ns → ∀ {i : Nat} {v : Value}, vs[i]? = some v → ∃ t, v = .int (ns.getD i 0) t
  | _, _, .nil, i, v, h => by simp at h
  | _, _, .cons n t r, 0, v, h => ⟨t, by rw [← Option.some.inj h]; rfl⟩
  | _, _, .cons n t r, i + 1, v, h => intAt r (by simpa using h)
theorem intsLen : ∀ {vs : List Value} {ns : List Int}, IntsAre vs ns → vs.length = ns.length
  | _, _, .nil => rfl
  | _, _, .cons n t r => by rw [List.length_cons, List.length_cons, intsLen r]
structure Walked (P : Program) (w : World) (A : Around) (s : Shared) (l : Addr) (T : String) (ns : List Int) : Prop where
  ty : s.TypeIs (.ref l) T
  n1 : isSubtype (.type T) (.type "set") = pure false
  n2 : isSubtype (.type T) (.type "frozenset") = pure false
  n3 : (Value.type T == Value.type "dict") = false
  it : ∀ (s' : Shared) (Q : Value → Shared → Prop) (E : Value → Shared → Prop) (A' : Around), A'.handled = none → (∀ b o, s.heap.get? b = some o → s'.heap.get? b = some o) →
    (∀ (h' : Heap) (fp wr : List Addr) (Pv : Nat → Value → Prop) (St : Nat → Shared → Prop), (∀ b o, s'.heap.get? b = some o → h'.get? b = some o) → (∀ b ∈ fp, b = s'.heap.objs.size ∨ b < s.heap.objs.size) → (∀ b ∈ wr, s'.heap.objs.size ≤ b) →
      (∀ A2 : Around, A2.handled = none → WalksS P w A2 s'.heap.objs.size fp wr (fun a b => b = a) ns.length Pv St) → (∀ i v, i < ns.length → Pv i v → ∃ t, v = .int (ns.getD i 0) t) → St 0 { s' with heap := h' } → Q (.ref s'.heap.objs.size) { s' with heap := h' }) →
    wpAny (model P w) A' (pyIter (.ref l)) Q E s'
theorem Walked.tuple {l : Addr} {items : Array Value} {ns : List Int} (hl : s.heap.IsTuple l items) (hi : IntsAre items.toList ns) : Walked P w A s l "tuple" ns where
  ty := hl.typeIs
  n1 := by rw [isSubtype_type]; kernel_rfl
  n2 := by rw [isSubtype_type]; kernel_rfl
  n3 := by decide
  it := fun s' Q E A' hh hk hQ => by
    have hl' : s'.heap.IsTuple l items := by
      obtain ⟨o, ho, r⟩ := hl
      exact ⟨o, hk _ _ ho, r⟩
    have hlt : l < s'.heap.objs.size := by obtain ⟨o, ho, r⟩ := hl'; exact Heap.lt_size ho
    have hls : l < s.heap.objs.size := by obtain ⟨o, ho, r⟩ := hl; exact Heap.lt_size ho
    have en : ns.length = items.size := by rw [← intsLen hi, Array.length_toList]
    refine wpAny_pyIter_tuple hl' (hQ _ [s'.heap.objs.size, l] [s'.heap.objs.size] (fun i v => items[i]? = some v) (fun i s2 => s2.heap.IsTupleIter s'.heap.objs.size l i ∧ s2.heap.IsTuple l items) (fun b o e => Heap.get?_push_of_some _ e) (fun b hb => ?_) (fun b hb => ?_) (fun A2 h2 => ?_) (fun i v _ hv => ?_) ⟨⟨_, Heap.get?_push_size _ rfl, rfl, rfl⟩, hl'.push _⟩)
    · rcases List.mem_cons.mp hb with z | z
      · exact .inl z
      · exact .inr (by rw [List.mem_singleton.mp z]; exact hls)
    · rw [List.mem_singleton.mp hb]; exact Nat.le_refl _
    · rw [en]; exact (Walks.tuple h2 _ l (Nat.ne_of_lt hlt) items).toS
    · exact intAt hi (by rw [Array.getElem?_toList]; exact hv)
end
end L2
namespace L2
open PySem PySem.Spec PyProof.Rows
structure Grown (s s' : Shared) : Prop where
  heap : ∀ b o, s.heap.get? b = some o → s'.heap.get? b = some o
  gens : s'.gens = s.gens
  os : s'.os = s.os
theorem Grown.trans {a b c : Shared} (x : Grown a b) (y : Grown b c) : Grown a c := ⟨fun p o e => y.heap p o (x.heap p o e), y.gens.trans x.gens, y.os.trans x.os⟩
section
variable {P : Program} {w : World} {A : Around} {E : Value → Shared → Prop} {s : Shared}
end
end L2
namespace L2
open PySem PySem.Spec PyProof.Rows
section
variable {X : Cx} {pins : List (Addr × Obj)} {σ : St} {H : Hp} {s s' : Shared}
variable {e : Expr} {ta : TA} {p pos : Pos}
end
end L2
namespace L3
open PySem PySem.Spec PyProof.Rows L2
section
variable {X : Cx} {O : List Fl} {m : ME} {e : Expr} {p p2 pos pos2 : Pos}
end
end L3
namespace L2
open PySem PySem.Spec PyProof.Rows
section
variable {P : Program} {w : World} {A : Around} {E : Value → Shared → Prop} {s : Shared}
end
end L2
namespace L2
open PySem PySem.Spec PyProof.Rows
section
variable {P : Program} {w : World} {A : Around} {E : Value → Shared → Prop} {s : Shared}
end
end L2
namespace L2
open PySem PySem.Spec PyProof.Rows
section
variable {P : Program} {w : World} {A : Around} {E : Value → Shared → Prop} {s : Shared}
end
end L2
namespace L2
open PySem PySem.Spec PyProof.Rows
section
variable {P : Program} {w : World} {A : Around} {E : Value → Shared → Prop} {s : Shared}
end
end L2
namespace L2
open PySem PySem.Spec PyProof.Rows
section
variable {X : Cx} {a b : Expr} {pos : Pos}
end
end L2
namespace L3
open PySem PySem.Spec PyProof.Rows L2
section
variable {X : Cx} {O : List Fl} {m m' : ME} {e e' : Expr} {p p2 p3 pos pos2 pos3 pos4 : Pos}
end
end L3
namespace L2
open PySem PySem.Spec PyProof.Rows
section
variable {P : Program} {w : World} {A : Around} {E : Value → Shared → Prop} {s : Shared}
end
end L2
namespace L3
open PySem PySem.Spec PyProof.Rows L2
section
variable {X : Cx} {rm : Rm} {Ol O : List Fl} {m m' : ME} {e a b : Expr} {pos p apos cpos : Pos}
end
end L3
namespace L3
open PySem PySem.Spec PyProof.Rows L2
section
variable {P : Program} {w : World} {K : PySem.W.Frag} {mg : Str → Option Value} {base : Heap}
end
end L3
namespace L3
open PySem PySem.Spec PyProof.Rows L2
noncomputable def lookT (k : Str) : List (Str × PyData) → Option PyData
  | [] => none
  | (x, d) :: D => if k = x then some d else lookT k D
inductive TabRows (K : PySem.W.Frag) : List DictEntry → List (Str × PyData) → Prop
  | nil : TabRows K [] []
  | cons {e : DictEntry} {x : Str} {t : Tok} {d : PyData} {v : V} {es : List DictEntry} {D : List (Str × PyData)} : e.key = .str x t → RelV v e.val → (∀ A, Rp K A d v) → TabRows K es D → TabRows K (e :: es) ((x, d) :: D)
noncomputable def TabK (K : PySem.W.Frag) (a : Addr) (D : List (Str × PyData)) : Prop := (a == sysModules) = false ∧ ∃ o es ep, K.lookup a = some o ∧ o.ExactDict ∧ o.data = .dict es ep ∧ TabRows K es.toList D
theorem TabRows.exact {K : PySem.W.Frag} {es : List DictEntry} {D : List (Str × PyData)} (h : TabRows K es D) : (es.all fun e => isExactStrKey e.key) = true := by
  induction h with
  | nil => rfl
  | cons hk _ _ _ ih => rw [List.all_cons, ih, hk]; rfl
theorem TabRows.find {K : PySem.W.Frag} {es : List DictEntry} {D : List (Str × PyData)} (h : TabRows K es D) {k : Str} {d : PyData} (hd : lookT k D = some d) : ∃ i e v, es.findIdx? (fun e => e.key.isStr k) = some i ∧ es[i]? = some e ∧ RelV v e.val ∧ ∀ A, Rp K A d v := by
  induction h with
  | nil => cases hd
  | @cons e x t d' v es D hk hv hr hrest ih =>
    unfold lookT at hd
    by_cases hkx : k = x
    · rw [if_pos hkx] at hd
      cases hd
      refine ⟨0, e, v, ?_, rfl, hv, hr⟩
      rw [List.findIdx?_cons, hk]
      simp [Value.isStr, hkx]
    · rw [if_neg hkx] at hd
      obtain ⟨i, e', v', h1, h2, h3, h4⟩ := ih hd
      refine ⟨i + 1, e', v', ?_, by simpa using h2, h3, h4⟩
      rw [List.findIdx?_cons, hk]
      have : (Value.str x t).isStr k = false := by simp [Value.isStr]; exact fun z => hkx z.symm
      rw [this, h1]
      rfl
noncomputable def rTab (K : PySem.W.Frag) (D : List (Str × PyData)) : R2 := fun x y H Q => ∃ a k d, x = .ref a ∧ y = .str k ∧ TabK K a D ∧ lookT k D = some d ∧ ∀ v, (∀ A, Rp K A d v) → Q v H
section
variable {X : Cx} {D : List (Str × PyData)}
theorem ix_tab : IxR X (rTab X.K D) := by
  intro value slice pins s σ H x y v u Q I rx ry h hs
  obtain ⟨a, k, d, rfl, rfl, ⟨hsys, o, es, ep, hk, hex, hd, hr⟩, hl, q⟩ := h
  cases rx
  obtain ⟨tk, rfl⟩ : ∃ tk, u = .str k tk := ry
  have hh := I.kIn a o hk
  have hT : s.TypeIs (.ref a) "dict" := ⟨o, hh, hex.1⟩
  obtain ⟨i, e, w, hf, hi, rw', rp⟩ := hr.find hl
  have hfa : es.findIdx? (fun e => e.key.isStr k) = some i := by
    obtain ⟨l⟩ := es
    simpa using hf
  have hia : es[i]? = some e := by
    obtain ⟨l⟩ := es
    simpa using hi
  have get : wpAny (model X.prog X.w) X.A.in1 (dictGet a (.str k tk)) (fun r s₁ => r = some e.val ∧ s₁ = { s with toks := s.toks + 1 }) X.xe s := by
    unfold dictGet
    try with_reducible refine wpAny_holding ?_
    refine wpAny_bind (wpAny_pyHash_str (wpAny_bind (KTD.kt_dictFind_strs (s := { s with toks := s.toks + 1 }) hh hd (by obtain ⟨l⟩ := es; simpa using hr.exact) ?_)))
    rw [hfa]
    refine wpAny_bind (wpAny_dictEntries (s := { s with toks := s.toks + 1 }) hh hd (wpAny_pure ?_))
    simp [hia]
  have item : wpAny (model X.prog X.w) X.A (getItem (.ref a) (.str k tk)) (EP X pins σ Q) X.xe s := by
    unfold getItem
    try with_reducible refine wpAny_holding ?_
    refine wpAny_bind (wpAny_sequenceKey hT (by decide) ?_)
    refine wpAny_bind (wpAny_callSpecial?_slot (name := Str.ofString "__getitem__") hT slot_dict_getitem
      (wpAny_call_entry slot_dict_getitem hT entry_dict_getitem ?_ (args_dict_getitem _ _)))
    show wpAny _ _ (dictGet a (.str k tk) >>= _) _ _ s
    refine wpAny_bind (wpAny_mono get (fun r s₁ h₁ => ?_) fun _ _ x => x)
    obtain ⟨rfl, rfl⟩ := h₁
    exact wpAny_pure ⟨e.val, rfl, wpAny_pure ⟨w, H, I.tok _, rw', q w rp⟩⟩
  unfold subscriptTail
  refine wpAny_bind ?_
  rw [getitemInPython_of_ne hT.not_modules]
  refine wpAny_bind (wpAny_specialOf hT PySem.F.slot_dict_getitem.lookup ?_)
  have fin : wpAny (model X.prog X.w) X.A (subscripted slice false (.ref a) (.str k tk)) (fun r s₃ => wpAny (model X.prog X.w) X.A (letTemporaryGo value (.ref a) r >>= fun _ => pure r) (EP X pins σ Q) X.xe s₃) X.xe s := by
    rw [hs]
    exact wpAny_operating (wpAny_mono item (fun r s₃ h₃ => wpAny_bind (wpAny_letTemporaryGo (wpAny_pure h₃))) fun _ _ x => x)
  first
    | exact wpAny_pure (wpAny_bind fin)
    | exact wpAny_bind (wpAny_pure (wpAny_bind fin))
    | exact wpAny_bind fin
noncomputable def tabD (D : List (Str × PyData)) : PyData → Res PyData
  | .str k => (match lookT k D with | some d => .ok d | none => .bad)
  | _ => .bad
theorem se_tab0 {x : Str} {a : Addr} {b : Expr} {O : List Fl} {m : ME} {p pos : Pos} (hg : Gl X x) (hm : X.mg x = some (.ref a)) (T : TabK X.K a D) (hb : QE X b (tP X.K O m)) (hs : PlainIx b) (hd : (x == ("__debug__" : Str)) = false := by decide) : QE X (.Subscript (.Name x p) b pos) (tE X.K O (eUn (tabD D) m)) :=
  QE.imp (pe_ix ix_tab (pe_glob (v := .ref a) hg hm rfl hd) hb.h hs) fun σ H Q hq__ => by
    obtain ⟨A, B, Γ, d, r, em, k⟩ := hq__
    obtain ⟨d1, e1, em⟩ := Res.bind_ok em
    refine ⟨A, B, Γ, d1, r, e1, fun y A1 H1 g1 p1 => ?_⟩
    cases d1 with
    | str z =>
      have em : (match lookT z D with | some d => Res.ok d | none => .bad) = .ok d := em
      cases hl : lookT z D with
      | none => rw [hl] at em; cases em
      | some d0 =>
        rw [hl] at em
        cases em
        exact ⟨a, z, d, rfl, p1.str, T, hl, fun v hv => k v A1 H1 g1 (hv A1)⟩
    | _ => cases em
end
noncomputable def conB (K : PySem.W.Frag) : Nat → PyData → Value → Bool
  | 0, _, _ => false
  | _ + 1, .int i, .int j _ => i == j
  | _ + 1, .str x, .str y _ => x == y
  | n + 1, .tuple ds, .ref a => (match K.lookup a with
    | some o => o.cls == .type "tuple" && (match o.data with
      | .seq its _ => decide (its.size ≤ 1000) && (ds.length == its.toList.length) && (ds.zip its.toList).all fun p => conB K n p.1 p.2
      | _ => false)
    | none => false)
  | _ + 1, _, _ => false
theorem con_all {K : PySem.W.Frag} {n : Nat} (ih : ∀ d v, conB K n d v = true → ∃ x, RelV x v ∧ ∀ A, Rp K A d x) : ∀ (ds : List PyData) (us : List Value), ds.length = us.length → ((ds.zip us).all fun p => conB K n p.1 p.2) = true → ∃ xs, Vals xs us ∧ ∀ A, RpAll K A ds xs
  | [], [], _, _ => ⟨[], .nil, fun _ => RpAll.nil.mpr rfl⟩
  | d :: ds, u :: us, hl, h => by
    simp only [List.zip_cons_cons, List.all_cons, Bool.and_eq_true] at h
    obtain ⟨x, rx, hx⟩ := ih d u h.1
    obtain ⟨xs, rs, hxs⟩ := con_all ih ds us (by simpa using hl) h.2
    exact ⟨x :: xs, .cons rx rs, fun A => RpAll.cons.mpr ⟨x, xs, rfl, hx A, hxs A⟩⟩
  | [], _ :: _, hl, _ => by simp at hl
  | _ :: _, [], hl, _ => by simp at hl
theorem conB_ok {K : PySem.W.Frag} : ∀ (n : Nat) (d : PyData) (v : Value), conB K n d v = true → ∃ x, RelV x v ∧ ∀ A, Rp K A d x := by
  intro n
  induction n with
  | zero => intro d v h; simp [conB] at h
  | succ n ih =>
    intro d v h
    unfold conB at h
    split at h
    · rename_i z; cases z
    · rename_i i j t e
      have e := eq_of_beq h
      subst e
      exact ⟨.int i, ⟨_, rfl⟩, fun A => Rp.int.mpr rfl⟩
    · rename_i x y t e
      have e := eq_of_beq h
      subst e
      exact ⟨.str x, ⟨_, rfl⟩, fun A => Rp.str.mpr rfl⟩
    · rename_i m ds a e
      cases e
      split at h
      · rename_i o ho
        simp only [Bool.and_eq_true] at h
        obtain ⟨h1, h⟩ := h
        split at h
        · rename_i its sz hd
          simp only [Bool.and_eq_true, decide_eq_true_eq] at h
          obtain ⟨⟨h2, h3⟩, h4⟩ := h
          obtain ⟨xs, rs, hxs⟩ := con_all ih ds its.toList (beq_iff_eq.mp h3) h4
          exact ⟨.ref a, rfl, fun A => Rp.tuple.mpr ⟨a, xs, rfl, .inr ⟨o, its, sz, ho, beq_iff_eq.mp h1, hd, by simp only [sizeLine_eq]; omega, rs⟩, hxs A⟩⟩
        · cases h
      · cases h
    · cases h
noncomputable def rowsB (K : PySem.W.Frag) : List DictEntry → List (Str × PyData) → Bool
  | [], [] => true
  | e :: es, (x, d) :: D => (match e.key with | .str y _ => y == x | _ => false) && conB K 9 d e.val && rowsB K es D
  | _, _ => false
theorem rowsB_ok {K : PySem.W.Frag} : ∀ (es : List DictEntry) (D : List (Str × PyData)), rowsB K es D = true → TabRows K es D
  | [], [], _ => .nil
  | e :: es, (x, d) :: D, h => by
    simp only [rowsB, Bool.and_eq_true] at h
    obtain ⟨⟨h1, h2⟩, h3⟩ := h
    split at h1
    · rename_i y t hk
      have e := eq_of_beq h1
      subst e
      obtain ⟨v, rv, hv⟩ := conB_ok _ _ _ h2
      exact .cons hk rv hv (rowsB_ok es D h3)
    · cases h1
  | [], _ :: _, h => by simp [rowsB] at h
  | _ :: _, [], h => by simp [rowsB] at h
noncomputable def tabB (K : PySem.W.Frag) (a : Addr) (D : List (Str × PyData)) : Bool := !(a == sysModules) && (match K.lookup a with
  | some o => o.cls == .type "dict" && o.dict.isNone && o.slots.isEmpty && (match o.data with | .dict es _ => rowsB K es.toList D | _ => false)
  | none => false)
theorem tabB_ok {K : PySem.W.Frag} {a : Addr} {D : List (Str × PyData)} (h : tabB K a D = true) : TabK K a D := by
  simp only [tabB, Bool.and_eq_true] at h
  obtain ⟨h0, hl⟩ := h
  split at hl
  · rename_i o ho
    simp only [Bool.and_eq_true] at hl
    obtain ⟨⟨⟨e1, e2⟩, e3⟩, e4⟩ := hl
    split at e4
    · rename_i es ep hd
      exact ⟨by simpa using h0, o, es, ep, ho, ⟨beq_iff_eq.mp e1, by simpa using e2, by simpa using e3⟩, hd, rowsB_ok _ _ e4⟩
    · cases e4
  · cases hl
section
variable {X : Cx} {D : List (Str × PyData)} {O : List Fl}
theorem se_tab {x : Str} {a : Addr} {b : Expr} {m : ME} {p pos : Pos} (hg : Gl X x) (hm : X.mg x = some (.ref a)) (T : tabB X.K a D = true) (hb : QE X b (tP X.K O m)) (hs : PlainIx b) (hd : (x == ("__debug__" : Str)) = false := by decide) : QE X (.Subscript (.Name x p) b pos) (tE X.K O (eUn (tabD D) m)) := se_tab0 hg hm (tabB_ok T) hb hs hd
theorem se_con {x : Str} {u : Value} {d : PyData} {pos : Pos} (hg : Gl X x) (hm : X.mg x = some u) (r : conB X.K 9 d u = true) (hd : (x == ("__debug__" : Str)) = false := by decide) : QE X (.Name x pos) (tE X.K O (eC d)) :=
  let ⟨_, r1, r2⟩ := conB_ok _ _ _ r
  se_glob hg hm r1 r2 hd
end
end L3
namespace L3
open PySem PySem.Spec PyProof.Rows L2
inductive DRows (X : Cx) (O : List Fl) : List (Option Expr) → List Expr → List (Str × ME) → Prop
  | nil : DRows X O [] [] []
  | cons {x : Str} {v : Expr} {kj} {kp : Pos} {ks : List (Option Expr)} {vs : List Expr} {m : ME} {R : List (Str × ME)} : QE X v (tE X.K O m) → DRows X O ks vs R → DRows X O (some (.Constant (.str x) kj kp) :: ks) (v :: vs) ((x, m) :: R)
noncomputable def dTrs (K : PySem.W.Frag) (O : List Fl) (R : List (Str × ME)) : List (TE × TE) := R.map fun p => (tC (.str p.1), tE K O p.2)
section
variable {X : Cx} {O : List Fl} {ks : List (Option Expr)} {vs : List Expr} {R : List (Str × ME)}
theorem DRows.pps {pos : Pos} (h : DRows X O ks vs R) : PPs X pos ks vs (dTrs X.K O R) := by
  induction h with
  | nil => exact pps_nil
  | cons hv _ ih => exact pps_cons pe_str hv.h ih
theorem DRows.some (h : DRows X O ks vs R) : ks.all (·.isSome) = true ∧ ks.length = vs.length ∧ ks.length = R.length := by
  induction h with
  | nil => exact ⟨rfl, rfl, rfl⟩
  | cons _ _ ih => exact ⟨by rw [List.all_cons, ih.1]; rfl, by rw [List.length_cons, List.length_cons, ih.2.1], by rw [List.length_cons, List.length_cons, ih.2.2]⟩
theorem dct_walk {K : PySem.W.Frag} {σ : L2.St} : ∀ (R : List (Str × ME)) {A B H : Hp} {Γ : Ev} {d : PyData} {Q : List (V × V) → Hp → Prop}, StRep K A B H O σ Γ → eDct R Γ = .ok d →
    (∀ (us : List (Str × V)) A' H', Grow A H A' H' → us.map (·.1) = R.map (·.1) → (∃ ds, d = .dict ds ∧ RpKV K A' ds (us.map fun u => (Sum.inr u.1, u.2))) → Q (us.map fun u => (V.str u.1, u.2)) H') → tPairs (dTrs K O R) σ H Q
  | [], A, B, H, Γ, d, Q, r, em, k => by
    cases em
    exact k [] A H (Grow.refl r.a) rfl ⟨[], rfl, RpKV.nil.mpr rfl⟩
  | (x, m) :: R, A, B, H, Γ, d, Q, r, em, k => by
    obtain ⟨d1, e1, em⟩ := Res.bind_ok em
    obtain ⟨d2, e2, em⟩ := Res.bind_ok em
    refine ⟨A, B, Γ, d1, r, e1, fun v A1 H1 g1 p1 => dct_walk R (r.grow g1) e2 fun us A2 H2 g2 hk p2 => ?_⟩
    obtain ⟨ds, rfl, p2⟩ := p2
    cases em
    exact k ((x, v) :: us) A2 H2 (g1.trans g2) (by rw [List.map_cons, List.map_cons, hk]) ⟨_, rfl, RpKV.cons.mpr ⟨_, v, _, rfl, rfl, Rp.mono g2.aa d1 p1, p2⟩⟩
theorem mergeK_new : ∀ (us acc : List (Key × V)), ((acc ++ us).map (·.1)).Nodup → mergeK acc us = acc ++ us
  | [], acc, _ => by rw [List.append_nil]; rfl
  | u :: us, acc, h => by
    have hn : ¬ ((acc.any fun kv => decide (kv.1 = u.1)) = true) := fun z => by
      obtain ⟨kv, h1, h2⟩ := List.any_eq_true.mp z
      rw [List.map_append, List.map_cons, List.nodup_append] at h
      exact h.2.2 _ (List.mem_map_of_mem h1) _ List.mem_cons_self (of_decide_eq_true h2)
    show mergeK (putK acc u.1 u.2) us = _
    have : putK acc u.1 u.2 = acc ++ [u] := by unfold putK; rw [if_neg hn]
    rw [this, mergeK_new us (acc ++ [u]) (by rw [List.append_assoc]; exact h), List.append_assoc]
    rfl
theorem se_dctN {pos : Pos} (h : DRows X O ks vs R) (hn : (R.map (·.1)).Nodup) (h0 : ks ≠ []) (h15 : ks.length ≤ 15) : QE X (.Dict ks vs pos) (tE X.K O (eDct R)) :=
  QE.imp (pe_disp h.pps h.some.1 h.some.2.1 h0 h15) fun σ H Q hq__ => by
    obtain ⟨A, B, Γ, d, r, em, k⟩ := hq__
    intro p hp
    have g0 : Grow A H A (upd H p (.dK [])) := Grow.lay r.a hp
    refine dct_walk R (r.grow g0) em fun us A1 H1 g1 hk p1 => ⟨g1.hh _ _ upd_same, us.map fun u => (Sum.inr u.1, u.2), by rw [List.map_map]; rfl, ?_, ?_⟩
    · rw [List.length_map, show us.length = R.length by have := congrArg List.length hk; simpa using this, ← h.some.2.2]; exact h15
    obtain ⟨ds, rfl, p1⟩ := p1
    have em : mergeK [] (us.map fun u => ((Sum.inr u.1 : Key), u.2)) = us.map fun u => (Sum.inr u.1, u.2) := mergeK_new _ [] (by
      rw [List.nil_append, List.map_map]
      have : (us.map ((fun x : Key × V => x.1) ∘ fun u : Str × V => ((Sum.inr u.1 : Key), u.2))) = (us.map (·.1)).map Sum.inr := by rw [List.map_map]; rfl
      rw [this, hk]
      exact List.Pairwise.map _ (fun a b hab e => hab (Sum.inr.inj e)) hn)
    rw [em]
    have pa : A1 p = none := g1.4 p (r.a.free hp) (by rw [upd_same]; exact fun z => nomatch z)
    have gg : Grow A H (upd A1 p (.dK (us.map fun u => (Sum.inr u.1, u.2)))) (upd H1 p (.dK (us.map fun u => (Sum.inr u.1, u.2)))) := by
     refine ⟨(g1.aa).trans (Same.new pa _), fun b o q => ?_, fun b o q => ?_, fun b q1 q2 => ?_⟩
     · have hb : b ≠ p := ne_of_none q hp
       rw [upd_ne hb]
       exact g1.hh _ _ (by rw [upd_ne hb]; exact q)
     · by_cases hb : b = p
       · subst hb; rw [upd_same] at q ⊢; exact q
       · rw [upd_ne hb] at q ⊢; exact g1.ah _ _ q
     · have hb : b ≠ p := fun z => q2 (z ▸ hp)
       rw [upd_ne hb]
       exact g1.4 b q1 (by rw [upd_ne hb]; exact q2)
    exact k _ _ _ gg (Rp.dict.mpr ⟨p, _, rfl, .inl upd_same, RpKV.mono (Same.new pa _) ds p1⟩)
end
section
variable {X : Cx} {O Ol : List Fl} {rm : Rm} {a e : Expr} {m m' : ME} {pos : Pos}
end
end L3
namespace L3
open PySem PySem.Spec PyProof.Rows L2
section
variable {K : PySem.W.Frag} {A : Hp} {key : NKey} {kvs : List (PyData × PyData)} {us : List (NKey × V)}
end
section
variable {K : PySem.W.Frag} {A B H : Hp} {O : List Fl} {σ : L2.St} {Γ : Ev} {i : Nat}
end
end L3
namespace L3
open PySem PySem.Spec PyProof.Rows L2
section
variable {X : Cx} {rm : Rm} {Ol O : List Fl} {m m' : ME} {e a b : Expr} {pos : Pos} {i : Nat} {x : Str} {xp tpos : Pos}
end
end L3
namespace L3
open PySem PySem.Spec PyProof.Rows L2
end L3
namespace L2
open PySem PySem.Spec PyProof.Rows
section
variable {prog : Program} {w : World} {A : Around} {E : Value → Shared → Prop} {s : Shared}
end
section
variable {X : Cx} {pos : Pos}
end
end L2
namespace L3
open PySem PySem.Spec PyProof.Rows L2
section
variable {X : Cx} {O O' : List Fl} {is : List Nat} {gs : List MG} {es : List Expr} {pos : Pos}
end
end L3
namespace L2
open PySem PySem.Spec PyProof.Rows
open Builtin Builtin.Str
section
variable {X : Cx}
end
end L2
namespace L3
open PySem PySem.Spec PyProof.Rows L2
section
variable {X : Cx} {O : List Fl} {m m' : ME} {a b : Expr} {pos p : Pos} {K : PySem.W.Frag} {A B : Hp} {ds es : List PyData} {vs ws : List V} {q q' : Addr}
variable {elts : List Expr} {tpos : Pos}
end
end L3
namespace L2
open PySem PySem.Spec PyProof.Rows
open Builtin Builtin.Str
section
variable {prog : Program} {w : World} {A : Around} {E : Value → Shared → Prop} {s : Shared} {o J U c d p q : Addr} {k : Nat} {us vs : Array Value} {u v m n : Value}
end
section
variable {X : Cx}
end
end L2
namespace L3
open PySem PySem.Spec PyProof.Rows L2
section
variable {X : Cx} {O : List Fl} {m m' : ME} {a b : Expr} {pos p : Pos} {K : PySem.W.Frag} {A B : Hp} {ds es : List PyData} {vs ws : List V} {q q' : Addr}
variable {elts : List Expr} {tpos : Pos}
end
end L3
namespace L2
open PySem PySem.Spec PyProof.Rows PySem.Calls
section
variable {prog : Program} {w : World} {A : Around} {E : Value → Shared → Prop} {s : Shared}
end
end L2
namespace L2
open PySem PySem.Spec PyProof.Rows
section
variable {X : Cx} {pins : List (Addr × Obj)} {σ : St} {H : Hp} {s s' : Shared} {e : Expr} {ta : TA} {p pos : Pos}
end
end L2
namespace L3
open PySem PySem.Spec PyProof.Rows L2
section
variable {X : Cx} {O : List Fl} {m : ME} {e : Expr} {p p2 pos pos2 : Pos}
theorem RpKV.len {K : PySem.W.Frag} {A : Hp} : ∀ {kvs : List (PyData × PyData)} {u : List (Key × V)}, RpKV K A kvs u → kvs.length = u.length
  | [], u, h => by rw [RpKV.nil.mp h]; rfl
  | (k, d) :: r, u, h => by
    obtain ⟨key, v, u', rfl, _, _, h⟩ := RpKV.cons.mp h
    rw [List.length_cons, List.length_cons, RpKV.len h]
end
end L3
namespace L2
open PySem PySem.Spec PyProof.Rows
open AutoSeq1 (wpAny_loadPart')
section
variable {prog : Program} {w : World} {A : Around} {E : Value → Shared → Prop} {s : Shared}
end
end L2
namespace L3
open PySem PySem.Spec PyProof.Rows L2
section
variable {X : Cx}
end
end L3
namespace L3
open PySem PySem.Spec PyProof.Rows L2
theorem len0 {α : Type} {P : List α → Prop} (h : P []) (us : List α) (e : us.length = 0) : P us := by
  rw [List.length_eq_zero_iff.mp e]; exact h
theorem len1 {α : Type} {P : List α → Prop} (h : ∀ a0, P [a0]) (us : List α) (e : us.length = 1) : P us := by
  cases us with
  | nil => cases e
  | cons a r => exact len0 (P := fun r => P (a :: r)) (h a) r (Nat.succ.inj e)
theorem len2 {α : Type} {P : List α → Prop} (h : ∀ a0 a1, P [a0, a1]) (us : List α) (e : us.length = 2) : P us := by
  cases us with
  | nil => cases e
  | cons a r => exact len1 (P := fun r => P (a :: r)) (fun b0 => h a b0) r (Nat.succ.inj e)
theorem len3 {α : Type} {P : List α → Prop} (h : ∀ a0 a1 a2, P [a0, a1, a2]) (us : List α) (e : us.length = 3) : P us := by
  cases us with
  | nil => cases e
  | cons a r => exact len2 (P := fun r => P (a :: r)) (fun b0 b1 => h a b0 b1) r (Nat.succ.inj e)
theorem bok1 {x : Str} {st : Stmt} {ps : List Str} (h : ∀ (kV doc pm : Value) (an : Option Addr) (cdv ct : Value) (a0 : Value), bindArgs (PySem.W.fnOf x x (defArgs st) (defBody st) (defScope st) .none kV doc pm an cdv ct) ⟨[a0], []⟩ = pure (ps.zip [a0])) (hp : ps.length = 1) :
    ∀ (kV doc pm : Value) (an : Option Addr) (cdv ct : Value) (us : List Value), us.length = ps.length → bindArgs (PySem.W.fnOf x x (defArgs st) (defBody st) (defScope st) .none kV doc pm an cdv ct) ⟨us, []⟩ = pure (ps.zip us) := fun kV doc pm an cdv ct us hl =>
  len1 (P := fun us => bindArgs (PySem.W.fnOf x x (defArgs st) (defBody st) (defScope st) .none kV doc pm an cdv ct) ⟨us, []⟩ = pure (ps.zip us)) (h kV doc pm an cdv ct) us (hl.trans hp)
theorem bok2 {x : Str} {st : Stmt} {ps : List Str} (h : ∀ (kV doc pm : Value) (an : Option Addr) (cdv ct : Value) (a0 a1 : Value), bindArgs (PySem.W.fnOf x x (defArgs st) (defBody st) (defScope st) .none kV doc pm an cdv ct) ⟨[a0, a1], []⟩ = pure (ps.zip [a0, a1])) (hp : ps.length = 2) :
    ∀ (kV doc pm : Value) (an : Option Addr) (cdv ct : Value) (us : List Value), us.length = ps.length → bindArgs (PySem.W.fnOf x x (defArgs st) (defBody st) (defScope st) .none kV doc pm an cdv ct) ⟨us, []⟩ = pure (ps.zip us) := fun kV doc pm an cdv ct us hl =>
  len2 (P := fun us => bindArgs (PySem.W.fnOf x x (defArgs st) (defBody st) (defScope st) .none kV doc pm an cdv ct) ⟨us, []⟩ = pure (ps.zip us)) (h kV doc pm an cdv ct) us (hl.trans hp)
theorem bok3 {x : Str} {st : Stmt} {ps : List Str} (h : ∀ (kV doc pm : Value) (an : Option Addr) (cdv ct : Value) (a0 a1 a2 : Value), bindArgs (PySem.W.fnOf x x (defArgs st) (defBody st) (defScope st) .none kV doc pm an cdv ct) ⟨[a0, a1, a2], []⟩ = pure (ps.zip [a0, a1, a2])) (hp : ps.length = 3) :
    ∀ (kV doc pm : Value) (an : Option Addr) (cdv ct : Value) (us : List Value), us.length = ps.length → bindArgs (PySem.W.fnOf x x (defArgs st) (defBody st) (defScope st) .none kV doc pm an cdv ct) ⟨us, []⟩ = pure (ps.zip us) := fun kV doc pm an cdv ct us hl =>
  len3 (P := fun us => bindArgs (PySem.W.fnOf x x (defArgs st) (defBody st) (defScope st) .none kV doc pm an cdv ct) ⟨us, []⟩ = pure (ps.zip us)) (h kV doc pm an cdv ct) us (hl.trans hp)
section
variable {X : Cx} {O : List Fl} {m mk : ME} {a st : Expr} {p2 pos : Pos} {te ts : TE}
end
end L3
namespace L2
open PySem PySem.Spec PyProof.Rows
noncomputable def Fnd (K : PySem.W.Frag) (x : Str) (st : Stmt) : Prop := ∃ (f : Addr) (oc : Value) (od an : Option Addr) (sl : Array (Option Value)) (kV doc pm cdv ct : Value), PySem.W.nsIn K mainGlobals x = some (some (.ref f)) ∧
  K.lookup f = some ⟨oc, od, .func (PySem.W.fnOf x x (defArgs st) (defBody st) (defScope st) .none kV doc pm an cdv ct), sl⟩ ∧ PySem.W.codeIn K cdv x = true ∧ PySem.W.keepIn K (.ref f) = true
theorem Fnd.mk {K : PySem.W.Frag} {x : Str} {st : Stmt} {f : Addr} {oc : Value} {od an : Option Addr} {sl : Array (Option Value)} {kV doc pm cdv ct : Value} (a : PySem.W.nsIn K mainGlobals x = some (some (.ref f)))
    (l : K.lookup f = some ⟨oc, od, .func (PySem.W.fnOf x x (defArgs st) (defBody st) (defScope st) .none kV doc pm an cdv ct), sl⟩) (c : PySem.W.codeIn K cdv x = true) (k : PySem.W.keepIn K (.ref f) = true) : Fnd K x st := ⟨_, _, _, _, _, _, _, _, _, _, a, l, c, k⟩
theorem Fnd.at {K : PySem.W.Frag} {x : Str} {st : Stmt} {mg : Str → Option Value} {h : Heap} {ps : List Str} (F : Fnd K x st) (X : K.In h) (G : h.Ns mainGlobals mg)
    (b : ∀ (kV doc pm : Value) (an : Option Addr) (cdv ct : Value) (us : List Value), us.length = ps.length → bindArgs (PySem.W.fnOf x x (defArgs st) (defBody st) (defScope st) .none kV doc pm an cdv ct) ⟨us, []⟩ = pure (ps.zip us) := by first | exact bok1 (by intros; rfl) rfl | exact bok2 (by intros; rfl) rfl | exact bok3 (by intros; rfl) rfl | exact bok4 (by intros; rfl) rfl) : At K mg x st ps := by
  obtain ⟨f, oc, od, an, sl, kV, doc, pm, cdv, ct, a, l, c, k⟩ := F
  exact At.mk' (PySem.W.mg_of X G a) l c k b
theorem sck {N P : List Str} {sc : Scope} (a : sc.kind = .function := by rfl) (b : sc.isCoroutine = false := by rfl) (c : sc.isGenerator = false := by rfl) (d : N.Nodup := by decide +kernel) (e : N.take P.length = P := by rfl)
    (f : ∀ x ∈ P, sc.names.lookup x = some .local ∨ sc.names.lookup x = some .cell := by decide +kernel) (g : ∀ y ∈ sc.names, y.2 ≠ .free := by decide +kernel) : FnScope N P sc := ⟨a, b, c, d, e, f, g⟩
end L2
namespace L3
open PySem PySem.Spec PyProof.Rows L2
section
variable {X : Cx} {K : PySem.W.Frag} {rm : Rm} {Ol O O1 O2 : List Fl} {m m1 m2 : ME} {s1 s2 mb : MS} {e c a b tg iter : Expr} {es : List Expr} {st : Stmt} {rest body : List Stmt} {p pos : Pos} {it : MI} {g : MG} {gs : List MG} {mc : ME} {is js : List Nat} {k n : Nat} {x : Str} {ps : List Str} {fs : List Fl} {f : List PyData → Res PyData} {ms : List ME}
theorem ss_c (h1 : QS X st (tS K rm Ol O O s1)) (h2 : QSs X rest (tS K rm Ol O O2 s2)) : QSs X (st :: rest) (tS K rm Ol O O2 (sSeq s1 s2)) := ss_cons h1 h2
theorem sgs_c (h1 : QG X e (tG X.K O O is g)) (h2 : QGs X es (tGs X.K O O2 js gs)) (hs : (assignEach (e :: es) X.env).map (·.2) = assign e X.env :: (assignEach es X.env).map (·.2) := by rfl) : QGs X (e :: es) (tGs X.K O O2 (is ++ js) (g :: gs)) := sgs_cons h1 h2 hs
theorem ss_fO (cl : List Nat) (hi : QI X tg iter (tI X.K O it)) (hg : QG X tg (tG X.K O O is g)) (hb : QSs X body (tS X.K rm O O O mb)) (hp : PassesOwn (model X.prog X.w) X.A X.env X.xe := by exact PassesOwn.never) (hc : X.calm = true := by rfl) (hE : clrOk O O cl = true := by decide)
    (hs : ∀ x, foldedSetIterable iter X.env x = pure x := by intro _; rfl) : QS X (.For tg iter body [] pos) (tS X.K rm Ol O O (sFor it g cl mb)) := ss_for hp hc cl hi hg hb hE hs
theorem ss_sA (i : Nat) {pos' : Pos} (hN : X.N.Nodup) (he : QE X e (tE K O m)) (hi : X.N[i]? = some x := by rfl) (hx : Loc X.env.scope x := by first | exact .inl rfl | exact .inr rfl) (hl : i < O.length := by exact of_decide_eq_true rfl) (hs : swapsWith e (some (.Name x pos')) pos.line X.env = pure false := by rfl)
    (hf : X.fn x = true ∨ X.env.scope.names.lookup x = some .local := by first | exact .inl rfl | exact .inr rfl | assumption) (hO : O.set i .imm = O2 := by rfl) : QS X (.Assign [.Name x pos'] e pos) (tS K rm Ol O O2 (sSet i m)) := ss_set i hN hi hx he hl hs hf hO
theorem ss_sF (i : Nat) {pos' : Pos} (hN : X.N.Nodup) (he : QE X e (tF K O m)) (hi : X.N[i]? = some x := by rfl) (hx : Loc X.env.scope x := by first | exact .inl rfl | exact .inr rfl) (hl : i < O.length := by exact of_decide_eq_true rfl) (hs : swapsWith e (some (.Name x pos')) pos.line X.env = pure false := by rfl)
    (hf : X.fn x = true ∨ X.env.scope.names.lookup x = some .local := by first | exact .inl rfl | exact .inr rfl | assumption) (hO : O.set i .own = O2 := by rfl) : QS X (.Assign [.Name x pos'] e pos) (tS K rm Ol O O2 (sSet i m)) := ss_setF i hN hi hx he hl hs hf hO
theorem se_i (ha : QE X a (tP X.K O m1)) (hb : QE X b (tP X.K O m2)) (hs : PlainIx b := by exact fun _ _ => rfl) : QE X (.Subscript a b pos) (tE X.K O (eBin ixD m1 m2)) := se_ix ha hb hs
theorem sI {i : Int} {j : Nat} : QE X (.Constant (.int i) j pos) (tP K O (eC (.int i))) := sp se_int
theorem si_i {i : Int} {j : Nat} (hr : QA X es (tAi K O ms)) : QA X (.Constant (.int i) j pos :: es) (tAi K O (eC (.int i) :: ms)) := si_cons se_int hr
theorem sa_v (i : Nat) (hr : QA X es (tAr X.K O fs ms)) (hN : X.N[i]? = some x := by rfl) (hv : Vis X.env.scope x := by first | exact Or.inl rfl | exact Or.inr (Or.inl rfl) | exact Or.inr (Or.inr rfl)) (hd : (x == ("__debug__" : Str)) = false := by decide) (hcd : (x == ("__classdict__" : Str)) = false := by decide) (hx : isX (fl O i) = false := by rfl) : QA X (.Name x p :: es) (tAr X.K O (.bor :: fs) (eVar i :: ms)) := sa_bor (sp_var i hN hv hd hcd hx) hr
theorem sx (i : Nat) {k : Int} {j : Nat} {p1 : Pos} (hN : X.N[i]? = some x := by rfl) (hv : Vis X.env.scope x := by first | exact Or.inl rfl | exact Or.inr (Or.inl rfl) | exact Or.inr (Or.inr rfl)) (hd : (x == ("__debug__" : Str)) = false := by decide) (hcd : (x == ("__classdict__" : Str)) = false := by decide) (hx : isX (fl O i) = false := by rfl) (hs : PlainIx (.Constant (.int k) j p1) := by exact fun _ _ => rfl) :
    QE X (.Subscript (.Name x p) (.Constant (.int k) j p1) pos) (tE X.K O (eBin ixD (eVar i) (eC (.int k)))) := se_ix (sp_var i hN hv hd hcd hx) (sp se_int) hs
theorem sg_n (i : Nat) (hN : X.N.Nodup) (hi : X.N[i]? = some x := by rfl) (hx : Loc X.env.scope x := by first | exact .inl rfl | exact .inr rfl) (hl : i < O.length := by exact of_decide_eq_true rfl) (hf : X.fn x = true ∨ X.env.scope.names.lookup x = some .local := by first | exact .inl rfl | exact .inr rfl | assumption) (hO : O.set i .imm = O2 := by rfl) :
    QG X (.Name x p) (tG X.K O O2 [i] (gN i)) := sg_name i hN hi hx hl hf hO
theorem st_c {op : CmpOp} {f : PyData → PyData → Res PyData} (ho : OpR X (compareOp op) (rD K f)) (ha : QE X a (tP K O m1)) (hb : QE X b (tP K O m2)) (hm : behindInMarks op b = false := by exact nomark _) : QT X (.Compare a [op] [b] pos) (tT K O (eBin f m1 m2)) := st_cmp ho ha hb hm
theorem se_k (F : Def X.prog X.w X.K X.mg X.base k x ps (spF X.K fs .f f)) (hr : Room n X.A) (ha : QA X (e :: es) (tAr X.K O fs ms)) (hk : k ≤ n := by decide) (hg : Gl X x := by rfl) (hdb : (x == ("__debug__" : Str)) = false := by decide)
    (he : noStar e = true := by rfl) (hpl : noStars es = true := by rfl) : QE X (.Call (.Name x p) (e :: es) [] pos) (tE X.K O (eCall f ms)) := se_call F (hr.mono hk) hg ha hdb he hpl
theorem sf_k (F : Def X.prog X.w X.K X.mg X.base k x ps (spF X.K fs .t f)) (hr : Room n X.A) (ha : QA X (e :: es) (tAr X.K O fs ms)) (hk : k ≤ n := by decide) (hg : Gl X x := by rfl) (hdb : (x == ("__debug__" : Str)) = false := by decide)
    (he : noStar e = true := by rfl) (hpl : noStars es = true := by rfl) : QE X (.Call (.Name x p) (e :: es) [] pos) (tF X.K O (eCall f ms)) := sf_call F (hr.mono hk) hg ha hdb he hpl
end
section
variable {P : Program} {w : World} {K : PySem.W.Frag} {mg : Str → Option Value} {base : Heap}
theorem def_k {x : Str} {st : Stmt} {N ps : List Str} {k : Nat} {fs : List Fl} {rm : Rm} {m : MS} (O : List Fl) (F : At K mg x st ps) (S : FnScope N ps (defScope st))
    (hbody : ∀ (f : Addr) (cdv : Value) (A : Around) (outer : List Env) (s : Shared) (H : Hp) (E : XK), Room k (A.deeper (envOfC x (defScope st) s.heap.objs.size f cdv)) →
      QSs (cxOf CX0 P w K mg base N x (defScope st) f cdv A outer s H E).nox (defBody st) (tS K rm [] O [] m)) (hf : fs.length = ps.length := by rfl) (hn : ps.length ≤ N.length := by decide)
    (hO : ∀ i, i < fs.length → (fl O i = .imm ∧ fl fs i = .imm) ∨ fl O i = .bor := by decide) : Def P w K mg base (k + 1) x ps (spF K fs rm (fnR N.length m)) := def_ok F S hf hn hO hbody
end
end L3
namespace L3
open PySem PySem.Spec PyProof.Rows L2
section
variable {X : Cx} {pins : List (Addr × Obj)} {σ : L2.St} {H : Hp} {s : Shared} {ea : Addr} {ob : Obj}
end
section
variable {X : Cx} {pins : List (Addr × Obj)} {σ : L2.St} {H : Hp} {s : Shared} {ea : Addr}
end
section
variable {M : Model} {A : Around} {E : Value → Shared → Prop} {K : PySem.W.Frag}
end
section
variable {X : Cx} {pins : List (Addr × Obj)} {σ : L2.St} {H : Hp} {s : Shared}
end
end L3
namespace L3
open PySem PySem.Spec PySem.Calls PyProof.Rows L2 Builtin Builtin.ObjectAttr Builtin.Getset_descriptor
section
variable {prog : Program} {w : World} {A : Around} {E : Value → Shared → Prop} {s : Shared} {K : PySem.W.Frag} {x C : Addr} {ob : Obj}
end
end L3
namespace L3
open PySem PySem.Spec PySem.Calls PyProof.Rows L2 Builtin Builtin.ObjectAttr
section
variable {prog : Program} {w : World} {A : Around} {E : Value → Shared → Prop} {s : Shared} {K : PySem.W.Frag} {x C : Addr} {ob : Obj} {c : Value} {Q : Value → Shared → Prop}
end
section
variable {X : Cx} {C : Addr} {O : List Fl} {K : PySem.W.Frag}
end
section
variable {P : Program} {w : World} {K : PySem.W.Frag} {mg : Str → Option Value} {base : Heap}
end
section
variable {X : Cx} {C : Addr} {O : List Fl} {k : Nat} {fn : Str} {ps : List Str} {f : List PyData → Res PyData}
end
end L3
namespace L3
open PySem PySem.Spec PyProof.Rows L2
section
variable {X : Cx} {k : Nat} {fn : Str} {ps : List Str} {fs : List Fl} {zf : List PyData → Res Str} {O Ol : List Fl} {rm : Rm} {ms : List ME} {pf pc pos px pa : Pos} {e : Expr} {es : List Expr} {C : Addr}
end
section
variable {X : Cx} {O O1 O' Ol : List Fl} {rm : Rm} {C TA : Addr} {st : Stmt} {rest : List Stmt} {m1 mn mx : MS} {z : MZ} {T en yn : Str} {np pos2 px pe pa pos : Pos}
end
end L3
namespace L3
open PySem PySem.Spec PyProof.Rows L2
end L3
namespace L3
open PySem PySem.Spec PyProof.Rows L2
section
variable {X : Cx} {pins : List (Addr × Obj)} {σ : L2.St} {H : Hp} {s : Shared}
end
section
variable {X : Cx} {O O1 Ol : List Fl} {rm : Rm} {C TA : Addr} {st : Stmt} {m1 : MS} {z : MZ} {T yn : Str} {kj} {np pos2 px pe pa pos : Pos}
end
end L3
namespace L3
open PySem PySem.Spec PyProof.Rows L2
section
variable {X : Cx} {pins : List (Addr × Obj)} {σ : L2.St} {H A B : Hp} {s : Shared} {Γ : Ev} {O : List Fl}
end
section
variable {X : Cx} {k : Nat} {fn : Str} {ps : List Str} {fs : List Fl} {cl : Str → Addr} {zf : List PyData → Res Str} {O Ol : List Fl} {rm : Rm} {ms : List ME} {pf pc pos px pa : Pos} {e tg : Expr} {es : List Expr} {XE : Str → Hp → Prop} {body : List Stmt}
end
section
variable {X : Cx} {rm : Rm} {O : List Fl} {is : List Nat} {g : MG} {it : MI} {cl : List Nat} {mb : MS} {zb : MZ} {tg iter : Expr} {body : List Stmt} {pos : Pos} {XE : Str → Hp → Prop}
end
end L3
namespace L3
open PySem PySem.Spec PyProof.Rows L2
section
variable {X : Cx} {O : List Fl} {m : ME} {e : Expr} {p p2 pos pos2 : Pos}
end
end L3
namespace PySem
open Sem (wp)
section
variable {prog : Program} {w : World} {A : Around} {E : Value → Shared → Prop} {s : Shared}
end
end PySem
namespace L2
open PySem PySem.Spec PyProof.Rows
structure SetRecN (P : Program) (w : World) (h : Heap) (es : Array (Int × Value)) (t : SetTable) (ks : List NKey) : Prop where
  el : ∀ e ∈ es.toList, ∃ b k, e.2 = Value.ref b ∧ IsNestKey (intKind P w) h k b ∧ k ∈ ks
  len : es.size = ks.length
  tb : TbOk t
  sz : t.place.size = es.size
  lim : 5 * es.size < 3 * t.mask
theorem SetRecN.fit {P : Program} {w : World} {h : Heap} {es : Array (Int × Value)} {t : SetTable} {ks : List NKey} (r : SetRecN P w h es t ks) : t.fits es.size = true := by
  have := r.tb.room
  simp only [SetTable.fits, SetTable.fill, r.tb.nd, Bool.and_eq_true, beq_iff_eq, decide_eq_true_eq]
  exact ⟨r.sz, by simpa using this⟩
section
variable {P : Program} {w : World} {A : Around} {E : Value → Shared → Prop} {s : Shared}
end
end L2
namespace L2
open PySem PySem.Spec PyProof.Rows
section
variable {P : Program} {w : World} {A : Around} {R : Result → Shared → Prop} {I : Addr} {fp wr : List Addr} {G : Array GenState → Array GenState → Prop} {n : Nat} {Pv : Nat → Value → Prop} {St : Nat → Shared → Prop}
end
section
variable {P : Program} {w : World} {A : Around} {E : Value → Shared → Prop} {s : Shared}
end
end L2
namespace L3
open PySem PySem.Spec PyProof.Rows L2
section
variable {X : Cx} {O : List Fl} {m : ME} {e : Expr} {ta : TA} {p p2 pos pos2 : Pos}
end
end L3
namespace L3
open PySem PySem.Spec PyProof.Rows L2
section
variable {K : PySem.W.Frag} {A B H : Hp} {O : List Fl} {σ : L2.St} {Γ : Ev} {q : Nat} {p : Addr}
end
section
variable {X : Cx} {rm : Rm} {Ol O : List Fl} {is : List Nat} {g : MG} {cl : List Nat} {mb : MS} {tg : Expr} {body : List Stmt} {pos py : Pos} {y : Str}
end
section
variable {X : Cx} {rm : Rm} {O : List Fl} {cl : List Nat} {mb : MS} {mc : ME} {zb : MZ} {c : Expr} {body : List Stmt} {pos : Pos} {XE : Str → Hp → Prop}
end
section
variable {X : Cx} {k : Nat} {fn : Str} {ps : List Str} {fs : List Fl} {cl : Str → Addr} {zf : List PyData → Res Str} {O : List Fl} {ms : List ME} {pf pc pa px : Pos} {e ix : Expr} {es : List Expr} {XE : Str → Hp → Prop}
end
end L3
namespace L3
open PySem PySem.Spec PyProof.Rows L2
section
variable {X : Cx} {k : Nat} {fn : Str} {ps : List Str} {fs : List Fl} {f : List PyData → Res PyData} {zf : List PyData → Res Str} {O Ol : List Fl} {rm : Rm} {ms : List ME} {pf pc pos px pa : Pos} {e : Expr} {es : List Expr}
end
end L3
namespace L3
open PySem PySem.Spec PyProof.Rows L2
section
variable {X : Cx} {O : List Fl} {C : Addr} {ce : Expr} {a : Stmt} {rest : List Stmt} {m : ME} {z z1 z2 : MZ} {pos : Pos}
end
section
variable {X : Cx} {rm : Rm} {Ol O O1 O' : List Fl} {C TA : Addr} {sts rest : List Stmt} {m1 mn mx : MS} {z : MZ} {T en yn : Str} {np pe px pa pos pos2 : Pos}
end
section
variable {X : Cx} {rm : Rm} {Ol O : List Fl} {m : ME} {e : Expr} {p q p1 pos apos cpos bpos apos2 cpos2 : Pos} {j1}
end
section
variable {X : Cx} {k : Nat} {fn : Str} {ps : List Str} {fs : List Fl} {cl : Str → Addr} {zf : List PyData → Res Str} {O : List Fl} {ms : List ME} {pf pc pa px pl : Pos} {e b : Expr} {es : List Expr} {XE : Str → Hp → Prop} {C : Addr}
end
end L3
namespace L2
open PySem PySem.Spec PyProof.Rows
theorem law_callT {P : Program} {w : World} {K : PySem.W.Frag} {mg mb : Str → Option Value} {CX : CXT} {k : Nat} {fa a : Addr} {fd : FuncData} {x : Str} {sp : Sp} {s₁ : Shared} {vs : List Value} {ns : List Int}
    (KX : K.In s₁.heap) (hns : s₁.heap.Ns mainGlobals mg) (hb : s₁.heap.Ns builtinsNs mb) (hbb : ∀ x : Str, x ≠ "__name__" → mb x = bootBuiltins x) (hlim : s₁.heap.NoLimit) (hg : s₁.gens = #[]) (hbm : ∃ bm ob, mg "__builtins__" = some (.ref bm) ∧ bm ≠ builtinsNs ∧ s₁.heap.get? bm = some ob ∧ ob.cls = .type "module" ∧ ob.dict = some builtinsNs ∧ ob.data = .plain)
    (hT : ∀ T, TabAt K mg T → s₁.heap.get? T = some { cls := .none, data := .fields #[] } ∧ K.lookup T = none)
    (ha : s₁.heap.get? a = some { cls := .type "list", data := .seq vs.toArray }) (hi : IntsAre vs ns) (hl : ns.length ≤ sizeLine) (hr : Room k callerA)
    (F : ∀ base : Heap, K.In base → base.Ns mainGlobals mg → FnOk P w K mg base CX k fa fd [x] sp) (hbind : ∀ (s : Shared) (u : Value), BindsTo s fd ⟨[u], []⟩ [(x, u)])
    (hsp : ∀ H : Hp, SqL K H a (ns.map V.int) → sp [.ref a] H (fun v _ => v = .bl true) fun _ _ _ => False)
    (hCX : ∀ H e s', CX [] H s₁ (fun _ _ _ => False) e s' → False) :
    codeAny (model P w) callerA (.call (.ref fa) ⟨[.ref a], []⟩) (fun r s' => r = .ok (.ret (.bool true)) ∧ OldK s₁.heap s'.heap ∧ s'.os = s₁.os ∧ AllBare s'.gens) s₁ := by
  have rv := vals_ints hi
  have lenV := hi.length
  have aT : ∀ T, TabAt K mg T → T ≠ a := fun T h z => by
    have := (hT T h).1
    rw [z, ha] at this
    cases this
  have core : ∀ H : Hp, (∀ b, H b = none ∨ (∃ o xs, H b = some (.frz o (.lst xs))) ∨ (H b = some (.tbl tabQ) ∧ TabAt K mg b)) → (∀ T, TabAt K mg T → H T = some (.tbl tabQ)) → SqL K H a (ns.map V.int) → HOk P w H s₁.heap → (∀ b, H b ≠ none → b = a ∨ TabAt K mg b) → (H a ≠ none → K.lookup a = none) →
      codeAny (model P w) callerA (.call (.ref fa) ⟨[.ref a], []⟩) (fun r s' => r = .ok (.ret (.bool true)) ∧ OldK s₁.heap s'.heap ∧ s'.os = s₁.os ∧ AllBare s'.gens) s₁ := by
    intro H hO hTT hS hok hA hK
    have base_of : ∀ {b : Addr} {o : Obj}, s₁.heap.get? b = some o → H b = none → (hidT s₁.heap H).get? b = some o := fun e n => hidT_get e n
    have noA : ∀ {b : Addr} {o : Obj} {es : Array DictEntry} {ep : Nat}, s₁.heap.get? b = some o → o.data = .dict es ep → H b = none := fun {b o es ep} e d => by
      cases q : H b with
      | none => rfl
      | some u =>
        rcases hA b (by rw [q]; simp) with e' | e'
        · subst e'
          rw [ha] at e; cases e
          have d' : Data.seq vs.toArray _ = Data.dict es ep := d
          cases d'
        · rw [(hT b e').1] at e; cases e
          have d' : Data.fields #[] = Data.dict es ep := d
          cases d'
    have nsK : ∀ {b : Addr} {m : Str → Option Value}, s₁.heap.Ns b m → (hidT s₁.heap H).Ns b m := fun {b m} ⟨o, es, ep, e, d, r⟩ => ⟨o, es, ep, base_of e (noA e d), d, r⟩
    have hKb : K.In (hidT s₁.heap H) := fun b o e => base_of (KX b o e) (by
      cases q : H b with
      | none => rfl
      | some u =>
        rcases hA b (by rw [q]; simp) with e' | e'
        · subst e'
          rw [hK (by rw [q]; simp)] at e; cases e
        · rw [(hT b e').2] at e; cases e)
    have hM : Mod K mg (hidT s₁.heap H) := ⟨hKb, nsK hns, ⟨mb, nsK hb, hbb⟩, let ⟨mc, h1, h2⟩ := hlim; ⟨mc, nsK h1, h2⟩, by
      obtain ⟨bm, ob, b1, b2, b3, b4, b5⟩ := hbm
      refine ⟨bm, ob, b1, b2, base_of b3 ?_, b4, b5⟩
      cases q : H bm with
      | none => rfl
      | some u =>
        rcases hA bm (by rw [q]; simp) with e' | e'
        · rw [e', ha] at b3
          cases b3
          have b4 : Value.type "list" = .type "module" := b4
          injection b4 with z
          exact absurd z (by decide)
        · rw [(hT bm e').1] at b3; cases b3; cases b4⟩
    have e0 : Env0 P w K mg (hidT s₁.heap H) callerA [] s₁ H := ⟨rfl, hM, fun b o e => of_hidT e, Nat.le_of_eq (hidT_size _ _), trivial, fun b hb => absurd (show b ∈ ([] : List Addr) from hb) (by simp), hok, .of_eq hg, hTT⟩
    refine codeAny_mono ((F _ hKb (nsK hns)).run callerA [] s₁ H ⟨[.ref a], []⟩ [.ref a] [.ref a] _ _ hr e0 (hbind s₁ (.ref a)) (.cons rfl .nil) (hsp H hS)) fun r s' h => ?_
    cases r with
    | error e => exact (hCX H e s' h).elim
    | ok fl =>
      cases fl with
      | next => exact False.elim h
      | brk => exact False.elim h
      | cont => exact False.elim h
      | ret u =>
        obtain ⟨v, H', os, bare, un, hok', r', q⟩ := h
        have q' : v = .bl true := q
        subst q'
        obtain rfl : u = Value.bool true := r'
        have tabs : ∀ b, H b = some (.tbl tabQ) → ∃ ps, s'.heap.get? b = some { cls := .none, data := .fields ps } := fun b z => by
          obtain ⟨ps, e, _⟩ := hok' b _ (un.tbls b _ z)
          exact ⟨ps, e⟩
        refine ⟨rfl, ⟨fun b o e => ?_, fun b o e => un.there b o e (by simp)⟩, os, bare⟩
        cases q : H b with
        | none => exact .inl (un.keep b o e q (by intro z; exact absurd (show b ∈ ([] : List Addr) from z) (by simp)) (by simp))
        | some u =>
          rcases hO b with z | ⟨ob, xs, z⟩ | ⟨z, zt⟩
          · rw [q] at z; cases z
          · have z2 := un.frzs b ob _ z
            obtain ⟨e1, _⟩ := hok b _ z
            obtain ⟨e2, _⟩ := hok' b _ z2
            rw [e] at e1; cases e1
            exact .inl e2
          · obtain ⟨ps, e2⟩ := tabs b z
            have e3 := (hT b zt).1
            rw [e] at e3
            cases e3
            obtain ⟨f, o, fd', c, t1, t2, t3, t4, t5⟩ := zt
            obtain ⟨oc, vc, _, _, _, _, _, _, _, c1, c2, c3, c4, _⟩ := PySem.W.codeHd_of_K KX t5
            exact .inr (.inl ⟨⟨c, oc, vc, c1, c2, c3, c4⟩, rfl, #[], ps, rfl, by rw [Array.empty_append]; exact e2⟩)
  have hokT : ∀ T, TabAt K mg T → ∀ H : Hp, ObjOk P w H s₁.heap T (.tbl tabQ) := fun T h H => ⟨#[], (hT T h).1, trivial, fun pos cv z => nomatch z⟩
  have dec : ∀ T, Decidable (TabAt K mg T) := fun T => Classical.propDecidable _
  cases hk : K.lookup a with
  | some o =>
    have e := KX a o hk
    rw [ha] at e
    cases e
    refine core (fun b => if TabAt K mg b then some (.tbl tabQ) else none) (fun b => ?_) (fun T h => if_pos h) (.inr ⟨_, vs.toArray, _, hk, rfl, rfl, rfl, by rw [List.size_toArray, lenV]; exact hl, by simpa using rv⟩) (fun b u z => ?_) (fun b z => ?_) fun z => ?_
    · by_cases h : TabAt K mg b
      · exact .inr (.inr ⟨if_pos h, h⟩)
      · exact .inl (if_neg h)
    · by_cases h : TabAt K mg b
      · have z' := (if_pos h).symm.trans z
        cases z'
        exact hokT b h _
      · have z' := (if_neg h).symm.trans z
        cases z'
    · by_cases h : TabAt K mg b
      · exact .inr h
      · exact absurd (if_neg h) z
    · exact absurd (if_neg fun h => aT a h rfl) z
  | none =>
    refine core (fun b => if b = a then some (.frz { cls := .type "list", data := .seq vs.toArray } (.lst (ns.map V.int))) else if TabAt K mg b then some (.tbl tabQ) else none) (fun b => ?_) (fun T h => (if_neg (aT T h)).trans (if_pos h)) (.inl (.inr ⟨{ cls := .type "list", data := .seq vs.toArray }, if_pos rfl⟩)) (fun b u z => ?_) (fun b z => ?_) fun _ => hk
    · by_cases hb : b = a
      · exact .inr (.inl ⟨_, _, if_pos hb⟩)
      · by_cases h : TabAt K mg b
        · exact .inr (.inr ⟨(if_neg hb).trans (if_pos h), h⟩)
        · exact .inl ((if_neg hb).trans (if_neg h))
    · by_cases hb : b = a
      · have z' := (if_pos hb).symm.trans z
        cases z'
        subst hb
        exact ⟨ha, by rw [List.length_map]; exact hl, vs, _, rv, ha⟩
      · by_cases h : TabAt K mg b
        · have z' := ((if_neg hb).trans (if_pos h)).symm.trans z
          cases z'
          exact hokT b h _
        · have z' := ((if_neg hb).trans (if_neg h)).symm.trans z
          cases z'
    · by_cases hb : b = a
      · exact .inl hb
      · by_cases h : TabAt K mg b
        · exact .inr h
        · exact absurd ((if_neg hb).trans (if_neg h)) z
end L2
namespace L2
open PySem PySem.Spec PyProof.Rows
noncomputable def Kept (h h' : Heap) : Prop := ∀ b o, h.get? b = some o → h'.get? b = some o
theorem Kept.trans {a b c : Heap} (x : Kept a b) (y : Kept b c) : Kept a c := fun p o e => y p o (x p o e)
section
variable {prog : Program} {w : World} {A : Around} {E : Value → Shared → Prop} {s : Shared} {hA : Heap} {K : Type} [DecidableEq K] {knd : KeyKind prog w K} {kvs : List (K × Value)} {ep : Nat} {d q I S : Addr} {R : Result → Shared → Prop}
end
end L2
namespace L2
open PySem PySem.Spec PySem.W PyProof.Rows
section
variable {prog : Program} {w : World} {A : Around} {E : Value → Shared → Prop} {s : Shared}
end
end L2
namespace L2
open PySem PySem.Spec PySem.W PyProof.Rows
section
variable {X : Cx} {pins : List (Addr × Obj)} {σ : St} {H : Hp} {s : Shared}
end
end L2
namespace L2
open PySem PySem.Spec PySem.W PyProof.Rows
section
variable {X : Cx}
end
end L2
namespace L3
open PySem PySem.Spec PyProof.Rows L2
section
variable {X : Cx} {O : List Fl}
end
end L3
namespace L3
open PySem PySem.Spec PyProof.Rows L2
section
variable {X : Cx} {K : PySem.W.Frag} {rm : Rm} {Ol O O' : List Fl} {f : List PyData → Res PyData} {ms : List ME} {m : ME} {e : Expr} {pos : Pos}
end
section
variable {P : Program} {w : World} {K : PySem.W.Frag} {mg : Str → Option Value} {base : Heap}
end
section
variable {X : Cx} {rm : Rm} {Ol O : List Fl} {pos : Pos}
end
end L3
namespace L2
open PySem PySem.Spec PyProof.Rows
section
variable {X : Cx} {pins : List (Addr × Obj)} {σ : St} {H : Hp} {s : Shared} {d : Addr} {u : List (Key × V)}
end
end L2
namespace L3
open PySem PySem.Spec PyProof.Rows L2
noncomputable def IsU (u : List (Key × V)) (z : HO) : Prop := z = .dK u ∨ ∃ o, z = .frz o (.dK u)
theorem IsU.rd {u u' : List (Key × V)} {z : HO} {A : Hp} {d : Addr} (h : A d = some z) (i : IsU u z) (r : Rd A d (.dK u')) : u' = u := by
  rcases i with rfl | ⟨o, rfl⟩ <;> rcases r with r | ⟨o', r⟩ <;> rw [h] at r <;> cases r <;> rfl
section
variable {K : PySem.W.Frag} {d : Addr} {u : List (Key × V)} {y : HO}
end
section
variable {X : Cx} {O Ob O1 : List Fl} {scope : Scope} {is : List Nat} {it : MI} {g : MG} {mc me : ME} {elt tg iter : Expr} {ifs : List Expr} {pos : Pos} {nt : Nat}
end
end L3
namespace L3
open PySem PySem.Spec PyProof.Rows L2
section
variable {P : Program} {w : World} {K : PySem.W.Frag} {mg : Str → Option Value} {base : Heap}
end
section
variable {X : Cx}
end
section
variable {X : Cx} {rm : Rm} {Ol O : List Fl} {pos p apos cpos : Pos}
end
end L3
namespace L2
open PySem PySem.Spec PyProof.Rows
section
variable {P : Program} {w : World} {A : Around} {E : Value → Shared → Prop} {s : Shared}
end
section
variable {P : Program} {w : World} {A : Around} {R : Result → Shared → Prop} {I : Addr} {fp wr : List Addr} {G : Array GenState → Array GenState → Prop} {n : Nat} {Pv : Nat → Value → Prop} {St : Nat → Shared → Prop}
end
section
variable {P : Program} {w : World} {A : Around} {E : Value → Shared → Prop} {s : Shared}
end
end L2
namespace L3
open PySem PySem.Spec PyProof.Rows L2
section
variable {X : Cx} {pins : List (Addr × Obj)} {σ : L2.St} {H : Hp} {s : Shared}
end
section
variable {K : PySem.W.Frag} {A H : Hp}
end
section
variable {X : Cx} {O : List Fl} {mo mk mx : ME} {o e f : Expr} {apos cpos : Pos}
end
end L3
namespace L3
open PySem PySem.Spec PyProof.Rows L2
section
variable {X : Cx} {rm : Rm} {Ol O : List Fl} {is : List Nat} {g : MG} {cl : List Nat} {mb : MS} {tg iter : Expr} {body : List Stmt} {pos p : Pos}
end
end L3
namespace L2
open PySem PySem.Spec PyProof.Rows
end L2
namespace L3
open PySem PySem.Spec PyProof.Rows L2
section
variable {X : Cx} {rm : Rm} {Ol O : List Fl} {is : List Nat} {g : MG} {cl : List Nat} {mb : MS} {tg iter : Expr} {body : List Stmt} {pos p : Pos} {elts : List Expr} {tpos apos cpos : Pos}
end
end L3
namespace L3
open PySem PySem.Spec PyProof.Rows L2
section
variable {X : Cx} {k : Nat} {fn : Str} {ps : List Str} {fs : List Fl} {zf : List PyData → Res Str} {O Ol : List Fl} {rm : Rm} {ms : List ME} {pf pc pos px pa : Pos} {e : Expr} {es : List Expr} {cl : Str → Addr} {z : MZ}
end
section
variable {M : Model} {A : Around} {E : Value → Shared → Prop} {K : PySem.W.Frag}
end
section
variable {X : Cx} {pins : List (Addr × Obj)} {σ : L2.St} {H : Hp} {s : Shared} {rm : Rm} {Ol O O1 : List Fl} {Γ : Ev}
end
section
variable {X : Cx} {rm : Rm} {Ol O O1 : List Fl} {m1 : MS} {z : MZ} {st : Stmt} {pos : Pos}
end
end L3
namespace L3
open PySem PySem.Spec PyProof.Rows L2
end L3
namespace L3
open PySem PySem.Spec PyProof.Rows L2
inductive MV where
  | ev (m : ME)
  | cl (f : List PyData → Res PyData) (ms : List ME)
section
variable {X : Cx} {Ol O O' : List Fl} {keys : List (Option Expr)} {values : List Expr} {R : List (Int × MV)} {dpos pos : Pos}
end
end L3
namespace L2
open PySem PySem.Spec PyProof.Rows
section
variable {X : Cx} {pins : List (Addr × Obj)} {σ : St} {H : Hp} {s : Shared} {a b : Addr} {v : V} {u r : Value} {A : Around} {E : Value → Shared → Prop} {xs : List (List Int × Addr × Value)} {k : List Int}
end
end L2
namespace L3
open PySem PySem.Spec PyProof.Rows L2
noncomputable abbrev PK (K : PySem.W.Frag) (A : Hp) : List (PyData × PyData) → List (List Int × Addr × V) → Prop := Paired fun p q => intsT p.1 = some q.1 ∧ SqT K A q.2.1 (q.1.map V.int) ∧ Rp K A p.2 q.2.2
theorem PK.kit {K : PySem.W.Frag} {A : Hp} {kvs : List (PyData × PyData)} {us : List (List Int × Addr × V)} (h : PK K A kvs us) : ∀ {xs : List (List Int × Addr × Value)}, Paired (fun (a : List Int × Addr × V) (b : List Int × Addr × Value) => a.1 = b.1 ∧ a.2.1 = b.2.1 ∧ RelV a.2.2 b.2.2) us xs → RpT K A kvs xs := by
  induction h with
  | nil => intro xs p; cases p; exact .nil
  | @cons p q ps qs h t ih =>
    intro xs px
    cases px with
    | @cons _ b _ bs hb tb =>
      refine .cons ⟨by rw [← hb.1]; exact h.1, by rw [← hb.1, ← hb.2.1]; exact h.2.1, q.2.2, hb.2.2, h.2.2⟩ (ih tb)
theorem StRep.setK {K : PySem.W.Frag} {A B H : Hp} {O : List Fl} {σ : L2.St} {Γ : Ev} {i : Nat} {d : PyData} {v : V} (r : StRep K A B H O σ Γ) (hi : i < Γ.length) (hO : i < O.length) (p : KitV K A d v) : StRep K A B H (O.set i .kit) (σ.set i (some v)) (Γ.set i (some d)) := by
  have hs : i < σ.length := by rw [← r.len]; exact hi
  refine ⟨r.a, r.b, by rw [List.length_set, List.length_set]; exact r.len, fun j => ?_, fun j k hjk h1 h2 h3 h4 => ?_⟩
  · by_cases hj : i = j
    · subst hj
      unfold fl gv sv
      rw [getD_set_eq hO, getD_set_eq hi, getD_set_eq hs]
      exact fun d' e => by cases e; exact ⟨v, rfl, p⟩
    · unfold fl gv sv
      rw [getD_set_ne hj, getD_set_ne hj, getD_set_ne hj]
      exact r.slot j
  · have hj : i ≠ j := fun z => by subst z; unfold fl at h1; rw [getD_set_eq hO] at h1; cases h1
    have hk : i ≠ k := fun z => by subst z; unfold fl at h2; rw [getD_set_eq hO] at h2; cases h2
    unfold fl at h1 h2
    unfold gv at h3 h4
    rw [getD_set_ne hj] at h1 h3
    rw [getD_set_ne hk] at h2 h4
    unfold sv
    rw [getD_set_ne hj, getD_set_ne hk]
    exact r.sep j k hjk h1 h2 h3 h4
section
variable {X : Cx} {rm : Rm} {Ol O : List Fl} {keys : List (Option Expr)} {values : List Expr} {R : List (ME × ME)} {dpos pos pos' : Pos}
end
section
variable {X : Cx} {O : List Fl} {m : ME} {a : Expr} {pos xp : Pos} {x : Str}
noncomputable def rIxT (K : PySem.W.Frag) : R2 := fun x y H Q => ∃ p b xs k q v, x = .ref p ∧ y = .ref b ∧ H p = some (TDict p xs) ∧ (∀ z ∈ xs, SqT K H z.2.1 (z.1.map V.int)) ∧ SqT K H b (k.map V.int) ∧ atKey xs k = some q ∧ RelV v q.2 ∧ Q v H
end
section
variable {P : Program} {w : World} {K : PySem.W.Frag} {mg : Str → Option Value} {base : Heap}
end
section
variable {X : Cx} {O : List Fl} {k : Nat} {fn y : Str} {ps : List Str} {f : List PyData → Res PyData} {m : ME} {e : Expr} {p p2 pos : Pos}
end
end L3
namespace L3
open PySem PySem.Spec PyProof.Rows L2
section
variable {X : Cx} {k : Nat} {fn x : Str} {ps : List Str} {fs : List Fl} {cl : Str → Addr} {zf : List PyData → Res Str} {O Ol : List Fl} {ms : List ME} {pf pc pos' pa : Pos} {e : Expr} {es : List Expr} {XE : Str → Hp → Prop}
end
section
variable {P : Program} {w : World} {K : PySem.W.Frag} {mg : Str → Option Value} {base : Heap}
end
end L3
namespace L2
open PySem PySem.Spec PyProof.Rows
end L2
namespace L3
open PySem PySem.Spec PyProof.Rows L2
section
variable {X : Cx} {O : List Fl} {m m' : ME} {a b : Expr} {apos cpos : Pos}
end
end L3
namespace L2
open PySem PySem.Spec PyProof.Rows
theorem walk_of0 {l : PySem.W.OpenLaw} {n k : Nat} {q : Program} {loose : List Str} {XP : (Str → Option Value) → Heap → Prop} {YP : World → Heap → Prop} {d : DefRec} {K : Params → PySem.W.Frag} {CX : World → CXT} {sp : World → Sp} {x : Str}
    (hn : l.most = some n) (hn2 : n ≤ sizeLine) (hdf : d.params.defaults = []) (hr : Room k callerA)
    (hY : ∀ (w : World) (h : Heap), YP w h → (K w.params).In h)
    (F : ∀ (w : World) (mg : Str → Option Value) (fa : Addr) (h : Heap), (K w.params).In h → h.Ns mainGlobals mg → mg d.name = some (.ref fa) →
      ∃ fd : FuncData, (∀ (s : Shared) (u : Value), BindsTo s fd ⟨[u], []⟩ [(x, u)]) ∧ mg "ways" = none ∧
        ∀ base : Heap, (K w.params).In base → base.Ns mainGlobals mg → FnOk l.prog w (K w.params) mg base (CX w) k fa fd [x] (sp w))
    (hsp : ∀ (w : World) (H : Hp) (a : Addr) (ns : List Int), ns.length ≤ n → SqL (K w.params) H a (ns.map V.int) → sp w [.ref a] H (fun v _ => v = .bl true) fun _ _ _ => False)
    (hCX : ∀ (w : World) (H : Hp) (s : Shared) (e : Value) (s' : Shared), CX w [] H s (fun _ _ _ => False) e s' → False) :
    PySem.W.WalkO q loose XP YP l.row.toRowW d [] (fun f vs => PySem.call f vs) := by
  refine Att.attach_call hn hdf fun w s₀ s₁ mg mb fa o pm cd doc a vs ns G Y ho hd hcd hmg hobj hints hlen hg => ?_
  have KX := hY w _ Y
  obtain ⟨fd, hb, hw, hF⟩ := F w mg fa _ KX G.T.g hmg
  refine law_callT KX G.T.g G.T.b G.T.builtins G.T.nolimit hg G.T.bmain (fun P h => ?_) hobj hints (Nat.le_trans hlen hn2) hr hF hb (fun H hS => hsp w H a ns hlen hS) fun H e s' => hCX w H s₁ e s'
  obtain ⟨f, o, fd', c, h1, _⟩ := h
  rw [hw] at h1
  cases h1
end L2
namespace L3
open PySem PySem.Spec PyProof.Rows L2
noncomputable def reprF : List PyData → Res PyData
  | [.list es] => gd ((PyData.list es).canLay0 = true ∧ (PyData.list es).showable = true ∧ (PyData.list es).hasDict = false ∧ (PyData.list es).depth ≤ 20 ∧ (PyData.list es).shown.length ≤ sizeLine) (.ok (.str (PyData.list es).shown))
  | _ => .bad
theorem cd_repr {X : Cx} (hg : X.A.guards = some []) (hu : X.A.units + 64 < cLine) : CallR X (.builtin "repr") (rC X.K reprF) := by
  intro pins s σ H xs us Q I r h
  obtain ⟨A, ds, d, e, ha, p, k⟩ := h
  match ds, e with
  | [.list es], e =>
    obtain ⟨⟨c1, c2, c3, c4, c5⟩, e⟩ := gd_ok e
    cases e
    obtain ⟨v, r', rfl, p1, p2⟩ := p.cons
    obtain rfl := p2.nil
    obtain ⟨u, rfl, rx⟩ := vals1 r
    obtain ⟨as, rd⟩ := Is.reads I (.list es) (Pk.isL ha c1 p1) rx
    obtain ⟨l, vs, rfl, h1, q1⟩ := p1.list ha
    cases rx
    refine repr_of_reads' rd c2 (fun z => by rw [c3] at z; cases z) hg (by omega) (fun _ _ e => e) (fun h' u tk hk => ⟨.str (PyData.list es).shown, H, ?_, ⟨_, rfl⟩, k _ A H (Grow.refl ha) (Rp.str.mpr rfl)⟩) c5
    exact I.call' (ch := []) (s' := { s with heap := h', toks := tk }) rfl (Un.kept hk) (I.hok.kept hk) I.bare fun b z => absurd z (by simp)
noncomputable def eqS : PyData → PyData → Res PyData
  | .str a, .str b => .ok (.bool (decide (a = b)))
  | _, _ => .bad
theorem od_eqS {X : Cx} : OpR X (compareOp .Eq) (rD X.K eqS) := by
  intro pins s σ H x y v u Q I rx ry hq
  obtain ⟨A, d1, d2, d, e, ha, p1, p2, k⟩ := hq
  match d1, d2, e with
  | .str a, .str b, e =>
    cases e
    have q1 : x = .str a := by
      rcases p1 with h | ⟨_, _, _, _, z, _⟩ | ⟨_, _, _, _, z, _⟩
      · exact Rp.str.mp h
      · cases z
      · cases z
    have q2 : y = .str b := by
      rcases p2 with h | ⟨_, _, _, _, z, _⟩ | ⟨_, _, _, _, z, _⟩
      · exact Rp.str.mp h
      · cases z
      · cases z
    subst q1 q2
    refine op_eq pins s σ H _ _ v u Q I rx ry ⟨rfl, ?_⟩
    have e2 : decide (V.str a = V.str b) = decide (a = b) := by
      rw [Bool.eq_iff_iff, decide_eq_true_eq, decide_eq_true_eq]
      exact ⟨fun z => by injection z, fun z => by rw [z]⟩
    rw [e2]
    exact k _ A H (Grow.refl ha) (Rp.bool.mpr rfl)
end L3
namespace L2
open PySem PySem.Spec PyProof.Rows
noncomputable def lists1 (K : PySem.W.Frag) (H : Hp) : List V → List (List Int) → Prop
  | [], [] => True
  | v :: vs, c :: cs => (∃ a, v = .ref a ∧ SqL K H a (c.map V.int)) ∧ lists1 K H vs cs
  | _, _ => False
theorem lists1.length {K : PySem.W.Frag} {H : Hp} : ∀ {vs : List V} {cs : List (List Int)}, lists1 K H vs cs → vs.length = cs.length
  | [], [], _ => rfl
  | v :: vs, c :: cs, h => by rw [List.length_cons, List.length_cons, lists1.length h.2]
theorem lists1.get {K : PySem.W.Frag} {H : Hp} : ∀ {vs : List V} {cs : List (List Int)}, lists1 K H vs cs → ∀ {i : Nat} {v : V} {c : List Int}, vs[i]? = some v → cs[i]? = some c → ∃ a, v = .ref a ∧ SqL K H a (c.map V.int)
  | v :: vs, c :: cs, h, 0, _, _, e1, e2 => by
    cases e1; cases e2
    exact h.1
  | v :: vs, c :: cs, h, i + 1, _, _, e1, e2 => lists1.get h.2 (i := i) e1 e2
  | [], [], _, _, _, _, e1, _ => nomatch e1
noncomputable def rIndexL (K : PySem.W.Frag) : V → List V → Hp → VK → Prop := fun x vs H Q => ∃ l ws cs k c, x = .ref l ∧ vs = [.ref k] ∧ SqL K H l ws ∧ lists1 K H ws cs ∧ SqL K H k (c.map V.int) ∧ c ∈ cs ∧ Q (.int (cs.idxOf c : Nat)) H
theorem layAll_ints : ∀ ns : List Int, PyData.canLayAll0 (ns.map PyData.int) = true
  | [] => by rw [List.map_nil, PyData.canLayAll0]
  | n :: ns => by rw [List.map_cons, PyData.canLayAll0, PyData.canLay0, layAll_ints ns]; rfl
theorem lay_ints (ns : List Int) : (PyData.list (ns.map PyData.int)).canLay0 = true := by rw [PyData.canLay0]; exact layAll_ints ns
theorem depthAll_ints : ∀ ns : List Int, PyData.depthAll (ns.map PyData.int) = 0
  | [] => by rw [List.map_nil, PyData.depthAll]
  | n :: ns => by rw [List.map_cons, PyData.depthAll, depthAll_ints ns, PyData.depth]; rfl
theorem mt_indexL {X : Cx} (hu : X.A.units + 64 < cLine) : MtM X "list.index" (rIndexL X.K) := by
  intro pins s σ H x vs v us Q I rx rv h
  obtain ⟨l, ws, cs, k, c, rfl, rfl, hq, hl1, hk, hm, q⟩ := h
  cases rx
  obtain ⟨u, rfl, ru⟩ := rv.one
  cases ru
  obtain ⟨its, r, p, hz⟩ := I.list hq
  have hlen : its.length = cs.length := by rw [← r.length, hl1.length]
  have hj : cs.idxOf c < cs.length := List.idxOf_lt_length_iff.mpr hm
  obtain ⟨⟨cls, dd, data, sl⟩, ho, hc, n, hd⟩ := p.isList
  simp only at hc hd
  subst hc hd
  have hp : cs.idxOf c < its.toArray.size := by rw [List.size_toArray]; omega
  obtain ⟨bs, rk⟩ := Is.reads I _ (Is.ints hk) (u := .ref k) rfl
  let e : Value → Bool := fun y => @decide (∃ a, y = .ref a ∧ SqL X.K H a (c.map V.int)) (Classical.propDecidable _)
  have at_ : ∀ i (hi : i < its.length), ∃ a, its[i] = .ref a ∧ SqL X.K H a ((cs[i]'(by omega)).map V.int) := fun i hi => by
    have h1 : ws[i]? = some (ws[i]'(by rw [r.length]; exact hi)) := List.getElem?_eq_getElem _
    have h2 : cs[i]? = some (cs[i]'(by omega)) := List.getElem?_eq_getElem _
    obtain ⟨a, e1, e2⟩ := hl1.get h1 h2
    obtain ⟨u, hu', ru⟩ := r.get h1
    rw [List.getElem?_eq_getElem hi] at hu'
    cases hu'
    rw [e1] at ru
    exact ⟨a, ru, e2⟩
  have inj : ∀ {xs ys : List Int}, xs.map V.int = ys.map V.int → xs = ys := fun {xs ys} h => List.map_inj_right (fun a b z => by injection z) |>.mp h
  have eiff : ∀ i (hi : i < its.length), e its[i] = true ↔ cs[i]'(by omega) = c := fun i hi => by
    obtain ⟨a, e1, e2⟩ := at_ i hi
    show @decide _ (Classical.propDecidable _) = true ↔ _
    rw [@decide_eq_true_eq _ (Classical.propDecidable _)]
    constructor
    · rintro ⟨a', e3, e4⟩
      rw [e1] at e3
      cases e3
      exact inj (I.list_inj e2 e4)
    · intro z
      exact ⟨a, e1, by rw [← z]; exact e2⟩
  have hit : e its.toArray[cs.idxOf c] = true := by
    rw [List.getElem_toArray]
    exact (eiff _ (by omega)).mpr (List.getElem_idxOf hj)
  have no : ∀ m (hm : m < its.toArray.size), m < cs.idxOf c → e its.toArray[m] = false := fun m hm lt => by
    rw [List.size_toArray] at hm
    rw [List.getElem_toArray]
    refine Bool.eq_false_iff.mpr fun z => ?_
    have := (eiff m hm).mp z
    have h2 := List.not_of_lt_findIdx (p := (· == c)) (xs := cs) (i := m) lt
    simp [this] at h2
  have hs : its.length ≤ sizeLine := by rw [← r.length]; exact hz
  refine call_meets PySem.F.slot_list_index ⟨_, ho, rfl⟩ PySem.F.entry_list_index (PySem.F.args_list_index_2 _ _) (SeqAt.list_indexAt l its.toArray n dd sl (.ref k) e (cs.idxOf c) hp (by rw [PySem.sizeLine_eq] at hs; omega) hit no) ⟨ho, fun y hy => ?_, ⟨.int _, H, I.tok _, ⟨_, rfl⟩, q⟩⟩
  obtain ⟨i, hi, rfl⟩ := List.mem_iff_getElem.mp (show y ∈ its by simpa using hy)
  obtain ⟨a, e1, e2⟩ := at_ i hi
  obtain ⟨as, ry⟩ := Is.reads I _ (Is.ints e2) (u := .ref a) rfl
  have z := eiff i hi
  rw [e1] at z ⊢
  have this := SeqAt.eqAt_reads (.list ((cs[i]'(by omega)).map PyData.int)) (.list (c.map PyData.int)) X.A.in1 s _ _ _ _ ry rk (lay_ints _) (lay_ints _) (by
    rw [PyData.depth, PyData.depth, depthAll_ints, depthAll_ints]
    show X.A.units + 1 + _ < _
    omega)
  rw [eqv_ints] at this
  have e3 : e (.ref a) = decide (cs[i]'(by omega) = c) := by
    rw [Bool.eq_iff_iff, z, decide_eq_true_eq]
  rw [e3]
  exact this
end L2
namespace L3
open PySem PySem.Spec PyProof.Rows L2
noncomputable def lsOf : List PyData → Option (List (List Int))
  | [] => some []
  | .list es :: r => match intsOf es, lsOf r with
    | some c, some cs => some (c :: cs)
    | _, _ => none
  | _ => none
theorem lsOf_eq : ∀ {ds : List PyData} {cs : List (List Int)}, lsOf ds = some cs → ds = cs.map fun c => PyData.list (c.map PyData.int)
  | [], cs, h => by cases h; rfl
  | d :: r, cs, h => by
    cases d with
    | list es =>
      have h : (match intsOf es, lsOf r with | some c, some cs => some (c :: cs) | _, _ => none) = some cs := h
      cases h1 : intsOf es with
      | none => rw [h1] at h; cases h
      | some c =>
        rw [h1] at h
        cases h2 : lsOf r with
        | none => rw [h2] at h; cases h
        | some cs' =>
          rw [h2] at h
          cases h
          rw [lsOf_eq h2, intsOf_eq h1]
          rfl
    | _ => cases h
theorem lists1_of {K : PySem.W.Frag} {A H : Hp} (s : Same A H) : ∀ {cs : List (List Int)} {vs : List V}, RpAll K A (cs.map fun c => PyData.list (c.map PyData.int)) vs → lists1 K H vs cs
  | [], vs, h => by
    rw [List.map_nil, RpAll] at h
    subst h
    trivial
  | c :: cs, vs, h => by
    rw [List.map_cons, RpAll] at h
    obtain ⟨v, r, rfl, h1, h2⟩ := h
    obtain ⟨a, ws, rfl, h3, h4⟩ := Rp.list.mp h1
    obtain rfl := h4.intV
    exact ⟨⟨a, rfl, s.seq h3⟩, lists1_of s h2⟩
noncomputable def indexL : PyData → PyData → Res PyData
  | .list ds, .list es => match lsOf ds, intsOf es with
    | some cs, some c => gd (c ∈ cs) (.ok (.int (cs.idxOf c : Nat)))
    | _, _ => .bad
  | _, _ => .bad
section
variable {X : Cx} {O : List Fl} {m m' : ME} {a b : Expr} {apos cpos : Pos}
theorem se_indexL (hu : X.A.units + 64 < cLine) (ha : QE X a (tP X.K O m)) (hb : QE X b (tP X.K O m')) (hbase : attributeBase a "index" X.env (eval a X.env) = eval a X.env := by rfl)
    (hfew : ((backTo cpos (starEach (b :: []) X.env)).all (fun x => !x.1) && (backToKw cpos (keywordEach [] X.env)).all (fun x => x.1.isSome)
      && decide ((b :: []).length + ([] : List Keyword).length + (if ([] : List Keyword).isEmpty then 0 else 1) < 30)) = true := by rfl)
    (hline : (apos.endLine == cpos.line) = true := by rfl) (hs : starEach (b :: []) X.env = (false, eval b X.env) :: starEach [] X.env := by rfl) (hplain : (backTo cpos (starEach [] X.env)).any (·.1) = false := by rfl) :
    QE X (.Call (.Attribute a "index" apos) [b] [] cpos) (tE X.K O (eBin indexL m m')) :=
  QE.imp (pe_bm PySem.F.plainAttrs_list PySem.F.slot_list_index PySem.F.type_list_index (mt_indexL hu) ha.h (pa_cons hb.h pa_nil hs) hbase hfew hline hs hplain) fun σ H Q hq__ => by
    obtain ⟨A, B, Γ, d, r, em, k⟩ := hq__
    obtain ⟨d1, e1, em⟩ := Res.bind_ok em
    obtain ⟨d2, e2, em⟩ := Res.bind_ok em
    cases d1 with
    | list ds =>
      cases d2 with
      | list es =>
        have em : (match lsOf ds, intsOf es with | some cs, some c => gd (c ∈ cs) (.ok (.int (cs.idxOf c : Nat))) | _, _ => .bad) = Res.ok d := em
        cases hn : lsOf ds with
        | none => rw [hn] at em; cases em
        | some cs =>
          cases hc : intsOf es with
          | none => rw [hn, hc] at em; cases em
          | some c =>
            rw [hn, hc] at em
            obtain ⟨hk, em⟩ := gd_ok em
            cases em
            obtain rfl := lsOf_eq hn
            obtain rfl := intsOf_eq hc
            refine ⟨A, B, Γ, _, r, e1, fun v A1 H1 g1 p1 => ?_⟩
            obtain ⟨l, vs, rfl, h1, q1⟩ := p1.list g1.ah
            refine ⟨.inl ⟨rfl, _, h1⟩, A1, B, Γ, _, r.grow g1, e2, fun v2 A2 H2 g2 p2 => ?_⟩
            obtain ⟨kk, us, rfl, h2, q2⟩ := p2.list g2.ah
            obtain rfl := q2.intV
            exact ⟨l, _, cs, kk, c, rfl, rfl, g2.hh.seq h1, lists1_of (g2.aa.trans g2.ah) q1, h2, hk, k _ A2 H2 (g1.trans g2) (Rp.int.mpr rfl)⟩
      | _ => cases em
    | _ => cases em
end
end L3
namespace L2
open PySem PySem.Spec PyProof.Rows
section
variable {X : Cx} {pins : List (Addr × Obj)} {σ : St} {H : Hp} {s : Shared} {d : Addr} {xs : List V}
theorem Inv.unfrzL {o : Obj} (I : Inv X pins σ H s) (h : H d = some (.frz o (.lst xs))) (hb0 : ∀ o u, X.H₀ d ≠ some (.frz o u)) : Inv X pins σ (upd H d (.lst xs)) s := by
  have ne : ∀ {b : Addr}, H b = none → b ≠ d := fun hn y => by rw [y, h] at hn; cases hn
  have nd : ∀ {b : Addr} {x : HO}, H b = some x → x ≠ .frz o (.lst xs) → b ≠ d := fun hb hx y => by rw [y, h] at hb; exact hx (Option.some.inj hb).symm
  refine ⟨I.ok, I.os, I.bare, ⟨I.base.keep, I.base.slot, fun b ob q n hx => ?_, I.base.there, fun b ys q => ?_, fun b ob u' q => ?_, fun b q' q => ?_⟩, I.loc, I.cell, ?_, fun x c q => ?_, fun q hq => ?_, fun b ob q => ?_, I.len⟩
  · have := I.base.free b ob q n hx
    rw [upd_ne (ne this)]; exact this
  · have := I.base.tups b ys q
    rw [upd_ne (nd this (by intro z; cases z))]; exact this
  · have := I.base.frzs b ob u' q
    rw [upd_ne (fun z => by rw [z] at q; exact hb0 _ _ q)]; exact this
  · have := I.base.tbls b q' q
    rw [upd_ne (nd this (by intro z; cases z))]; exact this
  · rw [upd_ne (ne I.free)]; exact I.free
  · rw [upd_ne (ne (I.freeC x c q))]; exact I.freeC x c q
  · obtain ⟨q1, q2, q3⟩ := I.pin q hq
    exact ⟨q1, by rw [upd_ne (ne q2)]; exact q2, q3⟩
  · have ho : ∀ c a, H c = some (.own a) → upd H d (.lst xs) c = some (.own a) := fun c a q => by rw [upd_ne (nd q (by intro z; cases z))]; exact q
    have ht : ∀ c ys, H c = some (.tup ys) → upd H d (.lst xs) c = some (.tup ys) := fun c ys q => by rw [upd_ne (nd q (by intro z; cases z))]; exact q
    by_cases hb : b = d
    · subst hb
      rw [upd_same] at q
      cases q
      exact (I.hok b _ h).2.stay (fun _ _ _ e => e) (fun c q => ho c _ q) ht
    · rw [upd_ne hb] at q
      exact (I.hok b ob q).stay (fun _ _ _ e => e) (fun c q => ho c _ q) ht
end
end L2
namespace L3
open PySem PySem.Spec PyProof.Rows L2
noncomputable def tL (X : Cx) (O : List Fl) (m : Ev → Res Bool) : TS := fun D σ H => ∃ A Γ b, StRep X.K A X.H₀ H O σ Γ ∧ (∀ p, X.H₀ p ≠ none → A p = none) ∧ m Γ = .ok b ∧ ∀ H', D.rt (.bl b) H'
noncomputable def lSeq (m1 : MS) (m2 : Ev → Res Bool) : Ev → Res Bool := fun Γ => match m1 Γ with
  | .ok (.nx Γ') => m2 Γ'
  | .ok (.rt (.bool b)) => .ok b
  | _ => .bad
section
variable {X : Cx} {O O1 Ol : List Fl} {m1 : MS} {m2 : Ev → Res Bool} {st : Stmt} {rest : List Stmt}
theorem sl_cons (h1 : QS X st (tS X.K .f Ol O O1 m1)) (h2 : QSs X rest (tL X O1 m2)) : QSs X (st :: rest) (tL X O (lSeq m1 m2)) := ⟨fun pins s σ H D I h => by
  obtain ⟨A, Γ, b, r, dis, em, k⟩ := h
  have em : (match m1 Γ with | .ok (.nx Γ') => m2 Γ' | .ok (.rt (.bool b)) => .ok b | _ => .bad) = .ok b := em
  refine pss_cons h1.h h2.h pins s σ H D I ?_
  revert em
  split
  · rename_i Γ' e
    exact fun em => ⟨A, X.H₀, Γ, _, r, e, fun σ' A' H' r' sa nw => ⟨A', Γ', b, r', fun p hp => nw p (dis p hp) hp, em, k⟩⟩
  · rename_i b' e
    intro em
    cases em
    exact ⟨A, X.H₀, Γ, _, r, e, fun v A' H' s1 s2 sa nw rv => by
      have rv : Rp X.K A' (.bool b) v := rv
      rw [Rp.bool.mp rv]
      exact k H'⟩
  · exact fun em => nomatch em⟩
end
noncomputable def spL (K : PySem.W.Frag) (fs : List Fl) (m : List PyData → Res Bool) : Sp := fun vs H Q _ => ∃ A ds b, Same A H ∧ (∀ p, H p ≠ none → A p = none) ∧ ArgsOk K A H fs ds vs ∧ m ds = .ok b ∧ ∀ H', Q (.bl b) H'
noncomputable def fnL (n : Nat) (m : Ev → Res Bool) (ds : List PyData) : Res Bool := m (ds.map some ++ List.replicate (n - ds.length) none)
section
variable {P : Program} {w : World} {K : PySem.W.Frag} {mg : Str → Option Value} {base : Heap}
theorem def_okL {x : Str} {st : Stmt} {fa : Addr} {fd : FuncData} {N ps : List Str} {k : Nat} {fs O : List Fl} {m : Ev → Res Bool} (F : Fun K x x st fa fd) (S : FnScope N ps (defScope st)) (hf : fs.length = ps.length) (hn : ps.length ≤ N.length)
    (hO : ∀ i, i < fs.length → (fl O i = .imm ∧ fl fs i = .imm) ∨ fl O i = .bor)
    (hbody : ∀ (f : Addr) (cdv : Value) (A : Around) (outer : List Env) (s : Shared) (H : Hp) (E : XK), Room k (A.deeper (envOfC x (defScope st) s.heap.objs.size f cdv)) →
      QSs (cxOf CX0 P w K mg base N x (defScope st) f cdv A outer s H E).nox (defBody st) (tL (cxOf CX0 P w K mg base N x (defScope st) f cdv A outer s H E).nox O m)) : FnOk P w K mg base CX0 (k + 1) fa fd ps (spL K fs (fnL N.length m)) := by
  refine F.ok S (fun vs H Q E h => ?_) (fun cdv A outer s H vs Q E hr h => ?_)
  · obtain ⟨A, ds, d, _, _, h, _⟩ := h
    rw [h.length.1, hf]
  · obtain ⟨A', ds, b, ha, dis, h, em, q⟩ := h
    exact ⟨_, (hbody fa cdv A outer s H E hr).h, A', _, b, start_rep ha h hO (by omega), dis, em, q⟩
end
theorem law_scriptL {K : PySem.W.Frag} {H : Hp} {a : Addr} {ns : List Int} {f : List PyData → Res Bool} {E : XK} (hm : f [.list (ns.map PyData.int)] = .ok true) (hS : SqL K H a (ns.map V.int)) : spL K [.bor] f [.ref a] H (fun v _ => v = .bl true) E := by
  refine ⟨fun _ => none, [.list (ns.map PyData.int)], true, (fun _ _ z => nomatch z), fun _ _ => rfl, ⟨_, _, _, _, rfl, rfl, ?_, rfl, rfl⟩, hm, fun _ => rfl⟩
  exact .inr (.inl ⟨a, _, _, rfl, rfl, hS, RpAll.ints⟩)
end L3
namespace L3
open PySem PySem.Spec PyProof.Rows L2
noncomputable def tSpoil (X : Cx) (io : Nat) : TS := fun D σ H => ∃ x, σ[io]? = some (some x) ∧ ((x = .non ∧ D.nx σ H) ∨ ∃ t n l ys, x = .ref t ∧ SqT X.K H t [.int n, .ref l] ∧ (H l = some (.lst ys) ∨ ((∃ ob, H l = some (.frz ob (.lst ys))) ∧ X.H₀ l = none)) ∧ ys.length < sizeLine ∧ D.nx σ (upd H l (.lst (ys ++ [.int 0]))))
section
variable {X : Cx}
theorem Rd_upd {H : Hp} {t l : Addr} {ws ys zs : List V} (h : Rd H t (.tup ws)) (hl : H l = some (.lst ys) ∨ ∃ ob, H l = some (.frz ob (.lst ys))) : Rd (upd H l (.lst zs)) t (.tup ws) := by
  have ne : t ≠ l := fun z => by
    subst z
    rcases h with h | ⟨o, h⟩ <;> rcases hl with q | ⟨ob, q⟩ <;> rw [h] at q <;> cases q
  unfold Rd
  rw [upd_ne ne]
  exact h
theorem ps_spoil {io : Nat} {on : Str} {p0 p1 p2 p3 p4 p5 p6 p7 p8 p9 p10 : Pos} {j1 j2 j3} (hio : X.N[io]? = some on) (hlo : X.env.scope.names.lookup on = some .local) (hd : (on == ("__debug__" : Str)) = false) (hdc : (on == ("__classdict__" : Str)) = false)
    (hix : PlainIx (.Constant (.int 1) j2 p5))
    (hbase : attributeBase (.Subscript (.Name on p4) (.Constant (.int 1) j2 p5) p6) "append" X.env (eval (.Subscript (.Name on p4) (.Constant (.int 1) j2 p5) p6) X.env) = eval (.Subscript (.Name on p4) (.Constant (.int 1) j2 p5) p6) X.env)
    (hline : (p7.endLine == p9.line) = true)
    (hsw : swapsWith (.Call (.Attribute (.Subscript (.Name on p4) (.Constant (.int 1) j2 p5) p6) "append" p7) [.Constant (.int 0) j3 p8] [] p9) none p10.line X.env = pure false) :
    PSs X [.If (.Compare (.Name on p1) [.IsNot] [.Constant .none j1 p2] p3) [.Expr (.Call (.Attribute (.Subscript (.Name on p4) (.Constant (.int 1) j2 p5) p6) "append" p7) [.Constant (.int 0) j3 p8] [] p9) p10] [] p0] (tSpoil X io) := by
  have v1 : ∀ pos, PE X (.Name on pos) (tVar io) := fun pos => pe_var hio (.inl hlo) hd hdc
  have b1 := ps_expr (pos := p10) (pe_bm PySem.F.plainAttrs_list PySem.F.slot_list_append PySem.F.type_list_append mt_append (apos := p7) (cpos := p9) (pe_ix ix_tup (v1 p4) (pe_int (X := X) (i := 1) (j := j2) (pos := p5)) hix) (pa_cons (pe_int (X := X) (i := 0) (j := j3) (pos := p8)) pa_nil (star_cons rfl)) hbase rfl hline (star_cons rfl) (star_any rfl)) hsw
  have c1 := ps_if (pos := p0) (pt_cmp (pos := p3) (pc_notN (j := j1) (pos' := p2) (v1 p1))) (pss_one b1) (pss_nil (X := X))
  refine fun pins s σ H D I h => ?_
  obtain ⟨x, hx, h⟩ := h
  rcases h with ⟨rfl, h⟩ | ⟨t, n, l, ys, rfl, ht, hl, hz, h⟩
  · refine pss_one c1 pins s σ H D I ⟨.non, hx, false, by rfl, ?_⟩
    exact iteF h
  · have hl0 : H l = some (.lst ys) ∨ ∃ ob, H l = some (.frz ob (.lst ys)) := by
      rcases hl with q | ⟨q, _⟩
      · exact .inl q
      · exact .inr q
    have ht' : ∀ zs, SqT X.K (upd H l (.lst zs)) t [.int n, .ref l] := fun zs => by
      rcases ht with q | q
      · exact .inl (Rd_upd q hl0)
      · exact .inr q
    have main : ∀ H0, L2.Inv X pins σ H0 s → H0 l = some (.lst ys) → SqT X.K H0 t [.int n, .ref l] → upd H0 l (.lst (ys ++ [.int 0])) = upd H l (.lst (ys ++ [.int 0])) → wpAny (model X.prog X.w) X.A (execs [.If (.Compare (.Name on p1) [.IsNot] [.Constant .none j1 p2] p3) [.Expr (.Call (.Attribute (.Subscript (.Name on p4) (.Constant (.int 1) j2 p5) p6) "append" p7) [.Constant (.int 0) j3 p8] [] p9) p10] [] p0] X.env) (SP X pins D) X.xe s := fun H0 I0 q0 qt e0 => by
      refine pss_one c1 pins s σ H0 D I0 ⟨.ref t, hx, true, by rfl, iteT ?_⟩
      refine ⟨.ref t, hx, t, _, 1, .ref l, rfl, rfl, qt, rfl, .inl ⟨rfl, ys, .inl (.inl q0)⟩, l, ys, .int 0, rfl, rfl, q0, hz, ?_⟩
      rw [e0]
      exact h
    rcases hl with q | ⟨⟨ob, q⟩, q0⟩
    · exact main H I q ht rfl
    · exact main (upd H l (.lst ys)) (I.unfrzL q fun o u z => by rw [q0] at z; cases z) upd_same (ht' ys) upd_upd
end
noncomputable def isLB : HO → Bool
  | .lst _ => true
  | .frz _ (.lst _) => true
  | _ => false
noncomputable def nlH (A : Hp) : Hp := fun p => match A p with
  | some o => if isLB o = true then none else some o
  | none => none
theorem nlH_of {A : Hp} {p : Addr} {o : HO} (h : nlH A p = some o) : A p = some o ∧ isLB o = false := by
  unfold nlH at h
  split at h
  · rename_i o' e
    split at h
    · cases h
    · rename_i z
      cases h
      exact ⟨e, by simpa using z⟩
  · cases h
theorem nlH_get {A : Hp} {p : Addr} {o : HO} (h : A p = some o) (hl : isLB o = false) : nlH A p = some o := by
  unfold nlH
  rw [h]
  show (if isLB o = true then none else some o) = _
  rw [if_neg (by rw [hl]; decide)]
noncomputable def tupB : PyData → Bool
  | .tuple ds => (intsOf ds).isSome
  | _ => false
noncomputable def brB : PyData → Bool
  | .none => true
  | .tuple [.int _, .list es] => (intsOf es).isSome && decide (es.length ≤ 1000)
  | _ => false
theorem Rd_nl {A : Hp} {t : Addr} {ws : List V} (h : Rd A t (.tup ws)) : Rd (nlH A) t (.tup ws) := by
  rcases h with h | ⟨o, h⟩
  · exact .inl (nlH_get h rfl)
  · exact .inr ⟨o, nlH_get h rfl⟩
theorem rp_nl {K : PySem.W.Frag} {A : Hp} {d : PyData} {v : V} (h : tupB d = true) (p : Rp K A d v) : Rp K (nlH A) d v := by
  cases d with
  | tuple ds =>
    have h : (intsOf ds).isSome = true := h
    cases hn : intsOf ds with
    | none => rw [hn] at h; cases h
    | some ns =>
      obtain rfl := intsOf_eq hn
      obtain ⟨a, vs, rfl, h1, h2⟩ := Rp.tuple.mp p
      obtain rfl := h2.intV
      refine Rp.tuple.mpr ⟨a, _, rfl, ?_, RpAll.ints⟩
      rcases h1 with q | q
      · exact .inl (Rd_nl q)
      · exact .inr q
  | _ => cases h
theorem rpAll_nl {K : PySem.W.Frag} {A : Hp} : ∀ {ds : List PyData} {vs : List V}, ds.all tupB = true → RpAll K A ds vs → RpAll K (nlH A) ds vs
  | [], vs, _, h => by rw [RpAll] at h ⊢; exact h
  | d :: ds, vs, hd, h => by
    rw [RpAll] at h ⊢
    obtain ⟨v, r, e, h1, h2⟩ := h
    rw [List.all_cons, Bool.and_eq_true] at hd
    exact ⟨v, r, e, rp_nl hd.1 h1, rpAll_nl hd.2 h2⟩
theorem RpAll.getD {K : PySem.W.Frag} {A : Hp} : ∀ {ds : List PyData} {vs : List V} {i : Nat} {v : V}, RpAll K A ds vs → vs[i]? = some v → ∃ d, ds[i]? = some d ∧ Rp K A d v
  | [], vs, i, v, h, e => by rw [RpAll] at h; subst h; cases e
  | d :: ds, vs, i, v, h, e => by
    rw [RpAll] at h
    obtain ⟨v', r, rfl, h1, h2⟩ := h
    cases i with
    | zero => cases e; exact ⟨d, rfl, h1⟩
    | succ i => exact RpAll.getD h2 (i := i) e
structure Spd (A B : Hp) (pg pf : Addr) (og of : HO) (H' : Hp) (i : Nat) : Prop where
  oth : ∀ p o, A p = some o → isLB o = false → H' p = some o
  lst : ∀ p o xs, A p = some o → (o = .lst xs ∨ ∃ ob, o = .frz ob (.lst xs)) → ∃ ys, ys.length ≤ xs.length + i ∧ (H' p = some (.lst ys) ∨ ∃ ob, H' p = some (.frz ob (.lst ys)))
  g : H' pg = some og
  f : H' pf = some of
  b : Same B H'
noncomputable def ev2 (n ig iq : Nat) (d : PyData) (q : Str) : Ev := ((List.replicate n none).set ig (some d)).set iq (some (.str q))
noncomputable def lTail (ig jf iq : Nat) (m9 : MS) : Ev → Res Bool := fun Γ => match gv Γ ig, gv Γ jf, gv Γ iq with
  | some (.list gd1), some (.list fd), some (.str q) => gd (gd1.all tupB = true ∧ fd.all brB = true ∧ 0 < fd.length ∧ fd.length ≤ 1000 ∧ ig ≠ iq ∧ ig ≠ jf ∧ ig < Γ.length ∧ iq < Γ.length) (match m9 (ev2 Γ.length ig iq (.list gd1) q) with | .ok (.rt (.bool b)) => .ok b | _ => .bad)
  | _, _, _ => .bad
section
variable {X : Cx} {O O' Ol : List Fl} {m9 : MS}
theorem sl_tail {ig jf iq io : Nat} {fn on : Str} {body : Stmt} {ret : Stmt} {q1 q2 q3 q4 q5 q6 q7 : Pos} (hK : NoLst X.K) (hp : PassesOwn (model X.prog X.w) X.A X.env X.xe) (hc : X.calm = true) (hN : X.N.Nodup)
    (hjf : X.N[jf]? = some fn) (hlf : X.env.scope.names.lookup fn = some .local) (hio : X.N[io]? = some on) (hlo : X.env.scope.names.lookup on = some .local) (hfo : X.fn on = true ∨ X.env.scope.names.lookup on = some .local)
    (d1 : (fn == ("__debug__" : Str)) = false) (d2 : (fn == ("__classdict__" : Str)) = false) (ng : ig ≠ io) (nf : jf ≠ io) (nq : iq ≠ io)
    (hOg : fl O ig = .own) (hOf : fl O jf = .own) (hOq : fl O iq = .imm) (hb : PSs X [body] (tSpoil X io))
    (hbase : attributeBase (.Name fn q4) "pop" X.env (eval (.Name fn q4) X.env) = eval (.Name fn q4) X.env) (hline : (q5.endLine == q6.line) = true) (hsw : swapsWith (.Call (.Attribute (.Name fn q4) "pop" q5) [] [] q6) none q7.line X.env = pure false)
    (hfs : ∀ x, foldedSetIterable (.Name fn q2) X.env x = pure x) (h9 : QS X ret (tS X.K .f Ol ((List.replicate X.N.length .imm).set ig .own) O' m9)) :
    QSs X [.For (.Name on q1) (.Name fn q2) [body] [] q3, .Expr (.Call (.Attribute (.Name fn q4) "pop" q5) [] [] q6) q7, ret] (tL X O (lTail ig jf iq m9)) := by
  have hfor := ps_for (pos := q3) hp hc (pi_list (tg := .Name on q1) (pe_var (X := X) (pos := q2) hjf (.inl hlf) d1 d2)) (pg_name (pos := q1) hN hio (.inl hlo) hfo) hb hfs
  have hpop := ps_expr (pos := q7) (pe_bm0 (apos := q5) (cpos := q6) PySem.F.plainAttrs_list PySem.F.slot_list_pop PySem.F.type_list_pop mt_pop (pe_var (X := X) (pos := q4) hjf (.inl hlf) d1 d2) hbase hline) hsw
  refine ⟨fun pins s σ H D I h => pss_cons hfor (pss_cons hpop (pss_one h9.h)) pins s σ H D I ?_⟩
  obtain ⟨A, Γ, b, r, dis, em, k⟩ := h
  unfold lTail at em
  split at em
  rotate_left
  · cases em
  rename_i gd1 fd q e1 e2 e3
  obtain ⟨⟨c1, c2, c3, c8, c4, c5, c6, c7⟩, em⟩ := gd_ok em
  have em9 : m9 (ev2 Γ.length ig iq (.list gd1) q) = .ok (.rt (.bool b)) := by
    revert em
    split
    · rename_i b' e
      intro z
      cases z
      exact e
    · exact fun z => nomatch z
  obtain ⟨_, pg, og, eg, sg, hg, ag, bg, owg⟩ := r.own_at (j := ig) (by rw [hOg]; rfl) (by rw [e1]; simp)
  rw [e1] at eg
  cases eg
  obtain ⟨_, pf, of, ef, sf, hf, af, bf, owf⟩ := r.own_at (j := jf) (by rw [hOf]; rfl) (by rw [e2]; simp)
  rw [e2] at ef
  cases ef
  have npf : pg ≠ pf := fun z => r.sep ig jf c5 (by rw [hOg]; rfl) (by rw [hOf]; rfl) (by rw [e1]; simp) (by rw [e2]; simp) (by rw [sg, sf, z])
  obtain ⟨vg, rfl, rg⟩ : ∃ vg, og = .lst vg ∧ RpAll X.K A gd1 vg := by
    rcases owg with ⟨ds, vs, z, rfl, h⟩ | ⟨_, _, z, _⟩
    · cases z; exact ⟨vs, rfl, h⟩
    · cases z
  obtain ⟨vf, rfl, rf⟩ : ∃ vf, of = .lst vf ∧ RpAll X.K A fd vf := by
    rcases owf with ⟨ds, vs, z, rfl, h⟩ | ⟨_, _, z, _⟩
    · cases z; exact ⟨vs, rfl, h⟩
    · cases z
  obtain ⟨vq, sq, rq⟩ := r.slot iq (.str q) e3
  rw [hOq] at rq
  have rq : Rp X.K A (.str q) vq := rq
  obtain rfl := Rp.str.mp rq
  have lenf : vf.length = fd.length := rf.length.symm
  have svi : ∀ {τ : L2.St} {j : Nat} {v : V}, sv τ j = some v → τ[j]? = some (some v) := fun {τ j v} z => by
    unfold sv at z
    rw [List.getD_eq_getElem?_getD] at z
    cases q : τ[j]? with
    | none => rw [q] at z; cases z
    | some o => rw [q] at z; rw [show o = some v from z]
  have lio : io < σ.length := by rw [I.len]; exact (List.getElem?_eq_some_iff.mp hio).1
  refine ⟨.ref pf, svi sf, pf, rfl, ⟨vf, .inl (.inl hf)⟩, fun i n σ' H' => n = vf.length - i ∧ i ≤ vf.length ∧ Spd A X.H₀ pg pf (.lst vg) (.lst vf) H' i ∧ σ'.length = σ.length ∧ ∀ j, j ≠ io → sv σ' j = sv σ j, ⟨vf.length, rfl, Nat.zero_le _, ⟨fun p o h _ => r.a p o h, fun p o xs h z => ⟨xs, Nat.le_refl _, ?_⟩, hg, hf, r.b⟩, rfl, fun _ _ => rfl⟩, ?_⟩
  · rcases z with rfl | ⟨ob, rfl⟩
    · exact .inl (r.a p _ h)
    · exact .inr ⟨ob, r.a p _ h⟩
  rintro i n σ' H' ⟨rfl, hi, S, hl, hs⟩
  by_cases hlt : i < vf.length
  · refine .inr ⟨⟨vf, vf[i], .inl (.inl S.f), List.getElem?_eq_getElem hlt⟩, fun σ'' H'' => Spd A X.H₀ pg pf (.lst vg) (.lst vf) H'' (i + 1) ∧ σ''.length = σ.length ∧ ∀ j, j ≠ io → sv σ'' j = sv σ j, ?_, fun x H2 y => ?_⟩
    · rintro σ'' H'' ⟨S', l', s'⟩
      exact ⟨vf.length - (i + 1), by omega, rfl, by omega, S', l', s'⟩
    · obtain ⟨rfl, hx⟩ := y
      have hx := hx vf (.inl (.inl S.f))
      obtain ⟨d, ed, rp⟩ := RpAll.getD rf hx
      have hd := List.all_eq_true.mp c2 d (List.mem_of_getElem? ed)
      have l2 : (σ'.set io (some x)).length = σ.length := by rw [List.length_set]; exact hl
      have s2 : ∀ j, j ≠ io → sv (σ'.set io (some x)) j = sv σ j := fun j hj => by
        unfold sv
        rw [getD_set_ne (Ne.symm hj)]
        exact hs j hj
      refine ⟨x, List.getElem?_set_self (by omega), ?_⟩
      have up : Spd A X.H₀ pg pf (.lst vg) (.lst vf) H2 (i + 1) := ⟨S.oth, fun p o xs h z => by
        obtain ⟨ys, q1, q2⟩ := S.lst p o xs h z
        exact ⟨ys, by omega, q2⟩, S.g, S.f, S.b⟩
      match d, hd, rp with
      | .none, _, rp => exact .inl ⟨Rp.none.mp rp, up, l2, s2⟩
      | .tuple [.int n, .list es], hd, rp =>
        have hd : ((intsOf es).isSome && decide (es.length ≤ 1000)) = true := hd
        rw [Bool.and_eq_true, decide_eq_true_eq] at hd
        obtain ⟨t, ws, rfl, ht, ra⟩ := Rp.tuple.mp rp
        rw [RpAll] at ra
        obtain ⟨v1, r1, rfl, p1, ra⟩ := ra
        rw [RpAll] at ra
        obtain ⟨v2, r2, rfl, p2, ra⟩ := ra
        rw [RpAll] at ra
        subst ra
        obtain rfl := Rp.int.mp p1
        obtain ⟨l, us, rfl, hl1, q1⟩ := Rp.list.mp p2
        have ht2 : SqT X.K H2 t [.int n, .ref l] := by
          rcases ht with q | q
          · refine .inl ?_
            rcases q with q | ⟨o, q⟩
            · exact .inl (S.oth _ _ q rfl)
            · exact .inr ⟨o, S.oth _ _ q rfl⟩
          · exact .inr q
        have hA : ∃ o, A l = some o ∧ (o = .lst us ∨ ∃ ob, o = .frz ob (.lst us)) := by
          rcases hl1 with q | ⟨o, its, m, e, hcl, _⟩
          · rcases q with q | ⟨ob, q⟩
            · exact ⟨_, q, .inl rfl⟩
            · exact ⟨_, q, .inr ⟨ob, rfl⟩⟩
          · exact absurd hcl (hK l o e)
        obtain ⟨ol, hA, hol⟩ := hA
        have isl : isLB ol = true := by
          rcases hol with rfl | ⟨ob, rfl⟩ <;> rfl
        have nA : ∀ p, A p = none → p ≠ l := fun p z w => by rw [w, hA] at z; cases z
        have hB : X.H₀ l = none := by
          cases z : X.H₀ l with
          | none => rfl
          | some o => have := dis l (by rw [z]; simp); rw [hA] at this; cases this
        obtain ⟨ys, hy, hH⟩ := S.lst l ol us hA hol
        have lu : us.length = es.length := q1.length.symm
        refine .inr ⟨t, n, l, ys, rfl, ht2, ?_, ?_, ?_, l2, s2⟩
        · rcases hH with q | q
          · exact .inl q
          · exact .inr ⟨q, hB⟩
        · rw [sizeLine_eq]; omega
        · refine ⟨fun p o h z => ?_, fun p o xs h z => ?_, ?_, ?_, fun p o h => ?_⟩
          · rw [upd_ne (fun w => by rw [w, hA] at h; cases h; rw [isl] at z; cases z)]
            exact S.oth p o h z
          · by_cases w : p = l
            · subst w
              rw [hA] at h
              cases h
              have : xs = us := by
                rcases hol with rfl | ⟨ob, rfl⟩
                · rcases z with z | ⟨ob, z⟩ <;> cases z; rfl
                · rcases z with z | ⟨ob, z⟩ <;> cases z; rfl
              subst this
              exact ⟨ys ++ [.int 0], by rw [List.length_append, List.length_singleton]; omega, .inl upd_same⟩
            · rw [upd_ne w]
              obtain ⟨ys, q1, q2⟩ := S.lst p o xs h z
              exact ⟨ys, by omega, q2⟩
          · rw [upd_ne (nA pg ag)]; exact S.g
          · rw [upd_ne (nA pf af)]; exact S.f
          · rw [upd_ne (fun w => by rw [w, hB] at h; cases h)]
            exact S.b p o h
  · refine .inl ⟨⟨vf, .inl (.inl S.f), by omega⟩, .ref pf, svi ((hs jf nf).trans sf), .inl ⟨rfl, vf, .inl (.inl S.f)⟩, pf, vf, vf[vf.length - 1]'(by omega), rfl, rfl, S.f, List.getElem?_eq_getElem _, ?_⟩
    have e2l : (ev2 Γ.length ig iq (.list gd1) q).length = Γ.length := by unfold ev2; rw [List.length_set, List.length_set, List.length_replicate]
    have ge : ∀ j, gv (ev2 Γ.length ig iq (.list gd1) q) j = if j = iq then some (.str q) else if j = ig then some (.list gd1) else none := fun j => by
      unfold ev2 gv
      rw [List.getD_eq_getElem?_getD]
      by_cases w : j = iq
      · subst w
        rw [if_pos rfl, List.getElem?_set_self (by rw [List.length_set, List.length_replicate]; exact c7)]
        rfl
      · rw [if_neg w, List.getElem?_set_ne (Ne.symm w)]
        by_cases w2 : j = ig
        · subst w2
          rw [if_pos rfl, List.getElem?_set_self (by rw [List.length_replicate]; exact c6)]
          rfl
        · rw [if_neg w2, List.getElem?_set_ne (Ne.symm w2), List.getElem?_replicate]
          split <;> rfl
    have ln : Γ.length = X.N.length := by rw [r.len, I.len]
    have fo : ∀ j, fl ((List.replicate X.N.length Fl.imm).set ig .own) j = if j = ig then .own else .imm := fun j => by
      unfold fl
      rw [List.getD_eq_getElem?_getD]
      by_cases w2 : j = ig
      · subst w2
        rw [if_pos rfl, List.getElem?_set_self (by rw [List.length_replicate, ← ln]; exact c6)]
        rfl
      · rw [if_neg w2, List.getElem?_set_ne (Ne.symm w2), List.getElem?_replicate]
        split <;> rfl
    refine ⟨nlH A, X.H₀, ev2 Γ.length ig iq (.list gd1) q, .rt (.bool b), ⟨fun p o h => ?_, fun p o h => ?_, by rw [e2l, hl]; exact r.len, fun j d' h => ?_, fun i j hij h1 h2 _ _ => ?_⟩, em9, fun v A' H3 s1 s2 sa nw rv => ?_⟩
    · obtain ⟨h1, h2⟩ := nlH_of h
      rw [upd_ne (fun w => by rw [w, af] at h1; cases h1)]
      exact S.oth p o h1 h2
    · rw [upd_ne (fun w => by rw [w, bf] at h; cases h)]
      exact S.b p o h
    · rw [ge] at h
      rw [fo]
      by_cases w : j = iq
      · subst w
        rw [if_pos rfl] at h
        cases h
        rw [if_neg (Ne.symm c4)]
        exact ⟨.str q, (hs j nq).trans sq, (Rp.str (K := X.K) (A := nlH A)).mpr rfl⟩
      · rw [if_neg w] at h
        by_cases w2 : j = ig
        · subst w2
          rw [if_pos rfl] at h
          cases h
          rw [if_pos rfl]
          refine ⟨.ref pg, (hs j ng).trans sg, pg, .lst vg, rfl, by rw [upd_ne npf]; exact S.g, ?_, bg, .inl ⟨gd1, vg, rfl, rfl, rpAll_nl c1 rg⟩⟩
          unfold nlH
          rw [ag]
        · rw [if_neg w2] at h
          cases h
    · rw [fo] at h1 h2
      by_cases w1 : i = ig
      · by_cases w2 : j = ig
        · exact absurd (w1.trans w2.symm) hij
        · rw [if_neg w2] at h2; cases h2
      · rw [if_neg w1] at h1; cases h1
    · have rv : Rp X.K A' (.bool b) v := rv
      rw [Rp.bool.mp rv]
      exact k H3
end
end L3
namespace Gk
noncomputable def gnum (xs : List Int) : Int := xs.foldr (fun f n => 2 * n + f) 0
theorem gnum_cons (x : Int) (xs : List Int) : gnum (x :: xs) = 2 * gnum xs + x := rfl
theorem gnum_nonneg : ∀ {xs : List Int}, (∀ x ∈ xs, 0 ≤ x) → 0 ≤ gnum xs
  | [], _ => Int.le_refl 0
  | x :: xs, h => by
    have h1 := h x (by simp)
    have h2 := gnum_nonneg fun y hy => h y (List.mem_cons_of_mem _ hy)
    rw [gnum_cons]; omega
theorem two_pos (n : Nat) : (0 : Int) < 2 ^ n := Int.pow_pos (by decide)
theorem gnum_snoc (xs : List Int) (y : Int) : gnum (xs ++ [y]) = gnum xs + 2 ^ xs.length * y := by
  induction xs with
  | nil => simp [gnum]
  | cons x xs ih =>
    rw [List.cons_append, gnum_cons, ih, gnum_cons, List.length_cons, Int.pow_succ]
    have : (2 : Int) ^ xs.length * 2 * y = 2 * (2 ^ xs.length * y) := by rw [Int.mul_comm ((2 : Int) ^ xs.length) 2, Int.mul_assoc]
    rw [this]; omega
noncomputable def bitI (b p : Int) : Int := b / 2 ^ p.toNat % 2
theorem bitI_01 (b p : Int) : bitI b p = 0 ∨ bitI b p = 1 := by unfold bitI; omega
theorem bitI_nonneg (b p : Int) : 0 ≤ bitI b p := by unfold bitI; omega
theorem bitI_le (b p : Int) : bitI b p ≤ 1 := by unfold bitI; omega
noncomputable def bitsOf (k r : Nat) : List Int := (List.range k).map fun j => ((r / 2 ^ j % 2 : Nat) : Int)
theorem bitsOf_length (k r : Nat) : (bitsOf k r).length = k := by simp [bitsOf]
theorem bitsOf_01 {k r : Nat} {x : Int} (h : x ∈ bitsOf k r) : x = 0 ∨ x = 1 := by
  unfold bitsOf at h
  obtain ⟨j, _, e⟩ := List.mem_map.mp h
  omega
theorem bitsOf_succ (k r : Nat) : bitsOf (k + 1) r = bitsOf k r ++ [((r / 2 ^ k % 2 : Nat) : Int)] := by
  unfold bitsOf; rw [List.range_succ, List.map_append]; rfl
theorem gnum_bitsOf (k r : Nat) : gnum (bitsOf k r) = ((r % 2 ^ k : Nat) : Int) := by
  induction k with
  | zero => simp [bitsOf, gnum, Nat.mod_one]
  | succ k ih =>
    rw [bitsOf_succ, gnum_snoc, ih, bitsOf_length, Nat.pow_succ, Nat.mod_mul]
    have e : ((2 : Int) ^ k) = (((2 ^ k : Nat)) : Int) := by simp
    rw [e, ← Int.natCast_mul]; omega
theorem gnum_bitsOf_lt {k r : Nat} (h : r < 2 ^ k) : gnum (bitsOf k r) = (r : Int) := by
  rw [gnum_bitsOf, Nat.mod_eq_of_lt h]
end Gk
namespace Gk
noncomputable def All01 (xs : List Int) : Prop := ∀ x ∈ xs, x = 0 ∨ x = 1
theorem All01.nn {xs : List Int} (h : All01 xs) : ∀ x ∈ xs, 0 ≤ x := fun x hx => by rcases h x hx with z | z <;> omega
theorem All01.tail {x : Int} {xs : List Int} (h : All01 (x :: xs)) : All01 xs := fun y hy => h y (List.mem_cons_of_mem _ hy)
theorem All01.map {α : Type} {l : List α} {f : α → Int} (h : ∀ a ∈ l, f a = 0 ∨ f a = 1) : All01 (l.map f) := fun x hx => by
  obtain ⟨a, ha, rfl⟩ := List.mem_map.mp hx
  exact h a ha
theorem All01.bits {α : Type} {l : List α} {f g : α → Int} : All01 (l.map fun a => bitI (f a) (g a)) := All01.map fun a _ => bitI_01 _ _
theorem gnum_lt : ∀ {xs : List Int}, All01 xs → gnum xs < 2 ^ xs.length
  | [], _ => by decide
  | x :: xs, h => by
    have h1 := gnum_lt h.tail
    have h2 := h x (by simp)
    rw [gnum_cons, List.length_cons, Int.pow_succ]
    omega
theorem bitI_zero (b : Int) : bitI b 0 = b % 2 := by unfold bitI; simp
theorem bitI_succ (b : Int) (n : Nat) : bitI b ((n + 1 : Nat) : Int) = bitI (b / 2) (n : Nat) := by
  unfold bitI
  rw [Int.toNat_natCast, Int.toNat_natCast, Nat.add_comm, Int.pow_add, Int.pow_one' , ← Int.ediv_ediv_of_nonneg (by decide)]
where
  Int.pow_one' : (2 : Int) ^ 1 = 2 := by decide
theorem gnum_bit : ∀ {xs : List Int} {r : Nat} {x : Int}, All01 xs → xs[r]? = some x → bitI (gnum xs) (r : Nat) = x
  | [], r, x, _, h => by simp at h
  | y :: xs, 0, x, h, e => by
    have h2 := h y (by simp)
    have e' : y = x := by simpa using e
    rw [gnum_cons]
    show bitI (2 * gnum xs + y) 0 = x
    rw [bitI_zero]
    omega
  | y :: xs, r + 1, x, h, e => by
    have h2 := h y (by simp)
    rw [gnum_cons, bitI_succ]
    have e2 : (2 * gnum xs + y) / 2 = gnum xs := by omega
    rw [e2]
    exact gnum_bit h.tail (by simpa using e)
noncomputable def tab (m : Nat) (f : Nat → Int) : Int := gnum ((List.range m).map f)
theorem tab_01 {m : Nat} {f : Nat → Int} (h : ∀ r, f r = 0 ∨ f r = 1) : All01 ((List.range m).map f) := All01.map fun a _ => h a
theorem tab_nonneg {m : Nat} {f : Nat → Int} (h : ∀ r, f r = 0 ∨ f r = 1) : 0 ≤ tab m f := gnum_nonneg (tab_01 h).nn
theorem tab_lt {m : Nat} {f : Nat → Int} (h : ∀ r, f r = 0 ∨ f r = 1) : tab m f < 2 ^ m := by
  have := gnum_lt (tab_01 (m := m) h)
  rw [List.length_map, List.length_range] at this
  exact this
theorem tab_congr {m : Nat} {f g : Nat → Int} (e : ∀ r, r < m → f r = g r) : tab m f = tab m g := by
  unfold tab; congr 1; exact List.map_congr_left fun r hr => e r (List.mem_range.mp hr)
theorem bitI_nat (r j : Nat) : bitI (r : Nat) (j : Nat) = ((r / 2 ^ j % 2 : Nat) : Int) := by
  unfold bitI
  rw [Int.toNat_natCast]
  simp
end Gk
namespace Gk
theorem bitsOf_gnum {xs : List Int} (h : All01 xs) : bitsOf xs.length (gnum xs).toNat = xs := by
  refine List.ext_getElem (bitsOf_length _ _) fun j h1 h2 => ?_
  have hb := gnum_bit h (List.getElem?_eq_getElem h2)
  have hnn := gnum_nonneg h.nn
  have e : (bitsOf xs.length (gnum xs).toNat)[j] = bitI (((gnum xs).toNat : Nat) : Int) (j : Nat) := by
    simp only [bitsOf, List.getElem_map, List.getElem_range, bitI_nat]
  rw [e, Int.toNat_of_nonneg hnn]
  exact hb
theorem row_of {xs : List Int} (h : All01 xs) : ∃ r : Nat, r < 2 ^ xs.length ∧ gnum xs = (r : Nat) ∧ bitsOf xs.length r = xs := by
  have hnn := gnum_nonneg h.nn
  have hlt := gnum_lt h
  refine ⟨(gnum xs).toNat, ?_, (Int.toNat_of_nonneg hnn).symm, bitsOf_gnum h⟩
  have e : ((2 : Int) ^ xs.length) = (((2 ^ xs.length : Nat)) : Int) := by simp
  omega
theorem All01.bitsOf {k r : Nat} : All01 (bitsOf k r) := fun _ hx => bitsOf_01 hx
noncomputable def flip01 (xs : List Int) : List Int := xs.map fun x => 1 - x
end Gk
namespace Gk
end Gk
namespace Gk
end Gk
namespace Prog
open PySem L3
noncomputable def con_KINDS : PyData := (.tuple [(.str "low"), (.str "high"), (.str "turn"), (.str "rise"), (.str "even")])
noncomputable def tab_RELATIONS : List (Str × PyData) := [("low", (.tuple [(.int 1), (.tuple [(.int 0)])])), ("high", (.tuple [(.int 1), (.tuple [(.int 1)])])), ("turn", (.tuple [(.int 2), (.tuple [(.int 1), (.int 2)])])), ("rise", (.tuple [(.int 2), (.tuple [(.int 0), (.int 2), (.int 3)])])), ("even", (.tuple [(.int 4), (.tuple [(.int 0), (.int 3), (.int 5), (.int 6), (.int 9), (.int 10), (.int 12), (.int 15)])]))]
noncomputable def m_row_count : List PyData → Res PyData := fnR 3 (sSeq (sSet 1 (eC (.int 1)))
    (sSeq (sFor (itR1 (eVar 0)) (gN 2) [2] (sSet 1 (eBin mulD (eC (.int 2)) (eVar 1))))
    (sRet (eVar 1))))
noncomputable def m_bit : List PyData → Res PyData := fnR 2 (sRet (eBin andD (eBin shrD (eVar 0) (eVar 1)) (eC (.int 1))))
noncomputable def m_put_all : List PyData → Res PyData := fnR 5 (sSeq (sSet 3 (eComp (itR1 (eCall m_row_count [(eBin ixD (eVar 0) (eC (.int 0)))])) (gN 0) (eC (.bool true)) (eBin mulD (eVar 1) (eCall m_bit [(eBin ixD (eVar 2) (eC (.int 1))), (eVar 0)])) 1 [2, 0]))
    (sSeq (sFor (itL (eVar 1)) (gN 4) [4] (sSet 3 (eComp (itR3 (eC (.int 0)) (eFn lenD [(eVar 3)]) (eC (.int 2))) (gN 0) (eC (.bool true)) (eBin orD (eBin andD (eBin ixD (eVar 1) (eVar 0)) (eUn invD (eVar 2))) (eBin andD (eBin ixD (eVar 1) (eBin addD (eVar 0) (eC (.int 1)))) (eVar 2))) 1 [3, 4])))
    (sRet (eBin ixD (eVar 3) (eC (.int 0))))))
noncomputable def m_marked : List PyData → Res PyData := fnR 3 (sSeq (sSet 1 (eDct []))
    (sSeq (sFor (itL (eVar 0)) (gN 2) [2] (sPutD 1 (eVar 2) (eC (.bool true))))
    (sRet (eVar 1))))
noncomputable def m_put_rows : List PyData → Res PyData := fnR 3 (sRet (eCall m_put_all [(eVar 0), (eVar 1), (eBin subD (eCall m_row_count [(eVar 2)]) (eC (.int 1)))]))
noncomputable def m_power : List PyData → Res PyData := fnR 4 (sSeq (sSet 2 (eC (.int 1)))
    (sSeq (sFor (itR1 (eVar 1)) (gN 3) [3] (sSet 2 (eBin mulD (eVar 0) (eVar 2))))
    (sRet (eVar 2))))
noncomputable def m_list_count : List PyData → Res PyData := fnR 2 (sRet (eFn sumD [(eComp (itL (eVar 1)) (gN 0) (eC (.bool true)) (eCall m_power [(eVar 1), (eBin ixD (eVar 0) (eC (.int 0)))]) 1 [0])]))
noncomputable def m_lists_of : List PyData → Res PyData := fnR 6 (sSeq (sSet 1 (eLst [(eLst [])]))
    (sSeq (sFor (itL (eVar 0)) (gN 2) [2, 3, 4, 5] (sSeq (sSet 3 (eLst []))
    (sSeq (sFor (itL (eVar 1)) (gN 4) [4, 5] (sFor (itL (eVar 2)) (gN 5) [5] (sApp 3 (eBin addD (eVar 4) (eLst [(eVar 5)])))))
    (sSet 1 (eVar 3)))))
    (sRet (eVar 1))))
noncomputable def m_broken : List PyData → Res PyData := fnR 6 (sSeq (sSet 2 (eBin ixD (eVar 1) (eC (.int 0))))
    (sSeq (sSet 3 (eBin ixD (eVar 1) (eC (.int 1))))
    (sSeq (sIf (eBin gtD (eCall m_list_count [(eFn lenD [(eVar 3)]), (eLst [(eVar 0)])]) (eC (.int 20000))) sBad sNil)
    (sSeq (sSet 4 (eCall m_marked [(eVar 3)]))
    (sSeq (sFor (itL (eCall m_lists_of [(eBin repD (eLst [(eVar 3)]) (eBin ixD (eVar 0) (eC (.int 0))))])) (gN 5) [5] (sIf (eBin notInY (eCall m_put_rows [(eVar 0), (eVar 5), (eVar 2)]) (eVar 4)) (sRet (eVar 5)) sNil))
    (sRet (eC .none)))))))
noncomputable def m_kind : List PyData → Res PyData := fnR 1 (sRet (eUn (tabD tab_RELATIONS) (eVar 0)))
noncomputable def m_first_breach : List PyData → Res PyData := fnR 5 (sSeq (sFor (itE (eVar 0)) (gT [(gN 2), (gN 3)]) [2, 3, 4] (sSeq (sSet 4 (eCall m_broken [(eVar 3), (eVar 1)]))
    (sIf (eBin notND (eVar 4) (eC .none)) (sRet (eTup [(eVar 2), (eVar 4)])) sNil)))
    (sRet (eC .none)))
noncomputable def m_kinds : List PyData → Res PyData := fnR 1 (sRet (eComp (itL (eC con_KINDS)) (gN 0) (eC (.bool true)) (eCall m_first_breach [(eVar 1), (eCall m_kind [(eVar 0)])]) 1 [0]))
end Prog
theorem L2.sizeLine_eq : PySem.sizeLine = 16777216 := by decide
namespace L3
open PySem L2
theorem gv_zero {o : Option PyData} {Γ : Ev} : gv (o :: Γ) 0 = o := rfl
theorem gv_succ {o : Option PyData} {Γ : Ev} {i : Nat} : gv (o :: Γ) (i + 1) = gv Γ i := rfl
theorem eVar_zero {d : PyData} {Γ : Ev} : eVar 0 (some d :: Γ) = .ok d := rfl
theorem eVar_succ {o : Option PyData} {Γ : Ev} {i : Nat} : eVar (i + 1) (o :: Γ) = eVar i Γ := rfl
theorem eC_app {d : PyData} {Γ : Ev} : eC d Γ = .ok d := rfl
theorem eBin_app {f : PyData → PyData → Res PyData} {a b : ME} {Γ : Ev} : eBin f a b Γ = (a Γ).bind fun x => (b Γ).bind fun y => f x y := rfl
theorem eUn_app {f : PyData → Res PyData} {a : ME} {Γ : Ev} : eUn f a Γ = (a Γ).bind f := rfl
theorem eFn_app {f : List PyData → Res PyData} {ms : List ME} {Γ : Ev} : eFn f ms Γ = (evs ms Γ).bind f := rfl
theorem eCall_app {f : List PyData → Res PyData} {ms : List ME} {Γ : Ev} : eCall f ms Γ = (evs ms Γ).bind f := rfl
theorem evs_nil {Γ : Ev} : evs [] Γ = .ok [] := rfl
theorem evs_cons {m : ME} {ms : List ME} {Γ : Ev} : evs (m :: ms) Γ = (m Γ).bind fun d => (evs ms Γ).bind fun ds => .ok (d :: ds) := rfl
theorem eTup_app {ms : List ME} {Γ : Ev} : eTup ms Γ = (evs ms Γ).bind fun ds => .ok (.tuple ds) := rfl
theorem eLst_app {ms : List ME} {Γ : Ev} : eLst ms Γ = (evs ms Γ).bind fun ds => .ok (.list ds) := rfl
theorem eIsi_app {T : String} {a : ME} {Γ : Ev} : eIsi T a Γ = (a Γ).bind fun d => .ok (.bool (isiD T d)) := rfl
noncomputable def bT (x : PyData) (a b : Res PyData) : Res PyData := match x with
  | .bool true => a
  | .bool false => b
  | _ => .bad
noncomputable def bS (x : PyData) (a b : Res Out) : Res Out := match x with
  | .bool true => a
  | .bool false => b
  | _ => .bad
theorem bT_true {a b : Res PyData} : bT (.bool true) a b = a := rfl
theorem bT_false {a b : Res PyData} : bT (.bool false) a b = b := rfl
theorem bS_true {a b : Res Out} : bS (.bool true) a b = a := rfl
theorem bS_false {a b : Res Out} : bS (.bool false) a b = b := rfl
theorem bT_dec {c : Bool} {a b : Res PyData} : bT (.bool c) a b = if c = true then a else b := by cases c <;> rfl
theorem bS_dec {c : Bool} {a b : Res Out} : bS (.bool c) a b = if c = true then a else b := by cases c <;> rfl
theorem eAnd_app {a b : ME} {Γ : Ev} : eAnd a b Γ = (a Γ).bind fun x => bT x (b Γ) (.ok (.bool false)) := by
  unfold eAnd bT; rfl
theorem eOr_app {a b : ME} {Γ : Ev} : eOr a b Γ = (a Γ).bind fun x => bT x (.ok (.bool true)) (b Γ) := by
  unfold eOr; congr 1; funext x; cases x <;> first | rfl | (rename_i b; cases b <;> rfl)
noncomputable def notD : PyData → Res PyData
  | .bool t => .ok (.bool (!t))
  | _ => .bad
theorem notD_app {t : Bool} : notD (.bool t) = .ok (.bool (!t)) := rfl
theorem eNot_app {a : ME} {Γ : Ev} : eNot a Γ = (a Γ).bind notD := rfl
theorem eSlL_app {a : ME} {lo hi : MO} {Γ : Ev} : eSlL a lo hi Γ = (a Γ).bind fun d => (lo Γ).bind fun l => (hi Γ).bind fun h => slL d l h := rfl
theorem oNone_app {Γ : Ev} : oNone Γ = .ok none := rfl
noncomputable def oInt : PyData → Res (Option Int)
  | .int i => .ok (some i)
  | _ => .bad
theorem oInt_app {i : Int} : oInt (.int i) = .ok (some i) := rfl
theorem oSome_app {m : ME} {Γ : Ev} : oSome m Γ = (m Γ).bind oInt := rfl
noncomputable def seqO (b : MS) : Out → Res Out
  | .nx Γ' => b Γ'
  | .rt d => .ok (.rt d)
  | .bk Γ' => .ok (.bk Γ')
  | .ct Γ' => .ok (.ct Γ')
theorem seqO_nx {b : MS} {Γ : Ev} : seqO b (.nx Γ) = b Γ := rfl
theorem seqO_rt {b : MS} {d : PyData} : seqO b (.rt d) = .ok (.rt d) := rfl
theorem sSeq_app {a b : MS} {Γ : Ev} : sSeq a b Γ = (a Γ).bind (seqO b) := by
  unfold sSeq seqO; rfl
theorem gd_true {α : Type} {r : Res α} : gd True r = r := rfl
theorem sSet_app {i : Nat} {m : ME} {Γ : Ev} : sSet i m Γ = (m Γ).bind fun d => gd (i < Γ.length) (.ok (.nx (Γ.set i (some d)))) := rfl
theorem sIf_app {c : ME} {a b : MS} {Γ : Ev} : sIf c a b Γ = (c Γ).bind fun x => bS x (a Γ) (b Γ) := by
  unfold sIf bS; rfl
theorem sRet_app {m : ME} {Γ : Ev} : sRet m Γ = (m Γ).bind fun d => .ok (.rt d) := rfl
theorem sNil_app {Γ : Ev} : sNil Γ = .ok (.nx Γ) := rfl
theorem sFor_app {it : MI} {g : MG} {cl : List Nat} {b : MS} {Γ : Ev} : sFor it g cl b Γ = (it Γ).bind fun xs => forR g cl b xs Γ := rfl
noncomputable def fin : Out → Res PyData
  | .rt d => .ok d
  | _ => .bad
theorem fin_rt {d : PyData} : fin (.rt d) = .ok d := rfl
theorem fnR_app {n : Nat} {m : MS} {ds : List PyData} : fnR n m ds = (m (ds.map some ++ List.replicate (n - ds.length) none)).bind fin := by
  unfold fnR; rfl
noncomputable def appD (Γ : Ev) (i : Nat) (d : PyData) : Option PyData → Res Out
  | some (.list ds) => gd (ds.length < sizeLine ∧ i < Γ.length) (.ok (.nx (Γ.set i (some (.list (ds ++ [d]))))))
  | _ => .bad
theorem appD_app {Γ : Ev} {i : Nat} {d : PyData} {ds : List PyData} : appD Γ i d (some (.list ds)) = gd (ds.length < sizeLine ∧ i < Γ.length) (.ok (.nx (Γ.set i (some (.list (ds ++ [d])))))) := rfl
theorem sApp_app {i : Nat} {m : ME} {Γ : Ev} : sApp i m Γ = (m Γ).bind fun d => appD Γ i d (gv Γ i) := by
  unfold sApp appD; rfl
theorem gN_app {i : Nat} {d : PyData} {Γ : Ev} : gN i d Γ = gd (i < Γ.length) (.ok (Γ.set i (some d))) := rfl
theorem gT_app {gs : List MG} {ds : List PyData} {Γ : Ev} : gT gs (.tuple ds) Γ = gTs gs ds Γ := rfl
theorem gTs_nil {Γ : Ev} : gTs [] [] Γ = .ok Γ := rfl
theorem gTs_cons {g : MG} {gs : List MG} {d : PyData} {ds : List PyData} {Γ : Ev} : gTs (g :: gs) (d :: ds) Γ = (g d Γ).bind fun Γ' => gTs gs ds Γ' := rfl
noncomputable def seqD : PyData → Res (List PyData)
  | .list ds => .ok ds
  | .tuple ds => .ok ds
  | _ => .bad
theorem seqD_list {ds : List PyData} : seqD (.list ds) = .ok ds := rfl
theorem itL_app {m : ME} {Γ : Ev} : itL m Γ = (m Γ).bind seqD := by
  unfold itL seqD; rfl
noncomputable def upN (n : Nat) : List PyData := (List.range n).map fun i => PyData.int (i : Nat)
noncomputable def rng1 : PyData → Res (List PyData)
  | .int j => gd (-(2 ^ 62) ≤ j ∧ j < 2 ^ 62) (.ok (upN j.toNat))
  | _ => .bad
theorem rng1_app {j : Int} : rng1 (.int j) = gd (-(2 ^ 62) ≤ j ∧ j < 2 ^ 62) (.ok (upN j.toNat)) := rfl
theorem rng1_nat {n : Nat} (h : n < 2 ^ 62) : rng1 (.int (n : Nat)) = .ok (upN n) := by
  rw [rng1_app, gd_pos (by omega), Int.toNat_natCast]
theorem itR1_app {m : ME} {Γ : Ev} : itR1 m Γ = (m Γ).bind rng1 := by
  unfold itR1; congr 1; funext d
  cases d with
  | int j => show gd _ _ = gd _ _; congr 2; unfold upN; simp only [Int.zero_add]
  | _ => rfl
theorem clr_nil {Γ : Ev} : clr [] Γ = Γ := rfl
theorem clr_cons {i : Nat} {l : List Nat} {Γ : Ev} : clr (i :: l) Γ = clr l (Γ.set i none) := rfl
theorem addD_int {a b : Int} : addD (.int a) (.int b) = .ok (.int (a + b)) := rfl
theorem subD_int {a b : Int} : subD (.int a) (.int b) = .ok (.int (a - b)) := rfl
theorem mulD_int {a b : Int} : mulD (.int a) (.int b) = gd (CMul a b) (.ok (.int (a * b))) := rfl
theorem fdivD_int {a b : Int} : fdivD (.int a) (.int b) = gd (CDiv a b) (.ok (.int (a / b))) := rfl
theorem modD_int {a b : Int} : modD (.int a) (.int b) = gd (0 < b) (.ok (.int (a % b))) := rfl
theorem shlD_int {a b : Int} : shlD (.int a) (.int b) = gd (CPow a b) (.ok (.int (a * 2 ^ b.toNat))) := rfl
theorem shrD_int {a b : Int} : shrD (.int a) (.int b) = gd (0 ≤ b) (.ok (.int (a / 2 ^ b.toNat))) := rfl
theorem andD_int {a b : Int} : andD (.int a) (.int b) = .ok (.int (Builtin.bitAnd a b)) := rfl
theorem orD_int {a b : Int} : orD (.int a) (.int b) = .ok (.int (Builtin.bitOr a b)) := rfl
theorem ltD_int {a b : Int} : ltD (.int a) (.int b) = .ok (.bool (decide (a < b))) := rfl
theorem gtD_int {a b : Int} : gtD (.int a) (.int b) = .ok (.bool (decide (b < a))) := rfl
theorem shaped_int {a : Int} : SeqAt.shaped (.int a) = true := by unfold SeqAt.shaped; rw [PyData.canLay0, PyData.depth]; rfl
theorem eqD_int {a b : Int} : eqD (.int a) (.int b) = .ok (.bool (decide (a = b))) := by
  unfold eqD; rw [gd_pos ⟨shaped_int, shaped_int⟩, PyData.eqv]; congr 2
theorem neD_int {a b : Int} : neD (.int a) (.int b) = .ok (.bool (!decide (a = b))) := by
  unfold neD; rw [gd_pos ⟨shaped_int, shaped_int⟩, PyData.eqv]; congr 2
mutual
noncomputable def plain : PyData → Bool
  | .int _ => true
  | .none => true
  | .list ds => plains ds
  | .tuple ds => plains ds
  | .bool _ => false
  | .str _ => false
  | .dict _ => false
noncomputable def plains : List PyData → Bool
  | [] => true
  | d :: ds => plain d && plains ds
end
mutual
theorem plain_lay : ∀ (d : PyData), plain d = true → d.canLay0 = true
  | .int _, _ => by rw [PyData.canLay0]
  | .none, _ => by rw [PyData.canLay0]
  | .list ds, h => by rw [PyData.canLay0]; exact plains_lay ds (by rw [plain] at h; exact h)
  | .tuple ds, h => by rw [PyData.canLay0]; exact plains_lay ds (by rw [plain] at h; exact h)
  | .bool _, h => by rw [plain] at h; cases h
  | .str _, h => by rw [plain] at h; cases h
  | .dict _, h => by rw [plain] at h; cases h
theorem plains_lay : ∀ (ds : List PyData), plains ds = true → PyData.canLayAll0 ds = true
  | [], _ => by rw [PyData.canLayAll0]
  | d :: ds, h => by
    rw [plains, Bool.and_eq_true] at h
    rw [PyData.canLayAll0, plain_lay d h.1, plains_lay ds h.2]; rfl
end
mutual
theorem plain_eqv : ∀ (d e : PyData), plain d = true → plain e = true → (PyData.eqv d e = true ↔ d = e)
  | .int a, .int b, _, _ => by rw [PyData.eqv]; simp
  | .none, .none, _, _ => by rw [PyData.eqv]; simp
  | .list ds, .list es, h, g => by
    rw [plain] at h g
    rw [PyData.eqv, plains_eqv ds es h g]
    exact ⟨fun z => by rw [z], fun z => by cases z; rfl⟩
  | .tuple ds, .tuple es, h, g => by
    rw [plain] at h g
    rw [PyData.eqv, plains_eqv ds es h g]
    exact ⟨fun z => by rw [z], fun z => by cases z; rfl⟩
  | .int _, .none, _, _ | .int _, .list _, _, _ | .int _, .tuple _, _, _ | .none, .int _, _, _ | .none, .list _, _, _ | .none, .tuple _, _, _
  | .list _, .int _, _, _ | .list _, .none, _, _ | .list _, .tuple _, _, _ | .tuple _, .int _, _, _ | .tuple _, .none, _, _ | .tuple _, .list _, _, _ => by
    rw [PyData.eqv]; exact ⟨(fun z => nomatch z), (fun z => nomatch z)⟩
  | .bool _, _, h, _ => by rw [plain] at h; cases h
  | .str _, _, h, _ => by rw [plain] at h; cases h
  | .dict _, _, h, _ => by rw [plain] at h; cases h
  | _, .bool _, _, h => by rw [plain] at h; cases h
  | _, .str _, _, h => by rw [plain] at h; cases h
  | _, .dict _, _, h => by rw [plain] at h; cases h
theorem plains_eqv : ∀ (ds es : List PyData), plains ds = true → plains es = true → (PyData.eqvAll ds es = true ↔ ds = es)
  | [], [], _, _ => by rw [PyData.eqvAll]; simp
  | [], _ :: _, _, _ => by rw [PyData.eqvAll]; simp
  | _ :: _, [], _, _ => by rw [PyData.eqvAll]; simp
  | d :: ds, e :: es, h, g => by
    rw [plains, Bool.and_eq_true] at h g
    rw [PyData.eqvAll, Bool.and_eq_true, plain_eqv d e h.1 g.1, plains_eqv ds es h.2 g.2]
    simp
end
theorem shaped_of {d : PyData} (h : plain d = true) (hd : d.depth ≤ 64) : SeqAt.shaped d = true := by
  unfold SeqAt.shaped; rw [plain_lay d h, decide_eq_true hd]; rfl
theorem eqD_plain {a b : PyData} (ha : plain a = true) (hb : plain b = true) (da : a.depth ≤ 64) (db : b.depth ≤ 64) : (eqD a b = .ok (.bool true) ↔ a = b) ∧ (eqD a b = .ok (.bool false) ↔ a ≠ b) ∧ (neD a b = .ok (.bool true) ↔ a ≠ b) ∧ (neD a b = .ok (.bool false) ↔ a = b) := by
  unfold eqD neD
  rw [gd_pos ⟨shaped_of ha da, shaped_of hb db⟩, gd_pos ⟨shaped_of ha da, shaped_of hb db⟩]
  have h := plain_eqv a b ha hb
  cases q : PyData.eqv a b with
  | true => have e := h.mp q; simp [e]
  | false => have e : a ≠ b := fun z => by rw [h.mpr z] at q; cases q
             simp [e]
theorem eqD_same {a : PyData} (ha : plain a = true) (da : a.depth ≤ 64) : eqD a a = .ok (.bool true) := (eqD_plain ha ha da da).1.mpr rfl
theorem neD_same {a : PyData} (ha : plain a = true) (da : a.depth ≤ 64) : neD a a = .ok (.bool false) := (eqD_plain ha ha da da).2.2.2.mpr rfl
theorem plains_ints : ∀ ns : List Int, plains (ns.map PyData.int) = true
  | [] => by rw [List.map_nil, plains]
  | n :: ns => by rw [List.map_cons, plains, plain, plains_ints ns]; rfl
theorem plain_ints (ns : List Int) : plain (.list (ns.map PyData.int)) = true := by rw [plain]; exact plains_ints ns
theorem plain_tints (ns : List Int) : plain (.tuple (ns.map PyData.int)) = true := by rw [plain]; exact plains_ints ns
theorem depth_list_ints (ns : List Int) : (PyData.list (ns.map PyData.int)).depth ≤ 64 := by rw [PyData.depth, depth_ints]; decide
theorem map_int_inj {a b : List Int} (h : a.map PyData.int = b.map PyData.int) : a = b := by
  have := intsOf_map a
  rw [h, intsOf_map] at this
  exact (Option.some.inj this).symm
theorem eqD_lints {a b : List Int} : eqD (.list (a.map PyData.int)) (.list (b.map PyData.int)) = .ok (.bool (decide (a = b))) := by
  have h := eqD_plain (plain_ints a) (plain_ints b) (depth_list_ints a) (depth_list_ints b)
  by_cases e : a = b
  · subst e; rw [h.1.mpr rfl]; simp
  · rw [h.2.1.mpr fun z => e (map_int_inj (PyData.list.inj z))]; simp [e]
noncomputable def clrO (cl : List Nat) : Out → Res Out
  | .nx Γ => .ok (.nx (clr cl Γ))
  | .ct Γ => .ok (.nx (clr cl Γ))
  | .bk Γ => .ok (.bk (clr cl Γ))
  | .rt d => .ok (.rt d)
theorem clrO_nx {cl : List Nat} {Γ : Ev} : clrO cl (.nx Γ) = .ok (.nx (clr cl Γ)) := rfl
theorem clrO_rt {cl : List Nat} {d : PyData} : clrO cl (.rt d) = .ok (.rt d) := rfl
noncomputable def Goes (r : Res Out) (P : Ev → Prop) : Prop := ∃ Γ, r = .ok (.nx Γ) ∧ P Γ
theorem Goes_ok {Γ : Ev} {P : Ev → Prop} : Goes (.ok (.nx Γ)) P ↔ P Γ := ⟨fun hq__ => by obtain ⟨Γ', e, h⟩ := hq__; cases e; exact h, fun h => ⟨Γ, rfl, h⟩⟩
theorem turn_ok {g : MG} {cl : List Nat} {b : MS} {x : PyData} {xs : List PyData} {Γ Γ' : Ev} (h : ((g x Γ).bind b).bind (clrO cl) = .ok (.nx Γ')) : forR g cl b (x :: xs) Γ = forR g cl b xs Γ' := by
  obtain ⟨o, h1, h2⟩ := Res.bind_ok h
  obtain ⟨Γ1, h3, h4⟩ := Res.bind_ok h1
  rw [forR, h3, Res.ok_bind, h4, Res.ok_bind]
  cases o <;> cases h2 <;> rfl
theorem forR_inv {g : MG} {cl : List Nat} {b : MS} (I : Nat → Ev → Prop) : ∀ {xs : List PyData} {Γ : Ev}, I 0 Γ →
    (∀ i x Γ, xs[i]? = some x → I i Γ → Goes (((g x Γ).bind b).bind (clrO cl)) (I (i + 1))) → ∃ Γ', forR g cl b xs Γ = .ok (.nx Γ') ∧ I xs.length Γ' := by
  intro xs
  induction xs generalizing I with
  | nil => intro Γ h0 _; exact ⟨Γ, rfl, h0⟩
  | cons x xs ih =>
    intro Γ h0 hs
    obtain ⟨Γ2, e, h2⟩ := hs 0 x Γ rfl h0
    obtain ⟨Γ', e3, h3⟩ := ih (fun i => I (i + 1)) h2 fun i y Γ hy h => hs (i + 1) y Γ (by simpa using hy) h
    refine ⟨Γ', ?_, h3⟩
    rw [turn_ok e]
    exact e3
theorem forR_eq {g : MG} {cl : List Nat} {b : MS} {xs : List PyData} {Γ : Ev} (S : Nat → Ev) (h0 : Γ = S 0)
    (h : ∀ i x, xs[i]? = some x → ((g x (S i)).bind b).bind (clrO cl) = .ok (.nx (S (i + 1)))) : forR g cl b xs Γ = .ok (.nx (S xs.length)) := by
  obtain ⟨Γ', e, h'⟩ := forR_inv (g := g) (cl := cl) (b := b) (fun i Γ => Γ = S i) (xs := xs) (Γ := Γ) h0 fun i x Γ hx hI => by
    subst hI
    exact ⟨_, h i x hx, rfl⟩
  rw [e, h']
theorem forR_bind {α : Type} {g : MG} {cl : List Nat} {b : MS} {xs : List PyData} {Γ : Ev} {f : Out → Res α} {r : Res α} (S : Nat → Ev) (h0 : Γ = S 0)
    (h : ∀ i x, xs[i]? = some x → ((g x (S i)).bind b).bind (clrO cl) = .ok (.nx (S (i + 1)))) (k : f (.nx (S xs.length)) = r) : (forR g cl b xs Γ).bind f = r := by
  rw [forR_eq S h0 h]; exact k
theorem Res.bind_assoc {α β γ : Type} {r : Res α} {f : α → Res β} {g : β → Res γ} : (r.bind f).bind g = r.bind fun a => (f a).bind g := by cases r <;> rfl
theorem compR_map {g : MG} {e : ME} {Γ : Ev} (F : PyData → PyData) : ∀ {xs : List PyData}, (∀ x ∈ xs, (g x Γ).bind e = .ok (F x)) → compR g (eC (.bool true)) e Γ xs = .ok (xs.map F)
  | [], _ => rfl
  | x :: xs, h => by
    obtain ⟨Γ1, e1, e2⟩ := Res.bind_ok (h x List.mem_cons_self)
    rw [compR, e1, Res.ok_bind, eC_app, Res.ok_bind]
    show (e Γ1).bind _ = _
    rw [e2, Res.ok_bind, compR_map F fun y hy => h y (List.mem_cons_of_mem _ hy)]
    rfl
theorem eComp_map {it : MI} {g : MG} {e : ME} {nt : Nat} {ix : List Nat} {Γ : Ev} {xs : List PyData} (F : PyData → PyData) (hi : it Γ = .ok xs) (hz : xs.length < sizeLine) (h : ∀ x ∈ xs, (g x (blockE nt ix Γ)).bind e = .ok (F x)) :
    eComp it g (eC (.bool true)) e nt ix Γ = .ok (.list (xs.map F)) := by
  unfold eComp
  rw [hi, Res.ok_bind, gd_pos hz, compR_map F h]
  rfl
theorem eComp_upN {it : MI} {g : MG} {e : ME} {nt : Nat} {ix : List Nat} {Γ : Ev} {n : Nat} (F : Nat → PyData) (hi : it Γ = .ok (upN n)) (hz : n < sizeLine) (h : ∀ i, i < n → (g (.int (i : Nat)) (blockE nt ix Γ)).bind e = .ok (F i)) :
    eComp it g (eC (.bool true)) e nt ix Γ = .ok (.list ((List.range n).map F)) := by
  have e1 : (upN n).map (fun d => match d with | .int i => F i.toNat | _ => .none) = (List.range n).map F := by
    unfold upN
    rw [List.map_map]
    refine List.map_congr_left fun i _ => ?_
    show F ((i : Nat) : Int).toNat = F i
    rw [Int.toNat_natCast]
  rw [← e1]
  refine eComp_map _ hi (by unfold upN; rw [List.length_map, List.length_range]; exact hz) fun x hx => ?_
  obtain ⟨i, hi, rfl⟩ := List.mem_map.mp hx
  show _ = Res.ok (F ((i : Nat) : Int).toNat)
  rw [Int.toNat_natCast]
  exact h i (List.mem_range.mp hi)
theorem upN_get {n i : Nat} {x : PyData} (h : (upN n)[i]? = some x) : i < n ∧ x = .int (i : Nat) := by
  unfold upN at h
  rw [List.getElem?_map] at h
  rcases Nat.lt_or_ge i n with hi | hi
  · rw [List.getElem?_range hi] at h; exact ⟨hi, (Option.some.inj h).symm⟩
  · rw [List.getElem?_eq_none (by rw [List.length_range]; exact hi)] at h; cases h
theorem upN_length (n : Nat) : (upN n).length = n := by unfold upN; rw [List.length_map, List.length_range]
theorem ints_get {ns : List Int} {i : Nat} {x : PyData} (h : (ns.map PyData.int)[i]? = some x) : ∃ v, x = .int v ∧ ns[i]? = some v := by
  rw [List.getElem?_map] at h
  cases e : ns[i]? with
  | none => rw [e] at h; cases h
  | some v => rw [e] at h; exact ⟨v, (Option.some.inj h).symm, rfl⟩
theorem blockE_app {nt : Nat} {ix : List Nat} {Γ : Ev} : blockE nt ix Γ = List.replicate nt none ++ ix.map (gv Γ) := rfl
theorem ixD_list {ds : List PyData} {i : Nat} {d : PyData} (h : ds[i]? = some d) : ixD (.list ds) (.int (i : Nat)) = .ok d := by
  show (match L2.atI ds (i : Nat) with | some d => Res.ok d | none => .bad) = _
  rw [L2.atI_nat h]
theorem ixD_tuple {ds : List PyData} {i : Nat} {d : PyData} (h : ds[i]? = some d) : ixD (.tuple ds) (.int (i : Nat)) = .ok d := by
  show (match L2.atI ds (i : Nat) with | some d => Res.ok d | none => .bad) = _
  rw [L2.atI_nat h]
theorem lenD_list {ds : List PyData} : lenD [.list ds] = .ok (.int ds.length) := rfl
theorem lenD_tuple {ds : List PyData} : lenD [.tuple ds] = .ok (.int ds.length) := rfl
theorem listD_list {ds : List PyData} : listD [.list ds] = .ok (.list ds) := rfl
theorem truD_bool {b : Bool} : truD (.bool b) = .ok (.bool b) := rfl
noncomputable def enmD : PyData → Res (List PyData)
  | .list ds => .ok (enumL ds)
  | .tuple ds => .ok (enumL ds)
  | _ => .bad
theorem enmD_app {ds : List PyData} : enmD (.list ds) = .ok (enumL ds) := rfl
theorem itE_app {m : ME} {Γ : Ev} : itE m Γ = (m Γ).bind enmD := by
  unfold itE enmD; rfl
theorem compR_filter {g : MG} {c e : ME} {Γ : Ev} (p : PyData → Bool) (F : PyData → PyData) : ∀ {xs : List PyData}, (∀ x ∈ xs, (g x Γ).bind c = .ok (.bool (p x))) → (∀ x ∈ xs, p x = true → (g x Γ).bind e = .ok (F x)) → compR g c e Γ xs = .ok ((xs.filter p).map F)
  | [], _, _ => rfl
  | x :: xs, h, h' => by
    obtain ⟨Γ1, e1, e2⟩ := Res.bind_ok (h x List.mem_cons_self)
    rw [compR, e1, Res.ok_bind, e2, Res.ok_bind]
    have ih := compR_filter p F (fun y hy => h y (List.mem_cons_of_mem _ hy)) (fun y hy => h' y (List.mem_cons_of_mem _ hy))
    cases hp : p x with
    | true =>
      have e3 := h' x List.mem_cons_self hp
      rw [e1, Res.ok_bind] at e3
      show (e Γ1).bind _ = _
      rw [e3, Res.ok_bind, ih, List.filter_cons_of_pos hp]
      rfl
    | false =>
      show compR g c e Γ xs = _
      rw [ih, List.filter_cons_of_neg (by rw [hp]; exact Bool.false_ne_true)]
theorem eComp_filter {it : MI} {g : MG} {c e : ME} {nt : Nat} {ix : List Nat} {Γ : Ev} {xs : List PyData} (p : PyData → Bool) (F : PyData → PyData) (hi : it Γ = .ok xs) (hz : xs.length < sizeLine)
    (h : ∀ x ∈ xs, (g x (blockE nt ix Γ)).bind c = .ok (.bool (p x))) (h' : ∀ x ∈ xs, p x = true → (g x (blockE nt ix Γ)).bind e = .ok (F x)) : eComp it g c e nt ix Γ = .ok (.list ((xs.filter p).map F)) := by
  unfold eComp
  rw [hi, Res.ok_bind, gd_pos hz, compR_filter p F h h']
  rfl
theorem eComp_filterN {it : MI} {g : MG} {c e : ME} {nt : Nat} {ix : List Nat} {Γ : Ev} {n : Nat} (p : Nat → Bool) (F : Nat → PyData) (hi : it Γ = .ok (upN n)) (hz : n < sizeLine)
    (h : ∀ i, i < n → (g (.int (i : Nat)) (blockE nt ix Γ)).bind c = .ok (.bool (p i))) (h' : ∀ i, i < n → p i = true → (g (.int (i : Nat)) (blockE nt ix Γ)).bind e = .ok (F i)) : eComp it g c e nt ix Γ = .ok (.list (((List.range n).filter p).map F)) := by
  have e1 : ((upN n).filter (fun d => match d with | .int i => p i.toNat | _ => false)).map (fun d => match d with | .int i => F i.toNat | _ => .none) = ((List.range n).filter p).map F := by
    unfold upN
    rw [List.filter_map, List.map_map]
    have e2 : ((fun d => match d with | .int i => p i.toNat | _ => false) ∘ fun (i : Nat) => PyData.int (i : Nat)) = p := by
      funext i; show p ((i : Nat) : Int).toNat = p i; rw [Int.toNat_natCast]
    rw [e2]
    refine List.map_congr_left fun i _ => ?_
    show F ((i : Nat) : Int).toNat = F i
    rw [Int.toNat_natCast]
  rw [← e1]
  refine eComp_filter _ _ hi (by rw [upN_length]; exact hz) (fun x hx => ?_) fun x hx hp => ?_
  · obtain ⟨i, hi, rfl⟩ := List.mem_map.mp hx
    show _ = Res.ok (PyData.bool (p ((i : Nat) : Int).toNat))
    rw [Int.toNat_natCast]
    exact h i (List.mem_range.mp hi)
  · obtain ⟨i, hi, rfl⟩ := List.mem_map.mp hx
    have hp' : p ((i : Nat) : Int).toNat = true := hp
    show _ = Res.ok (F ((i : Nat) : Int).toNat)
    rw [Int.toNat_natCast] at hp' ⊢
    exact h' i (List.mem_range.mp hi) hp'
theorem isi_bool_int {i : Int} : isiD "bool" (.int i) = false := rfl
theorem isi_list_list {ds : List PyData} : isiD "list" (.list ds) = true := rfl
theorem isi_tuple_tuple {ds : List PyData} : isiD "tuple" (.tuple ds) = true := rfl
theorem cutD_hi (xs : List PyData) (j : Nat) : cutD xs none (some ((j : Nat) : Int)) = xs.take j := by
  unfold cutD
  rw [HT.sIx_none, HT.sIx_nat, List.drop_zero, Nat.sub_zero]
  rcases Nat.le_total j xs.length with h | h
  · rw [Nat.min_eq_left h]
  · rw [Nat.min_eq_right h, List.take_of_length_le (Nat.le_refl _), List.take_of_length_le h]
theorem slD_hi {ds : List PyData} {j : Nat} : slD (.list ds) none (some ((j : Nat) : Int)) = .ok (.list (ds.take j)) := by
  show Res.ok (PyData.list (cutD ds none (some ((j : Nat) : Int)))) = _
  rw [cutD_hi]
theorem addD_list {a b : List PyData} (h : a.length + b.length ≤ sizeLine) : addD (.list a) (.list b) = .ok (.list (a ++ b)) := gd_pos h
theorem compR_enc {α : Type} {g : MG} {c e : ME} {Γ : Ev} (enc : α → PyData) (p : α → Bool) (F : α → PyData) : ∀ {xs : List α}, (∀ a ∈ xs, (g (enc a) Γ).bind c = .ok (.bool (p a))) → (∀ a ∈ xs, p a = true → (g (enc a) Γ).bind e = .ok (F a)) → compR g c e Γ (xs.map enc) = .ok ((xs.filter p).map F)
  | [], _, _ => rfl
  | x :: xs, h, h' => by
    obtain ⟨Γ1, e1, e2⟩ := Res.bind_ok (h x List.mem_cons_self)
    rw [List.map_cons, compR, e1, Res.ok_bind, e2, Res.ok_bind]
    have ih := compR_enc enc p F (fun y hy => h y (List.mem_cons_of_mem _ hy)) (fun y hy => h' y (List.mem_cons_of_mem _ hy))
    cases hp : p x with
    | true =>
      have e3 := h' x List.mem_cons_self hp
      rw [e1, Res.ok_bind] at e3
      show (e Γ1).bind _ = _
      rw [e3, Res.ok_bind, ih, List.filter_cons_of_pos hp]
      rfl
    | false =>
      show compR g c e Γ (xs.map enc) = _
      rw [ih, List.filter_cons_of_neg (by rw [hp]; exact Bool.false_ne_true)]
theorem eComp_encF {α : Type} {it : MI} {g : MG} {c e : ME} {nt : Nat} {ix : List Nat} {Γ : Ev} {xs : List α} (enc : α → PyData) (p : α → Bool) (F : α → PyData) (hi : it Γ = .ok (xs.map enc)) (hz : xs.length < sizeLine)
    (h : ∀ a ∈ xs, (g (enc a) (blockE nt ix Γ)).bind c = .ok (.bool (p a))) (h' : ∀ a ∈ xs, p a = true → (g (enc a) (blockE nt ix Γ)).bind e = .ok (F a)) : eComp it g c e nt ix Γ = .ok (.list ((xs.filter p).map F)) := by
  unfold eComp
  rw [hi, Res.ok_bind, gd_pos (by rw [List.length_map]; exact hz), compR_enc enc p F h h']
  rfl
theorem eComp_enc {α : Type} {it : MI} {g : MG} {e : ME} {nt : Nat} {ix : List Nat} {Γ : Ev} {xs : List α} (enc : α → PyData) (F : α → PyData) (hi : it Γ = .ok (xs.map enc)) (hz : xs.length < sizeLine)
    (h : ∀ a ∈ xs, (g (enc a) (blockE nt ix Γ)).bind e = .ok (F a)) : eComp it g (eC (.bool true)) e nt ix Γ = .ok (.list (xs.map F)) := by
  rw [eComp_encF enc (fun _ => true) F hi hz (fun a ha => ?_) fun a ha _ => h a ha, List.filter_eq_self.mpr fun _ _ => rfl]
  obtain ⟨Γ1, e1, e2⟩ := Res.bind_ok (h a ha)
  rw [e1]; rfl
theorem enc_get {α : Type} {enc : α → PyData} {xs : List α} {i : Nat} {x : PyData} (h : (xs.map enc)[i]? = some x) : ∃ a, xs[i]? = some a ∧ x = enc a := by
  rw [List.getElem?_map] at h
  cases e : xs[i]? with
  | none => rw [e] at h; cases h
  | some v => rw [e] at h; exact ⟨v, rfl, (Option.some.inj h).symm⟩
noncomputable def Gives {α : Type} (r : Res α) (P : α → Prop) : Prop := ∃ a, r = .ok a ∧ P a
theorem Gives_ok {α : Type} {a : α} {P : α → Prop} : Gives (.ok a) P ↔ P a := ⟨fun hq__ => by obtain ⟨b, e, h⟩ := hq__; cases e; exact h, fun h => ⟨a, rfl, h⟩⟩
theorem forR_gives {α : Type} {g : MG} {cl : List Nat} {b : MS} {xs : List PyData} {Γ : Ev} {f : Out → Res α} {P : α → Prop} (I : Nat → Ev → Prop) (h0 : I 0 Γ)
    (h : ∀ i x Γ, xs[i]? = some x → I i Γ → Goes (((g x Γ).bind b).bind (clrO cl)) (I (i + 1))) (k : ∀ Γ, I xs.length Γ → Gives (f (.nx Γ)) P) : Gives ((forR g cl b xs Γ).bind f) P := by
  obtain ⟨Γ', e, h'⟩ := forR_inv I h0 h
  rw [e]; exact k Γ' h'
theorem ixD_t0 {a : PyData} {ds : List PyData} : ixD (.tuple (a :: ds)) (.int 0) = .ok a := ixD_tuple (i := 0) rfl
theorem ixD_t1 {a b : PyData} {ds : List PyData} : ixD (.tuple (a :: b :: ds)) (.int 1) = .ok b := ixD_tuple (i := 1) rfl
noncomputable def dG (n : Nat) (b : Int) : PyData := .tuple [.int (n : Nat), .int b]
noncomputable def dL (ns : List Int) : PyData := .list (ns.map PyData.int)
theorem ix0 {n : Nat} {b : Int} : ixD (dG n b) (.int 0) = .ok (.int (n : Nat)) := rfl
theorem ix1 {n : Nat} {b : Int} : ixD (dG n b) (.int 1) = .ok (.int b) := rfl
theorem lenD_dL {ns : List Int} : lenD [dL ns] = .ok (.int ns.length) := by unfold dL; rw [lenD_list, List.length_map]
theorem seqD_dL {ns : List Int} : seqD (dL ns) = .ok (ns.map PyData.int) := rfl
theorem isi_dL {ns : List Int} : isiD "list" (dL ns) = true := rfl
theorem eqD_dL {a b : List Int} : eqD (dL a) (dL b) = .ok (.bool (decide (a = b))) := eqD_lints
theorem plain_dG {n : Nat} {b : Int} : plain (dG n b) = true := plain_tints [(n : Nat), b]
theorem forR_findE {α : Type} {g : MG} {cl : List Nat} {b : MS} {Γ : Ev} {d : PyData} (enc : α → PyData) (p : α → Bool) : ∀ {xs : List α}, (∀ a ∈ xs, ((g (enc a) Γ).bind b).bind (clrO cl) = if p a = true then .ok (.rt d) else .ok (.nx Γ)) →
    forR g cl b (xs.map enc) Γ = if xs.any p = true then .ok (.rt d) else .ok (.nx Γ)
  | [], _ => rfl
  | x :: xs, h => by
    have h1 := h x List.mem_cons_self
    have ih := forR_findE enc p (xs := xs) fun y hy => h y (List.mem_cons_of_mem _ hy)
    rw [List.map_cons]
    cases hp : p x with
    | true =>
      rw [if_pos hp] at h1
      obtain ⟨o, h2, h3⟩ := Res.bind_ok h1
      obtain ⟨Γ1, h4, h5⟩ := Res.bind_ok h2
      rw [List.any_cons, hp, Bool.true_or, if_pos rfl, forR, h4, Res.ok_bind, h5, Res.ok_bind]
      cases o <;> cases h3
      rfl
    | false =>
      rw [if_neg (by rw [hp]; exact Bool.false_ne_true)] at h1
      rw [turn_ok h1, ih, List.any_cons, hp, Bool.false_or]
end L3
namespace L3
open PySem L2
end L3
set_option hygiene false in
local macro_rules | `(tactic| walk_at "ev") => `(tactic| simp (config := { decide := true, implicitDefEqProofs := false }) only [L3.fnR_app, L3.sSeq_app, L3.seqO_nx, L3.seqO_rt, L3.gd_true, L3.sSet_app, L3.sIf_app, L3.sRet_app, L3.sNil_app, L3.sFor_app, L3.sApp_app, L3.appD_app, L3.itE_app, L3.enmD_app, L3.gv_zero, L3.gv_succ, L3.eVar_zero, L3.eVar_succ, L3.eC_app, L3.eBin_app, L3.eUn_app, L3.eFn_app, L3.eCall_app, L3.evs_nil, L3.evs_cons, L3.eTup_app, L3.eLst_app, L3.eIsi_app, L3.eAnd_app, L3.eOr_app, L3.eNot_app, L3.slD_hi, L3.isi_bool_int, L3.isi_list_list, L3.isi_tuple_tuple, L3.notD_app, L3.eSlL_app, L3.oNone_app, L3.oSome_app, L3.oInt_app, L3.itL_app, L3.itR1_app, L3.seqD_list, L3.gN_app, L3.gT_app, L3.gTs_nil, L3.gTs_cons, L3.clr_nil, L3.clrO_nx, L3.clrO_rt, L3.Goes_ok, L3.Gives_ok, L3.clr_cons, L3.blockE_app, L3.Res.ok_bind, L3.Res.bind_assoc, L3.fin_rt, L3.bT_true, L3.bT_false, L3.bS_true, L3.bS_false, L3.addD_int, L3.subD_int, L3.mulD_int, L3.fdivD_int, L3.modD_int, L3.shlD_int, L3.shrD_int, L3.andD_int, L3.orD_int, L3.ltD_int, L3.gtD_int, L3.eqD_int, L3.neD_int, L3.ixD_t0, L3.ixD_t1, L3.ix0, L3.ix1, L3.lenD_dL, L3.seqD_dL, L3.isi_dL, L3.eqD_dL, L3.lenD_list, L3.lenD_tuple, L3.listD_list, L3.truD_bool, decide_false, decide_true, if_true, if_false, Bool.not_true, Bool.not_false, and_true, true_and, List.map_cons, List.map_nil, List.length_cons, List.length_nil, List.length_map, List.length_range, List.replicate_succ, List.replicate_zero, List.cons_append, List.nil_append, List.set_cons_zero, List.set_cons_succ, Nat.reduceSub, Nat.reduceAdd, Nat.zero_add])
set_option hygiene false in
local macro_rules | `(tactic| walk_at "gd") => `(tactic| (rw [L3.gd_pos (by first | omega (config := {}) | (unfold L2.CMul; omega (config := {})) | (unfold L2.CDiv; omega (config := {})) | (unfold L2.CPow; omega (config := {})) | (simp (config := { decide := true }) only [L2.sizeLine_eq, List.length_append, List.length_map, List.length_range, List.length_take, List.length_drop, List.length_cons, List.length_nil]; omega (config := {})))]))
set_option hygiene false in
local macro_rules | `(tactic| walk_at "go") => `(tactic| (repeat (first | walk_at "ev" | walk_at "gd")))
namespace Prog
open PySem L2 L3 Gk
theorem p_bit {a p : Int} (hp : 0 ≤ p) : m_bit [.int a, .int p] = .ok (.int (bitI a p)) := by
  unfold m_bit
  walk_at "ev"
  rw [gd_pos hp]
  walk_at "ev"
  rw [PyProof.Rows.bitAnd_m1]
  rfl
theorem p_row_count {n : Nat} (hn : n ≤ 100) : m_row_count [.int (n : Nat)] = .ok (.int (2 ^ n)) := by
  unfold m_row_count
  walk_at "ev"
  rw [rng1_nat (by omega)]
  walk_at "ev"
  refine forR_bind (fun i => [some (.int (n : Nat)), some (.int (2 ^ i)), none]) rfl (fun i x hx => ?_) ?_
  · obtain ⟨_, rfl⟩ := upN_get hx
    walk_at "ev"
    rw [gd_pos (.inl ⟨by decide, by decide⟩)]
    walk_at "ev"
    rw [show (2 : Int) * 2 ^ i = 2 ^ (i + 1) by rw [Int.pow_succ, Int.mul_comm]]
  · rw [upN_length]
    walk_at "ev"
theorem small_pow {n : Nat} (h : n ≤ 4) : 2 ^ n ≤ 16 := by
  have : n = 0 ∨ n = 1 ∨ n = 2 ∨ n = 3 ∨ n = 4 := by omega
  rcases this with rfl | rfl | rfl | rfl | rfl <;> decide
theorem rng1_pow {n : Nat} (h : n ≤ 4) : rng1 (.int (2 ^ n)) = .ok (upN (2 ^ n)) := by
  have e : ((2 : Int) ^ n) = (((2 ^ n : Nat)) : Int) := by simp
  have := small_pow h
  rw [e, rng1_nat (by omega)]
theorem size_pow {n : Nat} (h : n ≤ 4) : 2 ^ n < sizeLine := by
  have := small_pow h
  exact Nat.lt_of_le_of_lt this (by decide)
theorem size_le {n : Nat} (h : n ≤ 100000) : n < sizeLine := Nat.lt_of_le_of_lt h (by decide)
theorem map_int {n : Nat} {f : Nat → Int} : (List.range n).map (fun i => PyData.int (f i)) = ((List.range n).map f).map PyData.int := by rw [List.map_map]; rfl
theorem bAnd_halves (x y : Int) : Builtin.bitAnd x y / 2 = Builtin.bitAnd (x / 2) (y / 2) ∧ Builtin.bitAnd x y % 2 = (x % 2) * (y % 2) := by
  have h := PySem.W.kbt_halves x y
  have hx : x % 2 = 0 ∨ x % 2 = 1 := by omega
  have hy : y % 2 = 0 ∨ y % 2 = 1 := by omega
  rcases hx with hx | hx <;> rcases hy with hy | hy <;> simp only [hx, hy] at h ⊢ <;> (try simp at h) <;> omega
theorem bNot_halves (x : Int) : Builtin.bitNot x / 2 = Builtin.bitNot (x / 2) ∧ Builtin.bitNot x % 2 = 1 - x % 2 := by
  unfold Builtin.bitNot; omega
theorem bOr_halves (x y : Int) : Builtin.bitOr x y / 2 = Builtin.bitOr (x / 2) (y / 2) ∧ Builtin.bitOr x y % 2 = 1 - (1 - x % 2) * (1 - y % 2) := by
  unfold Builtin.bitOr
  obtain ⟨a1, a2⟩ := bNot_halves (Builtin.bitAnd (Builtin.bitNot x) (Builtin.bitNot y))
  obtain ⟨b1, b2⟩ := bAnd_halves (Builtin.bitNot x) (Builtin.bitNot y)
  obtain ⟨c1, c2⟩ := bNot_halves x
  obtain ⟨d1, d2⟩ := bNot_halves y
  rw [a1, a2, b1, b2, c1, c2, d1, d2]
  exact ⟨rfl, rfl⟩
noncomputable def muxI (x y t : Int) : Int := Builtin.bitOr (Builtin.bitAnd x (Builtin.bitNot t)) (Builtin.bitAnd y t)
theorem mux_halves (x y t : Int) : muxI x y t / 2 = muxI (x / 2) (y / 2) (t / 2) ∧ muxI x y t % 2 = if t % 2 = 1 then y % 2 else x % 2 := by
  unfold muxI
  obtain ⟨a1, a2⟩ := bOr_halves (Builtin.bitAnd x (Builtin.bitNot t)) (Builtin.bitAnd y t)
  obtain ⟨b1, b2⟩ := bAnd_halves x (Builtin.bitNot t)
  obtain ⟨c1, c2⟩ := bAnd_halves y t
  obtain ⟨d1, d2⟩ := bNot_halves t
  rw [a1, a2, b1, b2, c1, c2, d1, d2]
  refine ⟨rfl, ?_⟩
  have ht : t % 2 = 0 ∨ t % 2 = 1 := by omega
  rcases ht with ht | ht <;> rw [ht] <;> simp <;> omega
theorem bAnd_zero (x : Int) : Builtin.bitAnd 0 x = 0 := by
  have := PySem.W.kbt_mask' x 0
  simpa using this
theorem tab_succ {W : Nat} {f : Nat → Int} : tab (W + 1) f = 2 * tab W (fun r => f (r + 1)) + f 0 := by
  unfold tab
  rw [List.range_succ_eq_map, List.map_cons, gnum_cons, List.map_map]
  rfl
theorem mux_tab {f g : Nat → Int} (t : Int) (hf : ∀ r, f r = 0 ∨ f r = 1) (hg : ∀ r, g r = 0 ∨ g r = 1) : ∀ W : Nat, muxI (tab W f) (tab W g) t = tab W fun r => if bitI t (r : Nat) = 1 then g r else f r
  | 0 => by
    show muxI 0 0 t = 0
    unfold muxI
    rw [bAnd_zero, bAnd_zero]
    rfl
  | W + 1 => by
    have ih := mux_tab (f := fun r => f (r + 1)) (g := fun r => g (r + 1)) (t / 2) (fun r => hf (r + 1)) (fun r => hg (r + 1)) W
    rw [tab_succ, tab_succ, tab_succ]
    have f0 := hf 0
    have g0 := hg 0
    obtain ⟨h1, h2⟩ := mux_halves (2 * tab W (fun r => f (r + 1)) + f 0) (2 * tab W (fun r => g (r + 1)) + g 0) t
    rw [show (2 * tab W (fun r => f (r + 1)) + f 0) / 2 = tab W (fun r => f (r + 1)) by omega, show (2 * tab W (fun r => g (r + 1)) + g 0) / 2 = tab W (fun r => g (r + 1)) by omega, ih] at h1
    rw [show (2 * tab W (fun r => f (r + 1)) + f 0) % 2 = f 0 by omega, show (2 * tab W (fun r => g (r + 1)) + g 0) % 2 = g 0 by omega] at h2
    have e : (fun r : Nat => if bitI t ((r + 1 : Nat) : Int) = 1 then g (r + 1) else f (r + 1)) = fun r : Nat => if bitI (t / 2) (r : Nat) = 1 then g (r + 1) else f (r + 1) := by
      funext r; rw [bitI_succ]
    rw [e, show bitI t ((0 : Nat) : Int) = t % 2 from bitI_zero t]
    omega
theorem tab_const (c : Int) : ∀ W : Nat, tab W (fun _ => c) = (2 ^ W - 1) * c
  | 0 => by simp [tab, gnum]
  | W + 1 => by
    rw [tab_succ, tab_const c W, Int.pow_succ]
    have : (2 ^ W * 2 - 1) * c = 2 * ((2 ^ W - 1) * c) + c := by
      rw [Int.sub_mul, Int.sub_mul, Int.mul_sub, Int.mul_assoc, Int.mul_left_comm (2 ^ W) 2 c]; omega
    rw [this]
theorem fits_small {x : Int} (h0 : 0 ≤ x) (h1 : x < 4000) : Builtin.Range.rangeFitsLong x = true := by
  unfold Builtin.Range.rangeFitsLong
  rw [decide_eq_true (show -(2 ^ 63) ≤ x by omega), decide_eq_true (show x < 2 ^ 63 by omega)]
  rfl
theorem rng3_two {n : Nat} (h : n < 1000) : rng3 (.int 0) (.int ((2 * n : Nat) : Int)) (.int 2) = .ok ((List.range n).map fun (k : Nat) => PyData.int (((2 * k : Nat)) : Int)) := by
  have e : Builtin.Range.rangeSize 0 ((2 * n : Nat) : Int) 2 = (n : Nat) := by
    unfold Builtin.Range.rangeSize
    rw [if_pos (by decide)]
    split <;> omega
  have hs : Builtin.Range.small 0 ((2 * n : Nat) : Int) 2 = true := by
    unfold Builtin.Range.small
    rw [e, fits_small (by decide) (by decide), fits_small (by omega) (by omega), fits_small (by decide) (by decide), fits_small (by omega) (by omega), if_pos (by decide), fits_small (by omega) (by omega), Bool.or_true]
    rfl
  have e2 : rng3 (.int 0) (.int ((2 * n : Nat) : Int)) (.int 2) = gd ((2 : Int) ≠ 0 ∧ (2 : Int).natAbs < 1073741824 ∧ Builtin.Range.small 0 ((2 * n : Nat) : Int) 2 = true ∧ 0 ≤ Builtin.Range.rangeSize 0 ((2 * n : Nat) : Int) 2) (.ok ((List.range (Builtin.Range.rangeSize 0 ((2 * n : Nat) : Int) 2).toNat).map fun k => PyData.int (0 + (k : Nat) * 2))) := rfl
  have c3 : (2 : Int) ≠ 0 ∧ (2 : Int).natAbs < 1073741824 ∧ Builtin.Range.small 0 ((2 * n : Nat) : Int) 2 = true ∧ 0 ≤ Builtin.Range.rangeSize 0 ((2 * n : Nat) : Int) 2 := ⟨by omega, by omega, hs, by rw [e]; omega⟩
  refine e2.trans ((gd_pos c3).trans ?_)
  rw [e, Int.toNat_natCast]
  refine congrArg Res.ok (List.map_congr_left fun k _ => congrArg PyData.int ?_)
  omega
noncomputable def givI (W N : Nat) (F : Int → Nat → Int) : List Int := (List.range N).map fun p => tab W (F (p : Nat))
theorem givI_at {W N : Nat} {F : Int → Nat → Int} {p : Nat} (h : p < N) : ((givI W N F).map PyData.int)[p]? = some (.int (tab W (F (p : Nat)))) := by
  unfold givI
  rw [List.map_map, List.getElem?_map, List.getElem?_range h]
  rfl
noncomputable def nextF (t : Int) (F : Int → Nat → Int) : Int → Nat → Int := fun p r => F (2 * p + bitI t (r : Nat)) r
noncomputable def foldF : List Int → (Int → Nat → Int) → Int → Nat → Int
  | [], F => F
  | t :: ts, F => foldF ts (nextF t F)
theorem foldF_01 : ∀ {ts : List Int} {F : Int → Nat → Int}, (∀ p r, F p r = 0 ∨ F p r = 1) → ∀ p r, foldF ts F p r = 0 ∨ foldF ts F p r = 1
  | [], F, h => h
  | t :: ts, F, h => foldF_01 (ts := ts) fun p r => h _ r
theorem foldF_snoc : ∀ {ts : List Int} {t : Int} {F : Int → Nat → Int}, foldF (ts ++ [t]) F = nextF t (foldF ts F)
  | [], t, F => rfl
  | u :: ts, t, F => foldF_snoc (ts := ts)
theorem foldF_eq : ∀ {ts : List Int} {F : Int → Nat → Int} {p : Int} {r : Nat}, foldF ts F p r = F (2 ^ ts.length * p + gnum (ts.map fun t => bitI t (r : Nat))) r
  | [], F, p, r => by show F p r = F (2 ^ 0 * p + 0) r; simp
  | t :: ts, F, p, r => by
    show foldF ts (nextF t F) p r = _
    rw [foldF_eq]
    unfold nextF
    rw [List.map_cons, gnum_cons, List.length_cons, Int.pow_succ]
    congr 1
    rw [Int.mul_comm (2 ^ ts.length) 2, Int.mul_assoc]
    omega
theorem p_put_all {m W : Nat} {b : Int} {ts : List Int} (hl : ts.length = m) (hm : m ≤ 4) : m_put_all [dG m b, dL ts, .int (2 ^ W - 1)] = .ok (.int (tab W fun r => bitI b (gnum (ts.map fun t => bitI t (r : Nat))))) := by
  have hp : ∀ i, 2 ^ (m - i) ≤ 16 := fun i => by have := small_pow (n := m - i) (by omega); omega
  unfold m_put_all
  walk_at "ev"
  rw [eComp_upN (n := 2 ^ m) (fun p => .int (tab W fun _ => bitI b (p : Nat))) ?_ (size_pow hm) fun i _ => ?_]
  rotate_left
  · walk_at "ev"
    rw [p_row_count (by omega)]
    walk_at "ev"
    exact rng1_pow hm
  · walk_at "ev"
    rw [p_bit (by omega)]
    walk_at "ev"
    have cm : CMul (2 ^ W - 1) (bitI b (i : Nat)) := .inr ⟨by have := bitI_nonneg b (i : Nat); omega, by have := bitI_le b (i : Nat); omega⟩
    rw [gd_pos cm, tab_const]
  walk_at "ev"
  rw [map_int]
  refine forR_bind (fun i => [some (dG m b), some (dL ts), some (.int (2 ^ W - 1)), some (dL (givI W (2 ^ (m - i)) (foldF (ts.take i) fun p r => bitI b p))), none]) rfl (fun i x hx => ?_) ?_
  rotate_left
  · rw [List.length_map, hl, Nat.sub_self, ← hl, List.take_length]
    unfold dL
    walk_at "ev"
    rw [show (PyData.int 0) = .int ((0 : Nat) : Int) from rfl, ixD_list (givI_at (by decide))]
    walk_at "ev"
    congr 2
    refine tab_congr fun r hr => ?_
    rw [foldF_eq]
    congr 1
    simp
  · obtain ⟨t, rfl, ht⟩ := ints_get hx
    have hi : i < ts.length := (List.getElem?_eq_some_iff.mp ht).1
    have e2 : 2 ^ (m - i) = 2 * 2 ^ (m - (i + 1)) := by rw [show m - i = (m - (i + 1)) + 1 by omega, Nat.pow_succ]; omega
    have p16 := hp (i + 1)
    have F01 : ∀ p r, foldF (ts.take i) (fun p r => bitI b p) p r = 0 ∨ foldF (ts.take i) (fun p r => bitI b p) p r = 1 := foldF_01 fun p r => bitI_01 b p
    walk_at "ev"
    rw [eComp_enc (α := Nat) (xs := List.range (2 ^ (m - (i + 1)))) (fun k => .int ((2 * k : Nat) : Int)) (fun k => .int (tab W (foldF (ts.take (i + 1)) (fun p r => bitI b p) (k : Nat)))) ?_ (size_le (by rw [List.length_range]; omega)) fun k hk => ?_]
    · walk_at "ev"
      rw [map_int]
      rfl
    · unfold itR3
      walk_at "ev"
      rw [show (givI W (2 ^ (m - i)) (foldF (ts.take i) fun p r => bitI b p)).length = 2 * 2 ^ (m - (i + 1)) by unfold givI; rw [List.length_map, List.length_range, e2]]
      exact rng3_two (by omega)
    · have hk' := List.mem_range.mp hk
      unfold dL
      walk_at "ev"
      rw [ixD_list (givI_at (by omega)), show ((2 * k : Nat) : Int) + 1 = ((2 * k + 1 : Nat) : Int) by omega, ixD_list (givI_at (by omega))]
      walk_at "ev"
      show Res.ok (PyData.int (muxI (tab W _) (tab W _) t)) = _
      rw [mux_tab t (F01 _) (F01 _)]
      congr 2
      refine tab_congr fun r hr => ?_
      rw [List.take_add_one, ht]
      show _ = foldF (ts.take i ++ [t]) _ _ _
      rw [foldF_snoc]
      unfold nextF
      rcases bitI_01 t (r : Nat) with h | h <;> rw [h]
      · rw [if_neg (by decide)]; congr 1 <;> omega
      · rw [if_pos rfl]; congr 1 <;> omega
theorem beyond {n : Nat} (h : n ≤ 4) : ixD (.list [.int 2, .int 4, .int 16, .int 256, .int 65536]) (.int (n : Nat)) = .ok (.int (2 ^ 2 ^ n)) := by
  have : n = 0 ∨ n = 1 ∨ n = 2 ∨ n = 3 ∨ n = 4 := by omega
  rcases this with rfl | rfl | rfl | rfl | rfl <;> rfl
theorem modN (a : Int) {m : Int} (h : 0 < m) : ∃ n : Nat, a % m = (n : Nat) ∧ (n : Int) < m :=
  ⟨(a % m).toNat, by have := Int.emod_nonneg a (show m ≠ 0 by omega); omega, by have := Int.emod_lt_of_pos a h; have := Int.emod_nonneg a (show m ≠ 0 by omega); omega⟩
end Prog
namespace Prog
open PySem L2 L3 Gk
structure CStep where
  m : Nat
  b : Int
  ws : List Nat
structure CStep.Ok (t : Nat) (s : CStep) : Prop where
  m4 : s.m ≤ 4
  len : s.ws.length = s.m
  lt : ∀ k ∈ s.ws, k < t
  b0 : 0 ≤ s.b
  b1 : s.b < 2 ^ 2 ^ s.m
noncomputable def StepsOk (n : Nat) (ss : List CStep) : Prop := ∀ (i : Nat) (s : CStep), ss[i]? = some s → s.Ok (n + i)
theorem snoc_ind {α : Type} {P : List α → Prop} (h0 : P []) (h : ∀ l a, P l → P (l ++ [a])) (l : List α) : P l := by
  have : ∀ k : Nat, ∀ l : List α, l.length = k → P l := by
    intro k
    induction k with
    | zero => intro l hl; rw [List.length_eq_zero_iff.mp hl]; exact h0
    | succ k ih =>
      intro l hl
      have hne : l ≠ [] := fun z => by rw [z] at hl; cases hl
      rw [← List.dropLast_concat_getLast hne]
      exact h _ _ (ih _ (by rw [List.length_dropLast, hl]; rfl))
  exact this _ l rfl
theorem StepsOk.nil {n : Nat} : StepsOk n [] := fun i s h => by cases h
theorem getD_ix {ts : List Int} {k : Nat} (h : k < ts.length) : ixD (dL ts) (.int (k : Nat)) = .ok (.int (ts.getD k 0)) := by
  unfold dL
  refine ixD_list (i := k) ?_
  rw [List.getElem?_map, List.getD_eq_getElem?_getD, List.getElem?_eq_getElem h]; rfl
theorem sumD_ints {xs : List Int} : sumD [.list (xs.map PyData.int)] = .ok (.int xs.sum) := by
  show (match intsOf (xs.map PyData.int) with | some ns => Res.ok (PyData.int ns.sum) | none => .bad) = _
  rw [intsOf_map]
theorem sum_powers : ∀ (xs : List Int), ((List.range xs.length).map fun i => xs.getD i 0 * 2 ^ i).sum = gnum xs := by
  intro xs
  induction xs using snoc_ind with
  | h0 => rfl
  | h l a ih =>
    rw [List.length_append, List.length_singleton, List.range_succ, List.map_append, List.sum_append, gnum_snoc, ← ih]
    congr 1
    · congr 1
      refine List.map_congr_left fun i hi => ?_
      rw [List.getD_eq_getElem?_getD, List.getD_eq_getElem?_getD, List.getElem?_append_left (List.mem_range.mp hi)]
    · show List.sum [(l ++ [a]).getD l.length 0 * 2 ^ l.length] = _
      rw [List.getD_eq_getElem?_getD, List.getElem?_append_right (Nat.le_refl _), Nat.sub_self]
      show a * 2 ^ l.length + 0 = _
      rw [Int.add_zero, Int.mul_comm]
theorem or_high {t v : Int} {r : Nat} (h0 : 0 ≤ t) (h1 : t < 2 ^ r) (hv : v = 0 ∨ v = 1) : Builtin.bitOr t (v * 2 ^ r) = t + 2 ^ r * v := by
  rw [PyProof.Rows.bitOr_and]
  have p2 := two_pos r
  have : Builtin.bitAnd t (v * 2 ^ r) = 0 := by
    rcases hv with rfl | rfl
    · rw [Int.zero_mul]; exact PyProof.Rows.bitAnd_zero _
    · rw [Int.one_mul, PyProof.Rows.bitAnd_pp h0 (by omega)]
      have e : ((2 : Int) ^ r).toNat = 2 ^ r := by
        rw [show ((2 : Int) ^ r) = (((2 ^ r : Nat)) : Int) by simp]; exact Int.toNat_natCast _
      rw [e]
      have hlt : t.toNat < 2 ^ r := by omega
      have : t.toNat &&& 2 ^ r = 0 := by
        refine Nat.eq_of_testBit_eq fun i => ?_
        rw [Nat.testBit_and, Nat.testBit_two_pow, Nat.zero_testBit]
        by_cases h : r = i
        · subst h; rw [Nat.testBit_lt_two_pow hlt]; rfl
        · simp [h]
      rw [this]; rfl
  rw [this]
  rcases hv with rfl | rfl <;> omega
theorem bitAnd1 (b : Int) (k : Nat) : Builtin.bitAnd (b / 2 ^ k) 1 = bitI b (k : Nat) := by
  rw [PyProof.Rows.bitAnd_m1]; unfold bitI; rw [Int.toNat_natCast]
end Prog
namespace Prog
open PySem L2 L3 Gk
theorem depthAll_le {k : Nat} : ∀ {ds : List PyData}, (∀ d ∈ ds, d.depth ≤ k) → PyData.depthAll ds ≤ k
  | [], _ => by rw [PyData.depthAll]; exact Nat.zero_le _
  | d :: ds, h => by
    rw [PyData.depthAll]
    exact Nat.max_le.mpr ⟨h d List.mem_cons_self, depthAll_le fun e he => h e (List.mem_cons_of_mem _ he)⟩
theorem depth_tup {k : Nat} {ds : List PyData} (h : ∀ d ∈ ds, d.depth ≤ k) : (PyData.tuple ds).depth ≤ k + 1 := by
  rw [PyData.depth]
  have := depthAll_le h
  omega
theorem plains_of {ds : List PyData} (h : ∀ d ∈ ds, plain d = true) : plains ds = true := by
  induction ds with
  | nil => rw [plains]
  | cons d ds ih => rw [plains, h d List.mem_cons_self, ih fun e he => h e (List.mem_cons_of_mem _ he)]; rfl
theorem plain_I {i : Int} : plain (.int i) = true := by rw [L3.plain]
theorem depth_I {i : Int} : (PyData.int i).depth ≤ 0 := by rw [PyData.depth]; exact Nat.le_refl _
theorem depth_dG1 {n : Nat} {b : Int} : (dG n b).depth ≤ 1 := depth_tup (k := 0) fun d hd => by
  rcases List.mem_cons.mp hd with rfl | hd
  · exact depth_I
  · rw [List.mem_singleton.mp hd]; exact depth_I
theorem gnum_flip (xs : List Int) : gnum (flip01 xs) = 2 ^ xs.length - 1 - gnum xs := by
  induction xs with
  | nil => rfl
  | cons x xs ih =>
    show gnum ((1 - x) :: flip01 xs) = _
    rw [gnum_cons, ih, gnum_cons, List.length_cons, Int.pow_succ]
    omega
end Prog
namespace Prog
open PySem L2 L3 Gk
noncomputable def tupB (d : PyData) (n : Int) : Bool := match d with
  | .tuple ds => decide ((ds.length : Int) = n)
  | _ => false
end Prog
namespace Prog
open PySem L2 L3 Gk
noncomputable def putR (b : Int) (ts : List Int) (w : Nat) : Int := tab w fun c => bitI b (gnum (ts.map fun t => bitI t (c : Nat)))
theorem putR_nonneg {b : Int} {ts : List Int} {w : Nat} : 0 ≤ putR b ts w := tab_nonneg fun _ => bitI_01 _ _
theorem putR_lt {b : Int} {ts : List Int} {w : Nat} : putR b ts w < 2 ^ w := tab_lt fun _ => bitI_01 _ _
theorem dL_map {n : Nat} {f : Nat → Int} : PyData.list ((List.range n).map fun i => PyData.int (f i)) = dL ((List.range n).map f) := by unfold dL; rw [List.map_map]; rfl
theorem p_put_rows {m : Nat} {b : Int} {ts : List Int} {w : Nat} (hl : ts.length = m) (hm : m ≤ 4) (hw : w ≤ 100) : m_put_rows [dG m b, dL ts, .int (w : Nat)] = .ok (.int (putR b ts w)) := by
  unfold m_put_rows
  walk_at "ev"
  rw [p_row_count hw]
  walk_at "ev"
  rw [p_put_all hl hm]
  rfl
theorem take_snoc {α : Type} {l : List α} {i : Nat} {x : α} (h : l[i]? = some x) : l.take (i + 1) = l.take i ++ [x] := by
  rw [List.take_succ, h]; rfl
end Prog
namespace Prog
open PySem L2 L3 Gk
noncomputable def mk (ks : List Int) : List (PyData × PyData) := ks.map fun k => (PyData.int k, PyData.bool true)
noncomputable def insK (x : Int) (ks : List Int) : List Int := if x ∈ ks then ks else ks ++ [x]
theorem mk_has {x : Int} : ∀ ks : List Int, hasK (.inl x) (mk ks) = decide (x ∈ ks)
  | [] => rfl
  | k :: ks => by
    show (if keyD (PyData.int k) = some (.inl x) then true else hasK (.inl x) (mk ks)) = _
    rw [mk_has ks]
    by_cases h : k = x
    · subst h
      rw [if_pos (show keyD (PyData.int k) = some (.inl k) from rfl), decide_eq_true List.mem_cons_self]
    · rw [if_neg (show ¬ (keyD (PyData.int k) = some (.inl x)) from fun z => h (Sum.inl.inj (Option.some.inj z)))]
      have : (x ∈ k :: ks) ↔ x ∈ ks := ⟨fun z => (List.mem_cons.mp z).resolve_left (fun e => h e.symm), List.mem_cons_of_mem _⟩
      exact decide_eq_decide.mpr this.symm
theorem mk_look {x : Int} : ∀ ks : List Int, (lookD (.inl x) (mk ks)).isSome = decide (x ∈ ks)
  | [] => rfl
  | k :: ks => by
    show (if keyD (PyData.int k) = some (.inl x) then some (PyData.bool true) else lookD (.inl x) (mk ks)).isSome = _
    by_cases h : k = x
    · subst h
      rw [if_pos (show keyD (PyData.int k) = some (.inl k) from rfl), decide_eq_true List.mem_cons_self]; rfl
    · rw [if_neg (show ¬ (keyD (PyData.int k) = some (.inl x)) from fun z => h (Sum.inl.inj (Option.some.inj z))), mk_look ks]
      have : (x ∈ k :: ks) ↔ x ∈ ks := ⟨fun z => (List.mem_cons.mp z).resolve_left (fun e => h e.symm), List.mem_cons_of_mem _⟩
      exact decide_eq_decide.mpr this.symm
theorem mk_set {x : Int} : ∀ ks : List Int, setK (.inl x) (.bool true) (mk ks) = mk ks
  | [] => rfl
  | k :: ks => by
    show (if keyD (PyData.int k) = some (.inl x) then (PyData.int k, PyData.bool true) else (PyData.int k, PyData.bool true)) :: setK (.inl x) (.bool true) (mk ks) = (PyData.int k, PyData.bool true) :: mk ks
    rw [mk_set ks, ite_self]
theorem mk_put {x : Int} {ks : List Int} : putD2 (.int x) (.inl x) (.bool true) (mk ks) = mk (insK x ks) := by
  unfold putD2 insK
  rw [mk_has]
  by_cases h : x ∈ ks
  · rw [if_pos (decide_eq_true h), if_pos h, mk_set]
  · rw [if_neg (by rw [decide_eq_true_eq]; exact h), if_neg h]
    unfold mk
    rw [List.map_append]
    rfl
theorem insK_len {x : Int} {ks : List Int} : (insK x ks).length ≤ ks.length + 1 := by
  unfold insK
  split
  · omega
  · rw [List.length_append]; exact Nat.le_refl _
theorem insK_mem {x y : Int} {ks : List Int} : y ∈ insK x ks ↔ y = x ∨ y ∈ ks := by
  unfold insK
  split
  · rename_i h
    exact ⟨.inr, fun z => z.elim (fun e => e ▸ h) id⟩
  · rw [List.mem_append, List.mem_singleton]
    exact Or.comm
theorem mk_len {ks : List Int} : (mk ks).length = ks.length := by unfold mk; rw [List.length_map]
theorem sPutD_ok {i : Nat} {m1 m2 : ME} {Γ : Ev} {x : Int} {ks : List Int} (h2 : m2 Γ = .ok (.bool true)) (h1 : m1 Γ = .ok (.int x)) (hg : gv Γ i = some (.dict (mk ks))) (hl : ks.length ≤ 100000) (hi : i < Γ.length) : sPutD i m1 m2 Γ = .ok (.nx (Γ.set i (some (.dict (mk (insK x ks)))))) := by
  unfold sPutD
  rw [h2, h1]
  show (match gv Γ i with
    | some (.dict kvs) => (match keyD (.int x) with
      | some key => gd (kvs.length < sizeLine ∧ i < Γ.length) (.ok (Out.nx (Γ.set i (some (.dict (putD2 (.int x) key (.bool true) kvs))))))
      | none => .bad)
    | _ => Res.bad) = _
  rw [hg]
  show gd ((mk ks).length < sizeLine ∧ i < Γ.length) (.ok (Out.nx (Γ.set i (some (.dict (putD2 (.int x) (.inl x) (.bool true) (mk ks))))))) = _
  rw [gd_pos ⟨size_le (by rw [mk_len]; exact hl), hi⟩, mk_put]
noncomputable def dR (rs : List Int) : PyData := .tuple (rs.map PyData.int)
theorem all_shaped (rs : List Int) : (rs.map PyData.int).all SeqAt.shaped = true := by
  rw [List.all_eq_true]
  intro d hd
  obtain ⟨x, _, rfl⟩ := List.mem_map.mp hd
  exact shaped_of plain_I (Nat.le_trans depth_I (by decide))
theorem inB_ints {x : Int} (rs : List Int) : inB (.int x) (rs.map PyData.int) = decide (x ∈ rs) := by
  unfold inB
  have e : ∀ y : Int, PyData.eqv (.int y) (.int x) = decide (y = x) := fun y => Bool.eq_iff_iff.mpr ((plain_eqv _ _ plain_I plain_I).trans ⟨fun z => decide_eq_true (PyData.int.inj z), fun z => congrArg PyData.int (of_decide_eq_true z)⟩)
  induction rs with
  | nil => rfl
  | cons r rs ih =>
    rw [List.map_cons, List.any_cons, ih, e]
    by_cases h : r = x
    · subst h; rw [decide_eq_true rfl, decide_eq_true List.mem_cons_self]; rfl
    · rw [decide_eq_false h, Bool.false_or]
      have : (x ∈ r :: rs) ↔ x ∈ rs := ⟨fun z => (List.mem_cons.mp z).resolve_left (fun e => h e.symm), List.mem_cons_of_mem _⟩
      exact decide_eq_decide.mpr this.symm
theorem notIn_dR {x : Int} {rs : List Int} : notInY (.int x) (dR rs) = .ok (.bool (!decide (x ∈ rs))) := by
  show gd (SeqAt.shaped (.int x) = true ∧ (rs.map PyData.int).all SeqAt.shaped = true) (Res.ok (PyData.bool (!inB (.int x) (rs.map PyData.int)))) = _
  rw [gd_pos ⟨shaped_of plain_I (Nat.le_trans depth_I (by decide)), all_shaped rs⟩, inB_ints]
theorem notIn_mk {x : Int} {ks : List Int} : notInY (.int x) (.dict (mk ks)) = .ok (.bool (!decide (x ∈ ks))) := by
  show Res.ok (PyData.bool (!(lookD (.inl x) (mk ks)).isSome)) = _
  rw [mk_look]
noncomputable def stepL (rs : List Int) (ls : List (List Int)) : List (List Int) := ls.flatMap fun c => rs.map fun r => c ++ [r]
noncomputable def allL (rs : List Int) : Nat → List (List Int)
  | 0 => [[]]
  | m + 1 => stepL rs (allL rs m)
theorem stepL_len {rs : List Int} : ∀ ls : List (List Int), (stepL rs ls).length = ls.length * rs.length
  | [] => by show 0 = 0 * _; omega
  | c :: ls => by
    show ((rs.map fun r => c ++ [r]) ++ stepL rs ls).length = _
    rw [List.length_append, List.length_map, stepL_len ls, List.length_cons, Nat.succ_mul]; omega
theorem allL_len {rs : List Int} : ∀ m, (allL rs m).length = rs.length ^ m
  | 0 => rfl
  | m + 1 => by show (stepL rs (allL rs m)).length = _; rw [stepL_len, allL_len m, Nat.pow_succ]
theorem allL_each {rs : List Int} : ∀ m, ∀ c ∈ allL rs m, c.length = m
  | 0, c, h => by rw [List.mem_singleton.mp h]; rfl
  | m + 1, c, h => by
    obtain ⟨c', h1, h2⟩ := List.mem_flatMap.mp h
    obtain ⟨r, _, rfl⟩ := List.mem_map.mp h2
    rw [List.length_append, allL_each m c' h1]; rfl
theorem stepL_snoc {rs : List Int} {ls : List (List Int)} {c : List Int} : stepL rs (ls ++ [c]) = stepL rs ls ++ rs.map fun r => c ++ [r] := by
  unfold stepL
  rw [List.flatMap_append]
  show _ ++ ((rs.map fun r => c ++ [r]) ++ []) = _
  rw [List.append_nil]
theorem app1 {c : List Int} {r : Int} (h : c.length ≤ 100) : addD (dL c) (.list [.int r]) = .ok (dL (c ++ [r])) := by
  unfold dL
  rw [addD_list (Nat.le_of_lt (size_le (by rw [List.length_map, List.length_singleton]; omega))), List.map_append]
  rfl
theorem forR_first {α : Type} {g : MG} {cl : List Nat} {b : MS} {Γ : Ev} (enc D : α → PyData) (p : α → Bool) : ∀ {xs : List α}, (∀ a ∈ xs, ((g (enc a) Γ).bind b).bind (clrO cl) = if p a = true then .ok (.rt (D a)) else .ok (.nx Γ)) →
    forR g cl b (xs.map enc) Γ = match xs.find? p with | some a => .ok (.rt (D a)) | none => .ok (.nx Γ)
  | [], _ => rfl
  | x :: xs, h => by
    have h1 := h x List.mem_cons_self
    have ih := forR_first enc D p (xs := xs) fun a ha => h a (List.mem_cons_of_mem _ ha)
    rw [List.map_cons]
    cases hp : p x with
    | true =>
      rw [if_pos hp] at h1
      obtain ⟨o, h2, h3⟩ := Res.bind_ok h1
      obtain ⟨Γ1, h4, h5⟩ := Res.bind_ok h2
      rw [List.find?_cons, hp, forR, h4, Res.ok_bind, h5, Res.ok_bind]
      cases o <;> cases h3
      rfl
    | false =>
      rw [if_neg (by rw [hp]; exact Bool.false_ne_true)] at h1
      rw [turn_ok h1, ih, List.find?_cons, hp]
theorem repD_ok {a : List PyData} {k : Int} (h : -(2 ^ 63) ≤ k ∧ k < 2 ^ 63 ∧ a.length * k.toNat ≤ sizeLine) : repD (.list a) (.int k) = .ok (.list (List.replicate k.toNat a).flatten) := gd_pos h
theorem rep1 {n : Nat} {x : PyData} (hn : n ≤ 100) : repD (.list [x]) (.int (n : Nat)) = .ok (.list (List.replicate n x)) := by
  rw [repD_ok ⟨by omega, by omega, by rw [Int.toNat_natCast, List.length_singleton, Nat.one_mul]; exact Nat.le_of_lt (size_le (by omega))⟩, Int.toNat_natCast]
  congr 2
  clear hn
  induction n with
  | zero => rfl
  | succ n ih => rw [List.replicate_succ, List.flatten_cons, ih, List.replicate_succ]; rfl
noncomputable def markL (rs : List Int) : List Int := rs.foldl (fun ks r => insK r ks) []
theorem markL_snoc {rs : List Int} {r : Int} : markL (rs ++ [r]) = insK r (markL rs) := by unfold markL; rw [List.foldl_append]; rfl
theorem markL_mem {x : Int} (rs : List Int) : x ∈ markL rs ↔ x ∈ rs := by
  induction rs using snoc_ind with
  | h0 => exact Iff.rfl
  | h rs r ih => rw [markL_snoc, insK_mem, ih, List.mem_append, List.mem_singleton]; exact Or.comm
theorem markL_len (rs : List Int) : (markL rs).length ≤ rs.length := by
  induction rs using snoc_ind with
  | h0 => exact Nat.le_refl _
  | h rs r ih => rw [markL_snoc, List.length_append]; exact Nat.le_trans insK_len (Nat.succ_le_succ ih)
theorem p_marked {rs : List Int} (hr : rs.length ≤ 1000) : m_marked [dR rs] = .ok (.dict (mk (markL rs))) := by
  unfold m_marked
  walk_at "ev"
  rw [show seqD (dR rs) = .ok (rs.map PyData.int) from rfl, show eDct [] [some (dR rs), none, none] = .ok (.dict []) from rfl]
  walk_at "ev"
  refine forR_bind (fun i => [some (dR rs), some (.dict (mk (markL (rs.take i)))), none]) rfl (fun i x hx => ?_) ?_
  · obtain ⟨r, er, rfl⟩ := enc_get hx
    walk_at "ev"
    rw [sPutD_ok (x := r) (ks := markL (rs.take i)) rfl rfl rfl (Nat.le_trans (markL_len _) (by rw [List.length_take]; omega)) (of_decide_eq_true rfl)]
    walk_at "ev"
    rw [take_snoc er, markL_snoc]
  · rw [List.length_map, List.take_length]
    walk_at "ev"
noncomputable def prodL (cs : List (List Int)) : List (List Int) := cs.foldl (fun ls rs => stepL rs ls) [[]]
theorem prodL_snoc (cs : List (List Int)) (rs : List Int) : prodL (cs ++ [rs]) = stepL rs (prodL cs) := by unfold prodL; rw [List.foldl_append]; rfl
theorem mem_stepL {rs : List Int} {ls : List (List Int)} {c : List Int} : c ∈ stepL rs ls ↔ ∃ d ∈ ls, ∃ r ∈ rs, c = d ++ [r] := by
  unfold stepL
  rw [List.mem_flatMap]
  constructor
  · rintro ⟨d, hd, h⟩
    obtain ⟨r, hr, rfl⟩ := List.mem_map.mp h
    exact ⟨d, hd, r, hr, rfl⟩
  · rintro ⟨d, hd, r, hr, rfl⟩
    exact ⟨d, hd, List.mem_map.mpr ⟨r, hr, rfl⟩⟩
theorem prodL_mem {c : List Int} {cs : List (List Int)} : c ∈ prodL cs ↔ c.length = cs.length ∧ ∀ i, i < cs.length → c.getD i 0 ∈ cs.getD i [] := by
  induction cs using snoc_ind generalizing c with
  | h0 =>
    constructor
    · intro h; rw [List.mem_singleton.mp h]; exact ⟨rfl, fun i hi => absurd hi (Nat.not_lt_zero _)⟩
    · rintro ⟨h, _⟩; rw [List.length_eq_zero_iff.mp h]; exact List.mem_singleton.mpr rfl
  | h cs rs ih =>
    rw [prodL_snoc, mem_stepL]
    constructor
    · rintro ⟨d, hd, r, hr, rfl⟩
      obtain ⟨h1, h2⟩ := ih.mp hd
      refine ⟨by rw [List.length_append, List.length_append, h1]; rfl, fun i hi => ?_⟩
      rw [List.length_append] at hi
      have hi : i < cs.length + 1 := hi
      rcases Nat.lt_or_ge i cs.length with q | q
      · have := h2 i q
        rw [List.getD_eq_getElem?_getD, List.getD_eq_getElem?_getD] at this ⊢
        rw [List.getElem?_append_left (l₁ := d) (by omega), List.getElem?_append_left (l₁ := cs) q]
        exact this
      · have e : i = cs.length := by omega
        subst e
        rw [List.getD_eq_getElem?_getD, List.getD_eq_getElem?_getD, List.getElem?_append_right (l₁ := d) (by omega), List.getElem?_append_right (l₁ := cs) (Nat.le_refl _), h1, Nat.sub_self]
        exact hr
    · rintro ⟨h1, h2⟩
      rw [List.length_append] at h1
      have h1 : c.length = cs.length + 1 := h1
      have hl : cs.length < c.length := by omega
      refine ⟨c.take cs.length, ih.mpr ⟨by rw [List.length_take]; omega, fun i hi => ?_⟩, c.getD cs.length 0, ?_, ?_⟩
      · have := h2 i (by rw [List.length_append]; exact Nat.lt_succ_of_lt hi)
        rw [List.getD_eq_getElem?_getD, List.getD_eq_getElem?_getD] at this ⊢
        rw [List.getElem?_append_left hi] at this
        rw [List.getElem?_take, if_pos hi]
        exact this
      · have := h2 cs.length (by rw [List.length_append]; exact Nat.lt_succ_self _)
        rw [List.getD_eq_getElem?_getD (l := cs ++ [rs]), List.getElem?_append_right (Nat.le_refl _), Nat.sub_self] at this
        exact this
      · rw [List.getD_eq_getElem?_getD, List.getElem?_eq_getElem hl]
        show c = c.take cs.length ++ [c[cs.length]]
        have e1 : c.take (cs.length + 1) = c.take cs.length ++ [c[cs.length]] := by rw [List.take_add_one, List.getElem?_eq_getElem hl]; rfl
        rw [← e1, List.take_of_length_le (by omega)]
theorem prodL_each {c : List Int} {cs : List (List Int)} (h : c ∈ prodL cs) : c.length = cs.length := (prodL_mem.mp h).1
theorem prodL_len {B : Nat} : ∀ {cs : List (List Int)}, (∀ rs ∈ cs, rs.length ≤ B) → (prodL cs).length ≤ B ^ cs.length := fun {cs} => by
  induction cs using snoc_ind with
  | h0 => exact fun _ => Nat.le_refl _
  | h cs rs ih =>
    intro hb
    rw [prodL_snoc, stepL_len, List.length_append]
    show _ ≤ B ^ (cs.length + 1)
    rw [Nat.pow_succ]
    exact Nat.mul_le_mul (ih fun r hr => hb r (List.mem_append_left _ hr)) (hb rs (by simp))
theorem allL_prod (rs : List Int) : ∀ m, allL rs m = prodL (List.replicate m rs)
  | 0 => rfl
  | m + 1 => by
    rw [List.replicate_succ', prodL_snoc, ← allL_prod rs m]
    rfl
theorem allL_mem {rs c : List Int} {m : Nat} : c ∈ allL rs m ↔ c.length = m ∧ ∀ x ∈ c, x ∈ rs := by
  rw [allL_prod, prodL_mem, List.length_replicate]
  constructor
  · rintro ⟨h1, h2⟩
    refine ⟨h1, fun x hx => ?_⟩
    obtain ⟨i, hi, rfl⟩ := List.mem_iff_getElem.mp hx
    have := h2 i (by omega)
    rw [List.getD_eq_getElem?_getD, List.getD_eq_getElem?_getD, List.getElem?_eq_getElem hi, List.getElem?_replicate_of_lt (by omega)] at this
    exact this
  · rintro ⟨h1, h2⟩
    refine ⟨h1, fun i hi => ?_⟩
    rw [List.getD_eq_getElem?_getD, List.getD_eq_getElem?_getD, List.getElem?_eq_getElem (l := c) (by omega), List.getElem?_replicate_of_lt hi]
    exact h2 _ (List.getElem_mem _)
theorem pw16 {n m : Nat} (hn : n ≤ 16) (hm : m ≤ 4) : n ^ m ≤ 65536 := Nat.le_trans (Nat.pow_le_pow_left hn m) (Nat.le_trans (Nat.pow_le_pow_right (by decide) hm) (by decide))
theorem p_lists_of {enc : List Int → PyData} {cs : List (List Int)} (he : ∀ rs, seqD (enc rs) = .ok (rs.map PyData.int)) (hr : ∀ rs ∈ cs, rs.length ≤ 16) (hm : cs.length ≤ 4) : m_lists_of [.list (cs.map enc)] = .ok (.list ((prodL cs).map dL)) := by
  unfold m_lists_of
  walk_at "ev"
  refine forR_bind (fun i => [some (.list (cs.map enc)), some (.list ((prodL (cs.take i)).map dL)), none, none, none, none]) rfl (fun i x hx => ?_) ?_
  · obtain ⟨rs, ers, rfl⟩ := enc_get hx
    have hi := (List.getElem?_eq_some_iff.mp ers).1
    have hrs := hr rs (List.mem_of_getElem? ers)
    have L0 : (prodL (cs.take i)).length ≤ 65536 := Nat.le_trans (prodL_len (B := 16) fun r q => hr r (List.mem_of_mem_take q)) (pw16 (Nat.le_refl _) (by rw [List.length_take]; omega))
    walk_at "ev"
    refine forR_bind (fun j => [some (.list (cs.map enc)), some (.list ((prodL (cs.take i)).map dL)), some (enc rs), some (.list ((stepL rs ((prodL (cs.take i)).take j)).map dL)), none, none]) rfl (fun j x hx => ?_) ?_
    · obtain ⟨c, ec, rfl⟩ := enc_get hx
      have hc := prodL_each (List.mem_of_getElem? ec)
      rw [List.length_take] at hc
      have Lj : (stepL rs ((prodL (cs.take i)).take j)).length ≤ 1100000 := by
        rw [stepL_len, List.length_take]
        exact Nat.le_trans (Nat.mul_le_mul (Nat.le_trans (Nat.min_le_right _ _) L0) hrs) (by decide)
      walk_at "ev"
      rw [he]
      walk_at "ev"
      refine forR_bind (fun k => [some (.list (cs.map enc)), some (.list ((prodL (cs.take i)).map dL)), some (enc rs), some (.list ((stepL rs ((prodL (cs.take i)).take j) ++ (rs.take k).map fun r => c ++ [r]).map dL)), some (dL c), none]) ?_ (fun k x hx => ?_) ?_
      · rw [List.take_zero, List.map_nil, List.append_nil]
      · obtain ⟨r, er, rfl⟩ := enc_get hx
        have hk := (List.getElem?_eq_some_iff.mp er).1
        walk_at "ev"
        rw [app1 (by omega)]
        walk_at "ev"
        rw [gd_pos (Nat.lt_of_le_of_lt (show _ ≤ 1200000 by rw [List.length_append, List.length_map, List.length_take]; omega) (by decide))]
        walk_at "ev"
        rw [take_snoc er, List.map_append (f := fun r => c ++ [r]), ← List.append_assoc, List.map_append (f := dL) (l₂ := List.map (fun r => c ++ [r]) [r])]
        rfl
      · rw [List.length_map, List.take_length]
        walk_at "ev"
        rw [take_snoc ec, stepL_snoc]
    · rw [List.length_map, List.take_length]
      walk_at "ev"
      rw [take_snoc ers, prodL_snoc]
  · rw [List.length_map, List.take_length]
    walk_at "ev"
theorem p_power {n m : Nat} (hn : n ≤ 100000) (hm : m ≤ 4) : m_power [.int (n : Nat), .int (m : Nat)] = .ok (.int ((n ^ m : Nat) : Int)) := by
  unfold m_power
  walk_at "ev"
  rw [rng1_nat (by omega)]
  walk_at "ev"
  refine forR_bind (fun i => [some (.int (n : Nat)), some (.int (m : Nat)), some (.int ((n ^ i : Nat) : Int)), none]) rfl (fun i x hx => ?_) ?_
  · obtain ⟨hi, rfl⟩ := upN_get hx
    have e : ((n ^ (i + 1) : Nat) : Int) = (n : Nat) * ((n ^ i : Nat) : Int) := by rw [Nat.pow_succ, Nat.mul_comm, Int.natCast_mul]
    rw [e]
    generalize n ^ i = q
    walk_at "go"
  · rw [upN_length]
    walk_at "ev"
end Prog
namespace Prog
open PySem L2 L3 Gk
noncomputable abbrev dGp (g : Nat × Int) : PyData := dG g.1 g.2
theorem sExt_ok {i : Nat} {m : ME} {Γ : Ev} {ds es : List PyData} (hm : m Γ = .ok (.list es)) (hg : gv Γ i = some (.list ds)) (hl : ds.length + es.length ≤ sizeLine) (hi : i < Γ.length) : sExt i m Γ = .ok (.nx (Γ.set i (some (.list (ds ++ es))))) := by
  unfold sExt
  rw [hm]
  show (match gv Γ i, PyData.list es with
    | some (.list ds), .list es => gd (ds.length + es.length ≤ sizeLine ∧ i < Γ.length) (.ok (Out.nx (Γ.set i (some (.list (ds ++ es))))))
    | _, _ => Res.bad) = _
  rw [hg]
  exact gd_pos ⟨hl, hi⟩
noncomputable def cntL (n : Nat) (gs : List (Nat × Int)) : Nat := (gs.map fun g => n ^ g.1).sum
theorem p_list_count {n : Nat} {gs : List (Nat × Int)} (hn : n ≤ 100000) (hg : gs.length ≤ 100) (hm : ∀ g ∈ gs, g.1 ≤ 4) : m_list_count [.int (n : Nat), .list (gs.map dGp)] = .ok (.int (cntL n gs : Nat)) := by
  unfold m_list_count
  walk_at "ev"
  rw [eComp_enc (xs := gs) dGp (fun g => .int ((n ^ g.1 : Nat) : Int)) ?_ (size_le (by omega)) fun g h => ?_]
  · walk_at "ev"
    rw [show gs.map (fun g => PyData.int ((n ^ g.1 : Nat) : Int)) = (gs.map fun g => ((n ^ g.1 : Nat) : Int)).map PyData.int by rw [List.map_map]; rfl]
    have : ∀ ns : List Int, sumD [.list (ns.map PyData.int)] = .ok (.int ns.sum) := fun ns => sumD_ints
    rw [this]
    walk_at "ev"
    unfold cntL
    congr 2
    induction gs with
    | nil => rfl
    | cons g gs ih =>
      rw [List.map_cons, List.sum_cons, List.map_cons, List.sum_cons, Int.natCast_add, ih (by rw [List.length_cons] at hg; omega) fun q hq => hm q (List.mem_cons_of_mem _ hq)]
  · walk_at "ev"
  · walk_at "ev"
    rw [p_power hn (hm g h)]
end Prog
namespace Prog
open PySem L2 L3 Gk
end Prog
namespace Prog
open PySem L2 L3 Gk
noncomputable def dRel (w : Nat) (rs : List Int) : PyData := .tuple [.int (w : Nat), dR rs]
noncomputable def brk (b : Int) (w : Nat) (rs : List Int) (m : Nat) : Option (List Int) := (allL rs m).find? fun c => !decide (putR b c w ∈ rs)
noncomputable def optD : Option (List Int) → PyData
  | none => .none
  | some c => dL c
theorem p_broken {m w : Nat} {b : Int} {rs : List Int} (hr : rs.length ≤ 16) (hm : m ≤ 4) (hp : rs.length ^ m ≤ 20000) (hw : w ≤ 100) : m_broken [dG m b, dRel w rs] = .ok (optD (brk b w rs m)) := by
  unfold m_broken dRel
  walk_at "ev"
  rw [show lenD [dR rs] = .ok (.int (rs.length : Nat)) by unfold dR; rw [lenD_tuple, List.length_map]]
  walk_at "ev"
  have hc := p_list_count (n := rs.length) (gs := [(m, b)]) (by omega) (by simp) fun g hg => by rw [List.mem_singleton.mp hg]; exact hm
  rw [show PyData.list [dG m b] = .list ([(m, b)].map dGp) from rfl, hc, show cntL rs.length [(m, b)] = rs.length ^ m by unfold cntL; simp]
  walk_at "ev"
  rw [decide_eq_false (by omega)]
  walk_at "ev"
  rw [p_marked (by omega)]
  walk_at "ev"
  rw [show repD (.list [dR rs]) (.int (m : Nat)) = .ok (.list (List.replicate m (dR rs))) from rep1 (by omega)]
  walk_at "ev"
  rw [show List.replicate m (dR rs) = (List.replicate m rs).map dR by rw [List.map_replicate], p_lists_of (enc := dR) (fun _ => rfl) (fun r h => by rw [(List.mem_replicate.mp h).2]; exact hr) (by rw [List.length_replicate]; exact hm), ← allL_prod]
  walk_at "ev"
  rw [forR_first dL dL (fun c => !decide (putR b c w ∈ rs)) fun c hc => ?_]
  · show Res.bind _ _ = Res.ok (optD (brk b w rs m))
    unfold brk
    cases (allL rs m).find? fun c => !decide (putR b c w ∈ rs) with
    | none => walk_at "ev"; rfl
    | some c => walk_at "ev"; rfl
  · walk_at "ev"
    rw [p_put_rows (by rw [allL_each m c hc]) hm hw]
    walk_at "ev"
    rw [notIn_mk, show decide (putR b c w ∈ markL rs) = decide (putR b c w ∈ rs) from decide_eq_decide.mpr (markL_mem rs)]
    walk_at "ev"
    rw [bS_dec]
    by_cases h : putR b c w ∈ rs
    · rw [decide_eq_true h]; rfl
    · rw [decide_eq_false h]; rfl
theorem brk_none {b : Int} {w m : Nat} {rs : List Int} : (brk b w rs m).isNone = (allL rs m).all fun c => decide (putR b c w ∈ rs) := by
  unfold brk
  cases h : (allL rs m).find? fun c => !decide (putR b c w ∈ rs) with
  | none =>
    have := List.find?_eq_none.mp h
    symm
    show _ = true
    rw [List.all_eq_true]
    intro c hc
    have := this c hc
    simpa using this
  | some c =>
    have h1 := List.find?_some h
    have h2 := List.mem_of_find?_eq_some h
    symm
    show _ = false
    rw [← Bool.not_eq_true, List.all_eq_true]
    intro z
    have := z c h2
    rw [this] at h1
    cases h1
end Prog
namespace Gk
open PySem L2 L3 Prog
noncomputable def Kp (b : Int) (w : Nat) (rs : List Int) (m : Nat) : Prop := ∀ c : List Int, c.length = m → (∀ x ∈ c, x ∈ rs) → putR b c w ∈ rs
theorem kept_iff {b : Int} {w m : Nat} {rs : List Int} : (brk b w rs m).isNone = true ↔ Kp b w rs m := by
  rw [brk_none, List.all_eq_true]
  exact ⟨fun h c h1 h2 => of_decide_eq_true (h c (allL_mem.mpr ⟨h1, h2⟩)), fun h c hc => decide_eq_true (h c (allL_mem.mp hc).1 (allL_mem.mp hc).2)⟩
theorem tab_1 (f : Nat → Int) : tab 1 f = f 0 := by show 2 * 0 + f 0 = _; omega
theorem tab_2 (f : Nat → Int) : tab 2 f = f 0 + 2 * f 1 := by show 2 * (2 * 0 + f 1) + f 0 = _; omega
theorem tab_4 (f : Nat → Int) : tab 4 f = f 0 + 2 * f 1 + 4 * f 2 + 8 * f 3 := by show 2 * (2 * (2 * (2 * 0 + f 3) + f 2) + f 1) + f 0 = _; omega
theorem gnum_rep0 : ∀ m, gnum (List.replicate m 0) = 0
  | 0 => rfl
  | m + 1 => by rw [List.replicate_succ, gnum_cons, gnum_rep0 m]; rfl
theorem gnum_rep1 : ∀ m, gnum (List.replicate m 1) = 2 ^ m - 1
  | 0 => rfl
  | m + 1 => by rw [List.replicate_succ, gnum_cons, gnum_rep1 m, Int.pow_succ]; omega
noncomputable abbrev col (c : List Int) (j : Nat) : List Int := c.map fun t => bitI t (j : Nat)
theorem col_01 (c : List Int) (j : Nat) : All01 (col c j) := All01.map fun _ _ => bitI_01 _ _
theorem putR_1 {b : Int} {c : List Int} : putR b c 1 = bitI b (gnum (col c 0)) := tab_1 _
theorem putR_2 {b : Int} {c : List Int} : putR b c 2 = bitI b (gnum (col c 0)) + 2 * bitI b (gnum (col c 1)) := tab_2 _
theorem putR_4 {b : Int} {c : List Int} : putR b c 4 = bitI b (gnum (col c 0)) + 2 * bitI b (gnum (col c 1)) + 4 * bitI b (gnum (col c 2)) + 8 * bitI b (gnum (col c 3)) := tab_4 _
theorem kp_low {b : Int} {m : Nat} : Kp b 1 [0] m ↔ bitI b 0 = 0 := by
  have e : putR b (List.replicate m 0) 1 = bitI b 0 := by
    rw [putR_1]
    show bitI b (gnum ((List.replicate m 0).map _)) = _
    rw [List.map_replicate]
    show bitI b (gnum (List.replicate m 0)) = _
    rw [gnum_rep0]
  constructor
  · intro h
    have := h (List.replicate m 0) List.length_replicate fun x hx => List.mem_singleton.mpr (List.eq_of_mem_replicate hx)
    rwa [e, List.mem_singleton] at this
  · intro h c h1 h2
    have : c = List.replicate m 0 := List.eq_replicate_iff.mpr ⟨h1, fun x hx => List.mem_singleton.mp (h2 x hx)⟩
    rw [this, e, h]
    exact List.mem_singleton.mpr rfl
theorem kp_high {b : Int} {m : Nat} : Kp b 1 [1] m ↔ bitI b (2 ^ m - 1) = 1 := by
  have e : putR b (List.replicate m 1) 1 = bitI b (2 ^ m - 1) := by
    rw [putR_1]
    show bitI b (gnum ((List.replicate m 1).map _)) = _
    rw [List.map_replicate]
    show bitI b (gnum (List.replicate m 1)) = _
    rw [gnum_rep1]
  constructor
  · intro h
    have := h (List.replicate m 1) List.length_replicate fun x hx => List.mem_singleton.mpr (List.eq_of_mem_replicate hx)
    rwa [e, List.mem_singleton] at this
  · intro h c h1 h2
    have : c = List.replicate m 1 := List.eq_replicate_iff.mpr ⟨h1, fun x hx => List.mem_singleton.mp (h2 x hx)⟩
    rw [this, e, h]
    exact List.mem_singleton.mpr rfl
theorem mem_12 {x : Int} : x ∈ ([1, 2] : List Int) ↔ x = 1 ∨ x = 2 := by simp
theorem kp_turn {b : Int} {m : Nat} : Kp b 2 [1, 2] m ↔ ∀ r : Nat, r < 2 ^ m → bitI b (r : Nat) ≠ bitI b (2 ^ m - 1 - (r : Nat)) := by
  constructor
  · intro h r hr
    have k := h ((bitsOf m r).map fun x => 2 - x) (by rw [List.length_map, bitsOf_length]) fun x hx => by
      obtain ⟨y, hy, rfl⟩ := List.mem_map.mp hx
      rcases bitsOf_01 hy with z | z <;> rw [z] <;> simp
    rw [putR_2, mem_12] at k
    have e0 : col ((bitsOf m r).map fun x => 2 - x) 0 = bitsOf m r := by
      unfold col
      rw [List.map_map]
      refine (List.map_congr_left fun x hx => ?_).trans (List.map_id _)
      rcases bitsOf_01 hx with z | z <;> rw [z] <;> rfl
    have e1 : col ((bitsOf m r).map fun x => 2 - x) 1 = flip01 (bitsOf m r) := by
      unfold col flip01
      rw [List.map_map]
      refine List.map_congr_left fun x hx => ?_
      rcases bitsOf_01 hx with z | z <;> rw [z] <;> rfl
    rw [e0, e1, gnum_flip, bitsOf_length, gnum_bitsOf_lt hr] at k
    have h1 := bitI_01 b (r : Nat)
    have h2 := bitI_01 b (2 ^ m - 1 - (r : Nat))
    omega
  · intro h c h1 h2
    have e1 : col c 1 = flip01 (col c 0) := by
      unfold flip01 col
      rw [List.map_map]
      refine List.map_congr_left fun x hx => ?_
      rcases mem_12.mp (h2 x hx) with z | z <;> rw [z] <;> rfl
    obtain ⟨r, hr, er, _⟩ := row_of (col_01 c 0)
    have hl : (col c 0).length = m := by rw [List.length_map, h1]
    rw [hl] at hr
    have k := h r hr
    rw [putR_2, e1, gnum_flip, hl, er, mem_12]
    have h1 := bitI_01 b (r : Nat)
    have h2 := bitI_01 b (2 ^ m - 1 - (r : Nat))
    omega
theorem mem_023 {x : Int} : x ∈ ([0, 2, 3] : List Int) ↔ x = 0 ∨ x = 2 ∨ x = 3 := by simp
theorem bit_nat (n i : Nat) : bitI (n : Nat) (i : Nat) = if n.testBit i then 1 else 0 := by
  unfold bitI
  rw [Int.toNat_natCast, Nat.testBit_eq_decide_div_mod_eq]
  have : (n : Int) / 2 ^ i % 2 = ((n / 2 ^ i % 2 : Nat) : Int) := by push_cast; rfl
  rw [this]
  by_cases h : n / 2 ^ i % 2 = 1
  · rw [h]; simp
  · have : n / 2 ^ i % 2 = 0 := by omega
    rw [this]; simp
theorem bitsOf_bit {m r : Nat} : bitsOf m r = (List.range m).map fun j => bitI (r : Nat) (j : Nat) := by
  unfold bitsOf
  refine List.map_congr_left fun j _ => ?_
  unfold bitI
  rw [Int.toNat_natCast]
  push_cast
  rfl
theorem bits_or {m r k : Nat} (hk : k < m) : bitsOf m (r ||| 2 ^ k) = (bitsOf m r).set k 1 := by
  rw [bitsOf_bit, bitsOf_bit]
  refine List.ext_getElem? fun i => ?_
  rw [List.getElem?_set, List.getElem?_map, List.getElem?_map, List.length_map, List.length_range]
  by_cases hi : i < m
  · rw [List.getElem?_range hi]
    simp only [Option.map_some, bit_nat, Nat.testBit_or, Nat.testBit_two_pow]
    by_cases he : k = i
    · subst he; simp [hk]
    · simp [he]
  · have : (List.range m)[i]? = none := by rw [List.getElem?_eq_none_iff, List.length_range]; omega
    rw [this, if_neg (by omega)]
    rfl
inductive Below : List Int → List Int → Prop
  | nil : Below [] []
  | cons {x y : Int} {xs ys : List Int} : (x = 0 ∧ y = 0) ∨ (x = 0 ∧ y = 1) ∨ (x = 1 ∧ y = 1) → Below xs ys → Below (x :: xs) (y :: ys)
theorem below_col : ∀ {c : List Int}, (∀ x ∈ c, x ∈ ([0, 2, 3] : List Int)) → Below (col c 0) (col c 1)
  | [], _ => .nil
  | x :: c, h => .cons (by
      rcases mem_023.mp (h x List.mem_cons_self) with z | z | z <;> rw [z] <;> decide) (below_col fun y hy => h y (List.mem_cons_of_mem _ hy))
theorem All01.app {xs ys : List Int} (h : All01 xs) (h' : All01 ys) : All01 (xs ++ ys) := fun x hx => by
  rcases List.mem_append.mp hx with z | z
  · exact h x z
  · exact h' x z
theorem Below.left {xs ys : List Int} (h : Below xs ys) : All01 xs := by
  induction h with
  | nil => exact fun x hx => nomatch hx
  | cons h _ ih => exact fun x hx => by rcases List.mem_cons.mp hx with z | z; (· omega); exact ih x z
theorem rise_up {b : Int} {m : Nat} (h : ∀ r k : Nat, r < 2 ^ m → k < m → bitI b (r : Nat) ≤ bitI b ((r ||| 2 ^ k : Nat))) {xs ys : List Int} (hb : Below xs ys) : ∀ pre, All01 pre → pre.length + xs.length = m → bitI b (gnum (pre ++ xs)) ≤ bitI b (gnum (pre ++ ys)) := by
  induction hb with
  | nil => intro pre _ _; exact Int.le_refl _
  | @cons x y xs ys hxy hb ih =>
    intro pre hp hl
    rw [List.length_cons] at hl
    have h01 : All01 (pre ++ x :: xs) := hp.app fun z hz => by rcases List.mem_cons.mp hz with e | e; (· omega); exact hb.left z e
    have s1 : bitI b (gnum (pre ++ x :: xs)) ≤ bitI b (gnum (pre ++ y :: xs)) := by
      rcases hxy with ⟨rfl, rfl⟩ | ⟨rfl, rfl⟩ | ⟨rfl, rfl⟩
      · exact Int.le_refl _
      · obtain ⟨r, hr, er, eb⟩ := row_of h01
        have hm : (pre ++ 0 :: xs).length = m := by rw [List.length_append, List.length_cons]; omega
        rw [hm] at hr eb
        have k := h r pre.length hr (by omega)
        have hb2 := bits_or (m := m) (r := r) (k := pre.length) (by omega)
        rw [eb] at hb2
        have e2 : (pre ++ 0 :: xs).set pre.length 1 = pre ++ 1 :: xs := by
          rw [List.set_append_right _ _ (Nat.le_refl _), Nat.sub_self]
          rfl
        rw [e2] at hb2
        have hlt : r ||| 2 ^ pre.length < 2 ^ m := Nat.or_lt_two_pow hr (Nat.pow_lt_pow_right (by decide) (by omega))
        rw [er, ← hb2, gnum_bitsOf_lt hlt]
        exact k
      · exact Int.le_refl _
    have s2 := ih (pre ++ [y]) (hp.app fun z hz => by rw [List.mem_singleton.mp hz]; omega) (by rw [List.length_append]; show pre.length + 1 + xs.length = m; omega)
    rw [List.append_assoc, List.append_assoc] at s2
    exact Int.le_trans s1 s2
theorem kp_rise {b : Int} {m : Nat} : Kp b 2 [0, 2, 3] m ↔ ∀ r k : Nat, r < 2 ^ m → k < m → bitI b (r : Nat) ≤ bitI b ((r ||| 2 ^ k : Nat)) := by
  constructor
  · intro h r k hr hk
    have hlt : r ||| 2 ^ k < 2 ^ m := Nat.or_lt_two_pow hr (Nat.pow_lt_pow_right (by decide) hk)
    have mem : ∀ j : Nat, (bitI (r : Nat) (j : Nat) = 0 ∧ bitI ((r ||| 2 ^ k : Nat)) (j : Nat) = 0) ∨ (bitI (r : Nat) (j : Nat) = 0 ∧ bitI ((r ||| 2 ^ k : Nat)) (j : Nat) = 1) ∨ (bitI (r : Nat) (j : Nat) = 1 ∧ bitI ((r ||| 2 ^ k : Nat)) (j : Nat) = 1) := fun j => by
      rw [bit_nat, bit_nat, Nat.testBit_or]
      cases r.testBit j <;> cases (2 ^ k).testBit j <;> simp
    have kk := h ((List.range m).map fun j => bitI (r : Nat) (j : Nat) + 2 * bitI ((r ||| 2 ^ k : Nat)) (j : Nat)) (by rw [List.length_map, List.length_range]) fun x hx => by
      obtain ⟨j, _, rfl⟩ := List.mem_map.mp hx
      rw [mem_023]
      have := mem j
      omega
    have e0 : col ((List.range m).map fun j => bitI (r : Nat) (j : Nat) + 2 * bitI ((r ||| 2 ^ k : Nat)) (j : Nat)) 0 = bitsOf m r := by
      rw [bitsOf_bit]
      unfold col
      rw [List.map_map]
      refine List.map_congr_left fun j _ => ?_
      show bitI (bitI (r : Nat) (j : Nat) + 2 * bitI ((r ||| 2 ^ k : Nat)) (j : Nat)) ((0 : Nat) : Int) = bitI (r : Nat) (j : Nat)
      rcases mem j with ⟨h1, h2⟩ | ⟨h1, h2⟩ | ⟨h1, h2⟩ <;> rw [h1, h2] <;> rfl
    have e1 : col ((List.range m).map fun j => bitI (r : Nat) (j : Nat) + 2 * bitI ((r ||| 2 ^ k : Nat)) (j : Nat)) 1 = bitsOf m (r ||| 2 ^ k) := by
      rw [bitsOf_bit]
      unfold col
      rw [List.map_map]
      refine List.map_congr_left fun j _ => ?_
      show bitI (bitI (r : Nat) (j : Nat) + 2 * bitI ((r ||| 2 ^ k : Nat)) (j : Nat)) ((1 : Nat) : Int) = bitI ((r ||| 2 ^ k : Nat)) (j : Nat)
      rcases mem j with ⟨h1, h2⟩ | ⟨h1, h2⟩ | ⟨h1, h2⟩ <;> rw [h1, h2] <;> rfl
    rw [putR_2, e0, e1, gnum_bitsOf_lt hr, gnum_bitsOf_lt hlt, mem_023] at kk
    have h1 := bitI_01 b (r : Nat)
    have h2 := bitI_01 b ((r ||| 2 ^ k : Nat))
    omega
  · intro h c h1 h2
    have k := rise_up h (below_col h2) [] (fun x hx => nomatch hx) (by show 0 + _ = m; rw [List.length_map]; omega)
    rw [List.nil_append, List.nil_append] at k
    rw [putR_2, mem_023]
    have h1 := bitI_01 b (gnum (col c 0))
    have h2 := bitI_01 b (gnum (col c 1))
    omega
noncomputable def evens : List Int := [0, 3, 5, 6, 9, 10, 12, 15]
theorem mem_evens {x : Int} : x ∈ evens ↔ x = 0 ∨ x = 3 ∨ x = 5 ∨ x = 6 ∨ x = 9 ∨ x = 10 ∨ x = 12 ∨ x = 15 := by simp [evens]
noncomputable def wgt (b : Int) (k : Nat) : Int := bitI b (2 ^ k) + bitI b 0
noncomputable def linL (b : Int) : Nat → List Int → Int
  | _, [] => 0
  | k, x :: xs => x * wgt b k + linL b (k + 1) xs
noncomputable def totE (b : Int) (r : Nat) : Nat → Int
  | 0 => bitI b 0
  | k + 1 => totE b r k + bitI (r : Nat) (k : Nat) * wgt b k
theorem linL_snoc (b : Int) (y : Int) : ∀ (xs : List Int) (k : Nat), linL b k (xs ++ [y]) = linL b k xs + y * wgt b (k + xs.length)
  | [], k => by show y * wgt b k + 0 = 0 + y * wgt b k; omega
  | x :: xs, k => by
    show x * wgt b k + linL b (k + 1) (xs ++ [y]) = x * wgt b k + linL b (k + 1) xs + y * wgt b (k + (xs.length + 1))
    rw [linL_snoc b y xs (k + 1), show k + 1 + xs.length = k + (xs.length + 1) by omega]
    omega
theorem totE_lin (b : Int) (r : Nat) : ∀ m, totE b r m = bitI b 0 + linL b 0 (bitsOf m r)
  | 0 => by show bitI b 0 = bitI b 0 + 0; omega
  | m + 1 => by
    show totE b r m + bitI (r : Nat) (m : Nat) * wgt b m = _
    have e : bitI (r : Nat) (m : Nat) = ((r / 2 ^ m % 2 : Nat) : Int) := by
      unfold bitI
      rw [Int.toNat_natCast]
      push_cast
      rfl
    rw [totE_lin b r m, bitsOf_succ, linL_snoc, bitsOf_length, e, Nat.zero_add]
    omega
theorem lin_even (b : Int) : ∀ (c : List Int) (k : Nat), (∀ x ∈ c, x ∈ evens) → (linL b k (col c 0) + linL b k (col c 1) + linL b k (col c 2) + linL b k (col c 3)) % 2 = 0
  | [], k, _ => rfl
  | x :: c, k, h => by
    have ih := lin_even b c (k + 1) fun y hy => h y (List.mem_cons_of_mem _ hy)
    show (bitI x ((0 : Nat) : Int) * wgt b k + linL b (k + 1) (col c 0) + (bitI x ((1 : Nat) : Int) * wgt b k + linL b (k + 1) (col c 1)) + (bitI x ((2 : Nat) : Int) * wgt b k + linL b (k + 1) (col c 2)) + (bitI x ((3 : Nat) : Int) * wgt b k + linL b (k + 1) (col c 3))) % 2 = 0
    generalize linL b (k + 1) (col c 0) = l0 at *
    generalize linL b (k + 1) (col c 1) = l1 at *
    generalize linL b (k + 1) (col c 2) = l2 at *
    generalize linL b (k + 1) (col c 3) = l3 at *
    generalize wgt b k = w at *
    have bits : ∀ v : Int, v ∈ evens → (bitI v ((0 : Nat) : Int) = 0 ∨ bitI v ((0 : Nat) : Int) = 1) ∧ (bitI v ((1 : Nat) : Int) = 0 ∨ bitI v ((1 : Nat) : Int) = 1) ∧ (bitI v ((2 : Nat) : Int) = 0 ∨ bitI v ((2 : Nat) : Int) = 1) ∧ (bitI v ((3 : Nat) : Int) = 0 ∨ bitI v ((3 : Nat) : Int) = 1) ∧ (bitI v ((0 : Nat) : Int) + bitI v ((1 : Nat) : Int) + bitI v ((2 : Nat) : Int) + bitI v ((3 : Nat) : Int)) % 2 = 0 := by decide
    obtain ⟨h0, h1, h2, h3, he⟩ := bits x (h x List.mem_cons_self)
    rcases h0 with z0 | z0 <;> rcases h1 with z1 | z1 <;> rcases h2 with z2 | z2 <;> rcases h3 with z3 | z3 <;> rw [z0, z1, z2, z3] at he ⊢ <;> first | omega
theorem evens_sum {a b c d : Int} (ha : a = 0 ∨ a = 1) (hb : b = 0 ∨ b = 1) (hc : c = 0 ∨ c = 1) (hd : d = 0 ∨ d = 1) : a + 2 * b + 4 * c + 8 * d ∈ evens ↔ (a + b + c + d) % 2 = 0 := by
  rcases ha with rfl | rfl <;> rcases hb with rfl | rfl <;> rcases hc with rfl | rfl <;> rcases hd with rfl | rfl <;> decide
theorem map_rep {α β : Type} (f : α → β) (x : α) (n : Nat) : (List.replicate n x).map f = List.replicate n (f x) := List.map_replicate
theorem even_up {b : Int} {m : Nat} (h : Kp b 4 evens m) : ∀ (xs : List Int) (k : Nat), All01 xs → k + xs.length = m → bitI b (gnum (List.replicate k 0 ++ xs)) % 2 = (bitI b 0 + linL b k xs) % 2
  | [], k, _, _ => by
    rw [List.append_nil, gnum_rep0]
    show _ = (bitI b 0 + 0) % 2
    omega
  | x :: xs, k, hx, hl => by
    rw [List.length_cons] at hl
    have ih := even_up h xs (k + 1) hx.tail (by omega)
    have e0 : List.replicate (k + 1) (0 : Int) ++ xs = List.replicate k 0 ++ 0 :: xs := by
      rw [List.replicate_succ', List.append_assoc]; rfl
    rw [e0] at ih
    show _ = (bitI b 0 + (x * wgt b k + linL b (k + 1) xs)) % 2
    rcases hx x List.mem_cons_self with rfl | rfl
    · rw [ih]; omega
    · have kk := h (List.replicate k 0 ++ 5 :: xs.map fun y => 3 * y) (by simp; omega) fun y hy => by
        rw [mem_evens]
        rcases List.mem_append.mp hy with z | z
        · exact .inl (List.eq_of_mem_replicate z)
        · rcases List.mem_cons.mp z with z | z
          · omega
          · obtain ⟨v, hv, rfl⟩ := List.mem_map.mp z
            rcases hx.tail v hv with e | e <;> omega
      have c0 : col (List.replicate k 0 ++ 5 :: xs.map fun y => 3 * y) 0 = List.replicate k 0 ++ 1 :: xs := by
        unfold col
        rw [List.map_append, map_rep, List.map_cons, List.map_map]
        show List.replicate k 0 ++ 1 :: _ = _
        congr 2
        refine (List.map_congr_left fun v hv => ?_).trans (List.map_id _)
        rcases hx.tail v hv with e | e <;> rw [e] <;> rfl
      have c1 : col (List.replicate k 0 ++ 5 :: xs.map fun y => 3 * y) 1 = List.replicate k 0 ++ 0 :: xs := by
        unfold col
        rw [List.map_append, map_rep, List.map_cons, List.map_map]
        show List.replicate k 0 ++ 0 :: _ = _
        congr 2
        refine (List.map_congr_left fun v hv => ?_).trans (List.map_id _)
        rcases hx.tail v hv with e | e <;> rw [e] <;> rfl
      have z2 : ∀ j : Nat, (j = 2 ∨ j = 3) → (xs.map fun y => 3 * y).map (fun t => bitI t (j : Nat)) = List.replicate xs.length 0 := fun j hj => by
        rw [List.map_map]
        refine List.eq_replicate_iff.mpr ⟨by rw [List.length_map], fun v hv => ?_⟩
        obtain ⟨u, hu, rfl⟩ := List.mem_map.mp hv
        rcases hj with rfl | rfl <;> rcases hx.tail u hu with e | e <;> rw [e] <;> rfl
      have c2 : col (List.replicate k 0 ++ 5 :: xs.map fun y => 3 * y) 2 = List.replicate k 0 ++ 1 :: List.replicate xs.length 0 := by
        unfold col
        rw [List.map_append, map_rep, List.map_cons, z2 2 (.inl rfl)]
        rfl
      have c3 : col (List.replicate k 0 ++ 5 :: xs.map fun y => 3 * y) 3 = List.replicate k 0 ++ 0 :: List.replicate xs.length 0 := by
        unfold col
        rw [List.map_append, map_rep, List.map_cons, z2 3 (.inr rfl)]
        rfl
      have g0 : ∀ (k : Nat) (ys : List Int), gnum (List.replicate k 0 ++ ys) = 2 ^ k * gnum ys := fun k ys => by
        induction k with
        | zero => rw [List.replicate_zero, List.nil_append]; omega
        | succ k ih => rw [List.replicate_succ, List.cons_append, gnum_cons, ih, Int.pow_succ, Int.mul_comm (2 ^ k) 2, Int.mul_assoc]; omega
      have v2 : gnum (List.replicate k 0 ++ 1 :: List.replicate xs.length 0) = 2 ^ k := by
        rw [g0, gnum_cons, gnum_rep0]; omega
      have v3 : gnum (List.replicate k 0 ++ 0 :: List.replicate xs.length 0) = 0 := by
        rw [g0, gnum_cons, gnum_rep0]; omega
      rw [putR_4, c0, c1, c2, c3, v2, v3, evens_sum (bitI_01 _ _) (bitI_01 _ _) (bitI_01 _ _) (bitI_01 _ _)] at kk
      unfold wgt
      omega
theorem kp_even {b : Int} {m : Nat} : Kp b 4 evens m ↔ ∀ r : Nat, r < 2 ^ m → totE b r m % 2 = bitI b (r : Nat) := by
  constructor
  · intro h r hr
    have k := even_up h (bitsOf m r) 0 All01.bitsOf (by rw [bitsOf_length]; omega)
    rw [List.replicate_zero, List.nil_append, gnum_bitsOf_lt hr, ← totE_lin] at k
    have := bitI_01 b (r : Nat)
    omega
  · intro h c h1 h2
    rw [putR_4, evens_sum (bitI_01 _ _) (bitI_01 _ _) (bitI_01 _ _) (bitI_01 _ _)]
    have e : ∀ j, bitI b (gnum (col c j)) = (bitI b 0 + linL b 0 (col c j)) % 2 := fun j => by
      obtain ⟨r, hr, er, eb⟩ := row_of (col_01 c j)
      have hl : (col c j).length = m := by rw [List.length_map, h1]
      rw [hl] at hr eb
      rw [er, ← h r hr, totE_lin, eb]
    rw [e 0, e 1, e 2, e 3]
    have := lin_even b c 0 h2
    omega
end Gk
namespace Gk
open PySem L2 L3 Prog
theorem Below.len {xs ys : List Int} (h : Below xs ys) : xs.length = ys.length := by
  induction h with
  | nil => rfl
  | cons _ _ ih => rw [List.length_cons, List.length_cons, ih]
end Gk
namespace Gk
open PySem L2 L3 Prog
structure Fam (gs : List (Nat × Int)) (F : Int → Prop) : Prop where
  clo : ∀ g ∈ gs, ∀ ts : List Int, ts.length = g.1 → (∀ t ∈ ts, F t) → F (putR g.2 ts 4)
  x : F 10
  y : F 12
section
variable {gs : List (Nat × Int)} {F : Int → Prop}
theorem bit0 {r : Nat} : bitI 0 (r : Nat) = 0 := by unfold bitI; rw [Int.zero_ediv]; rfl
theorem bit15 {r : Nat} (h : r < 4) : bitI 15 (r : Nat) = 1 := by
  have : ∀ r < 4, bitI 15 ((r : Nat) : Int) = 1 := by decide
  exact this r h
noncomputable def cst (v : Int) : Int := if v = 1 then 15 else 0
theorem cst_bit {v : Int} {r : Nat} (h : v = 0 ∨ v = 1) (hr : r < 4) : bitI (cst v) (r : Nat) = v := by
  unfold cst
  rcases h with rfl | rfl
  · rw [if_neg (by decide), bit0]
  · rw [if_pos rfl, bit15 hr]
theorem cst_in (h0 : F 0) (h1 : F 15) (v : Int) : F (cst v) := by
  unfold cst
  split
  · exact h1
  · exact h0
theorem cst_map {xs : List Int} {r : Nat} (h : All01 xs) (hr : r < 4) : (xs.map cst).map (fun t => bitI t (r : Nat)) = xs := by
  rw [List.map_map]
  exact (List.map_congr_left fun v hv => cst_bit (h v hv) hr).trans (List.map_id _)
noncomputable def dif2 (b : Int) (pre mid suf : List Int) : Int := bitI b (gnum (pre ++ 0 :: (mid ++ 0 :: suf))) + bitI b (gnum (pre ++ 1 :: (mid ++ 0 :: suf))) + bitI b (gnum (pre ++ 0 :: (mid ++ 1 :: suf))) + bitI b (gnum (pre ++ 1 :: (mid ++ 1 :: suf)))
theorem rep_snoc (k : Nat) (ys : List Int) : List.replicate (k + 1) (0 : Int) ++ ys = List.replicate k 0 ++ 0 :: ys := by
  rw [List.replicate_succ', List.append_assoc]; rfl
theorem all0 (k : Nat) : All01 (List.replicate k 0) := fun x hx => .inl (List.eq_of_mem_replicate hx)
theorem dif_zero {b : Int} {m : Nat} (h : ∀ pre mid suf : List Int, All01 pre → All01 mid → All01 suf → pre.length + mid.length + suf.length + 2 = m → dif2 b pre mid suf % 2 = 0) (k : Nat) : ∀ (ys : List Int) (j : Nat), All01 ys → k + 1 + j + ys.length = m →
    (bitI b (gnum (List.replicate k 0 ++ 1 :: (List.replicate j 0 ++ ys))) + bitI b (gnum (List.replicate k 0 ++ 0 :: (List.replicate j 0 ++ ys)))) % 2 = (bitI b (gnum (List.replicate k 0 ++ 1 :: List.replicate (j + ys.length) 0)) + bitI b (gnum (List.replicate k 0 ++ 0 :: List.replicate (j + ys.length) 0))) % 2
  | [], j, _, _ => by rw [List.append_nil]; rfl
  | y :: ys, j, hy, hl => by
    rw [List.length_cons] at hl
    have ih := dif_zero h k ys (j + 1) hy.tail (by omega)
    rw [rep_snoc, show j + 1 + ys.length = j + (y :: ys).length by rw [List.length_cons]; omega] at ih
    rcases hy y List.mem_cons_self with rfl | rfl
    · exact ih
    · have d := h (List.replicate k 0) (List.replicate j 0) ys (all0 k) (all0 j) hy.tail (by rw [List.length_replicate, List.length_replicate]; omega)
      unfold dif2 at d
      rw [← ih]
      omega
theorem even_of_dif {b : Int} {m : Nat} (h : ∀ pre mid suf : List Int, All01 pre → All01 mid → All01 suf → pre.length + mid.length + suf.length + 2 = m → dif2 b pre mid suf % 2 = 0) : Kp b 4 evens m := by
  have up : ∀ (xs : List Int) (k : Nat), All01 xs → k + xs.length = m → bitI b (gnum (List.replicate k 0 ++ xs)) % 2 = (bitI b 0 + linL b k xs) % 2 := by
    intro xs
    induction xs with
    | nil =>
      intro k _ _
      rw [List.append_nil, gnum_rep0]
      show _ = (bitI b 0 + 0) % 2
      omega
    | cons x xs ih =>
      intro k hx hl
      rw [List.length_cons] at hl
      have ih := ih (k + 1) hx.tail (by omega)
      rw [rep_snoc] at ih
      show _ = (bitI b 0 + (x * wgt b k + linL b (k + 1) xs)) % 2
      rcases hx x List.mem_cons_self with rfl | rfl
      · rw [ih]; omega
      · have d := dif_zero h k xs 0 hx.tail (by omega)
        rw [List.replicate_zero, List.nil_append, Nat.zero_add] at d
        have g0 : ∀ (k : Nat) (ys : List Int), gnum (List.replicate k 0 ++ ys) = 2 ^ k * gnum ys := fun k ys => by
          induction k with
          | zero => rw [List.replicate_zero, List.nil_append]; omega
          | succ k ih => rw [List.replicate_succ, List.cons_append, gnum_cons, ih, Int.pow_succ, Int.mul_comm (2 ^ k) 2, Int.mul_assoc]; omega
        rw [show gnum (List.replicate k 0 ++ 1 :: List.replicate xs.length 0) = 2 ^ k by rw [g0, gnum_cons, gnum_rep0]; omega, show gnum (List.replicate k 0 ++ 0 :: List.replicate xs.length 0) = 0 by rw [g0, gnum_cons, gnum_rep0]; omega] at d
        unfold wgt
        omega
  rw [kp_even]
  intro r hr
  have k := up (bitsOf m r) 0 All01.bitsOf (by rw [bitsOf_length]; omega)
  rw [List.replicate_zero, List.nil_append, gnum_bitsOf_lt hr, ← totE_lin] at k
  have := bitI_01 b (r : Nat)
  omega
theorem Fam.odd (h : Fam gs F) (h0 : F 0) (h1 : F 15) {g : Nat × Int} (hg : g ∈ gs) (hk : ¬ Kp g.2 4 evens g.1) : ∃ H : Int → Int → Int, (∀ a b, H a b = 0 ∨ H a b = 1) ∧ (H 0 0 + H 1 0 + H 0 1 + H 1 1) % 2 = 1 ∧ ∀ p q, F p → F q → F (tab 4 fun r => H (bitI p (r : Nat)) (bitI q (r : Nat))) := by
  have hk := fun z => hk (even_of_dif z)
  have ⟨pre, hk⟩ := Classical.not_forall.mp hk
  have ⟨mid, hk⟩ := Classical.not_forall.mp hk
  have ⟨suf, hk⟩ := Classical.not_forall.mp hk
  have ⟨a1, hk⟩ := Classical.not_forall.mp hk
  have ⟨a2, hk⟩ := Classical.not_forall.mp hk
  have ⟨a3, hk⟩ := Classical.not_forall.mp hk
  have ⟨hl, hk⟩ := Classical.not_forall.mp hk
  refine ⟨fun a b => bitI g.2 (gnum (pre ++ a :: (mid ++ b :: suf))), fun _ _ => bitI_01 _ _, ?_, fun p q hp hq => ?_⟩
  · unfold dif2 at hk
    show (bitI g.2 (gnum (pre ++ 0 :: (mid ++ 0 :: suf))) + bitI g.2 (gnum (pre ++ 1 :: (mid ++ 0 :: suf))) + bitI g.2 (gnum (pre ++ 0 :: (mid ++ 1 :: suf))) + bitI g.2 (gnum (pre ++ 1 :: (mid ++ 1 :: suf)))) % 2 = 1
    omega
  · have k := h.clo g hg (pre.map cst ++ p :: (mid.map cst ++ q :: suf.map cst)) (by simp; omega) fun t ht => by
      simp only [List.mem_append, List.mem_cons, List.mem_map] at ht
      rcases ht with ⟨v, _, rfl⟩ | rfl | ⟨v, _, rfl⟩ | rfl | ⟨v, _, rfl⟩
      · exact cst_in h0 h1 v
      · exact hp
      · exact cst_in h0 h1 v
      · exact hq
      · exact cst_in h0 h1 v
    have e : putR g.2 (pre.map cst ++ p :: (mid.map cst ++ q :: suf.map cst)) 4 = tab 4 fun r => bitI g.2 (gnum (pre ++ bitI p (r : Nat) :: (mid ++ bitI q (r : Nat) :: suf))) := by
      unfold putR
      refine tab_congr fun r hr => ?_
      rw [List.map_append, List.map_cons, List.map_append, List.map_cons, cst_map a1 hr, cst_map a2 hr, cst_map a3 hr]
    rwa [e] at k
end
end Gk
namespace Prog
open PySem L2 L3 Gk
inductive K5 : Str → Nat → List Int → Prop
  | low : K5 "low" 1 [0]
  | high : K5 "high" 1 [1]
  | turn : K5 "turn" 2 [1, 2]
  | rise : K5 "rise" 2 [0, 2, 3]
  | even : K5 "even" 4 evens
theorem K5.small {nm : Str} {w : Nat} {rs : List Int} (N : K5 nm w rs) : rs.length ≤ 8 ∧ w ≤ 100 := by cases N <;> decide
end Prog
namespace Law
open PySem PySem.Spec PyProof.Rows L2 L3 Prog
noncomputable def m_law_cell_at : List PyData → Res PyData := fnR 2 (sSeq (sIf (eBin ltD (eVar 1) (eFn lenD [(eVar 0)])) (sRet (eBin ixD (eVar 0) (eVar 1))) sNil)
    (sSeq (sIf (eBin eqD (eFn lenD [(eVar 0)]) (eC (.int 0))) (sRet (eBin addD (eBin mulD (eBin mulD (eVar 1) (eVar 1)) (eC (.int 48271))) (eBin mulD (eC (.int 7)) (eVar 1)))) sNil)
    (sRet (eBin addD (eBin fdivD (eBin ixD (eVar 0) (eBin modD (eVar 1) (eFn lenD [(eVar 0)]))) (eBin addD (eC (.int 1)) (eBin fdivD (eVar 1) (eFn lenD [(eVar 0)])))) (eBin mulD (eBin mulD (eVar 1) (eVar 1)) (eC (.int 7919)))))))
noncomputable def m_law_gate : List PyData → Res PyData := fnR 3 (sSeq (sSet 1 (eBin ixD (eLst [(eC (.int 2)), (eC (.int 2)), (eC (.int 1)), (eC (.int 3)), (eC (.int 2)), (eC (.int 2)), (eC (.int 3)), (eC (.int 1)), (eC (.int 0)), (eC (.int 4))]) (eBin modD (eVar 0) (eC (.int 10)))))
    (sSeq (sSet 0 (eBin fdivD (eVar 0) (eC (.int 10))))
    (sSeq (sSet 2 (eLst [(eC (.int 8)), (eC (.int 14)), (eC (.int 6)), (eC (.int 7)), (eC (.int 9)), (eC (.int 1)), (eC (.int 11)), (eC (.int 2))]))
    (sSeq (sIf (eAnd (eBin eqD (eVar 1) (eC (.int 2))) (eBin eqD (eBin modD (eVar 0) (eC (.int 3))) (eC (.int 0)))) (sRet (eTup [(eC (.int 2)), (eBin ixD (eVar 2) (eBin modD (eBin fdivD (eVar 0) (eC (.int 3))) (eC (.int 8))))])) sNil)
    (sRet (eTup [(eVar 1), (eBin modD (eBin addD (eBin mulD (eBin fdivD (eVar 0) (eC (.int 3))) (eC (.int 40503))) (eVar 0)) (eBin ixD (eLst [(eC (.int 2)), (eC (.int 4)), (eC (.int 16)), (eC (.int 256)), (eC (.int 65536))]) (eVar 1)))]))))))
noncomputable def m_law_keeps : List PyData → Res PyData := fnR 7 (sSeq (sSet 2 (eBin shlD (eC (.int 1)) (eBin ixD (eVar 0) (eC (.int 0)))))
    (sSeq (sSet 3 (eComp (itR1 (eVar 2)) (gN 0) (eC (.bool true)) (eBin andD (eBin shrD (eBin ixD (eVar 1) (eC (.int 1))) (eVar 0)) (eC (.int 1))) 1 [0]))
    (sSeq (sIf (eBin eqD (eVar 1) (eC (.str "low"))) (sRet (eBin eqD (eBin ixD (eVar 3) (eC (.int 0))) (eC (.int 0)))) sNil)
    (sSeq (sIf (eBin eqD (eVar 1) (eC (.str "high"))) (sRet (eBin eqD (eBin ixD (eVar 3) (eBin subD (eVar 2) (eC (.int 1)))) (eC (.int 1)))) sNil)
    (sSeq (sIf (eBin eqD (eVar 1) (eC (.str "turn"))) (sRet (eBin eqD (eComp (itR1 (eVar 2)) (gN 0) (eBin eqD (eBin ixD (eVar 1) (eVar 0)) (eBin ixD (eVar 1) (eBin subD (eBin subD (eVar 2) (eC (.int 1))) (eVar 0)))) (eVar 0) 1 [3, 2]) (eLst []))) sNil)
    (sSeq (sFor (itR1 (eVar 2)) (gN 4) [4, 5, 6] (sSeq (sSet 5 (eBin ixD (eVar 3) (eC (.int 0))))
    (sSeq (sFor (itR1 (eBin ixD (eVar 0) (eC (.int 0)))) (gN 6) [6] (sSeq (sIf (eAnd (eBin eqD (eVar 1) (eC (.str "rise"))) (eBin gtD (eBin ixD (eVar 3) (eVar 4)) (eBin ixD (eVar 3) (eBin orD (eVar 4) (eBin shlD (eC (.int 1)) (eVar 6)))))) (sRet (eC (.bool false))) sNil)
    (sSet 5 (eBin addD (eVar 5) (eBin mulD (eBin andD (eBin shrD (eVar 4) (eVar 6)) (eC (.int 1))) (eBin addD (eBin ixD (eVar 3) (eBin shlD (eC (.int 1)) (eVar 6))) (eBin ixD (eVar 3) (eC (.int 0)))))))))
    (sIf (eAnd (eBin eqD (eVar 1) (eC (.str "even"))) (eBin neD (eBin modD (eVar 5) (eC (.int 2))) (eBin ixD (eVar 3) (eVar 4)))) (sRet (eC (.bool false))) sNil))))
    (sRet (eC (.bool true)))))))))
noncomputable def m_law_set : List PyData → Res PyData := fnR 8 (sSeq (sSet 2 (eCall m_law_cell_at [(eVar 0), (eVar 1)]))
    (sSeq (sSet 3 (eBin ixD (eLst [(eC (.str "low")), (eC (.str "high")), (eC (.str "turn")), (eC (.str "rise")), (eC (.str "even"))]) (eBin modD (eBin fdivD (eVar 2) (eC (.int 4))) (eC (.int 5)))))
    (sSeq (sSet 4 (eLst [(eLst [(eTup [(eC (.int 2)), (eC (.int 7))])]), (eLst [(eTup [(eC (.int 2)), (eC (.int 1))])]), (eLst [(eTup [(eC (.int 2)), (eC (.int 8))]), (eTup [(eC (.int 1)), (eC (.int 1))])]), (eLst [(eTup [(eC (.int 2)), (eC (.int 14))]), (eTup [(eC (.int 1)), (eC (.int 1))])]), (eLst [(eTup [(eC (.int 2)), (eC (.int 8))]), (eTup [(eC (.int 2)), (eC (.int 6))]), (eTup [(eC (.int 0)), (eC (.int 1))])]), (eLst [(eTup [(eC (.int 2)), (eC (.int 13))]), (eTup [(eC (.int 0)), (eC (.int 0))])])]))
    (sSeq (sSet 4 (eBin addD (eVar 4) (eLst [(eLst [(eTup [(eC (.int 3)), (eC (.int 23))]), (eTup [(eC (.int 2)), (eC (.int 7))])]), (eLst [(eTup [(eC (.int 2)), (eC (.int 2))]), (eTup [(eC (.int 0)), (eC (.int 1))])]), (eLst [(eTup [(eC (.int 3)), (eC (.int 202))]), (eTup [(eC (.int 0)), (eC (.int 0))]), (eTup [(eC (.int 0)), (eC (.int 1))])]), (eLst [(eTup [(eC (.int 2)), (eC (.int 11))]), (eTup [(eC (.int 1)), (eC (.int 1))])]), (eLst [(eTup [(eC (.int 4)), (eC (.int 32767))])])])))
    (sSeq (sIf (eBin eqD (eBin modD (eVar 2) (eC (.int 4))) (eC (.int 0))) (sRet (eFn listD [(eBin ixD (eVar 4) (eBin modD (eBin fdivD (eVar 2) (eC (.int 4))) (eC (.int 11))))])) sNil)
    (sSeq (sSet 5 (eLst []))
    (sSeq (sFor (itR1 (eBin modD (eBin fdivD (eVar 2) (eC (.int 20))) (eC (.int 7)))) (gN 6) [6, 7] (sSeq (sSet 7 (eCall m_law_gate [(eCall m_law_cell_at [(eVar 0), (eBin addD (eBin addD (eVar 1) (eC (.int 1))) (eVar 6))])]))
    (sSeq (sIf (eAnd (eBin ltD (eBin modD (eVar 2) (eC (.int 4))) (eC (.int 3))) (eNot (eUn truD (eCall m_law_keeps [(eVar 7), (eVar 3)])))) (sSet 7 (eBin ixY (eDct [("low", (eTup [(eC (.int 2)), (eC (.int 8))])), ("high", (eTup [(eC (.int 2)), (eC (.int 14))])), ("turn", (eTup [(eC (.int 1)), (eC (.int 1))])), ("rise", (eTup [(eC (.int 2)), (eC (.int 8))])), ("even", (eTup [(eC (.int 2)), (eC (.int 6))]))]) (eVar 3))) sNil)
    (sApp 5 (eVar 7)))))
    (sRet (eVar 5)))))))))
noncomputable def m_law_breaks : List PyData → Res PyData := fnR 6 (sSeq (sSet 3 (eC (.int 0)))
    (sSeq (sFor (itR1 (eBin ixD (eVar 2) (eC (.int 0)))) (gN 4) [4, 5] (sSeq (sSet 5 (eFn sumD [(eComp (itE (eVar 1)) (gT [(gN 0), (gN 1)]) (eC (.bool true)) (eBin shlD (eBin andD (eBin shrD (eVar 1) (eVar 2)) (eC (.int 1))) (eVar 0)) 2 [4])]))
    (sSet 3 (eBin orD (eVar 3) (eBin shlD (eBin andD (eBin shrD (eBin ixD (eVar 0) (eC (.int 1))) (eVar 5)) (eC (.int 1))) (eVar 4))))))
    (sRet (eBin notInY (eVar 3) (eBin ixD (eVar 2) (eC (.int 1)))))))
noncomputable def m_law_ahead : List PyData → Res PyData := fnR 6 (sSeq (sSet 2 (eLst [(eLst [])]))
    (sSeq (sFor (itR1 (eFn lenD [(eVar 0)])) (gN 3) [3, 4, 5] (sSeq (sSet 4 (eLst []))
    (sSeq (sFor (itL (eVar 2)) (gN 5) [5] (sExt 4 (eComp (itL (eBin ixD (eVar 1) (eC (.int 1)))) (gN 0) (eC (.bool true)) (eBin addD (eVar 1) (eLst [(eVar 0)])) 1 [5])))
    (sSet 2 (eVar 4)))))
    (sRet (eSlL (eVar 2) oNone (oSome (eBin indexL (eVar 2) (eVar 0)))))))
noncomputable def m_law_right : List PyData → Res PyData := fnR 6 (sSeq (sSet 3 (eComp (itR1 (eFn lenD [(eVar 0)])) (gN 0) (eNot (eUn truD (eCall m_law_keeps [(eBin ixD (eVar 1) (eVar 0)), (eVar 2)]))) (eVar 0) 1 [0, 1]))
    (sSeq (sIf (eBin eqD (eVar 3) (eLst [])) (sRet (eBin isND (eVar 2) (eC .none))) sNil)
    (sSeq (sIf (eOr (eNot (eIsi "tuple" (eVar 2))) (eOr (eBin neD (eFn lenD [(eVar 2)]) (eC (.int 2))) (eOr (eIsi "bool" (eBin ixD (eVar 2) (eC (.int 0)))) (eBin neD (eBin ixD (eVar 2) (eC (.int 0))) (eBin ixD (eVar 3) (eC (.int 0))))))) (sRet (eC (.bool false))) sNil)
    (sSeq (sSet 4 (eBin ixD (eVar 0) (eBin ixD (eVar 3) (eC (.int 0)))))
    (sSeq (sSet 5 (eCall m_kind [(eVar 1)]))
    (sSeq (sIf (eOr (eNot (eIsi "list" (eBin ixD (eVar 2) (eC (.int 1))))) (eBin neD (eFn lenD [(eBin ixD (eVar 2) (eC (.int 1)))]) (eBin ixD (eVar 4) (eC (.int 0))))) (sRet (eC (.bool false))) sNil)
    (sSeq (sIf (eBin neD (eComp (itL (eBin ixD (eVar 2) (eC (.int 1)))) (gN 0) (eOr (eIsi "bool" (eVar 0)) (eBin notInY (eVar 0) (eBin ixD (eVar 1) (eC (.int 1))))) (eVar 0) 1 [5]) (eLst [])) (sRet (eC (.bool false))) sNil)
    (sSeq (sIf (eNot (eUn truD (eCall m_law_breaks [(eVar 4), (eBin ixD (eVar 2) (eC (.int 1))), (eVar 5)]))) (sRet (eC (.bool false))) sNil)
    (sRet (eBin eqD (eComp (itL (eCall m_law_ahead [(eBin ixD (eVar 2) (eC (.int 1))), (eVar 5)])) (gN 0) (eUn truD (eCall m_law_breaks [(eVar 1), (eVar 0), (eVar 2)])) (eVar 0) 1 [4, 5]) (eLst [])))))))))))
noncomputable def m_law : List PyData → Res Bool := fnL 7 (lSeq (sSet 1 (eCall m_law_set [(eVar 0), (eC (.int 0))]))
    (lSeq (sSet 2 (eFn listD [(eVar 1)]))
    (lSeq (sSet 3 (eCall m_kinds [(eVar 2)]))
    (lSeq (sIf (eOr (eNot (eIsi "list" (eVar 3))) (eOr (eBin neD (eFn lenD [(eVar 3)]) (eC (.int 5))) (eBin neD (eVar 2) (eVar 1)))) (sRet (eC (.bool false))) sNil)
    (lSeq (sFor (itR1 (eC (.int 5))) (gN 4) [4] (sIf (eNot (eUn truD (eCall m_law_right [(eVar 1), (eBin ixD (eC con_KINDS) (eVar 4)), (eBin ixD (eVar 3) (eVar 4))]))) (sRet (eC (.bool false))) sNil))
    (lSeq (sSet 5 (eFn reprF [(eVar 3)]))
    (lTail 1 3 5 (sRet (eBin eqS (eFn reprF [(eCall m_kinds [(eVar 1)])]) (eVar 5))))))))))
end Law
namespace Law
open PySem L2 L3 Prog Gk
theorem l_cell (ns : List Int) (hns : ns.length ≤ 63) {k : Nat} (hk : k ≤ 10000) : ∃ c : Int, m_law_cell_at [dL ns, .int (k : Nat)] = .ok (.int c) := by
  unfold m_law_cell_at
  walk_at "ev"
  rw [bS_dec]
  by_cases h : k < ns.length
  · rw [if_pos (decide_eq_true (by omega)), getD_ix h]
    walk_at "ev"
    exact ⟨_, rfl⟩
  · rw [if_neg (by rw [decide_eq_true_eq]; omega)]
    walk_at "ev"
    rw [bS_dec]
    have hk2 : ((k : Nat) : Int) * (k : Nat) ≤ 10000 * 10000 := Int.mul_le_mul (by omega) (by omega) (by omega) (by omega)
    have hk0 : 0 ≤ ((k : Nat) : Int) * (k : Nat) := Int.mul_nonneg (by omega) (by omega)
    by_cases h0 : ns.length = 0
    · rw [if_pos (decide_eq_true (by omega))]
      walk_at "go"
      exact ⟨_, rfl⟩
    · rw [if_neg (by rw [decide_eq_true_eq]; omega)]
      have hp : (0 : Int) < ns.length := by omega
      obtain ⟨q, eq, hq⟩ := modN ((k : Nat) : Int) hp
      have hd : ((k : Nat) : Int) / ns.length ≤ 10000 := Int.le_trans (Int.ediv_le_self _ (by omega)) (by omega)
      have hd0 : 0 ≤ ((k : Nat) : Int) / ns.length := Int.ediv_nonneg (by omega) (by omega)
      walk_at "ev"
      rw [gd_pos hp]
      walk_at "ev"
      rw [eq, getD_ix (by omega)]
      walk_at "ev"
      rw [gd_pos (show CDiv ((k : Nat) : Int) ns.length from ⟨hp, by omega⟩)]
      walk_at "ev"
      rw [gd_pos (show CDiv (ns.getD q 0) (1 + ((k : Nat) : Int) / ns.length) from ⟨by omega, by omega⟩)]
      walk_at "go"
      exact ⟨_, rfl⟩
theorem ten {v : Int} (h : 0 ≤ v ∧ v < 10) : ∃ n : Nat, n ≤ 4 ∧ ixD (.list [.int 2, .int 2, .int 1, .int 3, .int 2, .int 2, .int 3, .int 1, .int 0, .int 4]) (.int v) = .ok (.int (n : Nat)) := by
  have : v = 0 ∨ v = 1 ∨ v = 2 ∨ v = 3 ∨ v = 4 ∨ v = 5 ∨ v = 6 ∨ v = 7 ∨ v = 8 ∨ v = 9 := by omega
  rcases this with rfl | rfl | rfl | rfl | rfl | rfl | rfl | rfl | rfl | rfl
  · exact ⟨2, by decide, rfl⟩
  · exact ⟨2, by decide, rfl⟩
  · exact ⟨1, by decide, rfl⟩
  · exact ⟨3, by decide, rfl⟩
  · exact ⟨2, by decide, rfl⟩
  · exact ⟨2, by decide, rfl⟩
  · exact ⟨3, by decide, rfl⟩
  · exact ⟨1, by decide, rfl⟩
  · exact ⟨0, by decide, rfl⟩
  · exact ⟨4, by decide, rfl⟩
theorem eight {v : Int} (h : 0 ≤ v ∧ v < 8) : ∃ x : Int, 0 ≤ x ∧ x < 16 ∧ ixD (.list [.int 8, .int 14, .int 6, .int 7, .int 9, .int 1, .int 11, .int 2]) (.int v) = .ok (.int x) := by
  have : v = 0 ∨ v = 1 ∨ v = 2 ∨ v = 3 ∨ v = 4 ∨ v = 5 ∨ v = 6 ∨ v = 7 := by omega
  rcases this with rfl | rfl | rfl | rfl | rfl | rfl | rfl | rfl <;> exact ⟨_, by decide, by decide, rfl⟩
theorem and_res {a b : Bool} : (if a = true then Res.ok (PyData.bool b) else .ok (.bool false)) = .ok (.bool (a && b)) := by cases a <;> rfl
theorem l_gate (c : Int) : ∃ (m : Nat) (b : Int), m ≤ 4 ∧ 0 ≤ b ∧ b < 2 ^ 2 ^ m ∧ m_law_gate [.int c] = .ok (dG m b) := by
  unfold m_law_gate
  walk_at "go"
  obtain ⟨m, hm, em⟩ := ten (v := c % 10) ⟨Int.emod_nonneg _ (by decide), Int.emod_lt_of_pos _ (by decide)⟩
  rw [em]
  walk_at "go"
  rw [bT_dec, and_res]
  have h2 := two_pos (2 ^ m)
  generalize (decide (((m : Nat) : Int) = 2) && decide (c / 10 % 3 = 0)) = t
  cases t with
  | true =>
    obtain ⟨x, x0, x1, ex⟩ := eight (v := c / 10 / 3 % 8) ⟨Int.emod_nonneg _ (by decide), Int.emod_lt_of_pos _ (by decide)⟩
    rw [ex]
    walk_at "go"
    exact ⟨2, x, by decide, x0, x1, rfl⟩
  | false =>
    walk_at "go"
    rw [beyond hm]
    walk_at "go"
    exact ⟨m, _, hm, Int.emod_nonneg _ (by omega), Int.emod_lt_of_pos _ h2, rfl⟩
theorem qS {x y : Str} {t : Bool} (h1 : SeqAt.shaped (.str x) = true) (h2 : SeqAt.shaped (.str y) = true) (h3 : PyData.eqv (.str x) (.str y) = t) : eqD (.str x) (.str y) = .ok (.bool t) := by
  unfold eqD
  rw [gd_pos ⟨h1, h2⟩, h3]
theorem q_low_low : eqD (.str "low") (.str "low") = .ok (.bool true) := qS (by decide +kernel) (by decide +kernel) (by decide +kernel)
theorem q_low_high : eqD (.str "low") (.str "high") = .ok (.bool false) := qS (by decide +kernel) (by decide +kernel) (by decide +kernel)
theorem q_low_turn : eqD (.str "low") (.str "turn") = .ok (.bool false) := qS (by decide +kernel) (by decide +kernel) (by decide +kernel)
theorem q_low_rise : eqD (.str "low") (.str "rise") = .ok (.bool false) := qS (by decide +kernel) (by decide +kernel) (by decide +kernel)
theorem q_low_even : eqD (.str "low") (.str "even") = .ok (.bool false) := qS (by decide +kernel) (by decide +kernel) (by decide +kernel)
theorem q_high_low : eqD (.str "high") (.str "low") = .ok (.bool false) := qS (by decide +kernel) (by decide +kernel) (by decide +kernel)
theorem q_high_high : eqD (.str "high") (.str "high") = .ok (.bool true) := qS (by decide +kernel) (by decide +kernel) (by decide +kernel)
theorem q_high_turn : eqD (.str "high") (.str "turn") = .ok (.bool false) := qS (by decide +kernel) (by decide +kernel) (by decide +kernel)
theorem q_high_rise : eqD (.str "high") (.str "rise") = .ok (.bool false) := qS (by decide +kernel) (by decide +kernel) (by decide +kernel)
theorem q_high_even : eqD (.str "high") (.str "even") = .ok (.bool false) := qS (by decide +kernel) (by decide +kernel) (by decide +kernel)
theorem q_turn_low : eqD (.str "turn") (.str "low") = .ok (.bool false) := qS (by decide +kernel) (by decide +kernel) (by decide +kernel)
theorem q_turn_high : eqD (.str "turn") (.str "high") = .ok (.bool false) := qS (by decide +kernel) (by decide +kernel) (by decide +kernel)
theorem q_turn_turn : eqD (.str "turn") (.str "turn") = .ok (.bool true) := qS (by decide +kernel) (by decide +kernel) (by decide +kernel)
theorem q_turn_rise : eqD (.str "turn") (.str "rise") = .ok (.bool false) := qS (by decide +kernel) (by decide +kernel) (by decide +kernel)
theorem q_turn_even : eqD (.str "turn") (.str "even") = .ok (.bool false) := qS (by decide +kernel) (by decide +kernel) (by decide +kernel)
theorem q_rise_low : eqD (.str "rise") (.str "low") = .ok (.bool false) := qS (by decide +kernel) (by decide +kernel) (by decide +kernel)
theorem q_rise_high : eqD (.str "rise") (.str "high") = .ok (.bool false) := qS (by decide +kernel) (by decide +kernel) (by decide +kernel)
theorem q_rise_turn : eqD (.str "rise") (.str "turn") = .ok (.bool false) := qS (by decide +kernel) (by decide +kernel) (by decide +kernel)
theorem q_rise_rise : eqD (.str "rise") (.str "rise") = .ok (.bool true) := qS (by decide +kernel) (by decide +kernel) (by decide +kernel)
theorem q_rise_even : eqD (.str "rise") (.str "even") = .ok (.bool false) := qS (by decide +kernel) (by decide +kernel) (by decide +kernel)
theorem q_even_low : eqD (.str "even") (.str "low") = .ok (.bool false) := qS (by decide +kernel) (by decide +kernel) (by decide +kernel)
theorem q_even_high : eqD (.str "even") (.str "high") = .ok (.bool false) := qS (by decide +kernel) (by decide +kernel) (by decide +kernel)
theorem q_even_turn : eqD (.str "even") (.str "turn") = .ok (.bool false) := qS (by decide +kernel) (by decide +kernel) (by decide +kernel)
theorem q_even_rise : eqD (.str "even") (.str "rise") = .ok (.bool false) := qS (by decide +kernel) (by decide +kernel) (by decide +kernel)
theorem q_even_even : eqD (.str "even") (.str "even") = .ok (.bool true) := qS (by decide +kernel) (by decide +kernel) (by decide +kernel)
local macro_rules | `(tactic| walk_at "eq") => `(tactic| simp only [q_low_low, q_low_high, q_low_turn, q_low_rise, q_low_even, q_high_low, q_high_high, q_high_turn, q_high_rise, q_high_even, q_turn_low, q_turn_high, q_turn_turn, q_turn_rise, q_turn_even, q_rise_low, q_rise_high, q_rise_turn, q_rise_rise, q_rise_even, q_even_low, q_even_high, q_even_turn, q_even_rise, q_even_even])
noncomputable def vals (m : Nat) (b : Int) : List Int := (List.range (2 ^ m)).map fun r => bitI b ((r : Nat) : Int)
theorem ixV {m : Nat} {b : Int} {r : Nat} (hr : r < 2 ^ m) : ixD (dL (vals m b)) (.int (r : Nat)) = .ok (.int (bitI b (r : Nat))) := by
  rw [getD_ix (by unfold vals; simpa using hr)]
  unfold vals
  simp [List.getD_eq_getElem?_getD, List.getElem?_range hr]
theorem p2 (m : Nat) : (2 : Int) ^ ((m : Nat) : Int).toNat = ((2 ^ m : Nat) : Int) := by rw [Int.toNat_natCast]; exact (Int.natCast_pow 2 m).symm
theorem pow16 {m : Nat} (hm : m ≤ 4) : 2 ^ m ≤ 16 := Nat.le_trans (Nat.pow_le_pow_right (by decide) hm) (by decide)
theorem pos2 (m : Nat) : 0 < 2 ^ m := Nat.pow_pos (by decide)
theorem vals_ok {m : Nat} {b : Int} {nm : PyData} (hm : m ≤ 4) : eComp (itR1 (eVar 2)) (gN 0) (eC (.bool true)) (eBin andD (eBin shrD (eBin ixD (eVar 1) (eC (.int 1))) (eVar 0)) (eC (.int 1))) 1 [0] [some (dG m b), some nm, some (.int ((2 ^ m : Nat) : Int)), none, none, none, none] = .ok (dL (vals m b)) := by
  have h16 := pow16 hm
  rw [eComp_upN (n := 2 ^ m) (fun r => .int (bitI b ((r : Nat) : Int))) ?_ (size_le (by omega)) fun r hr => ?_]
  · unfold vals; rw [dL_map]
  · walk_at "ev"
    rw [rng1_nat (by omega)]
  · walk_at "go"
    rw [PyProof.Rows.bitAnd_m1]
    rfl
theorem l_low {m : Nat} {b : Int} (hm : m ≤ 4) : m_law_keeps [dG m b, .str "low"] = .ok (.bool (decide (bitI b 0 = 0))) := by
  unfold m_law_keeps
  walk_at "go"
  rw [p2, Int.one_mul, vals_ok hm]
  walk_at "ev"
  walk_at "eq"
  walk_at "ev"
  rw [show ixD (dL (vals m b)) (.int 0) = .ok (.int (bitI b 0)) from ixV (r := 0) (pos2 m)]
  walk_at "ev"
theorem l_high {m : Nat} {b : Int} (hm : m ≤ 4) : m_law_keeps [dG m b, .str "high"] = .ok (.bool (decide (bitI b (2 ^ m - 1) = 1))) := by
  have h0 := pos2 m
  unfold m_law_keeps
  walk_at "go"
  rw [p2, Int.one_mul, vals_ok hm]
  walk_at "ev"
  walk_at "eq"
  walk_at "ev"
  walk_at "eq"
  walk_at "ev"
  have e : ((2 ^ m : Nat) : Int) - 1 = ((2 ^ m - 1 : Nat) : Int) := by omega
  rw [e, ixV (r := 2 ^ m - 1) (by omega), ← e, Int.natCast_pow]
  walk_at "ev"
  rfl
theorem say {a t : Bool} {P : Prop} (ht : t = true ↔ P) (h : a = true ↔ P) : Res.ok (PyData.bool a) = .ok (.bool t) := by
  have : a = t := Bool.eq_iff_iff.mpr (h.trans ht.symm)
  rw [this]
theorem l_turn {m : Nat} {b : Int} (hm : m ≤ 4) {t : Bool} (ht : t = true ↔ Kp b 2 [1, 2] m) : m_law_keeps [dG m b, .str "turn"] = .ok (.bool t) := by
  have h0 := pos2 m
  have h16 := pow16 hm
  unfold m_law_keeps
  walk_at "go"
  rw [p2, Int.one_mul, vals_ok hm]
  walk_at "ev"
  walk_at "eq"
  walk_at "ev"
  walk_at "eq"
  walk_at "ev"
  walk_at "eq"
  walk_at "ev"
  rw [eComp_filterN (n := 2 ^ m) (fun r => decide (bitI b (r : Nat) = bitI b ((2 ^ m - 1 - r : Nat) : Int))) (fun r => .int (r : Nat)) ?_ (size_le (by omega)) (fun r hr => ?_) fun r hr _ => ?_]
  · walk_at "ev"
    have e1 : PyData.list (((List.range (2 ^ m)).filter fun r => decide (bitI b (r : Nat) = bitI b ((2 ^ m - 1 - r : Nat) : Int))).map fun r => PyData.int (r : Nat)) = dL (((List.range (2 ^ m)).filter fun r => decide (bitI b (r : Nat) = bitI b ((2 ^ m - 1 - r : Nat) : Int))).map fun r => ((r : Nat) : Int)) := by unfold dL; rw [List.map_map]; rfl
    rw [e1, show PyData.list [] = dL [] from rfl, eqD_dL]
    walk_at "ev"
    refine say ht ?_
    rw [decide_eq_true_eq, List.map_eq_nil_iff, List.filter_eq_nil_iff, kp_turn]
    refine ⟨fun h r hr => ?_, fun h r hr => ?_⟩
    · have := h r (List.mem_range.mpr hr)
      rw [decide_eq_true_eq] at this
      rw [show (2 : Int) ^ m - 1 - (r : Nat) = ((2 ^ m - 1 - r : Nat) : Int) by rw [show (2 : Int) ^ m = ((2 ^ m : Nat) : Int) from (Int.natCast_pow 2 m).symm]; omega]
      exact this
    · have hr := List.mem_range.mp hr
      have := h r hr
      rw [decide_eq_true_eq]
      rw [show (2 : Int) ^ m - 1 - (r : Nat) = ((2 ^ m - 1 - r : Nat) : Int) by rw [show (2 : Int) ^ m = ((2 ^ m : Nat) : Int) from (Int.natCast_pow 2 m).symm]; omega] at this
      exact this
  · walk_at "ev"
    rw [rng1_nat (by omega)]
  · walk_at "ev"
    rw [ixV hr]
    walk_at "ev"
    rw [show ((2 ^ m : Nat) : Int) - 1 - (r : Nat) = ((2 ^ m - 1 - r : Nat) : Int) by omega, ixV (r := 2 ^ m - 1 - r) (by omega)]
    walk_at "ev"
  · walk_at "ev"
theorem forR_cut {g : MG} {cl : List Nat} {b : MS} {d : PyData} : ∀ {xs : List PyData} (S : Nat → Ev) (p : Nat → Bool), (∀ i x, xs[i]? = some x → ((g x (S i)).bind b).bind (clrO cl) = if p i = true then .ok (.rt d) else .ok (.nx (S (i + 1)))) →
    forR g cl b xs (S 0) = if (List.range xs.length).any p = true then .ok (.rt d) else .ok (.nx (S xs.length))
  | [], _, _, _ => rfl
  | x :: xs, S, p, h => by
    have h1 := h 0 x rfl
    have ih := forR_cut (xs := xs) (fun i => S (i + 1)) (fun i => p (i + 1)) fun i y hy => h (i + 1) y hy
    rw [List.length_cons, List.range_succ_eq_map, List.any_cons, List.any_map]
    cases hp : p 0 with
    | true =>
      rw [if_pos hp] at h1
      obtain ⟨o, h2, h3⟩ := Res.bind_ok h1
      obtain ⟨Γ1, h4, h5⟩ := Res.bind_ok h2
      rw [Bool.true_or, if_pos rfl, forR, h4, Res.ok_bind, h5, Res.ok_bind]
      cases o <;> cases h3
      rfl
    | false =>
      rw [if_neg (by rw [hp]; exact Bool.false_ne_true)] at h1
      rw [turn_ok h1, ih, Bool.false_or]
      rfl
theorem forR_cutB {α : Type} {g : MG} {cl : List Nat} {b : MS} {d : PyData} {xs : List PyData} {Γ : Ev} {f : Out → Res α} {r : Res α} (S : Nat → Ev) (p : Nat → Bool) (h0 : Γ = S 0) (h : ∀ i x, xs[i]? = some x → ((g x (S i)).bind b).bind (clrO cl) = if p i = true then .ok (.rt d) else .ok (.nx (S (i + 1))))
    (k1 : (List.range xs.length).any p = true → f (.rt d) = r) (k2 : (List.range xs.length).any p = false → f (.nx (S xs.length)) = r) : (forR g cl b xs Γ).bind f = r := by
  rw [h0, forR_cut S p h]
  cases hc : (List.range xs.length).any p with
  | true => rw [if_pos rfl]; exact k1 hc
  | false => rw [if_neg Bool.false_ne_true]; exact k2 hc
theorem or_nat {r k : Nat} (hr : r < 16) (hk : k < 4) : Builtin.bitOr (r : Nat) ((2 ^ k : Nat) : Int) = ((r ||| 2 ^ k : Nat) : Int) := by
  have : ∀ r < 16, ∀ k < 4, Builtin.bitOr (r : Nat) ((2 ^ k : Nat) : Int) = ((r ||| 2 ^ k : Nat) : Int) := by decide +kernel
  exact this r hr k hk
theorem ix2 {m : Nat} {b : Int} {i : Nat} (h : 2 ^ i < 2 ^ m) : ixD (dL (vals m b)) (.int (1 * 2 ^ ((i : Nat) : Int).toNat)) = .ok (.int (bitI b (2 ^ i))) := by
  rw [p2, Int.one_mul, ixV h, show ((2 ^ i : Nat) : Int) = 2 ^ i from Int.natCast_pow 2 i]
theorem ix0 {m : Nat} {b : Int} : ixD (dL (vals m b)) (.int 0) = .ok (.int (bitI b 0)) := ixV (r := 0) (pos2 m)
theorem l_rise {m : Nat} {b : Int} (hm : m ≤ 4) {t : Bool} (ht : t = true ↔ Kp b 2 [0, 2, 3] m) : m_law_keeps [dG m b, .str "rise"] = .ok (.bool t) := by
  have h0 := pos2 m
  have h16 := pow16 hm
  unfold m_law_keeps
  walk_at "go"
  rw [p2, Int.one_mul, vals_ok hm]
  walk_at "ev"
  walk_at "eq"
  walk_at "ev"
  walk_at "eq"
  walk_at "ev"
  walk_at "eq"
  walk_at "ev"
  rw [rng1_nat (by omega)]
  walk_at "ev"
  unfold upN
  rw [forR_findE (d := .bool false) (fun r : Nat => PyData.int (r : Nat)) (fun r => (List.range m).any fun k => decide (bitI b ((r ||| 2 ^ k : Nat) : Int) < bitI b (r : Nat))) fun r hr => ?_]
  · cases hc : (List.range (2 ^ m)).any fun r => (List.range m).any fun k => decide (bitI b ((r ||| 2 ^ k : Nat) : Int) < bitI b (r : Nat)) with
    | true =>
      rw [if_pos rfl]
      walk_at "ev"
      refine say ht ⟨fun h => (nomatch h), fun h => ?_⟩
      obtain ⟨r, hr, h2⟩ := List.any_eq_true.mp hc
      obtain ⟨k, hk, h3⟩ := List.any_eq_true.mp h2
      have := kp_rise.mp h r k (List.mem_range.mp hr) (List.mem_range.mp hk)
      have h3 := of_decide_eq_true h3
      omega
    | false =>
      rw [if_neg Bool.false_ne_true]
      walk_at "ev"
      refine say ht ⟨fun _ => kp_rise.mpr fun r k hr hk => ?_, fun _ => rfl⟩
      have h1 := List.any_eq_false.mp hc r (List.mem_range.mpr hr)
      have h2 := List.any_eq_false.mp (Bool.eq_false_iff.mpr h1) k (List.mem_range.mpr hk)
      rw [decide_eq_true_eq] at h2
      omega
  · have hr := List.mem_range.mp hr
    walk_at "ev"
    rw [show ixD (dL (vals m b)) (.int 0) = .ok (.int (bitI b 0)) from ixV (r := 0) (pos2 m)]
    walk_at "ev"
    rw [rng1_nat (by omega)]
    walk_at "ev"
    refine forR_cutB (d := .bool false) (fun i => [some (dG m b), some (.str "rise"), some (.int ((2 ^ m : Nat) : Int)), some (dL (vals m b)), some (.int (r : Nat)), some (.int (totE b r i)), none]) (fun k => decide (bitI b ((r ||| 2 ^ k : Nat) : Int) < bitI b (r : Nat))) rfl (fun i x hx => ?_) (fun hc => ?_) fun hc => ?_
    · obtain ⟨hi, rfl⟩ := upN_get hx
      have hlt : r ||| 2 ^ i < 2 ^ m := Nat.or_lt_two_pow hr (Nat.pow_lt_pow_right (by decide) hi)
      have hi2 : 2 ^ i < 2 ^ m := Nat.pow_lt_pow_right (by decide) hi
      walk_at "ev"
      walk_at "eq"
      walk_at "ev"
      rw [ixV hr]
      walk_at "go"
      rw [p2, Int.one_mul, or_nat (by omega) (by omega), ixV hlt]
      walk_at "go"
      by_cases hc : bitI b ((r ||| 2 ^ i : Nat) : Int) < bitI b (r : Nat)
      · rw [decide_eq_true hc]
        walk_at "ev"
      · rw [decide_eq_false hc]
        walk_at "go"
        rw [ix2 hi2, ix0]
        walk_at "ev"
        rw [PyProof.Rows.bitAnd_m1]
        change (gd (CMul (bitI (r : Nat) (i : Nat)) (bitI b (2 ^ i) + bitI b 0)) (Res.ok (PyData.int (bitI (r : Nat) (i : Nat) * (bitI b (2 ^ i) + bitI b 0))))).bind _ = _
        have b1 := bitI_01 (r : Nat) (i : Nat)
        have b2 := bitI_01 b (2 ^ i)
        have b3 := bitI_01 b 0
        walk_at "gd"
        walk_at "ev"
        rfl
    · rw [upN_length] at hc
      rw [if_pos hc]
      walk_at "ev"
    · rw [upN_length] at hc
      rw [if_neg (by rw [hc]; exact Bool.false_ne_true), upN_length]
      walk_at "ev"
      walk_at "eq"
      walk_at "ev"
theorem l_even {m : Nat} {b : Int} (hm : m ≤ 4) {t : Bool} (ht : t = true ↔ Kp b 4 evens m) : m_law_keeps [dG m b, .str "even"] = .ok (.bool t) := by
  have h0 := pos2 m
  have h16 := pow16 hm
  unfold m_law_keeps
  walk_at "go"
  rw [p2, Int.one_mul, vals_ok hm]
  walk_at "ev"
  walk_at "eq"
  walk_at "ev"
  walk_at "eq"
  walk_at "ev"
  walk_at "eq"
  walk_at "ev"
  rw [rng1_nat (by omega)]
  walk_at "ev"
  unfold upN
  rw [forR_findE (d := .bool false) (fun r : Nat => PyData.int (r : Nat)) (fun r => !decide (totE b r m % 2 = bitI b (r : Nat))) fun r hr => ?_]
  · cases hc : (List.range (2 ^ m)).any fun r => !decide (totE b r m % 2 = bitI b (r : Nat)) with
    | true =>
      rw [if_pos rfl]
      walk_at "ev"
      refine say ht ⟨fun h => (nomatch h), fun h => ?_⟩
      obtain ⟨r, hr, h2⟩ := List.any_eq_true.mp hc
      have := kp_even.mp h r (List.mem_range.mp hr)
      rw [decide_eq_true this] at h2
      cases h2
    | false =>
      rw [if_neg Bool.false_ne_true]
      walk_at "ev"
      refine say ht ⟨fun _ => kp_even.mpr fun r hr => ?_, fun _ => rfl⟩
      have h1 := List.any_eq_false.mp hc r (List.mem_range.mpr hr)
      simpa using h1
  · have hr := List.mem_range.mp hr
    walk_at "ev"
    rw [ix0]
    walk_at "ev"
    rw [rng1_nat (by omega)]
    walk_at "ev"
    refine forR_bind (fun i => [some (dG m b), some (.str "even"), some (.int ((2 ^ m : Nat) : Int)), some (dL (vals m b)), some (.int (r : Nat)), some (.int (totE b r i)), none]) rfl (fun i x hx => ?_) ?_
    · obtain ⟨hi, rfl⟩ := upN_get hx
      have hi2 : 2 ^ i < 2 ^ m := Nat.pow_lt_pow_right (by decide) hi
      walk_at "ev"
      walk_at "eq"
      walk_at "go"
      rw [ix2 hi2, ix0]
      walk_at "ev"
      rw [PyProof.Rows.bitAnd_m1]
      change (gd (CMul (bitI (r : Nat) (i : Nat)) (bitI b (2 ^ i) + bitI b 0)) (Res.ok (PyData.int (bitI (r : Nat) (i : Nat) * (bitI b (2 ^ i) + bitI b 0))))).bind _ = _
      have b1 := bitI_01 (r : Nat) (i : Nat)
      have b2 := bitI_01 b (2 ^ i)
      have b3 := bitI_01 b 0
      walk_at "gd"
      walk_at "ev"
      rfl
    · rw [upN_length]
      walk_at "ev"
      walk_at "eq"
      walk_at "go"
      rw [ixV hr]
      walk_at "ev"
      by_cases hc : totE b r m % 2 = bitI b (r : Nat)
      · rw [decide_eq_true hc]
        walk_at "ev"
      · rw [decide_eq_false hc]
        walk_at "ev"
inductive Nm : Str → Nat → List Int → Prop
  | low : Nm "low" 1 [0]
  | high : Nm "high" 1 [1]
  | turn : Nm "turn" 2 [1, 2]
  | rise : Nm "rise" 2 [0, 2, 3]
  | even : Nm "even" 4 evens
theorem l_keeps {m w : Nat} {b : Int} {nm : Str} {rs : List Int} (N : Nm nm w rs) (hm : m ≤ 4) : m_law_keeps [dG m b, .str nm] = .ok (.bool (brk b w rs m).isNone) := by
  cases N with
  | low => rw [l_low hm]; exact say kept_iff (decide_eq_true_iff.trans kp_low.symm)
  | high => rw [l_high hm]; exact say kept_iff (decide_eq_true_iff.trans kp_high.symm)
  | turn => exact l_turn hm kept_iff
  | rise => exact l_rise hm kept_iff
  | even => exact l_even hm kept_iff
theorem p_kind {w : Nat} {nm : Str} {rs : List Int} (N : Nm nm w rs) : m_kind [.str nm] = .ok (dRel w rs) := by
  cases N <;> rfl
theorem Goes.two {α : Type} {c : Bool} {x y : Res Out} {f : Out → Res Out} {P : Ev → Prop} (V : α → Prop) (E : α → Ev) (hx : c = true → ∃ v, V v ∧ x = .ok (.nx (E v))) (hy : c = false → ∃ v, V v ∧ y = .ok (.nx (E v)))
    (k : ∀ v, V v → Goes (f (.nx (E v))) P) : Goes ((bS (.bool c) x y).bind f) P := by
  cases c with
  | true => obtain ⟨v, h, e⟩ := hx rfl; rw [bS_true, e]; exact k v h
  | false => obtain ⟨v, h, e⟩ := hy rfl; rw [bS_false, e]; exact k v h
theorem Nm.small {nm : Str} {w : Nat} {rs : List Int} (N : Nm nm w rs) : rs.length ≤ 8 ∧ w ≤ 100 := by cases N <;> decide
theorem p_broken5 {m w : Nat} {b : Int} {nm : Str} {rs : List Int} (N : Nm nm w rs) (hm : m ≤ 4) : m_broken [dG m b, dRel w rs] = .ok (optD (brk b w rs m)) :=
  p_broken (by have := N.small; omega) hm (Nat.le_trans (Nat.pow_le_pow_left N.small.1 _) (Nat.le_trans (Nat.pow_le_pow_right (by decide) hm) (by decide))) N.small.2
noncomputable def Ks : List (Str × Nat × List Int) := [("low", 1, [0]), ("high", 1, [1]), ("turn", 2, [1, 2]), ("rise", 2, [0, 2, 3]), ("even", 4, evens)]
theorem Ks_ok {k : Str × Nat × List Int} (h : k ∈ Ks) : Nm k.1 k.2.1 k.2.2 := by
  simp only [Ks, List.mem_cons, List.not_mem_nil, or_false] at h
  rcases h with rfl | rfl | rfl | rfl | rfl
  · exact .low
  · exact .high
  · exact .turn
  · exact .rise
  · exact .even
structure GOk (g : Nat × Int) : Prop where
  m4 : g.1 ≤ 4
  b0 : 0 ≤ g.2
  b1 : g.2 < 2 ^ 2 ^ g.1
noncomputable def D5 : List (PyData × PyData) := [(.str "low", dGp (2, 8)), (.str "high", dGp (2, 14)), (.str "turn", dGp (1, 1)), (.str "rise", dGp (2, 8)), (.str "even", dGp (2, 6))]
theorem dct_lit (Γ : Ev) : eDct [("low", (eTup [(eC (.int 2)), (eC (.int 8))])), ("high", (eTup [(eC (.int 2)), (eC (.int 14))])), ("turn", (eTup [(eC (.int 1)), (eC (.int 1))])), ("rise", (eTup [(eC (.int 2)), (eC (.int 8))])), ("even", (eTup [(eC (.int 2)), (eC (.int 6))]))] Γ = .ok (.dict D5) := rfl
theorem dct_at {nm : Str} {w : Nat} {rs : List Int} (N : Nm nm w rs) : ∃ g, GOk g ∧ ixY (.dict D5) (.str nm) = .ok (dGp g) := by
  cases N
  · exact ⟨(2, 8), ⟨by decide, by decide, by decide⟩, rfl⟩
  · exact ⟨(2, 14), ⟨by decide, by decide, by decide⟩, rfl⟩
  · exact ⟨(1, 1), ⟨by decide, by decide, by decide⟩, rfl⟩
  · exact ⟨(2, 8), ⟨by decide, by decide, by decide⟩, rfl⟩
  · exact ⟨(2, 6), ⟨by decide, by decide, by decide⟩, rfl⟩
theorem five {v : Int} (h : 0 ≤ v ∧ v < 5) : ∃ nm w rs, Nm nm w rs ∧ ixD (.list [.str "low", .str "high", .str "turn", .str "rise", .str "even"]) (.int v) = .ok (.str nm) := by
  have : v = 0 ∨ v = 1 ∨ v = 2 ∨ v = 3 ∨ v = 4 := by omega
  rcases this with rfl | rfl | rfl | rfl | rfl
  · exact ⟨_, _, _, .low, rfl⟩
  · exact ⟨_, _, _, .high, rfl⟩
  · exact ⟨_, _, _, .turn, rfl⟩
  · exact ⟨_, _, _, .rise, rfl⟩
  · exact ⟨_, _, _, .even, rfl⟩
noncomputable def good : List (List (Nat × Int)) := [[(2, 7)], [(2, 1)], [(2, 8), (1, 1)], [(2, 14), (1, 1)], [(2, 8), (2, 6), (0, 1)], [(2, 13), (0, 0)], [(3, 23), (2, 7)], [(2, 2), (0, 1)], [(3, 202), (0, 0), (0, 1)], [(2, 11), (1, 1)], [(4, 32767)]]
theorem good_ok : ∀ gs ∈ good, gs.length ≤ 6 ∧ ∀ g ∈ gs, g.1 ≤ 4 ∧ 0 ≤ g.2 ∧ g.2 < 2 ^ 2 ^ g.1 := by decide +kernel
theorem l_set (ns : List Int) (h : ns.length ≤ 63) : ∃ gs : List (Nat × Int), m_law_set [dL ns, .int 0] = .ok (.list (gs.map dGp)) ∧ gs.length ≤ 6 ∧ ∀ g ∈ gs, GOk g := by
  suffices z : Gives (m_law_set [dL ns, .int 0]) fun d => ∃ gs : List (Nat × Int), d = .list (gs.map dGp) ∧ gs.length ≤ 6 ∧ ∀ g ∈ gs, GOk g by
    obtain ⟨d, e, gs, rfl, h⟩ := z
    exact ⟨gs, e, h⟩
  obtain ⟨c, ec⟩ := l_cell ns h (k := 0) (by decide)
  have ec : m_law_cell_at [dL ns, .int 0] = .ok (.int c) := ec
  unfold m_law_set
  walk_at "ev"
  rw [ec]
  walk_at "go"
  obtain ⟨nm, w, rs, N, en⟩ := five (v := c / 4 % 5) ⟨Int.emod_nonneg _ (by decide), Int.emod_lt_of_pos _ (by decide)⟩
  rw [en]
  walk_at "go"
  generalize ha : addD (PyData.list _) (PyData.list _) = X
  have hX : X = .ok (.list (good.map fun gs => PyData.list (gs.map dGp))) := by
    rw [← ha, addD_list (size_le (by decide))]
    rfl
  rw [hX]
  clear hX ha
  walk_at "ev"
  by_cases h4 : c % 4 = 0
  · rw [decide_eq_true h4]
    obtain ⟨k, ek, hk⟩ := modN (c / 4) (m := 11) (by decide)
    have hk' : k < good.length := by show k < 11; omega
    rw [ek, ixD_list (i := k) (d := .list (good[k].map dGp)) (by rw [List.getElem?_map, List.getElem?_eq_getElem hk']; rfl)]
    walk_at "ev"
    have := good_ok good[k] (List.getElem_mem hk')
    exact ⟨good[k], rfl, this.1, fun g hg => ⟨(this.2 g hg).1, (this.2 g hg).2.1, (this.2 g hg).2.2⟩⟩
  · rw [decide_eq_false h4]
    obtain ⟨q, eq, hq⟩ := modN (c / 20) (m := 7) (by decide)
    walk_at "go"
    rw [eq, rng1_nat (by omega)]
    walk_at "ev"
    generalize PyData.list (good.map fun gs => PyData.list (gs.map dGp)) = gd0
    refine forR_gives (fun i Γ => ∃ gs : List (Nat × Int), Γ = [some (dL ns), some (.int 0), some (.int c), some (.str nm), some gd0, some (.list (gs.map dGp)), none, none] ∧ gs.length = i ∧ ∀ g ∈ gs, GOk g) ⟨[], rfl, rfl, fun g hg => nomatch hg⟩ (fun i x Γ hx hI => ?_) fun Γ hI => ?_
    · obtain ⟨gs, rfl, hl, hgs⟩ := hI
      obtain ⟨hi, rfl⟩ := upN_get hx
      obtain ⟨d, ed⟩ := l_cell ns h (k := 1 + i) (by omega)
      obtain ⟨m, b, hm, b0, b1, eg⟩ := l_gate d
      walk_at "ev"
      rw [show (0 : Int) + 1 + (i : Nat) = ((1 + i : Nat) : Int) by omega, ed]
      walk_at "ev"
      rw [eg]
      walk_at "go"
      obtain ⟨g5, ok5, e5⟩ := dct_at N
      rw [l_keeps N hm, dct_lit]
      walk_at "ev"
      rw [bT_dec, and_res]
      walk_at "ev"
      refine Goes.two (α := Nat × Int) GOk (fun v => [some (dL ns), some (.int 0), some (.int c), some (.str nm), some gd0, some (.list (gs.map dGp)), some (.int (i : Nat)), some (dGp v)]) (fun _ => ⟨g5, ok5, by rw [e5]; rfl⟩) (fun _ => ⟨(m, b), ⟨hm, b0, b1⟩, rfl⟩) fun v hv => ?_
      have hz : gs.length < sizeLine := size_le (by omega)
      walk_at "go"
      refine ⟨gs ++ [v], by rw [List.map_append]; rfl, by rw [List.length_append, hl]; rfl, fun g hg => ?_⟩
      rcases List.mem_append.mp hg with z | z
      · exact hgs g z
      · rw [List.mem_singleton.mp z]; exact hv
    · obtain ⟨gs, rfl, hl, hgs⟩ := hI
      rw [upN_length] at hl
      walk_at "ev"
      exact ⟨gs, rfl, by omega, hgs⟩
theorem plain_gs (gs : List (Nat × Int)) : plain (.list (gs.map dGp)) = true := by
  rw [L3.plain]
  exact plains_of fun d hd => by obtain ⟨g, _, rfl⟩ := List.mem_map.mp hd; exact plain_dG
theorem depth_ls {ds : List PyData} {k : Nat} (h : ∀ d ∈ ds, d.depth ≤ k) (hk : k ≤ 8) : (PyData.list ds).depth ≤ 64 := by
  have h1 := depth_tup (k := k) (ds := ds) h
  have h2 : (PyData.tuple ds).depth = PyData.depthAll ds + 1 := by rw [PyData.depth]
  have h3 : (PyData.list ds).depth = PyData.depthAll ds + 1 := by rw [PyData.depth]
  omega
theorem depth_gs (gs : List (Nat × Int)) : (PyData.list (gs.map dGp)).depth ≤ 64 := depth_ls (k := 1) (fun d hd => by obtain ⟨g, _, rfl⟩ := List.mem_map.mp hd; exact depth_dG1) (by decide)
theorem l_breaks {m w : Nat} {b : Int} {ts rs : List Int} (hm : m ≤ 4) (hl : ts.length = m) (hw : w ≤ 100) (hr : rs.length ≤ 16) : m_law_breaks [dG m b, dL ts, dRel w rs] = .ok (.bool (!decide (putR b ts w ∈ rs))) := by
  unfold m_law_breaks
  walk_at "ev"
  rw [show ixD (dRel w rs) (.int 0) = .ok (.int (w : Nat)) from rfl]
  walk_at "ev"
  rw [rng1_nat (by omega)]
  walk_at "ev"
  refine forR_bind (fun j => [some (dG m b), some (dL ts), some (dRel w rs), some (.int (putR b ts j)), none, none]) rfl (fun j x hx => ?_) ?_
  · obtain ⟨hj, rfl⟩ := upN_get hx
    walk_at "ev"
    have e : enumL (ts.map PyData.int) = (List.range ts.length).map fun i => PyData.tuple [.int (i : Nat), (ts.map PyData.int).getD i .none] := by
      unfold enumL; rw [List.length_map]
    rw [eComp_enc (xs := List.range ts.length) (fun i => PyData.tuple [.int (i : Nat), (ts.map PyData.int).getD i .none]) (fun i => .int (bitI (ts.getD i 0) (j : Nat) * 2 ^ i)) ?_ (size_le (by rw [List.length_range]; omega)) fun i hi => ?_]
    · walk_at "ev"
      have es : PyData.list ((List.range ts.length).map fun i => PyData.int (bitI (ts.getD i 0) (j : Nat) * 2 ^ i)) = .list (((List.range ts.length).map fun i => bitI (ts.getD i 0) (j : Nat) * 2 ^ i).map PyData.int) := by rw [List.map_map]; rfl
      have eg : ((List.range ts.length).map fun i => bitI (ts.getD i 0) (j : Nat) * 2 ^ i).sum = gnum (ts.map fun t => bitI t (j : Nat)) := by
        have := sum_powers (ts.map fun t => bitI t (j : Nat))
        rw [List.length_map] at this
        rw [← this]
        congr 1
        refine List.map_congr_left fun i hi => ?_
        have hi := List.mem_range.mp hi
        rw [List.getD_eq_getElem?_getD, List.getD_eq_getElem?_getD, List.getElem?_map, List.getElem?_eq_getElem hi]
        rfl
      rw [es, sumD_ints, eg]
      have g0 : 0 ≤ gnum (ts.map fun t => bitI t (j : Nat)) := gnum_nonneg (All01.bits (l := ts) (f := fun t => t) (g := fun _ => (j : Nat))).nn
      have h01 := bitI_01 b (gnum (ts.map fun t => bitI t (j : Nat)))
      walk_at "ev"
      rw [gd_pos g0]
      walk_at "ev"
      rw [PyProof.Rows.bitAnd_m1, show b / 2 ^ (gnum (ts.map fun t => bitI t (j : Nat))).toNat % 2 = bitI b (gnum (ts.map fun t => bitI t (j : Nat))) from rfl]
      rw [gd_pos (show CPow _ _ from ⟨by omega, by omega, by omega⟩), Int.toNat_natCast]
      walk_at "ev"
      have ep : putR b ts (j + 1) = putR b ts j + 2 ^ j * bitI b (gnum (ts.map fun t => bitI t (j : Nat))) := by
        unfold putR tab
        rw [List.range_succ, List.map_append, List.map_cons, List.map_nil, gnum_snoc, List.length_map, List.length_range]
      rw [or_high putR_nonneg putR_lt h01, ep]
    · walk_at "ev"
      exact congrArg Res.ok e
    · have hi := List.mem_range.mp hi
      have h01 := bitI_01 (ts.getD i 0) (j : Nat)
      have eg : (ts.map PyData.int).getD i .none = .int (ts.getD i 0) := by
        rw [List.getD_eq_getElem?_getD, List.getElem?_map, List.getD_eq_getElem?_getD, List.getElem?_eq_getElem hi]; rfl
      rw [eg]
      walk_at "go"
      rw [Int.toNat_natCast, bitAnd1, gd_pos (show CPow _ _ from ⟨by omega, by omega, by omega⟩), Int.toNat_natCast]
  · rw [upN_length]
    walk_at "ev"
    rw [show ixD (dRel w rs) (.int 1) = .ok (dR rs) from rfl]
    walk_at "ev"
    rw [notIn_dR]
    walk_at "ev"
theorem pw8 {n i k : Nat} (h : n ≤ 8) (hi : i ≤ k) : n ^ i ≤ 8 ^ k := Nat.le_trans (Nat.pow_le_pow_left h _) (Nat.pow_le_pow_right (by decide) hi)
theorem intsOf_map : ∀ ns : List Int, intsOf (ns.map PyData.int) = some ns
  | [] => rfl
  | n :: ns => by
    show intsOf (.int n :: ns.map PyData.int) = _
    unfold intsOf
    rw [intsOf_map ns]
    rfl
theorem lsOf_map : ∀ cs : List (List Int), lsOf (cs.map dL) = some cs
  | [] => rfl
  | c :: cs => by
    show (match intsOf (c.map PyData.int), lsOf (cs.map dL) with | some c, some cs => some (c :: cs) | _, _ => none) = _
    rw [intsOf_map, lsOf_map cs]
theorem l_ahead {rs c : List Int} {w : Nat} (hr : rs.length ≤ 8) (hm : c.length ≤ 4) (hc : c ∈ allL rs c.length) : m_law_ahead [dL c, dRel w rs] = .ok (.list (((allL rs c.length).take ((allL rs c.length).idxOf c)).map dL)) := by
  have LL : ∀ i, i ≤ 4 → (allL rs i).length ≤ 4096 := fun i hi => by rw [allL_len]; exact pw8 hr hi
  unfold m_law_ahead
  walk_at "ev"
  rw [rng1_nat (by omega)]
  walk_at "ev"
  refine forR_bind (fun i => [some (dL c), some (dRel w rs), some (.list ((allL rs i).map dL)), none, none, none]) rfl (fun i x hx => ?_) ?_
  · obtain ⟨hi, rfl⟩ := upN_get hx
    have L0 := LL i (by omega)
    walk_at "ev"
    refine forR_bind (fun j => [some (dL c), some (dRel w rs), some (.list ((allL rs i).map dL)), some (.int (i : Nat)), some (.list ((stepL rs ((allL rs i).take j)).map dL)), none]) rfl (fun j x hx => ?_) ?_
    · obtain ⟨c', ec, rfl⟩ := enc_get hx
      have hc' := allL_each i c' (List.mem_of_getElem? ec)
      have Lj : (stepL rs ((allL rs i).take j)).length ≤ 1100000 := by
        rw [stepL_len, List.length_take]
        exact Nat.le_trans (Nat.mul_le_mul (Nat.le_trans (Nat.min_le_right _ _) L0) hr) (by decide)
      walk_at "ev"
      rw [sExt_ok (ds := (stepL rs ((allL rs i).take j)).map dL) (es := (rs.map fun r => c' ++ [r]).map dL) ?_ rfl (by simp only [List.length_map, PySem.sizeLine_eq]; omega) (of_decide_eq_true rfl)]
      · walk_at "ev"
        rw [take_snoc ec, stepL_snoc, List.map_append]
      · rw [eComp_enc (xs := rs) PyData.int (fun r => dL (c' ++ [r])) rfl (size_le (by omega)) fun r _ => ?_]
        · rw [List.map_map]; rfl
        · walk_at "ev"
          rw [app1 (by omega)]
    · rw [List.length_map, List.take_length]
      walk_at "ev"
      rfl
  · rw [upN_length]
    walk_at "ev"
    have ix : indexL (.list ((allL rs c.length).map dL)) (dL c) = .ok (.int ((allL rs c.length).idxOf c : Nat)) := by
      show (match lsOf ((allL rs c.length).map dL), intsOf (c.map PyData.int) with | some cs, some c => gd (c ∈ cs) (Res.ok (PyData.int (cs.idxOf c : Nat))) | _, _ => .bad) = _
      rw [lsOf_map, intsOf_map]
      exact gd_pos hc
    rw [ix]
    walk_at "ev"
    rw [show slL (.list ((allL rs c.length).map dL)) none (some ((allL rs c.length).idxOf c : Nat)) = _ from slD_hi, List.map_take]
    rfl
noncomputable def brP (gs : List (Nat × Int)) (w : Nat) (rs : List Int) (i : Nat) : Option (List Int) := brk (gs.getD i (0, 0)).2 w rs (gs.getD i (0, 0)).1
noncomputable def brD (gs : List (Nat × Int)) (w : Nat) (rs : List Int) : PyData := match (List.range gs.length).find? fun i => !(brP gs w rs i).isNone with
  | none => .none
  | some i => .tuple [.int (i : Nat), optD (brP gs w rs i)]
theorem p_first2 {gs : List (Nat × Int)} {nm : Str} {w : Nat} {rs : List Int} (N : Nm nm w rs) (hg : ∀ g ∈ gs, g.1 ≤ 4) : m_first_breach [.list (gs.map dGp), dRel w rs] = .ok (brD gs w rs) := by
  unfold m_first_breach
  walk_at "ev"
  have e : enumL (gs.map dGp) = (List.range gs.length).map fun i => PyData.tuple [.int (i : Nat), (gs.map dGp).getD i .none] := by
    unfold enumL; rw [List.length_map]
  rw [e, forR_first (fun i => PyData.tuple [.int (i : Nat), (gs.map dGp).getD i .none]) (fun i => .tuple [.int (i : Nat), optD (brP gs w rs i)]) (fun i => !(brP gs w rs i).isNone) fun i hi => ?_]
  · unfold brD
    cases hf : (List.range gs.length).find? (fun i => !(brP gs w rs i).isNone) with
    | none => walk_at "ev"
    | some i => walk_at "ev"
  · have hi := List.mem_range.mp hi
    have e1 : (gs.map dGp).getD i .none = dGp (gs.getD i (0, 0)) := by
      rw [List.getD_eq_getElem?_getD, List.getElem?_map, List.getD_eq_getElem?_getD, List.getElem?_eq_getElem hi]
      rfl
    have e2 : gs.getD i (0, 0) ∈ gs := by
      rw [List.getD_eq_getElem?_getD, List.getElem?_eq_getElem hi]
      exact List.getElem_mem hi
    rw [e1]
    unfold brP
    generalize gs.getD i (0, 0) = g at *
    walk_at "ev"
    rw [show m_broken [dGp g, dRel w rs] = _ from p_broken5 N (hg g e2)]
    walk_at "ev"
    cases brk g.2 w rs g.1 <;> rfl
theorem p_kinds2 {gs : List (Nat × Int)} (hg : ∀ g ∈ gs, g.1 ≤ 4) : m_kinds [.list (gs.map dGp)] = .ok (.list (Ks.map fun k => brD gs k.2.1 k.2.2)) := by
  unfold m_kinds
  walk_at "ev"
  rw [eComp_enc (xs := Ks) (fun k => PyData.str k.1) (fun k => brD gs k.2.1 k.2.2) rfl (size_le (by decide)) fun k hk => ?_]
  · rfl
  · walk_at "ev"
    rw [p_kind (Ks_ok hk)]
    walk_at "ev"
    exact p_first2 (Ks_ok hk) hg
theorem allL_of {rs : List Int} : ∀ m, ∀ c ∈ allL rs m, ∀ r ∈ c, r ∈ rs
  | 0, c, h, r, hr => by
    rw [List.mem_singleton.mp h] at hr
    cases hr
  | m + 1, c, h, r, hr => by
    obtain ⟨d, hd, x, hx, rfl⟩ := mem_stepL.mp (show c ∈ stepL rs (allL rs m) from h)
    rcases List.mem_append.mp hr with z | z
    · exact allL_of m d hd r z
    · rw [List.mem_singleton.mp z]; exact hx
theorem ahead_none {α : Type} [BEq α] [LawfulBEq α] {l : List α} {p : α → Bool} {c : α} (h : l.find? p = some c) : (l.take (l.idxOf c)).filter p = [] := by
  obtain ⟨hp, as, bs, rfl, ha⟩ := List.find?_eq_some_iff_append.mp h
  have hn : c ∉ as := fun z => by
    have := ha c z
    rw [hp] at this
    cases this
  have e : (as ++ c :: bs).idxOf c = as.length := by
    rw [List.idxOf_append, if_neg hn]
    simp
  rw [e, List.take_left', List.filter_eq_nil_iff]
  · intro a h1
    have := ha a h1
    simpa using this
  · rfl
theorem ix_gs {gs : List (Nat × Int)} {i : Nat} (hi : i < gs.length) : ixD (.list (gs.map dGp)) (.int (i : Nat)) = .ok (dGp (gs.getD i (0, 0))) := by
  refine ixD_list ?_
  rw [List.getElem?_map, List.getElem?_eq_getElem hi, List.getD_eq_getElem?_getD, List.getElem?_eq_getElem hi]
  rfl
theorem l_right {gs : List (Nat × Int)} {nm : Str} {w : Nat} {rs : List Int} (N : Nm nm w rs) (hl : gs.length ≤ 6) (hg : ∀ g ∈ gs, g.1 ≤ 4) : m_law_right [.list (gs.map dGp), .str nm, brD gs w rs] = .ok (.bool true) := by
  have gd_in : ∀ i, i < gs.length → gs.getD i (0, 0) ∈ gs := fun i hi => by
    rw [List.getD_eq_getElem?_getD, List.getElem?_eq_getElem hi]
    exact List.getElem_mem hi
  have hs := N.small
  unfold m_law_right
  walk_at "ev"
  rw [eComp_filterN (n := gs.length) (fun i => !(brP gs w rs i).isNone) (fun i => .int (i : Nat)) ?_ (size_le (by omega)) (fun i hi => ?_) fun i hi _ => ?_]
  rotate_left
  · walk_at "ev"
    rw [rng1_nat (by omega)]
  · walk_at "ev"
    rw [ix_gs hi]
    walk_at "ev"
    rw [show m_law_keeps [dGp (gs.getD i (0, 0)), .str nm] = _ from l_keeps N (hg _ (gd_in i hi))]
    rfl
  · walk_at "ev"
  have ei : PyData.list (((List.range gs.length).filter fun i => !(brP gs w rs i).isNone).map fun i => PyData.int (i : Nat)) = dL (((List.range gs.length).filter fun i => !(brP gs w rs i).isNone).map fun i => ((i : Nat) : Int)) := by unfold dL; rw [List.map_map]; rfl
  walk_at "ev"
  rw [ei, show PyData.list [] = dL [] from rfl, eqD_dL]
  walk_at "ev"
  cases hf : (List.range gs.length).find? (fun i => !(brP gs w rs i).isNone) with
  | none =>
    have eD : brD gs w rs = .none := by unfold brD; rw [hf]
    rw [eD]
    have e0 : ((List.range gs.length).filter fun i => !(brP gs w rs i).isNone) = [] := List.filter_eq_nil_iff.mpr fun i hi => by
      have := List.find?_eq_none.mp hf i hi
      simpa using this
    rw [e0]
    rfl
  | some i =>
    have hi := List.mem_range.mp (List.mem_of_find?_eq_some hf)
    have hp := List.find?_some hf
    have hf0 : ((List.range gs.length).filter fun i => !(brP gs w rs i).isNone).head? = some i := by rw [List.head?_filter]; exact hf
    obtain ⟨tl, et⟩ : ∃ tl, ((List.range gs.length).filter fun i => !(brP gs w rs i).isNone) = i :: tl := by
      cases hq : (List.range gs.length).filter fun i => !(brP gs w rs i).isNone with
      | nil => rw [hq] at hf0; cases hf0
      | cons a tl => rw [hq] at hf0; cases hf0; exact ⟨tl, rfl⟩
    obtain ⟨c, hc⟩ : ∃ c, brP gs w rs i = some c := by
      cases z : brP gs w rs i with
      | none => rw [z] at hp; cases hp
      | some c => exact ⟨c, rfl⟩
    have hb : brk (gs.getD i (0, 0)).2 w rs (gs.getD i (0, 0)).1 = some c := hc
    have g4 := hg _ (gd_in i hi)
    have eD : brD gs w rs = .tuple [.int (i : Nat), dL c] := by unfold brD; rw [hf]; show PyData.tuple [.int (i : Nat), optD (brP gs w rs i)] = _; rw [hc]; rfl
    rw [eD, et]
    have eg := ix_gs hi
    generalize gs.getD i (0, 0) = g at hb g4 eg
    have hcm := List.mem_of_find?_eq_some hb
    have hcl := allL_each _ c hcm
    have hcr := allL_of _ c hcm
    have hcb := List.find?_some hb
    rw [decide_eq_false (by simp)]
    walk_at "ev"
    have e0 : ixD (dL (((i : Nat) : Int) :: tl.map fun i => ((i : Nat) : Int))) (.int 0) = .ok (.int (i : Nat)) := ixD_list (i := 0) rfl
    rw [e0]
    walk_at "ev"
    rw [e0, Res.ok_bind, eg]
    walk_at "ev"
    rw [p_kind N]
    walk_at "ev"
    rw [decide_eq_true (show ((c.length : Nat) : Int) = (g.1 : Nat) by rw [hcl])]
    walk_at "ev"
    have ec : eComp (itL (eBin ixD (eVar 2) (eC (.int 1)))) (gN 0) (eOr (eIsi "bool" (eVar 0)) (eBin notInY (eVar 0) (eBin ixD (eVar 1) (eC (.int 1))))) (eVar 0) 1 [5] [some (.list (gs.map dGp)), some (.str nm), some (.tuple [.int (i : Nat), dL c]), some (dL (((i : Nat) : Int) :: tl.map fun i => ((i : Nat) : Int))), some (dGp g), some (dRel w rs)] = .ok (.list []) := by
      rw [eComp_encF (xs := c) PyData.int (fun r => !decide (r ∈ rs)) PyData.int rfl (size_le (by omega)) (fun r hr => ?_) fun r _ _ => rfl]
      · rw [show c.filter (fun r => !decide (r ∈ rs)) = [] from List.filter_eq_nil_iff.mpr fun r hr => by rw [decide_eq_true (hcr r hr)]; decide]
        rfl
      · walk_at "ev"
        rw [show ixD (dRel w rs) (.int 1) = .ok (dR rs) from rfl]
        walk_at "ev"
        rw [notIn_dR]
    rw [ec]
    walk_at "ev"
    have en : neD (.list []) (.list []) = .ok (.bool false) := neD_same (a := .list []) (plain_ints []) (by decide)
    rw [en]
    walk_at "ev"
    rw [show m_law_breaks [dGp g, dL c, dRel w rs] = _ from l_breaks g4 hcl hs.2 (by omega), hcb]
    walk_at "ev"
    have eh : eComp (itL (eCall m_law_ahead [(eBin ixD (eVar 2) (eC (.int 1))), (eVar 5)])) (gN 0) (eUn truD (eCall m_law_breaks [(eVar 1), (eVar 0), (eVar 2)])) (eVar 0) 1 [4, 5] [some (.list (gs.map dGp)), some (.str nm), some (.tuple [.int (i : Nat), dL c]), some (dL (((i : Nat) : Int) :: tl.map fun i => ((i : Nat) : Int))), some (dGp g), some (dRel w rs)] = .ok (.list []) := by
      have ha := l_ahead (w := w) hs.1 (by omega) (c := c) (rs := rs) (by rw [hcl]; exact hcm)
      rw [hcl] at ha
      have la : (allL rs g.1).length ≤ 4096 := by rw [allL_len]; exact pw8 hs.1 g4
      rw [eComp_encF (xs := (allL rs g.1).take ((allL rs g.1).idxOf c)) dL (fun x => !decide (putR g.2 x w ∈ rs)) dL ?_ (size_le (by rw [List.length_take]; omega)) (fun x hx => ?_) fun x _ _ => ?_]
      · rw [ahead_none hb]
        rfl
      · walk_at "ev"
        rw [ha]
        rfl
      · walk_at "ev"
        rw [show m_law_breaks [dGp g, dL x, dRel w rs] = _ from l_breaks g4 (allL_each _ x (List.mem_of_mem_take hx)) hs.2 (by omega)]
        rfl
      · walk_at "ev"
    rw [eh]
    walk_at "ev"
    rw [show eqD (.list []) (.list []) = .ok (.bool true) from eqD_same (a := .list []) (plain_ints []) (by decide)]
    walk_at "ev"
structure OkD (k w : Nat) (d : PyData) : Prop where
  lay : d.canLay0 = true
  sh : d.showable = true
  nd : d.hasDict = false
  dp : d.depth ≤ k
  wt : d.weight ≤ w
  is : d.intsShort 13 = true
theorem int16 : ∀ n : Nat, n < 16 → (PyData.int (n : Nat)).showable = true ∧ (PyData.int (n : Nat)).intsShort 13 = true ∧ (PyData.int (n : Nat)).weight ≤ 4 := by decide +kernel
theorem OkD.mono {k k' w w' : Nat} {d : PyData} (h : OkD k w d) (h1 : k ≤ k') (h2 : w ≤ w') : OkD k' w' d := ⟨h.lay, h.sh, h.nd, Nat.le_trans h.dp h1, Nat.le_trans h.wt h2, h.is⟩
theorem ok_nat {n : Nat} (h : n < 16) : OkD 0 4 (.int (n : Nat)) := ⟨by rw [PyData.canLay0], (int16 n h).1, by rw [PyData.hasDict], by rw [PyData.depth]; exact Nat.le_refl _, (int16 n h).2.2, (int16 n h).2.1⟩
theorem ok_int {r : Int} (h0 : 0 ≤ r) (h : r < 16) : OkD 0 4 (.int r) := by
  have e : r = ((r.toNat : Nat) : Int) := by omega
  rw [e]
  exact ok_nat (by omega)
theorem OkD.all {k w : Nat} : ∀ {es : List PyData}, (∀ e ∈ es, OkD k w e) → PyData.canLayAll0 es = true ∧ PyData.showableAll es = true ∧ PyData.hasDictAll es = false ∧ PyData.depthAll es ≤ k ∧ PyData.weightAll es ≤ (w + 1) * es.length ∧ PyData.intsShortAll 13 es = true
  | [], _ => by
    refine ⟨by rw [PyData.canLayAll0], by rw [PyData.showableAll], by rw [PyData.hasDictAll], by rw [PyData.depthAll]; exact Nat.zero_le _, by rw [PyData.weightAll]; exact Nat.zero_le _, by rw [PyData.intsShortAll]⟩
  | e :: es, h => by
    have a := h e List.mem_cons_self
    obtain ⟨b1, b2, b3, b4, b5, b6⟩ := OkD.all (es := es) fun e he => h e (List.mem_cons_of_mem _ he)
    refine ⟨by rw [PyData.canLayAll0, a.lay, b1]; rfl, by rw [PyData.showableAll, a.sh, b2]; rfl, by rw [PyData.hasDictAll, a.nd, b3]; rfl, by rw [PyData.depthAll]; exact Nat.max_le.mpr ⟨a.dp, b4⟩, ?_, by rw [PyData.intsShortAll, a.is, b6]; rfl⟩
    rw [PyData.weightAll, List.length_cons, Nat.mul_succ]
    have := a.wt
    omega
theorem OkD.list {k w : Nat} {es : List PyData} (h : ∀ e ∈ es, OkD k w e) : OkD (k + 1) ((w + 1) * es.length) (.list es) := by
  obtain ⟨b1, b2, b3, b4, b5, b6⟩ := OkD.all h
  exact ⟨by rw [PyData.canLay0]; exact b1, by rw [PyData.showable]; exact b2, by rw [PyData.hasDict]; exact b3, by rw [PyData.depth]; omega, by rw [PyData.weight]; exact b5, by rw [PyData.intsShort]; exact b6⟩
theorem OkD.tuple {k w : Nat} {es : List PyData} (h : ∀ e ∈ es, OkD k w e) : OkD (k + 1) ((w + 1) * es.length) (.tuple es) := by
  obtain ⟨b1, b2, b3, b4, b5, b6⟩ := OkD.all h
  exact ⟨by rw [PyData.canLay0]; exact b1, by rw [PyData.showable]; exact b2, by rw [PyData.hasDict]; exact b3, by rw [PyData.depth]; omega, by rw [PyData.weight]; exact b5, by rw [PyData.intsShort]; exact b6⟩
theorem rows16 {nm : Str} {w : Nat} {rs : List Int} (N : Nm nm w rs) : ∀ r ∈ rs, 0 ≤ r ∧ r < 16 := by cases N <;> decide
theorem brD_cases {gs : List (Nat × Int)} {nm : Str} {w : Nat} {rs : List Int} (N : Nm nm w rs) (hl : gs.length ≤ 6) (hg : ∀ g ∈ gs, g.1 ≤ 4) : brD gs w rs = .none ∨ ∃ (i : Nat) (c : List Int), brD gs w rs = .tuple [.int (i : Nat), dL c] ∧ i < 16 ∧ c.length ≤ 4 ∧ ∀ r ∈ c, 0 ≤ r ∧ r < 16 := by
  cases hf : (List.range gs.length).find? (fun i => !(brP gs w rs i).isNone) with
  | none => exact .inl (by unfold brD; rw [hf])
  | some i =>
    have hi := List.mem_range.mp (List.mem_of_find?_eq_some hf)
    have hp := List.find?_some hf
    obtain ⟨c, hc⟩ : ∃ c, brP gs w rs i = some c := by
      cases z : brP gs w rs i with
      | none => rw [z] at hp; cases hp
      | some c => exact ⟨c, rfl⟩
    have hb : brk (gs.getD i (0, 0)).2 w rs (gs.getD i (0, 0)).1 = some c := hc
    have hm : gs.getD i (0, 0) ∈ gs := by
      rw [List.getD_eq_getElem?_getD, List.getElem?_eq_getElem hi]
      exact List.getElem_mem hi
    have hcm := List.mem_of_find?_eq_some hb
    have hcl := allL_each _ c hcm
    have g4 := hg _ hm
    exact .inr ⟨i, c, by unfold brD; rw [hf]; show PyData.tuple [.int (i : Nat), optD (brP gs w rs i)] = _; rw [hc]; rfl, by omega, by omega, fun r hr => rows16 N r (allL_of _ c hcm r hr)⟩
theorem ok_brD {gs : List (Nat × Int)} {nm : Str} {w : Nat} {rs : List Int} (N : Nm nm w rs) (hl : gs.length ≤ 6) (hg : ∀ g ∈ gs, g.1 ≤ 4) : OkD 2 42 (brD gs w rs) ∧ brB (brD gs w rs) = true := by
  rcases brD_cases N hl hg with e | ⟨i, c, e, hi, hc, hr⟩
  · rw [e]
    exact ⟨⟨by rw [PyData.canLay0], by rw [PyData.showable], by rw [PyData.hasDict], by rw [PyData.depth]; exact Nat.zero_le _, by rw [PyData.weight]; exact Nat.zero_le _, by rw [PyData.intsShort]⟩, rfl⟩
  · rw [e]
    have h1 : OkD 1 20 (dL c) := (OkD.list (k := 0) (w := 4) (es := c.map PyData.int) fun d hd => by
      obtain ⟨r, h, rfl⟩ := List.mem_map.mp hd
      exact ok_int (hr r h).1 (hr r h).2).mono (Nat.le_refl _) (by rw [List.length_map]; omega)
    have h2 := OkD.tuple (k := 1) (w := 20) (es := [.int (i : Nat), dL c]) fun d hd => by
      rcases List.mem_cons.mp hd with rfl | hd
      · exact (ok_nat hi).mono (by decide) (by decide)
      · rw [List.mem_singleton.mp hd]; exact h1
    refine ⟨h2.mono (Nat.le_refl _) (Nat.le_refl 42), ?_⟩
    · show ((intsOf (c.map PyData.int)).isSome && decide ((c.map PyData.int).length ≤ 1000)) = true
      rw [intsOf_map, List.length_map, decide_eq_true (by omega)]
      rfl
theorem repr_ok {ds : List PyData} {w : Nat} (h : OkD 3 w (.list ds)) (hw : w ≤ 1000) : reprF [.list ds] = .ok (.str (PyData.list ds).shown) := by
  refine gd_pos ⟨h.lay, h.sh, h.nd, Nat.le_trans h.dp (by decide), ?_⟩
  refine Nat.le_trans (PyProof.Rows.shown_le13 ?_ h.is) (by rw [PySem.sizeLine_eq]; decide)
  unfold PyData.layable0
  rw [h.lay, decide_eq_true (Nat.le_trans h.dp (by decide)), decide_eq_true (Nat.le_trans h.wt (Nat.le_trans hw (by decide)))]
  rfl
theorem bind_id {α : Type} (r : Res α) : r.bind Res.ok = r := by cases r <;> rfl
theorem lSeq_nx {m1 : MS} {m2 : Ev → Res Bool} {Γ Γ' : Ev} (h : m1 Γ = .ok (.nx Γ')) : lSeq m1 m2 Γ = m2 Γ' := by
  unfold lSeq
  rw [h]
theorem main (ns : List Int) (h : ns.length ≤ 63) : m_law [.list (ns.map PyData.int)] = .ok true := by
  obtain ⟨gs, eg, hl, hg'⟩ := l_set ns h
  have hg : ∀ g ∈ gs, g.1 ≤ 4 := fun g z => (hg' g z).m4
  have ek := p_kinds2 hg
  have hD : ∀ d ∈ Ks.map (fun k => brD gs k.2.1 k.2.2), OkD 2 42 d ∧ brB d = true := fun d hd => by
    obtain ⟨k, hk, rfl⟩ := List.mem_map.mp hd
    exact ok_brD (Ks_ok hk) hl hg
  have hF : OkD 3 215 (.list (Ks.map fun k => brD gs k.2.1 k.2.2)) := OkD.list (k := 2) (w := 42) fun d hd => (hD d hd).1
  have er := repr_ok hF (by decide)
  generalize hfd : (Ks.map fun k => brD gs k.2.1 k.2.2) = fd at *
  have lf : fd.length = 5 := by rw [← hfd]; rfl
  show lSeq _ _ [some (dL ns), none, none, none, none, none, none] = _
  rw [lSeq_nx (Γ' := [some (dL ns), some (.list (gs.map dGp)), none, none, none, none, none]) (by
    walk_at "ev"
    rw [eg]
    walk_at "ev")]
  rw [lSeq_nx (Γ' := [some (dL ns), some (.list (gs.map dGp)), some (.list (gs.map dGp)), none, none, none, none]) (by
    walk_at "ev")]
  rw [lSeq_nx (Γ' := [some (dL ns), some (.list (gs.map dGp)), some (.list (gs.map dGp)), some (.list fd), none, none, none]) (by
    walk_at "ev"
    rw [ek]
    walk_at "ev")]
  rw [lSeq_nx (Γ' := [some (dL ns), some (.list (gs.map dGp)), some (.list (gs.map dGp)), some (.list fd), none, none, none]) (by
    walk_at "ev"
    rw [lf]
    walk_at "ev"
    rw [neD_same (plain_gs gs) (depth_gs gs)]
    walk_at "ev")]
  rw [lSeq_nx (Γ' := [some (dL ns), some (.list (gs.map dGp)), some (.list (gs.map dGp)), some (.list fd), none, none, none]) ?_]
  rotate_left
  · walk_at "ev"
    rw [show rng1 (.int 5) = .ok (upN 5) from rng1_nat (n := 5) (by decide)]
    walk_at "ev"
    have z : forR (gN 4) [4] (sIf (eNot (eUn truD (eCall m_law_right [(eVar 1), (eBin ixD (eC con_KINDS) (eVar 4)), (eBin ixD (eVar 3) (eVar 4))]))) (sRet (eC (.bool false))) sNil) (upN 5) [some (dL ns), some (.list (gs.map dGp)), some (.list (gs.map dGp)), some (.list fd), none, none, none] = .ok (.nx [some (dL ns), some (.list (gs.map dGp)), some (.list (gs.map dGp)), some (.list fd), none, none, none]) := by
      refine (bind_id _).symm.trans ?_
      refine forR_bind (fun _ => [some (dL ns), some (.list (gs.map dGp)), some (.list (gs.map dGp)), some (.list fd), none, none, none]) rfl (fun i x hx => ?_) rfl
      obtain ⟨hi, rfl⟩ := upN_get hx
      have hk : ∃ k, Ks[i]? = some k := ⟨_, List.getElem?_eq_getElem (show i < Ks.length from hi)⟩
      obtain ⟨k, hk⟩ := hk
      have e1 : ixD con_KINDS (.int (i : Nat)) = .ok (.str k.1) := by
        have : i = 0 ∨ i = 1 ∨ i = 2 ∨ i = 3 ∨ i = 4 := by omega
        rcases this with rfl | rfl | rfl | rfl | rfl <;> (cases hk; rfl)
      have e2 : ixD (.list fd) (.int (i : Nat)) = .ok (brD gs k.2.1 k.2.2) := by
        refine ixD_list ?_
        rw [← hfd, List.getElem?_map, hk]
        rfl
      walk_at "ev"
      rw [e1]
      walk_at "ev"
      rw [e2]
      walk_at "ev"
      rw [l_right (Ks_ok (List.mem_of_getElem? hk)) hl hg]
      walk_at "ev"
    rw [z]
  rw [lSeq_nx (Γ' := [some (dL ns), some (.list (gs.map dGp)), some (.list (gs.map dGp)), some (.list fd), none, some (.str (PyData.list fd).shown), none]) (by
    walk_at "ev"
    rw [er]
    walk_at "ev")]
  unfold lTail
  show gd _ (match sRet (eBin eqS (eFn reprF [(eCall m_kinds [(eVar 1)])]) (eVar 5)) [none, some (.list (gs.map dGp)), none, none, none, some (.str (PyData.list fd).shown), none] with | .ok (.rt (.bool b)) => .ok b | _ => .bad) = _
  have e9 : sRet (eBin eqS (eFn reprF [(eCall m_kinds [(eVar 1)])]) (eVar 5)) [none, some (.list (gs.map dGp)), none, none, none, some (.str (PyData.list fd).shown), none] = .ok (.rt (.bool true)) := by
    walk_at "ev"
    rw [ek]
    walk_at "ev"
    rw [er]
    walk_at "ev"
    show (Res.ok (PyData.bool (decide ((PyData.list fd).shown = (PyData.list fd).shown)))).bind _ = _
    rw [decide_eq_true rfl]
    rfl
  rw [e9, gd_pos]
  refine ⟨?_, List.all_eq_true.mpr fun d hd => (hD d hd).2, by omega, by omega, by decide, by decide, (show (1 : Nat) < 7 by decide), (show (5 : Nat) < 7 by decide)⟩
  rw [List.all_map]
  exact List.all_eq_true.mpr fun g _ => rfl
end Law
namespace Law
open PySem PySem.Spec PyProof.Rows L2 L3 Prog
noncomputable def top (i : Nat) : Stmt := PySem.Challenge.pw_gatekin_k42_kinds_of_a_set.main.body.getD i (.Pass ⟨0, 0, 0, 0⟩)
noncomputable abbrev s_row_count : Stmt := top 4
noncomputable abbrev s_bit : Stmt := top 5
noncomputable abbrev s_put_all : Stmt := top 6
noncomputable abbrev s_marked : Stmt := top 9
noncomputable abbrev s_put_rows : Stmt := top 10
noncomputable abbrev s_power : Stmt := top 11
noncomputable abbrev s_list_count : Stmt := top 12
noncomputable abbrev s_lists_of : Stmt := top 13
noncomputable abbrev s_broken : Stmt := top 14
noncomputable abbrev s_kind : Stmt := top 18
noncomputable abbrev s_first_breach : Stmt := top 19
noncomputable abbrev s_kinds : Stmt := top 20
noncomputable abbrev s_law_cell_at : Stmt := top 22
noncomputable abbrev s_law_gate : Stmt := top 23
noncomputable abbrev s_law_keeps : Stmt := top 24
noncomputable abbrev s_law_set : Stmt := top 25
noncomputable abbrev s_law_breaks : Stmt := top 26
noncomputable abbrev s_law_ahead : Stmt := top 27
noncomputable abbrev s_law_right : Stmt := top 28
noncomputable abbrev s_law : Stmt := top 29
theorem sc_row_count : FnScope ["inputs", "count", "j"] ["inputs"] (defScope s_row_count) := sck
theorem sc_bit : FnScope ["number", "place"] ["number", "place"] (defScope s_bit) := sck
theorem sc_put_all : FnScope ["gate", "numbers", "full", "given", "number"] ["gate", "numbers", "full"] (defScope s_put_all) := sck
theorem sc_marked : FnScope ["rows", "marks", "row"] ["rows"] (defScope s_marked) := sck
theorem sc_put_rows : FnScope ["gate", "rows", "width"] ["gate", "rows", "width"] (defScope s_put_rows) := sck
theorem sc_power : FnScope ["base", "exponent", "product", "j"] ["base", "exponent"] (defScope s_power) := sck
theorem sc_list_count : FnScope ["count", "gates"] ["count", "gates"] (defScope s_list_count) := sck
theorem sc_lists_of : FnScope ["choices", "lists", "rows", "longer", "chosen", "row"] ["choices"] (defScope s_lists_of) := sck
theorem sc_broken : FnScope ["gate", "relation", "width", "rows", "marks", "chosen"] ["gate", "relation"] (defScope s_broken) := sck
theorem sc_kind : FnScope ["name"] ["name"] (defScope s_kind) := sck
theorem sc_first_breach : FnScope ["gates", "relation", "number", "gate", "rows"] ["gates", "relation"] (defScope s_first_breach) := sck
theorem sc_kinds : FnScope ["gates"] ["gates"] (defScope s_kinds) := sck
theorem sc_law_cell_at : FnScope ["_law_script", "_law_k"] ["_law_script", "_law_k"] (defScope s_law_cell_at) := sck
theorem sc_law_gate : FnScope ["_law_cell", "_law_inputs", "_law_some"] ["_law_cell"] (defScope s_law_gate) := sck
theorem sc_law_keeps : FnScope ["_law_gate_here", "_law_name", "_law_rows", "_law_values", "_law_row", "_law_total", "_law_k"] ["_law_gate_here", "_law_name"] (defScope s_law_keeps) := sck
theorem sc_law_set : FnScope ["_law_script", "_law_start", "_law_first", "_law_name", "_law_good", "_law_found", "_law_k", "_law_gate_here"] ["_law_script", "_law_start"] (defScope s_law_set) := sck
theorem sc_law_breaks : FnScope ["_law_gate_here", "_law_rows", "_law_bond", "_law_found", "_law_column", "_law_at"] ["_law_gate_here", "_law_rows", "_law_bond"] (defScope s_law_breaks) := sck
theorem sc_law_ahead : FnScope ["_law_rows", "_law_bond", "_law_found", "_law_k", "_law_wider", "_law_some"] ["_law_rows", "_law_bond"] (defScope s_law_ahead) := sck
theorem sc_law_right : FnScope ["_law_gates", "_law_name", "_law_told", "_law_first", "_law_gate_here", "_law_bond"] ["_law_gates", "_law_name", "_law_told"] (defScope s_law_right) := sck
theorem sc_law : FnScope ["_law_script", "_law_gates", "_law_handed", "_law_found", "_law_k", "_law_kept", "_law_one"] ["_law_script"] (defScope s_law) := sck
section
variable (P : Program) (w : World) (K : PySem.W.Frag) (mg : Str → Option Value) (base : Heap)
noncomputable abbrev Df0 := Def P w K mg base 1 "row_count" ["inputs"] (spF K [.bor] .f m_row_count)
noncomputable abbrev Df1 := Def P w K mg base 1 "bit" ["number", "place"] (spF K [.bor, .bor] .f m_bit)
noncomputable abbrev Df2 := Def P w K mg base 2 "put_all" ["gate", "numbers", "full"] (spF K [.bor, .bor, .bor] .f m_put_all)
noncomputable abbrev Df3 := Def P w K mg base 1 "marked" ["rows"] (spF K [.bor] .t m_marked)
noncomputable abbrev Df4 := Def P w K mg base 3 "put_rows" ["gate", "rows", "width"] (spF K [.bor, .bor, .bor] .f m_put_rows)
noncomputable abbrev Df5 := Def P w K mg base 1 "power" ["base", "exponent"] (spF K [.bor, .bor] .f m_power)
noncomputable abbrev Df6 := Def P w K mg base 2 "list_count" ["count", "gates"] (spF K [.bor, .bor] .f m_list_count)
noncomputable abbrev Df7 := Def P w K mg base 1 "lists_of" ["choices"] (spF K [.bor] .f m_lists_of)
noncomputable abbrev Df8 := Def P w K mg base 4 "broken" ["gate", "relation"] (spF K [.imm, .bor] .f m_broken)
noncomputable abbrev Df9 := Def P w K mg base 1 "kind" ["name"] (spF K [.bor] .f m_kind)
noncomputable abbrev Df10 := Def P w K mg base 5 "first_breach" ["gates", "relation"] (spF K [.bor, .bor] .f m_first_breach)
noncomputable abbrev Df11 := Def P w K mg base 6 "kinds" ["gates"] (spF K [.bor] .t m_kinds)
noncomputable abbrev Df12 := Def P w K mg base 1 "_law_cell_at" ["_law_script", "_law_k"] (spF K [.bor, .bor] .f m_law_cell_at)
noncomputable abbrev Df13 := Def P w K mg base 1 "_law_gate" ["_law_cell"] (spF K [.imm] .f m_law_gate)
noncomputable abbrev Df14 := Def P w K mg base 1 "_law_keeps" ["_law_gate_here", "_law_name"] (spF K [.bor, .bor] .f m_law_keeps)
noncomputable abbrev Df15 := Def P w K mg base 2 "_law_set" ["_law_script", "_law_start"] (spF K [.bor, .bor] .t m_law_set)
noncomputable abbrev Df16 := Def P w K mg base 1 "_law_breaks" ["_law_gate_here", "_law_rows", "_law_bond"] (spF K [.bor, .bor, .bor] .f m_law_breaks)
noncomputable abbrev Df17 := Def P w K mg base 1 "_law_ahead" ["_law_rows", "_law_bond"] (spF K [.bor, .bor] .t m_law_ahead)
noncomputable abbrev Df18 := Def P w K mg base 2 "_law_right" ["_law_gates", "_law_name", "_law_told"] (spF K [.bor, .bor, .bor] .f m_law_right)
end
section
variable (P : Program) (w : World) {K : PySem.W.Frag} {mg : Str → Option Value} (base : Heap)
theorem bb_bool : bootBuiltins "bool" = some (.type "bool") := by decide +kernel
theorem bb_len : bootBuiltins "len" = some (.builtin "len") := by decide +kernel
theorem bb_list : bootBuiltins "list" = some (.type "list") := by decide +kernel
theorem bb_repr : bootBuiltins "repr" = some (.builtin "repr") := by decide +kernel
theorem bb_sum : bootBuiltins "sum" = some (.builtin "sum") := by decide +kernel
theorem bb_tuple : bootBuiltins "tuple" = some (.type "tuple") := by decide +kernel
theorem ok_row_count (F : At K mg "row_count" s_row_count ["inputs"]) (z_range : mg "range" = none) : Df0 P w K mg base :=
  def_k (N := ["inputs", "count", "j"]) [.bor, .imm, .imm] F sc_row_count fun f cdv A outer s H E hr =>
  (ss_c (ss_sA 1 sc_row_count.nd se_int)
    (ss_c (ss_fO [2] (si_range1 rfl z_range (sp_var 0)) (sg_n 2 sc_row_count.nd) (ss_one (ss_sA 1 sc_row_count.nd (se_bin od_mul sI (sp_var 1)))))
    (ss_one (ss_ret (se_var 1)))))
theorem ok_bit (F : At K mg "bit" s_bit ["number", "place"]) : Df1 P w K mg base :=
  def_k (N := ["number", "place"]) [.bor, .bor] F sc_bit fun f cdv A outer s H E hr =>
  (ss_one (ss_ret (se_bin od_and (sp (se_bin od_shr (sp_var 0) (sp_var 1))) sI)))
theorem ok_put_all (F : At K mg "put_all" s_put_all ["gate", "numbers", "full"]) (d_bit : Df1 P w K mg base) (d_row_count : Df0 P w K mg base) (z_len : mg "len" = none) (z_range : mg "range" = none) : Df2 P w K mg base :=
  def_k (N := ["gate", "numbers", "full", "given", "number"]) [.bor, .bor, .bor, .imm, .imm] F sc_put_all fun f cdv A outer s H E hr =>
  (ss_c (ss_sA 3 sc_put_all.nd (sfe (sf_comp ["place"] [2, 0] (Ob := [.imm, .bor, .bor]) (O1 := [.imm, .bor, .bor]) (is := [0]) rfl rfl rfl rfl (by decide) (sc_range1 rfl z_range (sp (se_k d_row_count hr (sa_bor (sp (sx 0)) sa_nil)))) (fun _ _ _ _ _ => (sg_name 0 (show List.Nodup (["place", "full", "gate"] : List Str) by decide +kernel) rfl (Or.inl rfl))) (fun _ _ _ _ _ => sifs_nil) (fun _ _ _ _ _ => (se_bin od_mul (sp_var 1) (sp (se_k d_bit hr (sa_bor (sp (sx 2)) (sa_v 0 sa_nil)))))))))
    (ss_c (ss_fO [4] (si_seq (sq_var 1)) (sg_n 4 sc_put_all.nd) (ss_one (ss_sA 3 sc_put_all.nd (sfe (sf_comp ["k"] [3, 4] (Ob := [.imm, .imm, .imm]) (O1 := [.imm, .imm, .imm]) (is := [0]) rfl rfl rfl rfl (by decide) (sc_range3 rfl z_range sI (sp (se_callB cd_len rfl z_len bb_len (sa_v 3 sa_nil))) sI) (fun _ _ _ _ _ => (sg_name 0 (show List.Nodup (["k", "given", "number"] : List Str) by decide +kernel) rfl (Or.inl rfl))) (fun _ _ _ _ _ => sifs_nil) (fun _ _ _ _ _ => (se_bin od_or (sp (se_bin od_and (sp (se_i (sp_var 1) (sp_var 0))) (sp (se_inv (sp_var 2))))) (sp (se_bin od_and (sp (se_i (sp_var 1) (sp (se_bin od_add (sp_var 0) sI)))) (sp_var 2))))))))))
    (ss_one (ss_ret (sx 3)))))
theorem ok_marked (F : At K mg "marked" s_marked ["rows"]) : Df3 P w K mg base :=
  def_k (N := ["rows", "marks", "row"]) [.bor, .own, .imm] F sc_marked fun f cdv A outer s H E hr =>
  (ss_c (ss_sF 1 sc_marked.nd sf_dct0)
    (ss_c (ss_fO [2] (si_seq (sq_var 0)) (sg_n 2 sc_marked.nd) (ss_one (ss_dput 1 hr.units2 (se_var 2) se_bl)))
    (ss_one (ss_retO 1))))
theorem ok_put_rows (F : At K mg "put_rows" s_put_rows ["gate", "rows", "width"]) (d_put_all : Df2 P w K mg base) (d_row_count : Df0 P w K mg base) : Df4 P w K mg base :=
  def_k (N := ["gate", "rows", "width"]) [.bor, .bor, .bor] F sc_put_rows fun f cdv A outer s H E hr =>
  (ss_one (ss_ret (se_k d_put_all hr (sa_v 0 (sa_v 1 (sa_bor (sp (se_bin od_sub (sp (se_k d_row_count hr (sa_v 2 sa_nil))) sI)) sa_nil))))))
theorem ok_power (F : At K mg "power" s_power ["base", "exponent"]) (z_range : mg "range" = none) : Df5 P w K mg base :=
  def_k (N := ["base", "exponent", "product", "j"]) [.bor, .bor, .imm, .imm] F sc_power fun f cdv A outer s H E hr =>
  (ss_c (ss_sA 2 sc_power.nd se_int)
    (ss_c (ss_fO [3] (si_range1 rfl z_range (sp_var 1)) (sg_n 3 sc_power.nd) (ss_one (ss_sA 2 sc_power.nd (se_bin od_mul (sp_var 0) (sp_var 2)))))
    (ss_one (ss_ret (se_var 2)))))
theorem ok_list_count (F : At K mg "list_count" s_list_count ["count", "gates"]) (d_power : Df5 P w K mg base) (z_sum : mg "sum" = none) : Df6 P w K mg base :=
  def_k (N := ["count", "gates"]) [.bor, .bor] F sc_list_count fun f cdv A outer s H E hr =>
  (ss_one (ss_ret (se_callB (cd_sum rfl) rfl z_sum bb_sum (sa_bor (sfp (sf_comp ["gate"] [0] (Ob := [.imm, .bor]) (O1 := [.imm, .bor]) (is := [0]) rfl rfl rfl rfl (by decide) (sc_seq (sp_var 1)) (fun _ _ _ _ _ => (sg_name 0 (show List.Nodup (["gate", "count"] : List Str) by decide +kernel) rfl (Or.inl rfl))) (fun _ _ _ _ _ => sifs_nil) (fun _ _ _ _ _ => (se_k d_power hr (sa_v 1 (sa_bor (sp (sx 0)) sa_nil)))))) sa_nil))))
theorem ok_lists_of (F : At K mg "lists_of" s_lists_of ["choices"]) : Df7 P w K mg base :=
  def_k (N := ["choices", "lists", "rows", "longer", "chosen", "row"]) [.bor, .imm, .imm, .own, .imm, .imm] F sc_lists_of fun f cdv A outer s H E hr =>
  (ss_cons (O1 := [.bor, .imm, .imm, .own, .imm, .imm]) (ss_sA 1 sc_lists_of.nd (sfe (sf_lst (si_cons (sfe (sf_lst si_nil)) si_nil))))
    (ss_cons (O1 := [.bor, .imm, .imm, .own, .imm, .imm]) (ss_for PassesOwn.never rfl [2, 3, 4, 5] (Oe := [.bor, .imm, .imm, .imm, .imm, .imm]) (si_seq (sq_var 0)) (sg_n 2 sc_lists_of.nd) (ss_cons (O1 := [.bor, .imm, .imm, .own, .imm, .imm]) (ss_sF 3 sc_lists_of.nd (sf_lst si_nil))
    (ss_cons (O1 := [.bor, .imm, .imm, .own, .imm, .imm]) (ss_for PassesOwn.never rfl [4, 5] (Oe := [.bor, .imm, .imm, .own, .imm, .imm]) (si_seq (sq_var 1)) (sg_n 4 sc_lists_of.nd) (ss_one (ss_for PassesOwn.never rfl [5] (Oe := [.bor, .imm, .imm, .own, .imm, .imm]) (si_seq (sq_var 2)) (sg_n 5 sc_lists_of.nd) (ss_one (ss_app 3 (se_bin od_add (sp_var 4) (sfp (sf_lst (si_cons (se_var 5) si_nil)))))) (by decide))) (by decide))
    (ss_one (s1_frz 3 (O2 := [.bor, .imm, .imm, .imm, .imm, .imm]) (ss_sA 1 sc_lists_of.nd (se_var 3)))))) (by decide))
    (ss_one (ss_ret (se_var 1)))))
theorem ok_broken (F : At K mg "broken" s_broken ["gate", "relation"]) (d_marked : Df3 P w K mg base) (d_lists_of : Df7 P w K mg base) (d_list_count : Df6 P w K mg base) (d_put_rows : Df4 P w K mg base) (z_len : mg "len" = none) {v_MOST_LISTS : Value} (g_MOST_LISTS : mg "MOST_LISTS" = some v_MOST_LISTS) (r_MOST_LISTS : RelV (.int 20000) v_MOST_LISTS) : Df8 P w K mg base :=
  def_k (N := ["gate", "relation", "width", "rows", "marks", "chosen"]) [.imm, .bor, .imm, .imm, .imm, .imm] F sc_broken fun f cdv A outer s H E hr =>
  (ss_c (ss_sA 2 sc_broken.nd (sx 1))
    (ss_c (ss_sA 3 sc_broken.nd (sx 1))
    (ss_c (ss_if (st_c od_gt (sp (se_k d_list_count hr (sa_bor (sp (se_callB cd_len rfl z_len bb_len (sa_v 3 sa_nil))) (sa_bor (sfp (sf_lst (si_cons (se_var 0) si_nil))) sa_nil)))) (sp (se_glob rfl g_MOST_LISTS r_MOST_LISTS (fun _ => Rp.int.mpr rfl)))) (ss_one ss_bad) ss_nil)
    (ss_c (ss_sA 4 sc_broken.nd (sfe (sf_k d_marked hr (sa_v 3 sa_nil))))
    (ss_c (ss_fO [5] (si_seq (sq (se_k d_lists_of hr (sa_bor (sfp (sf_rep (sf_lst (si_cons (se_var 3) si_nil)) (sp (sx 0)))) sa_nil)))) (sg_n 5 sc_broken.nd) (ss_one (ss_if (st_cmp (od_notInY hr.units2) (sp (se_k d_put_rows hr (sa_v 0 (sa_v 5 (sa_v 2 sa_nil))))) (sp_var 4) rfl) (ss_one (ss_ret (se_var 5))) ss_nil)))
    (ss_one (ss_ret se_non)))))))
theorem ok_kind (F : At K mg "kind" s_kind ["name"]) {a_RELATIONS : Addr} (g_RELATIONS : mg "RELATIONS" = some (.ref a_RELATIONS)) (r_RELATIONS : tabB K a_RELATIONS tab_RELATIONS = true) : Df9 P w K mg base :=
  def_k (N := ["name"]) [.bor] F sc_kind fun f cdv A outer s H E hr =>
  (ss_one (ss_ret (se_tab rfl g_RELATIONS r_RELATIONS (sp_var 0) (fun _ _ => rfl))))
theorem ok_first_breach (F : At K mg "first_breach" s_first_breach ["gates", "relation"]) (d_broken : Df8 P w K mg base) (z_enumerate : mg "enumerate" = none) : Df10 P w K mg base :=
  def_k (N := ["gates", "relation", "number", "gate", "rows"]) [.bor, .bor, .imm, .imm, .imm] F sc_first_breach fun f cdv A outer s H E hr =>
  (ss_c (ss_fO [2, 3, 4] (si_enum rfl z_enumerate (sq_var 0)) (sg_tup rfl (sgs_c (sg_n 2 sc_first_breach.nd) (sgs_c (sg_n 3 sc_first_breach.nd) sgs_nil))) (ss_c (ss_sA 4 sc_first_breach.nd (se_k d_broken hr (sa_imm (se_var 3) (sa_v 1 sa_nil))))
    (ss_one (ss_if (st_c od_notN (sp_var 4) (sp se_non)) (ss_one (ss_ret (se_tup (si_cons (se_var 2) (si_cons (se_var 4) si_nil))))) ss_nil))))
    (ss_one (ss_ret se_non)))
theorem ok_kinds (F : At K mg "kinds" s_kinds ["gates"]) (d_first_breach : Df10 P w K mg base) (d_kind : Df9 P w K mg base) {v_KINDS : Value} (g_KINDS : mg "KINDS" = some v_KINDS) (r_KINDS : conB K 9 con_KINDS v_KINDS = true) : Df11 P w K mg base :=
  def_k (N := ["gates"]) [.bor] F sc_kinds fun f cdv A outer s H E hr =>
  (ss_one (ss_retF (sf_comp ["name"] [0] (Ob := [.imm, .bor]) (O1 := [.imm, .bor]) (is := [0]) rfl rfl rfl rfl (by decide) (sc_seq (sp (se_con rfl g_KINDS r_KINDS))) (fun _ _ _ _ _ => (sg_name 0 (show List.Nodup (["name", "gates"] : List Str) by decide +kernel) rfl (Or.inl rfl))) (fun _ _ _ _ _ => sifs_nil) (fun _ _ _ _ _ => (se_k d_first_breach hr (sa_v 1 (sa_bor (sp (se_k d_kind hr (sa_v 0 sa_nil))) sa_nil)))))))
theorem ok_law_cell_at (F : At K mg "_law_cell_at" s_law_cell_at ["_law_script", "_law_k"]) (z_len : mg "len" = none) : Df12 P w K mg base :=
  def_k (N := ["_law_script", "_law_k"]) [.bor, .bor] F sc_law_cell_at fun f cdv A outer s H E hr =>
  (ss_c (ss_if (st_c od_lt (sp_var 1) (sp (se_callB cd_len rfl z_len bb_len (sa_v 0 sa_nil)))) (ss_one (ss_ret (se_i (sp_var 0) (sp_var 1)))) ss_nil)
    (ss_c (ss_if (st_c (od_eq hr.units) (sp (se_callB cd_len rfl z_len bb_len (sa_v 0 sa_nil))) sI) (ss_one (ss_ret (se_bin od_add (sp (se_bin od_mul (sp (se_bin od_mul (sp_var 1) (sp_var 1))) sI)) (sp (se_bin od_mul sI (sp_var 1)))))) ss_nil)
    (ss_one (ss_ret (se_bin od_add (sp (se_bin od_fdiv (sp (se_i (sp_var 0) (sp (se_bin od_mod (sp_var 1) (sp (se_callB cd_len rfl z_len bb_len (sa_v 0 sa_nil))))))) (sp (se_bin od_add sI (sp (se_bin od_fdiv (sp_var 1) (sp (se_callB cd_len rfl z_len bb_len (sa_v 0 sa_nil))))))))) (sp (se_bin od_mul (sp (se_bin od_mul (sp_var 1) (sp_var 1))) sI)))))))
theorem ok_law_gate (F : At K mg "_law_gate" s_law_gate ["_law_cell"]) : Df13 P w K mg base :=
  def_k (N := ["_law_cell", "_law_inputs", "_law_some"]) [.imm, .imm, .imm] F sc_law_gate fun f cdv A outer s H E hr =>
  (ss_c (ss_sA 1 sc_law_gate.nd (se_i (sfp (sf_lst (si_i (si_i (si_i (si_i (si_i (si_i (si_i (si_i (si_i (si_i si_nil)))))))))))) (sp (se_bin od_mod (sp_var 0) sI))))
    (ss_c (ss_sA 0 sc_law_gate.nd (se_bin od_fdiv (sp_var 0) sI))
    (ss_c (ss_sA 2 sc_law_gate.nd (sfe (sf_lst (si_i (si_i (si_i (si_i (si_i (si_i (si_i (si_i si_nil)))))))))))
    (ss_c (ss_if (sw_pt (sw_and (st_c (od_eq hr.units) (sp_var 1) sI) (sw_and1 (st_c (od_eq hr.units) (sp (se_bin od_mod (sp_var 0) sI)) sI)))) (ss_one (ss_ret (se_tup (si_i (si_cons (se_i (sp_var 2) (sp (se_bin od_mod (sp (se_bin od_fdiv (sp_var 0) sI)) sI))) si_nil))))) ss_nil)
    (ss_one (ss_ret (se_tup (si_cons (se_var 1) (si_cons (se_bin od_mod (sp (se_bin od_add (sp (se_bin od_mul (sp (se_bin od_fdiv (sp_var 0) sI)) sI)) (sp_var 0))) (sp (se_i (sfp (sf_lst (si_i (si_i (si_i (si_i (si_i si_nil))))))) (sp_var 1)))) si_nil)))))))))
theorem ok_law_keeps (F : At K mg "_law_keeps" s_law_keeps ["_law_gate_here", "_law_name"]) (z_range : mg "range" = none) : Df14 P w K mg base :=
  def_k (N := ["_law_gate_here", "_law_name", "_law_rows", "_law_values", "_law_row", "_law_total", "_law_k"]) [.bor, .bor, .imm, .imm, .imm, .imm, .imm] F sc_law_keeps fun f cdv A outer s H E hr =>
  (ss_c (ss_sA 2 sc_law_keeps.nd (se_bin od_shl sI (sp (sx 0))))
    (ss_c (ss_sA 3 sc_law_keeps.nd (sfe (sf_comp ["_law_row"] [0] (Ob := [.imm, .bor]) (O1 := [.imm, .bor]) (is := [0]) rfl rfl rfl rfl (by decide) (sc_range1 rfl z_range (sp_var 2)) (fun _ _ _ _ _ => (sg_name 0 (show List.Nodup (["_law_row", "_law_gate_here"] : List Str) by decide +kernel) rfl (Or.inl rfl))) (fun _ _ _ _ _ => sifs_nil) (fun _ _ _ _ _ => (se_bin od_and (sp (se_bin od_shr (sp (sx 1)) (sp_var 0))) sI)))))
    (ss_c (ss_if (st_c (od_eq hr.units) (sp_var 1) (sp se_str)) (ss_one (ss_ret (se_cmp (od_eq hr.units) (sp (sx 3)) sI (nomark _)))) ss_nil)
    (ss_c (ss_if (st_c (od_eq hr.units) (sp_var 1) (sp se_str)) (ss_one (ss_ret (se_cmp (od_eq hr.units) (sp (se_i (sp_var 3) (sp (se_bin od_sub (sp_var 2) sI)))) sI (nomark _)))) ss_nil)
    (ss_c (ss_if (st_c (od_eq hr.units) (sp_var 1) (sp se_str)) (ss_one (ss_ret (se_cmp (od_eq hr.units) (sfp (sf_comp ["_law_row"] [3, 2] (Ob := [.imm, .imm, .imm]) (O1 := [.imm, .imm, .imm]) (is := [0]) rfl rfl rfl rfl (by decide) (sc_range1 rfl z_range (sp_var 2)) (fun _ _ _ _ _ => (sg_name 0 (show List.Nodup (["_law_row", "_law_values", "_law_rows"] : List Str) by decide +kernel) rfl (Or.inl rfl))) (fun _ _ _ _ _ => (sifs_one (st_c (od_eq hr.units) (sp (se_i (sp_var 1) (sp_var 0))) (sp (se_i (sp_var 1) (sp (se_bin od_sub (sp (se_bin od_sub (sp_var 2) sI)) (sp_var 0)))))))) (fun _ _ _ _ _ => (se_var 0)))) (sfp (sf_lst si_nil)) (nomark _)))) ss_nil)
    (ss_c (ss_fO [4, 5, 6] (si_range1 rfl z_range (sp_var 2)) (sg_n 4 sc_law_keeps.nd) (ss_c (ss_sA 5 sc_law_keeps.nd (sx 3))
    (ss_c (ss_fO [6] (si_range1 rfl z_range (sp (sx 0))) (sg_n 6 sc_law_keeps.nd) (ss_c (ss_if (sw_pt (sw_and (st_c (od_eq hr.units) (sp_var 1) (sp se_str)) (sw_and1 (st_c od_gt (sp (se_i (sp_var 3) (sp_var 4))) (sp (se_i (sp_var 3) (sp (se_bin od_or (sp_var 4) (sp (se_bin od_shl sI (sp_var 6))))))))))) (ss_one (ss_ret se_bl)) ss_nil)
    (ss_one (ss_sA 5 sc_law_keeps.nd (se_bin od_add (sp_var 5) (sp (se_bin od_mul (sp (se_bin od_and (sp (se_bin od_shr (sp_var 4) (sp_var 6))) sI)) (sp (se_bin od_add (sp (se_i (sp_var 3) (sp (se_bin od_shl sI (sp_var 6))))) (sp (sx 3)))))))))))
    (ss_one (ss_if (sw_pt (sw_and (st_c (od_eq hr.units) (sp_var 1) (sp se_str)) (sw_and1 (st_c (od_ne hr.units) (sp (se_bin od_mod (sp_var 5) sI)) (sp (se_i (sp_var 3) (sp_var 4))))))) (ss_one (ss_ret se_bl)) ss_nil)))))
    (ss_one (ss_ret se_bl))))))))
theorem ok_law_set (F : At K mg "_law_set" s_law_set ["_law_script", "_law_start"]) (d__law_cell_at : Df12 P w K mg base) (d__law_gate : Df13 P w K mg base) (d__law_keeps : Df14 P w K mg base) (z_list : mg "list" = none) (z_range : mg "range" = none) : Df15 P w K mg base :=
  def_k (N := ["_law_script", "_law_start", "_law_first", "_law_name", "_law_good", "_law_found", "_law_k", "_law_gate_here"]) [.bor, .bor, .imm, .imm, .imm, .own, .imm, .imm] F sc_law_set fun f cdv A outer s H E hr =>
  (ss_c (ss_sA 2 sc_law_set.nd (se_k d__law_cell_at hr (sa_v 0 (sa_v 1 sa_nil))))
    (ss_c (ss_sA 3 sc_law_set.nd (se_i (sfp (sf_lst (si_cons se_str (si_cons se_str (si_cons se_str (si_cons se_str (si_cons se_str si_nil))))))) (sp (se_bin od_mod (sp (se_bin od_fdiv (sp_var 2) sI)) sI))))
    (ss_c (ss_sA 4 sc_law_set.nd (sfe (sf_lst (si_cons (sfe (sf_lst (si_cons (se_tup (si_i (si_i si_nil))) si_nil))) (si_cons (sfe (sf_lst (si_cons (se_tup (si_i (si_i si_nil))) si_nil))) (si_cons (sfe (sf_lst (si_cons (se_tup (si_i (si_i si_nil))) (si_cons (se_tup (si_i (si_i si_nil))) si_nil)))) (si_cons (sfe (sf_lst (si_cons (se_tup (si_i (si_i si_nil))) (si_cons (se_tup (si_i (si_i si_nil))) si_nil)))) (si_cons (sfe (sf_lst (si_cons (se_tup (si_i (si_i si_nil))) (si_cons (se_tup (si_i (si_i si_nil))) (si_cons (se_tup (si_i (si_i si_nil))) si_nil))))) (si_cons (sfe (sf_lst (si_cons (se_tup (si_i (si_i si_nil))) (si_cons (se_tup (si_i (si_i si_nil))) si_nil)))) si_nil)))))))))
    (ss_c (ss_sA 4 sc_law_set.nd (se_bin od_add (sp_var 4) (sfp (sf_lst (si_cons (sfe (sf_lst (si_cons (se_tup (si_i (si_i si_nil))) (si_cons (se_tup (si_i (si_i si_nil))) si_nil)))) (si_cons (sfe (sf_lst (si_cons (se_tup (si_i (si_i si_nil))) (si_cons (se_tup (si_i (si_i si_nil))) si_nil)))) (si_cons (sfe (sf_lst (si_cons (se_tup (si_i (si_i si_nil))) (si_cons (se_tup (si_i (si_i si_nil))) (si_cons (se_tup (si_i (si_i si_nil))) si_nil))))) (si_cons (sfe (sf_lst (si_cons (se_tup (si_i (si_i si_nil))) (si_cons (se_tup (si_i (si_i si_nil))) si_nil)))) (si_cons (sfe (sf_lst (si_cons (se_tup (si_i (si_i si_nil))) si_nil))) si_nil)))))))))
    (ss_c (ss_if (st_c (od_eq hr.units) (sp (se_bin od_mod (sp_var 2) sI)) sI) (ss_one (ss_retF (sf_callTy cf_list rfl z_list bb_list (sa_bor (sp (se_i (sp_var 4) (sp (se_bin od_mod (sp (se_bin od_fdiv (sp_var 2) sI)) sI)))) sa_nil)))) ss_nil)
    (ss_c (ss_sF 5 sc_law_set.nd (sf_lst si_nil))
    (ss_c (ss_fO [6, 7] (si_range1 rfl z_range (sp (se_bin od_mod (sp (se_bin od_fdiv (sp_var 2) sI)) sI))) (sg_n 6 sc_law_set.nd) (ss_c (ss_sA 7 sc_law_set.nd (se_k d__law_gate hr (sa_imm (se_k d__law_cell_at hr (sa_v 0 (sa_bor (sp (se_bin od_add (sp (se_bin od_add (sp_var 1) sI)) (sp_var 6))) sa_nil))) sa_nil)))
    (ss_c (ss_if (sw_pt (sw_and (st_c od_lt (sp (se_bin od_mod (sp_var 2) sI)) sI) (sw_and1 (st_not (st_tru (sp (se_k d__law_keeps hr (sa_v 7 (sa_v 3 sa_nil))))))))) (ss_one (ss_sA 7 sc_law_set.nd (se_ixY hr.units2 (sp (se_dctN (DRows.cons (se_tup (si_i (si_i si_nil))) (DRows.cons (se_tup (si_i (si_i si_nil))) (DRows.cons (se_tup (si_i (si_i si_nil))) (DRows.cons (se_tup (si_i (si_i si_nil))) (DRows.cons (se_tup (si_i (si_i si_nil))) DRows.nil))))) (by decide +kernel) (fun z => nomatch z) (by decide))) (sp_var 3) (fun _ _ => rfl)))) ss_nil)
    (ss_one (ss_app 5 (se_var 7))))))
    (ss_one (ss_retO 5)))))))))
theorem ok_law_breaks (F : At K mg "_law_breaks" s_law_breaks ["_law_gate_here", "_law_rows", "_law_bond"]) (z_enumerate : mg "enumerate" = none) (z_range : mg "range" = none) (z_sum : mg "sum" = none) : Df16 P w K mg base :=
  def_k (N := ["_law_gate_here", "_law_rows", "_law_bond", "_law_found", "_law_column", "_law_at"]) [.bor, .bor, .bor, .imm, .imm, .imm] F sc_law_breaks fun f cdv A outer s H E hr =>
  (ss_cons (O1 := [.bor, .bor, .bor, .imm, .imm, .imm]) (ss_sA 3 sc_law_breaks.nd se_int)
    (ss_cons (O1 := [.bor, .bor, .bor, .imm, .imm, .imm]) (ss_for PassesOwn.never rfl [4, 5] (Oe := [.bor, .bor, .bor, .imm, .imm, .imm]) (si_range1 rfl z_range (sp (sx 2))) (sg_n 4 sc_law_breaks.nd) (ss_cons (O1 := [.bor, .bor, .bor, .imm, .imm, .imm]) (ss_sA 5 sc_law_breaks.nd (se_callB (cd_sum rfl) rfl z_sum bb_sum (sa_bor (sfp (sf_comp ["_law_k", "_law_row"] [4] (Ob := [.imm, .imm, .imm]) (O1 := [.imm, .imm, .imm]) (is := [0, 1]) rfl rfl rfl rfl (by decide) (sc_enum rfl z_enumerate (sp_var 1)) (fun _ _ _ _ _ => (sg_tup rfl (sgs_cons (O1 := [.imm, .imm, .imm]) (sg_name 0 (show List.Nodup (["_law_k", "_law_row", "_law_column"] : List Str) by decide +kernel) rfl (Or.inl rfl)) (sgs_cons (O1 := [.imm, .imm, .imm]) (sg_name 1 (show List.Nodup (["_law_k", "_law_row", "_law_column"] : List Str) by decide +kernel) rfl (Or.inl rfl)) sgs_nil)))) (fun _ _ _ _ _ => sifs_nil) (fun _ _ _ _ _ => (se_bin od_shl (sp (se_bin od_and (sp (se_bin od_shr (sp_var 1) (sp_var 2))) sI)) (sp_var 0))))) sa_nil)))
    (ss_one (ss_sA 3 sc_law_breaks.nd (se_bin od_or (sp_var 3) (sp (se_bin od_shl (sp (se_bin od_and (sp (se_bin od_shr (sp (sx 0)) (sp_var 5))) sI)) (sp_var 4))))))) (by decide))
    (ss_one (ss_ret (se_cmp (od_notInY hr.units2) (sp_var 3) (sp (sx 2)) rfl)))))
theorem ok_law_ahead (F : At K mg "_law_ahead" s_law_ahead ["_law_rows", "_law_bond"]) (z_len : mg "len" = none) (z_range : mg "range" = none) : Df17 P w K mg base :=
  def_k (N := ["_law_rows", "_law_bond", "_law_found", "_law_k", "_law_wider", "_law_some"]) [.bor, .bor, .imm, .imm, .own, .imm] F sc_law_ahead fun f cdv A outer s H E hr =>
  (ss_cons (O1 := [.bor, .bor, .imm, .imm, .own, .imm]) (ss_sA 2 sc_law_ahead.nd (sfe (sf_lst (si_cons (sfe (sf_lst si_nil)) si_nil))))
    (ss_cons (O1 := [.bor, .bor, .imm, .imm, .own, .imm]) (ss_for PassesOwn.never rfl [3, 4, 5] (Oe := [.bor, .bor, .imm, .imm, .imm, .imm]) (si_range1 rfl z_range (sp (se_callB cd_len rfl z_len bb_len (sa_v 0 sa_nil)))) (sg_n 3 sc_law_ahead.nd) (ss_cons (O1 := [.bor, .bor, .imm, .imm, .own, .imm]) (ss_sF 4 sc_law_ahead.nd (sf_lst si_nil))
    (ss_cons (O1 := [.bor, .bor, .imm, .imm, .own, .imm]) (ss_for PassesOwn.never rfl [5] (Oe := [.bor, .bor, .imm, .imm, .own, .imm]) (si_seq (sq_var 2)) (sg_n 5 sc_law_ahead.nd) (ss_one (ss_ext 4 (sf_comp ["_law_row"] [5] (Ob := [.imm, .imm]) (O1 := [.imm, .imm]) (is := [0]) rfl rfl rfl rfl (by decide) (sc_seq (sp (sx 1))) (fun _ _ _ _ _ => (sg_name 0 (show List.Nodup (["_law_row", "_law_some"] : List Str) by decide +kernel) rfl (Or.inl rfl))) (fun _ _ _ _ _ => sifs_nil) (fun _ _ _ _ _ => (se_bin od_add (sp_var 1) (sfp (sf_lst (si_cons (se_var 0) si_nil)))))))) (by decide))
    (ss_one (s1_frz 4 (O2 := [.bor, .bor, .imm, .imm, .imm, .imm]) (ss_sA 2 sc_law_ahead.nd (se_var 4)))))) (by decide))
    (ss_one (ss_retF (sf_sl (sp_var 2) so_none (so_some (sp (se_indexL hr.units (sp_var 2) (sp_var 0)))))))))
theorem ok_law_right (F : At K mg "_law_right" s_law_right ["_law_gates", "_law_name", "_law_told"]) (d_kind : Df9 P w K mg base) (d__law_breaks : Df16 P w K mg base) (d__law_keeps : Df14 P w K mg base) (d__law_ahead : Df17 P w K mg base) (z_bool : mg "bool" = none) (z_isinstance : mg "isinstance" = none) (z_len : mg "len" = none) (z_list : mg "list" = none) (z_range : mg "range" = none) (z_tuple : mg "tuple" = none) : Df18 P w K mg base :=
  def_k (N := ["_law_gates", "_law_name", "_law_told", "_law_first", "_law_gate_here", "_law_bond"]) [.bor, .bor, .bor, .imm, .imm, .imm] F sc_law_right fun f cdv A outer s H E hr =>
  (ss_cons (O1 := [.bor, .bor, .bor, .own, .imm, .imm]) (ss_setC 3 ["_law_k"] [0, 1] (Ob := [.imm, .bor, .bor]) (O1 := [.imm, .bor, .bor]) (is := [0]) sc_law_right.nd rfl (Or.inl rfl) rfl rfl rfl rfl (by decide) (sc_range1 rfl z_range (sp (se_callB cd_len rfl z_len bb_len (sa_v 0 sa_nil)))) (fun _ _ _ _ _ => (sg_name 0 (show List.Nodup (["_law_k", "_law_gates", "_law_name"] : List Str) by decide +kernel) rfl (Or.inl rfl))) (fun _ _ _ _ _ => (sifs_one (st_not (st_tru (sp (se_k d__law_keeps hr (sa_bor (sp (se_i (sp_var 1) (sp_var 0))) (sa_v 2 sa_nil)))))))) (fun _ _ _ _ _ => (se_var 0)))
    (ss_cons (O1 := [.bor, .bor, .bor, .own, .imm, .imm]) (ss_if (st_c (od_eq hr.units) (sp_var 3) (sfp (sf_lst si_nil))) (ss_one (ss_ret (se_cmp od_isN (sp_var 2) (sp se_non) (nomark _)))) ss_nil)
    (ss_cons (O1 := [.bor, .bor, .bor, .own, .imm, .imm]) (ss_if (sw_pt (sw_or (st_not (st_val (se_isi isi_tuple rfl z_isinstance (sp_var 2) (pe_ty rfl z_tuple bb_tuple)))) (sw_or (st_c (od_ne hr.units) (sp (se_callB cd_len rfl z_len bb_len (sa_v 2 sa_nil))) sI) (sw_or (st_val (se_isi isi_bool rfl z_isinstance (sp (sx 2)) (pe_ty rfl z_bool bb_bool))) (sw_or1 (st_c (od_ne hr.units) (sp (sx 2)) (sp (sx 3)))))))) (ss_one (ss_ret se_bl)) ss_nil)
    (ss_cons (O1 := [.bor, .bor, .bor, .own, .imm, .imm]) (ss_sA 4 sc_law_right.nd (se_i (sp_var 0) (sp (sx 3))))
    (ss_cons (O1 := [.bor, .bor, .bor, .own, .imm, .imm]) (ss_sA 5 sc_law_right.nd (se_k d_kind hr (sa_v 1 sa_nil)))
    (ss_cons (O1 := [.bor, .bor, .bor, .own, .imm, .imm]) (ss_if (sw_pt (sw_or (st_not (st_val (se_isi isi_list rfl z_isinstance (sp (sx 2)) (pe_ty rfl z_list bb_list)))) (sw_or1 (st_c (od_ne hr.units) (sp (se_callB cd_len rfl z_len bb_len (sa_bor (sp (sx 2)) sa_nil))) (sp (sx 4)))))) (ss_one (ss_ret se_bl)) ss_nil)
    (ss_cons (O1 := [.bor, .bor, .bor, .own, .imm, .imm]) (ss_if (st_c (od_ne hr.units) (sfp (sf_comp ["_law_row"] [5] (Ob := [.imm, .imm]) (O1 := [.imm, .imm]) (is := [0]) rfl rfl rfl rfl (by decide) (sc_seq (sp (sx 2))) (fun _ _ _ _ _ => (sg_name 0 (show List.Nodup (["_law_row", "_law_bond"] : List Str) by decide +kernel) rfl (Or.inl rfl))) (fun _ _ _ _ _ => (sifs_one (sw_pt (sw_or (st_val (se_isi isi_bool rfl z_isinstance (sp_var 0) (pe_ty rfl z_bool bb_bool))) (sw_or1 (st_cmp (od_notInY hr.units2) (sp_var 0) (sp (sx 1)) rfl)))))) (fun _ _ _ _ _ => (se_var 0)))) (sfp (sf_lst si_nil))) (ss_one (ss_ret se_bl)) ss_nil)
    (ss_cons (O1 := [.bor, .bor, .bor, .own, .imm, .imm]) (ss_if (st_not (st_tru (sp (se_k d__law_breaks hr (sa_v 4 (sa_bor (sp (sx 2)) (sa_v 5 sa_nil))))))) (ss_one (ss_ret se_bl)) ss_nil)
    (ss_one (ss_ret (se_cmp (od_eq hr.units) (sfp (sf_comp ["_law_some"] [4, 5] (Ob := [.imm, .imm, .imm]) (O1 := [.imm, .imm, .imm]) (is := [0]) rfl rfl rfl rfl (by decide) (sc_seq (sfp (sf_k d__law_ahead hr (sa_bor (sp (sx 2)) (sa_v 5 sa_nil))))) (fun _ _ _ _ _ => (sg_name 0 (show List.Nodup (["_law_some", "_law_gate_here", "_law_bond"] : List Str) by decide +kernel) rfl (Or.inl rfl))) (fun _ _ _ _ _ => (sifs_one (st_tru (sp (se_k d__law_breaks hr (sa_v 1 (sa_v 0 (sa_v 2 sa_nil)))))))) (fun _ _ _ _ _ => (se_var 0)))) (sfp (sf_lst si_nil)) (nomark _))))))))))))
theorem ok_law {fa : Addr} {fd : FuncData} (F : Fun K "law" "law" s_law fa fd) (d__law_set : Df15 P w K mg base) (d_kinds : Df11 P w K mg base) (d__law_right : Df18 P w K mg base) (z_isinstance : mg "isinstance" = none) (z_len : mg "len" = none) (z_list : mg "list" = none) (z_range : mg "range" = none) (z_repr : mg "repr" = none) {v_KINDS : Value} (g_KINDS : mg "KINDS" = some v_KINDS) (r_KINDS : conB K 9 con_KINDS v_KINDS = true) (hK : NoLst K) : FnOk P w K mg base CX0 7 fa fd ["_law_script"] (spL K [.bor] m_law) :=
  def_okL (N := ["_law_script", "_law_gates", "_law_handed", "_law_found", "_law_k", "_law_kept", "_law_one"]) (fs := [.bor]) (O := [.bor, .own, .imm, .own, .imm, .imm, .imm]) F sc_law rfl (by decide) (by decide) fun f cdv A outer s H E hr =>
  (sl_cons (Ol := []) (O1 := [.bor, .own, .imm, .own, .imm, .imm, .imm]) (ss_sF 1 sc_law.nd (sf_k d__law_set hr (sa_v 0 (sa_bor sI sa_nil))))
    (sl_cons (Ol := []) (O1 := [.bor, .own, .imm, .own, .imm, .imm, .imm]) (ss_sA 2 sc_law.nd (sfe (sf_callTy cf_list rfl z_list bb_list (sa_v 1 sa_nil))))
    (sl_cons (Ol := []) (O1 := [.bor, .own, .imm, .own, .imm, .imm, .imm]) (ss_sF 3 sc_law.nd (sf_k d_kinds hr (sa_v 2 sa_nil)))
    (sl_cons (Ol := []) (O1 := [.bor, .own, .imm, .own, .imm, .imm, .imm]) (ss_if (sw_pt (sw_or (st_not (st_val (se_isi isi_list rfl z_isinstance (sp_var 3) (pe_ty rfl z_list bb_list)))) (sw_or (st_c (od_ne hr.units) (sp (se_callB cd_len rfl z_len bb_len (sa_v 3 sa_nil))) sI) (sw_or1 (st_c (od_ne hr.units) (sp_var 2) (sp_var 1)))))) (ss_one (ss_ret se_bl)) ss_nil)
    (sl_cons (Ol := []) (O1 := [.bor, .own, .imm, .own, .imm, .imm, .imm]) (ss_fO [4] (si_range1 rfl z_range sI) (sg_n 4 sc_law.nd) (ss_one (ss_if (st_not (st_tru (sp (se_k d__law_right hr (sa_v 1 (sa_bor (sp (se_i (sp (se_con rfl g_KINDS r_KINDS)) (sp_var 4))) (sa_bor (sp (se_i (sp_var 3) (sp_var 4))) sa_nil))))))) (ss_one (ss_ret se_bl)) ss_nil)))
    (sl_cons (Ol := []) (O1 := [.bor, .own, .imm, .own, .imm, .imm, .imm]) (ss_sA 5 sc_law.nd (se_callB (cd_repr hr.gd hr.units) rfl z_repr bb_repr (sa_v 3 sa_nil)))
    (sl_tail (ig := 1) (jf := 3) (iq := 5) (io := 6) (Ol := []) (O' := []) hK PassesOwn.never rfl sc_law.nd rfl rfl rfl rfl (.inl rfl) (by decide) (by decide) (by decide) (by decide) (by decide) rfl rfl rfl (ps_spoil rfl rfl (by decide) (by decide) (fun _ _ => rfl) rfl rfl rfl) rfl rfl rfl (fun _ => rfl)
    (ss_ret (se_cmp od_eqS (sp (se_callB (cd_repr hr.gd hr.units) rfl z_repr bb_repr (sa_bor (sfp (sf_k d_kinds hr (sa_v 1 sa_nil))) sa_nil))) (sp_var 5) (nomark _))))))))))
end
theorem all_mk {l : PySem.W.OpenLaw} {w : World} {K : PySem.W.Frag} {h : Heap} {mg : Str → Option Value} {fa : Addr} (X : K.In h) (G : h.Ns mainGlobals mg) (hfa : mg "law" = some (.ref fa))
    {f19 : Addr} {od19 an19 : Option Addr} {sl19 : Array (Option Value)} {oc19 kV19 dc19 pm19 cd19 ct19 : Value}
    {v_KINDS : Value}
    {t_MOST_LISTS : Tok}
    {v_RELATIONS : Addr}
    (h0 : Fnd K "row_count" s_row_count)
    (h1 : Fnd K "bit" s_bit)
    (h2 : Fnd K "put_all" s_put_all)
    (h3 : Fnd K "marked" s_marked)
    (h4 : Fnd K "put_rows" s_put_rows)
    (h5 : Fnd K "power" s_power)
    (h6 : Fnd K "list_count" s_list_count)
    (h7 : Fnd K "lists_of" s_lists_of)
    (h8 : Fnd K "broken" s_broken)
    (h9 : Fnd K "kind" s_kind)
    (h10 : Fnd K "first_breach" s_first_breach)
    (h11 : Fnd K "kinds" s_kinds)
    (h12 : Fnd K "_law_cell_at" s_law_cell_at)
    (h13 : Fnd K "_law_gate" s_law_gate)
    (h14 : Fnd K "_law_keeps" s_law_keeps)
    (h15 : Fnd K "_law_set" s_law_set)
    (h16 : Fnd K "_law_breaks" s_law_breaks)
    (h17 : Fnd K "_law_ahead" s_law_ahead)
    (h18 : Fnd K "_law_right" s_law_right)
    (a19 : PySem.W.nsIn K mainGlobals "law" = some (some (.ref f19))) (l19 : K.lookup f19 = some ⟨oc19, od19, .func (PySem.W.fnOf "law" "law" (defArgs s_law) (defBody s_law) (defScope s_law) .none kV19 dc19 pm19 an19 cd19 ct19), sl19⟩) (c19 : PySem.W.codeIn K cd19 "law" = true) (k19 : PySem.W.keepIn K (.ref f19) = true)
    (y_bool : PySem.W.nsIn K mainGlobals "bool" = some none)
    (y_enumerate : PySem.W.nsIn K mainGlobals "enumerate" = some none)
    (y_isinstance : PySem.W.nsIn K mainGlobals "isinstance" = some none)
    (y_len : PySem.W.nsIn K mainGlobals "len" = some none)
    (y_list : PySem.W.nsIn K mainGlobals "list" = some none)
    (y_range : PySem.W.nsIn K mainGlobals "range" = some none)
    (y_repr : PySem.W.nsIn K mainGlobals "repr" = some none)
    (y_sum : PySem.W.nsIn K mainGlobals "sum" = some none)
    (y_tuple : PySem.W.nsIn K mainGlobals "tuple" = some none)
    (y_KINDS : PySem.W.nsIn K mainGlobals "KINDS" = some (some v_KINDS)) (r_KINDS : conB K 9 con_KINDS v_KINDS = true)
    (y_MOST_LISTS : PySem.W.nsIn K mainGlobals "MOST_LISTS" = some (some (.int 20000 t_MOST_LISTS)))
    (y_RELATIONS : PySem.W.nsIn K mainGlobals "RELATIONS" = some (some (.ref v_RELATIONS))) (r_RELATIONS : tabB K v_RELATIONS tab_RELATIONS = true)
    (yK : NoLst K)
    (yw : PySem.W.nsIn K mainGlobals "ways" = some none) :
    ∃ fd : FuncData, (∀ (s : Shared) (v : Value), BindsTo s fd ⟨[v], []⟩ [("_law_script", v)]) ∧ mg "ways" = none ∧ ∀ base : Heap, K.In base → base.Ns mainGlobals mg → FnOk l.prog w K mg base CX0 7 fa fd ["_law_script"] (spL K [.bor] m_law) := by
  have z_bool := PySem.W.mg_none_of X G y_bool
  have z_enumerate := PySem.W.mg_none_of X G y_enumerate
  have z_isinstance := PySem.W.mg_none_of X G y_isinstance
  have z_len := PySem.W.mg_none_of X G y_len
  have z_list := PySem.W.mg_none_of X G y_list
  have z_range := PySem.W.mg_none_of X G y_range
  have z_repr := PySem.W.mg_none_of X G y_repr
  have z_sum := PySem.W.mg_none_of X G y_sum
  have z_tuple := PySem.W.mg_none_of X G y_tuple
  have g_KINDS := PySem.W.mg_of X G y_KINDS
  have g_MOST_LISTS := PySem.W.mg_of X G y_MOST_LISTS
  have g_RELATIONS := PySem.W.mg_of X G y_RELATIONS
  have e := hfa.symm.trans (PySem.W.mg_of X G a19)
  cases e
  refine ⟨PySem.W.fnOf "law" "law" (defArgs s_law) (defBody s_law) (defScope s_law) .none kV19 dc19 pm19 an19 cd19 ct19, fun s v => .of_eq rfl, PySem.W.mg_none_of X G yw, fun base _ _ => ?_⟩
  have d_row_count := ok_row_count l.prog w base (h0.at X G) z_range
  have d_bit := ok_bit l.prog w base (h1.at X G)
  have d_put_all := ok_put_all l.prog w base (h2.at X G) d_bit d_row_count z_len z_range
  have d_marked := ok_marked l.prog w base (h3.at X G)
  have d_put_rows := ok_put_rows l.prog w base (h4.at X G) d_put_all d_row_count
  have d_power := ok_power l.prog w base (h5.at X G) z_range
  have d_list_count := ok_list_count l.prog w base (h6.at X G) d_power z_sum
  have d_lists_of := ok_lists_of l.prog w base (h7.at X G)
  have d_broken := ok_broken l.prog w base (h8.at X G) d_marked d_lists_of d_list_count d_put_rows z_len g_MOST_LISTS ⟨_, rfl⟩
  have d_kind := ok_kind l.prog w base (h9.at X G) g_RELATIONS r_RELATIONS
  have d_first_breach := ok_first_breach l.prog w base (h10.at X G) d_broken z_enumerate
  have d_kinds := ok_kinds l.prog w base (h11.at X G) d_first_breach d_kind g_KINDS r_KINDS
  have d__law_cell_at := ok_law_cell_at l.prog w base (h12.at X G) z_len
  have d__law_gate := ok_law_gate l.prog w base (h13.at X G)
  have d__law_keeps := ok_law_keeps l.prog w base (h14.at X G) z_range
  have d__law_set := ok_law_set l.prog w base (h15.at X G) d__law_cell_at d__law_gate d__law_keeps z_list z_range
  have d__law_breaks := ok_law_breaks l.prog w base (h16.at X G) z_enumerate z_range z_sum
  have d__law_ahead := ok_law_ahead l.prog w base (h17.at X G) z_len z_range
  have d__law_right := ok_law_right l.prog w base (h18.at X G) d_kind d__law_breaks d__law_keeps d__law_ahead z_bool z_isinstance z_len z_list z_range z_tuple
  exact ok_law l.prog w base (fun_mk (st := s_law) l19 c19 k19) d__law_set d_kinds d__law_right z_isinstance z_len z_list z_range z_repr g_KINDS r_KINDS yK
theorem walk {l : PySem.W.OpenLaw} {q : Program} {loose : List Str} {XP : (Str → Option Value) → Heap → Prop} {YP : World → Heap → Prop} {d : DefRec} {K : Params → PySem.W.Frag} (hn : l.most = some 63) (hdf : d.params.defaults = [])
    (hY : ∀ (w : World) (h : Heap), YP w h → (K w.params).In h)
    (F : ∀ (w : World) (mg : Str → Option Value) (fa : Addr) (h : Heap), (K w.params).In h → h.Ns mainGlobals mg → mg d.name = some (.ref fa) →
      ∃ fd : FuncData, (∀ (s : Shared) (u : Value), BindsTo s fd ⟨[u], []⟩ [("_law_script", u)]) ∧ mg "ways" = none ∧ ∀ base : Heap, (K w.params).In base → base.Ns mainGlobals mg → FnOk l.prog w (K w.params) mg base CX0 7 fa fd ["_law_script"] (spL (K w.params) [.bor] m_law)) :
    PySem.W.WalkO q loose XP YP l.row.toRowW d [] (fun f vs => PySem.call f vs) :=
  L2.walk_of0 (n := 63) (k := 7) (x := "_law_script") (CX := fun _ => CX0) (sp := fun w => (spL (K w.params) [.bor] m_law)) hn (by decide) hdf ⟨rfl, by decide, by decide, rfl⟩ hY F (fun _ H a ns hl hS => law_scriptL (main ns hl) hS) fun _ _ _ _ _ z => z
end Law
open PySem PySem.W PyProof.Rows
local macro_rules | `(tactic| walk_at "kf") => `(tactic| exact L2.Fnd.mk (by k_is) (by k_is) (by k_is) (by k_is))
namespace PySem.W.Fast
theorem tw13754935253844184491:True:=trivial
theorem tw10422423837677942566:True:=trivial
theorem tw1830654240103955283:True:=trivial
theorem tw15731642810873435700:True:=trivial
theorem tw5871751787577308875:True:=trivial
theorem tw13367863344568034418:True:=trivial
theorem tw13225747013273621663:True:=trivial
theorem tw11130297368397000806:True:=trivial
theorem tw9661435777200199650:True:=trivial
theorem tw15304233084673253897:True:=trivial
theorem tw15979572831909453984:True:=trivial
theorem tw12321644558929459364:True:=trivial
theorem tw9389653192729316656:True:=trivial
theorem tw11268900786596358765:True:=trivial
theorem tw11592736416185295785:True:=trivial
theorem tw5613313095548206990:True:=trivial
theorem tw8075512710207797556:True:=trivial
theorem tw1187151663840596603:True:=trivial
theorem tw2373788897036054704:True:=trivial
theorem tw11159236492620816505:True:=trivial
theorem tw13778405014482925005:True:=trivial
theorem tw10212319226442454381:True:=trivial
theorem tw760375899407635982:True:=trivial
theorem tw39940922626075093:True:=trivial
theorem tw5977120297237539166:True:=trivial
theorem tw16356947973926950028:True:=trivial
theorem tw17594192249024536904:True:=trivial
theorem tw2854783204211050000:True:=trivial
theorem tw7945041547931945487:True:=trivial
theorem tw4444109410746629640:True:=trivial
theorem tw2600576445869121345:True:=trivial
theorem tw6807426691213883963:True:=trivial
theorem tw5128628400277276507:True:=trivial
theorem tw6532107807961104529:True:=trivial
theorem tw7453198134562976104:True:=trivial
theorem tw16004976298344344886:True:=trivial
theorem tw2971354753910025629:True:=trivial
theorem tw11864208251997787283:True:=trivial
theorem tw2820024895876813191:True:=trivial
theorem tw3077825532485829609:True:=trivial
theorem tw3677766859655842317:True:=trivial
theorem tw9785422541637321784:True:=trivial
theorem tw12929602602423025263:True:=trivial
theorem tw18146171720414147530:True:=trivial
theorem tw14700827823451186802:True:=trivial
theorem tw5076224426637967683:True:=trivial
theorem tw18045901546629589496:True:=trivial
theorem tw12769409204769573364:True:=trivial
theorem tw11684900359090168041:True:=trivial
theorem tw11685421662374672599:True:=trivial
theorem tw1773244592825314421:True:=trivial
theorem tw8174750556946215677:True:=trivial
theorem tw7920091561440704742:True:=trivial
theorem tw2454850635890753070:True:=trivial
theorem tw4083017305548659789:True:=trivial
theorem tw3092095783352414863:True:=trivial
theorem tw5863537536359264136:True:=trivial
theorem tw10783332395028557917:True:=trivial
theorem tw17301594434489483436:True:=trivial
theorem tw1422003378741184187:True:=trivial
theorem tw3407645475524487545:True:=trivial
theorem tw1619450332956454703:True:=trivial
theorem tw10770729567682571119:True:=trivial
theorem tw12320326847220926108:True:=trivial
theorem tw2648036382802609022:True:=trivial
theorem tw15147428640591593154:True:=trivial
theorem tw9661535018144482010:True:=trivial
theorem tw14479479517077154994:True:=trivial
theorem tw10044691541688241220:True:=trivial
theorem tw2449221058008160966:True:=trivial
theorem tw9088682437199697389:True:=trivial
theorem tw3824060658272442168:True:=trivial
theorem tw3365365575992010014:True:=trivial
theorem tw14824339911357562503:True:=trivial
theorem tw12570739472388236802:True:=trivial
theorem tw11690014810759527875:True:=trivial
theorem tw10430921577578139352:True:=trivial
theorem tw17820374601246655118:True:=trivial
theorem tw8978049582945544676:True:=trivial
theorem tw7515681207580235167:True:=trivial
theorem tw12540255548262689443:True:=trivial
theorem tw17445552625176380116:True:=trivial
theorem tw2965445864387466098:True:=trivial
theorem tw6049598622968825410:True:=trivial
theorem tw17174441985619707802:True:=trivial
theorem tw8400100914401075049:True:=trivial
theorem tw17211679712893758112:True:=trivial
theorem tw11481583314562308964:True:=trivial
theorem tw13945892127256856014:True:=trivial
theorem tw11666549565182508916:True:=trivial
theorem tw16925477428657352218:True:=trivial
theorem tw17235835331910098708:True:=trivial
theorem tw353914814455036015:True:=trivial
theorem tw14153363872038205457:True:=trivial
theorem tw8044999592655957716:True:=trivial
theorem tw15077800071148224319:True:=trivial
theorem tw96478662254856674:True:=trivial
theorem tw6932574968378845194:True:=trivial
theorem tw18244137142613880992:True:=trivial
theorem tw13176688733142455774:True:=trivial
theorem tw10117064406594641945:True:=trivial
theorem tw8416868260615537750:True:=trivial
theorem tw7951958844608706155:True:=trivial
theorem tw12856085980858191603:True:=trivial
theorem tw12118912696431187035:True:=trivial
theorem tw15469048790874582955:True:=trivial
end PySem.W.Fast
set_option maxRecDepth 100000 in
set_option maxHeartbeats 0 in
theorem PySem.Challenge.cw_gatekin_k42_kinds_of_a_set_holds : PySem.Challenge.rw_gatekin_k42_kinds_of_a_set.Holds := by
  w_on; o_law; k_head; (case hw => w_witness2)
  k_fill
  refine Law.walk (l := PySem.Challenge.rw_gatekin_k42_kinds_of_a_set) rfl rfl (fun w h Y => PySem.W.kIn_of Y) ?F
  case F =>
    intro w mg fa h KX G hmg
    refine' Law.all_mk KX G hmg ?h0 ?h1 ?h2 ?h3 ?h4 ?h5 ?h6 ?h7 ?h8 ?h9 ?h10 ?h11 ?h12 ?h13 ?h14 ?h15 ?h16 ?h17 ?h18 ?a19 ?l19 ?c19 ?k19 ?y_bool ?y_enumerate ?y_isinstance ?y_len ?y_list ?y_range ?y_repr ?y_sum ?y_tuple ?y_KINDS ?r_KINDS ?y_MOST_LISTS ?y_RELATIONS ?r_RELATIONS ?yK ?yw
    (case h0 => walk_at "kf")
    (case h1 => walk_at "kf")
    (case h2 => walk_at "kf")
    (case h3 => walk_at "kf")
    (case h4 => walk_at "kf")
    (case h5 => walk_at "kf")
    (case h6 => walk_at "kf")
    (case h7 => walk_at "kf")
    (case h8 => walk_at "kf")
    (case h9 => walk_at "kf")
    (case h10 => walk_at "kf")
    (case h11 => walk_at "kf")
    (case h12 => walk_at "kf")
    (case h13 => walk_at "kf")
    (case h14 => walk_at "kf")
    (case h15 => walk_at "kf")
    (case h16 => walk_at "kf")
    (case h17 => walk_at "kf")
    (case h18 => walk_at "kf")
    (case a19 => k_is)
    (case l19 => k_is)
    (case c19 => k_is)
    (case k19 => k_is)
    (case y_bool => k_is)
    (case y_enumerate => k_is)
    (case y_isinstance => k_is)
    (case y_len => k_is)
    (case y_list => k_is)
    (case y_range => k_is)
    (case y_repr => k_is)
    (case y_sum => k_is)
    (case y_tuple => k_is)
    (case y_KINDS => k_is)
    (case r_KINDS => rfl)
    (case y_MOST_LISTS => k_is)
    (case y_RELATIONS => k_is)
    (case r_RELATIONS => rfl)
    (case yK => exact L3.NoLst.of rfl)
    (case yw => k_is)
