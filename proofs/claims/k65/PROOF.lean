import PyProof.Rows.All
import Wide.All
import OpenK.AllK
import Wide.FinOn
import Lean
import PyProof.EqAt
import PyProof.EqKinds
import PyProof.TupleCall
import PySem.Challenge.RW_gatekin_k65_whole_made_again
set_option Elab.async false
set_option linter.all false
set_option maxRecDepth 100000
local macro_rules | `(tactic| omega) => `(tactic| lia)
namespace L2
open PySem PySem.Spec PyProof.Rows
noncomputable abbrev Key := Sum Int Str
noncomputable def nJ : Key → Value → Bool
  | .inl k, v => Value.isInt k v
  | .inr x, v => Value.isStrOf x v
noncomputable def R0 (w : World) : Key → Int
  | .inl k => hashInt k
  | .inr x => hashStr w x
theorem dC : ∀ {k : Key} {v : Value}, nJ k v = true → (∃ i t, k = Sum.inl i ∧ v = Value.int i t) ∨ (∃ x t, k = Sum.inr x ∧ v = Value.str x t)
  | .inl i, v, h => by
    obtain ⟨t, e⟩ := Value.isInt_shape (k := i) (v := v) h
    exact .inl ⟨i, t, rfl, e⟩
  | .inr x, v, h => by
    obtain ⟨t, e⟩ := Value.isStrOf_shape (x := x) (v := v) h
    exact .inr ⟨x, t, rfl, e⟩
theorem DR (i : Int) (t : Tok) : nJ (.inl i) (.int i t) = true := by simp [nJ, Value.isInt]
theorem Fj (x : Str) (t : Tok) : nJ (.inr x) (.str x t) = true := by simp [nJ, Value.isStrOf]
theorem NT (a b : Int) : decide ((Sum.inl a : Key) = Sum.inl b) = (a == b) := by
  by_cases e : a = b
  · subst e; simp
  · have h : ¬ (Sum.inl a : Key) = Sum.inl b := fun q => e (Sum.inl.inj q)
    rw [decide_eq_false h]
    exact (beq_eq_false_iff_ne.mpr e).symm
theorem NK (a b : Str) : decide ((Sum.inr a : Key) = Sum.inr b) = decide (a = b) := by
  by_cases e : a = b
  · subst e; simp
  · have h : ¬ (Sum.inr a : Key) = Sum.inr b := fun q => e (Sum.inr.inj q)
    rw [decide_eq_false h, decide_eq_false e]
theorem M5 (a : Int) (b : Str) : decide ((Sum.inl a : Key) = Sum.inr b) = false := decide_eq_false (fun q => nomatch q)
theorem Ov (a : Str) (b : Int) : decide ((Sum.inr a : Key) = Sum.inl b) = false := decide_eq_false (fun q => nomatch q)
noncomputable def cA (prog : Program) (w : World) : PySem.KeyKind prog w Key where
  is := nJ
  hash := R0 w
  inj := fun v a b ha hb => by
    rcases dC ha with ⟨i, t, rfl, rfl⟩ | ⟨x, t, rfl, rfl⟩
    · rcases dC hb with ⟨j, u, rfl, e⟩ | ⟨y, u, rfl, e⟩
      · injection e with e1 _; rw [e1]
      · exact nomatch e
    · rcases dC hb with ⟨j, u, rfl, e⟩ | ⟨y, u, rfl, e⟩
      · exact nomatch e
      · injection e with e1 _; rw [e1]
  byValue := fun k v h => by
    rcases dC h with ⟨i, t, rfl, rfl⟩ | ⟨x, t, rfl, rfl⟩ <;> rfl
  pyHash := fun hv h => by
    rcases dC hv with ⟨i, t, rfl, rfl⟩ | ⟨x, t, rfl, rfl⟩
    · exact wpAny_pyHash_int h
    · exact wpAny_pyHash_str h
  eqBool := fun hu hv h => by
    rcases dC hu with ⟨i, t, rfl, rfl⟩ | ⟨x, t, rfl, rfl⟩
    · rcases dC hv with ⟨j, u, rfl, rfl⟩ | ⟨y, u, rfl, rfl⟩
      · rw [NT] at h; exact wpAny_eqBool_int h
      · rw [M5] at h; exact SeqAt.EqAt.int_str i t y u _ _ _ _ h
    · rcases dC hv with ⟨j, u, rfl, rfl⟩ | ⟨y, u, rfl, rfl⟩
      · rw [Ov] at h; exact SeqAt.EqAt.str_int x t j u _ _ _ _ h
      · rw [NK] at h; exact wpAny_eqBool_str h
  «strs» := fun k x t v h => by
    rcases dC h with ⟨i, u, rfl, e⟩ | ⟨y, u, rfl, e⟩
    · exact nomatch e
    · injection e with e1 _
      subst e1
      cases v <;> rfl
theorem Dl (prog : Program) (w : World) (k : Key) (v : Value) : (cA prog w).is k v = nJ k v := rfl
theorem zX (prog : Program) (w : World) (i : Int) (t : Tok) : (cA prog w).is (.inl i) (.int i t) = true := DR i t
theorem zV (prog : Program) (w : World) (x : Str) (t : Tok) : (cA prog w).is (.inr x) (.str x t) = true := Fj x t
end L2
namespace L2
open PySem PySem.Spec PyProof.Rows
inductive V where
  | non | bl (b : Bool) | int (i : Int) | str (x : Str) | byt (b : Array UInt8) | flt (b : UInt64) | ref (a : Addr) | ty (n : String)
  deriving DecidableEq
noncomputable def RelV : V → Value → Prop
  | .non, u => u = Value.none
  | .bl b, u => u = Value.bool b
  | .int i, u => ∃ t, u = Value.int i t
  | .str x, u => ∃ t, u = Value.str x t
  | .byt b, u => ∃ t, u = Value.bytes b t
  | .flt b, u => ∃ t, u = Value.float b t
  | .ref a, u => u = Value.ref a
  | .ty n, u => u = Value.type n
noncomputable abbrev Vals : List V → List Value → Prop := Paired RelV
theorem Vals.length {xs : List V} {us : List Value} (r : Vals xs us) : xs.length = us.length := Paired.length r
theorem Vals.get : ∀ {xs : List V} {us : List Value} {i : Nat} {x : V}, Vals xs us → xs[i]? = some x → ∃ u, us[i]? = some u ∧ RelV x u
  | _, _, _, _, .nil, e => by simp at e
  | _, _, 0, _, .cons r _, e => by simp at e; subst e; exact ⟨_, rfl, r⟩
  | _, _, i + 1, x, .cons _ t, e => by
    obtain ⟨u, h1, h2⟩ := Vals.get (i := i) (x := x) t (by simpa using e)
    exact ⟨u, by simpa using h1, h2⟩
theorem Vals.append : ∀ {xs ys : List V} {us ws : List Value}, Vals xs us → Vals ys ws → Vals (xs ++ ys) (us ++ ws)
  | _, _, _, _, .nil, s => s
  | _, _, _, _, .cons r t, s => .cons r (Vals.append t s)
noncomputable def vo : Option V → Option Value → Prop
  | some v, some u => RelV v u
  | none, none => True
  | _, _ => False
noncomputable def KV {κ : Type} : List (κ × V) → List (κ × Value) → Prop := Paired fun (p : κ × V) (q : κ × Value) => p.1 = q.1 ∧ RelV p.2 q.2
noncomputable def kV : Key → V
  | .inl i => .int i
  | .inr x => .str x
inductive HO where
    | lst (xs : List V)
    | tup (xs : List V)
    | dK (kvs : List (Key × V)) | dT (kvs : List (List Key × V))
    | set (S : Int → Bool) (n : Nat)
    | ins (C dx : Addr) (fs : List (Str × V))
    | own (x : Addr)
    | xd (fs : List (Str × V))
    | met (f x : Addr)
    | rng (lo hi : Int)
    | frz (o : Obj) (u : HO)
    | tbl (ps : Array Value)
    | ext (φ : Heap → Prop)
noncomputable abbrev Hp := Addr → Option HO
noncomputable def upd (H : Hp) (a : Addr) (o : HO) : Hp := fun b => if b = a then some o else H b
theorem bz {H : Hp} {a : Addr} {o : HO} : upd H a o a = some o := by unfold upd; rw [if_pos rfl]
theorem bw {H : Hp} {a b : Addr} {o : HO} (h : b ≠ a) : upd H a o b = H b := by unfold upd; rw [if_neg h]
theorem QV {H : Hp} {a b : Addr} {o u : HO} (h : H a = some o) (h' : H b = some u) (d : o ≠ u) : a ≠ b := by
  intro e; subst e; rw [h] at h'; exact d (Option.some.inj h')
theorem gG {H : Hp} {a b : Addr} {o : HO} (h : H a = some o) (h' : H b = none) : a ≠ b := by
  intro e; subst e; rw [h] at h'; cases h'
section
variable (P : Program) (w : World)
noncomputable def cM (H : Hp) (h : Heap) (a : Addr) : HO → Prop
  | .lst xs => xs.length ≤ sizeLine ∧ ∃ (its : List Value) (n : Nat), Vals xs its ∧ h.get? a = some { cls := .type "list", data := .seq its.toArray n }
  | .tup xs => xs.length ≤ sizeLine ∧ ∃ its : List Value, Vals xs its ∧ IsTup h a its.toArray
  | .dK kvs => kvs.length ≤ sizeLine ∧ (a == sysModules) = false ∧ ∃ vs, KV kvs vs ∧ h.DictOf (cA P w) a vs
  | .dT kvs => kvs.length ≤ sizeLine ∧ (a == sysModules) = false ∧ ∃ xs : List (List Key × Addr × Value),
      Paired (fun (p : List Key × V) (q : List Key × Addr × Value) => p.1 = q.1 ∧ H q.2.1 = some (.tup (p.1.map kV)) ∧ RelV p.2 q.2.2) kvs xs ∧
      ∃ o es ep, h.get? a = some o ∧ o.ExactDict ∧ o.data = .dict es ep ∧ es.toList = xs.map (entryOfKey (tupleKind (cA P w))) ∧ (xs.map (·.1)).Nodup
  | .set S n => h.SetOf (intKind P w) a S n
  | .ins C dx fs => H dx = some (.own a) ∧ fs.length ≤ 1000 ∧ dx ≠ a ∧ h.get? a = some (PySem.W.instObj C dx) ∧
      ∃ mA, h.Ns1 dx mA ∧ (∀ f, vo (fs.lookup f) (mA f)) ∧ PySem.Within mA (fs.map (·.1))
  | .own _ => ∃ o, h.get? a = some o
  | .xd fs => ∃ mA, h.Ns1 a mA ∧ ∀ f, vo (fs.lookup f) (mA f)
  | .rng lo hi => ∃ t u v, h.get? a = some { cls := .type "range", data := .fields #[.int lo t, .int hi u, .int 1 v] }
  | .frz o u => h.get? a = some o ∧ cM H h a u
  | .tbl ps => h.get? a = some { cls := .none, data := .fields ps }
  | .met f x => h.get? a = some (PySem.W.methodObj (.ref f) (.ref x))
  | .ext φ => φ h ∧ (∃ o, h.get? a = some o) ∧ ∀ h1 h2 : Heap, φ h1 → (∀ o, h1.get? a = some o → h2.get? a = some o) → φ h2
noncomputable def HOk (H : Hp) (h : Heap) : Prop := ∀ a o, H a = some o → cM P w H h a o
end
section
variable {P : Program} {w : World} {H H' : Hp} {h h' : Heap} {a : Addr} {o : HO}
theorem cM.lt (x : cM P w H h a o) : a < h.objs.size := by
  cases o with
  | lst xs => obtain ⟨_, _, _, _, e⟩ := x; exact Heap.lt_size e
  | tup xs => obtain ⟨_, _, _, p⟩ := x; exact p.lt
  | dK kvs => obtain ⟨_, _, _, _, o, _, _, e, _⟩ := x; exact Heap.lt_size e
  | dT kvs => obtain ⟨_, _, _, _, o, _, _, e, _⟩ := x; exact Heap.lt_size e
  | set S n => obtain ⟨o, _, _, _, e, _⟩ := x; exact Heap.lt_size e
  | ins C dx fs => obtain ⟨_, _, _, e, _⟩ := x; exact Heap.lt_size e
  | own y => obtain ⟨_, e⟩ := x; exact Heap.lt_size e
  | xd fs => obtain ⟨_, ⟨_, _, _, e, _⟩, _⟩ := x; exact Heap.lt_size e
  | rng lo hi => obtain ⟨_, _, _, e⟩ := x; exact Heap.lt_size e
  | frz ob u => obtain ⟨e, _⟩ := x; exact Heap.lt_size e
  | tbl ps => exact Heap.lt_size (show h.get? a = some _ from x)
  | met f y => exact Heap.lt_size (show h.get? a = some _ from x)
  | ext φ => obtain ⟨_, ⟨_, e⟩, _⟩ := x; exact Heap.lt_size e
theorem Paired.uR {α β : Type} {F G : α → β → Prop} : ∀ {l₁ : List α} {l₂ : List β}, Paired F l₁ l₂ → (∀ a b, F a b → G a b) → Paired G l₁ l₂
  | _, _, .nil, _ => .nil
  | _, _, .cons r t, f => .cons (f _ _ r) (Paired.uR t f)
theorem cM.stay (x : cM P w H h a o) (k : ∀ b u, (b = a ∨ H b = some (.own a)) → h.get? b = some u → h'.get? b = some u)
    (ho : ∀ b, H b = some (.own a) → H' b = some (.own a)) (ht : ∀ b xs, H b = some (.tup xs) → H' b = some (.tup xs)) : cM P w H' h' a o := by
  induction o with
  | lst xs => obtain ⟨z, its, n, r, e⟩ := x; exact ⟨z, its, n, r, k _ _ (.inl rfl) e⟩
  | tup xs => obtain ⟨z, its, r, ob, e, c⟩ := x; exact ⟨z, its, r, ob, k _ _ (.inl rfl) e, c⟩
  | dK kvs => obtain ⟨z, y, vs, r, ob, es, ep, e, c⟩ := x; exact ⟨z, y, vs, r, ob, es, ep, k _ _ (.inl rfl) e, c⟩
  | dT kvs =>
    obtain ⟨z, y, xs, r, ob, es, ep, e, c⟩ := x
    exact ⟨z, y, xs, Paired.uR r fun p q z => ⟨z.1, ht _ _ z.2.1, z.2.2⟩, ob, es, ep, k _ _ (.inl rfl) e, c⟩
  | set S n => obtain ⟨ob, es, ep, t, e, c⟩ := x; exact ⟨ob, es, ep, t, k _ _ (.inl rfl) e, c⟩
  | ins C dx fs =>
    obtain ⟨d, z, ne, e, mA, ⟨od, es, ep, e2, c⟩, r⟩ := x
    exact ⟨ho _ d, z, ne, k _ _ (.inl rfl) e, mA, ⟨od, es, ep, k _ _ (.inr d) e2, c⟩, r⟩
  | own y => obtain ⟨ob, e⟩ := x; exact ⟨ob, k _ _ (.inl rfl) e⟩
  | xd fs => obtain ⟨mA, ⟨od, es, ep, e, c⟩, r⟩ := x; exact ⟨mA, ⟨od, es, ep, k _ _ (.inl rfl) e, c⟩, r⟩
  | rng lo hi => obtain ⟨t, u, v, e⟩ := x; exact ⟨t, u, v, k _ _ (.inl rfl) e⟩
  | frz ob u ih => obtain ⟨e, q⟩ := x; exact ⟨k _ _ (.inl rfl) e, ih q⟩
  | tbl ps =>
    have e : h.get? a = some { cls := .none, data := .fields ps } := x
    show h'.get? a = some { cls := .none, data := .fields ps }
    exact k a _ (.inl rfl) e
  | met f y =>
    have e : h.get? a = some (PySem.W.methodObj (.ref f) (.ref y)) := x
    show h'.get? a = some (PySem.W.methodObj (.ref f) (.ref y))
    exact k a _ (.inl rfl) e
  | ext φ => obtain ⟨p, ⟨o, e⟩, st⟩ := x; exact ⟨st _ _ p fun o q => k _ _ (.inl rfl) q, ⟨o, k _ _ (.inl rfl) e⟩, st⟩
theorem HOk.lt (x : HOk P w H h) (e : H a = some o) : a < h.objs.size := (x a o e).lt
theorem HOk.fresh (x : HOk P w H h) (e : h.objs.size ≤ a) : H a = none := by
  cases q : H a with
  | none => rfl
  | some u => exact absurd (Nat.lt_of_lt_of_le (x.lt q) e) (Nat.lt_irrefl _)
theorem HOk.kept (x : HOk P w H h) (k : ∀ b u, h.get? b = some u → h'.get? b = some u) : HOk P w H h' := fun a o e =>
  (x a o e).stay (fun b u _ q => k b u q) (fun _ q => q) fun _ _ q => q
theorem HOk.laid (x : HOk P w H h) (k : ∀ b u, h.get? b = some u → h'.get? b = some u) (hp : h.objs.size ≤ a) (new : cM P w (upd H a o) h' a o) : HOk P w (upd H a o) h' := fun b u e => by
  have hn := x.fresh hp
  by_cases hb : b = a
  · subst hb; rw [bz] at e; cases e; exact new
  · rw [bw hb] at e
    exact (x b u e).stay (fun c v _ q => k c v q) (fun c q => by rw [bw (gG q hn)]; exact q) fun c xs q => by rw [bw (gG q hn)]; exact q
end
noncomputable def Rd (H : Hp) (a : Addr) (u : HO) : Prop := H a = some u ∨ ∃ o, H a = some (.frz o u)
theorem Rd.ok {P : Program} {w : World} {H : Hp} {h : Heap} {a : Addr} {u : HO} (r : Rd H a u) (x : HOk P w H h) : cM P w H h a u := by
  rcases r with r | ⟨o, r⟩
  · exact x a u r
  · obtain ⟨_, q⟩ := x a _ r
    exact q
noncomputable def Mut : Option HO → Prop
  | some (.lst _) => True
  | some (.dK _) => True
  | some (.dT _) => True
  | some (.set _ _) => True
  | some (.ins _ _ _) => True
  | some (.ext _) => True
  | _ => False
section
variable {P : Program} {w : World} {H : Hp} {h h' : Heap} {x e : Addr} {o' : HO}
theorem HOk.write (ok : HOk P w H h) (mu : Mut (H x)) (he : e = x ∨ H e = some (.own x)) (k : ∀ b u, b ≠ e → h.get? b = some u → h'.get? b = some u) (heo : ∃ u, h'.get? e = some u)
    (new : cM P w (upd H x o') h' x o') : HOk P w (upd H x o') h' := fun b u q => by
  have nown : ∀ c y, H c = some (.own y) → c ≠ x := fun c y r z => by subst z; rw [r] at mu; exact mu
  have ntup : ∀ c xs, H c = some (.tup xs) → c ≠ x := fun c xs r z => by subst z; rw [r] at mu; exact mu
  by_cases hb : b = x
  · subst hb; rw [bz] at q; cases q; exact new
  · rw [bw hb] at q
    by_cases hbe : b = e
    · have q' : H b = some (.own x) := by
        rcases he with z | z
        · exact absurd (hbe.trans z) hb
        · rw [hbe]; exact z
      rw [q] at q'; cases q'
      obtain ⟨v, hv⟩ := heo
      exact ⟨v, by rw [hbe]; exact hv⟩
    · refine (ok b u q).stay (fun c v hc r => k c v ?_ r) (fun c r => by rw [bw (nown c b r)]; exact r) fun c xs r => by rw [bw (ntup c xs r)]; exact r
      rcases hc with rfl | hc
      · exact hbe
      · rintro rfl
        rcases he with z | z
        · exact nown c b hc z
        · rw [hc] at z; cases z; exact hb rfl
end
structure Un (fs ex : List Addr) (H H' : Hp) (h h' : Heap) : Prop where
  keep : ∀ b o, h.get? b = some o → H b = none → b ∉ fs → b ∉ ex → h'.get? b = some o
  slot : ∀ b o, h.get? b = some o → H b = none → b ∈ fs → b ∉ ex → ∃ sl, h'.get? b = some { o with slots := sl }
  free : ∀ b o, h.get? b = some o → H b = none → b ∉ ex → H' b = none
  there : ∀ b o, h.get? b = some o → b ∉ ex → ∃ o', h'.get? b = some o'
  tups : ∀ b xs, H b = some (.tup xs) → H' b = some (.tup xs)
  frzs : ∀ b o u, H b = some (.frz o u) → H' b = some (.frz o u)
  tbls : ∀ b ps, H b = some (.tbl ps) → ∃ more, H' b = some (.tbl (ps ++ more))
section
variable {fs fs' ex ex' : List Addr} {H H1 H2 : Hp} {h h1 h2 h' : Heap} {a x e : Addr} {o : HO}
theorem Un.any (u : Un fs ex H H1 h h1) {b : Addr} {ob : Obj} (q : h.get? b = some ob) (n : H b = none) (hx : b ∉ ex) : ∃ sl, h1.get? b = some { ob with slots := sl } := by
  by_cases hb : b ∈ fs
  · exact u.slot b ob q n hb hx
  · exact ⟨ob.slots, u.keep b ob q n hb hx⟩
theorem Un.kept (k : ∀ b u, h.get? b = some u → h'.get? b = some u) : Un fs ex H H h h' :=
  ⟨fun b ob q _ _ _ => k b ob q, fun b ob q _ _ _ => ⟨ob.slots, k b ob q⟩, fun _ _ _ n _ => n, fun b ob q _ => ⟨ob, k b ob q⟩, fun _ _ q => q, fun _ _ _ q => q, fun _ ps q => ⟨#[], by rw [q]; simp⟩⟩
theorem Un.refl : Un fs ex H H h h := Un.kept fun _ _ q => q
theorem Un.laid (k : ∀ b u, h.get? b = some u → h'.get? b = some u) (hp : h.objs.size ≤ a) (hn : H a = none) : Un fs ex H (upd H a o) h h' where
  keep := fun b u q _ _ _ => k b u q
  slot := fun b u q _ _ _ => ⟨u.slots, k b u q⟩
  free := fun b u q n _ => by rw [bw (Nat.ne_of_lt (Nat.lt_of_lt_of_le (Heap.lt_size q) hp))]; exact n
  there := fun b u q _ => ⟨u, k b u q⟩
  tups := fun b xs q => by rw [bw (gG q hn)]; exact q
  frzs := fun b u xs q => by rw [bw (gG q hn)]; exact q
  tbls := fun b ps q => ⟨#[], by rw [bw (gG q hn), q]; simp⟩
theorem Un.write (mu : Mut (H x)) (he : e = x ∨ H e = some (.own x)) (k : ∀ b u, b ≠ e → h.get? b = some u → h'.get? b = some u) (heo : ∃ u, h'.get? e = some u) : Un fs ex H (upd H x o) h h' := by
  have hx : ∀ b, H b = none → b ≠ x := fun b n z => by subst z; rw [n] at mu; exact mu
  have hb : ∀ b, H b = none → b ≠ e := fun b n z => by
    subst z
    rcases he with r | r
    · exact hx b n r
    · rw [n] at r; cases r
  have hm : ∀ b u, H b = some u → ¬ Mut (some u) → b ≠ x := fun b u q nm z => by subst z; rw [q] at mu; exact nm mu
  refine ⟨fun b u q n _ _ => k b u (hb b n) q, fun b u q n _ _ => ⟨u.slots, k b u (hb b n) q⟩, fun b u q n _ => by rw [bw (hx b n)]; exact n, fun b u q _ => ?_,
    fun b xs q => by rw [bw (hm b _ q fun z => z)]; exact q, fun b u xs q => by rw [bw (hm b _ q fun z => z)]; exact q, fun b ps q => ⟨#[], by rw [bw (hm b _ q fun z => z), q]; simp⟩⟩
  by_cases hbe : b = e
  · subst hbe; exact heo
  · exact ⟨u, k b u hbe q⟩
end
noncomputable def trk (h : Heap) (H : Hp) : List Addr := (List.range h.objs.size).filter fun a => (H a).isSome
noncomputable def oW (h : Heap) (H : Hp) : Heap := PySem.W.hideAll h (trk h H)
theorem DX (h : Heap) (H : Hp) : (oW h H).objs.size = h.objs.size := PySem.W.hideAll_size _ _
theorem Ha {h : Heap} {H : Hp} {b : Addr} {o : Obj} (e : h.get? b = some o) (n : H b = none) : (oW h H).get? b = some o :=
  PySem.W.hideAll_get _ e fun hm => by
    have q : (H b).isSome = true := (List.mem_filter.mp hm).2
    rw [n] at q; simp at q
theorem JK {h : Heap} {H : Hp} {b : Addr} {o : Obj} (e : (oW h H).get? b = some o) : h.get? b = some o ∧ H b = none := by
  have e' : h.get? b = some o := PySem.W.of_hideAll (trk h H) e
  refine ⟨e', ?_⟩
  cases q : H b with
  | none => rfl
  | some x =>
    have hm : b ∈ trk h H := List.mem_filter.mpr ⟨List.mem_range.mpr (Heap.lt_size e'), by simp [q]⟩
    have z : (oW h H).get? b = none := PySem.W.hideAll_none (trk h H) hm
    rw [z] at e; cases e
end L2
namespace L2
open PySem PySem.Spec PyProof.Rows
structure Mod (K : PySem.W.Frag) (mg : Str → Option Value) (base : Heap) : Prop where
  kin : K.In base
  glob : base.Ns mainGlobals mg
  blt : ∃ mb, base.Ns builtinsNs mb ∧ ∀ x : Str, x ≠ "__name__" → mb x = bootBuiltins x
  nolimit : base.NoLimit
structure Cx where
  prog : Program
  w : World
  K : PySem.W.Frag
  mg : Str → Option Value
  base : Heap
  A : Around
  N : List Str
  s₀ : Shared
  H₀ : Hp
  env : Env
  outer : List Env
  stack : List Env
  ex : List Addr
  fn : Str → Bool
  calm : Bool
  pn : List (Addr × Obj)
  xe : Value → Shared → Prop
noncomputable def frs (l : List Env) : List Addr := l.filterMap (·.frame)
noncomputable abbrev Cx.fs (X : Cx) : List Addr := frs X.outer
noncomputable def Vis (sc : Scope) (x : Str) : Prop := sc.names.lookup x = some .local ∨ sc.names.lookup x = some .cell ∨ sc.names.lookup x = some .free
noncomputable def Loc (sc : Scope) (x : Str) : Prop := sc.names.lookup x = some .local ∨ sc.names.lookup x = some .cell
noncomputable def Look (env : Env) (h : Heap) (m : Str → Option Value) (x : Str) (u : Value) : Prop :=
  (env.kindOf x = some .local ∧ m x = some u) ∨ ((env.kindOf x = some .cell ∨ env.kindOf x = some .free) ∧ ∃ c, env.cells.lookup x = some c ∧ h.IsCell c (some u))
structure Cx.Ok (X : Cx) : Prop where
  mod : Mod X.K X.mg X.base
  kind : X.env.scope.kind = .function
  glob : X.env.globals = mainGlobals
  blt : X.env.builtins = builtinsNs
  above : X.s₀.heap.objs.size ≤ X.env.locals
  inj : ∀ x y c, X.env.cells.lookup x = some c → X.env.cells.lookup y = some c → x = y
  has : ∀ x, (X.env.kindOf x = some .cell ∨ X.env.kindOf x = some .free) → ∃ c, X.env.cells.lookup x = some c
  cab : ∀ x c, X.fn x = true → X.env.cells.lookup x = some c → X.s₀.heap.objs.size ≤ c
  hd : X.calm = true → X.A.handled = none
  frames : X.A.frames = some X.stack
  stk : X.stack = X.outer ∨ (X.stack = X.env :: X.outer ∧ X.env.frame = some X.env.locals)
  exf : ∀ b ∈ X.ex, b ≠ X.env.locals ∧ ∀ x c, X.env.cells.lookup x = some c → c ≠ b
  bs : ∀ b o, X.base.get? b = some o → X.s₀.heap.get? b = some o ∧ X.H₀ b = none
  bsz : X.base.objs.size ≤ X.s₀.heap.objs.size
  noex : ∀ b o, X.base.get? b = some o → b ∉ X.ex
  exfs : ∀ b ∈ X.ex, b ∉ X.fs
  mH : X.s₀.heap.FunFrames X.base X.outer
  frf : ∀ b ∈ X.fs, X.H₀ b = none
structure Inv (X : Cx) (pins : List (Addr × Obj)) (σ : List (Option V)) (H : Hp) (s : Shared) : Prop where
  ok : X.Ok
  os : s.os = X.s₀.os
  bare : AllBare s.gens
  base : Un X.fs X.ex X.H₀ H X.s₀.heap s.heap
  loc : ∃ m, s.heap.Ns X.env.locals m ∧ ∀ (i : Nat) (x : Str) (v : V), X.N[i]? = some x → σ[i]? = some (some v) → Vis X.env.scope x → ∃ u, RelV v u ∧ Look X.env s.heap m x u
  cell : ∀ x c, X.env.cells.lookup x = some c → ∃ v, s.heap.IsCell c v
  free : H X.env.locals = none
  freeC : ∀ x c, X.env.cells.lookup x = some c → H c = none
  pin : ∀ p ∈ X.pn ++ pins, s.heap.get? p.1 = some p.2 ∧ H p.1 = none ∧ p.1 ≠ X.env.locals ∧ p.1 ∉ X.fs ∧ ∀ v, p.2.data ≠ .cell v
  hok : HOk X.prog X.w H s.heap
  len : σ.length = X.N.length
section
variable {X : Cx} {pins : List (Addr × Obj)} {σ : List (Option V)} {H H' : Hp} {s : Shared} {h' : Heap}
theorem Cx.Ok.Rg (ok : X.Ok) {b : Addr} {o : Obj} (e : X.base.get? b = some o) : b ∉ X.fs := fun hb => by
  have := (ok.mH.mem hb).1
  rw [e] at this; cases this
theorem Inv.bs (I : Inv X pins σ H s) : ∀ b o, X.base.get? b = some o → s.heap.get? b = some o ∧ H b = none := fun b o e =>
  ⟨I.base.keep b o (I.ok.bs b o e).1 (I.ok.bs b o e).2 (I.ok.Rg e) (I.ok.noex b o e), I.base.free b o (I.ok.bs b o e).1 (I.ok.bs b o e).2 (I.ok.noex b o e)⟩
theorem Inv.bk (I : Inv X pins σ H s) : ∀ b o, X.base.get? b = some o → s.heap.get? b = some o := fun b o e => (I.bs b o e).1
theorem Inv.mod (I : Inv X pins σ H s) : Mod X.K X.mg X.base := I.ok.mod
theorem Inv.kIn (I : Inv X pins σ H s) : X.K.In s.heap := I.ok.mod.kin.keeps I.bk
theorem Inv.lt (I : Inv X pins σ H s) : X.env.locals < s.heap.objs.size := let ⟨_, hn, _⟩ := I.loc; hn.lt
theorem Inv.sz (I : Inv X pins σ H s) : X.s₀.heap.objs.size ≤ s.heap.objs.size := Nat.le_trans I.ok.above (Nat.le_of_lt I.lt)
theorem Inv.Rx (I : Inv X pins σ H s) {a : Addr} (h : s.heap.objs.size ≤ a) : a ∉ X.fs := fun hb => by
  obtain ⟨_, o, ho, _⟩ := I.ok.mH.mem hb
  exact absurd (Nat.lt_of_lt_of_le (Heap.lt_size ho) (Nat.le_trans I.sz h)) (Nat.lt_irrefl _)
theorem Inv.cne (I : Inv X pins σ H s) : ∀ x c, X.env.cells.lookup x = some c → c ≠ X.env.locals := fun x c e z => by
  obtain ⟨v, o, ho, hd⟩ := I.cell x c e
  obtain ⟨m, ⟨o', es, ep, ho', hd', _⟩, _⟩ := I.loc
  rw [z, ho'] at ho; cases ho; rw [hd'] at hd; cases hd
theorem Inv.mH (I : Inv X pins σ H s) : s.heap.FunFrames X.base X.outer := by
  have all : ∀ (l : List Env), (∀ b ∈ frs l, b ∈ X.fs) → X.s₀.heap.FunFrames X.base l → s.heap.FunFrames X.base l := by
    intro l
    induction l with
    | nil => intro _ _; trivial
    | cons env r ih =>
      intro hs hl
      obtain ⟨hk, ⟨L, o, hf, hn, ho, hd⟩, hr⟩ := hl
      have hL : L ∈ X.fs := hs L (by unfold frs; rw [List.filterMap_cons, hf]; exact List.mem_cons_self)
      obtain ⟨sl, e⟩ := I.base.slot L o ho (I.ok.frf L hL) hL fun z => I.ok.exfs L z hL
      exact ⟨hk, ⟨L, _, hf, hn, e, hd⟩, ih (fun b hb => hs b (by unfold frs; rw [List.filterMap_cons, hf]; exact List.mem_cons_of_mem _ hb)) hr⟩
  exact all X.outer (fun _ hb => hb) I.ok.mH
theorem Inv.stack (I : Inv X pins σ H s) : s.heap.FunFrames X.base X.stack := by
  rcases I.ok.stk with e | ⟨e, hf⟩
  · rw [e]; exact I.mH
  · rw [e]
    obtain ⟨m, hn, _⟩ := I.loc
    refine .cons (by rw [I.ok.kind]; decide) hf hn ?_ I.mH
    exact Heap.get?_none_of_le (Nat.le_trans I.ok.bsz I.ok.above)
theorem Inv.tO (I : Inv X pins σ H s) : ∀ b ∈ frs X.stack, b ∈ X.env.locals :: X.fs := fun b hb => by
  rcases I.ok.stk with e | ⟨e, hf⟩
  · rw [e] at hb; exact List.mem_cons_of_mem _ hb
  · rw [e] at hb
    unfold frs at hb
    rw [List.filterMap_cons, hf] at hb
    exact hb
theorem Inv.Bh (I : Inv X pins σ H s) : ∀ b ∈ frs X.stack, H b = none := fun b hb => by
  rcases List.mem_cons.mp (I.tO b hb) with e | hb
  · rw [e]; exact I.free
  · obtain ⟨_, o, ho, _⟩ := I.ok.mH.mem hb
    exact I.base.free b o ho (I.ok.frf b hb) fun z => I.ok.exfs b z hb
theorem Inv.step {g' : Array GenState} {t' : Nat} {d' : Drawn} {ch : List Addr} (I : Inv X pins σ H s)
    (hch : ∀ b ∈ ch, (b ∈ X.ex ∨ X.s₀.heap.objs.size ≤ b) ∧ b ≠ X.env.locals ∧ (∀ x c, X.env.cells.lookup x = some c → c ≠ b) ∧ ∀ p ∈ X.pn ++ pins, p.1 ≠ b)
    (keep : ∀ b o, b ≠ X.env.locals → b ∉ X.fs → b ∉ ch → s.heap.get? b = some o → H b = none → h'.get? b = some o)
    (slot : ∀ b o, b ≠ X.env.locals → b ∈ X.fs → b ∉ ch → s.heap.get? b = some o → H b = none → ∃ sl, h'.get? b = some { o with slots := sl }) (free : ∀ b o, b ∉ ch → s.heap.get? b = some o → H b = none → H' b = none)
    (there : ∀ b o, b ∉ ch → s.heap.get? b = some o → ∃ o', h'.get? b = some o')
    (tups : ∀ b xs, H b = some (.tup xs) → H' b = some (.tup xs)) (frzs : ∀ b o u, H b = some (.frz o u) → H' b = some (.frz o u)) (tbls : ∀ b ps, H b = some (.tbl ps) → ∃ more, H' b = some (.tbl (ps ++ more)))
    (ns : ∀ m, s.heap.Ns X.env.locals m → h'.Ns X.env.locals m) (hok : HOk X.prog X.w H' h') (hg : AllBare g') :
    Inv X pins σ H' { s with heap := h', gens := g', drawn := d', toks := t' } := by
  have neL : ∀ b o, X.s₀.heap.get? b = some o → b ≠ X.env.locals := fun b o e => Nat.ne_of_lt (Nat.lt_of_lt_of_le (Heap.lt_size e) I.ok.above)
  have neC : ∀ b o, X.s₀.heap.get? b = some o → b ∉ X.ex → b ∉ ch := fun b o e hx hb => by
    rcases (hch b hb).1 with z | z
    · exact hx z
    · exact absurd (Nat.lt_of_lt_of_le (Heap.lt_size e) z) (Nat.lt_irrefl _)
  have cellK : ∀ x c, X.env.cells.lookup x = some c → ∀ v, s.heap.IsCell c v → h'.IsCell c v := fun x c e v hq__ => by
    obtain ⟨o, ho, hd⟩ := hq__
    have nch : c ∉ ch := fun z => (hch c z).2.2.1 x c e rfl
    by_cases hc : c ∈ X.fs
    · obtain ⟨sl, q⟩ := slot c o (I.cne x c e) hc nch ho (I.freeC x c e)
      exact ⟨_, q, hd⟩
    · exact ⟨o, keep c o (I.cne x c e) hc nch ho (I.freeC x c e), hd⟩
  refine ⟨I.ok, I.os, hg, ⟨fun b o e n hb hx => ?_, fun b o e n hb hx => ?_, fun b o e n hx => ?_, fun b o e hx => ?_, fun b xs e => tups b xs (I.base.tups b xs e), fun b o xs e => frzs b o xs (I.base.frzs b o xs e), fun b ps e => ?_⟩, ?_, fun x c e => ?_, ?_, fun x c e => ?_, fun p hp => ?_, hok, I.len⟩
  · exact keep b o (neL b o e) hb (neC b o e hx) (I.base.keep b o e n hb hx) (I.base.free b o e n hx)
  · obtain ⟨sl, e1⟩ := I.base.slot b o e n hb hx
    obtain ⟨sl', e2⟩ := slot b _ (neL b o e) hb (neC b o e hx) e1 (I.base.free b o e n hx)
    exact ⟨sl', e2⟩
  · obtain ⟨o', e1⟩ := I.base.there b o e hx
    exact free b o' (neC b o e hx) e1 (I.base.free b o e n hx)
  · obtain ⟨o', e1⟩ := I.base.there b o e hx
    exact there b o' (neC b o e hx) e1
  · obtain ⟨m1, e1⟩ := I.base.tbls b ps e
    obtain ⟨m2, e2⟩ := tbls b _ e1
    exact ⟨m1 ++ m2, by rw [e2, Array.append_assoc]⟩
  · obtain ⟨m, hn, hl⟩ := I.loc
    refine ⟨m, ns m hn, fun i x v e1 e2 e3 => ?_⟩
    obtain ⟨u, r, l⟩ := hl i x v e1 e2 e3
    refine ⟨u, r, ?_⟩
    rcases l with l | ⟨k, c, e, z⟩
    · exact .inl l
    · exact .inr ⟨k, c, e, cellK x c e _ z⟩
  · obtain ⟨v, z⟩ := I.cell x c e
    exact ⟨v, cellK x c e v z⟩
  · obtain ⟨m, ⟨o, _, _, ho, _⟩, _⟩ := I.loc
    exact free _ o (fun z => (hch _ z).2.1 rfl) ho I.free
  · obtain ⟨v, o, ho, hd⟩ := I.cell x c e
    exact free c o (fun z => (hch c z).2.2.1 x c e rfl) ho (I.freeC x c e)
  · obtain ⟨e, n, ne, nf, d⟩ := I.pin p hp
    have nch : p.1 ∉ ch := fun z => (hch p.1 z).2.2.2 p hp rfl
    exact ⟨keep p.1 p.2 ne nf nch e n, free p.1 p.2 nch e n, ne, nf, d⟩
theorem Inv.un {t' : Nat} (I : Inv X pins σ H s) (u : Un X.fs [] H H' s.heap h') (hok : HOk X.prog X.w H' h') : Inv X pins σ H' { s with heap := h', toks := t' } := by
  obtain ⟨m, ⟨o, es, ep, ho, r⟩, _⟩ := id I.loc
  obtain ⟨sl, hL⟩ := u.any ho I.free (by simp)
  exact I.step (g' := s.gens) (d' := s.drawn) (ch := []) (fun _ z => nomatch z) (fun b o _ hb _ e n => u.keep b o e n hb (by simp)) (fun b o _ hb _ e n => u.slot b o e n hb (by simp)) (fun b o _ e n => u.free b o e n (by simp)) (fun b o _ e => u.there b o e (by simp)) u.tups u.frzs u.tbls (fun m' hm => by
    obtain ⟨o', es', ep', ho', r'⟩ := hm
    rw [ho] at ho'; cases ho'
    exact ⟨_, es', ep', hL, r'⟩) hok I.bare
theorem Inv.call {g' : Array GenState} {t' : Nat} {d' : Drawn} {ch : List Addr} (I : Inv X pins σ H s) (u : Un (frs X.stack) ch H H' s.heap h') (hok : HOk X.prog X.w H' h') (hg : AllBare g')
    (hch : ∀ b ∈ ch, (b ∈ X.ex ∨ X.s₀.heap.objs.size ≤ b) ∧ b ≠ X.env.locals ∧ (∀ x c, X.env.cells.lookup x = some c → c ≠ b) ∧ ∀ p ∈ X.pn ++ pins, p.1 ≠ b) :
    Inv X pins σ H' { s with heap := h', gens := g', drawn := d', toks := t' } := by
  obtain ⟨m, ⟨o, es, ep, ho, r⟩, _⟩ := id I.loc
  obtain ⟨sl, hL⟩ := u.any ho I.free fun z => (hch _ z).2.1 rfl
  exact I.step (ch := ch) hch (fun b o hL hb hc e n => u.keep b o e n (fun z => (List.mem_cons.mp (I.tO b z)).elim hL hb) hc) (fun b o _ _ hc e n => u.any e n hc) (fun b o hc e n => u.free b o e n hc) (fun b o hc e => u.there b o e hc) u.tups u.frzs u.tbls (fun m' hm => by
    obtain ⟨o', es', ep', ho', r'⟩ := hm
    rw [ho] at ho'; cases ho'
    exact ⟨_, es', ep', hL, r'⟩) hok hg
theorem Inv.turned {t' : Nat} {it : Addr} (I : Inv X pins σ H s) (k : ∀ b o, b ≠ it → s.heap.get? b = some o → h'.get? b = some o) (hn : H it = none) (hL : it ≠ X.env.locals)
    (h1 : it ∈ X.ex ∨ X.s₀.heap.objs.size ≤ it) (h2 : ∀ x c, X.env.cells.lookup x = some c → c ≠ it) (h3 : ∀ p ∈ X.pn ++ pins, p.1 ≠ it) : Inv X pins σ H { s with heap := h', toks := t' } := by
  have nit : ∀ b u, H b = some u → b ≠ it := fun b u e z => by rw [z, hn] at e; cases e
  refine I.step (g' := s.gens) (d' := s.drawn) (ch := [it]) (fun b hb => ?_) (fun b o _ _ hc e _ => k b o (fun z => hc (by simp [z])) e) (fun b o _ _ hc e _ => ⟨o.slots, k b o (fun z => hc (by simp [z])) e⟩) (fun _ _ _ _ n => n)
    (fun b o hc e => ⟨o, k b o (fun z => hc (by simp [z])) e⟩) (fun _ _ e => e) (fun _ _ _ e => e) (fun b ps e => ⟨#[], by rw [e]; simp⟩) (fun m hm => ?_) (fun b u e => ?_) I.bare
  · have e : b = it := by simpa using hb
    subst e
    exact ⟨h1, hL, h2, h3⟩
  · obtain ⟨o, es, ep, ho, r⟩ := hm
    exact ⟨o, es, ep, k _ o (Ne.symm hL) ho, r⟩
  · refine (I.hok b u e).stay (fun c v hc q => k c v ?_ q) (fun _ q => q) fun _ _ q => q
    rcases hc with z | z
    · rw [z]; exact nit b u e
    · exact nit c _ z
theorem Inv.tok (I : Inv X pins σ H s) (t : Nat) : Inv X pins σ H { s with toks := t } := I.un (h' := s.heap) (t' := t) Un.refl I.hok
theorem Inv.kept {t' : Nat} (I : Inv X pins σ H s) (k : ∀ b u, s.heap.get? b = some u → h'.get? b = some u) : Inv X pins σ H { s with heap := h', toks := t' } := I.un (Un.kept k) (I.hok.kept k)
theorem Inv.laid {a : Addr} {o : HO} {t' : Nat} (I : Inv X pins σ H s) (k : ∀ b u, s.heap.get? b = some u → h'.get? b = some u) (hp : s.heap.objs.size ≤ a) (new : cM X.prog X.w (upd H a o) h' a o) :
    Inv X pins σ (upd H a o) { s with heap := h', toks := t' } := I.un (Un.laid k hp (I.hok.fresh hp)) (I.hok.laid k hp new)
theorem Inv.write {x e : Addr} {o : HO} {t' : Nat} (I : Inv X pins σ H s) (mu : Mut (H x)) (he : e = x ∨ H e = some (.own x)) (k : ∀ b u, b ≠ e → s.heap.get? b = some u → h'.get? b = some u) (heo : ∃ u, h'.get? e = some u)
    (new : cM X.prog X.w (upd H x o) h' x o) : Inv X pins σ (upd H x o) { s with heap := h', toks := t' } := I.un (Un.write mu he k heo) (I.hok.write mu he k heo new)
theorem Inv.Br {pins' : List (Addr × Obj)} (I : Inv X pins σ H s) (h : ∀ p ∈ pins', s.heap.get? p.1 = some p.2 ∧ H p.1 = none ∧ p.1 ≠ X.env.locals ∧ p.1 ∉ X.fs ∧ ∀ v, p.2.data ≠ .cell v) : Inv X pins' σ H s :=
  ⟨I.ok, I.os, I.bare, I.base, I.loc, I.cell, I.free, I.freeC, fun p hp => (List.mem_append.mp hp).elim (fun z => I.pin p (List.mem_append_left _ z)) (h p), I.hok, I.len⟩
theorem xZ {N : List Str} (hN : N.Nodup) {i j : Nat} {x : Str} (a : N[i]? = some x) (b : N[j]? = some x) : i = j := by
  obtain ⟨h1, e1⟩ := List.getElem?_eq_some_iff.mp a
  obtain ⟨h2, e2⟩ := List.getElem?_eq_some_iff.mp b
  exact (List.getElem_inj hN).mp (e1.trans e2.symm)
theorem vI {M : Model} {A : Around} {E : Value → Shared → Prop} {i : Nat} {x : Str} {v : V} {u : Value} {Q : Unit → Shared → Prop} (I : Inv X pins σ H s) (hN : X.N.Nodup) (hi : X.N[i]? = some x) (hx : Loc X.env.scope x) (r : RelV v u)
    (h : ∀ s', Inv X pins (σ.set i (some v)) H s' → (∃ a, Heap.SameBut a s.heap s'.heap ∧ (a = X.env.locals ∨ X.env.cells.lookup x = some a)) → Q () s') (hf : X.fn x = true ∨ X.env.scope.names.lookup x = some .local := by first | exact .inl rfl | exact .inr rfl | assumption) : wpAny M A (storeName X.env x u) Q E s := by
  obtain ⟨m, hn, hl⟩ := id I.loc
  have hcls : (X.env.scope.kind == .class || (X.env.scope.kind == .module && X.env.locals != X.env.globals)) = false := by rw [I.ok.kind]; rfl
  have hiσ : i < σ.length := by rw [I.len]; exact (List.getElem?_eq_some_iff.mp hi).1
  have cne := I.cne
  have tracked : ∀ {a : Addr} {h' : Heap}, (∃ o, s.heap.get? a = some o ∧ H a = none) → Heap.SameBut a s.heap h' → HOk X.prog X.w H h' := fun {a h'} ha hs b ob e => by
    obtain ⟨_, _, hfree⟩ := ha
    refine (I.hok b ob e).stay (fun c w' hc q => (hs.2 c ?_).trans q) (fun _ q => q) fun _ _ q => q
    rintro rfl
    rcases hc with rfl | hc
    · rw [hfree] at e; cases e
    · rw [hfree] at hc; cases hc
  rcases hx with hk | hk
  · refine wpAny_storeName_local hk hn (fun h' hn' hs => ?_) hcls
    obtain ⟨oL, _, _, hoL, _⟩ := id hn
    refine h _ ⟨I.ok, I.os, I.bare, ⟨fun b o e n hb hx => ?_, fun b o e n hb hx => ?_, I.base.free, fun b o e hx => ?_, I.base.tups, I.base.frzs, I.base.tbls⟩, ⟨_, hn', fun j y v' e1 e2 e3 => ?_⟩, fun y c e => ?_, I.free, I.freeC, fun p hp => ?_, tracked ⟨oL, hoL, I.free⟩ hs, by simpa using I.len⟩ ⟨_, hs, .inl rfl⟩
    · exact (hs.2 b (Nat.ne_of_lt (Nat.lt_of_lt_of_le (Heap.lt_size e) I.ok.above))).trans (I.base.keep b o e n hb hx)
    · obtain ⟨sl, e1⟩ := I.base.slot b o e n hb hx
      exact ⟨sl, (hs.2 b (Nat.ne_of_lt (Nat.lt_of_lt_of_le (Heap.lt_size e) I.ok.above))).trans e1⟩
    · obtain ⟨o', e1⟩ := I.base.there b o e hx
      exact ⟨o', (hs.2 b (Nat.ne_of_lt (Nat.lt_of_lt_of_le (Heap.lt_size e) I.ok.above))).trans e1⟩
    · by_cases hj : j = i
      · subst hj
        rw [hi] at e1; cases e1
        rw [List.getElem?_set_self hiσ] at e2
        cases e2
        exact ⟨u, r, .inl ⟨hk, by simp⟩⟩
      · rw [List.getElem?_set_ne (Ne.symm hj)] at e2
        obtain ⟨u', r', q⟩ := hl j y v' e1 e2 e3
        refine ⟨u', r', ?_⟩
        rcases q with ⟨k, e⟩ | ⟨k, c, e, z⟩
        · refine .inl ⟨k, ?_⟩
          have : y ≠ x := fun e => hj (xZ hN e1 (e ▸ hi))
          simp [this, e]
        · exact .inr ⟨k, c, e, z.sameBut hs (cne y c e)⟩
    · obtain ⟨w', z⟩ := I.cell y c e
      exact ⟨w', z.sameBut hs (cne y c e)⟩
    · obtain ⟨e, n, ne, nf, d⟩ := I.pin p hp
      exact ⟨(hs.2 p.1 ne).trans e, n, ne, nf, d⟩
  · have hfn : X.fn x = true := by
      rcases hf with z | z
      · exact z
      · rw [z] at hk; cases hk
    obtain ⟨c, hc⟩ := I.ok.has x (.inl hk)
    obtain ⟨w', z⟩ := I.cell x c hc
    refine wpAny_storeName_cell I.ok.kind hk hc z (fun h' hc' hs => ?_)
    obtain ⟨oc, hoc, hocd⟩ := id z
    refine h { s with heap := h' } ⟨I.ok, I.os, I.bare, ⟨fun b o e n hb hx => ?_, fun b o e n hb hx => ?_, I.base.free, fun b o e hx => ?_, I.base.tups, I.base.frzs, I.base.tbls⟩, ⟨m, hn.sameBut hs (Ne.symm (cne x c hc)), fun j y v' e1 e2 e3 => ?_⟩, fun y c' e => ?_, I.free, I.freeC, fun p hp => ?_, tracked ⟨oc, hoc, I.freeC x c hc⟩ hs, by simpa using I.len⟩ ⟨c, hs, .inr hc⟩
    · exact (hs.2 b (Nat.ne_of_lt (Nat.lt_of_lt_of_le (Heap.lt_size e) (I.ok.cab x c hfn hc)))).trans (I.base.keep b o e n hb hx)
    · obtain ⟨sl, e1⟩ := I.base.slot b o e n hb hx
      exact ⟨sl, (hs.2 b (Nat.ne_of_lt (Nat.lt_of_lt_of_le (Heap.lt_size e) (I.ok.cab x c hfn hc)))).trans e1⟩
    · obtain ⟨o', e1⟩ := I.base.there b o e hx
      exact ⟨o', (hs.2 b (Nat.ne_of_lt (Nat.lt_of_lt_of_le (Heap.lt_size e) (I.ok.cab x c hfn hc)))).trans e1⟩
    · by_cases hj : j = i
      · subst hj
        rw [hi] at e1; cases e1
        rw [List.getElem?_set_self hiσ] at e2
        cases e2
        exact ⟨u, r, .inr ⟨.inl hk, c, hc, hc'⟩⟩
      · rw [List.getElem?_set_ne (Ne.symm hj)] at e2
        obtain ⟨u', r', q⟩ := hl j y v' e1 e2 e3
        refine ⟨u', r', ?_⟩
        rcases q with q | ⟨k, c', e, z'⟩
        · exact .inl q
        · refine .inr ⟨k, c', e, z'.sameBut hs ?_⟩
          rintro rfl
          exact hj (xZ hN e1 (I.ok.inj _ _ _ e hc ▸ hi))
    · by_cases hcc : c' = c
      · subst hcc; exact ⟨_, hc'⟩
      · obtain ⟨w2, z2⟩ := I.cell y c' e
        exact ⟨w2, z2.sameBut hs hcc⟩
    · obtain ⟨e, n, ne, nf, d⟩ := I.pin p hp
      refine ⟨(hs.2 p.1 ?_).trans e, n, ne, nf, d⟩
      intro q
      rw [q, hoc] at e
      have q' : oc = p.2 := Option.some.inj e
      exact d w' (by rw [← q']; exact hocd)
theorem yD {M : Model} {A : Around} {E : Value → Shared → Prop} {i : Nat} {x : Str} {v : V} {u : Value} {Q : Unit → Shared → Prop} (I : Inv X pins σ H s) (hN : X.N.Nodup) (hi : X.N[i]? = some x) (hx : Loc X.env.scope x) (r : RelV v u)
    (h : ∀ s', Inv X pins (σ.set i (some v)) H s' → Q () s') (hf : X.fn x = true ∨ X.env.scope.names.lookup x = some .local := by first | exact .inl rfl | exact .inr rfl | assumption) : wpAny M A (storeName X.env x u) Q E s :=
  vI I hN hi hx r (fun s' I' _ => h s' I') hf
theorem Inv.call' {s' : Shared} {ch : List Addr} (I : Inv X pins σ H s) (ho : s'.os = s.os) (u : Un (frs X.stack) ch H H' s.heap s'.heap) (hok : HOk X.prog X.w H' s'.heap) (hg : AllBare s'.gens)
    (hch : ∀ b ∈ ch, (b ∈ X.ex ∨ X.s₀.heap.objs.size ≤ b) ∧ b ≠ X.env.locals ∧ (∀ x c, X.env.cells.lookup x = some c → c ≠ b) ∧ ∀ p ∈ X.pn ++ pins, p.1 ≠ b) : Inv X pins σ H' s' := by
  obtain ⟨h', g', d', t', o'⟩ := s'
  have e : o' = s.os := ho
  subst e
  exact I.call (g' := g') (t' := t') (d' := d') u hok hg hch
end
noncomputable abbrev XK := Value → Option Addr → Hp → Prop
noncomputable abbrev St := List (Option V)
noncomputable abbrev VK := V → Hp → Prop
noncomputable abbrev TE := St → Hp → VK → Prop
noncomputable abbrev TT := St → Hp → (Bool → Hp → Prop) → Prop
noncomputable abbrev TA := St → Hp → (List V → Hp → Prop) → Prop
structure Ends where
  nx : St → Hp → Prop
  rt : VK
  bk : St → Hp → Prop := fun _ _ => False
  ct : St → Hp → Prop := fun _ _ => False
noncomputable abbrev TS := Ends → St → Hp → Prop
noncomputable def EP (X : Cx) (pins : List (Addr × Obj)) (σ : St) (Q : VK) (u : Value) (s' : Shared) : Prop := ∃ v H', Inv X pins σ H' s' ∧ RelV v u ∧ Q v H'
noncomputable def TP (X : Cx) (pins : List (Addr × Obj)) (σ : St) (Q : Bool → Hp → Prop) (b : Bool) (s' : Shared) : Prop := ∃ H', Inv X pins σ H' s' ∧ Q b H'
noncomputable def AP (X : Cx) (pins : List (Addr × Obj)) (σ : St) (Q : List V → Hp → Prop) (us : List Value) (s' : Shared) : Prop := ∃ vs H', Inv X pins σ H' s' ∧ Vals vs us ∧ Q vs H'
noncomputable def SP (X : Cx) (pins : List (Addr × Obj)) (D : Ends) (f : Flow) (s' : Shared) : Prop :=
  match f with
  | .next => ∃ σ' H', Inv X pins σ' H' s' ∧ D.nx σ' H'
  | .brk => ∃ σ' H', Inv X pins σ' H' s' ∧ D.bk σ' H'
  | .cont => ∃ σ' H', Inv X pins σ' H' s' ∧ D.ct σ' H'
  | .ret u => ∃ v σ' H', Inv X pins σ' H' s' ∧ RelV v u ∧ D.rt v H'
noncomputable def PE (X : Cx) (e : Expr) (t : TE) : Prop :=
  ∀ (pins : List (Addr × Obj)) (s : Shared) (σ : St) (H : Hp) (Q : VK), Inv X pins σ H s → t σ H Q → wpAny (model X.prog X.w) X.A (eval e X.env) (EP X pins σ Q) X.xe s
noncomputable def PT (X : Cx) (e : Expr) (t : TT) : Prop :=
  ∀ (pins : List (Addr × Obj)) (s : Shared) (σ : St) (H : Hp) (Q : Bool → Hp → Prop), Inv X pins σ H s → t σ H Q → wpAny (model X.prog X.w) X.A (isTrue e X.env (eval e X.env)) (TP X pins σ Q) X.xe s
noncomputable def PW (X : Cx) (e : Expr) (t : TT) : Prop :=
  ∀ (whole : Sem Value) (pins : List (Addr × Obj)) (s : Shared) (σ : St) (H : Hp) (Q : Bool → Hp → Prop), Inv X pins σ H s → t σ H Q → wpAny (model X.prog X.w) X.A (isTrue e X.env whole) (TP X pins σ Q) X.xe s
theorem PW.pt {X : Cx} {e : Expr} {t : TT} (h : PW X e t) : PT X e t := h _
noncomputable def PA (X : Cx) (es : List Expr) (t : TA) : Prop :=
  ∀ (pos : Pos) (pins : List (Addr × Obj)) (s : Shared) (σ : St) (H : Hp) (Q : List V → Hp → Prop), Inv X pins σ H s → t σ H Q → wpAny (model X.prog X.w) X.A (spliced (backTo pos (starEach es X.env))) (AP X pins σ Q) X.xe s
noncomputable def PS (X : Cx) (st : Stmt) (t : TS) : Prop :=
  ∀ (pins : List (Addr × Obj)) (s : Shared) (σ : St) (H : Hp) (D : Ends), Inv X pins σ H s → t D σ H → wpAny (model X.prog X.w) X.A (exec st X.env) (SP X pins D) X.xe s
noncomputable def PSs (X : Cx) (st : List Stmt) (t : TS) : Prop :=
  ∀ (pins : List (Addr × Obj)) (s : Shared) (σ : St) (H : Hp) (D : Ends), Inv X pins σ H s → t D σ H → wpAny (model X.prog X.w) X.A (execs st X.env) (SP X pins D) X.xe s
theorem thn {α : Type} {t : Sem α} {Q Q' : α → Shared → Prop} {M : Model} {A : Around} {E : Value → Shared → Prop} {s : Shared} (h : wpAny M A t Q E s) (hQ : ∀ a s, Q a s → Q' a s) : wpAny M A t Q' E s := wpAny_mono h hQ fun _ _ x => x
end L2
namespace L2
open PySem PySem.Spec PyProof.Rows
section
variable {X : Cx}
noncomputable def Rt (i : Nat) : TE := fun σ H Q => ∃ v, σ[i]? = some (some v) ∧ Q v H
noncomputable def tC (v : V) : TE := fun _ H Q => Q v H
theorem n8 {i : Nat} {x : Str} {pos : Pos} (hN : X.N[i]? = some x) (hv : Vis X.env.scope x) (hd : (x == ("__debug__" : Str)) = false := by decide) (hcd : (x == ("__classdict__" : Str)) = false := by decide) : PE X (.Name x pos) (Rt i) := by
  intro pins s σ H Q I h
  obtain ⟨v, e, h⟩ := h
  obtain ⟨m, hn, hl⟩ := I.loc
  obtain ⟨u, r, l⟩ := hl i x v hN e hv
  have fin : EP X pins σ Q u s := ⟨v, H, I, r, h⟩
  rcases l with ⟨hk, hm⟩ | ⟨hk, c, hc, hcell⟩
  · exact wpAny_Name (wpAny_loadName_local I.ok.kind hk hn hm fin) hd
  · rcases hk with hk | hk
    · exact wpAny_Name (wpAny_loadName_cell I.ok.kind hk hc hcell fin) hd
    · exact wpAny_Name (wpAny_loadName_free I.ok.kind hk hc hcell fin hcd) hd
theorem Ow {i j pos} : PE X (.Constant (.int i) j pos) (tC (.int i)) := fun _ _ _ H _ I h => wpAny_Constant_int ⟨.int i, H, I.tok _, ⟨_, rfl⟩, h⟩
theorem Qn {b j pos} : PE X (.Constant (.bool b) j pos) (tC (.bl b)) := fun _ _ _ H _ I h => Constant_bool ⟨.bl b, H, I, rfl, h⟩
theorem Nb {j pos} : PE X (.Constant .none j pos) (tC .non) := fun _ _ _ H _ I h => Constant_none ⟨.non, H, I, rfl, h⟩
theorem PX {x j pos} : PE X (.Constant (.str x) j pos) (tC (.str x)) := fun _ _ _ H _ I h => Calls.Constant_str ⟨.str x, H, I.tok _, ⟨_, rfl⟩, h⟩
noncomputable def Gl (X : Cx) (x : Str) : Prop := X.env.kindOf x = some .globalImplicit
theorem Bm {E : Value → Shared → Prop} {pins : List (Addr × Obj)} {s : Shared} {σ : St} {H : Hp} {x : Str} {u : Value} {pos : Pos} {Q : Value → Shared → Prop} (I : Inv X pins σ H s) (hg : Gl X x) (hm : X.mg x = some u) (h : Q u s)
    (hd : (x == ("__debug__" : Str)) = false := by decide) : wpAny (model X.prog X.w) X.A (eval (.Name x pos) X.env) Q E s :=
  Calls.Name_function_global I.ok.kind hg (Calls.loadGlobal_global (by rw [I.ok.glob]; exact I.mod.glob.keeps I.bk) hm h) hd
theorem lE {E : Value → Shared → Prop} {pins : List (Addr × Obj)} {s : Shared} {σ : St} {H : Hp} {x : Str} {u : Value} {pos : Pos} {Q : Value → Shared → Prop} (I : Inv X pins σ H s) (hg : Gl X x) (hm : X.mg x = none) (hv : bootBuiltins x = some u) (h : Q u s)
    (hn : x ≠ "__name__" := by decide) (hd : (x == ("__debug__" : Str)) = false := by decide) : wpAny (model X.prog X.w) X.A (eval (.Name x pos) X.env) Q E s := by
  obtain ⟨mb, h1, h2⟩ := I.mod.blt
  exact Calls.Name_function_global I.ok.kind hg (Calls.loadGlobal_builtin (by rw [I.ok.glob]; exact I.mod.glob.keeps I.bk) hm (by rw [I.ok.blt]; exact h1.keeps I.bk) ((h2 x hn).trans hv) h) hd
theorem Lk {x : Str} {v : V} {u : Value} {pos : Pos} (hg : Gl X x) (hm : X.mg x = some u) (r : RelV v u) (hd : (x == ("__debug__" : Str)) = false := by decide) : PE X (.Name x pos) (tC v) :=
  fun _ _ _ H _ I h => Bm I hg hm ⟨v, H, I, r, h⟩ hd
theorem Lw {x : Str} {v : V} {u : Value} {pos : Pos} (hg : Gl X x) (hm : X.mg x = none) (hv : bootBuiltins x = some u) (r : RelV v u) (hn : x ≠ "__name__" := by decide) (hd : (x == ("__debug__" : Str)) = false := by decide) : PE X (.Name x pos) (tC v) :=
  fun _ _ _ H _ I h => lE I hg hm hv ⟨v, H, I, r, h⟩ hn hd
variable {a b : Expr} {ta tb : TE} {pos : Pos}
noncomputable def tB (t : TE) : TT := fun σ H Q => t σ H fun x H1 => ∃ c, x = .bl c ∧ Q c H1
theorem M3 {e : Expr} {t : TE} (h : PE X e t) (he : ∀ whole, isTrue e X.env whole = (do let v ← whole; standAt e.pos; holding [v] (truthy v)) := by intro _; rfl) : PT X e (tB t) := by
  intro pins s σ H Q I hw
  refine isTrue_plain (thn (h pins s σ H _ I hw) fun v s1 hq__ => ?_) (he _)
  obtain ⟨x, H1, I1, r1, q1⟩ := hq__
  obtain ⟨d, rfl, q⟩ := q1
  cases r1
  exact wpAny_truthy_bool ⟨H1, I1, q⟩
variable {tA tB' : TT} {rest : List Expr}
noncomputable def Rk (t u : TT) : TT := fun σ H Q => t σ H fun c H1 => if c = true then u σ H1 Q else Q false H1
noncomputable def tOr (t u : TT) : TT := fun σ H Q => t σ H fun c H1 => if c = true then Q true H1 else u σ H1 Q
noncomputable def Rq (t : TT) : TT := fun σ H Q => t σ H fun c H1 => Q (!c) H1
theorem J9 (ha : PT X a tA) : PW X (.BoolOp .And [a] pos) tA := by
  intro wh pins s σ H Q I h
  refine isTrue_and (thn (ha pins s σ H Q I h) fun c s1 e => ?_)
  cases c with
  | true => exact isTrue_and_nil e
  | false => exact e
theorem Pr (ha : PT X a tA) : PW X (.BoolOp .Or [a] pos) tA := by
  intro wh pins s σ H Q I h
  refine isTrue_or (thn (ha pins s σ H Q I h) fun c s1 e => ?_)
  cases c with
  | false => exact isTrue_or_nil e
  | true => exact e
theorem Oc (ha : PT X a tA) (hb : PW X (.BoolOp .And (b :: rest) pos) tB') : PW X (.BoolOp .And (a :: b :: rest) pos) (Rk tA tB') := by
  intro wh pins s σ H Q I h
  refine isTrue_and (thn (ha pins s σ H _ I h) fun c s1 hq__ => ?_)
  obtain ⟨H1, I1, q1⟩ := hq__
  cases c with
  | true => exact hb wh pins s1 σ H1 Q I1 q1
  | false => exact ⟨H1, I1, q1⟩
theorem Qo (ha : PT X a tA) (hb : PW X (.BoolOp .Or (b :: rest) pos) tB') : PW X (.BoolOp .Or (a :: b :: rest) pos) (tOr tA tB') := by
  intro wh pins s σ H Q I h
  refine isTrue_or (thn (ha pins s σ H _ I h) fun c s1 hq__ => ?_)
  obtain ⟨H1, I1, q1⟩ := hq__
  cases c with
  | true => exact ⟨H1, I1, q1⟩
  | false => exact hb wh pins s1 σ H1 Q I1 q1
theorem Mz (ha : PT X a tA) : PT X (.UnaryOp .Not a pos) (Rq tA) := by
  intro pins s σ H Q I h
  exact isTrue_not (ha pins s σ H (fun c H1 => Q (!c) H1) I h)
noncomputable def Qx (ta tb : TE) : TE := fun σ H Q => ta σ H fun x H1 => ∃ c, x = .bl c ∧ if c = true then tb σ H1 Q else Q (.bl false) H1
noncomputable def Qu (ta : TE) : TE := fun σ H Q => ta σ H fun x H1 => ∃ c, x = .bl c ∧ Q (.bl (!c)) H1
theorem M8 {op} {t : TE} (h : PE X a t) : PE X (.BoolOp op [a] pos) t := fun pins s σ H Q I hw => BoolOp_one (h pins s σ H Q I hw)
theorem Og (ha : PE X a ta) (hb : PE X (.BoolOp .And (b :: rest) pos) tb) : PE X (.BoolOp .And (a :: b :: rest) pos) (Qx ta tb) := by
  intro pins s σ H Q I h
  refine BoolOp_and (thn (ha pins s σ H _ I h) fun v s1 hq__ => ?_)
  obtain ⟨x, H1, I1, r1, q1⟩ := hq__
  obtain ⟨c, rfl, q1⟩ := q1
  cases r1
  refine wpAny_truthy_bool ?_
  cases c with
  | true => exact hb pins s1 σ H1 Q I1 q1
  | false => exact ⟨.bl false, H1, I1, rfl, q1⟩
theorem Mp (ha : PE X a ta) : PE X (.UnaryOp .Not a pos) (Qu ta) := by
  intro pins s σ H Q I h
  refine UnaryOp_ (thn (ha pins s σ H _ I h) fun v s1 hq__ => ?_)
  obtain ⟨x, H1, I1, r1, q1⟩ := hq__
  obtain ⟨c, rfl, q1⟩ := q1
  cases r1
  exact not_of (wpAny_truthy_bool ⟨.bl (!c), H1, I1, rfl, q1⟩)
end
end L2
namespace L2
open PySem PySem.Spec PyProof.Rows
noncomputable def SqL (K : PySem.W.Frag) (H : Hp) (a : Addr) (xs : List V) : Prop :=
  Rd H a (.lst xs) ∨
    ∃ (o : Obj) (its : Array Value) (n : Nat), K.lookup a = some o ∧ o.cls = .type "list" ∧ o.dict = none ∧ o.data = .seq its n ∧ its.size ≤ sizeLine ∧ Vals xs its.toList
noncomputable def SqT (K : PySem.W.Frag) (H : Hp) (a : Addr) (xs : List V) : Prop :=
  Rd H a (.tup xs) ∨
    ∃ (o : Obj) (its : Array Value) (n : Nat), K.lookup a = some o ∧ o.cls = .type "tuple" ∧ o.data = .seq its n ∧ its.size ≤ sizeLine ∧ Vals xs its.toList
noncomputable def Rz : Value → Option V
  | .none => some .non
  | .bool b => some (.bl b)
  | .int i _ => some (.int i)
  | .str x _ => some (.str x)
  | .bytes b _ => some (.byt b)
  | .float b _ => some (.flt b)
  | .ref a => some (.ref a)
  | .type n => some (.ty n)
  | _ => none
theorem RelV.abs {x : V} {u : Value} (r : RelV x u) : Rz u = some x := by
  cases x with
  | non => cases r; rfl
  | bl _ => cases r; rfl
  | int _ => obtain ⟨t, rfl⟩ := r; rfl
  | str _ => obtain ⟨t, rfl⟩ := r; rfl
  | byt _ => obtain ⟨t, rfl⟩ := r; rfl
  | flt _ => obtain ⟨t, rfl⟩ := r; rfl
  | ref _ => cases r; rfl
  | ty _ => cases r; rfl
theorem RelV.inj {x y : V} {u : Value} (r : RelV x u) (q : RelV y u) : x = y := Option.some.inj (r.abs.symm.trans q.abs)
theorem Vals.inj : ∀ {xs ys : List V} {us : List Value}, Vals xs us → Vals ys us → xs = ys
  | _, _, _, .nil, .nil => rfl
  | _, _, _, .cons r t, .cons r' t' => by rw [r.inj r', Vals.inj t t']
section
variable {X : Cx} {pins : List (Addr × Obj)} {σ : St} {H : Hp} {s : Shared} {a : Addr} {xs ys : List V}
theorem SqL.of {K : PySem.W.Frag} (h : H a = some (.lst xs)) : SqL K H a xs := .inl (.inl h)
theorem SqT.of {K : PySem.W.Frag} (h : H a = some (.tup xs)) : SqT K H a xs := .inl (.inl h)
theorem Inv.list (I : Inv X pins σ H s) (h : SqL X.K H a xs) : ∃ its : List Value, Vals xs its ∧ PlainL s.heap a its.toArray ∧ xs.length ≤ sizeLine := by
  rcases h with h | ⟨o, its, n, hk, hc, hd, hs, hz, r⟩
  · obtain ⟨z, its, n, r, e⟩ := h.ok I.hok
    exact ⟨its, r, ⟨_, n, e, rfl, rfl, rfl⟩, z⟩
  · refine ⟨its.toList, r, ⟨o, n, I.kIn a o hk, hc, hd, by simpa using hs⟩, ?_⟩
    have e := r.length
    simp only [Array.length_toList] at e
    omega
theorem Inv.tuple (I : Inv X pins σ H s) (h : SqT X.K H a xs) : ∃ its : List Value, Vals xs its ∧ IsTup s.heap a its.toArray ∧ xs.length ≤ sizeLine := by
  rcases h with h | ⟨o, its, n, hk, hc, hs, hz, r⟩
  · obtain ⟨z, its, r, p⟩ := h.ok I.hok
    exact ⟨its, r, p, z⟩
  · refine ⟨its.toList, r, ⟨o, I.kIn a o hk, hc, n, by simpa using hs⟩, ?_⟩
    have e := r.length
    simp only [Array.length_toList] at e
    omega
theorem Inv.xW (I : Inv X pins σ H s) (h : SqL X.K H a xs) (h' : SqL X.K H a ys) : xs = ys := by
  obtain ⟨its, r, ⟨o, n, e, _, _, d⟩, _⟩ := I.list h
  obtain ⟨its', r', ⟨o', n', e', _, _, d'⟩, _⟩ := I.list h'
  rw [e] at e'; cases e'
  rw [d] at d'
  injection d' with d1 _
  have : its = its' := by simpa using congrArg Array.toList d1
  subst this
  exact r.inj r'
theorem Inv.Fv (I : Inv X pins σ H s) (h : SqT X.K H a xs) (h' : SqT X.K H a ys) : xs = ys := by
  obtain ⟨its, r, ⟨o, e, _, n, d⟩, _⟩ := I.tuple h
  obtain ⟨its', r', ⟨o', e', _, n', d'⟩, _⟩ := I.tuple h'
  rw [e] at e'; cases e'
  rw [d] at d'
  injection d' with d1 _
  have : its = its' := by simpa using congrArg Array.toList d1
  subst this
  exact r.inj r'
end
noncomputable abbrev Cx.wish (X : Cx) (E : Value → Shared → Prop) : Cx := { X with xe := E }
noncomputable abbrev Cx.nox (X : Cx) : Cx := X.wish fun _ _ => False
theorem Cx.Ok.wish {X : Cx} (ok : X.Ok) (E : Value → Shared → Prop) : (X.wish E).Ok :=
  ⟨ok.mod, ok.kind, ok.glob, ok.blt, ok.above, ok.inj, ok.has, ok.cab, ok.hd, ok.frames, ok.stk, ok.exf, ok.bs, ok.bsz, ok.noex, ok.exfs, ok.mH, ok.frf⟩
theorem Cx.Ok.kY {X : Cx} {E : Value → Shared → Prop} (ok : (X.wish E).Ok) : X.Ok :=
  ⟨ok.mod, ok.kind, ok.glob, ok.blt, ok.above, ok.inj, ok.has, ok.cab, ok.hd, ok.frames, ok.stk, ok.exf, ok.bs, ok.bsz, ok.noex, ok.exfs, ok.mH, ok.frf⟩
section
variable {X : Cx} {pins : List (Addr × Obj)} {σ : St} {H : Hp} {s : Shared} {E : Value → Shared → Prop}
theorem Inv.wish (I : Inv X pins σ H s) (E : Value → Shared → Prop) : Inv (X.wish E) pins σ H s := ⟨I.ok.wish E, I.os, I.bare, I.base, I.loc, I.cell, I.free, I.freeC, I.pin, I.hok, I.len⟩
theorem Inv.kY (I : Inv (X.wish E) pins σ H s) : Inv X pins σ H s := ⟨I.ok.kY, I.os, I.bare, I.base, I.loc, I.cell, I.free, I.freeC, I.pin, I.hok, I.len⟩
theorem SP.kY {D : Ends} {f : Flow} {s' : Shared} (h : SP (X.wish E) pins D f s') : SP X pins D f s' := by
  cases f with
  | next => obtain ⟨σ', H', I, q⟩ := h; exact ⟨σ', H', I.kY, q⟩
  | brk => obtain ⟨σ', H', I, q⟩ := h; exact ⟨σ', H', I.kY, q⟩
  | cont => obtain ⟨σ', H', I, q⟩ := h; exact ⟨σ', H', I.kY, q⟩
  | ret u => obtain ⟨v, σ', H', I, r, q⟩ := h; exact ⟨v, σ', H', I.kY, r, q⟩
theorem PSs.nox {st : List Stmt} {t : TS} (h : PSs X.nox st t) : PSs X st t := fun pins s σ H D I hw =>
  wpAny_mono (h pins s σ H D (I.wish _) hw) (fun _ _ q => q.kY) fun _ _ z => False.elim z
end
section
variable {X : Cx} {st : Stmt} {rest : List Stmt} {t u : TS} {e : Expr} {te : TE} {pos : Pos}
noncomputable def QZ : TS := fun D σ H => D.nx σ H
noncomputable def Rc (t u : TS) : TS := fun D σ H => t { D with nx := u D } σ H
theorem Kf : PSs X [] QZ := fun _ _ σ H _ I h => wpAny_execs_nil ⟨σ, H, I, h⟩
theorem Hz (h1 : PS X st t) (h2 : PSs X rest u) : PSs X (st :: rest) (Rc t u) := by
  intro pins s σ H D I h
  refine wpAny_execs_cons (thn (h1 pins s σ H { D with nx := u D } I h) fun f s1 q => ?_)
  cases f with
  | next =>
    obtain ⟨σ', H', I', q⟩ := q
    exact h2 pins s1 σ' H' D I' q
  | ret v => exact q
  | brk => exact q
  | cont => exact q
theorem KJ (h1 : PS X st t) : PSs X [st] t := by
  intro pins s σ H D I h
  refine wpAny_execs_cons (thn (h1 pins s σ H D I h) fun f s1 q => ?_)
  cases f with
  | next => exact wpAny_execs_nil q
  | ret v => exact q
  | brk => exact q
  | cont => exact q
theorem Inv.quiet {pins : List (Addr × Obj)} {σ : St} {H : Hp} {s : Shared} (I : Inv X pins σ H s) : interactive X.env = false := by simp [interactive, I.ok.kind]
noncomputable def Ql (te : TE) : TS := fun D σ H => te σ H fun _ H1 => D.nx σ H1
theorem Ad (he : PE X e te) (hs : swapsWith e none pos.line X.env = pure false := by rfl) : PS X (.Expr e pos) (Ql te) := by
  intro pins s σ H D I h
  exact wpAny_Expr_any (thn (he pins s σ H _ I h) fun v s1 ⟨x, H1, I1, r1, q1⟩ => ⟨σ, H1, I1, q1⟩) I.quiet hs
noncomputable def RM (te : TE) : TS := fun D σ H => te σ H D.rt
theorem xU (he : PE X e te) : PS X (.Return (some e) pos) (RM te) := by
  intro pins s σ H D I h
  exact wpAny_Return_some (thn (he pins s σ H _ I h) fun v s1 ⟨x, H1, I1, r1, q1⟩ => ⟨x, σ, H1, I1, r1, q1⟩)
noncomputable def R3 (c : TT) (t u : TS) : TS := fun D σ H => c σ H fun b H1 => if b = true then t D σ H1 else u D σ H1
theorem Qm {c : Expr} {a b : List Stmt} {tc : TT} (hc : PT X c tc) (ha : PSs X a t) (hb : PSs X b u) : PS X (.If c a b pos) (R3 tc t u) := by
  intro pins s σ H D I h
  refine wpAny_If (thn (hc pins s σ H _ I h) fun d s1 hq__ => ?_)
  obtain ⟨H1, I1, q1⟩ := hq__
  cases d with
  | true => exact ha pins s1 σ H1 D I1 q1
  | false => exact hb pins s1 σ H1 D I1 q1
noncomputable def Qe : TS := fun _ _ _ => False
theorem Jl : PS X st Qe := fun _ _ _ _ _ _ h => h.elim
end
noncomputable abbrev TG := V → St → Hp → (St → Hp → Prop) → Prop
noncomputable abbrev TGs := List V → St → Hp → (St → Hp → Prop) → Prop
noncomputable def PG (X : Cx) (target : Expr) (t : TG) : Prop :=
  ∀ (pins : List (Addr × Obj)) (s : Shared) (σ : St) (H : Hp) (v : V) (u : Value) (Q : St → Hp → Prop), Inv X pins σ H s → RelV v u → t v σ H Q →
    wpAny (model X.prog X.w) X.A (assign target X.env u) (fun _ s' => ∃ σ' H', Inv X pins σ' H' s' ∧ Q σ' H') X.xe s
noncomputable def PGs (X : Cx) (ts : List Expr) (t : TGs) : Prop :=
  ∀ (pins : List (Addr × Obj)) (s : Shared) (σ : St) (H : Hp) (vs : List V) (us : List Value) (Q : St → Hp → Prop), Inv X pins σ H s → Vals vs us → t vs σ H Q →
    wpAny (model X.prog X.w) X.A (assignInOrder ((assignEach ts X.env).map (·.2)) us) (fun _ s' => ∃ σ' H', Inv X pins σ' H' s' ∧ Q σ' H') X.xe s
section
variable {X : Cx} {pos : Pos}
noncomputable def t7 (i : Nat) : TG := fun v σ H Q => Q (σ.set i (some v)) H
theorem Lr {i : Nat} {x : Str} (hN : X.N.Nodup) (hi : X.N[i]? = some x) (hx : Loc X.env.scope x) (hf : X.fn x = true ∨ X.env.scope.names.lookup x = some .local := by first | exact .inl rfl | exact .inr rfl | assumption) : PG X (.Name x pos) (t7 i) := by
  intro pins s σ H v u Q I r h
  exact wpAny_assign_Name (yD I hN hi hx r (fun s' I' => ⟨_, H, I', h⟩) hf)
noncomputable def RG : TGs := fun vs σ H Q => vs = [] ∧ Q σ H
noncomputable def QJ (t : TG) (u : TGs) : TGs := fun vs σ H Q => ∃ v r, vs = v :: r ∧ t v σ H fun σ' H' => u r σ' H' Q
theorem LK : PGs X [] RG := by
  intro pins s σ H vs us Q I r h
  obtain ⟨e, h⟩ := h
  subst e
  cases r
  exact assignInOrder_nil ⟨σ, H, I, h⟩
theorem Hq {e : Expr} {es : List Expr} {t : TG} {u : TGs} (h1 : PG X e t) (h2 : PGs X es u)
    (hs : (assignEach (e :: es) X.env).map (·.2) = assign e X.env :: (assignEach es X.env).map (·.2) := by rfl) : PGs X (e :: es) (QJ t u) := by
  intro pins s σ H vs us Q I r h
  obtain ⟨v, vr, e1, h⟩ := h
  subst e1
  cases r with
  | cons r rr =>
    rw [hs]
    refine assignInOrder_cons (thn (h1 pins s σ H _ _ _ I r h) fun _ s1 hq__ => ?_)
    obtain ⟨σ1, H1, I1, q1⟩ := hq__
    exact h2 pins s1 σ1 H1 _ _ Q I1 rr q1
noncomputable def RD (K : PySem.W.Frag) (n : Nat) (t : TGs) : TG := fun v σ H Q => ∃ a xs, v = .ref a ∧ SqT K H a xs ∧ xs.length = n ∧ t xs σ H Q
theorem Pu {es : List Expr} {k : Nat} {t : TGs} {n : Nat} (hc : X.calm = true) (h : PGs X es t)
    (hn : (assignEach es X.env).length = n := by rfl) (hst : (assignEach es X.env).findIdx? (·.1) = none := by rfl) : PG X (.Tuple es k pos) (RD X.K n t) := by
  intro pins s σ H v u Q I r hw
  obtain ⟨a, xs, e1, hq, hl, hw⟩ := hw
  subst e1
  cases r
  obtain ⟨its, rv, ht, hz⟩ := I.tuple hq
  refine assign_Tuple_tuple (I.ok.hd hc) ht (by simp [hn, ← hl, rv.length]) hst fun h' hx => ?_
  have I1 : Inv X pins σ H { s with heap := h' } := I.kept (t' := s.toks) fun b o e => hx b o (Nat.ne_of_lt (Heap.lt_size e)) e
  exact h pins _ σ H xs _ Q I1 (by simpa using rv) hw
noncomputable def yI (te : TE) (g : TG) : TS := fun D σ H => te σ H fun x H1 => g x σ H1 D.nx
theorem OJ {tg e : Expr} {te : TE} {g : TG} (he : PE X e te) (hg : PG X tg g) (hs : swapsWithSole [tg] e pos.line X.env = pure false := by rfl) (hw : swappedStores [tg] e X.env = pure none := by rfl)
    (h1 : (assignEach [tg] X.env).map (·.2) = [assign tg X.env] := by rfl) : PS X (.Assign [tg] e pos) (yI te g) := by
  intro pins s σ H D I h
  refine wpAny_Assign_stores (thn (he pins s σ H _ I h) fun v s1 hq__ => ?_) hs hw
  obtain ⟨x, H1, I1, r1, q1⟩ := hq__
  rw [h1]
  exact thn (hg pins s1 σ H1 x v _ I1 r1 q1) fun _ s2 q => q
theorem Eh {i : Nat} {x : Str} {e : Expr} {te : TE} {pos' : Pos} (hN : X.N.Nodup) (hi : X.N[i]? = some x) (hx : Loc X.env.scope x) (he : PE X e te) (hs : swapsWith e (some (.Name x pos')) pos.line X.env = pure false := by rfl) (hf : X.fn x = true ∨ X.env.scope.names.lookup x = some .local := by first | exact .inl rfl | exact .inr rfl | assumption) :
    PS X (.Assign [.Name x pos'] e pos) (yI te (t7 i)) := by
  intro pins s σ H D I h
  refine wpAny_Assign_Name (thn (he pins s σ H _ I h) fun v s1 hq__ => ?_) hs
  obtain ⟨y, H1, I1, r1, q1⟩ := hq__
  exact yD I1 hN hi hx r1 (fun s2 I2 => ⟨_, H1, I2, q1⟩) hf
end
section
variable {X : Cx} {pos : Pos}
end
structure It where
  go : Nat → Hp → Prop
  yld : Nat → Hp → V → Hp → Prop
  stop : Nat → Hp → Prop
noncomputable def mR (X : Cx) (pins : List (Addr × Obj)) (H : Hp) (b : Addr) : Prop :=
  H b = none ∧ b ≠ X.env.locals ∧ b ∉ X.fs ∧ (b ∈ X.ex ∨ X.s₀.heap.objs.size ≤ b) ∧ (∀ x c, X.env.cells.lookup x = some c → c ≠ b) ∧ ∀ p ∈ X.pn ++ pins, p.1 ≠ b
theorem Inv.rY {X : Cx} {pins : List (Addr × Obj)} {σ : St} {H H' : Hp} {s : Shared} {b : Addr} (I : Inv X pins σ H s) (hb : s.heap.objs.size ≤ b) (hn : H' b = none) : mR X pins H' b := by
  refine ⟨hn, Nat.ne_of_gt (Nat.lt_of_lt_of_le I.lt hb), I.Rx hb, .inr (Nat.le_trans I.sz hb), fun x c e z => ?_, fun p hp z => ?_⟩
  · obtain ⟨v, q⟩ := I.cell x c e
    exact absurd (Nat.lt_of_lt_of_le q.lt (by rw [z]; exact hb)) (Nat.lt_irrefl _)
  · exact absurd (Nat.lt_of_lt_of_le (Heap.lt_size (I.pin p hp).1) (by rw [z]; exact hb)) (Nat.lt_irrefl _)
structure Turn (P : Program) (w : World) (K : PySem.W.Frag) (tg : Expr) (J : It) (fp : List Addr) (it : Addr) (tn : Nat → Heap → Prop) : Prop where
  mem : it ∈ fp
  obj : ∀ i h, tn i h → ∀ b ∈ fp, ∃ o, h.get? b = some o ∧ ∀ v, o.data ≠ .cell v
  keep : ∀ i h h', tn i h → (∀ b ∈ fp, ∀ o, h.get? b = some o → h'.get? b = some o) → tn i h'
  item : ∀ (X : Cx), X.prog = P → X.w = w → X.K = K → X.calm = true → ∀ (i : Nat) (pins : List (Addr × Obj)) (s : Shared) (σ : St) (H : Hp) (E : Value → Shared → Prop), Inv X pins σ H s → (∀ b ∈ fp, mR X pins H b) → tn i s.heap → J.go i H →
    wpAny (model P w) X.A (pyNext (.ref it)) (fun r s1 => ∃ u, r = some u ∧
      wpAny (model P w) X.A (letOwnedTupleGo tg (.ref it) u) (fun _ s2 => ∃ x H', Inv X pins σ H' s2 ∧ RelV x u ∧ J.yld i H x H' ∧ tn (i + 1) s2.heap ∧ ∀ b ∈ fp, H' b = none) E s1) E s
  done : ∀ (X : Cx), X.prog = P → X.w = w → X.K = K → X.calm = true → ∀ (i : Nat) (pins : List (Addr × Obj)) (s : Shared) (σ : St) (H : Hp) (E : Value → Shared → Prop), Inv X pins σ H s → (∀ b ∈ fp, mR X pins H b) → tn i s.heap → J.stop i H →
    wpAny (model P w) X.A (pyNext (.ref it)) (fun r s1 => r = none ∧ Inv X pins σ H s1) E s
  self : ∀ (A : Around) (i : Nat) (s : Shared) (Q : Value → Shared → Prop) (E : Value → Shared → Prop), tn i s.heap → Q (.ref it) s → wpAny (model P w) A (pyIter (.ref it)) Q E s
noncomputable abbrev TI := St → Hp → (It → Hp → Prop) → Prop
noncomputable def PIE (X : Cx) (pins : List (Addr × Obj)) (σ : St) (tg : Expr) (R : It → Hp → Prop) (itv : Value) (s2 : Shared) : Prop :=
  ∃ (it : Addr) (fp : List Addr) (tn : Nat → Heap → Prop) (J : It) (H' : Hp), itv = .ref it ∧ Inv X pins σ H' s2 ∧ Turn X.prog X.w X.K tg J fp it tn ∧ tn 0 s2.heap ∧ (∀ b ∈ fp, mR X pins H' b) ∧ R J H'
noncomputable def PI (X : Cx) (tg iter : Expr) (wi : TI) : Prop :=
  ∀ (pins : List (Addr × Obj)) (s : Shared) (σ : St) (H : Hp) (R : It → Hp → Prop), Inv X pins σ H s → wi σ H R →
    wpAny (model X.prog X.w) X.A (eval iter X.env) (fun v s1 => wpAny (model X.prog X.w) X.A (pyIter v) (PIE X pins σ tg R) X.xe s1) X.xe s
theorem tM {M : Model} {A : Around} {E : Value → Shared → Prop} {s : Shared} {tg : Expr} {it : Addr} {u : Value} {o : Obj} {n : String} {vs : Array Value} {Q : Unit → Shared → Prop} (ho : s.heap.get? it = some o) (hc : o.cls = .type n) (hd : o.data = .fields vs)
    (hn : ["enumerate", "zip", "dict_itemiterator", "dict_reverseitemiterator", "odict_iterator", "itertools.zip_longest", "itertools.pairwise"].contains n = false) (hQ : Q () s) : wpAny M A (letOwnedTupleGo tg (.ref it) u) Q E s := by
  unfold letOwnedTupleGo
  cases tg <;> first
    | exact wpAny_pure hQ
    | (cases u <;> first
        | exact wpAny_pure hQ
        | (refine wpAny_bind (wpAny_load ho ?_)
           rw [hc, hd]
           show wpAny M A (if (["enumerate", "zip", "dict_itemiterator", "dict_reverseitemiterator", "odict_iterator", "itertools.zip_longest", "itertools.pairwise"].contains n && vs[0]? == some (rawInt _)) = true then _ else _) Q E s
           rw [if_neg (by intro h; rw [hn, Bool.false_and] at h; cases h)]
           exact wpAny_pure hQ))
noncomputable def Itl (K : PySem.W.Frag) (a : Addr) : It :=
  ⟨fun i H => ∃ xs x, SqL K H a xs ∧ xs[i]? = some x, fun i H x H' => H' = H ∧ ∀ xs, SqL K H a xs → xs[i]? = some x, fun i H => ∃ xs, SqL K H a xs ∧ xs.length ≤ i⟩
noncomputable def Itt (K : PySem.W.Frag) (a : Addr) : It :=
  ⟨fun i H => ∃ xs x, SqT K H a xs ∧ xs[i]? = some x, fun i H x H' => H' = H ∧ ∀ xs, SqT K H a xs → xs[i]? = some x, fun i H => ∃ xs, SqT K H a xs ∧ xs.length ≤ i⟩
noncomputable def Itr (lo : Int) (n : Nat) : It := ⟨fun i _ => i < n, fun i H x H' => H' = H ∧ x = .int (lo + i), fun i _ => n ≤ i⟩
theorem Ez {P : Program} {w : World} {K : PySem.W.Frag} {tg : Expr} (a it : Addr) : Turn P w K tg (Itl K a) [it] it (fun i h => h.IsListIter it a i) where
  mem := by simp
  obj := fun i h st b hb => by
    have e : b = it := by simpa using hb
    subst e
    obtain ⟨o, e, c, d⟩ := st
    exact ⟨o, e, fun v z => by rw [d] at z; cases z⟩
  keep := fun i h h' st k => st.at fun o e => k it (by simp) o e
  item := by
    intro X hP hw hK hc i pins s σ H E I hf st hg
    subst hP hw hK
    obtain ⟨xs, x, hq, hx⟩ := hg
    obtain ⟨its, rv, p, hz⟩ := I.list hq
    obtain ⟨u, hu, ru⟩ := rv.get hx
    obtain ⟨f0, f1, f2, f3, f4, f5⟩ := hf it (by simp)
    refine wpAny_pyNext_list_item st p.isList (x := u) (by simpa using hu) fun h' st' sb => ?_
    have I1 : Inv X pins σ H { s with heap := h' } := I.turned (t' := s.toks) (fun b o hb e => (sb.2 b hb).trans e) f0 f1 f3 f4 f5
    obtain ⟨o, e, c, d⟩ := id st'
    exact ⟨u, rfl, tM (s := { s with heap := h' }) e c d (by decide) ⟨x, H, I1, ru, ⟨rfl, fun ys hy => by rw [I.xW hy hq]; exact hx⟩, st', fun b hb => (hf b hb).1⟩⟩
  done := by
    intro X hP hw hK hc i pins s σ H E I hf st hg
    subst hP hw hK
    obtain ⟨xs, hq, hx⟩ := hg
    obtain ⟨its, rv, p, hz⟩ := I.list hq
    obtain ⟨f0, f1, f2, f3, f4, f5⟩ := hf it (by simp)
    have hl := rv.length
    exact wpAny_pyNext_list_end (I.ok.hd hc) st p.isList (by simp; omega) fun h' eb => ⟨rfl, I.turned (t' := s.toks) (fun b o hb e => eb b o hb e) f0 f1 f3 f4 f5⟩
  self := fun _ _ _ _ _ st h => wpAny_pyIter_listiter st h
theorem Cu {P : Program} {w : World} {K : PySem.W.Frag} {tg : Expr} (a it : Addr) : Turn P w K tg (Itt K a) [it] it (fun i h => h.IsTupleIter it a i) where
  mem := by simp
  obj := fun i h st b hb => by
    have e : b = it := by simpa using hb
    subst e
    obtain ⟨o, e, c, d⟩ := st
    exact ⟨o, e, fun v z => by rw [d] at z; cases z⟩
  keep := fun i h h' st k => st.at fun o e => k it (by simp) o e
  item := by
    intro X hP hw hK hc i pins s σ H E I hf st hg
    subst hP hw hK
    obtain ⟨xs, x, hq, hx⟩ := hg
    obtain ⟨its, rv, p, hz⟩ := I.tuple hq
    obtain ⟨u, hu, ru⟩ := rv.get hx
    obtain ⟨f0, f1, f2, f3, f4, f5⟩ := hf it (by simp)
    refine wpAny_pyNext_tuple_item st (show s.heap.IsTuple a its.toArray from p) (x := u) (by simpa using hu) fun h' st' sb => ?_
    have I1 : Inv X pins σ H { s with heap := h' } := I.turned (t' := s.toks) (fun b o hb e => (sb.2 b hb).trans e) f0 f1 f3 f4 f5
    obtain ⟨o, e, c, d⟩ := id st'
    exact ⟨u, rfl, tM (s := { s with heap := h' }) e c d (by decide) ⟨x, H, I1, ru, ⟨rfl, fun ys hy => by rw [I.Fv hy hq]; exact hx⟩, st', fun b hb => (hf b hb).1⟩⟩
  done := by
    intro X hP hw hK hc i pins s σ H E I hf st hg
    subst hP hw hK
    obtain ⟨xs, hq, hx⟩ := hg
    obtain ⟨its, rv, p, hz⟩ := I.tuple hq
    obtain ⟨f0, f1, f2, f3, f4, f5⟩ := hf it (by simp)
    have hl := rv.length
    exact wpAny_pyNext_tuple_end (I.ok.hd hc) st (show s.heap.IsTuple a its.toArray from p) (by simp; omega) fun h' eb => ⟨rfl, I.turned (t' := s.toks) (fun b o hb e => eb b o hb e) f0 f1 f3 f4 f5⟩
  self := fun _ _ _ _ _ st h => wpAny_pyIter_tupleiter st h
theorem CP {P : Program} {w : World} {K : PySem.W.Frag} {tg : Expr} (it : Addr) (lo : Int) (n : Nat) : Turn P w K tg (Itr lo n) [it] it (fun i h => IsRangeIter h it (lo + (i : Nat) * 1) ((n : Int) - (i : Nat)) 1) where
  mem := by simp
  obj := fun i h st b hb => by
    have e : b = it := by simpa using hb
    subst e
    exact ⟨_, st, fun v z => by
      have z' : Data.fields _ = Data.cell v := z
      cases z'⟩
  keep := fun i h h' st k => k it (by simp) _ st
  item := by
    intro X hP hw hK hc i pins s σ H E I hf st hg
    subst hP hw hK
    obtain ⟨f0, f1, f2, f3, f4, f5⟩ := hf it (by simp)
    have W := Walks.range (prog := X.prog) (w := X.w) (I.ok.hd hc) it lo 1 n
    refine W.item i s _ _ hg st fun v h' tk hv st' kk => ?_
    obtain ⟨t, rfl⟩ := hv
    have I1 : Inv X pins σ H { s with heap := h', toks := tk } := I.turned (fun b o hb e => kk b o (by simpa using hb) e) f0 f1 f3 f4 f5
    refine ⟨_, rfl, tM (s := { s with heap := h', toks := tk }) (n := "range_iterator") st' rfl rfl (by decide) ⟨.int (lo + i), H, I1, ⟨t, ?_⟩, ⟨rfl, rfl⟩, st', fun b hb => (hf b hb).1⟩⟩
    rw [Int.mul_one]
  done := by
    intro X hP hw hK hc i pins s σ H E I hf st hg
    subst hP hw hK
    obtain ⟨f0, f1, f2, f3, f4, f5⟩ := hf it (by simp)
    exact wpAny_pyNext_range_end (I.ok.hd hc) st (by have : n ≤ i := hg; omega) fun h' eb => ⟨rfl, I.turned (t' := s.toks) (fun b o hb e => eb b o hb e) f0 f1 f3 f4 f5⟩
  self := fun _ _ _ _ _ st h => wpAny_pyIter_rangeiter st h
end L2
namespace L2
open PySem PySem.Spec PyProof.Rows
section
variable {X : Cx} {tg : Expr}
theorem Gs {pins : List (Addr × Obj)} {σ : St} {H : Hp} {s : Shared} {R : It → Hp → Prop} {E : Value → Shared → Prop} {lo hi : Int} {t u v : Tok} {tk : Nat} (I : Inv X pins σ H s) (h1 : -(2 ^ 62) ≤ lo) (h2 : lo < 2 ^ 62) (h3 : -(2 ^ 62) ≤ hi) (h4 : hi < 2 ^ 62)
    (q : R (Itr lo (hi - lo).toNat) H) : wpAny (model X.prog X.w) X.A (pyIter (.ref s.heap.objs.size)) (PIE X pins σ tg R) E { s with heap := s.heap.push { cls := .type "range", data := .fields #[.int lo t, .int hi u, .int 1 v] }, toks := tk } := by
  refine wpAny_pyIter_range (IsRange.new ..) (small_one h1 h2 h3 h4) ?_
  have I1 : Inv X pins σ H { s with heap := s.heap.push { cls := .type "range", data := .fields #[.int lo t, .int hi u, .int 1 v] }, toks := tk } := I.kept fun b o e => Heap.get?_push_of_some _ e
  refine ⟨(s.heap.push { cls := .type "range", data := .fields #[.int lo t, .int hi u, .int 1 v] }).objs.size, [(s.heap.push { cls := .type "range", data := .fields #[.int lo t, .int hi u, .int 1 v] }).objs.size], _, _, H, rfl,
    I1.kept (t' := tk) fun b o e => Heap.get?_push_of_some _ e, CP _ lo (hi - lo).toNat, ?_, fun b hb => ?_, q⟩
  · have e1 : lo + ((0 : Nat) : Int) * 1 = lo := by simp
    have e2 : (((hi - lo).toNat : Nat) : Int) - ((0 : Nat) : Int) = Builtin.Range.rangeSize lo hi 1 := by rw [rangeSize_one]; split <;> omega
    show IsRangeIter _ _ (lo + ((0 : Nat) : Int) * 1) ((((hi - lo).toNat : Nat) : Int) - ((0 : Nat) : Int)) 1
    rw [e1, e2]
    exact Heap.get?_push_size _ rfl
  · have e : b = (s.heap.push { cls := .type "range", data := .fields #[.int lo t, .int hi u, .int 1 v] }).objs.size := by simpa using hb
    subst e
    exact I1.rY (Nat.le_refl _) (I1.hok.fresh (Nat.le_refl _))
noncomputable def Q7 (ta : TA) : TI := fun σ H R => ta σ H fun vs H1 => ∃ j : Int, vs = [.int j] ∧ -(2 ^ 62) ≤ j ∧ j < 2 ^ 62 ∧ R (Itr 0 j.toNat) H1
theorem vA {a : Expr} {ta : TA} {p pos : Pos} (hg : Gl X "range") (hm : X.mg "range" = none) (ha : PA X [a] ta) (hs : starEach [a] X.env = [(false, eval a X.env)] := by rfl) : PI X tg (.Call (.Name "range" p) [a] [] pos) (Q7 ta) := by
  intro pins s σ H R I h
  refine Call_ (lE I hg hm boot_range (PyProof.Rows.callWith_type1 (thn (ha pos pins s σ H _ I h) fun us s1 hq__ => ?_) hs rfl))
  obtain ⟨vs, H1, I1, r1, q1⟩ := hq__
  obtain ⟨j, e, q1, q2, q⟩ := q1
  subst e
  cases r1 with
  | cons r rr =>
    cases rr
    obtain ⟨t, rfl⟩ := r
    exact call_range_1 (Gs I1 (by omega) (by omega) q1 q2 (by simpa using q))
noncomputable def RL (wi : TI) (g : TG) (tb : TS) : TS := fun D σ H => wi σ H fun J H1 => ∃ W : Nat → Nat → St → Hp → Prop, (∃ m, W 0 m σ H1) ∧ ∀ i m σ H, W i m σ H →
  (J.stop i H ∧ D.nx σ H) ∨ (J.go i H ∧ ∃ N : St → Hp → Prop, (∀ σ' H', N σ' H' → ∃ m', m' < m ∧ W (i + 1) m' σ' H') ∧ ∀ x H', J.yld i H x H' → g x σ H' fun σ2 H2 => tb { D with nx := N, ct := N, bk := D.nx } σ2 H2)
noncomputable def qb (fp : List Addr) (h : Heap) : List (Addr × Obj) := fp.filterMap fun b => (h.get? b).map fun o => (b, o)
theorem lU {fp : List Addr} {h : Heap} {b : Addr} {o : Obj} (hb : b ∈ fp) (e : h.get? b = some o) : (b, o) ∈ qb fp h := List.mem_filterMap.mpr ⟨b, hb, by rw [e]; rfl⟩
theorem Ef {fp : List Addr} {h : Heap} {p : Addr × Obj} (hp : p ∈ qb fp h) : p.1 ∈ fp ∧ h.get? p.1 = some p.2 := by
  obtain ⟨b, hb, e⟩ := List.mem_filterMap.mp hp
  cases q : h.get? b with
  | none => rw [q] at e; cases e
  | some o =>
    rw [q] at e
    have e' : (b, o) = p := Option.some.inj e
    subst e'
    exact ⟨hb, q⟩
theorem Inv.pinned {pins : List (Addr × Obj)} {σ : St} {H : Hp} {s : Shared} {fp : List Addr} (I : Inv X pins σ H s) (hf : ∀ b ∈ fp, mR X pins H b) (ho : ∀ b ∈ fp, ∃ o, s.heap.get? b = some o ∧ ∀ v, o.data ≠ .cell v) : Inv X (pins ++ qb fp s.heap) σ H s :=
  I.Br fun p hp => (List.mem_append.mp hp).elim (fun z => I.pin p (List.mem_append_right _ z)) fun z => by
    obtain ⟨hb, e⟩ := Ef z
    obtain ⟨f0, f1, f2, _⟩ := hf p.1 hb
    obtain ⟨o, e', d⟩ := ho p.1 hb
    rw [e] at e'; cases e'
    exact ⟨e, f0, f1, f2, d⟩
theorem Inv.pB {pins pl : List (Addr × Obj)} {σ : St} {H : Hp} {s : Shared} (I : Inv X (pins ++ pl) σ H s) : Inv X pins σ H s := I.Br fun p hp => I.pin p (List.mem_append_right _ (List.mem_append_left _ hp))
theorem My {iter : Expr} {body : List Stmt} {wi : TI} {g : TG} {tb : TS} {pos : Pos} (hp : PassesOwn (model X.prog X.w) X.A X.env X.xe) (hc : X.calm = true) (hi : PI X tg iter wi) (hg : PG X tg g) (hb : PSs X body tb)
    (hs : ∀ x, foldedSetIterable iter X.env x = pure x := by intro _; rfl) : PS X (.For tg iter body [] pos) (RL wi g tb) := by
  intro pins s σ H D I h
  refine wpAny_For (thn (hi pins s σ H _ I h) fun v s1 h1 => thn h1 fun itv s2 h2 => ?_) hs
  obtain ⟨it, fp, tn, J, H2, e, I2, T, st2, f2, W, ⟨m0, w0⟩, turn⟩ := h2
  subst e
  have stat : ∀ {H' : Hp}, (∀ b ∈ fp, H' b = none) → ∀ b ∈ fp, mR X pins H' b := fun hn b hb => ⟨hn b hb, (f2 b hb).2⟩
  refine codeAny_forLoop_any (fun n s' => ∃ i σ' H', Inv X pins σ' H' s' ∧ tn i s'.heap ∧ (∀ b ∈ fp, H' b = none) ∧ W i n σ' H') ?_ m0 ⟨0, σ, H2, I2, st2, fun b hb => (f2 b hb).1, w0⟩
  rintro n s3 ⟨i, σ3, H3, I3, st3, fr3, w3⟩
  rcases turn i n σ3 H3 w3 with ⟨stop, qn⟩ | ⟨go, N, hN, step⟩
  · refine wpAny_passesOwn hp (thn (T.done X rfl rfl rfl hc i pins s3 σ3 H3 X.xe I3 (stat fr3) st3 stop) fun r s4 hq__ => ?_)
    obtain ⟨hr, I4⟩ := hq__
    subst hr
    exact wpAny_execs_nil ⟨σ3, H3, I4, qn⟩
  · refine wpAny_passesOwn hp (thn (T.item X rfl rfl rfl hc i pins s3 σ3 H3 X.xe I3 (stat fr3) st3 go) fun r s4 hq__ => ?_)
    obtain ⟨u, hr, h4⟩ := hq__
    subst hr
    refine wpAny_passesOwn hp (thn h4 fun _ s5 hq__ => ?_)
    obtain ⟨x, H5, I5, r5, y5, st5, fr5⟩ := hq__
    have I5' := I5.pinned (stat fr5) (T.obj _ _ st5)
    refine wpAny_passesOwn hp (thn (hg _ s5 σ3 H5 x u _ I5' r5 (step x H5 y5)) fun _ s6 hq__ => ?_)
    obtain ⟨σ6, H6, I6, q6⟩ := hq__
    refine wpAny_passesOwn hp (thn (hb _ s6 σ6 H6 _ I6 q6) fun f s7 q7 => ?_)
    have again : ∀ {σ7 : St} {H7 : Hp}, Inv X (pins ++ qb fp s5.heap) σ7 H7 s7 → N σ7 H7 → ∃ m, m < n ∧ ∃ i σ' H', Inv X pins σ' H' s7 ∧ tn i s7.heap ∧ (∀ b ∈ fp, H' b = none) ∧ W i m σ' H' := fun {σ7 H7} I7 n7 => by
      obtain ⟨m', hm, w7⟩ := hN σ7 H7 n7
      refine ⟨m', hm, i + 1, σ7, H7, I7.pB, T.keep _ _ _ st5 fun b hb o e => (I7.pin (b, o) (List.mem_append_right _ (List.mem_append_right _ (lU hb e)))).1, fun b hb => ?_, w7⟩
      obtain ⟨o, e, d⟩ := T.obj _ _ st5 b hb
      exact (I7.pin (b, o) (List.mem_append_right _ (List.mem_append_right _ (lU hb e)))).2.1
    cases f with
    | next => obtain ⟨σ7, H7, I7, n7⟩ := q7; exact again I7 n7
    | cont => obtain ⟨σ7, H7, I7, n7⟩ := q7; exact again I7 n7
    | brk => obtain ⟨σ7, H7, I7, q7⟩ := q7; exact ⟨σ7, H7, I7.pB, q7⟩
    | ret v => obtain ⟨x7, σ7, H7, I7, r7, q7⟩ := q7; exact ⟨x7, σ7, H7, I7.pB, r7, q7⟩
end
end L2
namespace L2
open PySem PySem.Spec PyProof.Rows
noncomputable abbrev R2 := V → V → Hp → VK → Prop
noncomputable def OpR (X : Cx) (f : Value → Value → Sem Value) (r : R2) : Prop :=
  ∀ (pins : List (Addr × Obj)) (s : Shared) (σ : St) (H : Hp) (x y : V) (v u : Value) (Q : VK), Inv X pins σ H s → RelV x v → RelV y u → r x y H Q →
    wpAny (model X.prog X.w) X.A (f v u) (EP X pins σ Q) X.xe s
noncomputable def UnR (X : Cx) (f : Value → Sem Value) (r : V → Hp → VK → Prop) : Prop :=
  ∀ (pins : List (Addr × Obj)) (s : Shared) (σ : St) (H : Hp) (x : V) (v : Value) (Q : VK), Inv X pins σ H s → RelV x v → r x H Q →
    wpAny (model X.prog X.w) X.A (f v) (EP X pins σ Q) X.xe s
noncomputable def dh (X : Cx) (f : Value) (r : List V → Hp → VK → Prop) : Prop :=
  ∀ (pins : List (Addr × Obj)) (s : Shared) (σ : St) (H : Hp) (xs : List V) (us : List Value) (Q : VK), Inv X pins σ H s → Vals xs us → r xs H Q →
    wpAny (model X.prog X.w) X.A (call f us) (EP X pins σ Q) X.xe s
noncomputable def RP (X : Cx) (r : V → Hp → (Bool → Hp → Prop) → Prop) : Prop :=
  ∀ (pins : List (Addr × Obj)) (s : Shared) (σ : St) (H : Hp) (x : V) (v : Value) (Q : Bool → Hp → Prop), Inv X pins σ H s → RelV x v → r x H Q →
    wpAny (model X.prog X.w) X.A (truthy v) (TP X pins σ Q) X.xe s
noncomputable def tOp (r : R2) (ta tb : TE) : TE := fun σ H Q => ta σ H fun x H1 => tb σ H1 fun y H2 => r x y H2 Q
noncomputable def tUn (r : V → Hp → VK → Prop) (ta : TE) : TE := fun σ H Q => ta σ H fun x H1 => r x H1 Q
noncomputable def rI (C : Int → Int → Prop) (g : Int → Int → V) : R2 := fun x y H Q => ∃ i j, x = .int i ∧ y = .int j ∧ C i j ∧ Q (g i j) H
noncomputable def rI0 (g : Int → Int → V) : R2 := fun x y H Q => ∃ i j, x = .int i ∧ y = .int j ∧ Q (g i j) H
noncomputable def rU (g : Int → V) : V → Hp → VK → Prop := fun x H Q => ∃ i, x = .int i ∧ Q (g i) H
section
variable {X : Cx} {a b c : Expr} {ta tb tc : TE} {pos : Pos}
theorem G4 (ha : PE X a ta) (hb : PE X b tb) {pins : List (Addr × Obj)} {s : Shared} {σ : St} {H : Hp} {R : V → V → Hp → Prop} (I : Inv X pins σ H s)
    (h : ta σ H fun x H1 => tb σ H1 fun y H2 => R x y H2) {Q : Value → Shared → Prop} {f : Value → Value → Sem Value}
    (hf : ∀ v u s2 x y H2, Inv X pins σ H2 s2 → RelV x v → RelV y u → R x y H2 → wpAny (model X.prog X.w) X.A (f v u) Q X.xe s2) :
    wpAny (model X.prog X.w) X.A (eval a X.env) (fun v s₁ => wpAny (model X.prog X.w) X.A (eval b X.env) (fun u s₂ => wpAny (model X.prog X.w) X.A (f v u) Q X.xe s₂) X.xe s₁) X.xe s := by
  refine thn (ha pins s σ H _ I h) fun v s1 hq__ => ?_
  obtain ⟨x, H1, I1, r1, q1⟩ := hq__
  refine thn (hb pins s1 σ H1 _ I1 q1) fun u s2 hq__ => ?_
  obtain ⟨y, H2, I2, r2, q2⟩ := hq__
  exact hf v u s2 x y H2 I2 r1 r2 q2
theorem Jt {op : Operator} {r : R2} (ho : OpR X (binaryOp op) r) (ha : PE X a ta) (hb : PE X b tb) : PE X (.BinOp a op b pos) (tOp r ta tb) := by
  intro pins s σ H Q I h
  exact wpAny_BinOp (G4 ha hb I h fun v u s2 x y H2 I2 rx ry q => ho pins s2 σ H2 x y v u Q I2 rx ry q)
theorem QL {op : UnaryOp} {r : V → Hp → VK → Prop} (ho : UnR X (unaryOp op) r) (ha : PE X a ta) : PE X (.UnaryOp op a pos) (tUn r ta) := by
  intro pins s σ H Q I h
  exact UnaryOp_ (thn (ha pins s σ H _ I h) fun v s1 ⟨x, H1, I1, r1, q1⟩ => ho pins s1 σ H1 x v Q I1 r1 q1)
theorem opI {f : Value → Value → Sem Value} {C : Int → Int → Prop} {g : Int → Int → Int}
    (rule : ∀ (i j : Int) (t u : Tok) (s : Shared) (Q : Value → Shared → Prop) (E : Value → Shared → Prop), C i j → Q (.int (g i j) s.toks) { s with toks := s.toks + 1 } → wpAny (model X.prog X.w) X.A (f (.int i t) (.int j u)) Q E s) :
    OpR X f (rI C fun i j => .int (g i j)) := by
  intro pins s σ H x y v u Q I rx ry h
  obtain ⟨i, j, rfl, rfl, hc, q⟩ := h
  obtain ⟨t, rfl⟩ := rx
  obtain ⟨t', rfl⟩ := ry
  exact rule i j t t' s _ _ hc ⟨.int (g i j), H, I.tok _, ⟨_, rfl⟩, q⟩
theorem Cm {f : Value → Value → Sem Value} {g : Int → Int → Int}
    (rule : ∀ (i j : Int) (t u : Tok) (s : Shared) (Q : Value → Shared → Prop) (E : Value → Shared → Prop), Q (.int (g i j) s.toks) { s with toks := s.toks + 1 } → wpAny (model X.prog X.w) X.A (f (.int i t) (.int j u)) Q E s) :
    OpR X f (rI0 fun i j => .int (g i j)) := by
  intro pins s σ H x y v u Q I rx ry h
  obtain ⟨i, j, rfl, rfl, q⟩ := h
  obtain ⟨t, rfl⟩ := rx
  obtain ⟨t', rfl⟩ := ry
  exact rule i j t t' s _ _ ⟨.int (g i j), H, I.tok _, ⟨_, rfl⟩, q⟩
theorem HR {f : Value → Value → Sem Value} {g : Int → Int → Bool}
    (rule : ∀ (i j : Int) (t u : Tok) (s : Shared) (Q : Value → Shared → Prop) (E : Value → Shared → Prop), Q (.bool (g i j)) s → wpAny (model X.prog X.w) X.A (f (.int i t) (.int j u)) Q E s) :
    OpR X f (rI0 fun i j => .bl (g i j)) := by
  intro pins s σ H x y v u Q I rx ry h
  obtain ⟨i, j, rfl, rfl, q⟩ := h
  obtain ⟨t, rfl⟩ := rx
  obtain ⟨t', rfl⟩ := ry
  exact rule i j t t' s _ _ ⟨.bl (g i j), H, I, rfl, q⟩
noncomputable def vh (i j : Int) : Prop := 0 < j ∧ j < 1073741824
noncomputable def j4 (i j : Int) : Prop := 0 ≤ j ∧ j ≤ 1000000 ∧ i.natAbs < 2 ^ 64
noncomputable def pK (i j : Int) : Prop := (-(2 ^ 64) < i ∧ i < 2 ^ 64) ∨ (-(2 ^ 64) < j ∧ j < 2 ^ 64)
theorem pK.ok {i j : Int} (h : pK i j) : IntMulOk i j := by
  rcases h with ⟨h1, h2⟩ | ⟨h1, h2⟩
  · exact .of_left (intBits_le_64 h1 h2)
  · exact .of_right (intBits_le_64 h1 h2)
theorem two_pow_nn (k : Nat) : (0 : Int) ≤ 2 ^ k := by
  rw [two_pow_cast]
  exact Int.natCast_nonneg _
theorem Qc : OpR X (binaryOp .Add) (rI0 fun i j => .int (i + j)) := Cm fun _ _ _ _ _ _ _ q => add_int q
theorem PN : OpR X (binaryOp .Sub) (rI0 fun i j => .int (i - j)) := Cm fun _ _ _ _ _ _ _ q => sub_int q
theorem Pn : OpR X (binaryOp .Mult) (rI pK fun i j => .int (i * j)) := opI fun _ _ _ _ _ _ _ hc q => mul_int q hc.ok
theorem JZ : OpR X (binaryOp .FloorDiv) (rI vh fun i j => .int (i / j)) := opI fun i j _ _ _ _ _ hc q => by
  have h1 : (0 : Int) < j := hc.1
  have h2 : j < 1073741824 := hc.2
  exact floordiv_int (by omega) (by rw [Int.fdiv_eq_ediv_of_nonneg i (by omega)]; exact q) (.inl (PyProof.noPylong_small (by omega)))
theorem Mm : OpR X (binaryOp .Mod) (rI (fun _ j => 0 < j) fun i j => .int (i % j)) := opI fun i j _ _ _ _ _ hc q => by
  have h1 : (0 : Int) < j := hc
  exact mod_int' (by omega) (by rw [Int.fmod_eq_emod_of_nonneg i (by omega)]; exact q)
theorem MP : OpR X (binaryOp .LShift) (rI j4 fun i j => .int (i * 2 ^ j.toNat)) := opI fun _ _ _ _ _ _ _ hc q => lshift_int_small hc.1 hc.2.1 hc.2.2 q
theorem N5 : OpR X (binaryOp .RShift) (rI (fun _ j => 0 ≤ j) fun i j => .int (i / 2 ^ j.toNat)) := opI fun i j _ _ _ _ _ hc q =>
  rshift_int hc (by rw [Int.fdiv_eq_ediv_of_nonneg i (two_pow_nn _)]; exact q)
theorem Mj : OpR X (binaryOp .BitAnd) (rI0 fun i j => .int (Builtin.bitAnd i j)) := Cm fun _ _ _ _ _ _ _ q => and_int q
theorem Qp : OpR X (binaryOp .BitOr) (rI0 fun i j => .int (Builtin.bitOr i j)) := Cm fun _ _ _ _ _ _ _ q => or_int q
theorem unI {f : Value → Sem Value} {g : Int → Int}
    (rule : ∀ (i : Int) (t : Tok) (s : Shared) (Q : Value → Shared → Prop) (E : Value → Shared → Prop), Q (.int (g i) s.toks) { s with toks := s.toks + 1 } → wpAny (model X.prog X.w) X.A (f (.int i t)) Q E s) :
    UnR X f (rU fun i => .int (g i)) := by
  intro pins s σ H x v Q I rx h
  obtain ⟨i, rfl, q⟩ := h
  obtain ⟨t, rfl⟩ := rx
  exact rule i t s _ _ ⟨.int (g i), H, I.tok _, ⟨_, rfl⟩, q⟩
theorem Nh : UnR X (unaryOp .USub) (rU fun i => .int (-i)) := unI fun _ _ _ _ _ q => neg_int q
theorem M7 : UnR X (unaryOp .Invert) (rU fun i => .int (Builtin.bitNot i)) := unI fun _ _ _ _ _ q => invert_int q
theorem FP : OpR X (binaryOp .Add) (fun x y H Q => ∃ i k, x = .int i ∧ y = .bl k ∧ Q (.int (i + b2i k)) H) := by
  intro pins s σ H x y v u Q I rx ry h
  obtain ⟨i, k, rfl, rfl, q⟩ := h
  obtain ⟨t, rfl⟩ := rx
  cases ry
  exact add_int_bool ⟨.int (i + b2i k), H, I.tok _, ⟨_, rfl⟩, q⟩
end
section
variable {X : Cx} {a b c : Expr} {ta tb tc : TE} {pos : Pos}
theorem Ng {pins : List (Addr × Obj)} {σ : St} {H : Hp} {s : Shared} {Q : VK} {k k' : Bool} (I : Inv X pins σ H s) (q : Q (.bl k) H) (e : k = k') : EP X pins σ Q (.bool k') s := by
  subst e
  exact ⟨.bl k, H, I, rfl, q⟩
theorem Qw : OpR X (compareOp .Lt) (rI0 fun i j => .bl (decide (i < j))) := HR fun _ _ _ _ _ _ _ q => lt_int q
theorem QD : OpR X (compareOp .LtE) (rI0 fun i j => .bl (decide (i ≤ j))) := HR fun _ _ _ _ _ _ _ q => le_int q
theorem Qq : OpR X (compareOp .Gt) (rI0 fun i j => .bl (decide (j < i))) := HR fun _ _ _ _ _ _ _ q => gt_int q
theorem Qj : OpR X (compareOp .Is) (fun x y H Q => y = .non ∧ Q (.bl (decide (x = .non))) H) := by
  intro pins s σ H x y v u Q I rx ry h
  obtain ⟨rfl, q⟩ := h
  cases ry
  refine is_none_gen (Ng I q ?_)
  cases x <;> first
    | (cases rx; rfl)
    | (obtain ⟨t, rfl⟩ := rx; rfl)
theorem bK (b : Expr) {op : CmpOp} (h : op ≠ .In := by decide) (h2 : op ≠ .NotIn := by decide) : behindInMarks op b = false := by
  have e1 : (op == CmpOp.In) = false := by cases op <;> first | rfl | exact absurd rfl h
  have e2 : (op == CmpOp.NotIn) = false := by cases op <;> first | rfl | exact absurd rfl h2
  cases b <;> simp [behindInMarks, e1, e2]
theorem JP {op : CmpOp} {r : R2} (ho : OpR X (compareOp op) r) (ha : PE X a ta) (hb : PE X b tb) (hm : behindInMarks op b = false) : PE X (.Compare a [op] [b] pos) (tOp r ta tb) := by
  intro pins s σ H Q I h
  exact wpAny_Compare1 (G4 ha hb I h fun v u s2 x y H2 I2 rx ry q => ho pins s2 σ H2 x y v u Q I2 rx ry q) hm
noncomputable def Cq (t : TE) : TT := fun σ H Q => t σ H fun x H' => ∃ k, x = .bl k ∧ Q k H'
theorem Ly {op : CmpOp} {r : R2} (ho : OpR X (compareOp op) r) (ha : PE X a ta) (hb : PE X b tb) (hm : behindInMarks op b = false) : PT X (.Compare a [op] [b] pos) (Cq (tOp r ta tb)) := by
  intro pins s σ H Q I h
  refine wpAny_isTrue_Compare1 (thn (ha pins s σ H _ I h) fun v s1 ⟨x, H1, I1, r1, q1⟩ => thn (hb pins s1 σ H1 _ I1 q1) fun u s2 ⟨y, H2, I2, r2, q2⟩ =>
    thn (ho pins s2 σ H2 x y v u _ I2 r1 r2 q2) fun c s3 ⟨z, H3, I3, r3, k, e, q3⟩ => ?_) hm
  subst e
  cases r3
  exact wpAny_truthy_bool ⟨H3, I3, q3⟩
noncomputable def Fz (r r' : R2) (ta tb tc : TE) : TE := fun σ H Q => ta σ H fun x H1 => tb σ H1 fun y H2 => r x y H2 fun z H3 => ∃ k, z = .bl k ∧
  (if k = true then tc σ H3 fun w' H4 => r' y w' H4 Q else Q (.bl false) H3)
theorem Hr {op op' : CmpOp} {r r' : R2} (ho : OpR X (compareOp op) r) (ho' : OpR X (compareOp op') r') (ha : PE X a ta) (hb : PE X b tb) (hc : PE X c tc)
    (hm : lastMarks [op, op'] [b, c] = false := by with_unfolding_all rfl) : PT X (.Compare a [op, op'] [b, c] pos) (Cq (Fz r r' ta tb tc)) := by
  intro pins s σ H Q I h
  refine isTrue_chain (thn (ha pins s σ H _ I h) fun v s1 ⟨x, H1, I1, r1, q1⟩ => test_link (thn (hb pins s1 σ H1 _ I1 q1) fun u s2 ⟨y, H2, I2, r2, q2⟩ =>
    thn (ho pins s2 σ H2 x y v u _ I2 r1 r2 q2) fun d s3 ⟨z, H3, I3, r3, k, e, q3⟩ => ?_)) hm
  subst e
  cases r3
  refine wpAny_truthy_bool ?_
  cases k with
  | false =>
    obtain ⟨k', e', q'⟩ := q3
    cases e'
    exact ite_ff ⟨H3, I3, q'⟩
  | true =>
    refine ite_tt (test_last (thn (hc pins s3 σ H3 _ I3 q3) fun w' s4 ⟨z', H4, I4, r4, q4⟩ => thn (ho' pins s4 σ H4 y z' u w' _ I4 r2 r4 q4) fun d' s5 hq__ => ?_))
    obtain ⟨z2, H5, I5, r5, k2, e2, q5⟩ := hq__
    subst e2
    cases r5
    exact wpAny_truthy_bool ⟨H5, I5, q5⟩
noncomputable def NZ (K : PySem.W.Frag) (x : V) (H : Hp) (k : Bool) : Prop :=
  match x with
  | .non => k = false
  | .bl b => k = b
  | .int i => k = (i != 0)
  | .str y => y.length ≤ sizeLine ∧ k = ((y.length : Int) != 0)
  | .byt y => y.size ≤ sizeLine ∧ k = ((y.size : Int) != 0)
  | .ref p => (∃ xs, SqL K H p xs ∧ k = !xs.isEmpty) ∨ (∃ xs, SqT K H p xs ∧ k = !xs.isEmpty) ∨ ∃ kvs, H p = some (.dK kvs) ∧ k = !kvs.isEmpty
  | _ => False
theorem Cp {κ : Type} {kvs : List (κ × V)} {vs : List (κ × Value)} (r : KV kvs vs) : (!vs.isEmpty) = !kvs.isEmpty := by
  cases r <;> rfl
theorem ue {xs : List V} {its : List Value} (r : Vals xs its) : (!its.toArray.isEmpty) = !xs.isEmpty := by
  cases r <;> simp
theorem p8 : (sizeLine : Nat) < 2 ^ 63 := by rw [sizeLine_eq]; decide
theorem Ml : RP X (fun x H Q => ∃ k, NZ X.K x H k ∧ Q k H) := by
  intro pins s σ H x v Q I rx h
  obtain ⟨k, e, q⟩ := h
  have hl := p8
  have hs : sizeLine = 16777216 := sizeLine_eq
  cases x with
  | non =>
    cases rx
    have e' : k = false := e
    subst e'
    exact truthy_none ⟨H, I, q⟩
  | bl b =>
    cases rx
    have e' : k = b := e
    subst e'
    exact wpAny_truthy_bool ⟨H, I, q⟩
  | int i =>
    obtain ⟨t, rfl⟩ := rx
    have e' : k = (i != 0) := e
    subst e'
    exact PySem.P.truthy_int ⟨H, I, q⟩
  | str y =>
    obtain ⟨t, rfl⟩ := rx
    obtain ⟨hy, e'⟩ : y.length ≤ sizeLine ∧ k = ((y.length : Int) != 0) := e
    subst e'
    exact PySem.P.truthy_str (by omega) ⟨H, I.tok _, q⟩
  | byt y =>
    obtain ⟨t, rfl⟩ := rx
    obtain ⟨hy, e'⟩ : y.size ≤ sizeLine ∧ k = ((y.size : Int) != 0) := e
    subst e'
    exact PySem.W.truthy_bytes (by omega) ⟨H, I.tok _, q⟩
  | ref p =>
    cases rx
    have e' : (∃ xs, SqL X.K H p xs ∧ k = !xs.isEmpty) ∨ (∃ xs, SqT X.K H p xs ∧ k = !xs.isEmpty) ∨ ∃ kvs, H p = some (.dK kvs) ∧ k = !kvs.isEmpty := e
    rcases e' with ⟨xs, hx, e'⟩ | ⟨xs, hx, e'⟩ | ⟨kvs, hx, e'⟩
    · subst e'
      obtain ⟨its, r, pl, hz⟩ := I.list hx
      have hlen := r.length
      exact wpAny_truthy_list pl.isList (by simp only [List.size_toArray]; omega) ⟨H, I.tok _, by rw [ue r]; exact q⟩
    · subst e'
      obtain ⟨its, r, pl, hz⟩ := I.tuple hx
      have hlen := r.length
      exact truthy_tuple pl (by simp only [List.size_toArray]; omega) ⟨H, I.tok _, by rw [ue r]; exact q⟩
    · subst e'
      obtain ⟨hz, hS, vs, r, m⟩ : kvs.length ≤ sizeLine ∧ (p == sysModules) = false ∧ ∃ vs, KV kvs vs ∧ s.heap.DictOf (cA X.prog X.w) p vs := I.hok p _ hx
      have hlen : kvs.length = vs.length := Paired.length r
      exact wpAny_truthy_dict hS m (by omega) ⟨H, I.tok _, by rw [Cp r]; exact q⟩
  | _ => exact (show False from e).elim
theorem Il (ha : PE X a ta) (he : ∀ whole, isTrue a X.env whole = (do let v ← whole; standAt a.pos; holding [v] (truthy v))) :
    PT X a (fun σ H Q => ta σ H fun x H' => ∃ k, NZ X.K x H' k ∧ Q k H') := by
  intro pins s σ H Q I h
  exact isTrue_plain (thn (ha pins s σ H _ I h) fun v s1 ⟨x, H1, I1, r1, q1⟩ => Ml pins s1 σ H1 x v Q I1 r1 q1) (he _)
theorem Cv : OpR X (binaryOp .Add) (fun x y H Q => ∃ i j, x = .str i ∧ y = .str j ∧ i.length + j.length ≤ sizeLine ∧ Q (.str (i ++ j)) H) := by
  intro pins s σ H x y v u Q I rx ry h
  obtain ⟨i, j, rfl, rfl, hz, q⟩ := h
  obtain ⟨t, rfl⟩ := rx
  obtain ⟨t', rfl⟩ := ry
  exact add_str (fun t' tk => ⟨.str (i ++ j), H, I.tok _, ⟨_, rfl⟩, q⟩) hz
theorem vals1 {x : V} {us : List Value} (r : Vals [x] us) : ∃ u, us = [u] ∧ RelV x u := by
  cases r with
  | cons r1 r2 => cases r2; exact ⟨_, rfl, r1⟩
theorem vals2 {x y : V} {us : List Value} (r : Vals [x, y] us) : ∃ u w', us = [u, w'] ∧ RelV x u ∧ RelV y w' := by
  cases r with
  | cons r1 r2 =>
    cases r2 with
    | cons r3 r4 => cases r4; exact ⟨_, _, rfl, r1, r3⟩
theorem Gb (hc : X.calm = true) : dh X (.builtin "min") (fun xs H Q => ∃ i j, xs = [.int i, .int j] ∧ Q (.int (if j < i then j else i)) H) := by
  intro pins s σ H xs us Q I r h
  obtain ⟨i, j, rfl, q⟩ := h
  obtain ⟨u, w', rfl, ⟨t, rfl⟩, ⟨t', rfl⟩⟩ := vals2 r
  refine min_two_ints (I.ok.hd hc) fun h' tk k => ⟨_, H, I.kept k, ?_, q⟩
  by_cases hj : j < i
  · rw [if_pos hj, if_pos hj]; exact ⟨_, rfl⟩
  · rw [if_neg hj, if_neg hj]; exact ⟨_, rfl⟩
end
end L2
namespace L2
open PySem PySem.Spec PyProof.Rows
section
variable {prog : Program} {w : World} {A : Around} {E : Value → Shared → Prop} {s : Shared} {K : PySem.W.Frag} {x dx C f : Addr} {mA : Str → Option Value} {name : Str} {v : Value}
end
section
variable {P : Program} {w : World} {H H' : Hp} {h h' : Heap} {a C dx : Addr} {fs fs' : List (Str × V)}
end
section
variable {X : Cx} {pins : List (Addr × Obj)} {σ : St} {H : Hp} {s : Shared} {a C dx : Addr} {fs : List (Str × V)} {f : Str} {v : V} {A : Around} {E : Value → Shared → Prop}
end
section
variable {X : Cx} {o e value : Expr} {f : Str} {pos pos' tpos : Pos} {ta tv : TE}
end
section
variable {X : Cx} {pins : List (Addr × Obj)} {σ : St} {H : Hp} {s : Shared} {A : Around} {E : Value → Shared → Prop} {Q : Value → Shared → Prop} {c : Value} {b : Bool}
end
end L2
namespace L2
open PySem PySem.Spec PyProof.Rows
structure dF (k : Nat) (A : Around) : Prop where
  hd : A.handled = none
  dp : A.depth + 3 * k + 5 < recursionLimit
  un : A.units + 16 * k + 200 < cLine
theorem dF.mono {j k : Nat} {A : Around} (r : dF k A) (h : j ≤ k) : dF j A := ⟨r.hd, by have := r.dp; omega, by have := r.un; omega⟩
theorem dF.deeper {k : Nat} {A : Around} (r : dF (k + 1) A) (env : Env) : dF k (A.deeper env) :=
  ⟨r.hd, by have := r.dp; show A.depth + 1 + 3 * k + 5 < _; omega, by have := r.un; show A.units + 3 + 16 * k + 200 < _; omega⟩
theorem dF.depth {k : Nat} {A : Around} (r : dF k A) : A.depth < recursionLimit := by have := r.dp; omega
theorem dF.units {k : Nat} {A : Around} (r : dF k A) : A.units + 64 < cLine := by have := r.un; omega
noncomputable def Ro : TA := fun _ H Q => Q [] H
noncomputable def Qz (ta : TE) (tr : TA) : TA := fun σ H Q => ta σ H fun x H1 => tr σ H1 fun xs H2 => Q (x :: xs) H2
section
variable {X : Cx} {e : Expr} {es : List Expr} {te : TE} {t : TA} {pos : Pos}
theorem gf : PA X [] Ro := fun _ _ _ _ H Q I h => Calls.spliced_nil ⟨[], H, I, .nil, h⟩
theorem cL (ha : PE X e te) (hr : PA X es t) (hs : starEach (e :: es) X.env = (false, eval e X.env) :: starEach es X.env := by rfl) : PA X (e :: es) (Qz te t) := by
  intro pos pins s σ H Q I h
  rw [hs]
  show wpAny _ _ (spliced ((false, eval e X.env) :: backTo pos (starEach es X.env))) _ _ s
  refine Calls.spliced_cons (thn (ha pins s σ H _ I h) fun u s1 hq__ => ?_)
  obtain ⟨x, H1, I1, r1, q1⟩ := hq__
  exact thn (hr pos pins s1 σ H1 _ I1 q1) fun us s2 ⟨xs, H2, I2, r2, q2⟩ => ⟨x :: xs, H2, I2, .cons r1 r2, q2⟩
noncomputable def Rf (t : TA) : TE := fun σ H Q => t σ H fun xs H1 => xs.length ≤ sizeLine ∧ ∀ p, H1 p = none → Q (.ref p) (upd H1 p (.tup xs))
noncomputable def RW (t : TA) : TE := fun σ H Q => t σ H fun xs H1 => xs.length ≤ sizeLine ∧ ∀ p, H1 p = none → Q (.ref p) (upd H1 p (.lst xs))
theorem Qd {x1} (h : PA X es t) : PE X (.Tuple es x1 pos) (Rf t) := by
  intro pins s σ H Q I hq
  refine wpAny_Tuple_spliced (thn (h pos pins s σ H _ I hq) fun us s1 ⟨xs, H1, I1, r, z, q⟩ => ⟨by rw [← r.length]; exact z, ?_⟩)
  have hf : H1 s1.heap.objs.size = none := I1.hok.fresh (Nat.le_refl _)
  refine ⟨.ref s1.heap.objs.size, upd H1 s1.heap.objs.size (.tup xs), I1.laid (t' := s1.toks) (fun b u e => Heap.get?_push_of_some _ e) (Nat.le_refl _) ?_, rfl, q _ hf⟩
  exact ⟨z, us, r, ⟨_, Heap.get?_push_size _ rfl, rfl, _, rfl⟩⟩
theorem Pa (h : PA X es t) : PE X (.List es pos) (RW t) := by
  intro pins s σ H Q I hq
  refine wpAny_List_spliced (thn (h pos pins s σ H _ I hq) fun us s1 ⟨xs, H1, I1, r, z, q⟩ => ⟨by rw [← r.length]; exact z, ?_⟩)
  have hf : H1 s1.heap.objs.size = none := I1.hok.fresh (Nat.le_refl _)
  refine ⟨.ref s1.heap.objs.size, upd H1 s1.heap.objs.size (.lst xs), I1.laid (t' := s1.toks) (fun b u e => Heap.get?_push_of_some _ e) (Nat.le_refl _) ?_, rfl, q _ hf⟩
  exact ⟨z, us, 0, r, Heap.get?_push_size _ rfl⟩
end
noncomputable abbrev Sp := List V → Hp → VK → XK → Prop
noncomputable abbrev CXT := List Env → Hp → Shared → XK → Value → Shared → Prop
structure Ck (P : Program) (w : World) (K : PySem.W.Frag) (mg : Str → Option Value) (base : Heap) (A : Around) (outer : List Env) (s : Shared) (H : Hp) : Prop where
  frames : A.frames = some outer
  mod : Mod K mg base
  bs : ∀ b o, base.get? b = some o → s.heap.get? b = some o ∧ H b = none
  bsz : base.objs.size ≤ s.heap.objs.size
  mH : s.heap.FunFrames base outer
  frf : ∀ b ∈ frs outer, H b = none
  hok : HOk P w H s.heap
  bare : AllBare s.gens
noncomputable def CE (outer : List Env) (P : Program) (w : World) (H : Hp) (s : Shared) (Q : VK) (u : Value) (s' : Shared) : Prop :=
  ∃ v H', s'.os = s.os ∧ AllBare s'.gens ∧ Un (frs outer) [] H H' s.heap s'.heap ∧ HOk P w H' s'.heap ∧ RelV v u ∧ Q v H'
noncomputable def CR (CX : CXT) (outer : List Env) (P : Program) (w : World) (H : Hp) (s : Shared) (Q : VK) (E : XK) (r : Result) (s' : Shared) : Prop :=
  match r with
  | .ok (.ret u) => CE outer P w H s Q u s'
  | .ok _ => False
  | .error e => CX outer H s E e s'
structure mU (P : Program) (w : World) (K : PySem.W.Frag) (mg : Str → Option Value) (base : Heap) (CX : CXT) (k : Nat) (f : Addr) (fd : FuncData) (ps : List Str) (sp : Sp) : Prop where
  len : ∀ vs H Q E, sp vs H Q E → vs.length = ps.length
  run : ∀ (A : Around) (outer : List Env) (s : Shared) (H : Hp) (args : Args) (us : List Value) (vs : List V) (Q : VK) (E : XK), dF k A → Ck P w K mg base A outer s H → BindsTo s fd args (ps.zip us) → Vals vs us → sp vs H Q E →
    codeAny (model P w) A (.call (.ref f) args) (CR CX outer P w H s Q E) s
section
variable {X : Cx} {pins : List (Addr × Obj)} {σ : St} {H : Hp} {s s' : Shared}
theorem Inv.env0 (I : Inv X pins σ H s) : Ck X.prog X.w X.K X.mg X.base X.A X.stack s H :=
  ⟨I.ok.frames, I.ok.mod, I.bs, Nat.le_trans I.ok.bsz I.sz, I.stack, I.Bh, I.hok, I.bare⟩
theorem Inv.after {Q : VK} {u : Value} (I : Inv X pins σ H s) (h : CE X.stack X.prog X.w H s Q u s') : EP X pins σ Q u s' := by
  obtain ⟨v, H', os, bare, un, hok, r, q⟩ := h
  obtain ⟨hh, g, d, t, os'⟩ := s'
  obtain rfl : os' = s.os := os
  exact ⟨v, H', I.call (h' := hh) (g' := g) (d' := d) (t' := t) (ch := []) un hok bare (fun b z => absurd z (by simp)), r, q⟩
end
noncomputable def Jy (sp : Sp) (dvs : List V) (E : XK) (t : TA) : TE := fun σ H Q => t σ H fun vs H1 => sp (vs ++ dvs) H1 Q E
noncomputable def Binds (K : PySem.W.Frag) (fd : FuncData) (ps : List Str) (ds : List Value) : Prop :=
  ∀ (s : Shared) (us : List Value), K.In s.heap → (us ++ ds).length = ps.length → BindsTo s fd ⟨us, []⟩ (ps.zip (us ++ ds))
theorem Binds.all {K : PySem.W.Frag} {fd : FuncData} {ps : List Str} (h : ∀ us : List Value, us.length = ps.length → bindArgs fd ⟨us, []⟩ = pure (ps.zip us)) : Binds K fd ps [] := fun s us _ hl => by
  rw [List.append_nil] at hl ⊢
  exact .of_eq (h us hl)
noncomputable def Passes (CX : CXT) (X : Cx) (E : XK) : Prop := ∀ (pins : List (Addr × Obj)) (σ : St) (H : Hp) (s : Shared) (e : Value) (s' : Shared), Inv X pins σ H s → CX X.stack H s E e s' → X.xe e s'
section
variable {X : Cx} {CX : CXT} {k : Nat} {f C : Addr} {fd : FuncData} {ps : List Str} {sp : Sp} {dvs : List V} {ds : List Value} {E : XK} {x m : Str} {p pos apos : Pos} {e o : Expr} {es : List Expr} {ta : TE} {t : TA}
theorem Nt {pins : List (Addr × Obj)} {σ : St} {H : Hp} {s : Shared} {Q : VK} {us : List Value} {vs : List V} (F : mU X.prog X.w X.K X.mg X.base CX k f fd ps sp) (hr : dF k X.A) (hb : Binds X.K fd ps ds) (hd : Vals dvs ds) (hx : Passes CX X E)
    (I : Inv X pins σ H s) (r : Vals vs us) (h : sp (vs ++ dvs) H Q E) : wpAny (model X.prog X.w) X.A (call (.ref f) us) (EP X pins σ Q) X.xe s := by
  have r2 : Vals (vs ++ dvs) (us ++ ds) := r.append hd
  have hl : (us ++ ds).length = ps.length := by rw [← r2.length]; exact F.len _ _ _ _ h
  refine wpAny_call (codeAny_mono (F.run X.A X.stack s H ⟨us, []⟩ (us ++ ds) (vs ++ dvs) Q E hr I.env0 (hb s us I.kIn hl) r2 h) fun r s' hq => ?_)
  cases r with
  | error e => exact hx pins σ H s e s' I hq
  | ok fl =>
    cases fl with
    | ret u => exact I.after hq
    | next => exact False.elim hq
    | brk => exact False.elim hq
    | cont => exact False.elim hq
theorem Kq (F : mU X.prog X.w X.K X.mg X.base CX k f fd ps sp) (hr : dF k X.A) (hg : Gl X x) (hm : X.mg x = some (.ref f)) (hk : PySem.W.keepIn X.K (.ref f) = true) (hb : Binds X.K fd ps ds) (hd : Vals dvs ds) (hx : Passes CX X E)
    (ha : PA X (e :: es) t) (hdb : (x == ("__debug__" : Str)) = false := by decide) (he : starEach (e :: es) X.env = (false, eval e X.env) :: starEach es X.env := by rfl) (hpl : (backTo pos (starEach es X.env)).any (·.1) = false := by rfl) :
    PE X (.Call (.Name x p) (e :: es) [] pos) (Jy sp dvs E t) := by
  intro pins s σ H Q I h
  refine wpAny_Call_Name_kw (Bm I hg hm ?_ hdb)
  refine PySem.W.callWith_K (h₀ := X.base) I.ok.mod.kin hk (thn (ha pos pins s σ H _ I h) fun us s1 ⟨vs, H1, I1, r, q⟩ => ⟨I1.kIn, ?_⟩) he hpl
  exact Nt F hr hb hd hx I1 r q
end
section
variable {X : Cx} {CX : CXT} {k : Nat} {f C : Addr} {fd : FuncData} {ps ks : List Str} {sp : Sp} {E : XK} {x m : Str} {p pos apos kpos : Pos} {e o : Expr} {es : List Expr} {kws : List Keyword} {te ta : TE} {t tk : TA} {nm : Option Str}
variable {g : List Value → List Value → List Value} {gV : List V → List V → List V}
end
structure aV (N P : List Str) (sc : Scope) : Prop where
  kind : sc.kind = .function
  co : sc.isCoroutine = false
  gen : sc.isGenerator = false
  nd : N.Nodup
  pre : N.take P.length = P
  par : ∀ x ∈ P, sc.names.lookup x = some .local ∨ sc.names.lookup x = some .cell
  nofree : ∀ y ∈ sc.names, y.2 ≠ .free
theorem vR {kindOf : Str → Option NameKind} {x : Str} : ∀ {binds : List (Str × Value)} {m : Str → Option Value}, (∀ v, (x, v) ∉ binds) → bindL kindOf binds m x = m x
  | [], _, _ => rfl
  | (n, v) :: r, m, h => by
    unfold bindL
    rw [vR fun w hw => h w (List.mem_cons_of_mem _ hw)]
    split
    · have : x ≠ n := by rintro rfl; exact h v List.mem_cons_self
      simp [this]
    · rfl
theorem vG {kindOf : Str → Option NameKind} {x : Str} : ∀ {binds : List (Str × Value)} {m : Str → Option Value}, (∀ v, (x, v) ∉ binds) → bindC kindOf binds m x = m x
  | [], _, _ => rfl
  | (n, v) :: r, m, h => by
    unfold bindC
    rw [vG fun w hw => h w (List.mem_cons_of_mem _ hw)]
    split
    · rfl
    · have : x ≠ n := by rintro rfl; exact h v List.mem_cons_self
      simp [this]
theorem vC {kindOf : Str → Option NameKind} {x : Str} {v : Value} : ∀ {P : List Str} {vs : List Value} {i : Nat} {m : Str → Option Value}, P.Nodup → P[i]? = some x → vs[i]? = some v → kindOf x = some .local →
    bindL kindOf (P.zip vs) m x = some v
  | [], _, _, _, _, h, _, _ => by simp at h
  | _ :: _, [], _, _, _, _, h, _ => by simp at h
  | p :: P, w :: vs, 0, m, nd, h1, h2, hk => by
    simp at h1 h2; subst h1; subst h2
    show bindL kindOf ((p, w) :: P.zip vs) m p = _
    unfold bindL
    rw [vR fun v hv => (List.nodup_cons.mp nd).1 (List.of_mem_zip hv).1, if_pos hk]
    simp
  | p :: P, w :: vs, i + 1, m, nd, h1, h2, hk => by
    show bindL kindOf ((p, w) :: P.zip vs) m x = _
    unfold bindL
    exact vC (i := i) (List.nodup_cons.mp nd).2 (by simpa using h1) (by simpa using h2) hk
theorem vV {kindOf : Str → Option NameKind} {x : Str} {v : Value} : ∀ {P : List Str} {vs : List Value} {i : Nat} {m : Str → Option Value}, P.Nodup → P[i]? = some x → vs[i]? = some v → kindOf x ≠ some .local →
    bindC kindOf (P.zip vs) m x = some v
  | [], _, _, _, _, h, _, _ => by simp at h
  | _ :: _, [], _, _, _, _, h, _ => by simp at h
  | p :: P, w :: vs, 0, m, nd, h1, h2, hk => by
    simp at h1 h2; subst h1; subst h2
    show bindC kindOf ((p, w) :: P.zip vs) m p = _
    unfold bindC
    rw [vG fun v hv => (List.nodup_cons.mp nd).1 (List.of_mem_zip hv).1, if_neg hk]
    simp
  | p :: P, w :: vs, i + 1, m, nd, h1, h2, hk => by
    show bindC kindOf ((p, w) :: P.zip vs) m x = _
    unfold bindC
    exact vV (i := i) (List.nodup_cons.mp nd).2 (by simpa using h1) (by simpa using h2) hk
noncomputable def start (N : List Str) (vs : List V) : St := vs.map some ++ List.replicate (N.length - vs.length) none
noncomputable def nQ (CX : CXT) (P : Program) (w : World) (K : PySem.W.Frag) (mg : Str → Option Value) (base : Heap) (N : List Str) (qual : Str) (scope : Scope) (f : Addr) (cd : Value) (A : Around) (outer : List Env) (s : Shared) (H : Hp) (E : XK) : Cx where
  prog := P
  w := w
  K := K
  mg := mg
  base := base
  A := A.deeper (envOfC qual scope s.heap.objs.size f cd)
  N := N
  s₀ := s
  H₀ := H
  env := envOfC qual scope s.heap.objs.size f cd
  outer := outer
  stack := envOfC qual scope s.heap.objs.size f cd :: outer
  ex := []
  calm := true
  fn := fun _ => true
  pn := []
  xe := fun e s' => wpAny (model P w) (A.deeper (envOfC qual scope s.heap.objs.size f cd)) (leaving (envOfC qual scope s.heap.objs.size f cd) e) (fun _ s'' => CX outer H s E e s'') (fun e' s'' => CX outer H s E e' s'') s'
theorem yr {sc : Scope} {n : Nat} {x : Str} (h : sc.names.lookup x = some .cell) : ∃ c, (cellsFrom n sc.names []).lookup x = some c := by
  have q := PySem.W.cellsFrom_some sc.names n [] (.inl h)
  exact Option.isSome_iff_exists.mp q
theorem Fo {CX : CXT} {P : Program} {w : World} {K : PySem.W.Frag} {mg : Str → Option Value} {base : Heap} {N ps : List Str} {qual : Str} {scope : Scope} {f : Addr} {cd : Value} {A : Around} {outer : List Env} {s s1 : Shared} {H : Hp} {E : XK} {us : List Value} {vs : List V}
    (S : aV N ps scope) (hd : A.handled = none) (e0 : Ck P w K mg base A outer s H) (hl : vs.length = ps.length) (r : Vals vs us)
    (x : InCallC s s.heap.objs.size (bindL (envOfC qual scope s.heap.objs.size f cd).kindOf (ps.zip us) fun _ => none) (cellsFrom (s.heap.objs.size + 1) scope.names []) (bindC (envOfC qual scope s.heap.objs.size f cd).kindOf (ps.zip us) fun _ => none) s1) :
    Inv (nQ CX P w K mg base N qual scope f cd A outer s H E) [] (start N vs) H s1 := by
  have hpl : ps.length ≤ N.length := by have := congrArg List.length S.pre; rw [List.length_take] at this; omega
  obtain ⟨h1, tk, rfl, hk⟩ := x.done
  have noA : ∀ b : Addr, b ∉ (nQ CX P w K mg base N qual scope f cd A outer s H E).ex := fun b z => absurd (show b ∈ ([] : List Addr) from z) (by simp)
  refine ⟨⟨e0.mod, S.kind, rfl, rfl, Nat.le_refl _, fun y z c h1 h2 => ?_, fun y hy => ?_, fun y c _ h => ?_, fun _ => hd, Around.frames_deeper e0.frames, .inr ⟨rfl, rfl⟩, fun b z => absurd z (noA b), e0.bs, e0.bsz, fun b _ _ => noA b, fun b z => absurd z (noA b), e0.mH, e0.frf⟩,
    rfl, e0.bare, Un.kept hk, ⟨_, x.toInCall.ns, fun i y v h1 h2 h3 => ?_⟩, fun y c h => ⟨_, x.cell y c h⟩, e0.hok.fresh (Nat.le_refl _), fun y c h => ?_, fun p hp => absurd (show p ∈ ([] : List (Addr × Obj)) from hp) (by simp), e0.hok.kept hk, ?_⟩
  · exact name_of_addr x.apart (PySem.mem_of_lookup h1) (PySem.mem_of_lookup h2)
  · have hy : scope.names.lookup y = some .cell ∨ scope.names.lookup y = some .free := hy
    rcases hy with hy | hy
    · exact yr hy
    · exact absurd rfl (S.nofree _ (PySem.mem_of_lookup hy))
  · exact Nat.le_of_lt (x.above y c (PySem.mem_of_lookup h))
  · have hi : i < vs.length := by
      unfold start at h2
      by_cases hi : i < vs.length
      · exact hi
      · rw [List.getElem?_append_right (by simpa using hi)] at h2
        rw [List.getElem?_replicate] at h2
        split at h2 <;> cases h2
    have ha : vs[i]? = some v := by
      unfold start at h2
      rw [List.getElem?_append_left (by simpa using hi), List.getElem?_map] at h2
      cases e : vs[i]? with
      | none => rw [e] at h2; cases h2
      | some a => rw [e] at h2; cases h2; rfl
    obtain ⟨u, hu, rv⟩ := r.get ha
    have hp : ps[i]? = some y := by
      rw [← S.pre, List.getElem?_take_of_lt (by omega)]; exact h1
    have ndP : ps.Nodup := by rw [← S.pre]; exact S.nd.sublist (List.take_sublist _ _)
    refine ⟨u, rv, ?_⟩
    rcases S.par y (List.mem_of_getElem? hp) with k | k
    · exact .inl ⟨k, vC ndP hp hu k⟩
    · obtain ⟨c, e⟩ := yr (n := s.heap.objs.size + 1) k
      refine .inr ⟨.inl k, c, e, ?_⟩
      have q := x.cell y c e
      rw [vV ndP hp hu (by show scope.names.lookup y ≠ _; rw [k]; decide)] at q
      exact q
  · exact e0.hok.fresh (Nat.le_of_lt (x.above y c (PySem.mem_of_lookup h)))
  · unfold start
    show _ = N.length
    rw [List.length_append, List.length_map, List.length_replicate]
    omega
theorem Qt {CX : CXT} {P : Program} {w : World} {K : PySem.W.Frag} {mg : Str → Option Value} {base : Heap} {k : Nat} {f : Addr} {name qual : Str} {params : Arguments} {body : List Stmt} {scope : Scope} {dV kV doc pm cdv ct oc : Value} {an od : Option Addr}
    {osl : Array (Option Value)} {N ps : List Str} {sp : Sp} (lk : K.lookup f = some ⟨oc, od, .func (PySem.W.fnOf name qual params body scope dV kV doc pm an cdv ct), osl⟩) (hcd : PySem.W.codeIn K cdv qual = true) (S : aV N ps scope)
    (len : ∀ vs H Q E, sp vs H Q E → vs.length = ps.length)
    (hbody : ∀ (A : Around) (outer : List Env) (s : Shared) (H : Hp) (vs : List V) (Q : VK) (E : XK), dF k (A.deeper (envOfC qual scope s.heap.objs.size f cdv)) → sp vs H Q E →
      ∃ t, PSs (nQ CX P w K mg base N qual scope f cdv A outer s H E) body t ∧ t { nx := fun _ H' => Q .non H', rt := Q } (start N vs) H) :
    mU P w K mg base CX (k + 1) f (PySem.W.fnOf name qual params body scope dV kV doc pm an cdv ct) ps sp := by
  refine ⟨len, fun A outer s H args us vs Q E hr e0 hb r hsp => ?_⟩
  have hl := len _ _ _ _ hsp
  have KX : K.In s.heap := e0.mod.kin.keeps fun b o e => (e0.bs b o e).1
  have lim : s.heap.NoLimit := e0.mod.nolimit.keeps fun b o e => (e0.bs b o e).1
  have hkind : ∀ y ∈ ps.zip us, scope.names.lookup y.1 = some .local ∨ (scope.names.lookup y.1 = some .cell ∧ ((cellsFrom (s.heap.objs.size + 1) scope.names []).lookup y.1).isSome = true) := fun ⟨n, v⟩ hy => by
    rcases S.par n (List.of_mem_zip hy).1 with q | q
    · exact .inl q
    · exact .inr ⟨q, PySem.W.cellsFrom_some _ _ _ (.inl q)⟩
  refine codeAny_call_function hr.depth (KX _ _ lk) rfl S.co S.gen rfl (PySem.W.codeRec_of KX hcd) (hb _ _ _ _ ?_)
  refine wpAny_newFunctionEnv_cells S.kind hkind fun env he s1 x => ?_
  subst he
  refine ⟨lim.keeps x.toInCall.keep, codeAny_func ?_⟩
  obtain ⟨t, ht, hq⟩ := hbody A outer s H vs Q E (hr.deeper _) hsp
  have I : Inv (nQ CX P w K mg base N qual scope f cdv A outer s H E) [] (start N vs) H s1 := Fo S hr.hd e0 hl r x
  refine wpAny_mono (ht [] s1 (start N vs) H _ I hq) (fun fl s' hs => ?_) fun e s' hs => hs
  have fin : ∀ {σ' : St} {H' : Hp} {v : V} {u : Value}, Inv (nQ CX P w K mg base N qual scope f cdv A outer s H E) [] σ' H' s' → RelV v u → Q v H' → CE outer P w H s Q u s' :=
    fun {σ' H' v u} J rv q => ⟨v, H', J.os, J.bare, J.base, J.hok, rv, q⟩
  cases fl with
  | ret u =>
    obtain ⟨v, σ', H', J, rv, q⟩ := hs
    exact fin J rv q
  | next =>
    obtain ⟨σ', H', J, q⟩ := hs
    exact fin (v := V.non) (u := Value.none) J rfl q
  | brk =>
    obtain ⟨_, _, _, q⟩ := hs
    exact False.elim q
  | cont =>
    obtain ⟨_, _, _, q⟩ := hs
    exact False.elim q
end L2
namespace L2
open PySem PySem.Spec PyProof.Rows
section
variable {X : Cx} {x : Str} {p pos : Pos} {e : Expr} {es : List Expr} {t : TA} {id T : String} {r : List V → Hp → VK → Prop}
noncomputable def tCB (r : List V → Hp → VK → Prop) (t : TA) : TE := fun σ H Q => t σ H fun vs H1 => r vs H1 Q
theorem sG (hc : dh X (.builtin id) r) (hg : Gl X x) (hm : X.mg x = none) (hv : bootBuiltins x = some (.builtin id)) (ha : PA X (e :: es) t) (hn : x ≠ "__name__" := by decide) (hdb : (x == ("__debug__" : Str)) = false := by decide)
    (he : starEach (e :: es) X.env = (false, eval e X.env) :: starEach es X.env := by rfl) (hpl : (backTo pos (starEach es X.env)).any (·.1) = false := by rfl) : PE X (.Call (.Name x p) (e :: es) [] pos) (tCB r t) := by
  intro pins s σ H Q I h
  refine wpAny_Call_Name_kw (lE I hg hm hv ?_ hn hdb)
  exact PyProof.Rows.callWith_builtin1 (thn (ha pos pins s σ H _ I h) fun us s1 ⟨vs, H1, I1, r1, q1⟩ => hc pins s1 σ H1 vs us Q I1 r1 q1) he hpl
theorem jx (hc : dh X (.type T) r) (hg : Gl X x) (hm : X.mg x = none) (hv : bootBuiltins x = some (.type T)) (ha : PA X (e :: es) t) (hn : x ≠ "__name__" := by decide) (hdb : (x == ("__debug__" : Str)) = false := by decide)
    (he : starEach (e :: es) X.env = (false, eval e X.env) :: starEach es X.env := by rfl) (hpl : (backTo pos (starEach es X.env)).any (·.1) = false := by rfl) : PE X (.Call (.Name x p) (e :: es) [] pos) (tCB r t) := by
  intro pins s σ H Q I h
  refine wpAny_Call_Name_kw (lE I hg hm hv ?_ hn hdb)
  exact PyProof.Rows.callWith_type1 (thn (ha pos pins s σ H _ I h) fun us s1 ⟨vs, H1, I1, r1, q1⟩ => hc pins s1 σ H1 vs us Q I1 r1 q1) he hpl
end
end L2
namespace HT
open PySem PyProof.Rows
section
open PySem.SeqAt
open PySem.AutoSeq1 (wpAny_loadPart')
open PySem.MeetsSeq PySem.MeetsSeq2 PySem.MeetsSeq3
end
section
variable {prog : Program} {w : World} {A : Around} {E : Value → Shared → Prop} {s : Shared}
theorem K5 {t b : Addr} {vs ws : List Value} {Q : Value → Shared → Prop} (ht : IsTup s.heap t vs.toArray) (hb : IsTup s.heap b ws.toArray) (hv : vs ≠ [])
    (h1 : ws = [] → Q (.ref t) s) (h2 : ws ≠ [] → Q (.ref s.heap.objs.size) { s with heap := s.heap.push { cls := .type "tuple", data := .seq (vs ++ ws).toArray } })
    (hsz : vs.length + ws.length ≤ sizeLine) : wpAny (model prog w) A (binaryOp .Add (.ref t) (.ref b)) Q E s := by
  obtain ⟨⟨cls, dd, data, sl⟩, ho, hc, n, hd⟩ := id ht
  obtain ⟨⟨cls2, dd2, data2, sl2⟩, ho2, hc2, n2, hd2⟩ := id hb
  simp only at hc hd hc2 hd2
  subst hc hd hc2 hd2
  have e : vs.toArray ++ ws.toArray = (vs ++ ws).toArray := by simp
  by_cases hw : ws = []
  · exact concat_meets ⟨_, ho, rfl⟩ ⟨_, ho2, rfl⟩ noFill_tuple_add seq_tuple_add PySem.F.slot_tuple_add PySem.F.entry_tuple_add (PySem.F.args_tuple_add_2 _ _)
      (tuple_addW1 t b vs.toArray ws.toArray n n2 dd dd2 sl sl2 (by simpa using hv) (by simp [hw])) ⟨ho, ho2, h1 hw⟩
  · refine concat_meets ⟨_, ho, rfl⟩ ⟨_, ho2, rfl⟩ noFill_tuple_add seq_tuple_add PySem.F.slot_tuple_add PySem.F.entry_tuple_add (PySem.F.args_tuple_add_2 _ _)
      (tuple_addW2 t b vs.toArray ws.toArray n n2 dd dd2 sl sl2 (by simpa using hv) (by simpa using hw) (by rw [List.size_toArray, List.size_toArray]; exact hsz)) ⟨ho, ho2, ?_⟩
    rw [e]
    exact h2 hw
end
end HT
namespace L2
open PySem PySem.Spec PyProof.Rows
noncomputable abbrev TO := St → Hp → (Option Int → Hp → Prop) → Prop
theorem intsAre_of {ns : List Int} : ∀ {us : List Value}, Vals (ns.map V.int) us → IntsAre us ns := by
  induction ns with
  | nil => intro us r; rw [List.map_nil] at r; cases r; exact .nil
  | cons n ns ih =>
    intro us r
    rw [List.map_cons] at r
    cases r with
    | cons r1 r2 =>
      obtain ⟨t, e⟩ := r1
      subst e
      exact .cons n t (ih r2)
section
variable {X : Cx} {e : Expr} {te : TE} {lo hi : Option Expr} {tl th : TO} {pos p2 : Pos}
noncomputable def QR (K : PySem.W.Frag) : R2 := fun x y H Q => ∃ a b xs ys, x = .ref a ∧ y = .ref b ∧ SqT K H a xs ∧ SqT K H b ys ∧ xs ≠ [] ∧ xs.length + ys.length ≤ sizeLine ∧
  (ys = [] → Q (.ref a) H) ∧ (ys ≠ [] → ∀ p, H p = none → Q (.ref p) (upd H p (.tup (xs ++ ys))))
theorem Vals.uX {xs : List V} {us : List Value} (r : Vals xs us) : us = [] ↔ xs = [] := by
  cases r with
  | nil => simp
  | cons _ _ => simp
theorem Ka : OpR X (binaryOp .Add) (QR X.K) := by
  intro pins s σ H x y v u Q I rx ry h
  obtain ⟨a, b, xs, ys, rfl, rfl, ha, hb, hx, hz, q1, q2⟩ := h
  cases rx
  cases ry
  obtain ⟨its, r1, p1, _⟩ := I.tuple ha
  obtain ⟨its2, r2, p2, _⟩ := I.tuple hb
  refine HT.K5 p1 p2 (fun z => hx (r1.uX.mp z)) (fun z => ⟨.ref a, H, I, rfl, q1 (r2.uX.mp z)⟩) (fun z => ?_) (by rw [← r1.length, ← r2.length]; exact hz)
  refine ⟨.ref s.heap.objs.size, _, I.laid (t' := s.toks) (o := .tup (xs ++ ys)) (fun b ob q => Heap.get?_push_of_some _ q) (Nat.le_refl _) ?_, rfl, q2 (fun w => z (r2.uX.mpr w)) _ (I.hok.fresh (Nat.le_refl _))⟩
  exact ⟨by rw [List.length_append]; exact hz, _, r1.append r2, IsTup.new _ _⟩
end
end L2
namespace L2
open PySem PySem.Spec PyProof.Rows
noncomputable def ixN (n : Nat) (i : Int) : Option Nat := if 0 ≤ i then (if i < n then some i.toNat else none) else if -(n : Int) ≤ i then some (i + n).toNat else none
noncomputable def atI {α : Type} (xs : List α) (i : Int) : Option α := (ixN xs.length i).bind fun j => xs[j]?
theorem KD {n : Nat} {i : Int} {j : Nat} (h : ixN n i = some j) : seqIndex? i n = some j ∧ j < n ∧ -(n : Int) ≤ i ∧ i < n := by
  unfold ixN at h
  by_cases h0 : 0 ≤ i
  · rw [if_pos h0] at h
    by_cases h1 : i < n
    · rw [if_pos h1] at h
      have e : i.toNat = j := Option.some.inj h
      exact ⟨by rw [seqIndex_of h0 h1, e], by omega, by omega, h1⟩
    · rw [if_neg h1] at h; cases h
  · rw [if_neg h0] at h
    by_cases h1 : -(n : Int) ≤ i
    · rw [if_pos h1] at h
      have e : (i + n).toNat = j := Option.some.inj h
      exact ⟨by rw [seqIndex_neg (by omega) h1, e], by omega, h1, by omega⟩
    · rw [if_neg h1] at h; cases h
theorem Aw {α : Type} {xs : List α} {i : Int} {v : α} (h : atI xs i = some v) : ∃ j, seqIndex? i xs.length = some j ∧ xs[j]? = some v ∧ j < xs.length ∧ -(xs.length : Int) ≤ i ∧ i < xs.length := by
  unfold atI at h
  cases e : ixN xs.length i with
  | none => rw [e] at h; cases h
  | some j =>
    rw [e] at h
    obtain ⟨h1, h2, h3, h4⟩ := KD e
    exact ⟨j, h1, h, h2, h3, h4⟩
theorem Bq {α : Type} {xs : List α} {j : Nat} {v : α} (h : xs[j]? = some v) : atI xs (j : Int) = some v := by
  have hj : j < xs.length := (List.getElem?_eq_some_iff.mp h).1
  have e : ixN xs.length (j : Int) = some j := by
    unfold ixN
    rw [if_pos (by omega), if_pos (by omega)]; simp
  unfold atI; rw [e]; exact h
noncomputable def Be (b : Expr) : Prop := ∀ o i, subscripted b false o i = operate [o, i] (getItem o i)
noncomputable def IxR (X : Cx) (r : R2) : Prop :=
  ∀ (value slice : Expr) (pins : List (Addr × Obj)) (s : Shared) (σ : St) (H : Hp) (x y : V) (v u : Value) (Q : VK), Inv X pins σ H s → RelV x v → RelV y u → r x y H Q →
    subscripted slice false v u = operate [v, u] (getItem v u) → wpAny (model X.prog X.w) X.A (subscriptTail value slice v u) (EP X pins σ Q) X.xe s
noncomputable def MtR (X : Cx) (id : String) (r : V → List V → Hp → VK → Prop) : Prop :=
  ∀ (pins : List (Addr × Obj)) (s : Shared) (σ : St) (H : Hp) (x : V) (xs : List V) (v : Value) (us : List Value) (Q : VK), Inv X pins σ H s → RelV x v → Vals xs us → r x xs H Q →
    wpAny (model X.prog X.w) X.A (call (.builtin id) (v :: us)) (EP X pins σ Q) X.xe s
section
variable {X : Cx} {a b : Expr} {ta tb : TE} {pos : Pos}
theorem QH {r : R2} (hr : IxR X r) (ha : PE X a ta) (hb : PE X b tb) (hs : Be b) : PE X (.Subscript a b pos) (tOp r ta tb) := by
  intro pins s σ H Q I h
  exact Subscript_ (G4 ha hb I h fun v u s2 x y H2 I2 rx ry q => hr a b pins s2 σ H2 x y v u Q I2 rx ry q (hs _ _))
noncomputable def R1 (K : PySem.W.Frag) : R2 := fun x y H Q => ∃ p xs i v, x = .ref p ∧ y = .int i ∧ SqL K H p xs ∧ atI xs i = some v ∧ Q v H
noncomputable def Ry (K : PySem.W.Frag) : R2 := fun x y H Q => ∃ p xs i v, x = .ref p ∧ y = .int i ∧ SqT K H p xs ∧ atI xs i = some v ∧ Q v H
theorem Ko : IxR X (R1 X.K) := by
  intro value slice pins s σ H x y v u Q I rx ry h hs
  obtain ⟨p, xs, i, z, rfl, rfl, hq, he, q⟩ := h
  cases rx
  obtain ⟨t, rfl⟩ := ry
  obtain ⟨its, r, pl, hz⟩ := I.list hq
  obtain ⟨j, h1, h2, h3, h4, h5⟩ := Aw he
  obtain ⟨w, ew, rw'⟩ := r.get h2
  have hl := r.length
  have hn := p8
  have fin : EP X pins σ Q w s := ⟨z, H, I, rw', q⟩
  by_cases h0 : 0 ≤ i
  · have hj : i.toNat = j := by
      rw [seqIndex_of h0 h5] at h1
      exact Option.some.inj h1
    exact item_listR pl.isList h0 (by omega) (by rw [hj]; simpa using ew) fin hs
  · have hj : (i + (its.toArray.size : Int)).toNat = j := by
      rw [seqIndex_neg (by omega) h4] at h1
      rw [List.size_toArray, ← hl]
      exact Option.some.inj h1
    exact subscriptTail_builtinR (x := w) pl.isList.typeIs slot_list_getitem.lookup
      (wpAny_getItem_list_neg (Q := fun r s' => r = w ∧ EP X pins σ Q r s') pl.isList (by omega) (by rw [List.size_toArray] <;> omega) (by omega) (by rw [hj]; simpa using ew) ⟨rfl, fin⟩) hs
theorem Mq : IxR X (Ry X.K) := by
  intro value slice pins s σ H x y v u Q I rx ry h hs
  obtain ⟨p, xs, i, z, rfl, rfl, hq, he, q⟩ := h
  cases rx
  obtain ⟨t, rfl⟩ := ry
  obtain ⟨its, r, pl, hz⟩ := I.tuple hq
  obtain ⟨j, h1, h2, h3, h4, h5⟩ := Aw he
  obtain ⟨w, ew, rw'⟩ := r.get h2
  have hl := r.length
  have hn := p8
  have fin : EP X pins σ Q w s := ⟨z, H, I, rw', q⟩
  exact subscriptTail_builtinR (x := w) pl.typeIs slot_tuple_getitem.lookup
    (getItem_tuple (j := j) (Q := fun r s' => r = w ∧ EP X pins σ Q r s') pl (by omega) (by omega) (by rw [List.size_toArray, ← hl]; exact h1) (by simpa using ew) ⟨rfl, fin⟩) hs
theorem pU : dh X (.builtin "len") (fun xs H Q => ∃ p ys, xs = [.ref p] ∧ (SqL X.K H p ys ∨ SqT X.K H p ys) ∧ Q (.int ys.length) H) := by
  intro pins s σ H xs us Q I r h
  obtain ⟨p, ys, rfl, hq, q⟩ := h
  obtain ⟨u, rfl, rx⟩ := vals1 r
  cases rx
  have hn := p8
  rcases hq with hq | hq
  · obtain ⟨its, r', pl, hz⟩ := I.list hq
    have hlen := r'.length
    exact Calls.call_len_list pl.isList (by simp only [List.size_toArray] <;> omega) ⟨.int ys.length, H, I.tok _, ⟨s.toks + 1, by rw [List.size_toArray, hlen]⟩, q⟩
  · obtain ⟨its, r', pl, hz⟩ := I.tuple hq
    have hlen := r'.length
    exact len_tuple pl (by simp only [List.size_toArray] <;> omega) ⟨.int ys.length, H, I.tok _, ⟨s.toks + 1, by rw [List.size_toArray, hlen]⟩, q⟩
theorem yj : dh X (.builtin "len") (fun xs H Q => ∃ z, xs = [.str z] ∧ z.length ≤ sizeLine ∧ Q (.int z.length) H) := by
  intro pins s σ H xs us Q I r h
  obtain ⟨z, rfl, hz, q⟩ := h
  obtain ⟨u, rfl, t, rfl⟩ := vals1 r
  have hn := p8
  exact len_str (by omega) ⟨.int z.length, H, I.tok _, ⟨_, rfl⟩, q⟩
theorem qw : dh X (.type "list") (fun xs H Q => ∃ p ys, xs = [.ref p] ∧ (SqL X.K H p ys ∨ SqT X.K H p ys) ∧ ∀ l, H l = none → Q (.ref l) (upd H l (.lst ys))) := by
  intro pins s σ H xs us Q I r h
  obtain ⟨p, ys, rfl, hq, q⟩ := h
  obtain ⟨u, rfl, rx⟩ := vals1 r
  cases rx
  have fin : ∀ (its : List Value), Vals ys its → ys.length ≤ sizeLine → ∀ (h' : Heap) (c' : Nat), (∀ b o', s.heap.get? b = some o' → h'.get? b = some o') →
      h'.get? s.heap.objs.size = some { cls := .type "list", dict := none, data := .seq its.toArray c', slots := #[] } → EP X pins σ Q (.ref s.heap.objs.size) { s with heap := h' } := fun its r' hz h' c' kp e =>
    ⟨.ref s.heap.objs.size, _, I.laid (t' := s.toks) kp (Nat.le_refl _) (show cM X.prog X.w _ h' _ (.lst ys) from ⟨hz, its, c', r', e⟩), rfl, q _ (I.hok.fresh (Nat.le_refl _))⟩
  rcases hq with hq | hq
  · obtain ⟨its, r', pl, hz⟩ := I.list hq
    have hlen := r'.length
    obtain ⟨o, ho, hc, n, hd⟩ := pl.isList
    exact call_list_seq p (.inl rfl) ho hc hd (fun h' c' kp e => fin its r' hz h' c' kp e) (by simp only [List.size_toArray] <;> omega)
  · obtain ⟨its, r', pl, hz⟩ := I.tuple hq
    have hlen := r'.length
    obtain ⟨o, ho, hc, n, hd⟩ := pl
    exact call_list_seq p (.inr rfl) ho hc hd (fun h' c' kp e => fin its r' hz h' c' kp e) (by simp only [List.size_toArray] <;> omega)
theorem pO : dh X (.type "tuple") (fun xs H Q => ∃ p ys, xs = [.ref p] ∧ ((SqL X.K H p ys ∧ ∀ l, H l = none → Q (.ref l) (upd H l (.tup ys))) ∨ (SqT X.K H p ys ∧ Q (.ref p) H))) := by
  intro pins s σ H xs us Q I r h
  obtain ⟨p, ys, rfl, h⟩ := h
  obtain ⟨u, rfl, rx⟩ := vals1 r
  cases rx
  rcases h with ⟨hq, q⟩ | ⟨hq, q⟩
  · obtain ⟨its, r', pl, hz⟩ := I.list hq
    have hlen := r'.length
    refine call_tuple_list pl.isList (fun h' kp => ?_) (by simp only [List.size_toArray] <;> omega)
    have I1 : Inv X pins σ H { s with heap := h' } := I.kept (t' := s.toks) kp
    have I2 : Inv X pins σ (upd H h'.objs.size (.tup ys)) { s with heap := h'.push { cls := .type "tuple", data := .seq its.toArray } } :=
      I1.laid (t' := s.toks) (fun b o e => Heap.get?_push_of_some _ e) (Nat.le_refl _) (show cM X.prog X.w _ _ _ (.tup ys) from ⟨hz, its, r', IsTup.new _ _⟩)
    exact ⟨.ref h'.objs.size, _, I2, rfl, q _ (I1.hok.fresh (Nat.le_refl _))⟩
  · obtain ⟨its, r', pl, hz⟩ := I.tuple hq
    exact call_tuple_same pl ⟨.ref p, H, I, rfl, q⟩
noncomputable def tyV (K : PySem.W.Frag) (T : String) (x : V) (H : Hp) : Prop := match x with
  | .str _ => T = "str"
  | .int _ => T = "int"
  | .ref p => (T = "list" ∧ ∃ xs, SqL K H p xs) ∨ (T = "tuple" ∧ ∃ o, K.lookup p = some o ∧ o.cls = .type "tuple" ∧ o.dict = none) ∨
      (T = "dict" ∧ ((∃ kvs, H p = some (.dK kvs)) ∨ ∃ kvs, H p = some (.dT kvs))) ∨ (T = "set" ∧ ∃ S n, H p = some (.set S n))
  | _ => False
theorem MK {pins : List (Addr × Obj)} {σ : St} {H : Hp} {s : Shared} {T : String} {x : V} {v : Value} (I : Inv X pins σ H s) (r : RelV x v) (ty : tyV X.K T x H) :
    s.TypeIs v T ∧ ∀ a, v = .ref a → ∃ ob, s.heap.get? a = some ob ∧ ob.dict = none := by
  cases x with
  | str z =>
    obtain ⟨t, rfl⟩ := r
    cases (show T = "str" from ty)
    exact ⟨typeIs_str s z t, fun _ e => nomatch e⟩
  | int i =>
    obtain ⟨t, rfl⟩ := r
    cases (show T = "int" from ty)
    exact ⟨typeIs_int s i t, fun _ e => nomatch e⟩
  | ref p =>
    cases r
    rcases ty with ⟨rfl, xs, hq⟩ | ⟨rfl, o, hk, hc, hd⟩ | ⟨rfl, hk⟩ | ⟨rfl, S, n, hk⟩
    · obtain ⟨its, _, pl, _⟩ := I.list hq
      refine ⟨pl.isList.typeIs, fun a e => ?_⟩
      cases e
      obtain ⟨o, n, e, c, hd, _⟩ := pl
      exact ⟨o, e, hd⟩
    · refine ⟨⟨o, I.kIn p o hk, hc⟩, fun a e => ?_⟩
      cases e
      exact ⟨o, I.kIn _ o hk, hd⟩
    · have z : ∃ o, s.heap.get? p = some o ∧ o.ExactDict := by
        rcases hk with ⟨kvs, hk⟩ | ⟨kvs, hk⟩
        · obtain ⟨_, _, _, _, o, _, _, e, ex, _⟩ := I.hok p _ hk
          exact ⟨o, e, ex⟩
        · obtain ⟨_, _, _, _, o, _, _, e, ex, _⟩ := I.hok p _ hk
          exact ⟨o, e, ex⟩
      obtain ⟨o, e, ex⟩ := z
      refine ⟨⟨o, e, ex.1⟩, fun a e2 => ?_⟩
      cases e2
      exact ⟨o, e, ex.2.1⟩
    · obtain ⟨o, _, _, _, e, ex, _⟩ := I.hok p _ hk
      refine ⟨⟨o, e, ex.1⟩, fun a e2 => ?_⟩
      cases e2
      exact ⟨o, e, ex.2.1⟩
  | _ => exact False.elim ty
noncomputable def tBM (K : PySem.W.Frag) (T : String) (r : V → List V → Hp → VK → Prop) (to : TE) (t : TA) : TE := fun σ H Q => to σ H fun x H1 => tyV K T x H1 ∧ t σ H1 fun xs H2 => r x xs H2 Q
variable {o e : Expr} {es : List Expr} {to : TE} {t : TA} {name : Str} {apos cpos : Pos} {T id : String} {r : V → List V → Hp → VK → Prop}
theorem Q6 (pa : PlainAttrs T) (slot : Slot T name id) (hty : typeOf (.builtin id) = pure (.type "method_descriptor")) (hm : MtR X id r) (ho : PE X o to) (ha : PA X (e :: es) t)
    (hbase : attributeBase o name X.env (eval o X.env) = eval o X.env := by rfl)
    (hfew : ((backTo cpos (starEach (e :: es) X.env)).all (fun x => !x.1) && (backToKw cpos (keywordEach [] X.env)).all (fun x => x.1.isSome)
      && decide ((e :: es).length + ([] : List Keyword).length + (if ([] : List Keyword).isEmpty then 0 else 1) < 30)) = true := by rfl)
    (hline : (apos.endLine == cpos.line) = true := by rfl) (hs : starEach (e :: es) X.env = (false, eval e X.env) :: starEach es X.env := by rfl) (hplain : (backTo cpos (starEach es X.env)).any (·.1) = false := by rfl) :
    PE X (.Call (.Attribute o name apos) (e :: es) [] cpos) (tBM X.K T r to t) := by
  intro pins s σ H Q I h
  refine wpAny_Call_method_late hbase hfew hline rfl (thn (ho pins s σ H _ I h) fun v s1 hq__ => ?_)
  obtain ⟨x, H1, I1, r1, ty, q1⟩ := hq__
  obtain ⟨h1, h2⟩ := MK I1 r1 ty
  refine ⟨T, id, pa, slot, hty, h1, h2, ?_⟩
  have hA := ha cpos pins s1 σ H1 _ I1 q1
  rw [hs] at hA ⊢
  refine Calls.callWith_builtin (by show (false || (backTo cpos (starEach es X.env)).any (·.1)) = false; rw [hplain] <;> rfl) (Calls.evalArgs_plain ?_)
  exact thn hA fun us s2 ⟨vs, H2, I2, r2, q2⟩ => hm pins s2 σ H2 x vs v us Q I2 r1 r2 q2
end
end L2
namespace L2
open PySem PySem.Spec PyProof.Rows
noncomputable def MtM (X : Cx) (id : String) (r : V → List V → Hp → VK → Prop) : Prop :=
  ∀ (pins : List (Addr × Obj)) (s : Shared) (σ : St) (H : Hp) (x : V) (xs : List V) (v : Value) (us : List Value) (Q : VK), Inv X pins σ H s → RelV x v → Vals xs us → r x xs H Q →
    wpAny (model X.prog X.w) X.A (call (.builtin id) (v :: us)) (EP X pins σ Q) X.xe s
theorem Vals.one {x : V} {us : List Value} (h : Vals [x] us) : ∃ u, us = [u] ∧ RelV x u := by
  cases h with
  | cons r t => cases t; exact ⟨_, rfl, r⟩
theorem Vals.two {x y : V} {us : List Value} (h : Vals [x, y] us) : ∃ u v, us = [u, v] ∧ RelV x u ∧ RelV y v := by
  cases h with
  | cons r t =>
    cases t with
    | cons q t => cases t; exact ⟨_, _, rfl, r, q⟩
theorem Vals.rep {xs : List V} {us : List Value} (h : Vals xs us) : ∀ k : Nat, Vals (List.replicate k xs).flatten (List.replicate k us).flatten
  | 0 => .nil
  | k + 1 => by
    rw [List.replicate_succ, List.replicate_succ, List.flatten_cons, List.flatten_cons]
    exact Vals.append h (Vals.rep h k)
theorem foldl_rep (its : List Value) : ∀ (k : Nat) (acc : List Value),
    List.foldl (fun x1 x2 => x1 ++ x2) acc.toArray (List.replicate k its.toArray) = (acc ++ (List.replicate k its).flatten).toArray
  | 0, acc => by simp
  | k + 1, acc => by
    have e : acc.toArray ++ its.toArray = (acc ++ its).toArray := by simp
    have e2 : (acc ++ its) ++ (List.replicate k its).flatten = acc ++ (List.replicate (k + 1) its).flatten := by
      rw [List.replicate_succ, List.flatten_cons, List.append_assoc]
    rw [← e2, ← foldl_rep its k (acc ++ its), ← e, List.replicate_succ, List.foldl_cons]
section
variable {X : Cx} {pins : List (Addr × Obj)} {σ : St} {H : Hp} {s : Shared} {l b : Addr} {xs ys zs : List V}
theorem Inv.R5 {its its' : List Value} {n : Nat} {f : Array Value → Array Value} {t' : Nat} (I : Inv X pins σ H s) (hH : H l = some (.lst xs))
    (e : s.heap.get? l = some { cls := .type "list", data := .seq its.toArray n }) (hf : f its.toArray = its'.toArray) (hv : Vals ys its') (hz : ys.length ≤ sizeLine) :
    Inv X pins σ (upd H l (.lst ys)) { s with heap := s.heap.update l (Obj.mapSeq f), toks := t' } := by
  have q := PySem.IsL.update e f
  rw [hf] at q
  refine I.write (x := l) (e := l) (by rw [hH]; exact trivial) (.inl rfl) (fun b' u hb hu => (Heap.get?_update_other s.heap (Obj.mapSeq f) (Ne.symm hb)).trans hu) ⟨_, q⟩ ?_
  exact ⟨hz, its', _, hv, q⟩
theorem Inv.O9 {its : List Value} {t' : Nat} (I : Inv X pins σ H s) (hv : Vals ys its) (hz : ys.length ≤ sizeLine) :
    Inv X pins σ (upd H s.heap.objs.size (.lst ys)) { s with heap := s.heap.push { cls := .type "list", data := .seq its.toArray }, toks := t' } :=
  I.laid (fun _ _ q => Heap.get?_push_of_some _ q) (Nat.le_refl _) ⟨hz, its, 0, hv, Heap.get?_push_size _ rfl⟩
theorem Inv.fresh (I : Inv X pins σ H s) : H s.heap.objs.size = none := I.hok.fresh (Nat.le_refl _)
theorem Inv.Rj (I : Inv X pins σ H s) (hH : H l = some (.lst xs)) : xs.length ≤ sizeLine ∧ ∃ (its : List Value) (n : Nat), Vals xs its ∧ xs.length = its.length ∧ s.heap.get? l = some { cls := .type "list", data := .seq its.toArray n } := by
  obtain ⟨z, its, n, r, e⟩ := I.hok l _ hH
  exact ⟨z, its, n, r, r.length, e⟩
theorem Hc {n : Nat} (h : n ≤ sizeLine) : Builtin.List.listTooLong n = false := by
  unfold Builtin.List.listTooLong
  exact decide_eq_false (by omega)
end
section
variable {X : Cx}
noncomputable def K3 : V → List V → Hp → VK → Prop := fun x vs H Q => ∃ l xs y, x = .ref l ∧ vs = [y] ∧ H l = some (.lst xs) ∧ xs.length < sizeLine ∧ Q .non (upd H l (.lst (xs ++ [y])))
theorem vp : MtM X "list.append" K3 := by
  intro pins s σ H x vs v us Q I rx rv h
  obtain ⟨l, xs, y, rfl, rfl, hH, hz, q⟩ := h
  cases rx
  obtain ⟨u, rfl, ru⟩ := rv.one
  obtain ⟨z, its, n, r, hl, e⟩ := I.Rj hH
  refine call_meets F.slot_list_append ⟨_, e, rfl⟩ F.entry_list_append (F.args_list_append_2 _ _) (PySem.list_append l its.toArray n u (by rw [List.size_toArray]; omega)) ⟨e, ?_⟩
  refine ⟨.non, _, I.R5 (its' := its ++ [u]) hH e (by simp) (r.append (.cons ru .nil)) ?_, rfl, q⟩
  rw [List.length_append, List.length_singleton]
  omega
theorem len_rep {α : Type} (xs : List α) (k : Nat) : (List.replicate k xs).flatten.length = k * xs.length := by
  induction k with
  | zero => simp
  | succ k ih => rw [List.replicate_succ, List.flatten_cons, List.length_append, ih, Nat.succ_mul, Nat.add_comm]
end
section
variable {prog : Program} {w : World} {A : Around} {E : Value → Shared → Prop} {s : Shared}
end
section
variable {X : Cx}
end
end L2
namespace Att
open PySem PySem.W PySem.Calls PyProof.Rows
theorem tK {P : Params} {h : Heap} : ∀ (ns : List Int) (vs : List Value), WellAll P h vs (ns.map WData.int) → IntsAre vs ns := by
  intro ns
  induction ns with
  | nil =>
    intro vs w
    rw [List.map_nil] at w
    cases w
    exact .nil
  | cons n ns ih =>
    intro vs w
    rw [List.map_cons] at w
    cases w with
    | cons a b =>
      cases a
      exact .cons _ _ (ih _ b)
theorem Gg {l : OpenLaw} {n : Nat} (hn : l.most = some n) {P : Params} {h : Heap} {args : List WData} {vals : List Value}
    (hpre : l.row.toRowW.claim.pre args = true) (hwl : WellAll P h vals args) :
    ∃ a vs ns, vals = [Value.ref a] ∧ args = [WData.list (ns.map WData.int)] ∧ h.get? a = some { cls := .type "list", data := .seq vs.toArray } ∧ IntsAre vs ns ∧ ns.length ≤ n := by
  have hsh : WShape.hasAll [] args [.list .int] = true := (pre_splitW hpre).1
  have hc : l.pre.holds [] { args := args } = true := (pre_splitW hpre).2
  obtain ⟨d, r, rfl, h1, h2⟩ := hasAllW_cons hsh
  obtain rfl := hasAllW_nil h2
  obtain ⟨xs, rfl, h3⟩ := hasW_list h1
  obtain ⟨ns, rfl⟩ := items_int h3
  have hlen : ns.length ≤ n := by
    unfold OpenLaw.pre at hc
    have h4 : (WTm.not (.lt (.lit (.int (n : Int))) (.len (.arg 0)))).holds [] { args := [.list (ns.map .int)] } = true := by
      have h4 := (holds_andW hc).1
      rw [hn] at h4
      exact h4
    have h5 := condW_of h4 (w_not (w_lt w_lit (w_len_list (w_arg rfl))))
    rw [List.length_map] at h5
    refine Nat.le_of_not_lt fun q => ?_
    have q' : (n : Int) < ((ns.length : Nat) : Int) := by omega
    first
      | (rw [decide_eq_true q'] at h5; exact absurd h5 (by decide))
      | (simp at h5; omega)
  cases hwl with
  | cons w1 w2 =>
    cases w2
    cases w1 with
    | list ho hall => exact ⟨_, _, ns, rfl, rfl, ho, tK ns _ hall, hlen⟩
theorem Gi (l : OpenLaw) (args : List WData) : l.row.toRowW.claim.post args (.bool true) args = true :=
  postW_of (r := l.row.toRowW) (X := (true == true))
    (show WShape.has [] (.bool true) .bool = true by first | rfl | decide | simp [WShape.has, WShape.arms, WShape.armsAll])
    (show (WTm.eq .res (.lit (.bool true))).value [] { args := args, res := some (.bool true), after := args } = some (.bool (true == true)) from w_eq_bool (w_res rfl) w_lit) rfl
theorem zx {l : OpenLaw} {n : Nat} {q : Program} {loose : List Str} {XP : (Str → Option Value) → Heap → Prop} {YP : World → Heap → Prop} {d : DefRec}
    (hn : l.most = some n) (hdf : d.params.defaults = [])
    (call : ∀ (w : World) (s₀ s₁ : Shared) (mg mb : Str → Option Value) (fa : Addr) (o : Obj) (pm cd doc : Value) (a : Addr) (vs : List Value) (ns : List Int),
      Ground q loose [] XP w s₀ mg mb s₁.heap → YP w s₁.heap →
      s₁.heap.get? fa = some o → o.data = .func (docDef d.name d.params d.body d.scope pm cd doc) → s₁.heap.CodeRec cd d.name → mg d.name = some (.ref fa) →
      s₁.heap.get? a = some { cls := .type "list", data := .seq vs.toArray } → IntsAre vs ns → ns.length ≤ n → s₁.gens = #[] →
      codeAny (model l.prog w) callerA (.call (.ref fa) ⟨[.ref a], []⟩) (fun r s' => r = .ok (.ret (.bool true)) ∧ OldK s₁.heap s'.heap ∧ s'.os = s₁.os ∧ AllBare s'.gens) s₁) :
    WalkO q loose XP YP l.row.toRowW d [] (fun f vs => PySem.call f vs) := by
  intro w s₀ s₁ mg mb G Y fa o pm cd doc dV kV ho hd hcd hD hmg hg args vals as hpre hlay hrd hwl hlo
  obtain rfl : dV = .none := Dflts.none hD hdf
  obtain rfl : kV = .none := Dflts.noKw hD
  obtain ⟨a, vs, ns, rfl, rfl, hobj, hints, hlen⟩ := Gg hn hpre hwl
  refine enter_call (codeAny_mono (call w s₀ s₁ mg mb fa o pm cd doc a vs ns G Y ho (fd_plain hd) hcd hmg hobj hints hlen hg) fun r s' hq => ?_)
  obtain ⟨rfl, h2, h3, h4⟩ := hq
  exact ⟨.inl ⟨.bool true, .bool true, [], rfl, fun _ => rfl, .bool true, Gi l _, fun _ => ⟨List.Pairwise.nil, fun _ hm => (nomatch hm)⟩⟩, h2, h3, h4⟩
section
variable {prog : Program} {w : World} {A : Around} {E : Value → Shared → Prop} {s : Shared} {K : Frag}
end
end Att
namespace L2
open PySem PySem.Spec PyProof.Rows
theorem vX : ∀ {vs : List Value} {ns : List Int}, IntsAre vs ns → Vals (ns.map V.int) vs
  | _, _, .nil => .nil
  | _, _, .cons n t h => .cons ⟨t, rfl⟩ (vX h)
noncomputable def Only (H : Hp) : Prop := ∀ b, H b = none ∨ ∃ o xs, H b = some (.frz o (.lst xs))
theorem Jf {P : Program} {w : World} {K : PySem.W.Frag} {mg mb : Str → Option Value} {CX : CXT} {k : Nat} {fa a : Addr} {fd : FuncData} {x : Str} {sp : Sp} {s₁ : Shared} {vs : List Value} {ns : List Int}
    (KX : K.In s₁.heap) (hns : s₁.heap.Ns mainGlobals mg) (hb : s₁.heap.Ns builtinsNs mb) (hbb : ∀ x : Str, x ≠ "__name__" → mb x = bootBuiltins x) (hlim : s₁.heap.NoLimit) (hg : s₁.gens = #[])
    (ha : s₁.heap.get? a = some { cls := .type "list", data := .seq vs.toArray }) (hi : IntsAre vs ns) (hl : ns.length ≤ sizeLine) (hr : dF k callerA)
    (F : ∀ base : Heap, K.In base → base.Ns mainGlobals mg → mU P w K mg base CX k fa fd [x] sp) (hbind : ∀ (s : Shared) (u : Value), BindsTo s fd ⟨[u], []⟩ [(x, u)])
    (hsp : ∀ H : Hp, Only H → SqL K H a (ns.map V.int) → sp [.ref a] H (fun v _ => v = .bl true) fun _ _ _ => False)
    (hCX : ∀ H e s', CX [] H s₁ (fun _ _ _ => False) e s' → False) :
    codeAny (model P w) callerA (.call (.ref fa) ⟨[.ref a], []⟩) (fun r s' => r = .ok (.ret (.bool true)) ∧ OldK s₁.heap s'.heap ∧ s'.os = s₁.os ∧ AllBare s'.gens) s₁ := by
  have rv := vX hi
  have lenV := hi.length
  have core : ∀ H : Hp, Only H → SqL K H a (ns.map V.int) → HOk P w H s₁.heap → (∀ b, H b ≠ none → b = a) → (H a ≠ none → K.lookup a = none) →
      codeAny (model P w) callerA (.call (.ref fa) ⟨[.ref a], []⟩) (fun r s' => r = .ok (.ret (.bool true)) ∧ OldK s₁.heap s'.heap ∧ s'.os = s₁.os ∧ AllBare s'.gens) s₁ := by
    intro H hO hS hok hA hK
    have base_of : ∀ {b : Addr} {o : Obj}, s₁.heap.get? b = some o → H b = none → (oW s₁.heap H).get? b = some o := fun e n => Ha e n
    have noA : ∀ {b : Addr} {o : Obj} {es : Array DictEntry} {ep : Nat}, s₁.heap.get? b = some o → o.data = .dict es ep → H b = none := fun {b o es ep} e d => by
      cases q : H b with
      | none => rfl
      | some u =>
        have e' : b = a := hA b (by rw [q]; simp)
        subst e'
        rw [ha] at e; cases e
        have d' : Data.seq vs.toArray _ = Data.dict es ep := d
        cases d'
    have nsK : ∀ {b : Addr} {m : Str → Option Value}, s₁.heap.Ns b m → (oW s₁.heap H).Ns b m := fun {b m} ⟨o, es, ep, e, d, r⟩ => ⟨o, es, ep, base_of e (noA e d), d, r⟩
    have hKb : K.In (oW s₁.heap H) := fun b o e => base_of (KX b o e) (by
      cases q : H b with
      | none => rfl
      | some u =>
        have e' : b = a := hA b (by rw [q]; simp)
        subst e'
        rw [hK (by rw [q]; simp)] at e; cases e)
    have hM : Mod K mg (oW s₁.heap H) := ⟨hKb, nsK hns, ⟨mb, nsK hb, hbb⟩, let ⟨mc, h1, h2⟩ := hlim; ⟨mc, nsK h1, h2⟩⟩
    have e0 : Ck P w K mg (oW s₁.heap H) callerA [] s₁ H := ⟨rfl, hM, fun b o e => JK e, Nat.le_of_eq (DX _ _), trivial, fun b hb => absurd (show b ∈ ([] : List Addr) from hb) (by simp), hok, .of_eq hg⟩
    refine codeAny_mono ((F _ hKb (nsK hns)).run callerA [] s₁ H ⟨[.ref a], []⟩ [.ref a] [.ref a] _ _ hr e0 (hbind s₁ (.ref a)) (.cons rfl .nil) (hsp H hO hS)) fun r s' h => ?_
    cases r with
    | error e => exact (hCX H e s' h).elim
    | ok fl =>
      cases fl with
      | next => exact False.elim h
      | brk => exact False.elim h
      | cont => exact False.elim h
      | ret u =>
        obtain ⟨v, H', os, bare, un, hok', r', q⟩ := h
        have q' : v = .bl true := q
        subst q'
        obtain rfl : u = Value.bool true := r'
        refine ⟨rfl, OldK.of_keep fun b o e => ?_, os, bare⟩
        cases q : H b with
        | none => exact un.keep b o e q (by intro z; exact absurd (show b ∈ ([] : List Addr) from z) (by simp)) (by simp)
        | some u =>
          rcases hO b with z | ⟨ob, xs, z⟩
          · rw [q] at z; cases z
          · have z2 := un.frzs b ob _ z
            obtain ⟨e1, _⟩ := hok b _ z
            obtain ⟨e2, _⟩ := hok' b _ z2
            rw [e] at e1; cases e1
            exact e2
  cases hk : K.lookup a with
  | some o =>
    have e := KX a o hk
    rw [ha] at e
    cases e
    refine core (fun _ => none) (fun _ => .inl rfl) (.inr ⟨_, vs.toArray, _, hk, rfl, rfl, rfl, by rw [List.size_toArray, lenV]; exact hl, by simpa using rv⟩) (fun b u z => by have z' : (none : Option HO) = some u := z; cases z') (fun b z => absurd rfl z) fun z => absurd rfl z
  | none =>
    refine core (fun b => if b = a then some (.frz { cls := .type "list", data := .seq vs.toArray } (.lst (ns.map V.int))) else none) (fun b => ?_) (.inl (.inr ⟨{ cls := .type "list", data := .seq vs.toArray }, if_pos rfl⟩)) (fun b u z => ?_) (fun b z => ?_) fun _ => hk
    · by_cases hb : b = a
      · exact .inr ⟨_, _, if_pos hb⟩
      · exact .inl (if_neg hb)
    · by_cases hb : b = a
      · have z' := (if_pos hb).symm.trans z
        cases z'
        subst hb
        exact ⟨ha, by rw [List.length_map]; exact hl, vs, _, rv, ha⟩
      · have z' := (if_neg hb).symm.trans z
        cases z'
    · by_cases hb : b = a
      · exact hb
      · exact absurd (if_neg hb) z
end L2
namespace L2
open PySem PySem.Spec PyProof.Rows
theorem Ls {l : PySem.W.OpenLaw} {n k : Nat} {q : Program} {loose : List Str} {XP : (Str → Option Value) → Heap → Prop} {YP : World → Heap → Prop} {d : DefRec} {K : Params → PySem.W.Frag} {CX : World → CXT} {sp : World → Sp} {x : Str}
    (hn : l.most = some n) (hn2 : n ≤ sizeLine) (hdf : d.params.defaults = []) (hr : dF k callerA)
    (hY : ∀ (w : World) (h : Heap), YP w h → (K w.params).In h)
    (F : ∀ (w : World) (mg : Str → Option Value) (fa : Addr) (h : Heap), (K w.params).In h → h.Ns mainGlobals mg → mg d.name = some (.ref fa) →
      ∃ fd : FuncData, (∀ (s : Shared) (u : Value), BindsTo s fd ⟨[u], []⟩ [(x, u)]) ∧
        ∀ base : Heap, (K w.params).In base → base.Ns mainGlobals mg → mU l.prog w (K w.params) mg base (CX w) k fa fd [x] (sp w))
    (hsp : ∀ (w : World) (H : Hp) (a : Addr) (ns : List Int), ns.length ≤ n → Only H → SqL (K w.params) H a (ns.map V.int) → sp w [.ref a] H (fun v _ => v = .bl true) fun _ _ _ => False)
    (hCX : ∀ (w : World) (H : Hp) (s : Shared) (e : Value) (s' : Shared), CX w [] H s (fun _ _ _ => False) e s' → False) :
    PySem.W.WalkO q loose XP YP l.row.toRowW d [] (fun f vs => PySem.call f vs) := by
  refine Att.zx hn hdf fun w s₀ s₁ mg mb fa o pm cd doc a vs ns G Y ho hd hcd hmg hobj hints hlen hg => ?_
  have KX := hY w _ Y
  obtain ⟨fd, hb, hF⟩ := F w mg fa _ KX G.T.g hmg
  exact Jf KX G.T.g G.T.b G.T.builtins G.T.nolimit hg hobj hints (Nat.le_trans hlen hn2) hr hF hb (fun H hO hS => hsp w H a ns hlen hO hS) fun H e s' => hCX w H s₁ e s'
end L2
namespace L2
open PySem PySem.Spec PyProof.Rows
noncomputable def aM (s : Stmt) : Arguments := match s with
  | .FunctionDef _ a _ _ _ _ _ _ _ _ => a
  | _ => { posonlyargs := [], args := [], vararg := none, kwonlyargs := [], kw_defaults := [], kwarg := none, defaults := [] }
noncomputable def aK (s : Stmt) : List Stmt := match s with
  | .FunctionDef _ _ b _ _ _ _ _ _ _ => b
  | _ => []
noncomputable def au (s : Stmt) : Scope := match s with
  | .FunctionDef _ _ _ _ _ _ sc _ _ _ => sc
  | _ => { kind := .function, names := [], isGenerator := false, isCoroutine := false }
noncomputable abbrev CX0 : CXT := fun _ _ _ _ _ _ => False
noncomputable abbrev E0 : XK := fun _ _ _ => False
theorem Q0 {X : Cx} : Passes CX0 X E0 := fun _ _ _ _ _ _ _ h => h.elim
structure Fun (K : PySem.W.Frag) (x qual : Str) (st : Stmt) (f : Addr) (fd : FuncData) : Prop where
  ex : ∃ (oc : Value) (od : Option Addr) (kV doc pm : Value) (an : Option Addr) (cdv ct : Value) (osl : Array (Option Value)),
    fd = PySem.W.fnOf x qual (aM st) (aK st) (au st) .none kV doc pm an cdv ct ∧ K.lookup f = some ⟨oc, od, .func fd, osl⟩ ∧ PySem.W.codeIn K cdv qual = true
  kp : PySem.W.keepIn K (.ref f) = true
section
variable {P : Program} {w : World} {K : PySem.W.Frag} {mg : Str → Option Value} {base : Heap}
theorem Fun.ok {x qual : Str} {st : Stmt} {f : Addr} {fd : FuncData} {N ps : List Str} {k : Nat} {sp : Sp} (F : Fun K x qual st f fd) (S : aV N ps (au st)) (len : ∀ vs H Q E, sp vs H Q E → vs.length = ps.length)
    (hbody : ∀ (cdv : Value) (A : Around) (outer : List Env) (s : Shared) (H : Hp) (vs : List V) (Q : VK) (E : XK), dF k (A.deeper (envOfC qual (au st) s.heap.objs.size f cdv)) → sp vs H Q E →
      ∃ t, PSs (nQ CX0 P w K mg base N qual (au st) f cdv A outer s H E).nox (aK st) t ∧ t { nx := fun _ H' => Q .non H', rt := Q } (start N vs) H) : mU P w K mg base CX0 (k + 1) f fd ps sp := by
  obtain ⟨oc, od, kV, doc, pm, an, cdv, ct, osl, rfl, lk, hcd⟩ := F.ex
  refine Qt lk hcd S len fun A outer s H vs Q E hr hsp => ?_
  obtain ⟨t, h, q⟩ := hbody cdv A outer s H vs Q E hr hsp
  exact ⟨t, h.nox, q⟩
theorem Fun.binds {x qual : Str} {st : Stmt} {f : Addr} {fd : FuncData} {ps : List Str} (F : Fun K x qual st f fd)
    (h : ∀ (kV doc pm : Value) (an : Option Addr) (cdv ct : Value) (us : List Value), us.length = ps.length → bindArgs (PySem.W.fnOf x qual (aM st) (aK st) (au st) .none kV doc pm an cdv ct) ⟨us, []⟩ = pure (ps.zip us)) : Binds K fd ps [] := by
  obtain ⟨oc, od, kV, doc, pm, an, cdv, ct, osl, rfl, lk, hcd⟩ := F.ex
  exact .all (h kV doc pm an cdv ct)
theorem xG {x qual : Str} {st : Stmt} {f : Addr} {oc : Value} {od an : Option Addr} {osl : Array (Option Value)} {kV doc pm cdv ct : Value} (l : K.lookup f = some ⟨oc, od, .func (PySem.W.fnOf x qual (aM st) (aK st) (au st) .none kV doc pm an cdv ct), osl⟩)
    (c : PySem.W.codeIn K cdv qual = true) (k : PySem.W.keepIn K (.ref f) = true) : Fun K x qual st f (PySem.W.fnOf x qual (aM st) (aK st) (au st) .none kV doc pm an cdv ct) := ⟨⟨oc, od, kV, doc, pm, an, cdv, ct, osl, rfl, l, c⟩, k⟩
end
section
variable {X : Cx}
end
theorem u0 {A B : Prop} (h : B) : if false = true then A else B := by
  rw [if_neg Bool.false_ne_true]
  exact h
theorem vd {A B : Prop} (h : A) : if true = true then A else B := by
  rw [if_pos rfl]
  exact h
noncomputable def aH (H H' : Hp) : Prop := ∀ b o, H b = some o → H' b = some o
theorem aH.refl (H : Hp) : aH H H := fun _ _ h => h
theorem aH.trans {H H1 H2 : Hp} (a : aH H H1) (b : aH H1 H2) : aH H H2 := fun c o h => b c o (a c o h)
theorem aH.free {H H' : Hp} (e : aH H H') {l : Addr} (h : H' l = Option.none) : H l = Option.none := by
  cases q : H l with
  | none => rfl
  | some o =>
    rw [e l o q] at h
    cases h
theorem aH.seq {K : PySem.W.Frag} {H H' : Hp} {a : Addr} {xs : List V} (e : aH H H') (h : SqL K H a xs) : SqL K H' a xs := by
  rcases h with (h | ⟨o, h⟩) | h
  · exact .inl (.inl (e _ _ h))
  · exact .inl (.inr ⟨o, e _ _ h⟩)
  · exact .inr h
end L2
set_option maxHeartbeats 4000000
namespace L2
open PySem PySem.Spec PyProof.Rows
noncomputable def Cx.comp (X : Cx) (scope : Scope) (tn : List Str) (ix : List Nat) (cl : List (Str × Addr)) (C : Addr) (s₂ : Shared) (H₂ : Hp) (fp : List Addr) : Cx where
  prog := X.prog
  w := X.w
  K := X.K
  mg := X.mg
  base := X.base
  A := X.A
  N := tn ++ ix.map fun i => X.N.getD i Str.empty
  s₀ := s₂
  H₀ := H₂
  env := compEnvC scope cl C X.env
  outer := X.stack
  stack := X.stack
  ex := fp
  fn := fun x => scope.names.lookup x == some .cell
  calm := X.calm
  pn := []
  xe := fun _ _ => False
noncomputable def oF (tn : List Str) (ix : List Nat) (σ : St) : St := List.replicate tn.length none ++ ix.map fun i => (σ[i]?).join
noncomputable def mZ (X : Cx) (ifs : List Expr) (t : TT) : Prop :=
  ∀ (pins : List (Addr × Obj)) (s : Shared) (σ : St) (H : Hp) (Q : Bool → Hp → Prop), Inv X pins σ H s → t σ H Q →
    wpAny (model X.prog X.w) X.A (forIn ifs true fun c r => if r = true then do let ok ← isTrue c X.env (eval c X.env); pure (ForInStep.yield ok) else pure (ForInStep.yield r)) (TP X pins σ Q) X.xe s
noncomputable def R4 : TT := fun _ H Q => Q true H
theorem Jo {X : Cx} : mZ X [] R4 := fun _ _ _ H _ I h => wpAny_tests_nil ⟨H, I, h⟩
theorem GR {X : Cx} {c : Expr} {t : TT} (h : PT X c t) : mZ X [c] t := fun pins s σ H Q I q => wpAny_tests_one (h pins s σ H Q I q)
noncomputable def Qh (tn : List Str) (ix : List Nat) (g : TG) (tt : TT) (te : TE) (σ : St) (Q : VK) (J : It) (H1 : Hp) : Prop := ∀ D, H1 D = none →
  ∃ W : Nat → Nat → St → List V → Hp → Prop, (∃ m, W 0 m (oF tn ix σ) [] (upd H1 D (.lst []))) ∧ ∀ i m σb acc H2, W i m σb acc H2 → H2 D = some (.lst acc) ∧
    ((J.stop i H2 ∧ Q (.ref D) H2) ∨ (J.go i H2 ∧ acc.length < sizeLine ∧ ∀ x H3, J.yld i H2 x H3 → g x σb H3 fun σ4 H4 => tt σ4 H4 fun b H5 =>
      if b = true then te σ4 H5 fun v H6 => H6 D = some (.lst acc) ∧ ∃ m', m' < m ∧ W (i + 1) m' σ4 (acc ++ [v]) (upd H6 D (.lst (acc ++ [v]))) else ∃ m', m' < m ∧ W (i + 1) m' σ4 acc H5))
noncomputable def wM (tn : List Str) (ix : List Nat) (wi : TI) (g : TG) (tt : TT) (te : TE) : TE := fun σ H Q => wi σ H (Qh tn ix g tt te σ Q)
theorem wK {scope : Scope} {env : Env} (h : ∀ x ∈ scope.names, x.2 = .free → ∃ c, env.cells.lookup x.1 = some c) :
    ∃ cl, closureFor scope env = pure cl ∧ (∀ x c, cl.lookup x = some c → env.cells.lookup x = some c) ∧ ∀ x ∈ scope.names, x.2 = .free → ∃ c, cl.lookup x.1 = some c := by
  have all : ∀ (l : List (Str × NameKind)) (acc : List (Str × Addr)), (∀ x ∈ l, x.2 = .free → ∃ c, env.cells.lookup x.1 = some c) → (∀ x c, acc.lookup x = some c → env.cells.lookup x = some c) →
      ∃ cl, (forIn l acc fun (x : Str × NameKind) (r : List (Str × Addr)) => (if (x.2 == NameKind.free) = true then (do let a ← cellOf env x.1; pure (ForInStep.yield ((x.1, a) :: r))) else pure (ForInStep.yield r) : Sem (ForInStep (List (Str × Addr))))) = pure cl ∧
        (∀ x c, cl.lookup x = some c → env.cells.lookup x = some c) ∧ (∀ x ∈ l, x.2 = .free → ∃ c, cl.lookup x.1 = some c) ∧ ∀ x, (∃ c, acc.lookup x = some c) → ∃ c, cl.lookup x = some c := by
    intro l
    induction l with
    | nil => intro acc _ ha; exact ⟨acc, rfl, ha, fun x hx => absurd hx (by simp), fun x hx => hx⟩
    | cons y r ih =>
      intro acc hl ha
      obtain ⟨n, k⟩ := y
      by_cases hk : k = .free
      · subst hk
        obtain ⟨c, hc⟩ := hl (n, .free) (by simp) rfl
        have ha' : ∀ x c', List.lookup x ((n, c) :: acc) = some c' → env.cells.lookup x = some c' := fun x c' e => by
          rw [List.lookup_cons] at e
          cases hx : x == n with
          | true =>
            rw [hx] at e
            have e1 : x = n := beq_iff_eq.mp hx
            cases e
            rw [e1]
            exact hc
          | false => rw [hx] at e; exact ha x c' e
        obtain ⟨cl, e1, e2, e3, e4⟩ := ih ((n, c) :: acc) (fun x hx => hl x (List.mem_cons_of_mem _ hx)) ha'
        have ec : cellOf env n = pure c := by unfold cellOf; rw [hc]
        refine ⟨cl, ?_, e2, fun x hx hf => ?_, fun x ⟨c', hc'⟩ => ?_⟩
        · rw [List.forIn_cons]
          simp only [ec, beq_self_eq_true, if_true, pure_bind]
          exact e1
        · rcases List.mem_cons.mp hx with rfl | hx
          · exact e4 n ⟨c, by simp⟩
          · exact e3 x hx hf
        · refine e4 x ?_
          rw [List.lookup_cons]
          cases x == n with
          | true => exact ⟨c, rfl⟩
          | false => exact ⟨c', hc'⟩
      · have hb : (k == NameKind.free) = false := by simpa using hk
        obtain ⟨cl, e1, e2, e3, e4⟩ := ih acc (fun x hx => hl x (List.mem_cons_of_mem _ hx)) ha
        refine ⟨cl, ?_, e2, fun x hx hf => ?_, e4⟩
        · rw [List.forIn_cons]
          simp only [hb, Bool.false_eq_true, if_false, pure_bind]
          exact e1
        · rcases List.mem_cons.mp hx with rfl | hx
          · exact absurd hf hk
          · exact e3 x hx hf
  obtain ⟨cl, e1, e2, e3, _⟩ := all scope.names [] h (fun x c e => by simp at e)
  refine ⟨cl, ?_, e2, e3⟩
  unfold closureFor
  refine Eq.trans (b := forIn scope.names ([] : List (Str × Addr)) _ >>= pure) rfl ?_
  have e0 := congrArg (· >>= (pure : List (Str × Addr) → Sem (List (Str × Addr)))) e1
  first
    | (simp only [pure_bind] at e0; exact e0)
    | exact e0.trans (pure_bind _ _)
theorem jT {env : Env} : ∀ {names : List (Str × NameKind)} {x : Str}, names.lookup x = some .free →
    (names.map fun (n, k) => if (k == NameKind.free && env.scope.kind == .function && env.kindOf n == some .cell) then (n, NameKind.cell) else (n, k)).lookup x = some .cell ∨
    (names.map fun (n, k) => if (k == NameKind.free && env.scope.kind == .function && env.kindOf n == some .cell) then (n, NameKind.cell) else (n, k)).lookup x = some .free
  | [], _, h => by simp at h
  | (n, k) :: r, x, h => by
    have ih := @jT env r x
    show List.lookup x ((if (k == NameKind.free && env.scope.kind == .function && env.kindOf n == some .cell) = true then (n, NameKind.cell) else (n, k)) :: _) = _ ∨ List.lookup x ((if (k == NameKind.free && env.scope.kind == .function && env.kindOf n == some .cell) = true then (n, NameKind.cell) else (n, k)) :: _) = _
    cases hx : x == n with
    | true =>
      simp only [List.lookup_cons, hx] at h
      cases h
      by_cases hc : (NameKind.free == NameKind.free && env.scope.kind == .function && env.kindOf n == some .cell) = true
      · rw [if_pos hc]; exact .inl (by simp [List.lookup_cons, hx])
      · rw [if_neg hc]; exact .inr (by simp [List.lookup_cons, hx])
    | false =>
      simp only [List.lookup_cons, hx] at h
      by_cases hc : (k == NameKind.free && env.scope.kind == .function && env.kindOf n == some .cell) = true
      · rw [if_pos hc]; simp only [List.lookup_cons, hx]; exact ih h
      · rw [if_neg hc]; simp only [List.lookup_cons, hx]; exact ih h
noncomputable def fZ (X : Cx) (scope : Scope) (ix : List Nat) : Bool :=
  scope.kind == .function && scope.names.all (fun y => scope.names.lookup y.1 == some y.2 && (y.2 != .free || (X.env.scope.names.lookup y.1 == some .cell || X.env.scope.names.lookup y.1 == some .free)) && (y.2 != .local || scope.names.lookup y.1 == some .local)) &&
  ix.all fun i => match X.N[i]? with
    | some x => scope.names.lookup x == some .free
    | none => false
structure yG (X : Cx) (scope : Scope) (ix : List Nat) : Prop where
  kind : scope.kind = .function
  one : ∀ y ∈ scope.names, scope.names.lookup y.1 = some y.2
  free : ∀ y ∈ scope.names, y.2 = .free → X.env.scope.names.lookup y.1 = some .cell ∨ X.env.scope.names.lookup y.1 = some .free
  loc : ∀ y ∈ scope.names, y.2 = .local → scope.names.lookup y.1 = some .local
  ix : ∀ i ∈ ix, ∃ x, X.N[i]? = some x ∧ scope.names.lookup x = some .free
theorem fZ.of {X : Cx} {scope : Scope} {ix : List Nat} (h : fZ X scope ix = true) : yG X scope ix := by
  unfold fZ at h
  rw [Bool.and_eq_true, Bool.and_eq_true] at h
  obtain ⟨⟨h1, h2⟩, h3⟩ := h
  rw [List.all_eq_true] at h2 h3
  have g : ∀ y ∈ scope.names, (scope.names.lookup y.1 = some y.2 ∧ (y.2 = .free → X.env.scope.names.lookup y.1 = some .cell ∨ X.env.scope.names.lookup y.1 = some .free)) ∧ (y.2 = .local → scope.names.lookup y.1 = some .local) := fun y hy => by
    have q := h2 y hy
    rw [Bool.and_eq_true, Bool.and_eq_true, Bool.or_eq_true, Bool.or_eq_true, Bool.or_eq_true] at q
    obtain ⟨⟨q1, q2⟩, q3⟩ := q
    refine ⟨⟨by simpa using q1, fun e => ?_⟩, fun e => ?_⟩
    · rcases q2 with q2 | q2 | q2
      · exact absurd e (by simpa using q2)
      · exact .inl (by simpa using q2)
      · exact .inr (by simpa using q2)
    · rcases q3 with q3 | q3
      · exact absurd e (by simpa using q3)
      · simpa using q3
  refine ⟨by simpa using h1, fun y hy => (g y hy).1.1, fun y hy => (g y hy).1.2, fun y hy => (g y hy).2, fun i hi => ?_⟩
  have q := h3 i hi
  cases e : X.N[i]? with
  | none => rw [e] at q; cases q
  | some x => rw [e] at q; exact ⟨x, rfl, by simpa using q⟩
section
variable {X : Cx} {pins : List (Addr × Obj)} {σ : St} {H : Hp} {s : Shared} {scope : Scope} {tn : List Str} {ix : List Nat} {cl : List (Str × Addr)} {C D : Addr} {fp : List Addr} {h₁ : Heap} {tk : Nat}
theorem Inv.block (S : yG X scope ix) (I : Inv X pins σ H s) (hcl0 : ∀ x c, cl.lookup x = some c → (X.env.cells.lookup x = some c ∧ scope.names.lookup x ≠ some .cell) ∨ (scope.names.lookup x = some .cell ∧ s.heap.objs.size ≤ c ∧ c ≠ D ∧ h₁.IsCell c none))
    (hinj : ∀ x y c, cl.lookup x = some c → cl.lookup y = some c → scope.names.lookup x = some .cell → scope.names.lookup y = some .cell → x = y) (hcl3 : ∀ x, scope.names.lookup x = some .cell → ∃ c, cl.lookup x = some c) (hcl2 : ∀ x ∈ scope.names, x.2 = .free → ∃ c, cl.lookup x.1 = some c)
    (hfp : ∀ b ∈ fp, mR X pins H b) (hfo : ∀ b ∈ fp, ∃ o, s.heap.get? b = some o) (old : ∀ b o, s.heap.get? b = some o → h₁.get? b = some o) (hD : s.heap.objs.size ≤ D) (hC : s.heap.objs.size ≤ C) (hDC : D ≠ C)
    (hd : h₁.get? D = some { cls := .type "list", data := .seq ([] : List Value).toArray }) (hn : ∃ m, h₁.Ns C m) :
    Inv (X.comp scope tn ix cl C s H fp) [] (oF tn ix σ) (upd H D (.lst [])) { s with heap := h₁, toks := tk } := by
  have frD : H D = none := I.hok.fresh hD
  have frC : H C = none := I.hok.fresh hC
  have lt_of : ∀ x c, X.env.cells.lookup x = some c → c < s.heap.objs.size := fun x c e => by
    obtain ⟨v, q⟩ := I.cell x c e
    exact q.lt
  have hcl : ∀ x c, scope.names.lookup x = some .free → cl.lookup x = some c → X.env.cells.lookup x = some c := fun x c hx e => by
    rcases hcl0 x c e with z | z
    · exact z.1
    · rw [hx] at z; cases z.1
  have ok : (X.comp scope tn ix cl C s H fp).Ok := by
    refine ⟨I.ok.mod, S.kind, I.ok.glob, I.ok.blt, hC, fun x y c h1 h2 => ?_, fun x hx => ?_, fun x c h e => ?_, I.ok.hd, I.ok.frames, .inl rfl, fun b hb => ⟨?_, fun x c e => ?_⟩, I.bs,
      Nat.le_trans I.ok.bsz I.sz, fun b o e hb => ?_, fun b hb hf => ?_, I.stack, I.Bh⟩
    · rcases hcl0 x c h1 with z1 | z1 <;> rcases hcl0 y c h2 with z2 | z2
      · exact I.ok.inj x y c z1.1 z2.1
      · exact absurd (lt_of x c z1.1) (Nat.not_lt.mpr z2.2.1)
      · exact absurd (lt_of y c z2.1) (Nat.not_lt.mpr z1.2.1)
      · exact hinj x y c h1 h2 z1.1 z2.1
    · -- a cell or a free name of the block has its cell
      have hx' : (scope.names.map fun (n, k) => if (k == NameKind.free && X.env.scope.kind == .function && X.env.kindOf n == some .cell) then (n, NameKind.cell) else (n, k)).lookup x = some .cell ∨
          (scope.names.map fun (n, k) => if (k == NameKind.free && X.env.scope.kind == .function && X.env.kindOf n == some .cell) then (n, NameKind.cell) else (n, k)).lookup x = some .free := hx
      have hm : ∃ k, (x, k) ∈ (scope.names.map fun (n, k) => if (k == NameKind.free && X.env.scope.kind == .function && X.env.kindOf n == some .cell) then (n, NameKind.cell) else (n, k)) ∧ (k = .cell ∨ k = .free) := by
        rcases hx' with h | h
        · exact ⟨_, PySem.mem_of_lookup h, .inl rfl⟩
        · exact ⟨_, PySem.mem_of_lookup h, .inr rfl⟩
      obtain ⟨k, hm, hk⟩ := hm
      obtain ⟨⟨n, k'⟩, hy, e⟩ := List.mem_map.mp hm
      dsimp only at e
      by_cases hc : (k' == NameKind.free && X.env.scope.kind == .function && X.env.kindOf n == some .cell) = true
      · rw [if_pos hc] at e
        cases e
        rw [Bool.and_eq_true, Bool.and_eq_true] at hc
        exact hcl2 _ hy (by simpa using hc.1.1)
      · rw [if_neg hc] at e
        cases e
        rcases hk with hk | hk
        · exact hcl3 _ (by rw [← hk]; exact S.one _ hy)
        · exact hcl2 _ hy hk
    · rcases hcl0 x c e with z | z
      · have h : (scope.names.lookup x == some NameKind.cell) = true := h
        exact absurd (by simpa using h) z.2
      · exact z.2.1
    · intro z
      obtain ⟨o, e⟩ := hfo b hb
      exact absurd (Nat.lt_of_lt_of_le (Heap.lt_size e) (by show s.heap.objs.size ≤ b; rw [z]; exact hC)) (Nat.lt_irrefl _)
    · rcases hcl0 x c e with z | z
      · exact (hfp b hb).2.2.2.2.1 x c z.1
      · intro y
        obtain ⟨o, e'⟩ := hfo b hb
        have q := Heap.lt_size e'
        rw [← y] at q
        exact absurd q (Nat.not_lt.mpr z.2.1)
    · rcases (hfp b hb).2.2.2.1 with z | z
      · exact I.ok.noex b o e z
      · exact absurd (Nat.lt_of_lt_of_le (Heap.lt_size (I.ok.bs b o e).1) z) (Nat.lt_irrefl _)
    · rcases List.mem_cons.mp (I.tO b hf) with z | z
      · exact (hfp b hb).2.1 z
      · exact (hfp b hb).2.2.1 z
  refine ⟨ok, rfl, I.bare, Un.laid old hD frD, ?_, fun x c e => ?_, ?_, fun x c e => ?_, fun p hp => absurd (show p ∈ ([] : List (Addr × Obj)) from hp) (by simp), ?_, ?_⟩
  · obtain ⟨m, hn⟩ := hn
    refine ⟨m, hn, fun i x v e1 e2 e3 => ?_⟩
    have hi : tn.length ≤ i := by
      rcases Nat.lt_or_ge i tn.length with hi | hi
      · have e2' : (List.replicate tn.length none ++ ix.map fun i => (σ[i]?).join)[i]? = some (some v) := e2
        rw [List.getElem?_append_left (by simpa using hi), List.getElem?_replicate, if_pos hi] at e2'
        cases e2'
      · exact hi
    have e1' : (tn ++ ix.map fun i => X.N.getD i Str.empty)[i]? = some x := e1
    have e2' : (List.replicate tn.length none ++ ix.map fun i => (σ[i]?).join)[i]? = some (some v) := e2
    rw [List.getElem?_append_right hi, List.getElem?_map] at e1'
    rw [List.getElem?_append_right (by simpa using hi), List.getElem?_map, List.length_replicate] at e2'
    cases ek : ix[i - tn.length]? with
    | none => rw [ek] at e1'; cases e1'
    | some k =>
      rw [ek] at e1' e2'
      have e1'' : X.N.getD k Str.empty = x := Option.some.inj e1'
      have e2'' : (σ[k]?).join = some v := Option.some.inj e2'
      have e2s : σ[k]? = some (some v) := by
        cases q : σ[k]? with
        | none => rw [q] at e2''; cases e2''
        | some o => rw [q] at e2''; have : o = some v := e2''; rw [this]
      obtain ⟨x', hx', hfx⟩ := S.ix k (List.mem_of_getElem? ek)
      have exx : x' = x := by
        rw [← e1'', List.getD_eq_getElem?_getD, hx']
        rfl
      subst exx
      have hfr := S.free _ (PySem.mem_of_lookup hfx) rfl
      obtain ⟨m0, hn0, hl0⟩ := I.loc
      obtain ⟨u, ru, lk⟩ := hl0 k x' v hx' e2s (.inr hfr)
      refine ⟨u, ru, ?_⟩
      rcases lk with ⟨kl, _⟩ | ⟨kc, c, ec, ic⟩
      · exfalso
        have kl' : X.env.scope.names.lookup x' = some .local := kl
        rcases hfr with z | z <;> rw [z] at kl' <;> cases kl'
      · obtain ⟨c', ec'⟩ := hcl2 _ (PySem.mem_of_lookup hfx) rfl
        have ecc : c' = c := by
          have q := hcl x' c' hfx ec'
          rw [ec] at q
          exact (Option.some.inj q).symm
        subst ecc
        refine .inr ⟨jT hfx, c', ec', ?_⟩
        obtain ⟨o, ho, hdat⟩ := ic
        exact ⟨o, old _ _ ho, hdat⟩
  · rcases hcl0 x c e with z | z
    · obtain ⟨v, o, ho, hdat⟩ := I.cell x c z.1
      exact ⟨v, o, old _ _ ho, hdat⟩
    · exact ⟨_, z.2.2.2⟩
  · show upd H D (.lst []) C = none
    rw [bw (Ne.symm hDC)]
    exact frC
  · show upd H D (.lst []) c = none
    rcases hcl0 x c e with z | z
    · rw [bw (Nat.ne_of_lt (Nat.lt_of_lt_of_le (lt_of x c z.1) hD))]
      exact I.freeC x c z.1
    · rw [bw z.2.2.1]
      exact I.hok.fresh z.2.1
  · exact I.hok.laid old hD ⟨Nat.zero_le _, [], 0, .nil, hd⟩
  · show (oF tn ix σ).length = (tn ++ ix.map fun i => X.N.getD i Str.empty).length
    unfold oF
    rw [List.length_append, List.length_append, List.length_replicate, List.length_map, List.length_map]
end
end L2
namespace L2
open PySem PySem.Spec PyProof.Rows
theorem yJ {prog : Program} {w : World} {A : Around} {R : Result → Shared → Prop} {s : Shared} {elt target iter : Expr} {ifs : List Expr} {scope : Scope} {pos : Pos} {it acc : Value} {env : Env} (I : Nat → Shared → Prop)
    (turn : ∀ n s, I n s → wpAny (model prog w) A (pyNext it) (fun r s₁ => match r with
      | none => R (.ok .next) s₁
      | some v => wpAny (model prog w) A (letOwnedTupleGo target it v) (fun _ s₁' => wpAny (model prog w) A (assign target env v) (fun _ s₂ =>
          wpAny (model prog w) A (forIn ifs true fun c r => if r = true then do let ok ← isTrue c env (eval c env); pure (ForInStep.yield ok) else pure (ForInStep.yield r)) (fun ok s₃ =>
            if ok = true then wpAny (model prog w) A (eval elt env) (fun x s₄ =>
              wpAny (model prog w) A (call (.builtin "list.append") [acc, x]) (fun _ s₅ => ∃ m, m < n ∧ I m s₅) (fun _ _ => False) s₄) (fun _ _ => False) s₃
            else ∃ m, m < n ∧ I m s₃) (fun _ _ => False) s₂) (fun _ _ => False) s₁') (fun _ _ => False) s₁) (fun _ _ => False) s)
    (n : Nat) (h : I n s) :
    codeAny (model prog w) A (.compLoop (.ListComp elt [⟨target, iter, ifs, 0⟩] scope pos) 0 it acc env) R s := by
  refine codeAny_loop rfl I (fun n s hI => ?_) n h
  show wpAny _ A ((compTurn (.ListComp elt [⟨target, iter, ifs, 0⟩] scope pos) 0 it acc env).onRaise (fun x => do noteFrame x env; theTreesLotGoes x)) _ _ s
  refine wpAny_noted ?_
  rw [compTurn_list]
  refine wpAny_bind (wpAny_standAt (wpAny_bind (wpAny_mono (turn n s hI) (fun r s₁ h₁ => ?_) fun _ _ f => f.elim)))
  cases r with
  | none => exact wpAny_pure h₁
  | some v =>
    refine wpAny_bind (wpAny_mono h₁ (fun _ s₁' h₁' => ?_) fun _ _ f => f.elim)
    refine wpAny_bind (wpAny_mono h₁' (fun _ s₂ h₂ => wpAny_bind (wpAny_mono h₂ (fun ok s₃ h₃ => ?_) fun _ _ f => f.elim)) fun _ _ f => f.elim)
    cases ok with
    | false => exact wpAny_pure ⟨rfl, h₃⟩
    | true =>
      exact wpAny_bind (wpAny_bind (wpAny_mono h₃ (fun x s₄ h₄ => wpAny_bind (wpAny_mono h₄ (fun _ s₅ h₅ => wpAny_pure (wpAny_pure ⟨rfl, h₅⟩)) fun _ _ f => f.elim)) fun _ _ f => f.elim))
section
variable {X : Cx} {pins : List (Addr × Obj)} {σ : St} {H : Hp} {s : Shared} {scope : Scope} {tn : List Str} {ix : List Nat} {elt tg iter : Expr} {ifs : List Expr} {pos : Pos} {wi : TI} {g : TG} {tt : TT} {te : TE} {Q : VK}
theorem qz {c0 : List (Str × Addr)} : ∀ {l : List (Str × NameKind)} {n : Nat} {acc : List (Str × Addr)}, cellsFrom n l (acc ++ c0) = cellsFrom n l acc ++ c0
  | [], n, acc => rfl
  | (y, k) :: l, n, acc => by
    unfold cellsFrom
    by_cases hk : (k == .cell) = true
    · rw [if_pos hk, if_pos hk]
      exact qz (l := l) (n := n + 1) (acc := (y, n) :: acc)
    · rw [if_neg hk, if_neg hk]
      exact qz (l := l)
theorem qD {x : Str} {c : Addr} : ∀ {l : List (Str × NameKind)} {n : Nat} {acc : List (Str × Addr)}, (x, c) ∈ cellsFrom n l acc → (x, c) ∈ acc ∨ (x, NameKind.cell) ∈ l
  | [], n, acc, h => .inl h
  | (y, k) :: l, n, acc, h => by
    unfold cellsFrom at h
    by_cases hk : (k == .cell) = true
    · rw [if_pos hk] at h
      rcases qD (l := l) h with z | z
      · rcases List.mem_cons.mp z with e | z
        · cases e
          exact .inr (by rw [show k = NameKind.cell by simpa using hk]; exact List.mem_cons_self)
        · exact .inl z
      · exact .inr (List.mem_cons_of_mem _ z)
    · rw [if_neg hk] at h
      rcases qD (l := l) h with z | z
      · exact .inl z
      · exact .inr (List.mem_cons_of_mem _ z)
theorem v5 {x y : Str} {c : Addr} : ∀ {cs : List (Str × Addr)}, cs.Pairwise (fun x y => x.2 ≠ y.2) → (x, c) ∈ cs → (y, c) ∈ cs → x = y
  | [], _, h, _ => nomatch h
  | z :: cs, h, h1, h2 => by
    obtain ⟨h3, h4⟩ := List.pairwise_cons.mp h
    rcases List.mem_cons.mp h1 with e1 | e1
    · rcases List.mem_cons.mp h2 with e2 | e2
      · rw [← e1] at e2; cases e2; rfl
      · rw [← e1] at h3; exact (h3 (y, c) e2 rfl).elim
    · rcases List.mem_cons.mp h2 with e2 | e2
      · rw [← e2] at h3; exact (h3 (x, c) e1 rfl).elim
      · exact v5 h4 e1 e2
theorem FN {M : Model} {A : Around} {E : Value → Shared → Prop} {s : Shared} {scope : Scope} {globals : Addr} {cl : List (Str × Addr)} {qual : Str} {env : Env} {Q : Env → Shared → Prop}
    (h : Q (newEnv scope s.heap.objs.size globals (cellsFrom (s.heap.objs.size + 1) scope.names cl) qual none .none (some env) builtinsNs) { s with heap := pushCells (s.heap.push { cls := .type "dict", data := .dict #[] }) scope.names }) :
    wpAny M A (newFunctionEnv scope globals cl [] qual none .none (some env)) Q E s := by
  simp only [newFunctionEnv, Option.isSome_some, if_true]
  refine wpAny_bind (wpAny_alloc (wpAny_bind (wpAny_layCells _ (fun name kind cells => by cases hkc : kind == NameKind.cell <;> simp [hkc]) _ _ _ _ ?_)))
  rw [show ({ s with heap := s.heap.push { cls := .type "dict", data := .dict #[] } } : Shared).heap.objs.size = s.heap.objs.size + 1 from Heap.size_push ..]
  exact wpAny_bind (wpAny_pure (wpAny_pure h))
theorem vO (S : yG X scope ix) (hc : X.calm = true) (hi : PI X tg iter wi)
    (hg : ∀ cl C s₂ H₂ fp, PG (X.comp scope tn ix cl C s₂ H₂ fp) tg g) (ht : ∀ cl C s₂ H₂ fp, mZ (X.comp scope tn ix cl C s₂ H₂ fp) ifs tt) (he : ∀ cl C s₂ H₂ fp, PE (X.comp scope tn ix cl C s₂ H₂ fp) elt te)
    {P : Value → Addr → Result → Shared → Prop} (I : Inv X pins σ H s) (h : wM tn ix wi g tt te σ H Q)
    (hP : ∀ D C s' H', Inv X pins σ H' s' → (∃ m, s'.heap.Ns C m) → mR X pins H' C → Q (.ref D) H' → P (.ref D) C (.ok .next) s') :
    ∃ cl, closureFor scope X.env = pure cl ∧ wpAny (model X.prog X.w) X.A (eval iter X.env) (fun x s₁ => wpAny (model X.prog X.w) X.A (pyIter x) (fun it s₂ => wpAny (model X.prog X.w) X.A (newList []) (fun acc s₃ =>
      wpAny (model X.prog X.w) X.A (newFunctionEnv scope X.env.globals cl [] X.env.qual none .none (some X.env)) (fun cenv s₄ =>
        codeAny (model X.prog X.w) X.A (.compStart (.ListComp elt [⟨tg, iter, ifs, 0⟩] scope pos) 0 it acc { cenv with scope := relabel scope X.env }) (P acc cenv.locals) s₄) X.xe s₃) X.xe s₂) X.xe s₁) X.xe s := by
  obtain ⟨cl, hcl, hc1, hc2⟩ := wK (scope := scope) (env := X.env) fun x hx hf => I.ok.has x.1 (S.free x hx hf)
  refine ⟨cl, hcl, thn (hi pins s σ H _ I h) fun v s1 h1 => thn h1 fun itv s2 h2 => ?_⟩
  obtain ⟨it, fp, tnn, J, H2, e, I2, T, st2, f2, R⟩ := h2
  subst e
  refine wpAny_newObj_type (FN ?_)
  dsimp only
  generalize hHH : s2.heap.push { cls := .type "list", dict := none, data := .seq ([] : List Value).toArray } = HH
  have hCs : HH.objs.size = s2.heap.objs.size + 1 := by rw [← hHH, Heap.size_push]
  have hDC : s2.heap.objs.size ≠ HH.objs.size := by rw [hCs]; exact Nat.ne_of_lt (Nat.lt_succ_self _)
  have hCle : s2.heap.objs.size ≤ HH.objs.size := by rw [hCs]; exact Nat.le_succ _
  have oldH : ∀ b o, HH.get? b = some o → (pushCells (HH.push { cls := .type "dict", data := .dict #[] }) scope.names).get? b = some o := fun b o e => pushCells_keeps _ _ b o (Heap.get?_push_of_some _ e)
  have hns₁ : (pushCells (HH.push { cls := .type "dict", data := .dict #[] }) scope.names).Ns HH.objs.size (fun _ => none) := (Heap.Ns.new HH (.type "dict")).keeps (pushCells_keeps _ _)
  have okc := cellsFrom_ok scope.names (HH.push { cls := .type "dict", data := .dict #[] }) (HH.objs.size + 1) [] ⟨fun _ _ hm => (nomatch hm), List.Pairwise.nil⟩ (by rw [Heap.size_push]; exact Nat.le_refl _)
  rw [Heap.size_push] at okc
  have eCL : cellsFrom (HH.objs.size + 1) scope.names cl = cellsFrom (HH.objs.size + 1) scope.names [] ++ cl := qz (acc := [])
  have spl : ∀ x c, (cellsFrom (HH.objs.size + 1) scope.names cl).lookup x = some c → (scope.names.lookup x = some .cell ∧ (x, c) ∈ cellsFrom (HH.objs.size + 1) scope.names []) ∨ (cl.lookup x = some c ∧ scope.names.lookup x ≠ some .cell) := fun x c e => by
    rw [eCL, List.lookup_append] at e
    cases q : (cellsFrom (HH.objs.size + 1) scope.names []).lookup x with
    | none =>
      rw [q] at e
      refine .inr ⟨e, fun z => ?_⟩
      have := PySem.W.cellsFrom_some scope.names (HH.objs.size + 1) [] (.inl z)
      rw [q] at this
      cases this
    | some d =>
      rw [q] at e
      have e : some d = some c := e
      cases e
      have m := PySem.mem_of_lookup q
      rcases qD m with z | z
      · nomatch z
      · exact .inl ⟨S.one _ z, m⟩
  have has : ∀ x, scope.names.lookup x = some .cell ∨ (cl.lookup x).isSome = true → ∃ c, (cellsFrom (HH.objs.size + 1) scope.names cl).lookup x = some c := fun x z => Option.isSome_iff_exists.mp (PySem.W.cellsFrom_some scope.names (HH.objs.size + 1) cl z)
  generalize hCL : cellsFrom (HH.objs.size + 1) scope.names cl = CL at spl has ⊢
  generalize hh1 : pushCells (HH.push { cls := .type "dict", data := .dict #[] }) scope.names = h₁ at oldH hns₁ okc ⊢
  have old : ∀ b o, s2.heap.get? b = some o → h₁.get? b = some o := fun b o e => oldH b o (hHH ▸ Heap.get?_push_of_some _ e)
  have hacc : h₁.get? s2.heap.objs.size = some { cls := .type "list", data := .seq ([] : List Value).toArray } := oldH _ _ (hHH ▸ Heap.get?_push_size _ rfl)
  have hfo : ∀ b ∈ fp, ∃ o, s2.heap.get? b = some o := fun b hb => let ⟨o, e, _⟩ := T.obj _ _ st2 b hb; ⟨o, e⟩
  obtain ⟨W, ⟨m0, w0⟩, turn⟩ := R s2.heap.objs.size (I2.hok.fresh (Nat.le_refl _))
  have hcl0 : ∀ x c, CL.lookup x = some c → (X.env.cells.lookup x = some c ∧ scope.names.lookup x ≠ some .cell) ∨ (scope.names.lookup x = some .cell ∧ s2.heap.objs.size ≤ c ∧ c ≠ s2.heap.objs.size ∧ h₁.IsCell c none) := fun x c e => by
    rcases spl x c e with ⟨z, m⟩ | ⟨z, m⟩
    · obtain ⟨q1, q2⟩ := okc.empty x c m
      rw [hCs] at q2
      exact .inr ⟨z, by omega, fun y => by rw [y] at q2; omega, q1⟩
    · exact .inl ⟨hc1 x c z, m⟩
  have J0 : Inv (X.comp scope tn ix CL HH.objs.size s2 H2 fp) [] (oF tn ix σ) (upd H2 s2.heap.objs.size (.lst [])) { s2 with heap := h₁, toks := s2.toks } :=
    Inv.block S I2 hcl0 (fun x y c e1 e2 k1 k2 => by
      rcases spl x c e1 with ⟨_, m1⟩ | ⟨_, m1⟩
      · rcases spl y c e2 with ⟨_, m2⟩ | ⟨_, m2⟩
        · exact v5 okc.apart m1 m2
        · exact absurd k2 m2
      · exact absurd k1 m1) (fun x z => has x (.inl z)) (fun x hx hf => by
      obtain ⟨c, e⟩ := hc2 x hx hf
      exact has x.1 (.inr (by rw [e]; rfl))) f2 hfo old (Nat.le_refl _) hCle hDC hacc ⟨_, hns₁⟩
  have stat : ∀ {H' : Hp}, (∀ b ∈ fp, H' b = none) → ∀ b ∈ fp, mR (X.comp scope tn ix CL HH.objs.size s2 H2 fp) [] H' b := fun hn b hb => by
    refine ⟨hn b hb, fun z => ?_, fun z => ?_, .inl hb, fun x c e => ?_, fun p hp => absurd (show p ∈ ([] : List (Addr × Obj)) from hp) (by simp)⟩
    · obtain ⟨o, e⟩ := hfo b hb
      exact absurd (Nat.lt_of_lt_of_le (Heap.lt_size e) (by show s2.heap.objs.size ≤ b; rw [z]; exact hCle)) (Nat.lt_irrefl _)
    · rcases List.mem_cons.mp (I2.tO b z) with z | z
      · exact (f2 b hb).2.1 z
      · exact (f2 b hb).2.2.1 z
    · rcases hcl0 x c e with z | z
      · exact (f2 b hb).2.2.2.2.1 x c z.1
      · intro y
        obtain ⟨o, e'⟩ := hfo b hb
        have q := Heap.lt_size e'
        rw [← y] at q
        exact absurd q (Nat.not_lt.mpr z.2.1)
  have fp0 : ∀ b ∈ fp, upd H2 s2.heap.objs.size (.lst []) b = none := fun b hb => by
    obtain ⟨o, e⟩ := hfo b hb
    rw [bw (Nat.ne_of_lt (Heap.lt_size e))]
    exact (f2 b hb).1
  have st1 : tnn 0 h₁ := T.keep _ _ _ st2 fun b hb o e => old b o e
  have loop : ∀ s₃ : Shared, s₃ = { s2 with heap := h₁, toks := s2.toks } →
      codeAny (model X.prog X.w) X.A (.compLoop (.ListComp elt [⟨tg, iter, ifs, 0⟩] scope pos) 0 (.ref it) (.ref s2.heap.objs.size) (compEnvC scope CL HH.objs.size X.env)) (P (.ref s2.heap.objs.size) HH.objs.size) s₃ := by
    rintro s₃ rfl
    refine yJ (fun n s' => ∃ i σ' acc H', Inv (X.comp scope tn ix CL HH.objs.size s2 H2 fp) [] σ' H' s' ∧ tnn i s'.heap ∧ (∀ b ∈ fp, H' b = none) ∧ W i n σ' acc H') ?_ m0 ⟨0, _, [], _, J0, st1, fp0, w0⟩
    rintro n s3 ⟨i, σ3, acc, H3, I3, st3, fr3, w3⟩
    obtain ⟨hD3, ways⟩ := turn i n σ3 acc H3 w3
    rcases ways with ⟨stop, qn⟩ | ⟨go, hsz, step⟩
    · refine thn (T.done (X.comp scope tn ix CL HH.objs.size s2 H2 fp) rfl rfl rfl hc i [] s3 σ3 H3 _ I3 (stat fr3) st3 stop) fun r s4 hq__ => ?_
      obtain ⟨hr, I4⟩ := hq__
      subst hr
      have I5 : Inv X pins σ H3 s4 := I2.call' I4.os I4.base I4.hok I4.bare fun b hb => ⟨(f2 b hb).2.2.2.1, (f2 b hb).2.1, (f2 b hb).2.2.2.2.1, (f2 b hb).2.2.2.2.2⟩
      obtain ⟨m4, hn4, _⟩ := I4.loc
      exact hP _ _ s4 H3 I5 ⟨m4, hn4⟩ (I2.rY hCle I4.free) qn
    · refine thn (T.item (X.comp scope tn ix CL HH.objs.size s2 H2 fp) rfl rfl rfl hc i [] s3 σ3 H3 _ I3 (stat fr3) st3 go) fun r s4 hq__ => ?_
      obtain ⟨u, hr, h4⟩ := hq__
      subst hr
      refine thn h4 fun _ s5 hq__ => ?_
      obtain ⟨x, H5, I5, r5, y5, st5, fr5⟩ := hq__
      have I5' := I5.pinned (stat fr5) (T.obj _ _ st5)
      have back : ∀ {σ7 : St} {H7 : Hp} {s7 : Shared}, Inv (X.comp scope tn ix CL HH.objs.size s2 H2 fp) ([] ++ qb fp s5.heap) σ7 H7 s7 → Inv (X.comp scope tn ix CL HH.objs.size s2 H2 fp) [] σ7 H7 s7 ∧ tnn (i + 1) s7.heap ∧ ∀ b ∈ fp, H7 b = none := fun {σ7 H7 s7} I7 => by
        refine ⟨I7.pB, T.keep _ _ _ st5 fun b hb o e => (I7.pin (b, o) (List.mem_append_right _ (List.mem_append_right _ (lU hb e)))).1, fun b hb => ?_⟩
        obtain ⟨o, e, d⟩ := T.obj _ _ st5 b hb
        exact (I7.pin (b, o) (List.mem_append_right _ (List.mem_append_right _ (lU hb e)))).2.1
      refine thn (hg CL HH.objs.size s2 H2 fp _ s5 σ3 H5 x u _ I5' r5 (step x H5 y5)) fun _ s6 hq__ => ?_
      obtain ⟨σ6, H6, I6, q6⟩ := hq__
      refine thn (ht CL HH.objs.size s2 H2 fp _ s6 σ6 H6 _ I6 q6) fun ok s7 hq__ => ?_
      obtain ⟨H7, I7, q7⟩ := hq__
      cases ok with
      | false =>
        rw [if_neg Bool.false_ne_true] at q7 ⊢
        obtain ⟨m', hm, w7⟩ := q7
        obtain ⟨b1, b2, b3⟩ := back I7
        exact ⟨m', hm, i + 1, σ6, acc, H7, b1, b2, b3, w7⟩
      | true =>
        rw [if_pos rfl] at q7 ⊢
        refine thn (he CL HH.objs.size s2 H2 fp _ s7 σ6 H7 _ I7 q7) fun xv s8 hq__ => ?_
        obtain ⟨v8, H8, I8, r8, hD8, m', hm, w8⟩ := hq__
        refine thn (vp _ s8 σ6 H8 (.ref s2.heap.objs.size) [v8] (.ref s2.heap.objs.size) [xv] (fun _ H9 => H9 = upd H8 s2.heap.objs.size (.lst (acc ++ [v8]))) I8 rfl (.cons r8 .nil) ⟨_, acc, v8, rfl, rfl, hD8, hsz, rfl⟩) fun _ s9 hq__ => ?_
        obtain ⟨_, H9, I9, _, e9⟩ := hq__
        subst e9
        obtain ⟨b1, b2, b3⟩ := back I9
        exact ⟨m', hm, i + 1, σ6, acc ++ [v8], _, b1, b2, b3, w8⟩
  exact codeAny_compStart_list (loop _ rfl) (T.self X.A 0 _ _ _ st1 (loop _ rfl))
theorem J7 (S : fZ X scope ix = true) (hc : X.calm = true) (hi : PI X tg iter wi)
    (hg : ∀ cl C s₂ H₂ fp, PG (X.comp scope tn ix cl C s₂ H₂ fp) tg g) (ht : ∀ cl C s₂ H₂ fp, mZ (X.comp scope tn ix cl C s₂ H₂ fp) ifs tt) (he : ∀ cl C s₂ H₂ fp, PE (X.comp scope tn ix cl C s₂ H₂ fp) elt te)
    (hs : ∀ x, foldedSetIterable iter X.env x = pure x := by intro _; rfl) : PE X (.ListComp elt [⟨tg, iter, ifs, 0⟩] scope pos) (wM tn ix wi g tt te) := by
  intro pins s σ H Q I h
  obtain ⟨cl, hcl, q⟩ := vO (pos := pos) (P := fun acc C => compPost (model X.prog X.w) X.A X.xe none (EP X pins σ Q) acc C) (fZ.of S) hc hi hg ht he I h fun D C s' H' I' ⟨m, hn⟩ f q => by
    refine ⟨m, hn, fun h' sb => ⟨.ref D, H', ?_, rfl, q⟩⟩
    exact I'.turned (it := C) (t' := s'.toks) (fun b o hb e => sb.extBut b o hb e) f.1 f.2.1 f.2.2.2.1 f.2.2.2.2.1 f.2.2.2.2.2
  rw [eval_ListComp]
  exact wpAny_comprehension_free (use := none) rfl hs hcl (fZ.of S).kind (fZ.of S).loc q
theorem LR {i : Nat} {y : Str} {py spos : Pos} (hN : X.N.Nodup) (hiN : X.N[i]? = some y) (hy : Loc X.env.scope y) (S : fZ X scope ix = true) (hc : X.calm = true) (hi : PI X tg iter wi)
    (hg : ∀ cl C s₂ H₂ fp, PG (X.comp scope tn ix cl C s₂ H₂ fp) tg g) (ht : ∀ cl C s₂ H₂ fp, mZ (X.comp scope tn ix cl C s₂ H₂ fp) ifs tt) (he : ∀ cl C s₂ H₂ fp, PE (X.comp scope tn ix cl C s₂ H₂ fp) elt te)
    (hsw : swapsWith (.ListComp elt [⟨tg, iter, ifs, 0⟩] scope pos) (some (.Name y py)) spos.line X.env = pure true := by rfl)
    (hf : X.fn y = true ∨ X.env.scope.names.lookup y = some .local := by first | exact .inl rfl | exact .inr rfl | assumption)
    (hs : ∀ x, foldedSetIterable iter X.env x = pure x := by intro _; rfl) : PS X (.Assign [.Name y py] (.ListComp elt [⟨tg, iter, ifs, 0⟩] scope pos) spos) (yI (wM tn ix wi g tt te) (t7 i)) := by
  intro pins s σ H E I h
  rw [exec_Assign_Name_used _ _ _ _ hsw]
  refine wpAny_bind (wpAny_standAt (wpAny_bind ?_))
  show wpAny _ X.A (do let _ ← comprehension (.ListComp elt [⟨tg, iter, ifs, 0⟩] scope pos) scope X.env _ (newList []) false (eval iter X.env) (some (assign (.Name y py) X.env))) _ _ s
  obtain ⟨cl, hcl, q⟩ := vO (pos := pos) (P := fun acc C => compPost (model X.prog X.w) X.A X.xe (some (assign (.Name y py) X.env)) (fun _ s' => SP X pins E .next s') acc C) (fZ.of S) hc hi hg ht he I h fun D C s' H' I' ⟨m, hn⟩ f q => by
    show wpAny _ X.A (assign (.Name y py) X.env (.ref D)) _ _ _
    refine wpAny_assign_Name (vI (v := .ref D) I' hN hiN hy rfl (fun s2 I2 hq__ => ?_) hf)
    obtain ⟨a, sb, ha⟩ := hq__
    have hCa : C ≠ a := by
      rcases ha with ha | ha
      · rw [ha]; exact f.2.1
      · exact fun z => f.2.2.2.2.1 y a ha z.symm
    refine ⟨m, hn.sameBut sb hCa, fun h' sb' => ⟨_, H', ?_, q⟩⟩
    exact I2.turned (it := C) (t' := s2.toks) (fun b o hb e => sb'.extBut b o hb e) f.1 f.2.1 f.2.2.2.1 f.2.2.2.2.1 f.2.2.2.2.2
  refine wpAny_bind (wpAny_mono (wpAny_comprehension_free (use := some (assign (.Name y py) X.env)) (Q := fun _ s' => SP X pins E .next s') rfl hs hcl (fZ.of S).kind (fZ.of S).loc q) (fun _ s' hq => wpAny_pure (wpAny_pure hq)) fun _ _ e => e)
end
end L2
namespace L2
open PySem PySem.Spec PyProof.Rows
theorem aH.oM {K : PySem.W.Frag} {H H' : Hp} {a : Addr} {xs : List V} (e : aH H H') (h : SqT K H a xs) : SqT K H' a xs := by
  rcases h with (h | ⟨o, h⟩) | h
  · exact .inl (.inl (e _ _ h))
  · exact .inl (.inr ⟨o, e _ _ h⟩)
  · exact .inr h
theorem aH.new {H : Hp} {p : Addr} (h : H p = none) (o : HO) : aH H (upd H p o) := fun b u q => by rw [bw (gG q h)]; exact q
theorem aH.up {H H' : Hp} {p : Addr} {o : HO} (s : aH H H') (h : H p = none) : aH H (upd H' p o) := fun b u q => by rw [bw (gG q h)]; exact s b u q
mutual
noncomputable def Is (K : PySem.W.Frag) (H : Hp) : PyData → V → Prop
  | .none, v => v = .non
  | .bool b, v => v = .bl b
  | .int i, v => v = .int i
  | .str x, v => v = .str x
  | .list ds, v => ∃ a vs, v = .ref a ∧ SqL K H a vs ∧ cQ K H ds vs
  | .tuple ds, v => ∃ a vs, v = .ref a ∧ SqT K H a vs ∧ cQ K H ds vs
  | .dict _, _ => False
noncomputable def cQ (K : PySem.W.Frag) (H : Hp) : List PyData → List V → Prop
  | [], vs => vs = []
  | d :: ds, vs => ∃ v r, vs = v :: r ∧ Is K H d v ∧ cQ K H ds r
end
mutual
theorem Is.mono {K : PySem.W.Frag} {H H' : Hp} (e : aH H H') : ∀ (d : PyData) {v : V}, Is K H d v → Is K H' d v
  | .none, v, h => h
  | .bool _, v, h => h
  | .int _, v, h => h
  | .str _, v, h => h
  | .list ds, v, h => by
    rw [Is] at h ⊢
    obtain ⟨a, vs, h1, h2, h3⟩ := h
    exact ⟨a, vs, h1, e.seq h2, cQ.mono e ds h3⟩
  | .tuple ds, v, h => by
    rw [Is] at h ⊢
    obtain ⟨a, vs, h1, h2, h3⟩ := h
    exact ⟨a, vs, h1, e.oM h2, cQ.mono e ds h3⟩
  | .dict _, v, h => h
theorem cQ.mono {K : PySem.W.Frag} {H H' : Hp} (e : aH H H') : ∀ (ds : List PyData) {vs : List V}, cQ K H ds vs → cQ K H' ds vs
  | [], vs, h => h
  | d :: ds, vs, h => by
    rw [cQ] at h ⊢
    obtain ⟨v, r, h1, h2, h3⟩ := h
    exact ⟨v, r, h1, Is.mono e d h2, cQ.mono e ds h3⟩
end
section
variable {X : Cx} {pins : List (Addr × Obj)} {σ : St} {H : Hp} {s : Shared}
mutual
theorem Is.reads (I : Inv X pins σ H s) : ∀ (d : PyData) {v : V} {u : Value}, Is X.K H d v → RelV v u → ∃ as, Reads s.heap u d as
  | .none, v, u, h, r => by
    rw [Is] at h; subst h; cases r; exact ⟨_, .none⟩
  | .bool b, v, u, h, r => by
    rw [Is] at h; subst h; cases r; exact ⟨_, .bool b⟩
  | .int i, v, u, h, r => by
    rw [Is] at h; subst h; obtain ⟨t, rfl⟩ := r; exact ⟨_, .int i t⟩
  | .str x, v, u, h, r => by
    rw [Is] at h; subst h; obtain ⟨t, rfl⟩ := r; exact ⟨_, .str x t⟩
  | .list ds, v, u, h, r => by
    rw [Is] at h
    obtain ⟨a, vs, rfl, h2, h3⟩ := h
    cases r
    obtain ⟨its, rv, ⟨o, n, e, c, _, d⟩, _⟩ := I.list h2
    obtain ⟨as, q⟩ := cQ.reads I ds h3 rv
    exact ⟨_, .list e c d (by simpa using q)⟩
  | .tuple ds, v, u, h, r => by
    rw [Is] at h
    obtain ⟨a, vs, rfl, h2, h3⟩ := h
    cases r
    obtain ⟨its, rv, ⟨o, e, c, n, d⟩, _⟩ := I.tuple h2
    obtain ⟨as, q⟩ := cQ.reads I ds h3 rv
    exact ⟨_, .tuple e c d (by simpa using q)⟩
  | .dict _, v, u, h, r => by
    rw [Is] at h; exact h.elim
theorem cQ.reads (I : Inv X pins σ H s) : ∀ (ds : List PyData) {vs : List V} {us : List Value}, cQ X.K H ds vs → Vals vs us → ∃ as, ReadsAll s.heap us ds as
  | [], vs, us, h, r => by
    rw [cQ] at h; subst h; cases r; exact ⟨_, .nil⟩
  | d :: ds, vs, us, h, r => by
    rw [cQ] at h
    obtain ⟨v, rr, rfl, h2, h3⟩ := h
    cases r with
    | cons r1 r2 =>
      obtain ⟨as, q⟩ := Is.reads I d h2 r1
      obtain ⟨bs, q'⟩ := cQ.reads I ds h3 r2
      exact ⟨_, .cons q q'⟩
end
end
section
variable {X : Cx}
noncomputable def Rr (K : PySem.W.Frag) : R2 := fun x y H Q => ∃ d e, Is K H d x ∧ Is K H e y ∧ SeqAt.shaped d = true ∧ SeqAt.shaped e = true ∧ Q (.bl (PyData.eqv d e)) H
noncomputable def RK (K : PySem.W.Frag) : R2 := fun x y H Q => ∃ d e, Is K H d x ∧ Is K H e y ∧ SeqAt.shaped d = true ∧ SeqAt.shaped e = true ∧ Q (.bl (!PyData.eqv d e)) H
theorem Mu (hu : X.A.units + 64 < cLine) : OpR X (compareOp .Eq) (Rr X.K) := by
  intro pins s σ H x y v u Q I rx ry h
  obtain ⟨d, e, h1, h2, h3, h4, q⟩ := h
  obtain ⟨as, r1⟩ := Is.reads I d h1 rx
  obtain ⟨bs, r2⟩ := Is.reads I e h2 ry
  exact eq_dataH r1 r2 h3 h4 hu ⟨.bl (PyData.eqv d e), H, I, rfl, q⟩
theorem O5 (hu : X.A.units + 64 < cLine) : OpR X (compareOp .NotEq) (RK X.K) := by
  intro pins s σ H x y v u Q I rx ry h
  obtain ⟨d, e, h1, h2, h3, h4, q⟩ := h
  obtain ⟨as, r1⟩ := Is.reads I d h1 rx
  obtain ⟨bs, r2⟩ := Is.reads I e h2 ry
  exact ne_dataH r1 r2 h3 h4 hu ⟨.bl (!PyData.eqv d e), H, I, rfl, q⟩
end
end L2
namespace L2
end L2
namespace L2
end L2
namespace L2
open PySem PySem.Spec PyProof.Rows
noncomputable def Itv (K : PySem.W.Frag) (a : Addr) (n : Nat) : It :=
  ⟨fun i H => i < n ∧ ∃ xs x, SqL K H a xs ∧ xs[n - 1 - i]? = some x, fun i H x H' => H' = H ∧ ∀ xs, SqL K H a xs → xs[n - 1 - i]? = some x, fun i _ => i = n⟩
theorem Hx {P : Program} {w : World} {K : PySem.W.Frag} {tg : Expr} (a it : Addr) (n : Nat) : Turn P w K tg (Itv K a n) [it] it (fun i h => h.IsRevIter it a ((n : Int) - 1 - (i : Nat))) where
  mem := by simp
  obj := fun i h st b hb => by
    have e : b = it := by simpa using hb
    subst e
    obtain ⟨o, e, c, d⟩ := st
    exact ⟨o, e, fun v z => by rw [d] at z; cases z⟩
  keep := fun i h h' st k => st.at fun o e => k it (by simp) o e
  item := by
    intro X hP hw hK hc i pins s σ H E I hf st hg
    subst hP hw hK
    obtain ⟨hi, xs, x, hq, hx⟩ := hg
    obtain ⟨its, rv, p, hz⟩ := I.list hq
    obtain ⟨u, hu, ru⟩ := rv.get hx
    obtain ⟨f0, f1, f2, f3, f4, f5⟩ := hf it (by simp)
    have e : (n : Int) - 1 - (i : Nat) = ((n - 1 - i : Nat) : Int) := by omega
    rw [e] at st
    refine wpAny_pyNext_rev_item st p.isList (x := u) (by simpa using hu) fun h' st' sb => ?_
    have e2 : ((n - 1 - i : Nat) : Int) - 1 = (n : Int) - 1 - ((i + 1 : Nat) : Int) := by omega
    rw [e2] at st'
    have I1 : Inv X pins σ H { s with heap := h' } := I.turned (t' := s.toks) (fun b o hb e => (sb.2 b hb).trans e) f0 f1 f3 f4 f5
    obtain ⟨o, e, c, d⟩ := id st'
    exact ⟨u, rfl, tM (s := { s with heap := h' }) e c d (by decide) ⟨x, H, I1, ru, ⟨rfl, fun ys hy => by rw [I.xW hy hq]; exact hx⟩, st', fun b hb => (hf b hb).1⟩⟩
  done := by
    intro X hP hw hK hc i pins s σ H E I hf st hg
    subst hP hw hK
    have hg' : i = n := hg
    subst hg'
    obtain ⟨f0, f1, f2, f3, f4, f5⟩ := hf it (by simp)
    have e : (i : Int) - 1 - (i : Nat) = -1 := by omega
    rw [e] at st
    exact wpAny_pyNext_rev_end (I.ok.hd hc) st fun h' eb => ⟨rfl, I.turned (t' := s.toks) (fun b o hb e => eb b o hb e) f0 f1 f3 f4 f5⟩
  self := fun _ _ _ _ _ st h => wpAny_pyIter_revIter st h
section
variable {X : Cx} {tg : Expr}
noncomputable def Rv (K : PySem.W.Frag) (ta : TA) : TI := fun σ H R => ta σ H fun vs H1 => ∃ a xs, vs = [.ref a] ∧ SqL K H1 a xs ∧ R (Itv K a xs.length) H1
theorem Nm {a : Expr} {ta : TA} {p pos : Pos} (hg : Gl X "reversed") (hm : X.mg "reversed" = none) (ha : PA X [a] ta) (hs : starEach [a] X.env = [(false, eval a X.env)] := by rfl) : PI X tg (.Call (.Name "reversed" p) [a] [] pos) (Rv X.K ta) := by
  intro pins s σ H R I h
  refine Call_ (lE I hg hm boot_reversed (PyProof.Rows.callWith_type1 (thn (ha pos pins s σ H _ I h) fun us s1 hq__ => ?_) hs rfl))
  obtain ⟨vs, H1, I1, r1, q1⟩ := hq__
  obtain ⟨l, xs, e, hq, q⟩ := q1
  subst e
  obtain ⟨u, rfl, ru⟩ := Vals.one r1
  cases ru
  obtain ⟨its, rv, pl, hz⟩ := I1.list hq
  refine call_reversed_list pl.isList ?_
  have hit : (s1.heap.push (revObj l (((its.toArray.size : Nat) : Int) - 1))).IsRevIter s1.heap.objs.size l ((xs.length : Int) - 1 - ((0 : Nat) : Int)) := by
    have e1 : ((its.toArray.size : Nat) : Int) - 1 = (xs.length : Int) - 1 - ((0 : Nat) : Int) := by
      have := rv.length
      rw [List.size_toArray]; omega
    rw [e1]
    exact ⟨_, Heap.get?_push_size _ rfl, rfl, rfl⟩
  refine wpAny_pyIter_revIter hit ?_
  refine ⟨s1.heap.objs.size, [s1.heap.objs.size], _, _, H1, rfl, I1.kept (t' := s1.toks) fun b o e => Heap.get?_push_of_some _ e, Hx l _ xs.length, hit, fun b hb => ?_, q⟩
  have e : b = s1.heap.objs.size := by simpa using hb
  subst e
  exact I1.rY (Nat.le_refl _) (I1.hok.fresh (Nat.le_refl _))
end
section
variable {X : Cx}
end
section
variable {K : PySem.W.Frag} {tn : List Str} {ix : List Nat} {te : TE} {σ : St} {H1 : Hp} {Q : VK}
end
section
variable {K : PySem.W.Frag} {tn : List Str} {ix : List Nat} {te : TE} {σ : St} {H1 : Hp} {Q : VK}
end
structure At (K : PySem.W.Frag) (mg : Str → Option Value) (x : Str) (st : Stmt) (ps : List Str) : Prop where
  ex : ∃ f fd, Fun K x x st f fd ∧ Binds K fd ps [] ∧ mg x = some (.ref f)
structure Def (P : Program) (w : World) (K : PySem.W.Frag) (mg : Str → Option Value) (base : Heap) (k : Nat) (x : Str) (ps : List Str) (sp : Sp) : Prop where
  ex : ∃ f fd, mU P w K mg base CX0 k f fd ps sp ∧ Binds K fd ps [] ∧ PySem.W.keepIn K (.ref f) = true ∧ mg x = some (.ref f)
section
variable {P : Program} {w : World} {K : PySem.W.Frag} {mg : Str → Option Value} {base : Heap}
theorem At.ok {x : Str} {st : Stmt} {N ps : List Str} {k : Nat} {sp : Sp} (F : At K mg x st ps) (S : aV N ps (au st)) (len : ∀ vs H Q E, sp vs H Q E → vs.length = ps.length)
    (hbody : ∀ (f : Addr) (cdv : Value) (A : Around) (outer : List Env) (s : Shared) (H : Hp) (vs : List V) (Q : VK) (E : XK), dF k (A.deeper (envOfC x (au st) s.heap.objs.size f cdv)) → sp vs H Q E →
      ∃ t, PSs (nQ CX0 P w K mg base N x (au st) f cdv A outer s H E).nox (aK st) t ∧ t { nx := fun _ H' => Q .non H', rt := Q } (start N vs) H) : Def P w K mg base (k + 1) x ps sp := by
  obtain ⟨f, fd, F, b, m⟩ := F.ex
  exact ⟨f, fd, F.ok S len (hbody f), b, F.kp, m⟩
theorem At.mk' {x : Str} {st : Stmt} {ps : List Str} {f : Addr} {oc : Value} {od an : Option Addr} {osl : Array (Option Value)} {kV doc pm cdv ct : Value} (m : mg x = some (.ref f))
    (l : K.lookup f = some ⟨oc, od, .func (PySem.W.fnOf x x (aM st) (aK st) (au st) .none kV doc pm an cdv ct), osl⟩) (c : PySem.W.codeIn K cdv x = true) (k : PySem.W.keepIn K (.ref f) = true)
    (h : ∀ (kV doc pm : Value) (an : Option Addr) (cdv ct : Value) (us : List Value), us.length = ps.length → bindArgs (PySem.W.fnOf x x (aM st) (aK st) (au st) .none kV doc pm an cdv ct) ⟨us, []⟩ = pure (ps.zip us)) : At K mg x st ps :=
  ⟨f, _, xG l c k, (xG (st := st) l c k).binds h, m⟩
end
section
variable {X : Cx} {k : Nat} {x : Str} {ps : List Str} {sp : Sp} {p pos : Pos} {e : Expr} {es : List Expr} {t : TA}
theorem DG (F : Def X.prog X.w X.K X.mg X.base k x ps sp) (hr : dF k X.A) (hg : Gl X x) (ha : PA X (e :: es) t) (hdb : (x == ("__debug__" : Str)) = false := by decide)
    (he : starEach (e :: es) X.env = (false, eval e X.env) :: starEach es X.env := by rfl) (hpl : (backTo pos (starEach es X.env)).any (·.1) = false := by rfl) : PE X (.Call (.Name x p) (e :: es) [] pos) (Jy sp [] E0 t) := by
  obtain ⟨f, fd, F, b, kp, m⟩ := F.ex
  exact Kq F hr hg m kp b .nil Q0 ha hdb he hpl
end
end L2
namespace L2
open PySem PySem.Spec PyProof.Rows
section
variable {X : Cx} {K : PySem.W.Frag}
end
end L2
namespace L2
open PySem PySem.Spec PyProof.Rows
open Builtin Builtin.Str
section
variable {prog : Program} {w : World} {A : Around} {E : Value → Shared → Prop} {s : Shared}
end
section
variable {prog : Program} {w : World} {A : Around} {E : Value → Shared → Prop} {s : Shared}
end
section
variable {X : Cx}
end
end L2
namespace L2
open PySem PySem.Spec PyProof.Rows
section
variable {κ : Type} [DecidableEq κ]
noncomputable def jm (kvs : List (κ × V)) (k : κ) : Option V := (kvs.find? fun kv => decide (kv.1 = k)).map (·.2)
noncomputable def putK (kvs : List (κ × V)) (k : κ) (v : V) : List (κ × V) :=
  if (kvs.any fun kv => decide (kv.1 = k)) = true then kvs.map (fun kv => if kv.1 = k then (kv.1, v) else kv) else kvs ++ [(k, v)]
theorem oU {p : κ × V} {r : List (κ × V)} {k : κ} (e : p.1 = k) : jm (p :: r) k = some p.2 := by simp [jm, List.find?_cons, e]
theorem o7 {p : κ × V} {r : List (κ × V)} {k : κ} (e : ¬ p.1 = k) : jm (p :: r) k = jm r k := by simp [jm, List.find?_cons, e]
theorem yV (k : κ) : ∀ kvs : List (κ × V), (kvs.any fun kv => decide (kv.1 = k)) = (jm kvs k).isSome
  | [] => rfl
  | p :: r => by
    rw [List.any_cons]
    by_cases e : p.1 = k
    · simp only [oU e, decide_eq_true e, Bool.true_or, Option.isSome_some]
    · rw [o7 e, decide_eq_false e, Bool.false_or]; exact yV k r
theorem rB (kvs : List (κ × V)) (k : κ) (v : V) : (putK kvs k v).length ≤ kvs.length + 1 := by
  unfold putK
  split
  · rw [List.length_map]; omega
  · rw [List.length_append, List.length_cons, List.length_nil]; omega
theorem vo.lz {o : Option V} {u : Option Value} (r : vo o u) : o.isSome = u.isSome := by
  cases o with
  | none => cases u with
    | none => rfl
    | some _ => exact (show False from r).elim
  | some _ => cases u with
    | none => exact (show False from r).elim
    | some _ => rfl
theorem KV.val {kvs : List (κ × V)} {vs : List (κ × Value)} (r : KV kvs vs) (k : κ) : vo (jm kvs k) (valueAt vs k) := by
  unfold KV at r
  induction r with
  | nil => exact True.intro
  | @cons p q ps qs h t ih =>
    obtain ⟨h1, h2⟩ := h
    by_cases e : p.1 = k
    · have e' : q.1 = k := h1.symm.trans e
      have b : valueAt (q :: qs) k = some q.2 := by simp [valueAt, List.find?_cons, e']
      rw [oU e, b]; exact h2
    · have e' : ¬ q.1 = k := fun z => e (h1.trans z)
      have b : valueAt (q :: qs) k = valueAt qs k := by simp [valueAt, List.find?_cons, e']
      rw [o7 e, b]; exact ih
theorem KV.any {kvs : List (κ × V)} {vs : List (κ × Value)} (r : KV kvs vs) (k : κ) : (kvs.any fun kv => decide (kv.1 = k)) = vs.any fun kv => decide (kv.1 = k) := by
  unfold KV at r
  induction r with
  | nil => rfl
  | cons h t ih => rw [List.any_cons, List.any_cons, ih, h.1]
theorem KV.repl {kvs : List (κ × V)} {vs : List (κ × Value)} (r : KV kvs vs) (k : κ) {y : V} {u : Value} (ry : RelV y u) :
    KV (kvs.map fun kv => if kv.1 = k then (kv.1, y) else kv) (vs.map fun kv => if kv.1 = k then (kv.1, u) else kv) := by
  unfold KV at r ⊢
  induction r with
  | nil => exact .nil
  | @cons p q ps qs h t ih =>
    rw [List.map_cons, List.map_cons]
    refine .cons ?_ ih
    obtain ⟨h1, h2⟩ := h
    by_cases e : p.1 = k
    · rw [if_pos e, if_pos (h1.symm.trans e)]; exact ⟨h1, ry⟩
    · rw [if_neg e, if_neg (fun z => e (h1.trans z))]; exact ⟨h1, h2⟩
theorem KV.put {kvs : List (κ × V)} {vs : List (κ × Value)} (r : KV kvs vs) (k : κ) {y : V} {u : Value} (ry : RelV y u) : KV (putK kvs k y) (stored vs k u) := by
  unfold putK stored
  rw [r.any k]
  by_cases e : (vs.any fun kv => decide (kv.1 = k)) = true
  · rw [if_pos e, if_pos e]; exact r.repl k ry
  · rw [if_neg e, if_neg e]; exact Paired.snoc r ⟨rfl, ry⟩
theorem KV.length {kvs : List (κ × V)} {vs : List (κ × Value)} (r : KV kvs vs) : kvs.length = vs.length := Paired.length r
end
theorem wO {P : Program} {w : World} {k : Key} {u : Value} (r : RelV (kV k) u) : (cA P w).is k u = true := by
  cases k with
  | inl i => obtain ⟨t, e⟩ := (show ∃ t, u = Value.int i t from r); subst e; exact zX P w i t
  | inr x => obtain ⟨t, e⟩ := (show ∃ t, u = Value.str x t from r); subst e; exact zV P w x t
theorem vP {P : Program} {w : World} : ∀ {ks : List Key} {us : List Value}, Vals (ks.map kV) us → ItemsAre (cA P w) ks us
  | [], _, r => by rw [List.map_nil] at r; cases r; exact .nil
  | k :: ks, _, r => by
    rw [List.map_cons] at r
    cases r with
    | cons h t => exact .cons (wO h) (vP t)
noncomputable abbrev KT (H : Hp) : List (List Key × V) → List (List Key × Addr × Value) → Prop := Paired fun p q => p.1 = q.1 ∧ H q.2.1 = some (.tup (p.1.map kV)) ∧ RelV p.2 q.2.2
theorem KT.val {H : Hp} {kvs : List (List Key × V)} {xs : List (List Key × Addr × Value)} (r : KT H kvs xs) (k : List Key) : vo (jm kvs k) ((atKey xs k).map (·.2)) := by
  induction r with
  | nil => exact True.intro
  | @cons p q ps qs h t ih =>
    obtain ⟨h1, _, h2⟩ := h
    by_cases e : p.1 = k
    · have e' : q.1 = k := h1.symm.trans e
      have b : atKey (q :: qs) k = some q.2 := by simp [atKey, List.find?_cons, e']
      rw [oU e, b]; exact h2
    · have e' : ¬ q.1 = k := fun z => e (h1.trans z)
      have b : atKey (q :: qs) k = atKey qs k := by simp [atKey, List.find?_cons, e']
      rw [o7 e, b]; exact ih
theorem KT.repl {H : Hp} {kvs : List (List Key × V)} {xs : List (List Key × Addr × Value)} (r : KT H kvs xs) (k : List Key) {y : V} {u : Value} (ry : RelV y u) :
    KT H (kvs.map fun kv => if kv.1 = k then (kv.1, y) else kv) (xs.map (putAt k u)) := by
  induction r with
  | nil => exact .nil
  | @cons p q ps qs h t ih =>
    rw [List.map_cons, List.map_cons]
    refine .cons ?_ ih
    obtain ⟨h1, h2, h3⟩ := h
    unfold putAt
    by_cases e : p.1 = k
    · rw [if_pos e, if_pos (h1.symm.trans e)]; exact ⟨h1, h2, ry⟩
    · rw [if_neg e, if_neg (fun z => e (h1.trans z))]; exact ⟨h1, h2, h3⟩
theorem KT.put {H : Hp} {kvs : List (List Key × V)} {xs : List (List Key × Addr × Value)} (r : KT H kvs xs) (k : List Key) {b : Addr} {y : V} {u : Value} (hb : H b = some (.tup (k.map kV))) (ry : RelV y u) :
    KT H (putK kvs k y) (storedH xs k b u) := by
  have e : (kvs.any fun kv => decide (kv.1 = k)) = (atKey xs k).isSome := by
    rw [yV, (r.val k).lz, Option.isSome_map]
  unfold putK storedH
  rw [e]
  by_cases q : (atKey xs k).isSome = true
  · rw [if_pos q, if_pos q]; exact r.repl k ry
  · rw [if_neg q, if_neg q]; exact Paired.snoc r ⟨rfl, hb, ry⟩
theorem KT.keeps {H H' : Hp} {kvs : List (List Key × V)} {xs : List (List Key × Addr × Value)} (r : KT H kvs xs) (ht : ∀ b ys, H b = some (.tup ys) → H' b = some (.tup ys)) : KT H' kvs xs :=
  Paired.uR r fun _ _ z => ⟨z.1, ht _ _ z.2.1, z.2.2⟩
section
variable {P : Program} {w : World} {H : Hp} {h : Heap} {a : Addr}
theorem Jx {u : HO} (ok : HOk P w H h) (e : Rd H a u) : cM P w H h a u := e.ok ok
theorem Dd {kvs : List (Key × V)} (ok : HOk P w H h) (e : Rd H a (.dK kvs)) : kvs.length ≤ sizeLine ∧ (a == sysModules) = false ∧ ∃ vs, KV kvs vs ∧ h.DictOf (cA P w) a vs :=
  show cM P w H h a (.dK kvs) from Jx ok e
theorem Jv {kvs : List (Key × V)} (ok : HOk P w H h) (e : H a = some (.dK kvs)) : kvs.length ≤ sizeLine ∧ (a == sysModules) = false ∧ ∃ vs, KV kvs vs ∧ h.DictOf (cA P w) a vs := Dd ok (.inl e)
theorem ux {ks : List Key} (ok : HOk P w H h) (e : H a = some (.tup (ks.map kV))) : (tupleKind (cA P w)).is h ks a := by
  obtain ⟨_, its, r, o, h1, h2, n, h3⟩ := (show cM P w H h a (.tup (ks.map kV)) from ok a _ e)
  exact ⟨o, its.toArray, n, h1, h2, h3, by simpa using vP r⟩
theorem CG {kvs : List (List Key × V)} (ok : HOk P w H h) (e : Rd H a (.dT kvs)) : kvs.length ≤ sizeLine ∧ (a == sysModules) = false ∧
    ∃ xs, KT H kvs xs ∧ h.DictOfH (tupleKind (cA P w)) a xs := by
  obtain ⟨z, y, xs, r, o, es, ep, h1, h2, h3, h4, h5⟩ := (show cM P w H h a (.dT kvs) from Jx ok e)
  refine ⟨z, y, xs, r, o, es, ep, h1, h2, h3, h4, fun x hx => ?_, h5⟩
  have all : ∀ {l : List (List Key × V)} {m : List (List Key × Addr × Value)}, KT H l m → ∀ x ∈ m, (tupleKind (cA P w)).is h x.1 x.2.1 := by
    intro l m q
    induction q with
    | nil => intro x hx; exact nomatch hx
    | @cons p q ps qs hq t ih =>
      intro x hx
      rcases List.mem_cons.mp hx with e | hx
      · subst e
        exact ux ok (by rw [← hq.1]; exact hq.2.1)
      · exact ih x hx
  exact all r x hx
theorem Q3 {kvs : List (List Key × V)} (ok : HOk P w H h) (e : H a = some (.dT kvs)) : kvs.length ≤ sizeLine ∧ (a == sysModules) = false ∧
    ∃ xs, KT H kvs xs ∧ h.DictOfH (tupleKind (cA P w)) a xs := CG ok (.inl e)
end
noncomputable def pW (H : Hp) (a : Addr) (y : V) (r : Option V) : Prop :=
  (∃ kvs k, Rd H a (.dK kvs) ∧ y = kV k ∧ r = jm kvs k) ∨ ∃ kvs k b, Rd H a (.dT kvs) ∧ y = .ref b ∧ H b = some (.tup (k.map kV)) ∧ r = jm kvs k
noncomputable def rK (H : Hp) (a : Addr) (y v : V) (H' : Hp) : Prop :=
  (∃ kvs k, H a = some (.dK kvs) ∧ y = kV k ∧ kvs.length < sizeLine ∧ H' = upd H a (.dK (putK kvs k v))) ∨
  ∃ kvs k b, H a = some (.dT kvs) ∧ y = .ref b ∧ H b = some (.tup (k.map kV)) ∧ kvs.length < sizeLine ∧ H' = upd H a (.dT (putK kvs k v))
theorem pW.k {H : Hp} {a : Addr} {kvs : List (Key × V)} {k : Key} (e : H a = some (.dK kvs)) : pW H a (kV k) (jm kvs k) := .inl ⟨kvs, k, .inl e, rfl, rfl⟩
theorem pW.t {H : Hp} {a b : Addr} {kvs : List (List Key × V)} {k : List Key} (e : H a = some (.dT kvs)) (eb : H b = some (.tup (k.map kV))) : pW H a (.ref b) (jm kvs k) := .inr ⟨kvs, k, b, .inl e, rfl, eb, rfl⟩
theorem rK.k {H : Hp} {a : Addr} {kvs : List (Key × V)} {k : Key} {v : V} (e : H a = some (.dK kvs)) (hl : kvs.length < sizeLine) : rK H a (kV k) v (upd H a (.dK (putK kvs k v))) := .inl ⟨kvs, k, e, rfl, hl, rfl⟩
theorem rK.t {H : Hp} {a b : Addr} {kvs : List (List Key × V)} {k : List Key} {v : V} (e : H a = some (.dT kvs)) (eb : H b = some (.tup (k.map kV))) (hl : kvs.length < sizeLine) :
    rK H a (.ref b) v (upd H a (.dT (putK kvs k v))) := .inr ⟨kvs, k, b, e, rfl, eb, hl, rfl⟩
section
variable {X : Cx} {pins : List (Addr × Obj)} {σ : St} {H : Hp} {s : Shared} {a : Addr} {y v : V} {u r : Value} {o : Option V} {A : Around} {E : Value → Shared → Prop}
theorem Inv.big (I : Inv X pins σ H s) : sysModules < s.heap.objs.size := by
  have h : mainGlobals < s.heap.objs.size := (I.mod.glob.keeps I.bk).lt
  exact Nat.lt_trans (by decide) h
theorem RV {Q : Value → Shared → Prop} (hu : A.units + 1 < cLine) (I : Inv X pins σ H s) (g : pW H a y o) (ry : RelV y u) (h : ∀ s', Inv X pins σ H s' → Q (.bool o.isSome) s') :
    wpAny (model X.prog X.w) A (compareOp .In u (.ref a)) Q E s := by
  rcases g with ⟨kvs, k, e, ey, l⟩ | ⟨kvs, k, b, e, ey, eb, l⟩
  · subst ey
    obtain ⟨z, hd, vs, rel, dd⟩ := Dd I.hok e
    refine wpAny_in_of (wO ry) hd dd.mapOf ?_
    rw [← (rel.val k).lz, ← l]
    exact h _ (I.tok _)
  · subst ey
    cases (show u = Value.ref b from ry)
    obtain ⟨z, hd, xs, rel, dd⟩ := CG I.hok e
    refine wpAny_in_heap (tupleKind_room_in1 hu) (ux I.hok eb) hd dd ?_
    have q := (rel.val k).lz
    rw [Option.isSome_map] at q
    rw [← q, ← l]
    exact h _ (I.tok _)
theorem J6 {Q : Value → Shared → Prop} (hu : A.units + 1 < cLine) (I : Inv X pins σ H s) (g : pW H a y o) (ry : RelV y u) (h : ∀ s', Inv X pins σ H s' → Q (.bool (!o.isSome)) s') :
    wpAny (model X.prog X.w) A (compareOp .NotIn u (.ref a)) Q E s := by
  rcases g with ⟨kvs, k, e, ey, l⟩ | ⟨kvs, k, b, e, ey, eb, l⟩
  · subst ey
    obtain ⟨z, hd, vs, rel, dd⟩ := Dd I.hok e
    refine wpAny_notIn_of (wO ry) hd dd.mapOf ?_
    rw [← (rel.val k).lz, ← l]
    exact h _ (I.tok _)
  · subst ey
    cases (show u = Value.ref b from ry)
    obtain ⟨z, hd, xs, rel, dd⟩ := CG I.hok e
    refine wpAny_notIn_heap (tupleKind_room_in1 hu) (ux I.hok eb) hd dd ?_
    have q := (rel.val k).lz
    rw [Option.isSome_map] at q
    rw [← q, ← l]
    exact h _ (I.tok _)
theorem Ag {h' : Heap} {t' : Nat} {ob : HO} (I : Inv X pins σ H s) (mu : Mut (H a)) (hs : Heap.SameBut a s.heap h') (he : ∃ q, h'.get? a = some q) (new : cM X.prog X.w (upd H a ob) h' a ob) :
    Inv X pins σ (upd H a ob) { s with heap := h', toks := t' } :=
  I.write (x := a) (e := a) mu (.inl rfl) (fun b q hb z => (hs.2 b hb).trans z) he new
theorem MF {P : Program} {w : World} {H' : Hp} {h' : Heap} {kvs : List (Key × V)} {vs : List (Key × Value)} (z : kvs.length ≤ sizeLine) (hd : (a == sysModules) = false) (rel : KV kvs vs) (dd : h'.DictOf (cA P w) a vs) :
    cM P w H' h' a (.dK kvs) := ⟨z, hd, vs, rel, dd⟩
theorem Fg {H' : Hp} {Q : Unit → Shared → Prop} (hu : A.units + 1 < cLine) (I : Inv X pins σ H s) (g : rK H a y v H') (ry : RelV y u) (rv : RelV v r) (h : ∀ s', Inv X pins σ H' s' → Q () s') :
    wpAny (model X.prog X.w) A (setItem (.ref a) u r) Q E s := by
  rcases g with ⟨kvs, k, e, ey, l, eH⟩ | ⟨kvs, k, b, e, ey, eb, l, eH⟩
  · subst ey eH
    obtain ⟨z, hd, vs, rel, dd⟩ := Jv I.hok e
    have hz : vs.length ≤ sizeLine := by rw [← rel.length]; exact z
    have hl : (putK kvs k v).length ≤ sizeLine := by have := rB kvs k v; omega
    refine wpAny_setItem_pairs (hsz := hz) (wO ry) dd fun h' dd' hs => h _ ?_
    have he : ∃ q, h'.get? a = some q := let ⟨q, _, _, hq, _⟩ := dd'; ⟨q, hq⟩
    exact Ag I (by rw [e]; exact True.intro) hs he (MF hl hd (rel.put k rv) dd')
  · subst ey eH
    cases (show u = Value.ref b from ry)
    obtain ⟨z, hd, xs, rel, dd⟩ := Q3 I.hok e
    have hz : xs.length ≤ sizeLine := by rw [← Paired.length rel]; exact z
    have hl : (putK kvs k v).length ≤ sizeLine := by have := rB kvs k v; omega
    refine wpAny_setItem_heap (hsz := hz) (tupleKind_room_in1 hu) (ux I.hok eb) dd fun h' dd' hs => h _ ?_
    obtain ⟨q, es, ep, hq, h2, h3, h4, _, h5⟩ := dd'
    refine Ag I (by rw [e]; exact True.intro) hs ⟨q, hq⟩ ⟨hl, hd, _, (rel.put k eb rv).keeps fun c ys ec => ?_, q, es, ep, hq, h2, h3, h4, h5⟩
    rw [bw (QV ec e (fun z => nomatch z))]
    exact ec
end
section
variable {X : Cx} {pins : List (Addr × Obj)} {σ : St} {H : Hp} {s : Shared} {a : Addr} {kvs : List (Key × V)} {k : Key} {u : Value} {A : Around} {E : Value → Shared → Prop}
end
noncomputable def Qy (td ty tv : TE) : TS := fun D σ H => tv σ H fun v H1 => td σ H1 fun x H2 => ty σ H2 fun y H3 => ∃ a H4, x = .ref a ∧ rK H3 a y v H4 ∧ D.nx σ H4
section
variable {X : Cx} {o i e value : Expr} {pos pos' tpos : Pos} {td ty tv : TE}
theorem KR (hu : X.A.units + 1 < cLine) (ho : PE X o td) (hi : PE X i ty) (hv : PE X value tv) (hs : swapsWith value (some (.Subscript o i pos')) pos.line X.env = pure false) :
    PS X (.Assign [.Subscript o i pos'] value pos) (Qy td ty tv) := by
  intro pins s σ H D I h
  refine wpAny_Assign_Subscript (thn (hv pins s σ H _ I h) fun r s1 ⟨v, H1, I1, rv, q1⟩ => thn (ho pins s1 σ H1 _ I1 q1) fun u s2 ⟨x, H2, I2, rx, q2⟩ => thn (hi pins s2 σ H2 _ I2 q2) fun iv s3 hq__ => ?_) hs
  obtain ⟨y, H3, I3, ry, a, H4, ex, g, q3⟩ := hq__
  subst ex
  obtain rfl : u = Value.ref a := rx
  exact Fg hu I3 g ry rv fun s4 I4 => ⟨σ, H4, I4, q3⟩
end
theorem Ij {P : Program} {w : World} {H : Hp} (h : Heap) (hb : sysModules < h.objs.size) : cM P w H (h.push { cls := .type "dict", data := .dict #[] }) h.objs.size (.dK []) :=
  ⟨Nat.zero_le _, beq_eq_false_iff_ne.mpr (Ne.symm (Nat.ne_of_lt hb)), [], .nil, Heap.DictOf.new h⟩
noncomputable def Qi : TE := fun _ H Q => ∀ p, H p = none → Q (.ref p) (upd H p (.dK []))
section
variable {X : Cx} {pos : Pos}
theorem Ji : PE X (.Dict [] [] pos) Qi := fun pins s σ H Q I h =>
  wpAny_Dict_empty ⟨.ref s.heap.objs.size, _, I.laid (a := s.heap.objs.size) (o := .dK []) (t' := s.toks) (fun _ _ q => Heap.get?_push_of_some _ q) (Nat.le_refl _) (Ij s.heap I.big), rfl, h _ (I.hok.fresh (Nat.le_refl _))⟩
end
section
variable {X : Cx} {pins : List (Addr × Obj)} {σ : St} {H : Hp} {s : Shared} {a : Addr} {y d : V} {u r : Value} {o : Option V} {A : Around} {E : Value → Shared → Prop}
end
section
variable {X : Cx} {o e f : Expr} {apos cpos : Pos} {td ty tx : TE}
end
section
variable {X : Cx} {pins : List (Addr × Obj)} {σ : St} {H : Hp} {s : Shared} {a : Addr} {kvs : List (Key × V)} {A : Around} {E : Value → Shared → Prop}
end
section
variable {X : Cx} {pins : List (Addr × Obj)} {σ : St} {H : Hp} {s : Shared} {a : Addr} {y : V} {u : Value} {A : Around} {E : Value → Shared → Prop}
end
end L2
namespace L2
open PySem PySem.Spec PyProof.Rows
noncomputable abbrev gJ := List (List Int)
noncomputable def QX (ks : gJ) : Int := reduceHash (Builtin.Tuple.tupleHashOf (ks.map fun k => reduceHash (Builtin.Tuple.tupleHashOf (k.map hashInt))))
noncomputable def JC (a : Addr) (xs : List (gJ × Addr × Value)) : HO := .ext fun h =>
  xs.length ≤ sizeLine ∧ (a == sysModules) = false ∧ (xs.map (·.1)).Nodup ∧ ∃ o es ep, h.get? a = some o ∧ o.ExactDict ∧ o.data = .dict es ep ∧ es.toList = xs.map fun x => ⟨QX x.1, .ref x.2.1, x.2.2⟩
noncomputable def Ce (K : PySem.W.Frag) (H : Hp) (ks : gJ) (b : Addr) : Prop := ∃ cs : List Addr, SqT K H b (cs.map V.ref) ∧ Paired (fun (k : List Int) c => SqT K H c (k.map V.int)) ks cs
noncomputable abbrev KN (K : PySem.W.Frag) (H : Hp) : List (gJ × V) → List (gJ × Addr × Value) → Prop := Paired fun p q => p.1 = q.1 ∧ Ce K H p.1 q.2.1 ∧ RelV p.2 q.2.2
theorem Ce.keeps {K : PySem.W.Frag} {H H' : Hp} {ks : gJ} {b : Addr} (n : Ce K H ks b) (ht : ∀ b ys, SqT K H b ys → SqT K H' b ys) : Ce K H' ks b := by
  obtain ⟨cs, h1, h2⟩ := n
  exact ⟨cs, ht _ _ h1, Paired.uR h2 fun _ _ z => ht _ _ z⟩
theorem KN.keeps {K : PySem.W.Frag} {H H' : Hp} {kvs : List (gJ × V)} {xs : List (gJ × Addr × Value)} (r : KN K H kvs xs) (ht : ∀ b ys, SqT K H b ys → SqT K H' b ys) : KN K H' kvs xs :=
  Paired.uR r fun _ _ z => ⟨z.1, z.2.1.keeps ht, z.2.2⟩
end L2
namespace PySem
open Sem (wp)
section
variable {prog : Program} {w : World} {K : Type} [DecidableEq K] (knd : KeyKind prog w K)
inductive nW (h : Heap) : List (List K) → List Value → Prop
  | nil : nW h [] []
  | cons {k : List K} {a : Addr} {ks : List (List K)} {vs : List Value} : IsTupleKey knd h k a → nW h ks vs → nW h (k :: ks) (.ref a :: vs)
variable {knd}
theorem nW.length {h : Heap} {x : List (List K)} {vs : List Value} (hx : nW knd h x vs) : x.length = vs.length := by
  induction hx with
  | nil => rfl
  | cons _ _ ih => simp [ih]
variable {A : Around} {E : Value → Shared → Prop} {s : Shared}
end
end PySem
namespace L2
open PySem PySem.Spec PyProof.Rows
section
variable {X : Cx} {pins : List (Addr × Obj)} {σ : St} {H : Hp} {s : Shared} {a b : Addr} {v : V} {u r : Value} {A : Around} {E : Value → Shared → Prop} {kvs : List (gJ × V)} {xs : List (gJ × Addr × Value)} {k : gJ}
end
end L2
namespace L3
open PySem PySem.Spec PyProof.Rows L2
structure Exn where
  cls : Str
  arg : Option PyData
inductive Res (α : Type) where
  | ok (a : α)
  | err (x : Exn)
  | bad
noncomputable def Res.bind {α β : Type} : Res α → (α → Res β) → Res β
  | .ok a, f => f a
  | .err x, _ => .err x
  | .bad, _ => .bad
@[simp] theorem Res.cW {α β : Type} (a : α) (f : α → Res β) : (Res.ok a).bind f = f a := rfl
@[simp] theorem Res.RN {α β : Type} (x : Exn) (f : α → Res β) : (Res.err x : Res α).bind f = .err x := rfl
@[simp] theorem Res.RX {α β : Type} (f : α → Res β) : (Res.bad : Res α).bind f = .bad := rfl
theorem Res.aF {α β : Type} {r : Res α} {f : α → Res β} {b : β} (h : r.bind f = .ok b) : ∃ a, r = .ok a ∧ f a = .ok b := by
  cases r with
  | ok a => exact ⟨a, rfl, h⟩
  | err x => cases h
  | bad => cases h
noncomputable def gd {α : Type} (c : Prop) [Decidable c] (r : Res α) : Res α := if c then r else .bad
theorem bL {α : Type} {c : Prop} [Decidable c] {r : Res α} {a : α} (h : gd c r = .ok a) : c ∧ r = .ok a := by
  unfold gd at h
  by_cases hc : c
  · rw [if_pos hc] at h; exact ⟨hc, h⟩
  · rw [if_neg hc] at h; cases h
theorem bc {α : Type} {c : Prop} [Decidable c] {r : Res α} (h : c) : gd c r = r := if_pos h
noncomputable abbrev Ev := List (Option PyData)
inductive Out where
  | nx (Γ : Ev)
  | rt (d : PyData)
  | bk (Γ : Ev)
  | ct (Γ : Ev)
noncomputable abbrev ME := Ev → Res PyData
noncomputable abbrev MS := Ev → Res Out
noncomputable def cI : PyData → Option Key
  | .int i => some (.inl i)
  | .str x => some (.inr x)
  | _ => none
mutual
noncomputable def Rp (K : PySem.W.Frag) (A : Hp) : PyData → V → Prop
  | .none, v => v = .non
  | .bool b, v => v = .bl b
  | .int i, v => v = .int i
  | .str x, v => v = .str x
  | .list ds, v => ∃ a vs, v = .ref a ∧ SqL K A a vs ∧ aB K A ds vs
  | .tuple ds, v => ∃ a vs, v = .ref a ∧ SqT K A a vs ∧ aB K A ds vs
  | .dict kvs, v => ∃ a u, v = .ref a ∧ A a = some (.dK u) ∧ aX K A kvs u
noncomputable def aB (K : PySem.W.Frag) (A : Hp) : List PyData → List V → Prop
  | [], vs => vs = []
  | d :: ds, vs => ∃ v r, vs = v :: r ∧ Rp K A d v ∧ aB K A ds r
noncomputable def aX (K : PySem.W.Frag) (A : Hp) : List (PyData × PyData) → List (Key × V) → Prop
  | [], u => u = []
  | (k, d) :: r, u => ∃ key v u', u = (key, v) :: u' ∧ cI k = some key ∧ Rp K A d v ∧ aX K A r u'
end
mutual
theorem Rp.mono {K : PySem.W.Frag} {H H' : Hp} (e : aH H H') : ∀ (d : PyData) {v : V}, Rp K H d v → Rp K H' d v
  | .none, v, h => by rw [Rp] at h ⊢; exact h
  | .bool _, v, h => by rw [Rp] at h ⊢; exact h
  | .int _, v, h => by rw [Rp] at h ⊢; exact h
  | .str _, v, h => by rw [Rp] at h ⊢; exact h
  | .list ds, v, h => by
    rw [Rp] at h ⊢
    obtain ⟨a, vs, h1, h2, h3⟩ := h
    exact ⟨a, vs, h1, e.seq h2, aB.mono e ds h3⟩
  | .tuple ds, v, h => by
    rw [Rp] at h ⊢
    obtain ⟨a, vs, h1, h2, h3⟩ := h
    exact ⟨a, vs, h1, e.oM h2, aB.mono e ds h3⟩
  | .dict kvs, v, h => by
    rw [Rp] at h ⊢
    obtain ⟨a, u, h1, h2, h3⟩ := h
    exact ⟨a, u, h1, e _ _ h2, aX.mono e kvs h3⟩
theorem aB.mono {K : PySem.W.Frag} {H H' : Hp} (e : aH H H') : ∀ (ds : List PyData) {vs : List V}, aB K H ds vs → aB K H' ds vs
  | [], vs, h => by rw [aB] at h ⊢; exact h
  | d :: ds, vs, h => by
    rw [aB] at h ⊢
    obtain ⟨v, r, h1, h2, h3⟩ := h
    exact ⟨v, r, h1, Rp.mono e d h2, aB.mono e ds h3⟩
theorem aX.mono {K : PySem.W.Frag} {H H' : Hp} (e : aH H H') : ∀ (kvs : List (PyData × PyData)) {u : List (Key × V)}, aX K H kvs u → aX K H' kvs u
  | [], u, h => by rw [aX] at h ⊢; exact h
  | (k, d) :: r, u, h => by
    rw [aX] at h ⊢
    obtain ⟨key, v, u', h1, h2, h3, h4⟩ := h
    exact ⟨key, v, u', h1, h2, Rp.mono e d h3, aX.mono e r h4⟩
end
mutual
theorem Rp.is {K : PySem.W.Frag} {H : Hp} : ∀ (d : PyData) {v : V}, d.canLay0 = true → Rp K H d v → Is K H d v
  | .none, v, _, h => by rw [Rp] at h; rw [Is]; exact h
  | .bool _, v, _, h => by rw [Rp] at h; rw [Is]; exact h
  | .int _, v, _, h => by rw [Rp] at h; rw [Is]; exact h
  | .str _, v, _, h => by rw [Rp] at h; rw [Is]; exact h
  | .list ds, v, c, h => by
    rw [Rp] at h; rw [Is]
    rw [PyData.canLay0] at c
    obtain ⟨a, vs, h1, h2, h3⟩ := h
    exact ⟨a, vs, h1, h2, aB.is ds c h3⟩
  | .tuple ds, v, c, h => by
    rw [Rp] at h; rw [Is]
    rw [PyData.canLay0] at c
    obtain ⟨a, vs, h1, h2, h3⟩ := h
    exact ⟨a, vs, h1, h2, aB.is ds c h3⟩
  | .dict _, v, c, h => by rw [PyData.canLay0] at c; cases c
theorem aB.is {K : PySem.W.Frag} {H : Hp} : ∀ (ds : List PyData) {vs : List V}, PyData.canLayAll0 ds = true → aB K H ds vs → cQ K H ds vs
  | [], vs, _, h => by rw [aB] at h; rw [cQ]; exact h
  | d :: ds, vs, c, h => by
    rw [aB] at h; rw [cQ]
    rw [PyData.canLayAll0, Bool.and_eq_true] at c
    obtain ⟨v, r, h1, h2, h3⟩ := h
    exact ⟨v, r, h1, Rp.is d c.1 h2, aB.is ds c.2 h3⟩
end
section
variable {K : PySem.W.Frag} {A H : Hp} {v : V}
theorem Rp.int {i : Int} : Rp K A (.int i) v ↔ v = .int i := by rw [Rp]
theorem Rp.bool {b : Bool} : Rp K A (.bool b) v ↔ v = .bl b := by rw [Rp]
theorem Rp.none : Rp K A .none v ↔ v = .non := by rw [Rp]
theorem Rp.str {x : Str} : Rp K A (.str x) v ↔ v = .str x := by rw [Rp]
theorem Rp.list {ds : List PyData} : Rp K A (.list ds) v ↔ ∃ a vs, v = .ref a ∧ SqL K A a vs ∧ aB K A ds vs := by rw [Rp]
theorem Rp.tuple {ds : List PyData} : Rp K A (.tuple ds) v ↔ ∃ a vs, v = .ref a ∧ SqT K A a vs ∧ aB K A ds vs := by rw [Rp]
theorem aB.nil {vs : List V} : aB K A [] vs ↔ vs = [] := by rw [aB]
theorem aB.cons {d : PyData} {ds : List PyData} {vs : List V} : aB K A (d :: ds) vs ↔ ∃ v r, vs = v :: r ∧ Rp K A d v ∧ aB K A ds r := by rw [aB]
theorem aB.length : ∀ {ds : List PyData} {vs : List V}, aB K A ds vs → ds.length = vs.length
  | [], vs, h => by rw [aB.nil] at h; rw [h]; rfl
  | d :: ds, vs, h => by
    rw [aB.cons] at h
    obtain ⟨v, r, rfl, _, h⟩ := h
    rw [List.length_cons, List.length_cons, aB.length h]
theorem aB.get : ∀ {ds : List PyData} {vs : List V} {i : Nat} {x : V}, aB K A ds vs → vs[i]? = some x → ∃ d, ds[i]? = some d ∧ Rp K A d x
  | [], vs, i, x, h, e => by rw [aB.nil] at h; subst h; simp at e
  | d :: ds, vs, i, x, h, e => by
    rw [aB.cons] at h
    obtain ⟨v, r, rfl, h1, h⟩ := h
    match i with
    | 0 => simp at e; subst e; exact ⟨d, rfl, h1⟩
    | i + 1 =>
      have e' : r[i]? = some x := by simpa using e
      obtain ⟨d', h2, h3⟩ := aB.get h e'
      exact ⟨d', by simpa using h2, h3⟩
theorem aB.get' : ∀ {ds : List PyData} {vs : List V} {i : Nat} {d : PyData}, aB K A ds vs → ds[i]? = some d → ∃ x, vs[i]? = some x ∧ Rp K A d x
  | [], vs, i, x, h, e => by simp at e
  | d :: ds, vs, i, x, h, e => by
    rw [aB.cons] at h
    obtain ⟨v, r, rfl, h1, h⟩ := h
    match i with
    | 0 => simp at e; subst e; exact ⟨v, rfl, h1⟩
    | i + 1 =>
      have e' : ds[i]? = some x := by simpa using e
      obtain ⟨d', h2, h3⟩ := aB.get' h e'
      exact ⟨d', by simpa using h2, h3⟩
theorem aB.append : ∀ {ds es : List PyData} {vs us : List V}, aB K A ds vs → aB K A es us → aB K A (ds ++ es) (vs ++ us)
  | [], es, vs, us, h, g => by rw [aB.nil] at h; subst h; exact g
  | d :: ds, es, vs, us, h, g => by
    rw [aB.cons] at h
    obtain ⟨v, r, rfl, h1, h⟩ := h
    rw [List.cons_append, List.cons_append, aB.cons]
    exact ⟨v, r ++ us, rfl, h1, aB.append h g⟩
theorem aB.one {d : PyData} {x : V} (h : Rp K A d x) : aB K A [d] [x] := by rw [aB.cons]; exact ⟨x, [], rfl, h, aB.nil.mpr rfl⟩
theorem aB.reverse : ∀ {ds : List PyData} {vs : List V}, aB K A ds vs → aB K A ds.reverse vs.reverse
  | [], vs, h => by rw [aB.nil] at h; subst h; exact aB.nil.mpr rfl
  | d :: ds, vs, h => by
    rw [aB.cons] at h
    obtain ⟨v, r, rfl, h1, h⟩ := h
    rw [List.reverse_cons, List.reverse_cons]
    exact (aB.reverse h).append (aB.one h1)
theorem aB.ints {ns : List Int} : aB K A (ns.map PyData.int) (ns.map V.int) := by
  induction ns with
  | nil => exact aB.nil.mpr rfl
  | cons n ns ih => exact aB.cons.mpr ⟨_, _, rfl, Rp.int.mpr rfl, ih⟩
end
inductive Fl where
  | imm | bor | own | fix (p : Addr) | exc (C : Addr) | nst (b : Bool)
  deriving DecidableEq
noncomputable def isO : Fl → Bool
  | .own => true
  | .fix _ => true
  | _ => false
noncomputable def isX : Fl → Bool
  | .exc _ => true
  | .nst _ => true
  | _ => false
noncomputable def RB (A : Hp) (C : Addr) (v : V) : Prop := ∃ p ob, v = .ref p ∧ A p = some (.frz ob (.own 0)) ∧ ob.cls = .ref C
noncomputable def JD : List PyData → Option (List Int)
  | [] => some []
  | .int i :: r => match JD r with
    | some l => some (i :: l)
    | none => none
  | _ :: _ => none
noncomputable def JB : List PyData → Option gJ
  | [] => some []
  | .tuple ds :: r => match JD ds, JB r with
    | some a, some b => some (a :: b)
    | _, _ => none
  | _ :: _ => none
noncomputable def RJ : PyData → Option gJ
  | .tuple ds => JB ds
  | _ => none
noncomputable def RpN (K : PySem.W.Frag) (A : Hp) (kvs : List (PyData × PyData)) (xs : List (gJ × Addr × Value)) : Prop := ∃ us : List (gJ × V), KN K A us xs ∧ Paired (fun p q => RJ p.1 = some q.1 ∧ Rp K A p.2 q.2) kvs us
noncomputable def Rw (K : PySem.W.Frag) (A B H : Hp) (d : PyData) (v : V) : Prop := ∃ p xs kvs, v = .ref p ∧ d = .dict kvs ∧ H p = some (JC p xs) ∧ A p = none ∧ B p = none ∧ RpN K A kvs xs
noncomputable def Pk (K : PySem.W.Frag) (A H : Hp) (d : PyData) (v : V) : Prop :=
  Rp K A d v ∨ (∃ p vs ds, v = .ref p ∧ d = .list ds ∧ SqL K H p vs ∧ aB K A ds vs) ∨ ∃ p u kvs, v = .ref p ∧ d = .dict kvs ∧ H p = some (.dK u) ∧ aX K A kvs u
noncomputable def jo (K : PySem.W.Frag) (A : Hp) (d : PyData) (o : HO) : Prop := (∃ ds vs, d = .list ds ∧ o = .lst vs ∧ aB K A ds vs) ∨ ∃ kvs u, d = .dict kvs ∧ o = .dK u ∧ aX K A kvs u
noncomputable def Own (K : PySem.W.Frag) (A B H : Hp) (d : PyData) (v : V) : Prop := ∃ p o, v = .ref p ∧ H p = some o ∧ A p = none ∧ B p = none ∧ jo K A d o
noncomputable def qJ (K : PySem.W.Frag) (A B H : Hp) : Fl → PyData → V → Prop
  | .imm, d, v => Rp K A d v
  | .bor, d, v => Pk K A B d v
  | .own, d, v => Own K A B H d v
  | .fix p, d, v => v = .ref p ∧ Own K A B H d v
  | .exc C, _, v => RB A C v
  | .nst b, d, v => b = true → Rw K A B H d v
noncomputable def Slot (K : PySem.W.Frag) (A B H : Hp) (f : Fl) (d : Option PyData) (v : Option V) : Prop := ∀ d', d = some d' → ∃ v', v = some v' ∧ qJ K A B H f d' v'
noncomputable abbrev fl (O : List Fl) (i : Nat) : Fl := O.getD i .imm
noncomputable abbrev gv (Γ : Ev) (i : Nat) : Option PyData := Γ.getD i none
noncomputable abbrev sv (σ : L2.St) (i : Nat) : Option V := σ.getD i none
structure aZ (K : PySem.W.Frag) (A B H : Hp) (O : List Fl) (σ : L2.St) (Γ : Ev) : Prop where
  a : aH A H
  b : aH B H
  len : Γ.length = σ.length
  slot : ∀ i, Slot K A B H (fl O i) (gv Γ i) (sv σ i)
  sep : ∀ i j, i ≠ j → isO (fl O i) = true → isO (fl O j) = true → gv Γ i ≠ none → gv Γ j ≠ none → sv σ i ≠ sv σ j
noncomputable def New (A A' B : Hp) : Prop := ∀ p, A p = none → B p ≠ none → A' p = none
structure aQ (A H A' H' : Hp) : Prop where
  aa : aH A A'
  hh : aH H H'
  ah : aH A' H'
  nw : New A A' H
theorem aQ.refl {A H : Hp} (h : aH A H) : aQ A H A H := ⟨aH.refl _, aH.refl _, h, fun _ h _ => h⟩
theorem aH.ne {H H' : Hp} (e : aH H H') {p : Addr} (h : H p ≠ none) : H' p ≠ none := by
  cases q : H p with
  | none => exact absurd q h
  | some o => rw [e p o q]; simp
theorem aQ.trans {A H A1 H1 A2 H2 : Hp} (g : aQ A H A1 H1) (g' : aQ A1 H1 A2 H2) : aQ A H A2 H2 :=
  ⟨g.aa.trans g'.aa, g.hh.trans g'.hh, g'.ah, fun p h1 h2 => g'.nw p (g.nw p h1 h2) (aH.ne g.hh h2)⟩
theorem New.mono {A A' B B' : Hp} (n : New A A' B') (s : aH B B') : New A A' B := fun p h1 h2 => n p h1 (aH.ne s h2)
theorem New.trans {A A1 A2 B : Hp} (n : New A A1 B) (m : New A1 A2 B) : New A A2 B := fun p h1 h2 => m p (n p h1 h2) h2
section
variable {K : PySem.W.Frag} {A B H A' H' : Hp} {O : List Fl} {σ : L2.St} {Γ : Ev} {d : PyData} {v : V}
theorem Pk.mono (ha : aH A A') (hh : aH H H') (h : Pk K A H d v) : Pk K A' H' d v := by
  rcases h with h | ⟨p, vs, ds, e1, e2, h1, h2⟩ | ⟨p, u, kvs, e1, e2, h1, h2⟩
  · exact .inl (Rp.mono ha d h)
  · exact .inr (.inl ⟨p, vs, ds, e1, e2, hh.seq h1, aB.mono ha ds h2⟩)
  · exact .inr (.inr ⟨p, u, kvs, e1, e2, hh _ _ h1, aX.mono ha kvs h2⟩)
theorem jo.mono {o : HO} (ha : aH A A') (h : jo K A d o) : jo K A' d o := by
  rcases h with ⟨ds, vs, e1, e2, h⟩ | ⟨kvs, u, e1, e2, h⟩
  · exact .inl ⟨ds, vs, e1, e2, aB.mono ha ds h⟩
  · exact .inr ⟨kvs, u, e1, e2, aX.mono ha kvs h⟩
theorem RpN.mono {kvs : List (PyData × PyData)} {xs : List (gJ × Addr × Value)} (ha : aH A A') (h : RpN K A kvs xs) : RpN K A' kvs xs := by
  obtain ⟨us, h1, h2⟩ := h
  exact ⟨us, h1.keeps fun b ys e => ha.oM e, Paired.uR h2 fun _ _ z => ⟨z.1, Rp.mono ha _ z.2⟩⟩
theorem jo.nx {o : HO} {p : Addr} {xs : List (gJ × Addr × Value)} (h : jo K A d o) (e : some o = some (JC p xs)) : False := by
  rcases h with ⟨ds, vs, e1, e2, h⟩ | ⟨kvs, u, e1, e2, h⟩ <;> (rw [e2] at e; cases e)
theorem qJ.grow (g : aQ A H A' H') {f : Fl} (h : qJ K A B H f d v) : qJ K A' B H' f d v := by
  cases f with
  | imm => exact Rp.mono g.aa d h
  | bor => exact Pk.mono g.aa (aH.refl _) h
  | own =>
    obtain ⟨p, o, e, h1, h2, h3, h4⟩ := h
    exact ⟨p, o, e, g.hh _ _ h1, g.nw p h2 (by rw [h1]; simp), h3, h4.mono g.aa⟩
  | fix p0 =>
    obtain ⟨e0, p, o, e, h1, h2, h3, h4⟩ := h
    exact ⟨e0, p, o, e, g.hh _ _ h1, g.nw p h2 (by rw [h1]; simp), h3, h4.mono g.aa⟩
  | exc C =>
    obtain ⟨p, ob, e, h1, h2⟩ := h
    exact ⟨p, ob, e, g.aa _ _ h1, h2⟩
  | nst b =>
    intro z
    obtain ⟨p, xs, kvs, w1, w2, w3, w4, w5, w6⟩ := h z
    exact ⟨p, xs, kvs, w1, w2, g.hh _ _ w3, g.nw p w4 (by rw [w3]; simp), w5, w6.mono g.aa⟩
theorem Slot.grow (g : aQ A H A' H') {f : Fl} {d : Option PyData} {v : Option V} (h : Slot K A B H f d v) : Slot K A' B H' f d v := fun d' e =>
  let ⟨v', e', q⟩ := h d' e; ⟨v', e', q.grow g⟩
theorem aZ.grow (g : aQ A H A' H') (r : aZ K A B H O σ Γ) : aZ K A' B H' O σ Γ :=
  ⟨g.ah, r.b.trans g.hh, r.len, fun i => (r.slot i).grow g, r.sep⟩
theorem jo.share {o : HO} {p : Addr} (h : jo K A d o) (s : aH A (upd A p o)) : Rp K (upd A p o) d (.ref p) := by
  rcases h with ⟨ds, vs, e1, e2, h⟩ | ⟨kvs, u, e1, e2, h⟩
  · subst e1; subst e2
    exact Rp.list.mpr ⟨p, vs, rfl, SqL.of bz, aB.mono s ds h⟩
  · subst e1; subst e2
    exact (by rw [Rp]; exact ⟨p, u, rfl, bz, aX.mono s kvs h⟩)
theorem Own.pk (h : Own K A B H d v) : Pk K A H d v := by
  obtain ⟨p, o, e, h1, _, _, ⟨ds, vs, e2, e3, h4⟩ | ⟨kvs, u, e2, e3, h4⟩⟩ := h
  · subst e3
    exact .inr (.inl ⟨p, vs, ds, e, e2, SqL.of h1, h4⟩)
  · subst e3
    exact .inr (.inr ⟨p, u, kvs, e, e2, h1, h4⟩)
theorem qJ.pk (hb : aH B H) {f : Fl} (h : qJ K A B H f d v) (hx : isX f = false) : Pk K A H d v := by
  cases f with
  | imm => exact .inl h
  | bor => exact Pk.mono (aH.refl _) hb h
  | own => exact Own.pk h
  | fix p0 => exact Own.pk h.2
  | exc C => cases hx
  | nst b => cases hx
theorem Pk.list (ha : aH A H) {ds : List PyData} (h : Pk K A H (.list ds) v) : ∃ p vs, v = .ref p ∧ SqL K H p vs ∧ aB K A ds vs := by
  rcases h with h | ⟨p, vs, ds', e1, e2, h1, h2⟩ | ⟨p, u, kvs, e1, e2, h1, h2⟩
  · obtain ⟨a, vs, e, h1, h2⟩ := Rp.list.mp h
    exact ⟨a, vs, e, ha.seq h1, h2⟩
  · cases e2
    exact ⟨p, vs, e1, h1, h2⟩
  · cases e2
theorem Pk.jH (h : Pk K A H d v) (n : ∀ ds, d ≠ .list ds) (n2 : ∀ kvs, d ≠ .dict kvs) : Rp K A d v := by
  rcases h with h | ⟨p, vs, ds', e1, e2, h1, h2⟩ | ⟨p, u, kvs, e1, e2, h1, h2⟩
  · exact h
  · exact absurd e2 (n ds')
  · exact absurd e2 (n2 kvs)
theorem Pk.int {i : Int} (h : Pk K A H (.int i) v) : v = .int i := Rp.int.mp (h.jH (fun _ z => nomatch z) (fun _ z => nomatch z))
theorem Pk.bool {i : Bool} (h : Pk K A H (.bool i) v) : v = .bl i := Rp.bool.mp (h.jH (fun _ z => nomatch z) (fun _ z => nomatch z))
theorem Pk.none (h : Pk K A H .none v) : v = .non := Rp.none.mp (h.jH (fun _ z => nomatch z) (fun _ z => nomatch z))
theorem Pk.str {x : Str} (h : Pk K A H (.str x) v) : v = .str x := Rp.str.mp (h.jH (fun _ z => nomatch z) (fun _ z => nomatch z))
theorem Pk.tuple (ha : aH A H) {ds : List PyData} (h : Pk K A H (.tuple ds) v) : ∃ p vs, v = .ref p ∧ SqT K H p vs ∧ aB K A ds vs := by
  obtain ⟨a, vs, e, h1, h2⟩ := Rp.tuple.mp (h.jH (fun _ z => nomatch z) (fun _ z => nomatch z))
  exact ⟨a, vs, e, ha.oM h1, h2⟩
theorem Pk.is (ha : aH A H) (hc : SeqAt.shaped d = true) (h : Pk K A H d v) : Is K H d v := by
  have c := SeqAt.canLay_of_shaped hc
  rcases h with h | ⟨p, vs, ds', e1, e2, h1, h2⟩ | ⟨p, u, kvs, e1, e2, h1, h2⟩
  rotate_right
  · subst e2
    rw [PyData.canLay0] at c
    cases c
  · exact Is.mono ha d (Rp.is d c h)
  · subst e2
    rw [Is]
    rw [PyData.canLay0] at c
    exact ⟨p, vs, e1, h1, cQ.mono ha ds' (aB.is ds' c h2)⟩
theorem Rp.dict {kvs : List (PyData × PyData)} : Rp K A (.dict kvs) v ↔ ∃ a u, v = .ref a ∧ A a = some (.dK u) ∧ aX K A kvs u := by rw [Rp]
theorem aX.nil {u : List (Key × V)} : aX K A [] u ↔ u = [] := by rw [aX]
theorem aX.cons {k d : PyData} {r : List (PyData × PyData)} {u : List (Key × V)} : aX K A ((k, d) :: r) u ↔ ∃ key v u', u = (key, v) :: u' ∧ cI k = some key ∧ Rp K A d v ∧ aX K A r u' := by rw [aX]
theorem Pk.dict (ha : aH A H) {kvs : List (PyData × PyData)} (h : Pk K A H (.dict kvs) v) : ∃ a u, v = .ref a ∧ H a = some (.dK u) ∧ aX K A kvs u := by
  rcases h with h | ⟨p, vs, ds', e1, e2, h1, h2⟩ | ⟨p, u, kvs', e1, e2, h1, h2⟩
  · obtain ⟨a, u, e, h1, h2⟩ := Rp.dict.mp h
    exact ⟨a, u, e, ha _ _ h1, h2⟩
  · cases e2
  · cases e2
    exact ⟨p, u, e1, h1, h2⟩
theorem aQ.new {p : Addr} {o : HO} (ha : aH A H) (h : H p = none) : aQ A H (upd A p o) (upd H p o) :=
  ⟨aH.new (ha.free h) o, aH.new h o, fun b u q => by
    by_cases hb : b = p
    · subst hb; rw [bz] at q ⊢; exact q
    · rw [bw hb] at q ⊢; exact ha b u q, fun b h1 h2 => by
    have hb : b ≠ p := fun z => h2 (z ▸ h)
    rw [bw hb]; exact h1⟩
theorem aQ.lay {p : Addr} {o : HO} (ha : aH A H) (h : H p = none) : aQ A H A (upd H p o) :=
  ⟨aH.refl _, aH.new h o, ha.trans (aH.new h o), fun b h1 _ => h1⟩
end
end L3
namespace L3
open PySem PySem.Spec PyProof.Rows L2
noncomputable def noStar : Expr → Bool
  | .Starred _ _ => false
  | _ => true
noncomputable def iQ : List Expr → Bool
  | [] => true
  | e :: es => noStar e && iQ es
theorem bV {e : Expr} {es : List Expr} {env : Env} (h : noStar e = true) : starEach (e :: es) env = (false, eval e env) :: starEach es env := by
  cases e <;> first | rfl | cases h
theorem gF : ∀ {es : List Expr} {env : Env} {pos : Pos}, iQ es = true → (backTo pos (starEach es env)).any (·.1) = false
  | [], _, _, _ => rfl
  | e :: es, env, pos, h => by
    rw [iQ, Bool.and_eq_true] at h
    rw [bV h.1]
    show (false || (backTo pos (starEach es env)).any (·.1)) = false
    rw [gF h.2]
    rfl
noncomputable def tE (K : PySem.W.Frag) (O : List Fl) (m : ME) : TE := fun σ H Q => ∃ A B Γ d, aZ K A B H O σ Γ ∧ m Γ = .ok d ∧ ∀ v A' H', aQ A H A' H' → Rp K A' d v → Q v H'
noncomputable def tP (K : PySem.W.Frag) (O : List Fl) (m : ME) : TE := fun σ H Q => ∃ A B Γ d, aZ K A B H O σ Γ ∧ m Γ = .ok d ∧ ∀ v A' H', aQ A H A' H' → Pk K A' H' d v → Q v H'
noncomputable def qm (K : PySem.W.Frag) (H A' H' : Hp) (d : PyData) (v : V) : Prop := ∃ p o, v = .ref p ∧ H p = none ∧ H' p = some o ∧ A' p = none ∧ jo K A' d o
noncomputable def tF (K : PySem.W.Frag) (O : List Fl) (m : ME) : TE := fun σ H Q => ∃ A B Γ d, aZ K A B H O σ Γ ∧ m Γ = .ok d ∧ ∀ v A' H', aQ A H A' H' → qm K H A' H' d v → Q v H'
noncomputable def tT (K : PySem.W.Frag) (O : List Fl) (m : ME) : TT := fun σ H Q => ∃ A B Γ b, aZ K A B H O σ Γ ∧ m Γ = .ok (.bool b) ∧ ∀ A' H', aQ A H A' H' → Q b H'
section
variable {X : Cx}
theorem PE.imp {e : Expr} {t t' : TE} (h : PE X e t) (i : ∀ σ H Q, t' σ H Q → t σ H Q) : PE X e t' := fun pins s σ H Q I q => h pins s σ H Q I (i σ H Q q)
theorem PT.imp {e : Expr} {t t' : TT} (h : PT X e t) (i : ∀ σ H Q, t' σ H Q → t σ H Q) : PT X e t' := fun pins s σ H Q I q => h pins s σ H Q I (i σ H Q q)
theorem PW.imp {e : Expr} {t t' : TT} (h : PW X e t) (i : ∀ σ H Q, t' σ H Q → t σ H Q) : PW X e t' := fun w pins s σ H Q I q => h w pins s σ H Q I (i σ H Q q)
theorem PA.imp {e : List Expr} {t t' : TA} (h : PA X e t) (i : ∀ σ H Q, t' σ H Q → t σ H Q) : PA X e t' := fun pos pins s σ H Q I q => h pos pins s σ H Q I (i σ H Q q)
theorem PS.imp {e : Stmt} {t t' : TS} (h : PS X e t) (i : ∀ D σ H, t' D σ H → t D σ H) : PS X e t' := fun pins s σ H D I q => h pins s σ H D I (i D σ H q)
theorem PSs.imp {e : List Stmt} {t t' : TS} (h : PSs X e t) (i : ∀ D σ H, t' D σ H → t D σ H) : PSs X e t' := fun pins s σ H D I q => h pins s σ H D I (i D σ H q)
theorem PI.imp {tg e : Expr} {t t' : TI} (h : PI X tg e t) (i : ∀ σ H R, t' σ H R → t σ H R) : PI X tg e t' := fun pins s σ H R I q => h pins s σ H R I (i σ H R q)
end
section
variable (X : Cx)
structure QE (e : Expr) (t : TE) : Prop where
  h : PE X e t
structure QT (e : Expr) (t : TT) : Prop where
  h : PT X e t
structure QW (e : Expr) (t : TT) : Prop where
  h : PW X e t
structure QA (e : List Expr) (t : TA) : Prop where
  h : PA X e t
structure QS (e : Stmt) (t : TS) : Prop where
  h : PS X e t
structure QSs (e : List Stmt) (t : TS) : Prop where
  h : PSs X e t
structure QI (tg e : Expr) (t : TI) : Prop where
  h : PI X tg e t
structure QG (tg : Expr) (t : TG) : Prop where
  h : PG X tg t
structure QGs (tg : List Expr) (t : TGs) : Prop where
  h : PGs X tg t
structure rR (e : List Expr) (t : TT) : Prop where
  h : mZ X e t
end
section
variable {X : Cx}
theorem QE.imp {e : Expr} {t t' : TE} (h : PE X e t) (i : ∀ σ H Q, t' σ H Q → t σ H Q) : QE X e t' := ⟨PE.imp h i⟩
theorem QT.imp {e : Expr} {t t' : TT} (h : PT X e t) (i : ∀ σ H Q, t' σ H Q → t σ H Q) : QT X e t' := ⟨PT.imp h i⟩
theorem QW.imp {e : Expr} {t t' : TT} (h : PW X e t) (i : ∀ σ H Q, t' σ H Q → t σ H Q) : QW X e t' := ⟨PW.imp h i⟩
theorem QA.imp {e : List Expr} {t t' : TA} (h : PA X e t) (i : ∀ σ H Q, t' σ H Q → t σ H Q) : QA X e t' := ⟨PA.imp h i⟩
theorem QS.imp {e : Stmt} {t t' : TS} (h : PS X e t) (i : ∀ D σ H, t' D σ H → t D σ H) : QS X e t' := ⟨PS.imp h i⟩
theorem QSs.imp {e : List Stmt} {t t' : TS} (h : PSs X e t) (i : ∀ D σ H, t' D σ H → t D σ H) : QSs X e t' := ⟨PSs.imp h i⟩
theorem QI.imp {tg e : Expr} {t t' : TI} (h : PI X tg e t) (i : ∀ σ H R, t' σ H R → t σ H R) : QI X tg e t' := ⟨PI.imp h i⟩
end
section
variable {X : Cx} {K : PySem.W.Frag} {O : List Fl} {m m1 m2 : ME} {e a b c : Expr} {pos : Pos}
theorem sp (h : QE X e (tE K O m)) : QE X e (tP K O m) := QE.imp h.h fun σ H Q hq__ => by obtain ⟨A, B, Γ, d, r, em, k⟩ := hq__; exact ⟨A, B, Γ, d, r, em, fun v A' H' g p => k v A' H' g (.inl p)⟩
theorem qm.share {A H A' H' : Hp} {d : PyData} {v : V} (g : aQ A H A' H') (h : qm K H A' H' d v) : ∃ A'', aQ A H A'' H' ∧ Rp K A'' d v := by
  obtain ⟨p, o, rfl, h1, h2, h3, h4⟩ := h
  have s : aH A' (upd A' p o) := aH.new h3 _
  refine ⟨upd A' p o, ⟨g.aa.trans s, g.hh, fun b u q => ?_, fun b n1 n2 => ?_⟩, h4.share s⟩
  · by_cases hb : b = p
    · subst hb; rw [bz] at q; rw [h2]; exact q
    · rw [bw hb] at q; exact g.ah b u q
  · have hb : b ≠ p := fun z => n2 (z ▸ h1)
    rw [bw hb]; exact g.nw b n1 n2
theorem sfe (h : QE X e (tF K O m)) : QE X e (tE K O m) := QE.imp h.h fun σ H Q ⟨A, B, Γ, d, r, em, k⟩ => ⟨A, B, Γ, d, r, em, fun v A' H' g p => by
  obtain ⟨A'', g', p'⟩ := p.share g
  exact k v A'' H' g' p'⟩
theorem sfp (h : QE X e (tF K O m)) : QE X e (tP K O m) := sp (sfe h)
noncomputable def ak (i : Nat) : ME := fun Γ => match gv Γ i with
  | some d => .ok d
  | none => .bad
noncomputable def eC (d : PyData) : ME := fun _ => .ok d
theorem qR {i : Nat} {Γ : Ev} {d : PyData} (h : ak i Γ = .ok d) : gv Γ i = some d := by
  unfold ak at h
  cases q : gv Γ i with
  | none => rw [q] at h; cases h
  | some d' => rw [q] at h; cases h; rfl
theorem oh {σ : L2.St} {i : Nat} {v : V} (h : sv σ i = some v) : σ[i]? = some (some v) := by
  unfold sv at h
  rw [List.getD_eq_getElem?_getD] at h
  cases q : σ[i]? with
  | none => rw [q] at h; cases h
  | some o => rw [q] at h; exact congrArg some h
theorem aj (i : Nat) {x : Str} (hN : X.N[i]? = some x := by rfl) (hv : Vis X.env.scope x := by first | exact Or.inl rfl | exact Or.inr (Or.inl rfl) | exact Or.inr (Or.inr rfl)) (hd : (x == ("__debug__" : Str)) = false := by decide)
    (hcd : (x == ("__classdict__" : Str)) = false := by decide) (hx : isX (fl O i) = false := by rfl) : QE X (.Name x pos) (tP K O (ak i)) := QE.imp (n8 hN hv hd hcd) fun σ H Q hq__ => by
  obtain ⟨A, B, Γ, d, r, em, k⟩ := hq__
  obtain ⟨v, e1, q⟩ := r.slot i d (qR em)
  exact ⟨v, oh e1, k v A H (aQ.refl r.a) (q.pk r.b hx)⟩
theorem bx (i : Nat) {x : Str} (hi : fl O i = .imm := by rfl) (hN : X.N[i]? = some x := by rfl) (hv : Vis X.env.scope x := by first | exact Or.inl rfl | exact Or.inr (Or.inl rfl) | exact Or.inr (Or.inr rfl)) (hd : (x == ("__debug__" : Str)) = false := by decide)
    (hcd : (x == ("__classdict__" : Str)) = false := by decide) : QE X (.Name x pos) (tE K O (ak i)) := QE.imp (n8 hN hv hd hcd) fun σ H Q hq__ => by
  obtain ⟨A, B, Γ, d, r, em, k⟩ := hq__
  obtain ⟨v, e1, q⟩ := r.slot i d (qR em)
  rw [hi] at q
  exact ⟨v, oh e1, k v A H (aQ.refl r.a) q⟩
theorem xu {v : V} {d : PyData} (h : PE X e (tC v)) (hr : ∀ A, Rp K A d v) : QE X e (tE K O (eC d)) := QE.imp h fun σ H Q hq__ => by
  obtain ⟨A, B, Γ, d', r, em, k⟩ := hq__
  cases em
  exact k v A H (aQ.refl r.a) (hr A)
theorem aq {i : Int} {j pos} : QE X (.Constant (.int i) j pos) (tE K O (eC (.int i))) := xu Ow fun _ => Rp.int.mpr rfl
theorem cO {i : Bool} {j pos} : QE X (.Constant (.bool i) j pos) (tE K O (eC (.bool i))) := xu Qn fun _ => Rp.bool.mpr rfl
theorem Ej {j pos} : QE X (.Constant .none j pos) (tE K O (eC .none)) := xu Nb fun _ => Rp.none.mpr rfl
theorem qg {x : Str} {j pos} : QE X (.Constant (.str x) j pos) (tE K O (eC (.str x))) := xu PX fun _ => Rp.str.mpr rfl
theorem n6 {x : Str} {v : V} {u : Value} {d : PyData} {pos : Pos} (hg : Gl X x) (hm : X.mg x = some u) (r : RelV v u) (hr : ∀ A, Rp K A d v) (hd : (x == ("__debug__" : Str)) = false := by decide) : QE X (.Name x pos) (tE K O (eC d)) :=
  xu (Lk hg hm r hd) hr
noncomputable def az (f : PyData → PyData → Res PyData) (a b : ME) : ME := fun Γ => (a Γ).bind fun x => (b Γ).bind fun y => f x y
noncomputable def rD (K : PySem.W.Frag) (f : PyData → PyData → Res PyData) : R2 := fun x y H Q => ∃ A d1 d2 d, f d1 d2 = .ok d ∧ aH A H ∧ Pk K A H d1 x ∧ Pk K A H d2 y ∧ ∀ v A' H', aQ A H A' H' → Rp K A' d v → Q v H'
theorem uG {f : PyData → PyData → Res PyData} {σ : L2.St} {H : Hp} {Q : VK} (h : tE K O (az f m1 m2) σ H Q) : tOp (rD K f) (tP K O m1) (tP K O m2) σ H Q := by
  obtain ⟨A, B, Γ, d, r, em, k⟩ := h
  obtain ⟨d1, e1, em⟩ := Res.aF em
  obtain ⟨d2, e2, em⟩ := Res.aF em
  refine ⟨A, B, Γ, d1, r, e1, fun x A1 H1 g1 p1 => ⟨A1, B, Γ, d2, r.grow g1, e2, fun y A2 H2 g2 p2 => ⟨A2, d1, d2, d, em, g2.ah, p1.mono g2.aa g2.hh, p2, fun v A' H' g3 p3 => k v A' H' ((g1.trans g2).trans g3) p3⟩⟩⟩
theorem N7 {f : PyData → PyData → Res PyData} {σ : L2.St} {H : Hp} {Q : Bool → Hp → Prop} (h : tT K O (az f m1 m2) σ H Q) : Cq (tOp (rD K f) (tP K O m1) (tP K O m2)) σ H Q := by
  obtain ⟨A, B, Γ, bb, r, em, k⟩ := h
  exact uG ⟨A, B, Γ, _, r, em, fun v A' H' g p => ⟨bb, Rp.bool.mp p, k A' H' g⟩⟩
theorem aG {op : Operator} {f : PyData → PyData → Res PyData} (ho : OpR X (binaryOp op) (rD K f)) (ha : QE X a (tP K O m1)) (hb : QE X b (tP K O m2)) : QE X (.BinOp a op b pos) (tE K O (az f m1 m2)) := QE.imp (Jt ho ha.h hb.h) fun _ _ _ => uG
theorem lG {op : CmpOp} {f : PyData → PyData → Res PyData} (ho : OpR X (compareOp op) (rD K f)) (ha : QE X a (tP K O m1)) (hb : QE X b (tP K O m2)) (hm : behindInMarks op b = false) : QE X (.Compare a [op] [b] pos) (tE K O (az f m1 m2)) := QE.imp (JP ho ha.h hb.h hm) fun _ _ _ => uG
theorem bH {op : CmpOp} {f : PyData → PyData → Res PyData} (ho : OpR X (compareOp op) (rD K f)) (ha : QE X a (tP K O m1)) (hb : QE X b (tP K O m2)) (hm : behindInMarks op b = false) : QT X (.Compare a [op] [b] pos) (tT K O (az f m1 m2)) := QT.imp (Ly ho ha.h hb.h hm) fun _ _ _ => N7
noncomputable def kZ (f g : PyData → PyData → Res PyData) (a b c : ME) : ME := fun Γ => (a Γ).bind fun x => (b Γ).bind fun y => (f x y).bind fun t => match t with
  | .bool true => (c Γ).bind fun z => g y z
  | .bool false => .ok (.bool false)
  | _ => .bad
theorem Ja {f g : PyData → PyData → Res PyData} {m3 : ME} {σ : L2.St} {H : Hp} {Q : VK} (h : tE K O (kZ f g m1 m2 m3) σ H Q) : Fz (rD K f) (rD K g) (tP K O m1) (tP K O m2) (tP K O m3) σ H Q := by
  obtain ⟨A, B, Γ, d, r, em, k⟩ := h
  obtain ⟨d1, e1, em⟩ := Res.aF em
  obtain ⟨d2, e2, em⟩ := Res.aF em
  obtain ⟨t, e3, em⟩ := Res.aF em
  refine ⟨A, B, Γ, d1, r, e1, fun x A1 H1 g1 p1 => ⟨A1, B, Γ, d2, r.grow g1, e2, fun y A2 H2 g2 p2 => ⟨A2, d1, d2, t, e3, g2.ah, p1.mono g2.aa g2.hh, p2, fun v A3 H3 g3 p3 => ?_⟩⟩⟩
  cases t with
  | bool bb =>
    refine ⟨bb, Rp.bool.mp p3, ?_⟩
    cases bb with
    | false =>
      cases em
      exact u0 (k _ A3 H3 ((g1.trans g2).trans g3) (Rp.bool.mpr rfl))
    | true =>
      obtain ⟨d3, e4, em⟩ := Res.aF em
      exact vd ⟨A3, B, Γ, d3, ((r.grow g1).grow g2).grow g3, e4, fun z A4 H4 g4 p4 => ⟨A4, d2, d3, d, em, g4.ah, (p2.mono g3.aa g3.hh).mono g4.aa g4.hh, p4, fun v A' H' g5 p5 => k v A' H' ((((g1.trans g2).trans g3).trans g4).trans g5) p5⟩⟩
  | _ => cases em
theorem oK {op op' : CmpOp} {f g : PyData → PyData → Res PyData} {m3 : ME} (ho : OpR X (compareOp op) (rD K f)) (ho' : OpR X (compareOp op') (rD K g)) (ha : QE X a (tP K O m1)) (hb : QE X b (tP K O m2)) (hc : QE X c (tP K O m3))
    (hm : lastMarks [op, op'] [b, c] = false := by with_unfolding_all rfl) : QT X (.Compare a [op, op'] [b, c] pos) (tT K O (kZ f g m1 m2 m3)) := QT.imp (Hr ho ho' ha.h hb.h hc.h hm) fun σ H Q ⟨A, B, Γ, bb, r, em, k⟩ =>
  Ja ⟨A, B, Γ, _, r, em, fun v A' H' g p => ⟨bb, Rp.bool.mp p, k A' H' g⟩⟩
noncomputable def jK (a b : ME) : ME := fun Γ => (a Γ).bind fun x => match x with
  | .bool true => b Γ
  | .bool false => .ok (.bool false)
  | _ => .bad
noncomputable def eOr (a b : ME) : ME := fun Γ => (a Γ).bind fun x => match x with
  | .bool false => b Γ
  | .bool true => .ok (.bool true)
  | _ => .bad
noncomputable def dX (a : ME) : ME := fun Γ => (a Γ).bind fun x => match x with
  | .bool t => .ok (.bool (!t))
  | _ => .bad
theorem p7 {op} (h : QE X a (tE K O m)) : QE X (.BoolOp op [a] pos) (tE K O m) := ⟨M8 h.h⟩
theorem nU {rest : List Expr} (ha : QE X a (tE K O m1)) (hb : QE X (.BoolOp .And (b :: rest) pos) (tE K O m2)) : QE X (.BoolOp .And (a :: b :: rest) pos) (tE K O (jK m1 m2)) := QE.imp (Og ha.h hb.h) fun σ H Q hq__ => by
  obtain ⟨A, B, Γ, d, r, em, k⟩ := hq__
  obtain ⟨d1, e1, em⟩ := Res.aF em
  refine ⟨A, B, Γ, d1, r, e1, fun v A1 H1 g1 p1 => ?_⟩
  cases d1 with
  | bool bb =>
    refine ⟨bb, Rp.bool.mp p1, ?_⟩
    cases bb with
    | true => exact vd ⟨A1, B, Γ, d, r.grow g1, em, fun v A' H' g p => k v A' H' (g1.trans g) p⟩
    | false => cases em; exact u0 (k _ A1 H1 g1 (Rp.bool.mpr rfl))
  | _ => cases em
theorem Oj (ha : QE X a (tE K O m1)) : QE X (.UnaryOp .Not a pos) (tE K O (dX m1)) := QE.imp (Mp ha.h) fun σ H Q hq__ => by
  obtain ⟨A, B, Γ, d, r, em, k⟩ := hq__
  obtain ⟨d1, e1, em⟩ := Res.aF em
  refine ⟨A, B, Γ, d1, r, e1, fun v A1 H1 g1 p1 => ?_⟩
  cases d1 with
  | bool bb => cases em; exact ⟨bb, Rp.bool.mp p1, k _ A1 H1 g1 (Rp.bool.mpr rfl)⟩
  | _ => cases em
theorem lF (h : QE X e (tE K O m)) (he : ∀ whole, isTrue e X.env whole = (do let v ← whole; standAt e.pos; holding [v] (truthy v)) := by intro _; rfl) : QT X e (tT K O m) := QT.imp (M3 h.h he) fun σ H Q ⟨A, B, Γ, bb, r, em, k⟩ =>
  ⟨A, B, Γ, _, r, em, fun v A' H' g p => ⟨bb, Rp.bool.mp p, k A' H' g⟩⟩
theorem u9 (ha : QT X a (tT K O m)) : QW X (.BoolOp .And [a] pos) (tT K O m) := ⟨J9 ha.h⟩
theorem ig (ha : QT X a (tT K O m)) : QW X (.BoolOp .Or [a] pos) (tT K O m) := ⟨Pr ha.h⟩
theorem sX {rest : List Expr} (ha : QT X a (tT K O m1)) (hb : QW X (.BoolOp .And (b :: rest) pos) (tT K O m2)) : QW X (.BoolOp .And (a :: b :: rest) pos) (tT K O (jK m1 m2)) := QW.imp (Oc ha.h hb.h) fun σ H Q hq__ => by
  obtain ⟨A, B, Γ, d, r, em, k⟩ := hq__
  obtain ⟨d1, e1, em⟩ := Res.aF em
  cases d1 with
  | bool bb =>
    refine ⟨A, B, Γ, bb, r, e1, fun A1 H1 g1 => ?_⟩
    cases bb with
    | true => exact vd ⟨A1, B, Γ, d, r.grow g1, em, fun A' H' g => k A' H' (g1.trans g)⟩
    | false => cases em; exact u0 (k A1 H1 g1)
  | _ => cases em
theorem d7 {rest : List Expr} (ha : QT X a (tT K O m1)) (hb : QW X (.BoolOp .Or (b :: rest) pos) (tT K O m2)) : QW X (.BoolOp .Or (a :: b :: rest) pos) (tT K O (eOr m1 m2)) := QW.imp (Qo ha.h hb.h) fun σ H Q hq__ => by
  obtain ⟨A, B, Γ, d, r, em, k⟩ := hq__
  obtain ⟨d1, e1, em⟩ := Res.aF em
  cases d1 with
  | bool bb =>
    refine ⟨A, B, Γ, bb, r, e1, fun A1 H1 g1 => ?_⟩
    cases bb with
    | false => exact u0 ⟨A1, B, Γ, d, r.grow g1, em, fun A' H' g => k A' H' (g1.trans g)⟩
    | true => cases em; exact vd (k A1 H1 g1)
  | _ => cases em
theorem g8 (h : QW X e (tT K O m)) : QT X e (tT K O m) := ⟨h.h.pt⟩
theorem cF (ha : QT X a (tT K O m1)) : QT X (.UnaryOp .Not a pos) (tT K O (dX m1)) := QT.imp (Mz ha.h) fun σ H Q hq__ => by
  obtain ⟨A, B, Γ, d, r, em, k⟩ := hq__
  obtain ⟨d1, e1, em⟩ := Res.aF em
  cases d1 with
  | bool bb => cases em; exact ⟨A, B, Γ, bb, r, e1, fun A1 H1 g1 => k A1 H1 g1⟩
  | _ => cases em
noncomputable def jW : PyData → Res PyData
  | .none => .ok (.bool false)
  | .bool b => .ok (.bool b)
  | .int i => .ok (.bool (i != 0))
  | .list ds => .ok (.bool (!ds.isEmpty))
  | .tuple ds => .ok (.bool (!ds.isEmpty))
  | .str x => gd (x.length ≤ sizeLine) (.ok (.bool ((x.length : Int) != 0)))
  | _ => .bad
noncomputable def eUn (f : PyData → Res PyData) (a : ME) : ME := fun Γ => (a Γ).bind f
theorem aB.isEmpty {A : Hp} {ds : List PyData} {vs : List V} (h : aB K A ds vs) : vs.isEmpty = ds.isEmpty := by
  cases ds with
  | nil => rw [aB.nil] at h; subst h; rfl
  | cons d ds => rw [aB.cons] at h; obtain ⟨v, r, rfl, _⟩ := h; rfl
theorem ie (h : QE X a (tP X.K O m)) (he : ∀ whole, isTrue a X.env whole = (do let v ← whole; standAt a.pos; holding [v] (truthy v)) := by intro _; rfl) : QT X a (tT X.K O (eUn jW m)) := QT.imp (Il h.h he) fun σ H Q hq__ => by
  obtain ⟨A, B, Γ, bb, r, em, k⟩ := hq__
  obtain ⟨d1, e1, em⟩ := Res.aF em
  refine ⟨A, B, Γ, d1, r, e1, fun v A1 H1 g1 p1 => ⟨bb, ?_, k A1 H1 g1⟩⟩
  cases d1 with
  | none => cases em; rw [p1.none]; rfl
  | bool b => cases em; rw [p1.bool]; rfl
  | int i => cases em; rw [p1.int]; rfl
  | str x =>
    obtain ⟨hz, em⟩ := bL em
    cases em; rw [p1.str]; exact ⟨hz, rfl⟩
  | list ds =>
    cases em
    obtain ⟨p, vs, rfl, h1, h2⟩ := p1.list g1.ah
    exact .inl ⟨vs, h1, by rw [h2.isEmpty]⟩
  | tuple ds =>
    cases em
    obtain ⟨p, vs, rfl, h1, h2⟩ := p1.tuple g1.ah
    exact .inr (.inl ⟨vs, h1, by rw [h2.isEmpty]⟩)
  | dict _ => cases em
end
end L3
namespace L3
open PySem PySem.Spec PyProof.Rows L2
noncomputable def lL (g : Int → Int → Res PyData) : PyData → PyData → Res PyData
  | .int a, .int b => g a b
  | _, _ => .bad
theorem gj {g : Int → Int → Res PyData} {a b d : PyData} (e : lL g a b = .ok d) : ∃ i j, a = .int i ∧ b = .int j ∧ g i j = .ok d := by
  cases a with
  | int i =>
    cases b with
    | int j => exact ⟨i, j, rfl, rfl, e⟩
    | _ => cases e
  | _ => cases e
noncomputable def cP : PyData → PyData → Res PyData
  | .int a, .int b => .ok (.int (a + b))
  | .str a, .str b => gd (a.length + b.length ≤ sizeLine) (.ok (.str (a ++ b)))
  | .list a, .list b => gd (a.length + b.length ≤ sizeLine) (.ok (.list (a ++ b)))
  | .tuple a, .tuple b => gd (a.length + b.length ≤ sizeLine) (.ok (.tuple (a ++ b)))
  | .int a, .bool b => .ok (.int (a + b2i b))
  | _, _ => .bad
noncomputable def Ir : PyData → PyData → Res PyData := lL fun a b => .ok (.int (a - b))
instance (i j : Int) : Decidable (pK i j) := by unfold pK; infer_instance
instance (i j : Int) : Decidable (vh i j) := by unfold vh; infer_instance
instance (i j : Int) : Decidable (j4 i j) := by unfold j4; infer_instance
noncomputable def jP : PyData → PyData → Res PyData := lL fun a b => gd (pK a b) (.ok (.int (a * b)))
noncomputable def jl : PyData → PyData → Res PyData := lL fun a b => gd (vh a b) (.ok (.int (a / b)))
noncomputable def ir : PyData → PyData → Res PyData := lL fun a b => gd (0 < b) (.ok (.int (a % b)))
noncomputable def j6 : PyData → PyData → Res PyData := lL fun a b => gd (j4 a b) (.ok (.int (a * 2 ^ b.toNat)))
noncomputable def vg : PyData → PyData → Res PyData := lL fun a b => gd (0 ≤ b) (.ok (.int (a / 2 ^ b.toNat)))
noncomputable def pQ : PyData → PyData → Res PyData := lL fun a b => .ok (.int (Builtin.bitAnd a b))
noncomputable def orD : PyData → PyData → Res PyData := lL fun a b => .ok (.int (Builtin.bitOr a b))
noncomputable def Iu : PyData → Res PyData
  | .int a => .ok (.int (-a))
  | _ => .bad
noncomputable def ltD : PyData → PyData → Res PyData := lL fun a b => .ok (.bool (decide (a < b)))
noncomputable def leD : PyData → PyData → Res PyData := lL fun a b => .ok (.bool (decide (a ≤ b)))
noncomputable def gtD : PyData → PyData → Res PyData := lL fun a b => .ok (.bool (decide (b < a)))
noncomputable def eqD (a b : PyData) : Res PyData := gd (SeqAt.shaped a = true ∧ SeqAt.shaped b = true) (.ok (.bool (PyData.eqv a b)))
noncomputable def neD (a b : PyData) : Res PyData := gd (SeqAt.shaped a = true ∧ SeqAt.shaped b = true) (.ok (.bool (!PyData.eqv a b)))
noncomputable def Nz : PyData → Bool
  | .none => true
  | _ => false
noncomputable def NP : PyData → PyData → Res PyData
  | a, .none => .ok (.bool (Nz a))
  | _, _ => .bad
noncomputable def ixD : PyData → PyData → Res PyData
  | .list ds, .int i => match atI ds i with | some d => .ok d | none => .bad
  | .tuple ds, .int i => match atI ds i with | some d => .ok d | none => .bad
  | _, _ => .bad
section
variable {X : Cx}
theorem qy {g : Value → Value → Sem Value} {f : PyData → PyData → Res PyData} {C : Int → Int → Prop} {h : Int → Int → Int} (ho : OpR X g (rI C fun i j => .int (h i j)))
    (hf : ∀ a b d, f a b = .ok d → ∃ i j, a = .int i ∧ b = .int j ∧ C i j ∧ d = .int (h i j)) : OpR X g (rD X.K f) := by
  intro pins s σ H x y v u Q I rx ry hq
  obtain ⟨A, d1, d2, d, e, ha, p1, p2, k⟩ := hq
  obtain ⟨i, j, rfl, rfl, hc, rfl⟩ := hf _ _ _ e
  exact ho pins s σ H x y v u Q I rx ry ⟨i, j, p1.int, p2.int, hc, k _ A H (aQ.refl ha) (Rp.int.mpr rfl)⟩
theorem uJ {g : Value → Value → Sem Value} {f : PyData → PyData → Res PyData} {h : Int → Int → Int} (ho : OpR X g (rI0 fun i j => .int (h i j)))
    (hf : ∀ a b d, f a b = .ok d → ∃ i j, a = .int i ∧ b = .int j ∧ d = .int (h i j)) : OpR X g (rD X.K f) := by
  intro pins s σ H x y v u Q I rx ry hq
  obtain ⟨A, d1, d2, d, e, ha, p1, p2, k⟩ := hq
  obtain ⟨i, j, rfl, rfl, rfl⟩ := hf _ _ _ e
  exact ho pins s σ H x y v u Q I rx ry ⟨i, j, p1.int, p2.int, k _ A H (aQ.refl ha) (Rp.int.mpr rfl)⟩
theorem yS {g : Value → Value → Sem Value} {f : PyData → PyData → Res PyData} {h : Int → Int → Bool} (ho : OpR X g (rI0 fun i j => .bl (h i j)))
    (hf : ∀ a b d, f a b = .ok d → ∃ i j, a = .int i ∧ b = .int j ∧ d = .bool (h i j)) : OpR X g (rD X.K f) := by
  intro pins s σ H x y v u Q I rx ry hq
  obtain ⟨A, d1, d2, d, e, ha, p1, p2, k⟩ := hq
  obtain ⟨i, j, rfl, rfl, rfl⟩ := hf _ _ _ e
  exact ho pins s σ H x y v u Q I rx ry ⟨i, j, p1.int, p2.int, k _ A H (aQ.refl ha) (Rp.bool.mpr rfl)⟩
theorem Nu : OpR X (binaryOp .Sub) (rD X.K Ir) := uJ PN fun a b d e => by
  obtain ⟨i, j, rfl, rfl, e⟩ := gj e; cases e; exact ⟨_, _, rfl, rfl, rfl⟩
theorem gY : OpR X (binaryOp .FloorDiv) (rD X.K jl) := qy JZ fun a b d e => by
  obtain ⟨i, j, rfl, rfl, e⟩ := gj e; obtain ⟨hc, e⟩ := bL e; cases e; exact ⟨_, _, rfl, rfl, hc, rfl⟩
theorem eX : OpR X (binaryOp .Mod) (rD X.K ir) := qy Mm fun a b d e => by
  obtain ⟨i, j, rfl, rfl, e⟩ := gj e; obtain ⟨hc, e⟩ := bL e; cases e; exact ⟨_, _, rfl, rfl, hc, rfl⟩
theorem je : OpR X (binaryOp .LShift) (rD X.K j6) := qy MP fun a b d e => by
  obtain ⟨i, j, rfl, rfl, e⟩ := gj e; obtain ⟨hc, e⟩ := bL e; cases e; exact ⟨_, _, rfl, rfl, hc, rfl⟩
theorem uf : OpR X (binaryOp .RShift) (rD X.K vg) := qy N5 fun a b d e => by
  obtain ⟨i, j, rfl, rfl, e⟩ := gj e; obtain ⟨hc, e⟩ := bL e; cases e; exact ⟨_, _, rfl, rfl, hc, rfl⟩
theorem oE : OpR X (binaryOp .BitAnd) (rD X.K pQ) := uJ Mj fun a b d e => by
  obtain ⟨i, j, rfl, rfl, e⟩ := gj e; cases e; exact ⟨_, _, rfl, rfl, rfl⟩
theorem QQ : OpR X (binaryOp .BitOr) (rD X.K orD) := uJ Qp fun a b d e => by
  obtain ⟨i, j, rfl, rfl, e⟩ := gj e; cases e; exact ⟨_, _, rfl, rfl, rfl⟩
theorem wU : OpR X (compareOp .Lt) (rD X.K ltD) := yS Qw fun a b d e => by
  obtain ⟨i, j, rfl, rfl, e⟩ := gj e; cases e; exact ⟨_, _, rfl, rfl, rfl⟩
theorem kI : OpR X (compareOp .LtE) (rD X.K leD) := yS QD fun a b d e => by
  obtain ⟨i, j, rfl, rfl, e⟩ := gj e; cases e; exact ⟨_, _, rfl, rfl, rfl⟩
theorem qP : OpR X (compareOp .Gt) (rD X.K gtD) := yS Qq fun a b d e => by
  obtain ⟨i, j, rfl, rfl, e⟩ := gj e; cases e; exact ⟨_, _, rfl, rfl, rfl⟩
theorem pq (hu : X.A.units + 64 < cLine) : OpR X (compareOp .Eq) (rD X.K eqD) := by
  intro pins s σ H x y v u Q I rx ry hq
  obtain ⟨A, d1, d2, d, e, ha, p1, p2, k⟩ := hq
  obtain ⟨⟨h1, h2⟩, e⟩ := bL e
  cases e
  exact Mu hu pins s σ H x y v u Q I rx ry ⟨d1, d2, p1.is ha h1, p2.is ha h2, h1, h2, k _ A H (aQ.refl ha) (Rp.bool.mpr rfl)⟩
theorem qT (hu : X.A.units + 64 < cLine) : OpR X (compareOp .NotEq) (rD X.K neD) := by
  intro pins s σ H x y v u Q I rx ry hq
  obtain ⟨A, d1, d2, d, e, ha, p1, p2, k⟩ := hq
  obtain ⟨⟨h1, h2⟩, e⟩ := bL e
  cases e
  exact O5 hu pins s σ H x y v u Q I rx ry ⟨d1, d2, p1.is ha h1, p2.is ha h2, h1, h2, k _ A H (aQ.refl ha) (Rp.bool.mpr rfl)⟩
theorem Pk.isNone {K : PySem.W.Frag} {A H : Hp} {d : PyData} {x : V} (ha : aH A H) (p : Pk K A H d x) : decide (x = V.non) = Nz d := by
  cases d with
  | none => rw [p.none]; rfl
  | bool b => rw [p.bool]; rfl
  | int b => rw [p.int]; rfl
  | str b => rw [p.str]; rfl
  | list b => obtain ⟨q, vs, rfl, _⟩ := p.list ha; rfl
  | tuple b => obtain ⟨q, vs, rfl, _⟩ := p.tuple ha; rfl
  | dict b => obtain ⟨q, u, rfl, _⟩ := p.dict ha; rfl
theorem Nv : OpR X (compareOp .Is) (rD X.K NP) := by
  intro pins s σ H x y v u Q I rx ry hq
  obtain ⟨A, d1, d2, d, e, ha, p1, p2, k⟩ := hq
  cases d2 with
  | none =>
    have e' := Res.ok.inj e
    subst e'
    exact Qj pins s σ H x y v u Q I rx ry ⟨p2.none, by rw [p1.isNone ha]; exact k _ A H (aQ.refl ha) (Rp.bool.mpr rfl)⟩
  | _ => cases e
noncomputable def Q9 (K : PySem.W.Frag) : R2 := fun x y H Q => ∃ l b xs zs, x = .ref l ∧ y = .ref b ∧ SqL K H l xs ∧ SqL K H b zs ∧ xs.length + zs.length ≤ sizeLine ∧ ∀ p, H p = none → Q (.ref p) (upd H p (.lst (xs ++ zs)))
theorem K1 : OpR X (binaryOp .Add) (Q9 X.K) := by
  intro pins s σ H x y v u Q I rx ry h
  obtain ⟨l, b, xs, zs, rfl, rfl, hH, hB, hz, q⟩ := h
  cases rx
  cases ry
  obtain ⟨its, r, pl, _⟩ := I.list hH
  obtain ⟨its2, r2, pl2, _⟩ := I.list hB
  have hl := r.length
  have hl2 := r2.length
  obtain ⟨⟨cls, dd, data, sl⟩, ho, hc, n, hd⟩ := pl.isList
  obtain ⟨⟨cls2, dd2, data2, sl2⟩, ho2, hc2, n2, hd2⟩ := pl2.isList
  simp only at hc hd hc2 hd2
  subst hc hd hc2 hd2
  have ea : its.toArray ++ its2.toArray = (its ++ its2).toArray := by simp
  refine concat_meets ⟨_, ho, rfl⟩ ⟨_, ho2, rfl⟩ noFill_list_add seq_list_add PySem.F.slot_list_add PySem.F.entry_list_add (PySem.F.args_list_add_2 _ _) (list_addW l b its.toArray its2.toArray n n2 dd dd2 sl sl2 (by simp only [List.size_toArray]; omega)) ⟨ho, ho2, ?_⟩
  rw [ea]
  exact ⟨.ref _, _, I.O9 (t' := s.toks) (r.append r2) (by rw [List.length_append]; omega), rfl, q _ I.fresh⟩
theorem Hd : OpR X (binaryOp .Add) (fun x y H Q => ∃ a b ys, x = .ref a ∧ y = .ref b ∧ SqT X.K H a [] ∧ SqT X.K H b ys ∧ Q (.ref b) H) := by
  intro pins s σ H x y v u Q I rx ry h
  obtain ⟨a, b, ys, rfl, rfl, ha, hb, q⟩ := h
  cases rx
  cases ry
  obtain ⟨its, r1, p1, _⟩ := I.tuple ha
  obtain ⟨its2, r2, p2, _⟩ := I.tuple hb
  cases r1
  obtain ⟨⟨cls, dd, data, sl⟩, ho, hc, n, hd⟩ := id p1
  obtain ⟨⟨cls2, dd2, data2, sl2⟩, ho2, hc2, n2, hd2⟩ := id p2
  simp only at hc hd hc2 hd2
  subst hc hd hc2 hd2
  exact concat_meets ⟨_, ho, rfl⟩ ⟨_, ho2, rfl⟩ noFill_tuple_add seq_tuple_add PySem.F.slot_tuple_add PySem.F.entry_tuple_add (PySem.F.args_tuple_add_2 _ _)
    (tuple_addW0 a b _ its2.toArray n n2 dd dd2 sl sl2 rfl) ⟨ho, ho2, ⟨.ref b, H, I, rfl, q⟩⟩
theorem bQ : OpR X (binaryOp .Add) (rD X.K cP) := by
  intro pins s σ H x y v u Q I rx ry hq
  obtain ⟨A, d1, d2, d, e, ha, p1, p2, k⟩ := hq
  cases d1 with
  | int i =>
    cases d2 with
    | int j => cases e; exact Qc pins s σ H x y v u Q I rx ry ⟨i, j, p1.int, p2.int, k _ A H (aQ.refl ha) (Rp.int.mpr rfl)⟩
    | bool j => cases e; exact FP pins s σ H x y v u Q I rx ry ⟨i, j, p1.int, p2.bool, k _ A H (aQ.refl ha) (Rp.int.mpr rfl)⟩
    | _ => cases e
  | str i =>
    cases d2 with
    | str j =>
      obtain ⟨hc, e⟩ := bL e
      cases e
      exact Cv pins s σ H x y v u Q I rx ry ⟨i, j, p1.str, p2.str, hc, k _ A H (aQ.refl ha) (Rp.str.mpr rfl)⟩
    | _ => cases e
  | list i =>
    cases d2 with
    | list j =>
      obtain ⟨hc, e⟩ := bL e
      cases e
      obtain ⟨l1, xs, e1, h1, q1⟩ := p1.list ha
      obtain ⟨l2, ys, e2, h2, q2⟩ := p2.list ha
      refine K1 pins s σ H x y v u Q I rx ry ⟨l1, l2, xs, ys, e1, e2, h1, h2, by rw [← q1.length, ← q2.length]; exact hc, fun p hp => ?_⟩
      have g := aQ.new (o := .lst (xs ++ ys)) ha hp
      exact k _ _ _ g (Rp.list.mpr ⟨p, _, rfl, SqL.of bz, (aB.mono g.aa _ q1).append (aB.mono g.aa _ q2)⟩)
    | _ => cases e
  | tuple i =>
    cases d2 with
    | tuple j =>
      obtain ⟨hc, e⟩ := bL e
      cases e
      obtain ⟨l1, xs, e1, h1, q1⟩ := p1.tuple ha
      obtain ⟨l2, ys, e2, h2, q2⟩ := p2.tuple ha
      by_cases hne : i = []
      · subst hne
        have ex : xs = [] := List.eq_nil_of_length_eq_zero q1.length.symm
        subst ex
        refine Hd pins s σ H x y v u Q I rx ry ⟨l1, l2, ys, e1, e2, h1, h2, ?_⟩
        rw [List.nil_append] at k
        refine k _ A H (aQ.refl ha) ?_
        have := p2.jH (fun _ z => nomatch z) (fun _ z => nomatch z)
        rw [e2] at this
        exact this
      refine Ka pins s σ H x y v u Q I rx ry ⟨l1, l2, xs, ys, e1, e2, h1, h2, fun z => ?_, by rw [← q1.length, ← q2.length]; exact hc, fun z => ?_, fun z p hp => ?_⟩
      · subst z
        have := q1.length
        exact hne (List.eq_nil_of_length_eq_zero this)
      · subst z
        have e0 : j = [] := List.eq_nil_of_length_eq_zero q2.length
        subst e0
        rw [List.append_nil] at k
        refine k _ A H (aQ.refl ha) ?_
        have := p1.jH (fun _ z => nomatch z) (fun _ z => nomatch z)
        rw [e1] at this
        exact this
      · have g := aQ.new (o := .tup (xs ++ ys)) ha hp
        exact k _ _ _ g (Rp.tuple.mpr ⟨p, _, rfl, SqT.of bz, (aB.mono g.aa _ q1).append (aB.mono g.aa _ q2)⟩)
    | _ => cases e
  | _ => cases e
noncomputable def QK : R2 := fun x y H Q => ∃ l k xs, x = .ref l ∧ y = .int k ∧ Rd H l (.lst xs) ∧ -(2 ^ 63) ≤ k ∧ k < 2 ^ 63 ∧ xs.length * k.toNat ≤ sizeLine ∧
  ∀ p, H p = none → Q (.ref p) (upd H p (.lst (List.replicate k.toNat xs).flatten))
theorem Ma : OpR X (binaryOp .Mult) QK := by
  intro pins s σ H x y v u Q I rx ry h
  obtain ⟨l, k, xs, rfl, rfl, hH, h1, h2, hz, q⟩ := h
  cases rx
  obtain ⟨t, rfl⟩ := ry
  obtain ⟨z, its, n, r, e⟩ := hH.ok I.hok
  have hl := r.length
  have hlen : its.toArray.size * k.toNat ≤ sizeLine := by rw [List.size_toArray, ← hl]; exact hz
  have hcap : ¬ its.toArray.size * k.toNat > (2 ^ 63 - 1) / 8 := by
    have : (sizeLine : Nat) ≤ (2 ^ 63 - 1) / 8 := by decide
    omega
  have hfit : ¬ (!Builtin.List.listFitsIndex k) = true := by
    rw [fitsIndex_both h1 h2]
    exact Bool.false_ne_true
  have hlong : ¬ Builtin.List.listTooLong (its.toArray.size * k.toNat) = true := by
    rw [Hc hlen]
    exact Bool.false_ne_true
  have hnew : List.foldl (fun x1 x2 => x1 ++ x2) #[] (List.replicate (if its.toArray.isEmpty = true then 0 else k.toNat) its.toArray) = (List.replicate k.toNat its).flatten.toArray := by
    have f0 : ∀ m : Nat, List.foldl (fun x1 x2 => x1 ++ x2) #[] (List.replicate m its.toArray) = (List.replicate m its).flatten.toArray := fun m => by
      have := foldl_rep its m []
      rw [List.nil_append] at this
      exact this
    rw [f0]
    cases its with
    | nil => simp
    | cons a r' => rw [if_neg (by simp)]
  refine wpAny_binaryOp_repeat_ref (T := "list") (U := "int") (by decide) ⟨_, e, rfl⟩ (fun s' => typeIs_int s' k t) noFill_list_mul F.fills_int_mul F.slot_int_rmul repeat_list F.slot_int_index.lookup
    (call_meets F.slot_int_rmul (typeIs_int s k t) F.entry_int_rmul (F.args_int_rmul_2 _ _) (int___rmul___int_list k t l its.toArray n)
      ⟨e, rfl, ⟨_, e, rfl⟩, call_meets F.slot_list_mul ⟨_, e, rfl⟩ F.entry_list_mul (F.args_list_mul_2 _ _) (AutoListH.list___mul___list_int_3 l its.toArray n k t hfit hcap hlong) ⟨e, ?_⟩⟩)
  rw [hnew]
  exact ⟨.ref _, _, I.O9 (t' := s.toks) (r.rep k.toNat) (by rw [len_rep, Nat.mul_comm]; exact hz), rfl, q _ I.fresh⟩
theorem aB.reps {K : PySem.W.Frag} {A : Hp} {ds : List PyData} {vs : List V} (h : aB K A ds vs) (k : Nat) : aB K A (List.replicate k ds).flatten (List.replicate k vs).flatten := by
  induction k with
  | zero => exact aB.nil.mpr rfl
  | succ k ih => rw [List.replicate_succ, List.replicate_succ, List.flatten_cons, List.flatten_cons]; exact h.append ih
theorem gK : OpR X (binaryOp .Mult) (rD X.K jP) := qy Pn fun a b d e => by
  obtain ⟨i, j, rfl, rfl, e⟩ := gj e; obtain ⟨hc, e⟩ := bL e; cases e; exact ⟨_, _, rfl, rfl, hc, rfl⟩
noncomputable def uN : PyData → PyData → Res PyData
  | .list a, .int k => gd (-(2 ^ 63) ≤ k ∧ k < 2 ^ 63 ∧ a.length * k.toNat ≤ sizeLine) (.ok (.list (List.replicate k.toNat a).flatten))
  | _, _ => .bad
theorem Dv {O : List Fl} {m1 m2 : ME} {a b : Expr} {pos : Pos} (ha : QE X a (tF X.K O m1)) (hb : QE X b (tP X.K O m2)) : QE X (.BinOp a .Mult b pos) (tF X.K O (az uN m1 m2)) := QE.imp (Jt Ma ha.h hb.h) fun σ H Q hq__ => by
  obtain ⟨A, B, Γ, d, r, em, k⟩ := hq__
  obtain ⟨d1, e1, em⟩ := Res.aF em
  obtain ⟨d2, e2, em⟩ := Res.aF em
  refine ⟨A, B, Γ, d1, r, e1, fun x A1 H1 g1 p1 => ⟨A1, B, Γ, d2, r.grow g1, e2, fun y A2 H2 g2 p2 => ?_⟩⟩
  cases d1 with
  | list i =>
    cases d2 with
    | int j =>
      obtain ⟨hc, em⟩ := bL em
      cases em
      obtain ⟨l1, o, rfl, h0, h1, h2, ⟨ds, xs, e3, rfl, q1⟩ | ⟨kvs, u, e3, _⟩⟩ := p1
      rotate_right
      · cases e3
      cases e3
      refine ⟨l1, j, xs, rfl, p2.int, .inl (g2.hh _ _ h1), hc.1, hc.2.1, by rw [← q1.length]; exact hc.2.2, fun p hp => ?_⟩
      have gg := g1.trans g2
      exact k _ _ _ (gg.trans (aQ.lay g2.ah hp)) ⟨p, _, rfl, gg.hh.free hp, bz, g2.ah.free hp, .inl ⟨_, _, rfl, rfl, (aB.mono g2.aa _ q1).reps _⟩⟩
    | _ => cases em
  | _ => cases em
theorem aB.atI {K : PySem.W.Frag} {A : Hp} {ds : List PyData} {vs : List V} {i : Int} {d : PyData} (h : aB K A ds vs) (e : L2.atI ds i = some d) : ∃ x, L2.atI vs i = some x ∧ Rp K A d x := by
  unfold L2.atI at e ⊢
  rw [← h.length]
  cases q : ixN ds.length i with
  | none => rw [q] at e; cases e
  | some j => rw [q] at e; exact h.get' e
theorem Q4 : IxR X (rD X.K ixD) := by
  intro value slice pins s σ H x y v u Q I rx ry hq hs
  obtain ⟨A, d1, d2, d, e, ha, p1, p2, k⟩ := hq
  cases d1 with
  | list ds =>
    cases d2 with
    | int i =>
      have e' : (match L2.atI ds i with | some d => Res.ok d | none => .bad) = .ok d := e
      cases q : L2.atI ds i with
      | none => rw [q] at e'; cases e'
      | some d0 =>
        rw [q] at e'
        cases e'
        obtain ⟨l, vs, e1, h1, q2⟩ := p1.list ha
        obtain ⟨z, hz, rz⟩ := q2.atI q
        exact Ko value slice pins s σ H x y v u Q I rx ry ⟨l, vs, i, z, e1, p2.int, h1, hz, k _ A H (aQ.refl ha) rz⟩ hs
    | _ => cases e
  | tuple ds =>
    cases d2 with
    | int i =>
      have e' : (match L2.atI ds i with | some d => Res.ok d | none => .bad) = .ok d := e
      cases q : L2.atI ds i with
      | none => rw [q] at e'; cases e'
      | some d0 =>
        rw [q] at e'
        cases e'
        obtain ⟨l, vs, e1, h1, q2⟩ := p1.tuple ha
        obtain ⟨z, hz, rz⟩ := q2.atI q
        exact Mq value slice pins s σ H x y v u Q I rx ry ⟨l, vs, i, z, e1, p2.int, h1, hz, k _ A H (aQ.refl ha) rz⟩ hs
    | _ => cases e
  | _ => cases e
theorem aR {a b : Expr} {O : List Fl} {m1 m2 : ME} {pos : Pos} (ha : QE X a (tP X.K O m1)) (hb : QE X b (tP X.K O m2)) (hs : Be b) : QE X (.Subscript a b pos) (tE X.K O (az ixD m1 m2)) := QE.imp (QH Q4 ha.h hb.h hs) fun _ _ _ => uG
end
end L3
namespace L3
open PySem PySem.Spec PyProof.Rows L2
noncomputable def evs : List ME → Ev → Res (List PyData)
  | [], _ => .ok []
  | m :: ms, Γ => (m Γ).bind fun d => (evs ms Γ).bind fun ds => .ok (d :: ds)
theorem lW : ∀ {ms : List ME} {Γ : Ev} {ds : List PyData}, evs ms Γ = .ok ds → ds.length = ms.length
  | [], _, _, h => by cases h; rfl
  | m :: ms, Γ, ds, h => by
    obtain ⟨d, _, h⟩ := Res.aF h
    obtain ⟨r, e, h⟩ := Res.aF h
    cases h
    rw [List.length_cons, List.length_cons, lW e]
noncomputable def tAi (K : PySem.W.Frag) (O : List Fl) (ms : List ME) : TA := fun σ H Q => ∃ A B Γ ds, aZ K A B H O σ Γ ∧ evs ms Γ = .ok ds ∧ ∀ vs A' H', aQ A H A' H' → aB K A' ds vs → Q vs H'
noncomputable def Oz (K : PySem.W.Frag) (A H : Hp) : Fl → PyData → V → Prop
  | .imm, d, v => Rp K A d v
  | _, d, v => Pk K A H d v
noncomputable def lH (K : PySem.W.Frag) (A H : Hp) : List Fl → List PyData → List V → Prop
  | [], ds, vs => ds = [] ∧ vs = []
  | f :: fs, ds, vs => ∃ d r v s, ds = d :: r ∧ vs = v :: s ∧ Oz K A H f d v ∧ lH K A H fs r s
noncomputable def tAr (K : PySem.W.Frag) (O : List Fl) (fs : List Fl) (ms : List ME) : TA := fun σ H Q => ∃ A B Γ ds, aZ K A B H O σ Γ ∧ evs ms Γ = .ok ds ∧ ∀ vs A' H', aQ A H A' H' → lH K A' H' fs ds vs → Q vs H'
section
variable {X : Cx} {K : PySem.W.Frag} {O : List Fl} {m : ME} {ms : List ME} {fs : List Fl} {e : Expr} {es : List Expr} {pos : Pos}
theorem bB : QA X [] (tAi K O []) := QA.imp gf fun σ H Q hq__ => by
  obtain ⟨A, B, Γ, ds, r, em, k⟩ := hq__
  cases em
  exact k [] A H (aQ.refl r.a) (aB.nil.mpr rfl)
theorem aL (ha : QE X e (tE K O m)) (hr : QA X es (tAi K O ms)) (hs : noStar e = true := by rfl) : QA X (e :: es) (tAi K O (m :: ms)) := QA.imp (cL ha.h hr.h (bV hs)) fun σ H Q hq__ => by
  obtain ⟨A, B, Γ, ds, r, em, k⟩ := hq__
  obtain ⟨d, e1, em⟩ := Res.aF em
  obtain ⟨ds', e2, em⟩ := Res.aF em
  cases em
  exact ⟨A, B, Γ, d, r, e1, fun v A1 H1 g1 p1 => ⟨A1, B, Γ, ds', r.grow g1, e2, fun vs A2 H2 g2 p2 => k (v :: vs) A2 H2 (g1.trans g2) (aB.cons.mpr ⟨v, vs, rfl, Rp.mono g2.aa d p1, p2⟩)⟩⟩
theorem aA : QA X [] (tAr K O [] []) := QA.imp gf fun σ H Q hq__ => by
  obtain ⟨A, B, Γ, ds, r, em, k⟩ := hq__
  cases em
  exact k [] A H (aQ.refl r.a) ⟨rfl, rfl⟩
theorem mL (ha : QE X e (tE K O m)) (hr : QA X es (tAr K O fs ms)) (hs : noStar e = true := by rfl) : QA X (e :: es) (tAr K O (.imm :: fs) (m :: ms)) := QA.imp (cL ha.h hr.h (bV hs)) fun σ H Q hq__ => by
  obtain ⟨A, B, Γ, ds, r, em, k⟩ := hq__
  obtain ⟨d, e1, em⟩ := Res.aF em
  obtain ⟨ds', e2, em⟩ := Res.aF em
  cases em
  exact ⟨A, B, Γ, d, r, e1, fun v A1 H1 g1 p1 => ⟨A1, B, Γ, ds', r.grow g1, e2, fun vs A2 H2 g2 p2 => k (v :: vs) A2 H2 (g1.trans g2) ⟨d, ds', v, vs, rfl, rfl, Rp.mono g2.aa d p1, p2⟩⟩⟩
theorem ao (ha : QE X e (tP K O m)) (hr : QA X es (tAr K O fs ms)) (hs : noStar e = true := by rfl) : QA X (e :: es) (tAr K O (.bor :: fs) (m :: ms)) := QA.imp (cL ha.h hr.h (bV hs)) fun σ H Q hq__ => by
  obtain ⟨A, B, Γ, ds, r, em, k⟩ := hq__
  obtain ⟨d, e1, em⟩ := Res.aF em
  obtain ⟨ds', e2, em⟩ := Res.aF em
  cases em
  exact ⟨A, B, Γ, d, r, e1, fun v A1 H1 g1 p1 => ⟨A1, B, Γ, ds', r.grow g1, e2, fun vs A2 H2 g2 p2 => k (v :: vs) A2 H2 (g1.trans g2) ⟨d, ds', v, vs, rfl, rfl, p1.mono g2.aa g2.hh, p2⟩⟩⟩
noncomputable def jn (ms : List ME) : ME := fun Γ => (evs ms Γ).bind fun ds => .ok (.tuple ds)
noncomputable def fu (ms : List ME) : ME := fun Γ => (evs ms Γ).bind fun ds => .ok (.list ds)
theorem gh {x1} (h : QA X es (tAi K O ms)) (hl : ms.length ≤ sizeLine := by first | decide | exact of_decide_eq_true rfl) : QE X (.Tuple es x1 pos) (tE K O (jn ms)) := QE.imp (Qd h.h) fun σ H Q hq__ => by
  obtain ⟨A, B, Γ, d, r, em, k⟩ := hq__
  obtain ⟨ds, e1, em⟩ := Res.aF em
  cases em
  refine ⟨A, B, Γ, ds, r, e1, fun vs A1 H1 g1 p1 => ⟨by rw [← p1.length, lW e1]; exact hl, fun p hp => ?_⟩⟩
  have g := aQ.new (o := .tup vs) g1.ah hp
  exact k _ _ _ (g1.trans g) (Rp.tuple.mpr ⟨p, vs, rfl, SqT.of bz, aB.mono g.aa ds p1⟩)
theorem cB (h : QA X es (tAi K O ms)) (hl : ms.length ≤ sizeLine := by first | decide | exact of_decide_eq_true rfl) : QE X (.List es pos) (tF K O (fu ms)) := QE.imp (Pa h.h) fun σ H Q hq__ => by
  obtain ⟨A, B, Γ, d, r, em, k⟩ := hq__
  obtain ⟨ds, e1, em⟩ := Res.aF em
  cases em
  refine ⟨A, B, Γ, ds, r, e1, fun vs A1 H1 g1 p1 => ⟨by rw [← p1.length, lW e1]; exact hl, fun p hp => ?_⟩⟩
  exact k _ _ _ (g1.trans (aQ.lay g1.ah hp)) ⟨p, _, rfl, g1.hh.free hp, bz, g1.ah.free hp, .inl ⟨ds, vs, rfl, rfl, p1⟩⟩
noncomputable def qe : List (Str × ME) → ME
  | [] => fun _ => .ok (.dict [])
  | (x, m) :: r => fun Γ => (m Γ).bind fun d => (qe r Γ).bind fun e => match e with
    | .dict ds => .ok (.dict ((.str x, d) :: ds))
    | _ => .bad
theorem vf : QE X (.Dict [] [] pos) (tF K O (qe [])) := QE.imp Ji fun σ H Q hq__ => by
  obtain ⟨A, B, Γ, d, r, em, k⟩ := hq__
  cases em
  intro p hp
  exact k _ _ _ (aQ.lay r.a hp) ⟨p, _, rfl, hp, bz, r.a.free hp, .inr ⟨_, _, rfl, rfl, aX.nil.mpr rfl⟩⟩
theorem Jw {op : UnaryOp} {f : PyData → Res PyData} {a : Expr} {r : V → Hp → VK → Prop} (ho : UnR X (unaryOp op) r) (hf : ∀ A H d1 d x (Q : VK), f d1 = .ok d → aH A H → Pk K A H d1 x → (∀ v A' H', aQ A H A' H' → Rp K A' d v → Q v H') → r x H Q)
    (ha : QE X a (tP K O m)) : QE X (.UnaryOp op a pos) (tE K O (eUn f m)) := QE.imp (QL ho ha.h) fun σ H Q hq__ => by
  obtain ⟨A, B, Γ, d, r, em, k⟩ := hq__
  obtain ⟨d1, e1, em⟩ := Res.aF em
  exact ⟨A, B, Γ, d1, r, e1, fun v A1 H1 g1 p1 => hf A1 H1 d1 d v Q em g1.ah p1 fun v A' H' g p => k v A' H' (g1.trans g) p⟩
theorem Py {a : Expr} (ha : QE X a (tP K O m)) : QE X (.UnaryOp .USub a pos) (tE K O (eUn Iu m)) := Jw Nh (fun A H d1 d x Q e hA p k => by
  cases d1 with
  | int i => cases e; exact ⟨i, p.int, k _ A H (aQ.refl hA) (Rp.int.mpr rfl)⟩
  | _ => cases e) ha
noncomputable def eFn (f : List PyData → Res PyData) (ms : List ME) : ME := fun Γ => (evs ms Γ).bind f
noncomputable def lV (K : PySem.W.Frag) (A H : Hp) (ds : List PyData) (vs : List V) : Prop := lH K A H (ds.map fun _ => .bor) ds vs
noncomputable def rC (K : PySem.W.Frag) (f : List PyData → Res PyData) : List V → Hp → VK → Prop := fun vs H Q => ∃ A ds d, f ds = .ok d ∧ aH A H ∧ lV K A H ds vs ∧ ∀ v A' H', aQ A H A' H' → Rp K A' d v → Q v H'
noncomputable def rCF (K : PySem.W.Frag) (f : List PyData → Res PyData) : List V → Hp → VK → Prop := fun vs H Q => ∃ A ds d, f ds = .ok d ∧ aH A H ∧ lV K A H ds vs ∧ ∀ v A' H', aQ A H A' H' → qm K H A' H' d v → Q v H'
noncomputable def lg (ms : List ME) : List Fl := ms.map fun _ => .bor
theorem Dr {Γ : Ev} {ds : List PyData} (h : evs ms Γ = .ok ds) : lg ms = ds.map fun _ => .bor := by
  have e := lW h
  unfold lg
  rw [List.map_const', List.map_const', e]
theorem JF {f : List PyData → Res PyData} {σ : L2.St} {H : Hp} {Q : VK} (h : tE K O (eFn f ms) σ H Q) : tCB (rC K f) (tAr K O (lg ms) ms) σ H Q := by
  obtain ⟨A, B, Γ, d, r, em, k⟩ := h
  obtain ⟨ds, e1, em⟩ := Res.aF em
  refine ⟨A, B, Γ, ds, r, e1, fun vs A1 H1 g1 p1 => ⟨A1, ds, d, em, g1.ah, by unfold lV; rw [← Dr e1]; exact p1, fun v A' H' g p => k v A' H' (g1.trans g) p⟩⟩
theorem Js {f : List PyData → Res PyData} {σ : L2.St} {H : Hp} {Q : VK} (h : tF K O (eFn f ms) σ H Q) : tCB (rCF K f) (tAr K O (lg ms) ms) σ H Q := by
  obtain ⟨A, B, Γ, d, r, em, k⟩ := h
  obtain ⟨ds, e1, em⟩ := Res.aF em
  refine ⟨A, B, Γ, ds, r, e1, fun vs A1 H1 g1 p1 => ⟨A1, ds, d, em, g1.ah, by unfold lV; rw [← Dr e1]; exact p1, fun v A' H' g p => k v A' H' (g1.trans g) ?_⟩⟩
  obtain ⟨q, o, e, h1, h2⟩ := p
  exact ⟨q, o, e, g1.hh.free h1, h2⟩
variable {x : Str} {p : Pos} {id : String} {f : List PyData → Res PyData}
theorem bu (hc : dh X (.builtin id) (rC K f)) (hg : Gl X x) (hm : X.mg x = none) (hv : bootBuiltins x = some (.builtin id)) (ha : QA X (e :: es) (tAr K O (lg ms) ms)) (hn : x ≠ "__name__" := by decide) (hdb : (x == ("__debug__" : Str)) = false := by decide)
    (hs : noStar e = true := by rfl) (hpl : iQ es = true := by rfl) : QE X (.Call (.Name x p) (e :: es) [] pos) (tE K O (eFn f ms)) := QE.imp (sG hc hg hm hv ha.h hn hdb (bV hs) (gF hpl)) fun _ _ _ => JF
theorem wX (hc : dh X (.builtin id) (rCF K f)) (hg : Gl X x) (hm : X.mg x = none) (hv : bootBuiltins x = some (.builtin id)) (ha : QA X (e :: es) (tAr K O (lg ms) ms)) (hn : x ≠ "__name__" := by decide) (hdb : (x == ("__debug__" : Str)) = false := by decide)
    (hs : noStar e = true := by rfl) (hpl : iQ es = true := by rfl) : QE X (.Call (.Name x p) (e :: es) [] pos) (tF K O (eFn f ms)) := QE.imp (sG hc hg hm hv ha.h hn hdb (bV hs) (gF hpl)) fun _ _ _ => Js
theorem fH (hc : dh X (.type id) (rC K f)) (hg : Gl X x) (hm : X.mg x = none) (hv : bootBuiltins x = some (.type id)) (ha : QA X (e :: es) (tAr K O (lg ms) ms)) (hn : x ≠ "__name__" := by decide) (hdb : (x == ("__debug__" : Str)) = false := by decide)
    (hs : noStar e = true := by rfl) (hpl : iQ es = true := by rfl) : QE X (.Call (.Name x p) (e :: es) [] pos) (tE K O (eFn f ms)) := QE.imp (jx hc hg hm hv ha.h hn hdb (bV hs) (gF hpl)) fun _ _ _ => JF
theorem Er (hc : dh X (.type id) (rCF K f)) (hg : Gl X x) (hm : X.mg x = none) (hv : bootBuiltins x = some (.type id)) (ha : QA X (e :: es) (tAr K O (lg ms) ms)) (hn : x ≠ "__name__" := by decide) (hdb : (x == ("__debug__" : Str)) = false := by decide)
    (hs : noStar e = true := by rfl) (hpl : iQ es = true := by rfl) : QE X (.Call (.Name x p) (e :: es) [] pos) (tF K O (eFn f ms)) := QE.imp (jx hc hg hm hv ha.h hn hdb (bV hs) (gF hpl)) fun _ _ _ => Js
end
theorem lV.nil {K : PySem.W.Frag} {A H : Hp} {vs : List V} (h : lV K A H [] vs) : vs = [] := h.2
theorem lV.cons {K : PySem.W.Frag} {A H : Hp} {d : PyData} {ds : List PyData} {vs : List V} (h : lV K A H (d :: ds) vs) : ∃ v r, vs = v :: r ∧ Pk K A H d v ∧ lV K A H ds r := by
  obtain ⟨d', r', v, s, e1, e2, h1, h2⟩ := h
  cases e1
  exact ⟨v, s, e2, h1, h2⟩
noncomputable def b7 : List PyData → Res PyData
  | [.list ds] => .ok (.int ds.length)
  | [.tuple ds] => .ok (.int ds.length)
  | [.str x] => gd (x.length ≤ sizeLine) (.ok (.int x.length))
  | _ => .bad
noncomputable def BZ : List PyData → Res PyData
  | [.list ds] => .ok (.list ds)
  | [.tuple ds] => .ok (.list ds)
  | _ => .bad
noncomputable def iu : List PyData → Res PyData
  | [.list ds] => .ok (.tuple ds)
  | [.tuple ds] => .ok (.tuple ds)
  | _ => .bad
noncomputable def minD : List PyData → Res PyData
  | [.int i, .int j] => .ok (.int (if j < i then j else i))
  | _ => .bad
section
variable {X : Cx}
theorem bZ : dh X (.builtin "len") (rC X.K b7) := by
  intro pins s σ H xs us Q I r h
  obtain ⟨A, ds, d, e, ha, p, k⟩ := h
  match ds, e with
  | [.list es], e =>
    cases e
    obtain ⟨v, r', rfl, p1, p2⟩ := p.cons
    obtain rfl := p2.nil
    obtain ⟨l, vs, rfl, h1, q1⟩ := p1.list ha
    exact pU pins s σ H _ us Q I r ⟨l, vs, rfl, .inl h1, by rw [← q1.length]; exact k _ A H (aQ.refl ha) (Rp.int.mpr rfl)⟩
  | [.tuple es], e =>
    cases e
    obtain ⟨v, r', rfl, p1, p2⟩ := p.cons
    obtain rfl := p2.nil
    obtain ⟨l, vs, rfl, h1, q1⟩ := p1.tuple ha
    exact pU pins s σ H _ us Q I r ⟨l, vs, rfl, .inr h1, by rw [← q1.length]; exact k _ A H (aQ.refl ha) (Rp.int.mpr rfl)⟩
  | [.str x], e =>
    obtain ⟨hc, e⟩ := bL e
    cases e
    obtain ⟨v, r', rfl, p1, p2⟩ := p.cons
    obtain rfl := p2.nil
    exact yj pins s σ H _ us Q I r ⟨x, by rw [p1.str], hc, k _ A H (aQ.refl ha) (Rp.int.mpr rfl)⟩
theorem Kg : dh X (.type "list") (rCF X.K BZ) := by
  intro pins s σ H xs us Q I r h
  obtain ⟨A, ds, d, e, ha, p, k⟩ := h
  match ds, e with
  | [.list es], e =>
    cases e
    obtain ⟨v, r', rfl, p1, p2⟩ := p.cons
    obtain rfl := p2.nil
    obtain ⟨l, vs, rfl, h1, q1⟩ := p1.list ha
    exact qw pins s σ H _ us Q I r ⟨l, vs, rfl, .inl h1, fun q hq => k _ A _ (aQ.lay ha hq) ⟨q, _, rfl, hq, bz, ha.free hq, .inl ⟨_, _, rfl, rfl, q1⟩⟩⟩
  | [.tuple es], e =>
    cases e
    obtain ⟨v, r', rfl, p1, p2⟩ := p.cons
    obtain rfl := p2.nil
    obtain ⟨l, vs, rfl, h1, q1⟩ := p1.tuple ha
    exact qw pins s σ H _ us Q I r ⟨l, vs, rfl, .inr h1, fun q hq => k _ A _ (aQ.lay ha hq) ⟨q, _, rfl, hq, bz, ha.free hq, .inl ⟨_, _, rfl, rfl, q1⟩⟩⟩
theorem gr : dh X (.type "tuple") (rC X.K iu) := by
  intro pins s σ H xs us Q I r h
  obtain ⟨A, ds, d, e, ha, p, k⟩ := h
  match ds, e with
  | [.list es], e =>
    cases e
    obtain ⟨v, r', rfl, p1, p2⟩ := p.cons
    obtain rfl := p2.nil
    obtain ⟨l, vs, rfl, h1, q1⟩ := p1.list ha
    exact pO pins s σ H _ us Q I r ⟨l, vs, rfl, .inl ⟨h1, fun q hq => by
      have g := aQ.new (o := .tup vs) ha hq
      exact k _ _ _ g (Rp.tuple.mpr ⟨q, vs, rfl, SqT.of bz, aB.mono g.aa _ q1⟩)⟩⟩
  | [.tuple es], e =>
    cases e
    obtain ⟨v, r', rfl, p1, p2⟩ := p.cons
    obtain rfl := p2.nil
    have p1' := p1.jH (fun _ z => nomatch z) (fun _ z => nomatch z)
    obtain ⟨l, vs, rfl, h1, q1⟩ := p1.tuple ha
    exact pO pins s σ H _ us Q I r ⟨l, vs, rfl, .inr ⟨h1, k _ A H (aQ.refl ha) p1'⟩⟩
theorem Mt (hc : X.calm = true) : dh X (.builtin "min") (rC X.K minD) := by
  intro pins s σ H xs us Q I r h
  obtain ⟨A, ds, d, e, ha, p, k⟩ := h
  match ds, e with
  | [.int i, .int j], e =>
    cases e
    obtain ⟨v, r', rfl, p1, p0⟩ := p.cons
    obtain ⟨v2, r', rfl, p2, p3⟩ := p0.cons
    obtain rfl := p3.nil
    exact Gb hc pins s σ H _ us Q I r ⟨i, j, by rw [p1.int, p2.int], k _ A H (aQ.refl ha) (Rp.int.mpr rfl)⟩
end
noncomputable def tyN : PyData → String
  | .none => "NoneType"
  | .bool _ => "bool"
  | .int _ => "int"
  | .str _ => "str"
  | .list _ => "list"
  | .tuple _ => "tuple"
  | .dict _ => "dict"
noncomputable def nP (T : String) (d : PyData) : Bool := tyN d == T || (T == "int" && tyN d == "bool")
noncomputable def lK (T : String) (a : ME) : ME := fun Γ => (a Γ).bind fun d => .ok (.bool (nP T d))
section
variable {K : PySem.W.Frag}
theorem oZ (t : String) : PySem.W.kitOne K (.type t) (.type t) = some true := by unfold PySem.W.kitOne; rw [if_pos (by simp)]
theorem uh {t T : String} {b : Bool} (hne : (Value.type t == Value.type T) = false) (h : (if PySem.W.kitMeta T = true then (fastBuiltinMro t).map (·.contains (Value.type T)) else none) = some b) : PySem.W.kitOne K (.type t) (.type T) = some b := by
  unfold PySem.W.kitOne PySem.W.kitCls
  rw [if_neg (by rw [hne]; exact Bool.false_ne_true)]
  exact h
noncomputable def sO (K : PySem.W.Frag) (T : String) : Prop := ∀ d : PyData, PySem.W.kitOne K (.type (tyN d)) (.type T) = some (nP T d)
theorem uo {T : String} (h : ∀ t ∈ ["NoneType", "bool", "int", "str", "list", "tuple", "dict"], PySem.W.kitOne K (.type t) (.type T) = some (t == T || (T == "int" && t == "bool"))) : sO K T := fun d => h (tyN d) (by cases d <;> simp [tyN])
theorem KY : sO K "int" := uo fun t h => by
  simp only [List.mem_cons, List.not_mem_nil, or_false] at h
  rcases h with rfl | rfl | rfl | rfl | rfl | rfl | rfl <;> first | exact (oZ _).trans (by decide +kernel) | exact uh (by decide +kernel) (by decide +kernel)
theorem GJ : sO K "bool" := uo fun t h => by
  simp only [List.mem_cons, List.not_mem_nil, or_false] at h
  rcases h with rfl | rfl | rfl | rfl | rfl | rfl | rfl <;> first | exact (oZ _).trans (by decide +kernel) | exact uh (by decide +kernel) (by decide +kernel)
theorem Jp : sO K "list" := uo fun t h => by
  simp only [List.mem_cons, List.not_mem_nil, or_false] at h
  rcases h with rfl | rfl | rfl | rfl | rfl | rfl | rfl <;> first | exact (oZ _).trans (by decide +kernel) | exact uh (by decide +kernel) (by decide +kernel)
theorem iz : sO K "tuple" := uo fun t h => by
  simp only [List.mem_cons, List.not_mem_nil, or_false] at h
  rcases h with rfl | rfl | rfl | rfl | rfl | rfl | rfl <;> first | exact (oZ _).trans (by decide +kernel) | exact uh (by decide +kernel) (by decide +kernel)
end
section
variable {X : Cx} {O : List Fl} {m : ME} {a b : Expr} {p pos : Pos} {T : String}
noncomputable def QC (K : PySem.W.Frag) (T : String) : List V → Hp → VK → Prop := fun xs H Q => ∃ x A d, xs = [x, .ty T] ∧ aH A H ∧ Pk K A H d x ∧ Q (.bl (nP T d)) H
theorem Ny (hT : sO X.K T) : dh X (.builtin "isinstance") (QC X.K T) := by
  intro pins s σ H xs us Q I r h
  obtain ⟨x, A, d, rfl, ha, p1, q⟩ := h
  obtain ⟨u, c, rfl, rx, rc⟩ := Vals.two r
  cases rc
  have fin : ∀ tk, EP X pins σ Q (.bool (nP T d)) { s with toks := tk } := fun tk => ⟨.bl _, H, I.tok tk, rfl, q⟩
  have e := hT d
  cases d with
  | none => rw [p1.none] at rx; cases rx; exact PySem.W.kia_one PySem.W.kitx_none I.kIn True.intro e (fun z => nomatch z) fin
  | bool y => rw [p1.bool] at rx; cases rx; exact PySem.W.kia_one PySem.W.kitx_bool I.kIn True.intro e (fun z => nomatch z) fin
  | int i => rw [p1.int] at rx; obtain ⟨t, rfl⟩ := rx; exact PySem.W.kia_one PySem.W.kitx_int I.kIn True.intro e (fun z => nomatch z) fin
  | str y => rw [p1.str] at rx; obtain ⟨t, rfl⟩ := rx; exact PySem.W.kia_one PySem.W.kitx_str I.kIn True.intro e (fun z => nomatch z) fin
  | list ds =>
    obtain ⟨l, vs, rfl, h1, q1⟩ := p1.list ha
    cases rx
    obtain ⟨its, _, pl, _⟩ := I.list h1
    obtain ⟨o, h2, h3, _⟩ := pl.isList
    exact PySem.W.kia_one PySem.W.kitx_list I.kIn ⟨o, h2, h3⟩ e (fun z => nomatch z) fin
  | tuple ds =>
    obtain ⟨l, vs, rfl, h1, q1⟩ := p1.tuple ha
    cases rx
    obtain ⟨its, _, ⟨o, h2, h3, _⟩, _⟩ := I.tuple h1
    exact PySem.W.kia_one PySem.W.kitx_tuple I.kIn ⟨o, h2, h3⟩ e (fun z => nomatch z) fin
  | dict ds =>
    obtain ⟨l, kvs, rfl, h1, _⟩ := p1.dict ha
    cases rx
    obtain ⟨_, _, vs, _, hd⟩ : kvs.length ≤ sizeLine ∧ (l == sysModules) = false ∧ ∃ vs, KV kvs vs ∧ s.heap.DictOf (cA X.prog X.w) l vs := I.hok l _ h1
    obtain ⟨o, _, _, h2, h3, _⟩ := hd
    exact PySem.W.kia_one PySem.W.kitx_dict I.kIn ⟨o, h2, h3.1⟩ e (fun z => nomatch z) fin
theorem jj (hT : sO X.K T) (hg : Gl X "isinstance") (hm : X.mg "isinstance" = none) (ha : QE X a (tP X.K O m)) (hb : PE X b (tC (.ty T)))
    (h1 : starEach (a :: [b]) X.env = (false, eval a X.env) :: starEach [b] X.env := by rfl) (h2 : starEach [b] X.env = (false, eval b X.env) :: starEach [] X.env := by rfl) (hpl : (backTo pos (starEach [b] X.env)).any (·.1) = false := by rfl) :
    QE X (.Call (.Name "isinstance" p) [a, b] [] pos) (tE X.K O (lK T m)) :=
  QE.imp (sG (Ny hT) hg hm (show bootBuiltins "isinstance" = some (.builtin "isinstance") by decide +kernel) (cL ha.h (cL hb gf h2) h1) (by decide) (by decide) h1 hpl) fun σ H Q hq__ => by
    obtain ⟨A, B, Γ, d, r, em, k⟩ := hq__
    obtain ⟨d1, e1, em⟩ := Res.aF em
    cases em
    exact ⟨A, B, Γ, d1, r, e1, fun v A1 H1 g1 p1 => ⟨v, A1, d1, rfl, g1.ah, p1, k _ A1 H1 g1 (Rp.bool.mpr rfl)⟩⟩
theorem kE {x : Str} {T : String} {pos : Pos} (hg : Gl X x) (hm : X.mg x = none) (hv : bootBuiltins x = some (.type T)) (hn : x ≠ "__name__" := by decide) (hd : (x == ("__debug__" : Str)) = false := by decide) : PE X (.Name x pos) (tC (.ty T)) :=
  Lw (v := .ty T) hg hm hv rfl hn hd
end
noncomputable def MO := Ev → Res (Option Int)
section
variable {X : Cx} {O : List Fl} {m : ME} {lo hi : Option Expr} {ml mh : MO} {a e : Expr} {p pos p2 : Pos}
section
variable {prog : Program} {w : World} {A : Around} {E : Value → Shared → Prop} {s : Shared}
end
end
end L3
namespace L3
open PySem PySem.Spec PyProof.Rows L2
theorem bI {α : Type} {l : List α} {i : Nat} {x d : α} (h : i < l.length) : (l.set i x).getD i d = x := by
  rw [List.getD_eq_getElem?_getD, List.getElem?_set_self h]; rfl
theorem aY {α : Type} {l : List α} {i j : Nat} {x d : α} (h : i ≠ j) : (l.set i x).getD j d = l.getD j d := by
  rw [List.getD_eq_getElem?_getD, List.getD_eq_getElem?_getD, List.getElem?_set_ne h]
section
variable {K : PySem.W.Frag} {A B H : Hp} {O : List Fl} {σ : L2.St} {Γ : Ev} {i : Nat} {d : PyData} {v : V}
theorem aZ.set (r : aZ K A B H O σ Γ) (hi : i < Γ.length) (hO : i < O.length) (p : Rp K A d v) : aZ K A B H (O.set i .imm) (σ.set i (some v)) (Γ.set i (some d)) := by
  have hs : i < σ.length := by rw [← r.len]; exact hi
  refine ⟨r.a, r.b, by rw [List.length_set, List.length_set]; exact r.len, fun j => ?_, fun j k hjk h1 h2 h3 h4 => ?_⟩
  · by_cases hj : i = j
    · subst hj
      unfold fl gv sv
      rw [bI hO, bI hi, bI hs]
      exact fun d' e => ⟨v, rfl, by cases e; exact p⟩
    · unfold fl gv sv
      rw [aY hj, aY hj, aY hj]
      exact r.slot j
  · have hj : i ≠ j := fun z => by subst z; unfold fl at h1; rw [bI hO] at h1; cases h1
    have hk : i ≠ k := fun z => by subst z; unfold fl at h2; rw [bI hO] at h2; cases h2
    unfold fl at h1 h2
    unfold gv at h3 h4
    rw [aY hj] at h1 h3
    rw [aY hk] at h2 h4
    unfold sv
    rw [aY hj, aY hk]
    exact r.sep j k hjk h1 h2 h3 h4
theorem aZ.RC {p : Addr} {o : HO} (r : aZ K A B H O σ Γ) (hi : i < Γ.length) (hO : i < O.length) (h1 : H p = some o) (h2 : A p = none) (h3 : B p = none) (h4 : jo K A d o)
    (hn : ∀ j, isO (fl O j) = true → gv Γ j ≠ none → sv σ j ≠ some (.ref p)) : aZ K A B H (O.set i .own) (σ.set i (some (.ref p))) (Γ.set i (some d)) := by
  have hs : i < σ.length := by rw [← r.len]; exact hi
  refine ⟨r.a, r.b, by rw [List.length_set, List.length_set]; exact r.len, fun j => ?_, fun j k hjk q1 q2 q3 q4 => ?_⟩
  · by_cases hj : i = j
    · subst hj
      unfold fl gv sv
      rw [bI hO, bI hi, bI hs]
      exact fun d' e => ⟨_, rfl, by cases e; exact ⟨p, o, rfl, h1, h2, h3, h4⟩⟩
    · unfold fl gv sv
      rw [aY hj, aY hj, aY hj]
      exact r.slot j
  · unfold fl at q1 q2
    unfold gv at q3 q4
    unfold sv
    by_cases hj : i = j
    · subst hj
      have hk : i ≠ k := hjk
      rw [aY hk] at q2 q4
      rw [bI hs, aY hk]
      exact fun z => hn k q2 q4 z.symm
    · rw [aY hj] at q1 q3
      rw [aY hj]
      by_cases hk : i = k
      · subst hk
        rw [bI hs]
        exact hn j q1 q3
      · rw [aY hk] at q2 q4
        rw [aY hk]
        exact r.sep j k hjk q1 q2 q3 q4
theorem aZ.pX (r : aZ K A B H O σ Γ) {j : Nat} (h1 : isO (fl O j) = true) (h2 : gv Γ j ≠ none) : ∃ d p o, gv Γ j = some d ∧ sv σ j = some (.ref p) ∧ H p = some o ∧ A p = none ∧ B p = none ∧ jo K A d o := by
  cases e : gv Γ j with
  | none => exact absurd e h2
  | some d =>
    obtain ⟨v, e1, q⟩ := r.slot j d e
    cases hf : fl O j with
    | imm => rw [hf] at h1; cases h1
    | bor => rw [hf] at h1; cases h1
    | own =>
      rw [hf] at q
      obtain ⟨p, o, rfl, q⟩ := q
      exact ⟨d, p, o, rfl, e1, q⟩
    | fix p0 =>
      rw [hf] at q
      obtain ⟨_, p, o, rfl, q⟩ := q
      exact ⟨d, p, o, rfl, e1, q⟩
    | exc C => rw [hf] at h1; cases h1
    | nst b => rw [hf] at h1; cases h1
theorem aZ.fresh {A' H' : Hp} (r : aZ K A B H O σ Γ) (g : aQ A H A' H') {p : Addr} {o : HO} (hi : i < Γ.length) (hO : i < O.length) (h0 : H p = none) (h1 : H' p = some o) (h2 : A' p = none) (h4 : jo K A' d o) :
    aZ K A' B H' (O.set i .own) (σ.set i (some (.ref p))) (Γ.set i (some d)) := by
  refine (r.grow g).RC hi hO h1 h2 (r.b.free h0) h4 fun j q1 q2 z => ?_
  obtain ⟨d', p', o', e1, e2, e3, _⟩ := r.pX q1 q2
  rw [e2] at z
  cases z
  rw [h0] at e3
  cases e3
theorem aZ.freeze (r : aZ K A B H O σ Γ) (hi : fl O i = .own) (hO : i < O.length) : ∃ A', aH A A' ∧ New A A' B ∧ aZ K A' B H (O.set i .imm) σ Γ := by
  by_cases hg : gv Γ i = none
  · refine ⟨A, aH.refl _, fun _ h _ => h, r.a, r.b, r.len, fun j => ?_, fun j k hjk h1 h2 h3 h4 => ?_⟩
    · by_cases hj : i = j
      · subst hj
        intro d e
        rw [hg] at e
        cases e
      · unfold fl
        rw [aY hj]
        exact r.slot j
    · have hj : i ≠ j := fun z => by subst z; exact h3 hg
      have hk : i ≠ k := fun z => by subst z; exact h4 hg
      unfold fl at h1 h2
      rw [aY hj] at h1
      rw [aY hk] at h2
      exact r.sep j k hjk h1 h2 h3 h4
  · have hiO : isO (fl O i) = true := by rw [hi]; rfl
    obtain ⟨d, p, o, e1, e2, h1, h2, h3, h4⟩ := r.pX hiO hg
    have s : aH A (upd A p o) := aH.new h2 o
    refine ⟨upd A p o, s, fun q n1 n2 => ?_, fun b u q => ?_, r.b, r.len, fun j => ?_, fun j k hjk q1 q2 q3 q4 => ?_⟩
    · have hq : q ≠ p := fun z => n2 (z ▸ h3)
      rw [bw hq]; exact n1
    · by_cases hb : b = p
      · subst hb; rw [bz] at q; rw [h1]; exact q
      · rw [bw hb] at q; exact r.a b u q
    · by_cases hj : i = j
      · subst hj
        unfold fl
        rw [bI hO]
        intro d' e'
        rw [e1] at e'
        cases e'
        refine ⟨_, e2, ?_⟩
        exact h4.share s
      · unfold fl
        rw [aY hj]
        intro d' e'
        obtain ⟨v', e'', q⟩ := r.slot j d' e'
        refine ⟨v', e'', ?_⟩
        cases hf : fl O j with
        | imm => rw [hf] at q; unfold fl at hf; rw [hf]; exact Rp.mono s d' q
        | bor => rw [hf] at q; unfold fl at hf; rw [hf]; exact Pk.mono s (aH.refl _) q
        | own =>
          rw [hf] at q
          have hf' := hf
          unfold fl at hf
          rw [hf]
          obtain ⟨p', o', rfl, g1, g2, g3, g4⟩ := q
          refine ⟨p', o', rfl, g1, ?_, g3, g4.mono s⟩
          have hne : p' ≠ p := fun z => by
            refine r.sep i j hj hiO (by rw [hf']; rfl) hg (by rw [e']; simp) ?_
            rw [e2, e'', z]
          rw [bw hne]; exact g2
        | fix p0 =>
          rw [hf] at q
          have hf' := hf
          unfold fl at hf
          rw [hf]
          obtain ⟨q0, p', o', rfl, g1, g2, g3, g4⟩ := q
          refine ⟨q0, p', o', rfl, g1, ?_, g3, g4.mono s⟩
          have hne : p' ≠ p := fun z => by
            refine r.sep i j hj hiO (by rw [hf']; rfl) hg (by rw [e']; simp) ?_
            rw [e2, e'', z]
          rw [bw hne]; exact g2
        | exc C =>
          rw [hf] at q
          unfold fl at hf
          rw [hf]
          obtain ⟨p', ob, w1, w2, w3⟩ := q
          exact ⟨p', ob, w1, s _ _ w2, w3⟩
        | nst b =>
          rw [hf] at q
          unfold fl at hf
          rw [hf]
          intro z
          obtain ⟨p', xs, kvs, w1, w2, w3, w4, w5, w6⟩ := q z
          refine ⟨p', xs, kvs, w1, w2, w3, ?_, w5, w6.mono s⟩
          have hne : p' ≠ p := fun z => by subst z; rw [h1] at w3; exact h4.nx w3
          rw [bw hne]; exact w4
    · have hj : i ≠ j := fun z => by subst z; unfold fl at q1; rw [bI hO] at q1; cases q1
      have hk : i ≠ k := fun z => by subst z; unfold fl at q2; rw [bI hO] at q2; cases q2
      unfold fl at q1 q2
      rw [aY hj] at q1
      rw [aY hk] at q2
      exact r.sep j k hjk q1 q2 q3 q4
theorem aZ.change {p : Addr} {o o' : HO} {d' : PyData} (r : aZ K A B H O σ Γ) (hi : isO (fl O i) = true) (hl : i < Γ.length) (he : gv Γ i ≠ none) (hs : sv σ i = some (.ref p)) (h1 : H p = some o) (h4 : jo K A d' o') :
    aZ K A B (upd H p o') O σ (Γ.set i (some d')) := by
  obtain ⟨d, p', o0, e1, e2, g1, g2, g3, g4⟩ := r.pX hi he
  rw [hs] at e2
  cases e2
  refine ⟨fun b u q => ?_, fun b u q => ?_, by rw [List.length_set]; exact r.len, fun j => ?_, fun j k hjk q1 q2 q3 q4 => ?_⟩
  · have hb : b ≠ p := fun z => by rw [z, g2] at q; cases q
    rw [bw hb]; exact r.a b u q
  · have hb : b ≠ p := fun z => by rw [z, g3] at q; cases q
    rw [bw hb]; exact r.b b u q
  · by_cases hj : i = j
    · subst hj
      unfold gv
      rw [bI hl]
      intro d'' e
      cases e
      refine ⟨_, hs, ?_⟩
      cases hf : fl O i with
      | imm => rw [hf] at hi; cases hi
      | bor => rw [hf] at hi; cases hi
      | own => exact ⟨p, o', rfl, bz, g2, g3, h4⟩
      | fix p0 =>
        obtain ⟨v', ev, q⟩ := r.slot i d e1
        rw [hf] at q
        rw [hs] at ev
        cases ev
        exact ⟨q.1, p, o', rfl, bz, g2, g3, h4⟩
      | exc C => rw [hf] at hi; cases hi
      | nst b => rw [hf] at hi; cases hi
    · unfold gv
      rw [aY hj]
      intro d'' e''
      obtain ⟨v', ev, q⟩ := r.slot j d'' e''
      refine ⟨v', ev, ?_⟩
      cases hf : fl O j with
      | imm => rw [hf] at q; exact q
      | bor => rw [hf] at q; exact q
      | own =>
        rw [hf] at q
        obtain ⟨p', o', rfl, u1, u2, u3, u4⟩ := q
        refine ⟨p', o', rfl, ?_, u2, u3, u4⟩
        have hne : p' ≠ p := fun z => by
          refine r.sep i j hj hi (by rw [hf]; rfl) he (by show gv Γ j ≠ none; unfold gv; rw [e'']; simp) ?_
          rw [hs, ev, z]
        rw [bw hne]; exact u1
      | fix p0 =>
        rw [hf] at q
        obtain ⟨q0, p', o', rfl, u1, u2, u3, u4⟩ := q
        refine ⟨q0, p', o', rfl, ?_, u2, u3, u4⟩
        have hne : p' ≠ p := fun z => by
          refine r.sep i j hj hi (by rw [hf]; rfl) he (by show gv Γ j ≠ none; unfold gv; rw [e'']; simp) ?_
          rw [hs, ev, z]
        rw [bw hne]; exact u1
      | exc C => rw [hf] at q; exact q
      | nst b =>
        rw [hf] at q
        intro z
        obtain ⟨p', xs, kvs, w1, w2, w3, w4, w5, w6⟩ := q z
        have hne : p' ≠ p := fun z => by subst z; rw [g1] at w3; exact g4.nx w3
        exact ⟨p', xs, kvs, w1, w2, by rw [bw hne]; exact w3, w4, w5, w6⟩
  · have h3 : gv Γ j ≠ none := by
      by_cases hj : i = j
      · subst hj; exact he
      · unfold gv at q3 ⊢; rw [aY hj] at q3; exact q3
    have h4' : gv Γ k ≠ none := by
      by_cases hk : i = k
      · subst hk; exact he
      · unfold gv at q4 ⊢; rw [aY hk] at q4; exact q4
    exact r.sep j k hjk q1 q2 h3 h4'
theorem aZ.weak {Γ' : Ev} (r : aZ K A B H O σ Γ) (hl : Γ'.length = Γ.length) (h : ∀ j, gv Γ' j = none ∨ gv Γ' j = gv Γ j) : aZ K A B H O σ Γ' := by
  have h' : ∀ j, gv Γ' j ≠ none → gv Γ j ≠ none := fun j n => by
    rcases h j with z | z
    · exact absurd z n
    · rw [← z]; exact n
  refine ⟨r.a, r.b, hl.trans r.len, fun j d e => ?_, fun j k hjk q1 q2 q3 q4 => r.sep j k hjk q1 q2 (h' j q3) (h' k q4)⟩
  rcases h j with z | z
  · rw [z] at e; cases e
  · rw [z] at e; exact r.slot j d e
end
noncomputable def clr (l : List Nat) (Γ : Ev) : Ev := l.foldl (fun Γ i => Γ.set i none) Γ
theorem uC : ∀ (l : List Nat) (Γ : Ev), (clr l Γ).length = Γ.length ∧ ∀ j, gv (clr l Γ) j = none ∨ gv (clr l Γ) j = gv Γ j
  | [], Γ => ⟨rfl, fun _ => .inr rfl⟩
  | i :: l, Γ => by
    obtain ⟨h1, h2⟩ := uC l (Γ.set i none)
    refine ⟨h1.trans (List.length_set ..), fun j => ?_⟩
    rcases h2 j with z | z
    · exact .inl z
    · by_cases hj : i = j
      · subst hj
        left
        show gv (clr l (Γ.set i none)) i = none
        rw [z]
        unfold gv
        rw [List.getD_eq_getElem?_getD]
        by_cases hi : i < Γ.length
        · rw [List.getElem?_set_self hi]; rfl
        · rw [List.getElem?_eq_none (by rw [List.length_set]; omega)]; rfl
      · right
        show gv (clr l (Γ.set i none)) j = gv Γ j
        rw [z]
        unfold gv
        exact aY hj
theorem aZ.clr {K : PySem.W.Frag} {A B H : Hp} {O : List Fl} {σ : L2.St} {Γ : Ev} (r : aZ K A B H O σ Γ) (l : List Nat) : aZ K A B H O σ (L3.clr l Γ) := r.weak (uC l Γ).1 (uC l Γ).2
inductive Rm where
  | f | t | m (p : Addr)
noncomputable def N6 (K : PySem.W.Frag) (rm : Rm) (B A' H' : Hp) (d : PyData) (v : V) : Prop := match rm with
  | .f => Rp K A' d v
  | .t => qm K B A' H' d v
  | .m p => ∃ d1 dm o, d = .tuple [d1, dm] ∧ Rp K A' d1 v ∧ H' p = some o ∧ A' p = none ∧ jo K A' dm o
noncomputable def qF (K : PySem.W.Frag) (rm : Rm) (Ol O' : List Fl) (A B : Hp) (D : Ends) : Out → Prop
  | .nx Γ' => ∀ σ' A' H', aZ K A' B H' O' σ' Γ' → aH A A' → New A A' B → D.nx σ' H'
  | .bk Γ' => ∀ σ' A' H', aZ K A' B H' Ol σ' Γ' → aH A A' → New A A' B → D.bk σ' H'
  | .ct Γ' => ∀ σ' A' H', aZ K A' B H' Ol σ' Γ' → aH A A' → New A A' B → D.ct σ' H'
  | .rt d => ∀ v A' H', aH A' H' → aH B H' → aH A A' → New A A' B → N6 K rm B A' H' d v → D.rt v H'
noncomputable def tS (K : PySem.W.Frag) (rm : Rm) (Ol O O' : List Fl) (m : MS) : TS := fun D σ H => ∃ A B Γ o, aZ K A B H O σ Γ ∧ m Γ = .ok o ∧ qF K rm Ol O' A B D o
section
variable {K : PySem.W.Frag} {rm : Rm} {Ol O O' : List Fl} {A B A1 H H1 : Hp} {D : Ends} {o : Out}
theorem qF.sub (sa : aH A A1) (nw : New A A1 B) (h : qF K rm Ol O' A B D o) : qF K rm Ol O' A1 B D o := by
  cases o with
  | nx Γ => exact fun σ' A' H' r s n => h σ' A' H' r (sa.trans s) (nw.trans n)
  | bk Γ => exact fun σ' A' H' r s n => h σ' A' H' r (sa.trans s) (nw.trans n)
  | ct Γ => exact fun σ' A' H' r s n => h σ' A' H' r (sa.trans s) (nw.trans n)
  | rt d => exact fun v A' H' s1 s2 s n => h v A' H' s1 s2 (sa.trans s) (nw.trans n)
theorem aQ.nB (g : aQ A H A1 H1) (b : aH B H) : New A A1 B := g.nw.mono b
end
noncomputable def dB : MS := fun Γ => .ok (.nx Γ)
noncomputable def aP (a b : MS) : MS := fun Γ => (a Γ).bind fun o => match o with
  | .nx Γ' => b Γ'
  | .rt d => .ok (.rt d)
  | .bk Γ' => .ok (.bk Γ')
  | .ct Γ' => .ok (.ct Γ')
noncomputable def bj (i : Nat) (m : ME) : MS := fun Γ => (m Γ).bind fun d => gd (i < Γ.length) (.ok (.nx (Γ.set i (some d))))
noncomputable def sIf (c : ME) (a b : MS) : MS := fun Γ => (c Γ).bind fun x => match x with
  | .bool true => a Γ
  | .bool false => b Γ
  | _ => .bad
noncomputable def bh (m : ME) : MS := fun Γ => (m Γ).bind fun d => .ok (.rt d)
noncomputable def sEx (m : ME) : MS := fun Γ => (m Γ).bind fun _ => .ok (.nx Γ)
noncomputable def BW : MS := fun _ => .bad
section
variable {X : Cx} {K : PySem.W.Frag} {rm : Rm} {Ol O O1 O2 O' : List Fl} {m : ME} {m1 m2 : MS} {e c : Expr} {st : Stmt} {rest a b : List Stmt} {pos : Pos}
theorem bO : QSs X [] (tS K rm Ol O O dB) := QSs.imp Kf fun D σ H hq__ => by
  obtain ⟨A, B, Γ, o, r, em, k⟩ := hq__
  cases em
  exact k σ A H r (aH.refl _) fun _ h _ => h
theorem aC (h1 : QS X st (tS K rm Ol O O1 m1)) (h2 : QSs X rest (tS K rm Ol O1 O2 m2)) : QSs X (st :: rest) (tS K rm Ol O O2 (aP m1 m2)) := QSs.imp (Hz h1.h h2.h) fun D σ H hq__ => by
  obtain ⟨A, B, Γ, o, r, em, k⟩ := hq__
  obtain ⟨o1, e1, em⟩ := Res.aF em
  cases o1 with
  | nx Γ1 => exact ⟨A, B, Γ, _, r, e1, fun σ' A' H' r' sa nw => ⟨A', B, Γ1, o, r', em, k.sub sa nw⟩⟩
  | rt d => cases em; exact ⟨A, B, Γ, _, r, e1, k⟩
  | bk d => cases em; exact ⟨A, B, Γ, _, r, e1, k⟩
  | ct d => cases em; exact ⟨A, B, Γ, _, r, e1, k⟩
theorem aD (h1 : QS X st (tS K rm Ol O O1 m1)) : QSs X [st] (tS K rm Ol O O1 m1) := ⟨KJ h1.h⟩
theorem DN (i : Nat) {O2 : List Fl} (h : QS X st (tS K rm Ol O2 O' m1)) (hO : O.set i .imm = O2 := by rfl) (hi : fl O i = .own := by rfl) (hl : i < O.length := by exact of_decide_eq_true rfl) : QS X st (tS K rm Ol O O' m1) := QS.imp (hO ▸ h.h) fun D σ H hq__ => by
  obtain ⟨A, B, Γ, o, r, em, k⟩ := hq__
  obtain ⟨A', sa, nw, r'⟩ := r.freeze hi hl
  exact ⟨A', B, Γ, o, r', em, k.sub sa nw⟩
theorem Gu {te : TE} {i : Nat} (h : ∀ σ H Q, tE K O m σ H Q → te σ H Q) (hl : i < O.length) {D : Ends} {σ : L2.St} {H : Hp} (q : tS K rm Ol O (O.set i .imm) (bj i m) D σ H) : yI te (t7 i) D σ H := by
  obtain ⟨A, B, Γ, o, r, em, k⟩ := q
  obtain ⟨d, e1, em⟩ := Res.aF em
  obtain ⟨hi, em⟩ := bL em
  cases em
  refine h σ H _ ⟨A, B, Γ, d, r, e1, fun v A' H' g p => ?_⟩
  exact k _ A' H' ((r.grow g).set hi hl p) g.aa (g.nB r.b)
theorem wu {te : TE} {i : Nat} (h : ∀ σ H Q, tF K O m σ H Q → te σ H Q) (hl : i < O.length) {D : Ends} {σ : L2.St} {H : Hp} (q : tS K rm Ol O (O.set i .own) (bj i m) D σ H) : yI te (t7 i) D σ H := by
  obtain ⟨A, B, Γ, o, r, em, k⟩ := q
  obtain ⟨d, e1, em⟩ := Res.aF em
  obtain ⟨hi, em⟩ := bL em
  cases em
  refine h σ H _ ⟨A, B, Γ, d, r, e1, fun v A' H' g p => ?_⟩
  obtain ⟨p, o, rfl, h0, h1, h2, h4⟩ := p
  exact k _ A' H' (r.fresh g hi hl h0 h1 h2 h4) g.aa (g.nB r.b)
theorem bf (i : Nat) {O2 : List Fl} {x : Str} {pos' : Pos} (hN : X.N.Nodup) (hi : X.N[i]? = some x) (hx : Loc X.env.scope x) (he : QE X e (tE K O m)) (hl : i < O.length := by exact of_decide_eq_true rfl) (hs : swapsWith e (some (.Name x pos')) pos.line X.env = pure false := by rfl)
    (hf : X.fn x = true ∨ X.env.scope.names.lookup x = some .local := by first | exact .inl rfl | exact .inr rfl | assumption) (hO : O.set i .imm = O2 := by rfl) : QS X (.Assign [.Name x pos'] e pos) (tS K rm Ol O O2 (bj i m)) :=
  hO ▸ QS.imp (Eh hN hi hx he.h hs hf) fun D σ H => Gu (fun _ _ _ z => z) hl
theorem iU (i : Nat) {O2 : List Fl} {x : Str} {pos' : Pos} (hN : X.N.Nodup) (hi : X.N[i]? = some x) (hx : Loc X.env.scope x) (he : QE X e (tF K O m)) (hl : i < O.length := by exact of_decide_eq_true rfl) (hs : swapsWith e (some (.Name x pos')) pos.line X.env = pure false := by rfl)
    (hf : X.fn x = true ∨ X.env.scope.names.lookup x = some .local := by first | exact .inl rfl | exact .inr rfl | assumption) (hO : O.set i .own = O2 := by rfl) : QS X (.Assign [.Name x pos'] e pos) (tS K rm Ol O O2 (bj i m)) :=
  hO ▸ QS.imp (Eh hN hi hx he.h hs hf) fun D σ H => wu (fun _ _ _ z => z) hl
theorem cG (hc : QT X c (tT K O m)) (ha : QSs X a (tS K rm Ol O O' m1)) (hb : QSs X b (tS K rm Ol O O' m2)) : QS X (.If c a b pos) (tS K rm Ol O O' (sIf m m1 m2)) := QS.imp (Qm hc.h ha.h hb.h) fun D σ H hq__ => by
  obtain ⟨A, B, Γ, o, r, em, k⟩ := hq__
  obtain ⟨d1, e1, em⟩ := Res.aF em
  cases d1 with
  | bool bb =>
    refine ⟨A, B, Γ, bb, r, e1, fun A1 H1 g1 => ?_⟩
    cases bb with
    | true => exact vd ⟨A1, B, Γ, o, r.grow g1, em, k.sub g1.aa (g1.nB r.b)⟩
    | false => exact u0 ⟨A1, B, Γ, o, r.grow g1, em, k.sub g1.aa (g1.nB r.b)⟩
  | _ => cases em
theorem aW (he : QE X e (tE K O m)) : QS X (.Return (some e) pos) (tS K .f Ol O O' (bh m)) := QS.imp (xU he.h) fun D σ H hq__ => by
  obtain ⟨A, B, Γ, o, r, em, k⟩ := hq__
  obtain ⟨d1, e1, em⟩ := Res.aF em
  cases em
  exact ⟨A, B, Γ, d1, r, e1, fun v A' H' g p => k v A' H' g.ah (r.b.trans g.hh) g.aa (g.nB r.b) p⟩
theorem Bg (he : QE X e (tF K O m)) : QS X (.Return (some e) pos) (tS K .t Ol O O' (bh m)) := QS.imp (xU he.h) fun D σ H hq__ => by
  obtain ⟨A, B, Γ, o, r, em, k⟩ := hq__
  obtain ⟨d1, e1, em⟩ := Res.aF em
  cases em
  refine ⟨A, B, Γ, d1, r, e1, fun v A' H' g p => k v A' H' g.ah (r.b.trans g.hh) g.aa (g.nB r.b) ?_⟩
  obtain ⟨q, o, e, h1, h2⟩ := p
  exact ⟨q, o, e, r.b.free h1, h2⟩
theorem Ao (i : Nat) {x : Str} {p : Pos} (hi : fl O i = .own := by rfl) (hN : X.N[i]? = some x := by rfl) (hv : Vis X.env.scope x := by first | exact Or.inl rfl | exact Or.inr (Or.inl rfl) | exact Or.inr (Or.inr rfl)) (hd : (x == ("__debug__" : Str)) = false := by decide)
    (hcd : (x == ("__classdict__" : Str)) = false := by decide) : QS X (.Return (some (.Name x p)) pos) (tS K .t Ol O O' (bh (ak i))) := QS.imp (xU (n8 hN hv hd hcd)) fun D σ H hq__ => by
  obtain ⟨A, B, Γ, o, r, em, k⟩ := hq__
  obtain ⟨d1, e1, em⟩ := Res.aF em
  cases em
  obtain ⟨v, e2, q⟩ := r.slot i d1 (qR e1)
  rw [hi] at q
  refine ⟨v, oh e2, k v A H r.a r.b (aH.refl _) (fun _ h _ => h) ?_⟩
  obtain ⟨p, o, e, h1, h2, h3, h4⟩ := q
  exact ⟨p, o, e, h3, h1, h2, h4⟩
theorem yL : QS X st (tS K rm Ol O O' BW) := QS.imp Jl fun D σ H hq__ => by obtain ⟨A, B, Γ, o, r, em, k⟩ := hq__; cases em
theorem Qv (he : QE X e (tP K O m)) (hs : swapsWith e none pos.line X.env = pure false := by rfl) : QS X (.Expr e pos) (tS K rm Ol O O (sEx m)) := QS.imp (Ad he.h hs) fun D σ H hq__ => by
  obtain ⟨A, B, Γ, o, r, em, k⟩ := hq__
  obtain ⟨d1, e1, em⟩ := Res.aF em
  cases em
  exact ⟨A, B, Γ, d1, r, e1, fun v A' H' g p => k σ A' H' (r.grow g) g.aa (g.nB r.b)⟩
end
noncomputable def spF (K : PySem.W.Frag) (fs : List Fl) (rm : Rm) (f : List PyData → Res PyData) : Sp := fun vs H Q _ => ∃ A ds d, aH A H ∧ lH K A H fs ds vs ∧ f ds = .ok d ∧ ∀ v A' H', aQ A H A' H' → N6 K rm H A' H' d v → Q v H'
theorem lH.length {K : PySem.W.Frag} {A H : Hp} : ∀ {fs : List Fl} {ds : List PyData} {vs : List V}, lH K A H fs ds vs → vs.length = fs.length ∧ ds.length = fs.length
  | [], ds, vs, h => by obtain ⟨rfl, rfl⟩ := h; exact ⟨rfl, rfl⟩
  | f :: fs, ds, vs, h => by
    obtain ⟨d, r, v, s, rfl, rfl, _, h⟩ := h
    have := h.length
    exact ⟨by rw [List.length_cons, List.length_cons, this.1], by rw [List.length_cons, List.length_cons, this.2]⟩
noncomputable def aO (f : List PyData → Res PyData) (ms : List ME) : ME := fun Γ => (evs ms Γ).bind f
section
variable {X : Cx} {k : Nat} {x : Str} {ps : List Str} {fs : List Fl} {f : List PyData → Res PyData} {O : List Fl} {ms : List ME} {p pos : Pos} {e : Expr} {es : List Expr}
theorem aJ (F : Def X.prog X.w X.K X.mg X.base k x ps (spF X.K fs .f f)) (hr : dF k X.A) (hg : Gl X x) (ha : QA X (e :: es) (tAr X.K O fs ms)) (hdb : (x == ("__debug__" : Str)) = false := by decide)
    (he : noStar e = true := by rfl) (hpl : iQ es = true := by rfl) : QE X (.Call (.Name x p) (e :: es) [] pos) (tE X.K O (aO f ms)) :=
  QE.imp (DG F hr hg ha.h hdb (bV he) (gF hpl)) fun σ H Q hq__ => by
    obtain ⟨A, B, Γ, d, r, em, k⟩ := hq__
    obtain ⟨ds, e1, em⟩ := Res.aF em
    refine ⟨A, B, Γ, ds, r, e1, fun vs A1 H1 g1 p1 => ?_⟩
    show spF X.K fs .f f (vs ++ []) H1 Q E0
    rw [List.append_nil]
    exact ⟨A1, ds, d, g1.ah, p1, em, fun v A' H' g p => k v A' H' (g1.trans g) p⟩
theorem ou (F : Def X.prog X.w X.K X.mg X.base k x ps (spF X.K fs .t f)) (hr : dF k X.A) (hg : Gl X x) (ha : QA X (e :: es) (tAr X.K O fs ms)) (hdb : (x == ("__debug__" : Str)) = false := by decide)
    (he : noStar e = true := by rfl) (hpl : iQ es = true := by rfl) : QE X (.Call (.Name x p) (e :: es) [] pos) (tF X.K O (aO f ms)) :=
  QE.imp (DG F hr hg ha.h hdb (bV he) (gF hpl)) fun σ H Q hq__ => by
    obtain ⟨A, B, Γ, d, r, em, k⟩ := hq__
    obtain ⟨ds, e1, em⟩ := Res.aF em
    refine ⟨A, B, Γ, ds, r, e1, fun vs A1 H1 g1 p1 => ?_⟩
    show spF X.K fs .t f (vs ++ []) H1 Q E0
    rw [List.append_nil]
    refine ⟨A1, ds, d, g1.ah, p1, em, fun v A' H' g p => k v A' H' (g1.trans g) ?_⟩
    obtain ⟨q, o, e, h1, h2⟩ := p
    exact ⟨q, o, e, g1.hh.free h1, h2⟩
end
noncomputable def fnR (n : Nat) (m : MS) (ds : List PyData) : Res PyData := (m (ds.map some ++ List.replicate (n - ds.length) none)).bind fun o => match o with
  | .rt d => .ok d
  | _ => .bad
section
variable {P : Program} {w : World} {K : PySem.W.Frag} {mg : Str → Option Value} {base : Heap}
theorem nA {fs O : List Fl} {N : List Str} {A H : Hp} : ∀ {ds : List PyData} {vs : List V}, aH A H → lH K A H fs ds vs → (∀ i, i < fs.length → (fl O i = .imm ∧ fl fs i = .imm) ∨ fl O i = .bor) → fs.length ≤ N.length →
    aZ K A H H O (L2.start N vs) (ds.map some ++ List.replicate (N.length - ds.length) none) := by
  intro ds vs ha h hO hn
  have hl := h.length
  have one : ∀ (fs : List Fl) (ds : List PyData) (vs : List V), lH K A H fs ds vs → ∀ i d, ds[i]? = some d → ∃ v, vs[i]? = some v ∧ Oz K A H (fl fs i) d v := by
    intro fs
    induction fs with
    | nil => intro ds vs h i d e; obtain ⟨rfl, rfl⟩ := h; simp at e
    | cons f fs ih =>
      intro ds vs h i d e
      obtain ⟨d0, r, v, s, rfl, rfl, h1, h⟩ := h
      match i with
      | 0 => simp at e; subst e; exact ⟨v, rfl, h1⟩
      | i + 1 =>
        obtain ⟨v', h2, h3⟩ := ih r s h i d (by simpa using e)
        exact ⟨v', by simpa using h2, h3⟩
  have gvN : ∀ i, gv (ds.map some ++ List.replicate (N.length - ds.length) none) i = ds[i]? := fun i => by
    unfold gv
    rw [List.getD_eq_getElem?_getD]
    rcases Nat.lt_or_ge i ds.length with h | h
    · rw [List.getElem?_append_left (by simpa using h), List.getElem?_map, List.getElem?_eq_getElem h]; rfl
    · rw [List.getElem?_append_right (by simpa using h), List.getElem?_replicate, List.getElem?_eq_none h]
      split <;> rfl
  have svN : ∀ i v, vs[i]? = some v → sv (L2.start N vs) i = some v := fun i v e => by
    unfold sv L2.start
    rw [List.getD_eq_getElem?_getD]
    have h : i < vs.length := (List.getElem?_eq_some_iff.mp e).1
    rw [List.getElem?_append_left (by simpa using h), List.getElem?_map, e]; rfl
  refine ⟨ha, aH.refl _, ?_, fun i d e => ?_, fun i j hij h1 h2 h3 h4 => ?_⟩
  · unfold L2.start
    rw [List.length_append, List.length_append, List.length_map, List.length_map, List.length_replicate, List.length_replicate]
    omega
  · rw [gvN] at e
    obtain ⟨v, e1, q⟩ := one fs ds vs h i d e
    refine ⟨v, svN i v e1, ?_⟩
    have hi : i < fs.length := by rw [← hl.2]; exact (List.getElem?_eq_some_iff.mp e).1
    rcases hO i hi with ⟨z, z'⟩ | z
    · rw [z]; rw [z'] at q; exact q
    · rw [z]
      cases hf : fl fs i with
      | imm => rw [hf] at q; exact .inl q
      | bor => rw [hf] at q; exact q
      | own => rw [hf] at q; exact q
      | fix p0 => rw [hf] at q; exact q
      | exc C => rw [hf] at q; exact q
      | nst b => rw [hf] at q; exact q
  · rw [gvN] at h3
    have hi : i < fs.length := by
      rw [← hl.2]
      rcases Nat.lt_or_ge i ds.length with h | h
      · exact h
      · exact absurd (List.getElem?_eq_none h) h3
    rcases hO i hi with ⟨z, _⟩ | z <;> rw [z] at h1 <;> cases h1
theorem JX {x : Str} {st : Stmt} {fa : Addr} {fd : FuncData} {N ps : List Str} {k : Nat} {fs O O' Ol : List Fl} {rm : Rm} {m : MS} (F : Fun K x x st fa fd) (S : aV N ps (au st)) (hf : fs.length = ps.length) (hn : ps.length ≤ N.length)
    (hO : ∀ i, i < fs.length → (fl O i = .imm ∧ fl fs i = .imm) ∨ fl O i = .bor)
    (hbody : ∀ (f : Addr) (cdv : Value) (A : Around) (outer : List Env) (s : Shared) (H : Hp) (E : XK), dF k (A.deeper (envOfC x (au st) s.heap.objs.size f cdv)) →
      QSs (nQ CX0 P w K mg base N x (au st) f cdv A outer s H E).nox (aK st) (tS K rm Ol O O' m)) : mU P w K mg base CX0 (k + 1) fa fd ps (spF K fs rm (fnR N.length m)) := by
  refine F.ok S (fun vs H Q E h => ?_) (fun cdv A outer s H vs Q E hr h => ?_)
  · obtain ⟨A, ds, d, _, h, _⟩ := h
    rw [h.length.1, hf]
  · obtain ⟨A', ds, d, ha, h, em, q⟩ := h
    obtain ⟨o, e1, em⟩ := Res.aF em
    cases o with
    | rt d' =>
      cases em
      refine ⟨_, (hbody fa cdv A outer s H E hr).h, A', H, _, _, nA ha h hO (by omega), e1, fun v A2 H2 s1 s2 sa nw rv => q v A2 H2 ⟨sa, s2, s1, nw⟩ rv⟩
    | _ => cases em
theorem bA {x : Str} {st : Stmt} {N ps : List Str} {k : Nat} {fs O O' Ol : List Fl} {rm : Rm} {m : MS} (F : At K mg x st ps) (S : aV N ps (au st)) (hf : fs.length = ps.length) (hn : ps.length ≤ N.length)
    (hO : ∀ i, i < fs.length → (fl O i = .imm ∧ fl fs i = .imm) ∨ fl O i = .bor)
    (hbody : ∀ (f : Addr) (cdv : Value) (A : Around) (outer : List Env) (s : Shared) (H : Hp) (E : XK), dF k (A.deeper (envOfC x (au st) s.heap.objs.size f cdv)) →
      QSs (nQ CX0 P w K mg base N x (au st) f cdv A outer s H E).nox (aK st) (tS K rm Ol O O' m)) : Def P w K mg base (k + 1) x ps (spF K fs rm (fnR N.length m)) := by
  refine F.ok S (fun vs H Q E h => ?_) (fun f cdv A outer s H vs Q E hr h => ?_)
  · obtain ⟨A, ds, d, _, h, _⟩ := h
    rw [h.length.1, hf]
  · obtain ⟨A', ds, d, ha, h, em, q⟩ := h
    obtain ⟨o, e1, em⟩ := Res.aF em
    cases o with
    | rt d' =>
      cases em
      refine ⟨_, (hbody f cdv A outer s H E hr).h, A', H, _, _, nA ha h hO (by omega), e1, fun v A2 H2 s1 s2 sa nw rv => q v A2 H2 ⟨sa, s2, s1, nw⟩ rv⟩
    | _ => cases em
end
end L3
namespace L3
open PySem PySem.Spec PyProof.Rows L2
noncomputable abbrev MI := Ev → Res (List PyData)
structure p6 (K : PySem.W.Frag) (A B : Hp) (J : It) (xs : List PyData) : Prop where
  go : ∀ i H, aH A H → aH B H → i < xs.length → J.go i H
  stop : ∀ H, aH A H → aH B H → J.stop xs.length H
  yld : ∀ i A2 H x H', aH A A2 → aH A2 H → aH B H → i < xs.length → J.yld i H x H' → ∃ A' d, xs[i]? = some d ∧ aQ A2 H A' H' ∧ Rp K A' d x
noncomputable def tI (K : PySem.W.Frag) (O : List Fl) (it : MI) : TI := fun σ H R => ∃ A B Γ xs, aZ K A B H O σ Γ ∧ it Γ = .ok xs ∧ ∀ J A1 H1, aQ A H A1 H1 → p6 K A1 B J xs → R J H1
noncomputable def tIc (K : PySem.W.Frag) (O : List Fl) (it : MI) : TI := fun σ H R => ∃ A B Γ xs, aZ K A B H O σ Γ ∧ it Γ = .ok xs ∧ ∀ J A1 H1, aQ A H A1 H1 → p6 K A1 H1 J xs → R J H1
noncomputable def tQ (K : PySem.W.Frag) (O : List Fl) (m : ME) : TE := fun σ H Q => ∃ A B Γ d, aZ K A B H O σ Γ ∧ m Γ = .ok d ∧ ∀ v A' H', aQ A H A' H' → Pk K A' B d v → Q v H'
section
variable {X : Cx} {K : PySem.W.Frag} {O : List Fl} {m : ME} {e : Expr} {pos : Pos}
theorem sq (h : QE X e (tE K O m)) : QE X e (tQ K O m) := QE.imp h.h fun σ H Q hq__ => by obtain ⟨A, B, Γ, d, r, em, k⟩ := hq__; exact ⟨A, B, Γ, d, r, em, fun v A' H' g p => k v A' H' g (.inl p)⟩
theorem fM (i : Nat) {x : Str} (hi : isO (fl O i) = false := by rfl) (hN : X.N[i]? = some x := by rfl) (hv : Vis X.env.scope x := by first | exact Or.inl rfl | exact Or.inr (Or.inl rfl) | exact Or.inr (Or.inr rfl)) (hd : (x == ("__debug__" : Str)) = false := by decide)
    (hcd : (x == ("__classdict__" : Str)) = false := by decide) (hx : isX (fl O i) = false := by rfl) : QE X (.Name x pos) (tQ K O (ak i)) := QE.imp (n8 hN hv hd hcd) fun σ H Q hq__ => by
  obtain ⟨A, B, Γ, d, r, em, k⟩ := hq__
  obtain ⟨v, e1, q⟩ := r.slot i d (qR em)
  refine ⟨v, oh e1, k v A H (aQ.refl r.a) ?_⟩
  cases hf : fl O i with
  | imm => rw [hf] at q; exact .inl q
  | bor => rw [hf] at q; exact q
  | own => rw [hf] at hi; cases hi
  | fix p0 => rw [hf] at hi; cases hi
  | exc C => rw [hf] at hx; cases hx
  | nst b => rw [hf] at hx; cases hx
end
theorem Pk.Pq {K : PySem.W.Frag} {A B H : Hp} {ds : List PyData} {v : V} (h : Pk K A B (.list ds) v) : ∃ p vs, v = .ref p ∧ aB K A ds vs ∧ ∀ H, aH A H → aH B H → SqL K H p vs := by
  rcases h with h | ⟨p, vs, ds', e1, e2, h1, h2⟩ | ⟨_, _, _, _, e2, _⟩
  · obtain ⟨a, vs, e, h1, h2⟩ := Rp.list.mp h
    exact ⟨a, vs, e, h2, fun H s _ => s.seq h1⟩
  · cases e2
    exact ⟨p, vs, e1, h2, fun H _ s => s.seq h1⟩
  · cases e2
theorem Pk.oM {K : PySem.W.Frag} {A B H : Hp} {ds : List PyData} {v : V} (h : Pk K A B (.tuple ds) v) : ∃ p vs, v = .ref p ∧ aB K A ds vs ∧ ∀ H, aH A H → SqT K H p vs := by
  obtain ⟨a, vs, e, h1, h2⟩ := Rp.tuple.mp (h.jH (fun _ z => nomatch z) (fun _ z => nomatch z))
  exact ⟨a, vs, e, h2, fun H s => s.oM h1⟩
section
variable {K : PySem.W.Frag} {A B : Hp} {ds : List PyData} {vs : List V} {p : Addr}
theorem K9 (hr : aB K A ds vs) (hq : ∀ H, aH A H → aH B H → SqL K H p vs) : p6 K A B (Itl K p) ds := by
  have hl := hr.length
  refine ⟨fun i H s1 s2 hi => ?_, fun H s1 s2 => ⟨vs, hq H s1 s2, by omega⟩, fun i A2 H x H' sa s1 s2 hi y => ?_⟩
  · exact ⟨vs, vs[i]'(by omega), hq H s1 s2, List.getElem?_eq_getElem _⟩
  · obtain ⟨rfl, y⟩ := y
    have e := y vs (hq H' (sa.trans s1) s2)
    obtain ⟨d, e1, q⟩ := hr.get e
    exact ⟨A2, d, e1, aQ.refl s1, Rp.mono sa d q⟩
theorem NB (hr : aB K A ds vs) (hq : ∀ H, aH A H → SqT K H p vs) : p6 K A B (Itt K p) ds := by
  have hl := hr.length
  refine ⟨fun i H s1 s2 hi => ?_, fun H s1 s2 => ⟨vs, hq H s1, by omega⟩, fun i A2 H x H' sa s1 s2 hi y => ?_⟩
  · exact ⟨vs, vs[i]'(by omega), hq H s1, List.getElem?_eq_getElem _⟩
  · obtain ⟨rfl, y⟩ := y
    have e := y vs (hq H' (sa.trans s1))
    obtain ⟨d, e1, q⟩ := hr.get e
    exact ⟨A2, d, e1, aQ.refl s1, Rp.mono sa d q⟩
theorem yh (lo : Int) (n : Nat) : p6 K A B (Itr lo n) ((List.range n).map fun i => PyData.int (lo + (i : Nat))) := by
  have hl : ((List.range n).map fun i => PyData.int (lo + (i : Nat))).length = n := by rw [List.length_map, List.length_range]
  refine ⟨fun i H _ _ hi => (by rw [hl] at hi; exact hi), fun H _ _ => (by rw [hl]; exact Nat.le_refl _), fun i A2 H x H' sa s1 s2 hi y => ?_⟩
  obtain ⟨rfl, rfl⟩ := y
  rw [hl] at hi
  exact ⟨A2, .int (lo + (i : Nat)), by rw [List.getElem?_map, List.getElem?_range hi]; rfl, aQ.refl s1, Rp.int.mpr rfl⟩
theorem Qa (hr : aB K A ds vs) (hq : ∀ H, aH A H → aH B H → SqL K H p vs) : p6 K A B (Itv K p vs.length) ds.reverse := by
  have hl := hr.length
  refine ⟨fun i H s1 s2 hi => ?_, fun H s1 s2 => ?_, fun i A2 H x H' sa s1 s2 hi y => ?_⟩
  · rw [List.length_reverse, hl] at hi
    exact ⟨hi, vs, vs[vs.length - 1 - i]'(by omega), hq H s1 s2, List.getElem?_eq_getElem _⟩
  · rw [List.length_reverse, hl]; rfl
  · rw [List.length_reverse, hl] at hi
    obtain ⟨rfl, y⟩ := y
    have e := y vs (hq H' (sa.trans s1) s2)
    have e' : vs.reverse[i]? = some x := by rw [List.getElem?_reverse hi]; exact e
    obtain ⟨d, e1, q⟩ := hr.reverse.get e'
    exact ⟨A2, d, e1, aQ.refl s1, Rp.mono sa d q⟩
end
noncomputable def itL (m : ME) : MI := fun Γ => (m Γ).bind fun d => match d with
  | .list ds => .ok ds
  | .tuple ds => .ok ds
  | _ => .bad
noncomputable def fU (m : ME) : MI := fun Γ => (m Γ).bind fun d => match d with
  | .int j => gd (-(2 ^ 62) ≤ j ∧ j < 2 ^ 62) (.ok ((List.range j.toNat).map fun i => PyData.int (0 + (i : Nat))))
  | _ => .bad
noncomputable def itV (m : ME) : MI := fun Γ => (m Γ).bind fun d => match d with
  | .list ds => .ok ds.reverse
  | _ => .bad
section
variable {X : Cx} {O : List Fl} {m m' : ME} {e a b tg : Expr} {pos p : Pos}
noncomputable def Ra (K : PySem.W.Frag) (tl : TE) : TI := fun σ H R => tl σ H fun x H1 => ∃ a, x = .ref a ∧ (((∃ xs, SqL K H1 a xs) ∧ R (Itl K a) H1) ∨ ((∃ xs, SqT K H1 a xs) ∧ R (Itt K a) H1))
theorem FT {l : Expr} {tl : TE} (hl : PE X l tl) : PI X tg l (Ra X.K tl) := by
  intro pins s σ H R I h
  refine thn (hl pins s σ H _ I h) fun v s1 hq__ => ?_
  obtain ⟨x, H1, I1, r1, q1⟩ := hq__
  obtain ⟨a, e, q1⟩ := q1
  subst e
  cases r1
  rcases q1 with ⟨⟨xs, hq⟩, q⟩ | ⟨⟨xs, hq⟩, q⟩
  · obtain ⟨its, rv, p, hz⟩ := I1.list hq
    refine wpAny_pyIter_list p.isList ?_
    refine ⟨s1.heap.objs.size, [s1.heap.objs.size], _, _, H1, rfl, I1.kept (t' := s1.toks) fun b o e => Heap.get?_push_of_some _ e, Ez a _, ⟨_, Heap.get?_push_size _ rfl, rfl, rfl⟩, fun b hb => ?_, q⟩
    have e : b = s1.heap.objs.size := by simpa using hb
    subst e
    exact I1.rY (Nat.le_refl _) (I1.hok.fresh (Nat.le_refl _))
  · obtain ⟨its, rv, p, hz⟩ := I1.tuple hq
    refine wpAny_pyIter_tuple (show s1.heap.IsTuple a its.toArray from p) ?_
    refine ⟨s1.heap.objs.size, [s1.heap.objs.size], _, _, H1, rfl, I1.kept (t' := s1.toks) fun b o e => Heap.get?_push_of_some _ e, Cu a _, ⟨_, Heap.get?_push_size _ rfl, rfl, rfl⟩, fun b hb => ?_, q⟩
    have e : b = s1.heap.objs.size := by simpa using hb
    subst e
    exact I1.rY (Nat.le_refl _) (I1.hok.fresh (Nat.le_refl _))
theorem Ah {K : PySem.W.Frag} {A B H1 : Hp} {d : PyData} {v : V} {R : It → Hp → Prop} {xs : List PyData} (sa : aH A H1) (sb : aH B H1) (p : Pk K A B d v) (e : (match d with | .list ds => Res.ok ds | .tuple ds => .ok ds | _ => .bad) = .ok xs)
    (k : ∀ J, p6 K A B J xs → R J H1) : ∃ a, v = .ref a ∧ (((∃ xs, SqL K H1 a xs) ∧ R (Itl K a) H1) ∨ ((∃ xs, SqT K H1 a xs) ∧ R (Itt K a) H1)) := by
  cases d with
  | list ds =>
    cases e
    obtain ⟨q, vs, rfl, h2, h1⟩ := p.Pq (H := H1)
    exact ⟨q, rfl, .inl ⟨⟨vs, h1 H1 sa sb⟩, k _ (K9 h2 h1)⟩⟩
  | tuple ds =>
    cases e
    obtain ⟨q, vs, rfl, h2, h1⟩ := p.oM (H := H1)
    exact ⟨q, rfl, .inr ⟨⟨vs, h1 H1 sa⟩, k _ (NB h2 h1)⟩⟩
  | _ => cases e
theorem cj (h : QE X e (tQ X.K O m)) : QI X tg e (tI X.K O (itL m)) := QI.imp (FT h.h) fun σ H R hq__ => by
  obtain ⟨A, B, Γ, xs, r, em, k⟩ := hq__
  obtain ⟨d, e1, em⟩ := Res.aF em
  refine ⟨A, B, Γ, d, r, e1, fun v A1 H1 g1 p1 => Ah g1.ah (r.b.trans g1.hh) p1 em fun J hj => k J A1 H1 g1 hj⟩
theorem lD (h : QE X e (tP X.K O m)) : QI X tg e (tIc X.K O (itL m)) := QI.imp (FT h.h) fun σ H R hq__ => by
  obtain ⟨A, B, Γ, xs, r, em, k⟩ := hq__
  obtain ⟨d, e1, em⟩ := Res.aF em
  refine ⟨A, B, Γ, d, r, e1, fun v A1 H1 g1 p1 => Ah g1.ah (aH.refl _) p1 em fun J hj => k J A1 H1 g1 hj⟩
theorem fK (hg : Gl X "range") (hm : X.mg "range" = none) (ha : QE X a (tP X.K O m)) (hs : starEach [a] X.env = [(false, eval a X.env)] := by rfl) : QI X tg (.Call (.Name "range" p) [a] [] pos) (tI X.K O (fU m)) :=
  QI.imp (vA hg hm (cL ha.h gf hs) hs) fun σ H R hq__ => by
    obtain ⟨A, B, Γ, xs, r, em, k⟩ := hq__
    obtain ⟨d, e1, em⟩ := Res.aF em
    cases d with
    | int j =>
      obtain ⟨hc, em⟩ := bL em
      cases em
      exact ⟨A, B, Γ, _, r, e1, fun v A1 H1 g1 p1 => ⟨j, by rw [p1.int], hc.1, hc.2, k _ A1 H1 g1 (yh 0 _)⟩⟩
    | _ => cases em
theorem ik (hg : Gl X "range") (hm : X.mg "range" = none) (ha : QE X a (tP X.K O m)) (hs : starEach [a] X.env = [(false, eval a X.env)] := by rfl) : QI X tg (.Call (.Name "range" p) [a] [] pos) (tIc X.K O (fU m)) :=
  QI.imp (vA hg hm (cL ha.h gf hs) hs) fun σ H R hq__ => by
    obtain ⟨A, B, Γ, xs, r, em, k⟩ := hq__
    obtain ⟨d, e1, em⟩ := Res.aF em
    cases d with
    | int j =>
      obtain ⟨hc, em⟩ := bL em
      cases em
      exact ⟨A, B, Γ, _, r, e1, fun v A1 H1 g1 p1 => ⟨j, by rw [p1.int], hc.1, hc.2, k _ A1 H1 g1 (yh 0 _)⟩⟩
    | _ => cases em
theorem MN (hg : Gl X "reversed") (hm : X.mg "reversed" = none) (ha : QE X a (tQ X.K O m)) (hs : starEach [a] X.env = [(false, eval a X.env)] := by rfl) : QI X tg (.Call (.Name "reversed" p) [a] [] pos) (tI X.K O (itV m)) :=
  QI.imp (Nm hg hm (cL ha.h gf hs) hs) fun σ H R hq__ => by
    obtain ⟨A, B, Γ, xs, r, em, k⟩ := hq__
    obtain ⟨d, e1, em⟩ := Res.aF em
    cases d with
    | list ds =>
      cases em
      refine ⟨A, B, Γ, _, r, e1, fun v A1 H1 g1 p1 => ?_⟩
      obtain ⟨q, vs, rfl, h2, h1⟩ := p1.Pq (H := H1)
      exact ⟨q, vs, rfl, h1 H1 g1.ah (r.b.trans g1.hh), k _ A1 H1 g1 (Qa h2 h1)⟩
    | _ => cases em
variable {elts : List Expr} {tpos : Pos}
end
noncomputable abbrev MG := PyData → Ev → Res Ev
noncomputable def gN (i : Nat) : MG := fun d Γ => gd (i < Γ.length) (.ok (Γ.set i (some d)))
noncomputable def gTs : List MG → List PyData → Ev → Res Ev
  | [], [], Γ => .ok Γ
  | g :: gs, d :: ds, Γ => (g d Γ).bind fun Γ' => gTs gs ds Γ'
  | _, _, _ => .bad
noncomputable def gT (gs : List MG) : MG := fun d Γ => match d with
  | .tuple ds => gTs gs ds Γ
  | _ => .bad
noncomputable def my (is : List Nat) (σ σ' : L2.St) : Prop := σ'.length = σ.length ∧ ∀ j, j ∉ is → σ'[j]? = σ[j]?
theorem my.trans {is js : List Nat} {σ σ' σ'' : L2.St} (h : my is σ σ') (h' : my js σ' σ'') : my (is ++ js) σ σ'' :=
  ⟨h'.1.trans h.1, fun j hj => (h'.2 j fun z => hj (List.mem_append_right _ z)).trans (h.2 j fun z => hj (List.mem_append_left _ z))⟩
noncomputable def tG (K : PySem.W.Frag) (O O' : List Fl) (is : List Nat) (g : MG) : TG := fun v σ H Q => ∃ A B Γ d Γ', aZ K A B H O σ Γ ∧ Rp K A d v ∧ g d Γ = .ok Γ' ∧ ∀ σ', aZ K A B H O' σ' Γ' → my is σ σ' → Q σ' H
noncomputable def tGs (K : PySem.W.Frag) (O O' : List Fl) (is : List Nat) (gs : List MG) : TGs := fun vs σ H Q => ∃ A B Γ ds Γ', aZ K A B H O σ Γ ∧ aB K A ds vs ∧ gTs gs ds Γ = .ok Γ' ∧ ∀ σ', aZ K A B H O' σ' Γ' → my is σ σ' → Q σ' H
theorem PG.imp {X : Cx} {tg : Expr} {t t' : TG} (h : PG X tg t) (i : ∀ v σ H Q, t' v σ H Q → t v σ H Q) : PG X tg t' := fun pins s σ H v u Q I r q => h pins s σ H v u Q I r (i v σ H Q q)
theorem PGs.imp {X : Cx} {tg : List Expr} {t t' : TGs} (h : PGs X tg t) (i : ∀ v σ H Q, t' v σ H Q → t v σ H Q) : PGs X tg t' := fun pins s σ H v u Q I r q => h pins s σ H v u Q I r (i v σ H Q q)
theorem QG.imp {X : Cx} {tg : Expr} {t t' : TG} (h : PG X tg t) (i : ∀ v σ H Q, t' v σ H Q → t v σ H Q) : QG X tg t' := ⟨PG.imp h i⟩
theorem QGs.imp {X : Cx} {tg : List Expr} {t t' : TGs} (h : PGs X tg t) (i : ∀ v σ H Q, t' v σ H Q → t v σ H Q) : QGs X tg t' := ⟨PGs.imp h i⟩
theorem uv : ∀ {gs : List MG} {ds : List PyData} {Γ Γ' : Ev}, gTs gs ds Γ = .ok Γ' → ds.length = gs.length
  | [], [], _, _, _ => rfl
  | g :: gs, d :: ds, Γ, Γ', h => by
    obtain ⟨Γ1, _, h⟩ := Res.aF h
    rw [List.length_cons, List.length_cons, uv h]
section
variable {X : Cx} {O O1 O2 O' : List Fl} {is js : List Nat} {g : MG} {gs : List MG} {e : Expr} {es : List Expr} {pos : Pos}
theorem aN (i : Nat) {O2 : List Fl} {x : Str} (hN : X.N.Nodup) (hi : X.N[i]? = some x) (hx : Loc X.env.scope x) (hl : i < O.length := by exact of_decide_eq_true rfl) (hf : X.fn x = true ∨ X.env.scope.names.lookup x = some .local := by first | exact .inl rfl | exact .inr rfl | assumption) (hO : O.set i .imm = O2 := by rfl) :
    QG X (.Name x pos) (tG X.K O O2 [i] (gN i)) := hO ▸ QG.imp (Lr hN hi hx hf) fun v σ H Q hq__ => by
  obtain ⟨A, B, Γ, d, Γ', r, p, em, k⟩ := hq__
  obtain ⟨hi, em⟩ := bL em
  cases em
  exact k _ (r.set hi hl p) ⟨List.length_set .., fun j hj => List.getElem?_set_ne (fun z => hj (by rw [z]; exact List.mem_cons_self))⟩
theorem u5 : QGs X [] (tGs X.K O O [] []) := QGs.imp LK fun vs σ H Q hq__ => by
  obtain ⟨A, B, Γ, ds, Γ', r, p, em, k⟩ := hq__
  cases ds with
  | nil => cases em; exact ⟨aB.nil.mp p, k σ r ⟨rfl, fun _ _ => rfl⟩⟩
  | cons d ds => cases em
theorem iw (h1 : QG X e (tG X.K O O1 is g)) (h2 : QGs X es (tGs X.K O1 O2 js gs)) (hs : (assignEach (e :: es) X.env).map (·.2) = assign e X.env :: (assignEach es X.env).map (·.2) := by rfl) : QGs X (e :: es) (tGs X.K O O2 (is ++ js) (g :: gs)) := by
  refine QGs.imp (Hq h1.h h2.h ?_) fun vs σ H Q ⟨A, B, Γ, ds, Γ', r, p, em, k⟩ => ?_
  · exact hs
  · cases ds with
    | nil => cases em
    | cons d ds =>
      obtain ⟨Γ1, e1, em⟩ := Res.aF em
      obtain ⟨v, r', rfl, p1, p2⟩ := aB.cons.mp p
      exact ⟨v, r', rfl, A, B, Γ, d, Γ1, r, p1, e1, fun σ' r2 y => ⟨A, B, Γ1, ds, Γ', r2, p2, em, fun σ2 r3 y2 => k σ2 r3 (y.trans y2)⟩⟩
theorem xP {k : Nat} {n : Nat} (hc : X.calm = true) (h : QGs X es (tGs X.K O O' is gs)) (hgs : gs.length = n := by rfl)
    (hn : (assignEach es X.env).length = n := by rfl) (hst : (assignEach es X.env).findIdx? (·.1) = none := by rfl) : QG X (.Tuple es k pos) (tG X.K O O' is (gT gs)) := QG.imp (Pu hc h.h hn hst) fun v σ H Q hq__ => by
  obtain ⟨A, B, Γ, d, Γ', r, p, em, k⟩ := hq__
  cases d with
  | tuple ds =>
    have p' := Rp.tuple.mp p
    obtain ⟨a, vs, rfl, h1, h2⟩ := p'
    exact ⟨a, vs, rfl, r.a.oM h1, by rw [← h2.length, ← hgs]; exact uv em, A, B, Γ, ds, Γ', r, h2, em, k⟩
  | _ => cases em
end
noncomputable def Dg (g : MG) (m : ME) : MS := fun Γ => (m Γ).bind fun d => (g d Γ).bind fun Γ' => .ok (.nx Γ')
section
variable {X : Cx} {rm : Rm} {Ol O O' : List Fl} {is : List Nat} {g : MG} {m : ME} {tg e : Expr} {pos : Pos}
theorem Ei (he : QE X e (tE X.K O m)) (hg : QG X tg (tG X.K O O' is g)) (hs : swapsWithSole [tg] e pos.line X.env = pure false := by rfl) (hw : swappedStores [tg] e X.env = pure none := by rfl) (h1 : (assignEach [tg] X.env).map (·.2) = [assign tg X.env] := by rfl) : QS X (.Assign [tg] e pos) (tS X.K rm Ol O O' (Dg g m)) := by
  refine QS.imp (OJ he.h hg.h hs hw h1) fun D σ H hq__ => ?_
  obtain ⟨A, B, Γ, o, r, em, k⟩ := hq__
  obtain ⟨d, e1, em⟩ := Res.aF em
  obtain ⟨Γ', e2, em⟩ := Res.aF em
  cases em
  exact ⟨A, B, Γ, d, r, e1, fun v A' H' g p => ⟨A', B, Γ, d, Γ', r.grow g, p, e2, fun σ' r' _ => k σ' A' H' r' g.aa (g.nB r.b)⟩⟩
end
noncomputable def wR (O Oe : List Fl) (cl : List Nat) : Bool := Oe.length == O.length && (List.range O.length).all fun j => decide (fl Oe j = fl O j) || cl.contains j
theorem Hf {O Oe : List Fl} {cl : List Nat} (h : wR O Oe cl = true) (j : Nat) : fl Oe j = fl O j ∨ j ∈ cl := by
  unfold wR at h
  rw [Bool.and_eq_true, List.all_eq_true] at h
  rcases Nat.lt_or_ge j O.length with hj | hj
  · have := h.2 j (List.mem_range.mpr hj)
    rw [Bool.or_eq_true] at this
    rcases this with z | z
    · exact .inl (of_decide_eq_true z)
    · exact .inr (by simpa using z)
  · left
    unfold fl
    rw [List.getD_eq_getElem?_getD, List.getD_eq_getElem?_getD, List.getElem?_eq_none hj, List.getElem?_eq_none (by rw [show Oe.length = O.length by simpa using h.1]; exact hj)]
theorem yP : ∀ (l : List Nat) (Γ : Ev) (j : Nat), j ∈ l → gv (clr l Γ) j = none
  | i :: l, Γ, j, h => by
    by_cases hj : j ∈ l
    · exact yP l (Γ.set i none) j hj
    · have e : j = i := by
        rcases List.mem_cons.mp h with z | z
        · exact z
        · exact absurd z hj
      subst e
      rcases (uC l (Γ.set j none)).2 j with z | z
      · exact z
      · show gv (clr l (Γ.set j none)) j = none
        rw [z]
        unfold gv
        rw [List.getD_eq_getElem?_getD]
        by_cases hi : j < Γ.length
        · rw [List.getElem?_set_self hi]; rfl
        · rw [List.getElem?_eq_none (by rw [List.length_set]; omega)]; rfl
theorem aZ.j7 {K : PySem.W.Frag} {A B H : Hp} {O Oe : List Fl} {σ : L2.St} {Γ : Ev} {cl : List Nat} (hE : wR O Oe cl = true) (r : aZ K A B H Oe σ Γ) : aZ K A B H O σ (L3.clr cl Γ) := by
  have r' := r.clr cl
  have hf : ∀ j, gv (L3.clr cl Γ) j ≠ none → fl O j = fl Oe j := fun j n => by
    rcases Hf hE j with z | z
    · exact z.symm
    · exact absurd (yP cl Γ j z) n
  refine ⟨r'.a, r'.b, r'.len, fun j d e => ?_, fun i j hij h1 h2 h3 h4 => r'.sep i j hij (by rw [← hf i h3]; exact h1) (by rw [← hf j h4]; exact h2) h3 h4⟩
  have := r'.slot j d e
  rw [hf j (by rw [e]; simp)]
  exact this
noncomputable def forR (g : MG) (cl : List Nat) (b : MS) : List PyData → Ev → Res Out
  | [], Γ => .ok (.nx Γ)
  | x :: xs, Γ => (g x Γ).bind fun Γ1 => (b Γ1).bind fun o => match o with
    | .nx Γ2 => forR g cl b xs (clr cl Γ2)
    | .ct Γ2 => forR g cl b xs (clr cl Γ2)
    | .bk Γ2 => .ok (.nx (clr cl Γ2))
    | .rt d => .ok (.rt d)
noncomputable def cg (it : MI) (g : MG) (cl : List Nat) (b : MS) : MS := fun Γ => (it Γ).bind fun xs => forR g cl b xs Γ
section
variable {X : Cx} {rm : Rm} {Ol O : List Fl} {is : List Nat} {g : MG} {it : MI} {cl : List Nat} {mb : MS} {tg iter : Expr} {body : List Stmt} {pos : Pos}
theorem bD (hp : PassesOwn (model X.prog X.w) X.A X.env X.xe) (hc : X.calm = true) (cl : List Nat) {Oe : List Fl} (hi : QI X tg iter (tI X.K O it)) (hg : QG X tg (tG X.K O O is g)) (hb : QSs X body (tS X.K rm Oe O Oe mb)) (hE : wR O Oe cl = true)
    (hs : ∀ x, foldedSetIterable iter X.env x = pure x := by intro _; rfl) : QS X (.For tg iter body [] pos) (tS X.K rm Ol O O (cg it g cl mb)) := by
  refine QS.imp (My hp hc hi.h hg.h hb.h hs) fun D σ H hq__ => ?_
  obtain ⟨A, B, Γ, o, r, em, k⟩ := hq__
  obtain ⟨xs, e1, em⟩ := Res.aF em
  refine ⟨A, B, Γ, xs, r, e1, fun J A1 H1 g1 hj => ?_⟩
  refine ⟨fun i n σ' H' => n = xs.length - i ∧ i ≤ xs.length ∧ ∃ A2 Γ2, aZ X.K A2 B H' O σ' Γ2 ∧ aH A A2 ∧ New A A2 B ∧ aH A1 A2 ∧ forR g cl mb (xs.drop i) Γ2 = .ok o, ⟨xs.length, rfl, Nat.zero_le _, A1, Γ, r.grow g1, g1.aa, g1.nB r.b, aH.refl _, em⟩, ?_⟩
  rintro i n σ' H' ⟨rfl, hi.h, A2, Γ2, r2, sa, nw, s12, e2⟩
  by_cases hlt : i < xs.length
  · refine .inr ⟨hj.go i H' (s12.trans r2.a) r2.b hlt, fun σ'' H'' => i + 1 ≤ xs.length ∧ ∃ A3 Γ3, aZ X.K A3 B H'' O σ'' Γ3 ∧ aH A A3 ∧ New A A3 B ∧ aH A1 A3 ∧ forR g cl mb (xs.drop (i + 1)) Γ3 = .ok o, ?_, fun x H3 y => ?_⟩
    · rintro σ'' H'' ⟨h1, A3, Γ3, h2⟩
      exact ⟨xs.length - (i + 1), by omega, rfl, h1, A3, Γ3, h2⟩
    · obtain ⟨A3, d, ed, g3, p3⟩ := hj.yld i A2 H' x H3 s12 r2.a r2.b hlt y
      have hd : xs.drop i = d :: xs.drop (i + 1) := by
        rw [List.drop_eq_getElem_cons hlt]
        rw [List.getElem?_eq_getElem hlt] at ed
        cases ed
        rfl
      rw [hd] at e2
      obtain ⟨Γ3, e3, e2⟩ := Res.aF e2
      obtain ⟨o3, e4, e2⟩ := Res.aF e2
      have sa3 := sa.trans g3.aa
      have nw3 : New A A3 B := nw.trans (g3.nB r2.b)
      refine ⟨A3, B, Γ2, d, Γ3, r2.grow g3, p3, e3, fun σ4 r4 _ => ⟨A3, B, Γ3, o3, r4, e4, ?_⟩⟩
      have sb : ∀ {D' : Ends}, qF X.K rm Ol O A B D' o → qF X.K rm Ol O A3 B D' o := fun h => h.sub sa3 nw3
      cases o3 with
      | nx Γ4 => exact fun σ5 A5 H5 r5 s5 n5 => ⟨hlt, A5, clr cl Γ4, r5.j7 hE, sa3.trans s5, nw3.trans n5, s12.trans (g3.aa.trans s5), e2⟩
      | ct Γ4 => exact fun σ5 A5 H5 r5 s5 n5 => ⟨hlt, A5, clr cl Γ4, r5.j7 hE, sa3.trans s5, nw3.trans n5, s12.trans (g3.aa.trans s5), e2⟩
      | bk Γ4 =>
        cases e2
        exact fun σ5 A5 H5 r5 s5 n5 => k σ5 A5 H5 (r5.j7 hE) (sa3.trans s5) (nw3.trans n5)
      | rt d' =>
        cases e2
        exact fun v A5 H5 q1 q2 s5 n5 rv => k v A5 H5 q1 q2 (sa3.trans s5) (nw3.trans n5) rv
  · have e : i = xs.length := by omega
    subst e
    rw [List.drop_length] at e2
    cases e2
    exact .inl ⟨hj.stop H' (s12.trans r2.a) r2.b, k σ' A2 H' r2 sa nw⟩
end
section
variable {X : Cx} {rm : Rm} {Ol O : List Fl} {cl : List Nat} {c : Expr} {mc : ME} {mb : MS} {body : List Stmt} {pos : Pos}
end
end L3
namespace L3
open PySem PySem.Spec PyProof.Rows L2
noncomputable def lN (g : MG) (c : ME) (e : ME) (Γ : Ev) : List PyData → Res (List PyData)
  | [] => .ok []
  | x :: xs => (g x Γ).bind fun Γ1 => (c Γ1).bind fun t => match t with
    | .bool true => (e Γ1).bind fun d => (lN g c e Γ xs).bind fun ds => .ok (d :: ds)
    | .bool false => lN g c e Γ xs
    | _ => .bad
noncomputable def gb (nt : Nat) (ix : List Nat) (Γ : Ev) : Ev := List.replicate nt none ++ ix.map (gv Γ)
noncomputable def bfl : Fl → Fl
  | .own => .bor
  | .fix _ => .bor
  | .nst _ => .nst false
  | f => f
noncomputable def jG (nt : Nat) (ix : List Nat) (O : List Fl) : List Fl := List.replicate nt .imm ++ ix.map fun i => bfl (fl O i)
noncomputable def cu (it : MI) (g : MG) (c e : ME) (nt : Nat) (ix : List Nat) : ME := fun Γ => (it Γ).bind fun xs => gd (xs.length < sizeLine) ((lN g c e (gb nt ix Γ) xs).bind fun ds => .ok (.list ds))
section
variable {K : PySem.W.Frag} {A B H : Hp} {O : List Fl} {σ : L2.St} {Γ : Ev}
theorem JN {σ : L2.St} {i : Nat} : (σ[i]?).join = sv σ i := by
  unfold sv
  rw [List.getD_eq_getElem?_getD]
  cases σ[i]? with
  | none => rfl
  | some o => rfl
theorem m6 {α : Type} {os : List α} {ix : List Nat} {f : Nat → α} {d : α} (j : Nat) : (os ++ ix.map f).getD j d = if j < os.length then os.getD j d else match ix[j - os.length]? with | some i => f i | none => d := by
  rw [List.getD_eq_getElem?_getD]
  split
  · rename_i h
    rw [List.getElem?_append_left h, List.getD_eq_getElem?_getD]
  · rename_i h
    rw [List.getElem?_append_right (by omega), List.getElem?_map]
    cases ix[j - os.length]? <;> rfl
theorem aZ.block (r : aZ K A B H O σ Γ) {os : List (Option V)} {nt : Nat} (ho : os.length = nt) (ix : List Nat) : aZ K A H H (jG nt ix O) (os ++ ix.map fun i => (σ[i]?).join) (gb nt ix Γ) := by
  have fN : ∀ j, isO (fl (jG nt ix O) j) = false := fun j => by
    unfold fl jG
    rw [m6, List.length_replicate]
    split
    · rw [List.getD_eq_getElem?_getD, List.getElem?_replicate]
      split <;> rfl
    · cases ix[j - nt]? with
      | none => rfl
      | some i => simp only; unfold bfl; cases fl O i <;> rfl
  refine ⟨r.a, aH.refl _, ?_, fun j d e => ?_, fun i j _ h1 _ _ _ => absurd (h1.symm.trans (fN i)) Bool.noConfusion⟩
  · unfold gb
    rw [List.length_append, List.length_append, List.length_replicate, List.length_map, List.length_map, ho]
  · unfold gv gb at e
    rw [m6, List.length_replicate] at e
    split at e
    · rw [List.getD_eq_getElem?_getD, List.getElem?_replicate] at e
      split at e <;> cases e
    · rename_i hj
      cases q : ix[j - nt]? with
      | none => rw [q] at e; cases e
      | some i =>
        rw [q] at e
        obtain ⟨v, e1, sl⟩ := r.slot i d e
        refine ⟨v, ?_, ?_⟩
        · unfold sv
          rw [m6, if_neg (by omega), ho, q]
          show (σ[i]?).join = some v
          rw [JN]; exact e1
        · have ef : fl (jG nt ix O) j = bfl (fl O i) := by
            unfold fl jG
            rw [m6, List.length_replicate, if_neg hj, q]
          rw [ef]
          cases hf : fl O i with
          | imm => rw [hf] at sl; exact sl
          | bor => rw [hf] at sl; exact Pk.mono (aH.refl _) r.b sl
          | own => rw [hf] at sl; exact Own.pk sl
          | fix p0 => rw [hf] at sl; exact Own.pk sl.2
          | exc C => rw [hf] at sl; exact sl
          | nst b => exact fun z => nomatch z
end
theorem mZ.imp {X : Cx} {ifs : List Expr} {t t' : TT} (h : mZ X ifs t) (i : ∀ σ H Q, t' σ H Q → t σ H Q) : mZ X ifs t' := fun pins s σ H Q I q => h pins s σ H Q I (i σ H Q q)
theorem rR.imp {X : Cx} {ifs : List Expr} {t t' : TT} (h : mZ X ifs t) (i : ∀ σ H Q, t' σ H Q → t σ H Q) : rR X ifs t' := ⟨mZ.imp h i⟩
theorem cR {X : Cx} {O : List Fl} : rR X [] (tT X.K O (eC (.bool true))) := rR.imp Jo fun σ H Q hq__ => by
  obtain ⟨A, B, Γ, b, r, em, k⟩ := hq__
  cases em; exact k A H (aQ.refl r.a)
theorem yW {X : Cx} {O : List Fl} {c : Expr} {m : ME} (h : QT X c (tT X.K O m)) : rR X [c] (tT X.K O m) := ⟨GR h.h⟩
section
variable {K : PySem.W.Frag} {O Ob : List Fl} {tn : List Str} {ix : List Nat} {it : MI} {g : MG} {mc me : ME}
theorem ym (hOb : Ob = jG tn.length ix O) {nt : Nat} (hnt : nt = tn.length) {O1 : List Fl} {is : List Nat} (his : ∀ j ∈ is, j < tn.length) {σ : L2.St} {H : Hp} {Q : VK} (h : tF K O (cu it g mc me nt ix) σ H Q) : wM tn ix (tIc K O it) (tG K Ob O1 is g) (tT K O1 mc) (tE K O1 me) σ H Q := by
  subst hOb hnt
  obtain ⟨A, B, Γ, d, r, em, k⟩ := h
  obtain ⟨xs, e1, em⟩ := Res.aF em
  obtain ⟨hz, em⟩ := bL em
  obtain ⟨ds, e2, em⟩ := Res.aF em
  cases em
  refine ⟨A, B, Γ, xs, r, e1, fun J A1 H1 g1 hj D hD => ?_⟩
  have r1 := r.grow g1
  have hAD : A1 D = none := g1.ah.free hD
  refine ⟨fun i n σb acc H2 => n = xs.length - i ∧ i ≤ xs.length ∧ acc.length ≤ i ∧ (∃ os : List (Option V), os.length = tn.length ∧ σb = os ++ ix.map fun i => (σ[i]?).join) ∧ ∃ A2, aH A1 A2 ∧ New A1 A2 H1 ∧ aH A2 H2 ∧ aH H1 H2 ∧ A2 D = none ∧ H2 D = some (.lst acc) ∧
    ∃ ds1 ds2, ds = ds1 ++ ds2 ∧ aB K A2 ds1 acc ∧ lN g mc me (gb tn.length ix Γ) (xs.drop i) = .ok ds2, ⟨xs.length, rfl, Nat.zero_le _, Nat.zero_le _, ⟨_, List.length_replicate, rfl⟩, A1, aH.refl _, fun _ h _ => h, g1.ah.trans (aH.new hD _), aH.new hD _, hAD, bz, [], ds, rfl, aB.nil.mpr rfl, e2⟩, ?_⟩
  rintro i n σb acc H2 ⟨rfl, hi, hacc, ⟨os, ho, rfl⟩, A2, sa, nw, s2, sh, a2, hD2, ds1, ds2, rfl, rp, e3⟩
  refine ⟨hD2, ?_⟩
  by_cases hlt : i < xs.length
  · refine .inr ⟨hj.go i H2 (sa.trans s2) sh hlt, by omega, fun x H3 y => ?_⟩
    obtain ⟨A3, dx, ed, g3, p3⟩ := hj.yld i A2 H2 x H3 sa s2 sh hlt y
    have hd : xs.drop i = dx :: xs.drop (i + 1) := by
      rw [List.drop_eq_getElem_cons hlt]
      rw [List.getElem?_eq_getElem hlt] at ed
      cases ed
      rfl
    rw [hd] at e3
    obtain ⟨Γ1, e4, e3⟩ := Res.aF e3
    obtain ⟨t, e5, e3⟩ := Res.aF e3
    have rb : aZ K A3 H3 H3 (jG tn.length ix O) (os ++ ix.map fun i => (σ[i]?).join) (gb tn.length ix Γ) := by
      have rr : aZ K A3 B H3 O σ Γ := by
        refine ⟨g3.ah, r1.b.trans (sh.trans g3.hh), r1.len, fun j => ?_, r1.sep⟩
        intro d' e'
        obtain ⟨v', e'', q⟩ := r1.slot j d' e'
        refine ⟨v', e'', ?_⟩
        cases hf : fl O j with
        | imm => rw [hf] at q; exact Rp.mono (sa.trans g3.aa) d' q
        | bor => rw [hf] at q; exact Pk.mono (sa.trans g3.aa) (aH.refl _) q
        | own =>
          rw [hf] at q
          obtain ⟨p', o', rfl, u1, u2, u3, u4⟩ := q
          have n1 : A2 p' = none := nw p' u2 (by rw [u1]; simp)
          exact ⟨p', o', rfl, g3.hh _ _ (sh _ _ u1), g3.nw p' n1 (by rw [sh _ _ u1]; simp), u3, u4.mono (sa.trans g3.aa)⟩
        | fix p0 =>
          rw [hf] at q
          obtain ⟨q0, p', o', rfl, u1, u2, u3, u4⟩ := q
          have n1 : A2 p' = none := nw p' u2 (by rw [u1]; simp)
          exact ⟨q0, p', o', rfl, g3.hh _ _ (sh _ _ u1), g3.nw p' n1 (by rw [sh _ _ u1]; simp), u3, u4.mono (sa.trans g3.aa)⟩
        | exc C =>
          rw [hf] at q
          obtain ⟨p', ob, w1, w2, w3⟩ := q
          exact ⟨p', ob, w1, (sa.trans g3.aa) _ _ w2, w3⟩
        | nst b =>
          rw [hf] at q
          intro z
          obtain ⟨p', xs, kvs, w1, w2, w3, w4, w5, w6⟩ := q z
          have n1 : A2 p' = none := nw p' w4 (by rw [w3]; simp)
          exact ⟨p', xs, kvs, w1, w2, g3.hh _ _ (sh _ _ w3), g3.nw p' n1 (by rw [sh _ _ w3]; simp), w5, w6.mono (sa.trans g3.aa)⟩
      exact rr.block ho ix
    refine ⟨A3, H3, _, dx, Γ1, rb, p3, e4, fun σ4 r4 y4 => ?_⟩
    have hos : ∃ os' : List (Option V), os'.length = tn.length ∧ σ4 = os' ++ ix.map fun i => (σ[i]?).join := by
      have hl4 : σ4.length = tn.length + ix.length := by rw [y4.1, List.length_append, List.length_map, ho]
      refine ⟨σ4.take tn.length, by rw [List.length_take]; omega, List.ext_getElem? fun j => ?_⟩
      rcases Nat.lt_or_ge j tn.length with hj | hj
      · rw [List.getElem?_append_left (by rw [List.length_take]; omega), List.getElem?_take_of_lt hj]
      · rw [y4.2 j (fun z => absurd (his j z) (by omega)), List.getElem?_append_right (by omega), List.getElem?_append_right (by rw [List.length_take]; omega), List.length_take, ho]
        congr 1
        omega
    cases t with
    | bool bb =>
      refine ⟨A3, H3, Γ1, bb, r4, e5, fun A4 H4 g4 => ?_⟩
      have nw4 : New A1 A4 H1 := nw.trans ((g3.trans g4).nw.mono sh)
      have hD4 : H4 D = some (.lst acc) := g4.hh _ _ (g3.hh _ _ hD2)
      have a4 : A4 D = none := (g3.trans g4).nw D a2 (by rw [hD2]; simp)
      cases bb with
      | false =>
        refine u0 ⟨xs.length - (i + 1), by omega, rfl, hlt, by omega, hos, A4, sa.trans (g3.trans g4).aa, nw4, g4.ah, sh.trans (g3.trans g4).hh, a4, hD4, ds1, ds2, rfl, aB.mono (g3.trans g4).aa _ rp, e3⟩
      | true =>
        obtain ⟨dv, e6, e3⟩ := Res.aF e3
        obtain ⟨ds3, e7, e3⟩ := Res.aF e3
        cases e3
        refine vd ⟨A4, H3, Γ1, dv, r4.grow g4, e6, fun v A5 H5 g5 p5 => ?_⟩
        have gg := (g3.trans g4).trans g5
        have hD5 : H5 D = some (.lst acc) := g5.hh _ _ hD4
        have a5 : A5 D = none := gg.nw D a2 (by rw [hD2]; simp)
        refine ⟨hD5, xs.length - (i + 1), by omega, rfl, hlt, by rw [List.length_append, List.length_singleton]; omega, hos, A5, sa.trans gg.aa, nw.trans (gg.nw.mono sh), fun b u q => ?_, ?_, a5, bz, ds1 ++ [dv], ds3, by rw [List.append_assoc]; rfl, (aB.mono gg.aa _ rp).append (aB.one p5), e7⟩
        · have hb : b ≠ D := fun z => by rw [z, a5] at q; cases q
          rw [bw hb]; exact g5.ah b u q
        · exact (sh.trans gg.hh).up hD
    | _ => cases e3
  · have e : i = xs.length := by omega
    subst e
    rw [List.drop_length] at e3
    cases e3
    rw [List.append_nil] at k
    refine .inl ⟨hj.stop H2 (sa.trans s2) sh, k _ A2 H2 ⟨g1.aa.trans sa, g1.hh.trans sh, s2, fun p n1 n2 => nw p (g1.nw p n1 n2) (aH.ne g1.hh n2)⟩ ⟨D, _, rfl, g1.hh.free hD, hD2, a2, .inl ⟨ds1, acc, rfl, rfl, rp⟩⟩⟩
end
end L3
namespace L3
open PySem PySem.Spec PyProof.Rows L2
section
variable {X : Cx} {O Ob O1 : List Fl} {scope : Scope} {tn : List Str} {ix is : List Nat} {it : MI} {g : MG} {mc me : ME} {elt tg iter : Expr} {ifs : List Expr} {pos : Pos} {nt : Nat}
theorem dj (tn : List Str) (ix : List Nat) (S : fZ X scope ix = true) (hc : X.calm = true) (hOb : Ob = jG tn.length ix O) (hnt : nt = tn.length) (his : ∀ j ∈ is, j < tn.length) (hi : QI X tg iter (tIc X.K O it))
    (hg : ∀ cl C s₂ H₂ fp, QG (X.comp scope tn ix cl C s₂ H₂ fp) tg (tG X.K Ob O1 is g)) (ht : ∀ cl C s₂ H₂ fp, rR (X.comp scope tn ix cl C s₂ H₂ fp) ifs (tT X.K O1 mc)) (he : ∀ cl C s₂ H₂ fp, QE (X.comp scope tn ix cl C s₂ H₂ fp) elt (tE X.K O1 me))
    (hs : ∀ x, foldedSetIterable iter X.env x = pure x := by intro _; rfl) : QE X (.ListComp elt [⟨tg, iter, ifs, 0⟩] scope pos) (tF X.K O (cu it g mc me nt ix)) :=
  QE.imp (J7 S hc hi.h (fun cl C s₂ H₂ fp => (hg cl C s₂ H₂ fp).h) (fun cl C s₂ H₂ fp => (ht cl C s₂ H₂ fp).h) (fun cl C s₂ H₂ fp => (he cl C s₂ H₂ fp).h) hs) fun σ H Q h => ym hOb hnt his h
theorem J4 (i : Nat) {O2 : List Fl} (tn : List Str) (ix : List Nat) {rm : Rm} {Ol : List Fl} {y : Str} {py spos : Pos} (hN : X.N.Nodup) (hiN : X.N[i]? = some y) (hy : Loc X.env.scope y) (S : fZ X scope ix = true) (hc : X.calm = true) (hOb : Ob = jG tn.length ix O) (hnt : nt = tn.length) (his : ∀ j ∈ is, j < tn.length) (hi : QI X tg iter (tIc X.K O it))
    (hg : ∀ cl C s₂ H₂ fp, QG (X.comp scope tn ix cl C s₂ H₂ fp) tg (tG X.K Ob O1 is g)) (ht : ∀ cl C s₂ H₂ fp, rR (X.comp scope tn ix cl C s₂ H₂ fp) ifs (tT X.K O1 mc)) (he : ∀ cl C s₂ H₂ fp, QE (X.comp scope tn ix cl C s₂ H₂ fp) elt (tE X.K O1 me))
    (hl : i < O.length := by exact of_decide_eq_true rfl) (hsw : swapsWith (.ListComp elt [⟨tg, iter, ifs, 0⟩] scope pos) (some (.Name y py)) spos.line X.env = pure true := by rfl)
    (hf : X.fn y = true ∨ X.env.scope.names.lookup y = some .local := by first | exact .inl rfl | exact .inr rfl | assumption)
    (hs : ∀ x, foldedSetIterable iter X.env x = pure x := by intro _; rfl) (hO : O.set i .own = O2 := by rfl) : QS X (.Assign [.Name y py] (.ListComp elt [⟨tg, iter, ifs, 0⟩] scope pos) spos) (tS X.K rm Ol O O2 (bj i (cu it g mc me nt ix))) :=
  hO ▸ QS.imp (LR hN hiN hy S hc hi.h (fun cl C s₂ H₂ fp => (hg cl C s₂ H₂ fp).h) (fun cl C s₂ H₂ fp => (ht cl C s₂ H₂ fp).h) (fun cl C s₂ H₂ fp => (he cl C s₂ H₂ fp).h) hsw hf hs) fun D σ H => wu (fun σ H Q h => ym hOb hnt his h) hl
end
noncomputable def pG (i : Nat) (m : ME) : MS := fun Γ => (m Γ).bind fun d => match gv Γ i with
  | some (.list ds) => gd (ds.length < sizeLine ∧ i < Γ.length) (.ok (.nx (Γ.set i (some (.list (ds ++ [d]))))))
  | _ => .bad
section
variable {X : Cx} {rm : Rm} {Ol O : List Fl} {m m' : ME} {e a b : Expr} {pos p apos cpos : Pos}
theorem HX {K : PySem.W.Frag} {A B H : Hp} {σ : L2.St} {Γ : Ev} {i : Nat} {ds : List PyData} (r : aZ K A B H O σ Γ) (hi : isO (fl O i) = true) (he : gv Γ i = some (.list ds)) : ∃ q vs, sv σ i = some (.ref q) ∧ H q = some (.lst vs) ∧ aB K A ds vs := by
  obtain ⟨d, q, o, e1, e2, h1, h2, h3, ⟨ds', vs, rfl, rfl, h4⟩ | ⟨kvs, u, rfl, rfl, h4⟩⟩ := r.pX hi (by rw [he]; simp)
  rotate_right
  · rw [he] at e1; cases e1
  rw [he] at e1
  cases e1
  exact ⟨q, vs, e2, h1, h4⟩
theorem nZ (i : Nat) {x : Str} (he : QE X e (tE X.K O m)) (hi : isO (fl O i) = true := by rfl) (hN : X.N[i]? = some x := by rfl) (hv : Vis X.env.scope x := by first | exact Or.inl rfl | exact Or.inr (Or.inl rfl) | exact Or.inr (Or.inr rfl)) (hd : (x == ("__debug__" : Str)) = false := by decide)
    (hcd : (x == ("__classdict__" : Str)) = false := by decide) (hbase : attributeBase (.Name x p) "append" X.env (eval (.Name x p) X.env) = eval (.Name x p) X.env := by rfl)
    (hfew : ((backTo cpos (starEach (e :: []) X.env)).all (fun x => !x.1) && (backToKw cpos (keywordEach [] X.env)).all (fun x => x.1.isSome)
      && decide ((e :: []).length + ([] : List Keyword).length + (if ([] : List Keyword).isEmpty then 0 else 1) < 30)) = true := by rfl)
    (hline : (apos.endLine == cpos.line) = true := by rfl) (hs : starEach (e :: []) X.env = (false, eval e X.env) :: starEach [] X.env := by rfl) (hplain : (backTo cpos (starEach [] X.env)).any (·.1) = false := by rfl)
    (hsw : swapsWith (.Call (.Attribute (.Name x p) "append" apos) [e] [] cpos) none pos.line X.env = pure false := by rfl) :
    QS X (.Expr (.Call (.Attribute (.Name x p) "append" apos) [e] [] cpos) pos) (tS X.K rm Ol O O (pG i m)) := by
  refine QS.imp (Ad (Q6 PySem.F.plainAttrs_list PySem.F.slot_list_append PySem.F.type_list_append vp (n8 hN hv hd hcd) (cL he.h gf hs) hbase hfew hline hs hplain) hsw) fun D σ H hq__ => ?_
  obtain ⟨A, B, Γ, o, r, em, k⟩ := hq__
  obtain ⟨d, e1, em⟩ := Res.aF em
  cases hg : gv Γ i with
  | none => rw [hg] at em; cases em
  | some dl =>
    rw [hg] at em
    cases dl with
    | list ds =>
      obtain ⟨⟨hc, hlt⟩, em⟩ := bL em
      cases em
      obtain ⟨q, vs, e2, h1, h4⟩ := HX r hi hg
      refine ⟨.ref q, oh e2, .inl ⟨rfl, vs, SqL.of h1⟩, A, B, Γ, d, r, e1, fun v A1 H1 g1 p1 => ⟨q, vs, v, rfl, rfl, g1.hh _ _ h1, by rw [← h4.length]; exact hc, ?_⟩⟩
      exact k σ A1 _ ((r.grow g1).change hi hlt (by rw [hg]; simp) e2 (g1.hh _ _ h1) (.inl ⟨_, _, rfl, rfl, (aB.mono g1.aa _ h4).append (aB.one p1)⟩)) g1.aa (g1.nB r.b)
    | _ => cases em
end
noncomputable def intsOf : List PyData → Option (List Int)
  | [] => some []
  | .int i :: ds => (intsOf ds).map (i :: ·)
  | _ :: _ => none
theorem nj : ∀ {ds : List PyData} {ns : List Int}, intsOf ds = some ns → ds = ns.map PyData.int
  | [], ns, h => by cases h; rfl
  | .int i :: ds, ns, h => by
    unfold intsOf at h
    cases e : intsOf ds with
    | none => rw [e] at h; cases h
    | some ms => rw [e] at h; cases h; rw [nj e]; rfl
@[simp] theorem ug (ns : List Int) : intsOf (ns.map PyData.int) = some ns := by
  induction ns with
  | nil => rfl
  | cons n ns ih => rw [List.map_cons, intsOf, ih]; rfl
noncomputable def boolsOf : List PyData → Option (List Bool)
  | [] => some []
  | .bool i :: ds => (boolsOf ds).map (i :: ·)
  | _ :: _ => none
@[simp] theorem Qk (ns : List Bool) : boolsOf (ns.map PyData.bool) = some ns := by
  induction ns with
  | nil => rfl
  | cons n ns ih => rw [List.map_cons, boolsOf, ih]; rfl
noncomputable def sE : List PyData → Res PyData
  | [.list ds] => match intsOf ds with
    | some ns => .ok (.int ns.sum)
    | none => .bad
  | _ => .bad
theorem aB.Mw {K : PySem.W.Frag} {A : Hp} : ∀ {ns : List Int} {vs : List V}, aB K A (ns.map PyData.int) vs → vs = ns.map V.int
  | [], vs, h => by rw [List.map_nil, aB.nil] at h; exact h
  | n :: ns, vs, h => by
    rw [List.map_cons, aB.cons] at h
    obtain ⟨v, r, rfl, h1, h2⟩ := h
    rw [Rp.int.mp h1, h2.Mw]; rfl
theorem vq : ∀ {ns : List Int} {us : List Value}, Vals (ns.map V.int) us → IntsAre us ns
  | [], _, .nil => .nil
  | n :: ns, _, .cons r t => by
    obtain ⟨tk, rfl⟩ := r
    exact .cons n tk (vq t)
section
variable {X : Cx}
theorem yc (hc : X.calm = true) : dh X (.builtin "sum") (rC X.K sE) := by
  intro pins s σ H xs us Q I r h
  obtain ⟨A, ds, d, e, ha, p, k⟩ := h
  match ds, e with
  | [.list es], e =>
    have e' : (match intsOf es with | some ns => Res.ok (PyData.int ns.sum) | none => .bad) = .ok d := e
    cases hn : intsOf es with
    | none => rw [hn] at e'; cases e'
    | some ns =>
      rw [hn] at e'
      cases e'
      obtain rfl := nj hn
      obtain ⟨v, r', rfl, p1, p2⟩ := p.cons
      obtain rfl := p2.nil
      obtain ⟨l, vs, rfl, h1, q1⟩ := p1.list ha
      obtain rfl := q1.Mw
      obtain ⟨u, rfl, rx⟩ := Vals.one r
      cases rx
      obtain ⟨its, rv, pl, hz⟩ := I.list h1
      have hi := vq rv
      have hall : AllInts its.toArray := hi.allInts
      obtain ⟨ys, ey⟩ := hall.items
      have e2 := nums_intItems ys
      refine sum_intListG (xs := ys) (I.ok.hd hc) (by rw [← ey]; exact pl.isList) fun h' tk t' hk => ?_
      have e3 : numsOf (intItems ys).toList = ns := by
        rw [← ey]
        exact hi.numsOf
      rw [e2] at e3
      rw [preSum_eq, List.take_of_length_le (by simp), e3]
      exact ⟨.int ns.sum, H, I.kept (t' := tk) hk, ⟨t', rfl⟩, k _ A H (aQ.refl ha) (Rp.int.mpr rfl)⟩
end
end L3
namespace L3
open PySem PySem.Spec PyProof.Rows L2
theorem BP {K : PySem.W.Frag} {H : Hp} {a : Addr} {ns : List Int} {f : List PyData → Res PyData} {fg : Fl} {E : XK} (hm : f [.list (ns.map PyData.int)] = .ok (.bool true)) (hS : SqL K H a (ns.map V.int)) : spF K [fg] .f f [.ref a] H (fun v _ => v = .bl true) E := by
  refine ⟨H, [.list (ns.map PyData.int)], .bool true, aH.refl _, ⟨_, _, _, _, rfl, rfl, ?_, rfl, rfl⟩, hm, fun v A' H' g p => (Rp.bool (K := K) (A := A')).mp p⟩
  have q : Rp K H (.list (ns.map PyData.int)) (.ref a) := Rp.list.mpr ⟨a, _, rfl, hS, aB.ints⟩
  cases fg with
  | imm => exact q
  | bor => exact .inl q
  | own => exact .inl q
  | fix p0 => exact .inl q
  | exc C => exact .inl q
  | nst b => exact .inl q
end L3
namespace L2
open PySem PyProof.Rows
structure Mv (lo hi : Nat) (st st' : SortSt) : Prop where
  kind : kindOf st' = kindOf st
  failed : failedOf st' = failedOf st
  pend : pendingOf st' = pendingOf st
  perm : (arrOf st').Perm (arrOf st)
  out : ∀ i, i < lo ∨ hi ≤ i → K (arrOf st') i = K (arrOf st) i
structure Sk (st : SortSt) : Prop where
  kind : kindOf st = oneType'
  failed : failedOf st = none
  keys : IntKeys (arrOf st)
noncomputable def Seg (a : Array Keyed) (lo hi : Nat) : Prop := ∀ i j, lo ≤ i → i ≤ j → j < hi → K a i ≤ K a j
noncomputable def Dsc (a : Array Keyed) (lo hi : Nat) : Prop := ∀ i j, lo ≤ i → i ≤ j → j < hi → K a j ≤ K a i
theorem Mv.refl (lo hi : Nat) (st : SortSt) : Mv lo hi st st := ⟨rfl, rfl, rfl, .refl _, fun _ _ => rfl⟩
theorem Mv.trans {lo hi : Nat} {a b c : SortSt} (x : Mv lo hi a b) (y : Mv lo hi b c) : Mv lo hi a c :=
  ⟨y.kind.trans x.kind, y.failed.trans x.failed, y.pend.trans x.pend, y.perm.trans x.perm, fun i h => (y.out i h).trans (x.out i h)⟩
theorem Mv.wide {lo hi lo' hi' : Nat} {a b : SortSt} (x : Mv lo hi a b) (h1 : lo' ≤ lo) (h2 : hi ≤ hi') : Mv lo' hi' a b :=
  ⟨x.kind, x.failed, x.pend, x.perm, fun i h => x.out i (by omega)⟩
theorem Mv.size {lo hi : Nat} {a b : SortSt} (x : Mv lo hi a b) : (arrOf b).size = (arrOf a).size := x.perm.size_eq
theorem keys_perm {a b : Array Keyed} (h : a.Perm b) (k : IntKeys b) : IntKeys a := fun p hp => k p ((Array.perm_iff_toList_perm.mp h).mem_iff.mp hp)
theorem Mv.sk {lo hi : Nat} {a b : SortSt} (x : Mv lo hi a b) (k : Sk a) : Sk b := ⟨x.kind.trans k.kind, x.failed.trans k.failed, keys_perm x.perm k.keys⟩
theorem Mv.arr {lo hi : Nat} {st : SortSt} {xs : Array Keyed} (hp : xs.Perm (arrOf st)) (ho : ∀ i, i < lo ∨ hi ≤ i → K xs i = K (arrOf st) i) : Mv lo hi st (setArr st xs) := ⟨rfl, rfl, rfl, hp, ho⟩
theorem M9 {a : Array Keyed} (h : IntKeys a) {i : Nat} (hi : i < a.size) : ∃ t q, a[i]? = some (.int (K a i) t, q) := by
  obtain ⟨n, t, hn⟩ := h a[i] (by simp)
  refine ⟨t, a[i].2, ?_⟩
  rw [getElem?_pos a i hi]
  have e : K a i = n := by unfold K; rw [getElem?_pos a i hi]; simp only [hn]; rfl
  rw [e]
  exact congrArg some (Prod.ext hn rfl)
section
variable {prog : Program} {w : World} {A : Around} {E : Value → Shared → Prop} {s : Shared}
theorem pR {st : SortSt} {i j : Nat} {Q : Option Bool → SortSt → Prop} (k : Sk st) (hi : i < (arrOf st).size) (hj : j < (arrOf st).size)
    (h : Q (some (decide (K (arrOf st) i < K (arrOf st) j))) st) : wpS (model prog w) A E s (ltAt' i j) Q st := by
  obtain ⟨t, p, e1⟩ := M9 k.keys hi
  obtain ⟨u, q, e2⟩ := M9 k.keys hj
  exact wpS_ltAt k.kind e1 e2 h
theorem qO {st : SortSt} {x y : Keyed} {Q : Option Bool → SortSt → Prop} (k : kindOf st = oneType') (hx : ∃ n t, x.1 = .int n t) (hy : ∃ n t, y.1 = .int n t)
    (h : Q (some (decide (numOf x.1 < numOf y.1))) st) : wpS (model prog w) A E s (lt' x y) Q st := by
  obtain ⟨a, t, e1⟩ := hx
  obtain ⟨b, u, e2⟩ := hy
  rw [lt'_eq]
  refine wpS_bind (wpS_get ?_)
  rw [k, keyLt'_oneType, e1, e2]
  rw [e1, e2] at h
  exact wpS_bind (wpS_lift (wpAny_attempt (oneLt_int ⟨rfl, wpS_pure h⟩)))
theorem cD {st : SortSt} {a : Array Keyed} {i : Nat} {Q : Keyed → SortSt → Prop} (hi : i < a.size) (h : Q a[i] st) : wpS (model prog w) A E s (elem' a i) Q st := by
  rw [elem'_eq, getElem?_pos a i hi]
  exact wpS_pure h
theorem Mg {st : SortSt} {lo n ok : Nat} {Q : Bool → SortSt → Prop} (k : Sk st) (hn : lo + n ≤ (arrOf st).size) (hok : ok ≤ n) (hs : Seg (arrOf st) lo (lo + ok))
    (h : ∀ st', Mv lo (lo + n) st st' → Seg (arrOf st') lo (lo + n) → Q true st') : wpS (model prog w) A E s (binarySort' lo n ok) Q st := by
  rw [binarySort'_eq]
  refine wpS_bind (wpS_mono (wpS_forRange (I := fun k c b => c = (none, ()) ∧ Mv lo (lo + n) st b ∧ Seg (arrOf b) lo (lo + min k n))
    (Q := fun c b => c = (none, ()) ∧ Mv lo (lo + n) st b ∧ Seg (arrOf b) lo (lo + n)) ?step ?fin ?init) ?post)
  case post =>
    rintro c b ⟨rfl, m, g⟩
    exact wpS_pure (h b m g)
  case init =>
    refine ⟨rfl, .refl _ _ _, fun i j hi hij hj => ?_⟩
    by_cases h1 : ok = 0
    · have : i = j := by omega
      subst this; exact Int.le_refl _
    · exact hs i j hi hij (by omega)
  case fin =>
    rintro c b ⟨hc, m, g⟩
    rw [show min (max (max ok 1) n) n = n by omega] at g
    exact ⟨hc, m, g⟩
  case step =>
    rintro x c b hax hxn ⟨rfl, m, g⟩
    rw [show min x n = x by omega] at g
    have kb := m.sk k
    have sz := m.size
    refine wpS_bind (wpS_mono (wpS_forRange (I := fun y c b' => b' = b ∧ ∃ l r, c = (none, l, r) ∧ l ≤ r ∧ r ≤ x ∧ r - l ≤ x - y ∧
        (∀ i, i < l → K (arrOf b) (lo + i) ≤ K (arrOf b) (lo + x)) ∧ (∀ i, r ≤ i → i < x → K (arrOf b) (lo + x) < K (arrOf b) (lo + i)))
      (Q := fun c b' => b' = b ∧ ∃ l r, c = (none, l, r) ∧ l ≤ x ∧
        (∀ i, i < l → K (arrOf b) (lo + i) ≤ K (arrOf b) (lo + x)) ∧ (∀ i, l ≤ i → i < x → K (arrOf b) (lo + x) < K (arrOf b) (lo + i))) ?istep ?ifin ?iinit) ?ipost)
    case iinit => exact ⟨rfl, 0, x, rfl, by omega, by omega, by omega, fun i hi => by omega, fun i h1 h2 => by omega⟩
    case ifin =>
      rintro c b' ⟨rfl, l, r, rfl, q1, q2, q3, q4, q5⟩
      have : l = r := by omega
      subst this
      exact ⟨rfl, l, l, rfl, q2, q4, q5⟩
    case istep =>
      rintro y c b' _ hyx ⟨rfl, l, r, rfl, q1, q2, q3, q4, q5⟩
      dsimp only
      by_cases hge : l ≥ r
      · rw [if_pos hge]
        have : l = r := by omega
        subst this
        exact wpS_pure ⟨rfl, l, l, rfl, q2, q4, q5⟩
      · rw [if_neg hge]
        refine wpS_bind (pR kb (by omega) (by omega) ?_)
        by_cases hl : K (arrOf b') (lo + x) < K (arrOf b') (lo + (l + r) / 2)
        · simp only [hl, decide_true, if_true]
          refine wpS_pure ⟨rfl, l, (l + r) / 2, rfl, by omega, by omega, by omega, q4, fun i h1 h2 => ?_⟩
          exact Int.lt_of_lt_of_le hl (g _ _ (by omega) (by omega) (by omega))
        · simp only [hl, decide_false, Bool.false_eq_true, if_false]
          refine wpS_pure ⟨rfl, (l + r) / 2 + 1, r, rfl, by omega, by omega, by omega, fun i h1 => ?_, q5⟩
          exact Int.le_trans (g (lo + i) (lo + (l + r) / 2) (by omega) (by omega) (by omega)) (Int.not_lt.mp hl)
    case ipost =>
      rintro c b' ⟨rfl, l, r, rfl, q1, q4, q5⟩
      show wpS _ _ _ _ (do moveDown' (lo + x) (lo + l); pure (ForInStep.yield (none, ()))) _ _
      rw [moveDown'_eq]
      have hks : lo + x < (arrOf b').size := by omega
      have KB : ∀ i, K (bubble (arrOf b') (lo + x) (lo + x - (lo + l))) i = if i = lo + l then K (arrOf b') (lo + x) else if lo + l < i ∧ i ≤ lo + x then K (arrOf b') (i - 1) else K (arrOf b') i := by
        intro i
        rw [K_bubble hks (by omega), show lo + x - (lo + x - (lo + l)) = lo + l by omega]
      refine wpS_bind (wpS_modify (wpS_pure ⟨rfl, m.trans (.arr (bubble_perm _ _ _) fun i hi => ?_), ?_⟩))
      · rw [KB, if_neg (by omega), if_neg (by omega)]
      rw [show min (x + 1) n = x + 1 by omega]
      intro i j hi hij hj
      show K (bubble (arrOf b') (lo + x) (lo + x - (lo + l))) i ≤ K (bubble (arrOf b') (lo + x) (lo + x - (lo + l))) j
      rw [KB, KB]
      have q4' : ∀ i, lo ≤ i → i < lo + l → K (arrOf b') i ≤ K (arrOf b') (lo + x) := fun i h1 h2 => by have := q4 (i - lo) (by omega); rwa [show lo + (i - lo) = i by omega] at this
      have q5' : ∀ i, lo + l ≤ i → i < lo + x → K (arrOf b') (lo + x) < K (arrOf b') i := fun i h1 h2 => by have := q5 (i - lo) (by omega) (by omega); rwa [show lo + (i - lo) = i by omega] at this
      repeat' split
      all_goals first
        | (exfalso; omega)
        | exact Int.le_refl _
        | exact q4' _ (by omega) (by omega)
        | exact Int.le_of_lt (q5' _ (by omega) (by omega))
        | exact g _ _ (by omega) (by omega) (by omega)
theorem t6 {st : SortSt} {i j : Nat} {Q : Unit → SortSt → Prop} (h : Q () (setArr st (mirror (arrOf st) i j ((j - i) / 2)))) :
    wpS (model prog w) A E s (reverseSlice' i j) Q st := by
  rw [reverseSlice'_eq]; exact wpS_modify h
theorem Mv.rev {lo hi i j : Nat} {st : SortSt} (h1 : lo ≤ i) (h2 : j ≤ hi) (h3 : j ≤ (arrOf st).size) : Mv lo hi st (setArr st (mirror (arrOf st) i j ((j - i) / 2))) :=
  .arr (mirror_perm _ _ _ _) fun k hk => by rw [K_mirror h3, if_neg (by omega)]
noncomputable def upL (lo a n : Nat) : StateT SortSt Sem (Option (Option Nat) × Nat) :=
  forIn [a:n] (none, a) fun _ c => do
    match ← ltAt' (lo + c.snd) (lo + c.snd - 1) with
    | some b => if b = true then pure (.done (none, c.snd)) else pure (.yield (none, c.snd + 1))
    | _ => pure (.done (some none, c.snd))
noncomputable def upE (lo a n : Nat) : StateT SortSt Sem (Option Nat) := do
  reverseSlice' lo (lo + a)
  let c ← upL lo a n
  match c.fst with
  | some r => pure r
  | none => pure (some c.snd)
noncomputable def dnL (lo a n : Nat) : StateT SortSt Sem (Option (Option Nat) × Nat × Nat) :=
  forIn [a:n] (none, a, 0) fun _ c => do
    match ← ltAt' (lo + c.snd.fst) (lo + c.snd.fst - 1) with
    | some b =>
      if b = true then
        if c.snd.snd > 0 then do
          reverseSlice' (lo + c.snd.fst - (c.snd.snd + 1)) (lo + c.snd.fst)
          pure (.yield (none, c.snd.fst + 1, 0))
        else pure (.yield (none, c.snd.fst + 1, 0))
      else do
        match ← ltAt' (lo + c.snd.fst - 1) (lo + c.snd.fst) with
        | some b' => if b' = true then pure (.done (none, c.snd.fst, c.snd.snd)) else pure (.yield (none, c.snd.fst + 1, c.snd.snd + 1))
        | _ => pure (.done (some none, c.snd.fst, c.snd.snd))
    | _ => pure (.done (some none, c.snd.fst, c.snd.snd))
noncomputable def dnE (lo a n : Nat) : StateT SortSt Sem (Option Nat) := do
  liftM (rule "list.sort.descending-run")
  let c ← dnL lo (a + 1) n
  match c.fst with
  | some r => pure r
  | none =>
    if c.snd.snd > 0 then do
      reverseSlice' (lo + c.snd.fst - (c.snd.snd + 1)) (lo + c.snd.fst)
      upE lo c.snd.fst n
    else upE lo c.snd.fst n
theorem An {st : SortSt} {lo a n : Nat} {Q : Option (Option Nat) × Nat → SortSt → Prop} (k : Sk st) (hn : lo + n ≤ (arrOf st).size) (ha : 1 ≤ a) (han : a ≤ n) (hs : Seg (arrOf st) lo (lo + a))
    (h : ∀ m, a ≤ m → m ≤ n → Seg (arrOf st) lo (lo + m) → (m = n ∨ K (arrOf st) (lo + m) < K (arrOf st) (lo + m - 1)) → Q (none, m) st) : wpS (model prog w) A E s (upL lo a n) Q st := by
  unfold upL
  refine wpS_forRange (I := fun x c b => b = st ∧ c = (none, x) ∧ Seg (arrOf st) lo (lo + x)) ?step ?fin ⟨rfl, rfl, hs⟩
  case fin =>
    rintro c b ⟨rfl, rfl, g⟩
    rw [show max a n = n by omega] at g ⊢
    exact h n han (Nat.le_refl _) g (.inl rfl)
  case step =>
    rintro x c b hax hxn ⟨rfl, rfl, g⟩
    dsimp only
    refine wpS_bind (pR k (by omega) (by omega) ?_)
    by_cases hl : K (arrOf b) (lo + x) < K (arrOf b) (lo + x - 1)
    · simp only [hl, decide_true, if_true]
      exact wpS_pure (h x hax (by omega) g (.inr hl))
    · simp only [hl, decide_false, Bool.false_eq_true, if_false]
      refine wpS_pure ⟨rfl, rfl, fun i j hi hij hj => ?_⟩
      by_cases hjx : j < lo + x
      · exact g i j hi hij hjx
      · have hj' : j = lo + x := by omega
        subst hj'
        by_cases hi' : i = lo + x
        · subst hi'; exact Int.le_refl _
        · exact Int.le_trans (g i (lo + x - 1) hi (by omega) (by omega)) (Int.not_lt.mp hl)
theorem Ax {st : SortSt} {lo a n : Nat} {Q : Option Nat → SortSt → Prop} (k : Sk st) (hn : lo + n ≤ (arrOf st).size) (ha : 1 ≤ a) (han : a ≤ n) (hs : Dsc (arrOf st) lo (lo + a))
    (h : ∀ m st', Mv lo (lo + n) st st' → 1 ≤ m → m ≤ n → Seg (arrOf st') lo (lo + m) → Q (some m) st') : wpS (model prog w) A E s (upE lo a n) Q st := by
  unfold upE
  refine wpS_bind (t6 ?_)
  have m1 : Mv lo (lo + n) st (setArr st (mirror (arrOf st) lo (lo + a) ((lo + a - lo) / 2))) := .rev (Nat.le_refl _) (by omega) (by omega)
  refine wpS_bind (An (m1.sk k) (by rw [m1.size]; exact hn) ha han ?_ fun m q1 q2 q3 _ => wpS_pure (h m _ m1 (by omega) q2 q3))
  intro i j hi hij hj
  show K (mirror (arrOf st) lo (lo + a) ((lo + a - lo) / 2)) i ≤ K (mirror (arrOf st) lo (lo + a) ((lo + a - lo) / 2)) j
  rw [K_mirror (by omega), K_mirror (by omega), if_pos (by omega), if_pos (by omega)]
  exact hs _ _ (by omega) (by omega) (by omega)
theorem Kv {st : SortSt} {lo a n : Nat} {Q : Option (Option Nat) × Nat × Nat → SortSt → Prop} (k : Sk st) (hn : lo + n ≤ (arrOf st).size) (ha : 1 ≤ a) (han : a ≤ n) (hs : Dsc (arrOf st) lo (lo + a))
    (h : ∀ m e st', Mv lo (lo + n) st st' → a ≤ m → m ≤ n → Dsc (arrOf st') lo (lo + m) → e + 1 ≤ m → (∀ i, lo + m - (e + 1) ≤ i → i < lo + m → K (arrOf st') i = K (arrOf st') (lo + m - 1)) → Q (none, m, e) st') :
    wpS (model prog w) A E s (dnL lo a n) Q st := by
  unfold dnL
  refine wpS_forRange (I := fun x c b => ∃ e, c = (none, x, e) ∧ Mv lo (lo + n) st b ∧ Dsc (arrOf b) lo (lo + x) ∧ e + 1 ≤ x ∧
      (∀ i, lo + x - (e + 1) ≤ i → i < lo + x → K (arrOf b) i = K (arrOf b) (lo + x - 1))) ?step ?fin ⟨0, rfl, .refl _ _ _, hs, by omega, fun i h1 h2 => by congr 1; omega⟩
  case fin =>
    rintro c b ⟨e, rfl, m, g, q1, q2⟩
    rw [show max a n = n by omega] at g q1 q2 ⊢
    exact h n e b m han (Nat.le_refl _) g q1 q2
  case step =>
    rintro x c b hax hxn ⟨e, rfl, m, g, q1, q2⟩
    dsimp only
    have sz := m.size
    refine wpS_bind (pR (m.sk k) (by omega) (by omega) ?_)
    by_cases hl : K (arrOf b) (lo + x) < K (arrOf b) (lo + x - 1)
    · simp only [hl, decide_true, if_true]
      have one : ∀ xs : Array Keyed, (∀ k, K xs k = K (arrOf b) k) → Dsc xs lo (lo + (x + 1)) := by
        intro xs hk i j hi hij hj
        rw [hk, hk]
        by_cases hjx : j < lo + x
        · exact g i j hi hij hjx
        · have hj' : j = lo + x := by omega
          subst hj'
          by_cases hi' : i = lo + x
          · subst hi'; exact Int.le_refl _
          · exact Int.le_trans (Int.le_of_lt hl) (g i (lo + x - 1) hi (by omega) (by omega))
      by_cases he : e > 0
      · rw [if_pos he]
        refine wpS_bind (t6 (wpS_pure ⟨0, rfl, m.trans (.rev (by omega) (by omega) (by omega)), one _ (K_mirror_equal (by omega) q2), by omega, fun i h1 h2 => by congr 1; omega⟩))
      · rw [if_neg he]
        exact wpS_pure ⟨0, rfl, m, one _ (fun _ => rfl), by omega, fun i h1 h2 => by congr 1; omega⟩
    · simp only [hl, decide_false, Bool.false_eq_true, if_false]
      refine wpS_bind (pR (m.sk k) (by omega) (by omega) ?_)
      by_cases hg : K (arrOf b) (lo + x - 1) < K (arrOf b) (lo + x)
      · simp only [hg, decide_true, if_true]
        exact wpS_pure (h x e b m hax (by omega) g q1 q2)
      · simp only [hg, decide_false, Bool.false_eq_true, if_false]
        have hx : K (arrOf b) (lo + x) = K (arrOf b) (lo + x - 1) := by omega
        refine wpS_pure ⟨e + 1, rfl, m, fun i j hi hij hj => ?_, by omega, fun i h1 h2 => ?_⟩
        · by_cases hjx : j < lo + x
          · exact g i j hi hij hjx
          · have hj' : j = lo + x := by omega
            subst hj'
            by_cases hi' : i = lo + x
            · subst hi'; exact Int.le_refl _
            · rw [hx]; exact g i (lo + x - 1) hi (by omega) (by omega)
        · rw [show lo + (x + 1) - 1 = lo + x by omega]
          by_cases hix : i = lo + x
          · subst hix; rfl
          · rw [hx]; exact q2 i (by omega) (by omega)
theorem Bf {st : SortSt} {lo a n : Nat} {Q : Option Nat → SortSt → Prop} (k : Sk st) (hn : lo + n ≤ (arrOf st).size) (han : a + 1 ≤ n) (hs : Dsc (arrOf st) lo (lo + (a + 1)))
    (h : ∀ m st', Mv lo (lo + n) st st' → 1 ≤ m → m ≤ n → Seg (arrOf st') lo (lo + m) → Q (some m) st') : wpS (model prog w) A E s (dnE lo a n) Q st := by
  unfold dnE
  refine wpS_bind (wpS_lift (wpAny_rule ⟨rfl, ?_⟩))
  refine wpS_bind (Kv k hn (by omega) han hs fun m e b mv q1 q2 g q3 q4 => ?_)
  dsimp only
  have sz := mv.size
  by_cases he : e > 0
  · rw [if_pos he]
    have m2 : Mv lo (lo + n) b (setArr b (mirror (arrOf b) (lo + m - (e + 1)) (lo + m) ((lo + m - (lo + m - (e + 1))) / 2))) := .rev (by omega) (by omega) (by omega)
    refine wpS_bind (t6 (Ax (m2.sk (mv.sk k)) (by rw [m2.size]; omega) (by omega) q2 ?_ fun m' b' m3 => h m' b' (mv.trans (m2.trans m3))))
    intro i j hi hij hj
    show K (mirror (arrOf b) _ _ _) j ≤ K (mirror (arrOf b) _ _ _) i
    rw [K_mirror_equal (by omega) q4, K_mirror_equal (by omega) q4]
    exact g i j hi hij hj
  · rw [if_neg he]
    exact Ax (mv.sk k) (by omega) (by omega) q2 g fun m' b' m3 => h m' b' (mv.trans m3)
local macro_rules | `(tactic| walk_at "up_eq") => `(tactic| (refine congrArg (_ >>= ·) (funext fun _ => ?_); refine congrArg (_ >>= ·) (funext fun c => ?_); obtain ⟨r, m⟩ := c; cases r <;> rfl))
local macro_rules | `(tactic| walk_at "dn_eq") => `(tactic| (refine congrArg (_ >>= ·) (funext fun c => ?_); obtain ⟨r, m, e⟩ := c; cases r with
  | some r => rfl
  | none => (dsimp only; split; (refine congrArg (_ >>= ·) (funext fun _ => ?_); walk_at "up_eq"); walk_at "up_eq")))
theorem run_eq (lo n : Nat) : countRun' lo n = (do
    let c ← upL lo 1 n
    match c.fst with
    | some r => pure r
    | none =>
      if (c.snd == n) = true then pure (some c.snd)
      else if c.snd > 1 then do
        match ← ltAt' lo (lo + c.snd - 1) with
        | some b => if b = true then pure (some c.snd) else do
            reverseSlice' lo (lo + c.snd)
            dnE lo c.snd n
        | _ => pure none
      else dnE lo c.snd n) := by
  rw [countRun'_eq]
  refine congrArg (_ >>= ·) (funext fun c => ?_)
  obtain ⟨r, m⟩ := c
  cases r with
  | some r => rfl
  | none =>
    dsimp only
    split
    · rfl
    · split
      · refine congrArg (_ >>= ·) (funext fun x => ?_)
        cases x with
        | none => rfl
        | some b =>
          dsimp only
          split
          · rfl
          · refine congrArg (_ >>= ·) (funext fun _ => ?_)
            refine congrArg (_ >>= ·) (funext fun _ => ?_)
            walk_at "dn_eq"
      · refine congrArg (_ >>= ·) (funext fun _ => ?_)
        walk_at "dn_eq"
theorem J1 {st : SortSt} {lo n : Nat} {Q : Option Nat → SortSt → Prop} (k : Sk st) (hn : lo + n ≤ (arrOf st).size) (h1 : 1 ≤ n)
    (h : ∀ m st', Mv lo (lo + n) st st' → 1 ≤ m → m ≤ n → Seg (arrOf st') lo (lo + m) → Q (some m) st') :
    wpS (model prog w) A E s (countRun' lo n) Q st := by
  rw [run_eq]
  refine wpS_bind (An k hn (Nat.le_refl 1) h1 (fun i j hi hij hj => by have : i = j := by omega
                                                                       subst this; exact Int.le_refl _) fun m q1 q2 g q3 => ?_)
  dsimp only
  by_cases hm : m = n
  · rw [if_pos (by simpa using hm)]
    exact wpS_pure (h m st (.refl _ _ _) q1 q2 g)
  · rw [if_neg (by simpa using hm)]
    have hl := q3.resolve_left hm
    by_cases hgt : m > 1
    · rw [if_pos hgt]
      refine wpS_bind (pR k (by omega) (by omega) ?_)
      by_cases hr : K (arrOf st) lo < K (arrOf st) (lo + m - 1)
      · simp only [hr, decide_true, if_true]
        exact wpS_pure (h m st (.refl _ _ _) q1 q2 g)
      · simp only [hr, decide_false, Bool.false_eq_true, if_false]
        have all : ∀ k, lo ≤ k → k < lo + m → K (arrOf st) k = K (arrOf st) (lo + m - 1) := by
          intro k u1 u2
          have a1 := g lo k (by omega) u1 u2
          have a2 := g k (lo + m - 1) u1 (by omega) (by omega)
          omega
        have m1 : Mv lo (lo + n) st (setArr st (mirror (arrOf st) lo (lo + m) ((lo + m - lo) / 2))) := .rev (Nat.le_refl _) (by omega) (by omega)
        refine wpS_bind (t6 (Bf (m1.sk k) (by rw [m1.size]; exact hn) (by omega) ?_ fun m' b' m3 => h m' b' (m1.trans m3)))
        intro i j hi hij hj
        show K (mirror (arrOf st) _ _ _) j ≤ K (mirror (arrOf st) _ _ _) i
        rw [K_mirror_equal (by omega) all, K_mirror_equal (by omega) all]
        by_cases hjn : j < lo + m
        · rw [all i (by omega) (by omega), all j (by omega) hjn]; exact Int.le_refl _
        · have hj' : j = lo + m := by omega
          subst hj'
          by_cases hi' : i = lo + m
          · subst hi'; exact Int.le_refl _
          · rw [all i (by omega) (by omega)]; exact Int.le_of_lt hl
    · rw [if_neg hgt]
      have hm1 : m = 1 := by omega
      subst hm1
      refine Bf k hn (by omega) ?_ h
      intro i j hi hij hj
      by_cases hi' : i = j
      · subst hi'; exact Int.le_refl _
      · have hi0 : i = lo := by omega
        have hj1 : j = lo + 1 := by omega
        subst hi0; subst hj1
        exact Int.le_of_lt hl
end
end L2
namespace L2
open PySem PyProof.Rows
noncomputable def gal : Bool → Keyed → Array Keyed → Nat → Nat → Nat → StateT SortSt Sem (Option Nat) := sortPriv% PySem.Builtin.gallop
noncomputable def bey (left : Bool) (key : Keyed) (arr : Array Keyed) (i : Nat) : StateT SortSt Sem (Option Bool) := do
  let x ← elem' arr i
  if left then lt' x key else return (← lt' key x).map (!·)
theorem PJ (left : Bool) (key : Keyed) (arr : Array Keyed) (base n hint : Nat) : gal left key arr base n hint = (do
  let mut p := 0
  let mut q := 1
  let mut u := 0
  let mut v := 0
  let some r ← bey left key arr (base + hint) | return none
  if r then
    let top := n - hint
    for _ in [0:n] do
      if q ≥ top then break
      let some r ← bey left key arr (base + (hint + q)) | return none
      if !r then break
      p := q
      q := 2 * q + 1
    u := hint + p + 1
    v := hint + min q top
  else
    let top := hint + 1
    for _ in [0:n] do
      if q ≥ top then break
      let some r ← bey left key arr (base + (hint - q)) | return none
      if r then break
      p := q
      q := 2 * q + 1
    u := hint + 1 - min q top
    v := hint - p
  for _ in [0:n] do
    if u ≥ v then break
    let m := u + (v - u) / 2
    let some r ← bey left key arr (base + m) | return none
    if r then u := m + 1 else v := m
  return some v) := rfl
noncomputable def byd (left : Bool) (x y : Int) : Bool := if left then decide (y < x) else decide (y ≤ x)
section
variable {prog : Program} {w : World} {A : Around} {E : Value → Shared → Prop} {s : Shared}
theorem qG {st : SortSt} {left : Bool} {key : Keyed} {arr : Array Keyed} {i : Nat} {Q : Option Bool → SortSt → Prop} (k : kindOf st = oneType') (hk : ∃ n t, key.1 = .int n t) (ha : IntKeys arr) (hi : i < arr.size)
    (h : Q (some (byd left (numOf key.1) (K arr i))) st) : wpS (model prog w) A E s (bey left key arr i) Q st := by
  unfold bey
  refine wpS_bind (cD hi ?_)
  have e : K arr i = numOf arr[i].1 := by unfold K; rw [getElem?_pos arr i hi]
  rw [e] at h
  have hx := ha arr[i] (by simp)
  cases left with
  | true => exact qO k hx hk h
  | false =>
    refine wpS_bind (qO k hk hx (wpS_pure ?_))
    have : (!decide (numOf key.1 < numOf arr[i].1)) = byd false (numOf key.1) (numOf arr[i].1) := by
      unfold byd
      rw [if_neg (by simp), ← decide_not]
      exact decide_eq_decide.mpr Int.not_lt
    show Q (some (!decide (numOf key.1 < numOf arr[i].1))) st
    rw [this]
    exact h
set_option hygiene false in
local macro_rules | `(tactic| walk_at "gal_end") => `(tactic| (
    refine wpS_bind (wpS_mono (wpS_forRange (I := fun x c b => b = st0 ∧ ∃ u v, c = (none, u, v) ∧ u ≤ v ∧ v ≤ n ∧ v - u ≤ n - x ∧ (∀ i, i < u → byd left (numOf key.1) (K arr (base + i)) = true) ∧ (∀ i, v ≤ i → i < n → byd left (numOf key.1) (K arr (base + i)) = false))
      (Q := fun c b => b = st0 ∧ ∃ v, c = (none, v, v) ∧ v ≤ n ∧ (∀ i, i < v → byd left (numOf key.1) (K arr (base + i)) = true) ∧ (∀ i, v ≤ i → i < n → byd left (numOf key.1) (K arr (base + i)) = false)) ?gstep ?gfin ⟨rfl, _, _, rfl, huv, hvn, by omega, hu, hv⟩) ?gpost)
    case gpost =>
      rintro c b ⟨rfl, v, rfl, q1, q2, q3⟩
      exact wpS_pure (h v q1 q2 q3)
    case gfin =>
      rintro c b ⟨rfl, u, v, rfl, q1, q2, q3, q4, q5⟩
      have : u = v := by omega
      subst this
      exact ⟨rfl, u, rfl, q2, q4, q5⟩
    case gstep =>
      rintro x c b _ hx ⟨rfl, u, v, rfl, q1, q2, q3, q4, q5⟩
      dsimp only
      by_cases hge : u ≥ v
      · rw [if_pos hge]
        have : u = v := by omega
        subst this
        exact wpS_pure ⟨rfl, u, rfl, q2, q4, q5⟩
      · rw [if_neg hge]
        refine wpS_bind (qG k hk ha (by omega) ?_)
        dsimp only
        cases hP : byd left (numOf key.1) (K arr (base + (u + (v - u) / 2))) with
        | true =>
          rw [if_pos rfl]
          exact wpS_pure ⟨rfl, u + (v - u) / 2 + 1, v, rfl, by omega, q2, by omega, fun i hi => up i (u + (v - u) / 2) (by omega) (by omega) hP, q5⟩
        | false =>
          rw [if_neg (by simp)]
          exact wpS_pure ⟨rfl, u, u + (v - u) / 2, rfl, by omega, by omega, by omega, q4, fun i h1 h2 => dn (u + (v - u) / 2) i h1 h2 hP⟩))
theorem lZ {st : SortSt} {left : Bool} {key : Keyed} {arr : Array Keyed} {base n hint : Nat} {Q : Option Nat → SortSt → Prop} (k : kindOf st = oneType') (hk : ∃ n t, key.1 = .int n t) (ha : IntKeys arr)
    (hb : base + n ≤ arr.size) (hh : hint < n) (hs : Seg arr base (base + n))
    (h : ∀ v, v ≤ n → (∀ i, i < v → byd left (numOf key.1) (K arr (base + i)) = true) → (∀ i, v ≤ i → i < n → byd left (numOf key.1) (K arr (base + i)) = false) → Q (some v) st) :
    wpS (model prog w) A E s (gal left key arr base n hint) Q st := by
  have up : ∀ i j, i ≤ j → j < n → byd left (numOf key.1) (K arr (base + j)) = true → byd left (numOf key.1) (K arr (base + i)) = true := by
    intro i j hij hj hP
    have := hs (base + i) (base + j) (by omega) (by omega) (by omega)
    unfold byd at hP ⊢
    cases left <;> simp at hP ⊢ <;> omega
  have dn : ∀ i j, i ≤ j → j < n → byd left (numOf key.1) (K arr (base + i)) = false → byd left (numOf key.1) (K arr (base + j)) = false := by
    intro i j hij hj hP
    cases hq : byd left (numOf key.1) (K arr (base + j)) with
    | false => rfl
    | true => rw [up i j hij hj hq] at hP; cases hP
  rw [PJ]
  dsimp only
  refine wpS_bind (qG k hk ha (by omega) ?_)
  dsimp only
  cases hP : byd left (numOf key.1) (K arr (base + hint)) with
  | true =>
    rw [if_pos rfl]
    refine wpS_bind (wpS_mono (wpS_forRange (I := fun x c b => b = st ∧ ∃ p q, c = (none, p, q) ∧ p < q ∧ x + 1 ≤ q ∧ p < n - hint ∧ byd left (numOf key.1) (K arr (base + (hint + p))) = true)
      (Q := fun c b => b = st ∧ ∃ p q, c = (none, p, q) ∧ p < q ∧ p < n - hint ∧ byd left (numOf key.1) (K arr (base + (hint + p))) = true ∧ (q < n - hint → byd left (numOf key.1) (K arr (base + (hint + q))) = false)) ?step ?fin ⟨rfl, 0, 1, rfl, by omega, by omega, by omega, hP⟩) ?post)
    case post =>
      rintro c b ⟨rfl, p, q, rfl, q1, q2, q3, q4⟩
      have huv : hint + p + 1 ≤ hint + min q (n - hint) := by omega
      have hvn : hint + min q (n - hint) ≤ n := by omega
      have hu : ∀ i, i < hint + p + 1 → byd left (numOf key.1) (K arr (base + i)) = true := fun i hi => up i (hint + p) (by omega) (by omega) q3
      have hv : ∀ i, hint + min q (n - hint) ≤ i → i < n → byd left (numOf key.1) (K arr (base + i)) = false := fun i h1 h2 => dn (hint + q) i (by omega) h2 (q4 (by omega))
      clear q1 q2 q3 q4
      dsimp only
      generalize hst : b = st0 at *
      walk_at "gal_end"
    case fin =>
      rintro c b ⟨rfl, p, q, rfl, q1, q2, q3, q4⟩
      exact ⟨rfl, p, q, rfl, q1, q3, q4, fun h => by omega⟩
    case step =>
      rintro x c b _ hx ⟨rfl, p, q, rfl, q1, q2, q3, q4⟩
      dsimp only
      by_cases hge : q ≥ n - hint
      · rw [if_pos hge]
        exact wpS_pure ⟨rfl, p, q, rfl, q1, q3, q4, fun h => by omega⟩
      · rw [if_neg hge]
        refine wpS_bind (qG k hk ha (by omega) ?_)
        dsimp only
        cases hR : byd left (numOf key.1) (K arr (base + (hint + q))) with
        | true =>
          rw [if_neg (by simp)]
          exact wpS_pure ⟨rfl, q, 2 * q + 1, rfl, by omega, by omega, by omega, hR⟩
        | false =>
          rw [if_pos (by simp)]
          exact wpS_pure ⟨rfl, p, q, rfl, q1, q3, q4, fun _ => hR⟩
  | false =>
    rw [if_neg (by simp)]
    refine wpS_bind (wpS_mono (wpS_forRange (I := fun x c b => b = st ∧ ∃ p q, c = (none, p, q) ∧ p < q ∧ x + 1 ≤ q ∧ p < hint + 1 ∧ byd left (numOf key.1) (K arr (base + (hint - p))) = false)
      (Q := fun c b => b = st ∧ ∃ p q, c = (none, p, q) ∧ p < q ∧ p < hint + 1 ∧ byd left (numOf key.1) (K arr (base + (hint - p))) = false ∧ (q < hint + 1 → byd left (numOf key.1) (K arr (base + (hint - q))) = true)) ?step ?fin ⟨rfl, 0, 1, rfl, by omega, by omega, by omega, hP⟩) ?post)
    case post =>
      rintro c b ⟨rfl, p, q, rfl, q1, q2, q3, q4⟩
      have huv : hint + 1 - min q (hint + 1) ≤ hint - p := by omega
      have hvn : hint - p ≤ n := by omega
      have hu : ∀ i, i < hint + 1 - min q (hint + 1) → byd left (numOf key.1) (K arr (base + i)) = true := fun i hi => up i (hint - q) (by omega) (by omega) (q4 (by omega))
      have hv : ∀ i, hint - p ≤ i → i < n → byd left (numOf key.1) (K arr (base + i)) = false := fun i h1 h2 => dn (hint - p) i (by omega) h2 q3
      clear q1 q2 q3 q4
      dsimp only
      generalize hst : b = st0 at *
      walk_at "gal_end"
    case fin =>
      rintro c b ⟨rfl, p, q, rfl, q1, q2, q3, q4⟩
      exact ⟨rfl, p, q, rfl, q1, q3, q4, fun h => by omega⟩
    case step =>
      rintro x c b _ hx ⟨rfl, p, q, rfl, q1, q2, q3, q4⟩
      dsimp only
      by_cases hge : q ≥ hint + 1
      · rw [if_pos hge]
        exact wpS_pure ⟨rfl, p, q, rfl, q1, q3, q4, fun h => by omega⟩
      · rw [if_neg hge]
        refine wpS_bind (qG k hk ha (by omega) ?_)
        dsimp only
        cases hR : byd left (numOf key.1) (K arr (base + (hint - q))) with
        | true =>
          rw [if_pos rfl]
          exact wpS_pure ⟨rfl, p, q, rfl, q1, q3, q4, fun _ => hR⟩
        | false =>
          rw [if_neg (by simp)]
          exact wpS_pure ⟨rfl, q, 2 * q + 1, rfl, by omega, by omega, by omega, hR⟩
end
end L2
namespace L2
open PySem PyProof.Rows
section
variable {α : Type} {le : α → α → Prop}
structure Jn (le : α → α → Prop) (A B L : List α) (i j : Nat) : Prop where
  perm : L.Perm (A.take i ++ B.take j)
  srt : L.Pairwise le
  la : ∀ x ∈ L, ∀ y ∈ A.drop i, le x y
  lb : ∀ x ∈ L, ∀ y ∈ B.drop j, le x y
theorem Jn.swap {A B L : List α} {i j : Nat} (h : Jn le A B L i j) : Jn le B A L j i :=
  ⟨h.perm.trans List.perm_append_comm, h.srt, h.lb, h.la⟩
theorem Jn.step {A B L : List α} {i j k : Nat} (h : Jn le A B L i j) (sA : A.Pairwise le) (hk : ∀ x ∈ (A.drop i).take k, ∀ y ∈ B.drop j, le x y) : Jn le A B (L ++ (A.drop i).take k) (i + k) j := by
  have e : (A.drop i).take k ++ A.drop (i + k) = A.drop i := by rw [← List.drop_drop, List.take_append_drop]
  have sD : (A.drop i).Pairwise le := sA.sublist (List.drop_sublist _ _)
  rw [← e] at sD
  obtain ⟨s1, s2, s3⟩ := List.pairwise_append.mp sD
  refine ⟨?_, List.pairwise_append.mpr ⟨h.srt, s1, fun x hx y hy => h.la x hx y (List.mem_of_mem_take hy)⟩, fun x hx y hy => ?_, fun x hx y hy => ?_⟩
  · rw [List.take_add, List.append_assoc]
    refine (h.perm.append_right _).trans ?_
    rw [List.append_assoc]
    exact List.perm_append_comm.append_left _
  · rcases List.mem_append.mp hx with hx | hx
    · exact h.la x hx y (by rw [← e]; exact List.mem_append_right _ hy)
    · exact s3 x hx y hy
  · rcases List.mem_append.mp hx with hx | hx
    · exact h.lb x hx y hy
    · exact hk x hx y hy
theorem Jn.fin {A B L : List α} {i j : Nat} (h : Jn le A B L i j) (sA : A.Pairwise le) (sB : B.Pairwise le) (hk : ∀ x ∈ A.drop i, ∀ y ∈ B.drop j, le x y) :
    (L ++ A.drop i ++ B.drop j).Perm (A ++ B) ∧ (L ++ A.drop i ++ B.drop j).Pairwise le := by
  constructor
  · have h1 : (L ++ A.drop i ++ B.drop j).Perm ((A.take i ++ B.take j) ++ A.drop i ++ B.drop j) := (h.perm.append_right _).append_right _
    refine h1.trans ?_
    have h2 : (A ++ B) = (A.take i ++ A.drop i) ++ (B.take j ++ B.drop j) := by rw [List.take_append_drop, List.take_append_drop]
    rw [h2, List.append_assoc, List.append_assoc, List.append_assoc]
    refine List.Perm.append_left _ ?_
    rw [← List.append_assoc, ← List.append_assoc]
    exact List.perm_append_comm.append_right _
  · refine List.pairwise_append.mpr ⟨List.pairwise_append.mpr ⟨h.srt, sA.sublist (List.drop_sublist _ _), h.la⟩, sB.sublist (List.drop_sublist _ _), fun x hx y hy => ?_⟩
    rcases List.mem_append.mp hx with hx | hx
    · exact h.lb x hx y hy
    · exact hk x hx y hy
theorem Jn.first {A B : List α} {b : α} (hb : B[0]? = some b) (sB : B.Pairwise le) (hba : ∀ x ∈ A, le b x) : Jn le A B [b] 0 1 := by
  cases B with
  | nil => simp at hb
  | cons c B =>
    simp at hb
    subst hb
    refine ⟨by simp, by simp, fun x hx y hy => ?_, fun x hx y hy => ?_⟩
    · simp at hx; subst hx; exact hba y (by simpa using hy)
    · simp at hx; subst hx; exact (List.pairwise_cons.mp sB).1 y (by simpa using hy)
end
noncomputable def setG : Nat → StateT SortSt Sem Unit := sortPriv% PySem.Builtin.setMinGallop
noncomputable def mLo : Array Keyed → Array Keyed → StateT SortSt Sem (Array Keyed) := sortPriv% PySem.Builtin.mergeLo
noncomputable def mHi : Array Keyed → Array Keyed → StateT SortSt Sem (Array Keyed) := sortPriv% PySem.Builtin.mergeHi
theorem Nf (a b : Array Keyed) : mLo a b = (do
  rule "list.sort.merge-lo"
  let t := a.size + b.size
  let e1 (o : Array Keyed) (i j : Nat) := o ++ a.extract i a.size ++ b.extract j b.size
  let e2 (o : Array Keyed) (i j : Nat) := o ++ b.extract j b.size ++ a.extract i a.size
  let mut o : Array Keyed := #[← elem' b 0]
  let mut i := 0
  let mut j := 1
  if j == b.size then return e1 o i j
  if i + 1 == a.size then return e2 o i j
  let mut g := gallopOf (← get)
  for _ in [0:t] do
    let mut p := 0
    let mut q := 0
    for _ in [0:t] do
      let some r ← lt' (← elem' b j) (← elem' a i) | return e1 o i j
      if r then
        o := o.push (← elem' b j); j := j + 1; q := q + 1; p := 0
        if j == b.size then return e1 o i j
        if q ≥ g then break
      else
        o := o.push (← elem' a i); i := i + 1; p := p + 1; q := 0
        if i + 1 == a.size then return e2 o i j
        if p ≥ g then break
    rule "list.sort.gallop"
    g := g + 1
    for _ in [0:t] do
      if g > 1 then g := g - 1
      setG g
      let some k ← gal false (← elem' b j) a i (a.size - i) 0 | return e1 o i j
      p := k
      if k > 0 then
        o := o ++ a.extract i (i + k); i := i + k
        if i + 1 == a.size then return e2 o i j
        if i == a.size then return e1 o i j
      o := o.push (← elem' b j); j := j + 1
      if j == b.size then return e1 o i j
      let some k ← gal true (← elem' a i) b j (b.size - j) 0 | return e1 o i j
      q := k
      if k > 0 then
        o := o ++ b.extract j (j + k); j := j + k
        if j == b.size then return e1 o i j
      o := o.push (← elem' a i); i := i + 1
      if i + 1 == a.size then return e2 o i j
      if p < 7 && q < 7 then break
    g := g + 1
    setG g
  unsupported "internal:list.sort.merge-bound") := rfl
section
variable {prog : Program} {w : World} {A : Around} {E : Value → Shared → Prop} {s : Shared}
theorem pJ {st : SortSt} {g : Nat} {Q : Unit → SortSt → Prop} (h : Q () (SortSt.mk' (kindOf st) (arrOf st) (pendingOf st) g (failedOf st))) : wpS (model prog w) A E s (setG g) Q st := by
  show wpS _ _ _ _ (modify fun s => SortSt.mk' (kindOf s) (arrOf s) (pendingOf s) g (failedOf s)) _ _
  exact wpS_modify h
end
noncomputable def leK (p q : Keyed) : Prop := numOf p.1 ≤ numOf q.1
noncomputable def Rs (a b r : Array Keyed) : Prop := r.toList.Perm (a.toList ++ b.toList) ∧ r.toList.Pairwise leK
noncomputable def Sg (st st' : SortSt) : Prop := kindOf st' = kindOf st ∧ arrOf st' = arrOf st ∧ pendingOf st' = pendingOf st ∧ failedOf st' = failedOf st
theorem gn {a : Array Keyed} {i : Nat} (hi : i < a.size) : K a i = numOf a[i].1 := by unfold K; rw [getElem?_pos a i hi]
theorem Seg.pw {a : Array Keyed} (h : Seg a 0 a.size) : a.toList.Pairwise leK := by
  rw [List.pairwise_iff_getElem]
  intro i j hi hj hij
  have hi' : i < a.size := by simpa using hi
  have hj' : j < a.size := by simpa using hj
  have := h i j (by omega) (by omega) hj'
  rw [gn hi', gn hj'] at this
  simpa [leK] using this
theorem Om {a : Array Keyed} (h : a.toList.Pairwise leK) : Seg a 0 a.size := by
  intro i j _ hij hj
  by_cases e : i = j
  · subst e; exact Int.le_refl _
  · rw [List.pairwise_iff_getElem] at h
    have := h i j (by simpa using (by omega : i < a.size)) (by simpa using hj) (by omega)
    rw [gn (by omega), gn hj]
    simpa [leK] using this
theorem nq {a : Array Keyed} {i : Nat} {y : Keyed} (h : y ∈ a.toList.drop i) : ∃ x, i ≤ x ∧ x < a.size ∧ numOf y.1 = K a x := by
  obtain ⟨n, hn, rfl⟩ := List.mem_iff_getElem.mp h
  have hn' : i + n < a.size := by simp at hn; omega
  refine ⟨i + n, by omega, hn', ?_⟩
  rw [gn hn']
  simp
theorem ni {a : Array Keyed} {i k : Nat} {y : Keyed} (h : y ∈ (a.toList.drop i).take k) : ∃ x, i ≤ x ∧ x < i + k ∧ x < a.size ∧ numOf y.1 = K a x := by
  obtain ⟨n, hn, rfl⟩ := List.mem_iff_getElem.mp h
  have hn' : n < k ∧ i + n < a.size := by simp at hn; omega
  refine ⟨i + n, by omega, by omega, hn'.2, ?_⟩
  rw [gn hn'.2]
  simp
section
variable {a b o : Array Keyed} {i j k : Nat}
theorem yC (h : Jn leK a.toList b.toList o.toList i j) (sa : Seg a 0 a.size) (sb : Seg b 0 b.size) (hj : j < b.size) (hk : ∀ x, i ≤ x → x < i + k → K a x ≤ K b j) : Jn leK a.toList b.toList (o ++ a.extract i (i + k)).toList (i + k) j := by
  have e : (o ++ a.extract i (i + k)).toList = o.toList ++ (a.toList.drop i).take k := by simp [List.extract_eq_drop_take]
  rw [e]
  refine h.step sa.pw fun x hx y hy => ?_
  obtain ⟨u, u1, u2, u3, u4⟩ := ni hx
  obtain ⟨v, v1, v2, v3⟩ := nq hy
  unfold leK
  rw [u4, v3]
  exact Int.le_trans (hk u u1 u2) (sb j v (Nat.zero_le _) v1 v2)
theorem Qf (h : Jn leK a.toList b.toList o.toList i j) (sa : Seg a 0 a.size) (sb : Seg b 0 b.size) (hi : i < a.size) (hk : ∀ x, j ≤ x → x < j + k → K b x ≤ K a i) : Jn leK a.toList b.toList (o ++ b.extract j (j + k)).toList i (j + k) :=
  (yC h.swap sb sa hi hk).swap
theorem Je {i : Nat} (hi : i < a.size) : o.push a[i] = o ++ a.extract i (i + 1) := by
  apply Array.toList_inj.mp
  simp [List.extract_eq_drop_take, List.drop_eq_getElem_cons, hi]
theorem yE (h : Jn leK a.toList b.toList o.toList i j) (sa : Seg a 0 a.size) (sb : Seg b 0 b.size) (hj : j < b.size) (hi : i < a.size) (hk : K a i ≤ K b j) : Jn leK a.toList b.toList (o.push a[i]).toList (i + 1) j := by
  rw [Je hi]
  exact yC h sa sb hj fun x h1 h2 => by rw [show x = i by omega]; exact hk
theorem Eu (h : Jn leK a.toList b.toList o.toList i j) (sa : Seg a 0 a.size) (sb : Seg b 0 b.size) (hi : i < a.size) (hj : j < b.size) (hk : K b j ≤ K a i) : Jn leK a.toList b.toList (o.push b[j]).toList i (j + 1) :=
  (yE h.swap sb sa hi hj hk).swap
theorem sW (h : Jn leK a.toList b.toList o.toList i j) (sa : Seg a 0 a.size) (sb : Seg b 0 b.size) (he : i = a.size ∨ j = b.size) : Rs a b (o ++ a.extract i a.size ++ b.extract j b.size) := by
  have e : (o ++ a.extract i a.size ++ b.extract j b.size).toList = o.toList ++ a.toList.drop i ++ b.toList.drop j := by
    simp [List.extract_eq_drop_take, List.take_of_length_le]
  unfold Rs
  rw [e]
  refine h.fin sa.pw sb.pw fun x hx y hy => ?_
  rcases he with rfl | rfl
  · rw [List.drop_eq_nil_of_le (by simp)] at hx; cases hx
  · rw [List.drop_eq_nil_of_le (by simp)] at hy; cases hy
theorem wL (h : Jn leK a.toList b.toList o.toList i j) (sa : Seg a 0 a.size) (sb : Seg b 0 b.size) (he : i + 1 = a.size) (hl : ∀ x, x < b.size → K b x ≤ K a (a.size - 1)) : Rs a b (o ++ b.extract j b.size ++ a.extract i a.size) := by
  have e : (o ++ b.extract j b.size ++ a.extract i a.size).toList = o.toList ++ b.toList.drop j ++ a.toList.drop i := by
    simp [List.extract_eq_drop_take, List.take_of_length_le]
  unfold Rs
  rw [e]
  have f := h.swap.fin sb.pw sa.pw fun x hx y hy => by
    obtain ⟨u, u1, u2, u3⟩ := nq hx
    obtain ⟨v, v1, v2, v3⟩ := nq hy
    unfold leK
    rw [u3, v3, show v = a.size - 1 by omega]
    exact hl u u2
  exact ⟨f.1.trans List.perm_append_comm, f.2⟩
end
theorem qN {x y : Int} : byd true x y = true ↔ y < x := by simp [byd]
theorem ud {x y : Int} : byd false x y = true ↔ y ≤ x := by simp [byd]
theorem ql {x y : Int} : byd true x y = false ↔ x ≤ y := by simp [byd]
theorem um {x y : Int} : byd false x y = false ↔ x < y := by simp [byd]
theorem Seg.sub {a : Array Keyed} {lo hi lo' hi' : Nat} (h : Seg a lo hi) (h1 : lo ≤ lo') (h2 : hi' ≤ hi) : Seg a lo' hi' := fun i j q1 q2 q3 => h i j (by omega) q2 (by omega)
section
variable {prog : Program} {w : World} {A : Around} {E : Value → Shared → Prop} {s : Shared}
theorem Jz {β : Type} {c : Prop} [Decidable c] {g1 g2 : Nat} {R : Nat → StateT SortSt Sem β} {Q : β → SortSt → Prop} {st : SortSt} (h : ∀ g, wpS (model prog w) A E s (setG g >>= fun _ => R g) Q st) :
    wpS (model prog w) A E s (if c then setG g1 >>= fun _ => R g1 else setG g2 >>= fun _ => R g2) Q st := by
  split
  · exact h g1
  · exact h g2
theorem uq {β : Type} {m m' : StateT SortSt Sem β} {Q : β → SortSt → Prop} {st : SortSt} (e : m = m') (h : wpS (model prog w) A E s m Q st) : wpS (model prog w) A E s m' Q st := e ▸ h
noncomputable abbrev LoT := Option (Array Keyed) × Array Keyed × Nat × Nat × Nat × Nat × Nat
noncomputable def loC (a b o : Array Keyed) (i j g p q : Nat) : StateT SortSt Sem (ForInStep LoT) := do
  let y ← elem' a i
  if (i + 1 + 1 == a.size) = true then pure (.done (some (o.push y ++ b.extract j b.size ++ a.extract (i + 1) a.size), o.push y, i + 1, j, g, p, q))
  else if (decide (p < 7) && decide (q < 7)) = true then pure (.done (none, o.push y, i + 1, j, g, p, q))
  else pure (.yield (none, o.push y, i + 1, j, g, p, q))
noncomputable def loB (a b o : Array Keyed) (i j g p q : Nat) : StateT SortSt Sem (ForInStep LoT) := do
  let x ← elem' b j
  if (j + 1 == b.size) = true then pure (.done (some (o.push x ++ a.extract i a.size ++ b.extract (j + 1) b.size), o.push x, i, j + 1, g, p, q))
  else do
    let y ← elem' a i
    let z ← gal true y b (j + 1) (b.size - (j + 1)) 0
    match z with
    | some k =>
      if k > 0 then
        if (j + 1 + k == b.size) = true then pure (.done (some (o.push x ++ b.extract (j + 1) (j + 1 + k) ++ a.extract i a.size ++ b.extract (j + 1 + k) b.size), o.push x ++ b.extract (j + 1) (j + 1 + k), i, j + 1 + k, g, p, k))
        else loC a b (o.push x ++ b.extract (j + 1) (j + 1 + k)) i (j + 1 + k) g p k
      else loC a b (o.push x) i (j + 1) g p k
    | _ => pure (.done (some (o.push x ++ a.extract i a.size ++ b.extract (j + 1) b.size), o.push x, i, j + 1, g, p, q))
theorem Av {st : SortSt} {a b o : Array Keyed} {i j g p q X : Nat} {Q : ForInStep LoT → SortSt → Prop} (sa : Seg a 0 a.size) (sb : Seg b 0 b.size) (hl : ∀ x, x < b.size → K b x ≤ K a (a.size - 1))
    (J : Jn leK a.toList b.toList o.toList i j) (h1 : i + 1 < a.size) (h2 : j < b.size) (h3 : X ≤ i + j) (hk : K a i ≤ K b j) (hd : ∀ r o i j g p q, Rs a b r → Q (.done (some r, o, i, j, g, p, q)) st)
    (hx : ∀ o i j g p q, Jn leK a.toList b.toList o.toList i j → i + 1 < a.size → j < b.size → X ≤ i + j → Q (.done (none, o, i, j, g, p, q)) st ∧ Q (.yield (none, o, i, j, g, p, q)) st) :
    wpS (model prog w) A E s (loC a b o i j g p q) Q st := by
  unfold loC
  refine wpS_bind (cD (Nat.lt_of_succ_lt h1) ?_)
  have J5 := yE J sa sb h2 (Nat.lt_of_succ_lt h1) hk
  by_cases c5 : i + 1 + 1 = a.size
  · rw [if_pos (by simpa using c5)]
    exact wpS_pure (hd _ _ _ _ _ _ _ (wL J5 sa sb c5 hl))
  · rw [if_neg (by simpa using c5)]
    have z := hx (o.push a[i]) (i + 1) j g p q J5 (Nat.lt_of_le_of_ne h1 c5) h2 (by omega)
    split
    · exact wpS_pure z.1
    · exact wpS_pure z.2
theorem Ay {st : SortSt} {a b o : Array Keyed} {i j g p q X : Nat} {Q : ForInStep LoT → SortSt → Prop} (hkd : kindOf st = oneType') (ka : IntKeys a) (kb : IntKeys b) (sa : Seg a 0 a.size) (sb : Seg b 0 b.size) (hl : ∀ x, x < b.size → K b x ≤ K a (a.size - 1))
    (J : Jn leK a.toList b.toList o.toList i j) (h1 : i + 1 < a.size) (h2 : j < b.size) (h3 : X ≤ i + j) (hk : K b j ≤ K a i) (hd : ∀ r o i j g p q, Rs a b r → Q (.done (some r, o, i, j, g, p, q)) st)
    (hx : ∀ o i j g p q, Jn leK a.toList b.toList o.toList i j → i + 1 < a.size → j < b.size → X ≤ i + j → Q (.done (none, o, i, j, g, p, q)) st ∧ Q (.yield (none, o, i, j, g, p, q)) st) :
    wpS (model prog w) A E s (loB a b o i j g p q) Q st := by
  unfold loB
  have hi := Nat.lt_of_succ_lt h1
  refine wpS_bind (cD h2 ?_)
  have J3 := Eu J sa sb hi h2 hk
  by_cases c3 : j + 1 = b.size
  · rw [if_pos (by simpa using c3)]
    exact wpS_pure (hd _ _ _ _ _ _ _ (sW J3 sa sb (.inr c3)))
  · rw [if_neg (by simpa using c3)]
    have h2' : j + 1 < b.size := Nat.lt_of_le_of_ne h2 c3
    refine wpS_bind (cD hi ?_)
    refine wpS_bind (lZ hkd (ka _ (by simp)) kb (by omega) (by omega) (sb.sub (Nat.zero_le _) (by omega)) fun k' w1 w2 w3 => ?_)
    dsimp only
    rw [← gn hi] at w2 w3
    have J4' := Qf (k := k') J3 sa sb hi (fun x q1 q2 => by have := qN.mp (w2 (x - (j + 1)) (by omega)); rw [show j + 1 + (x - (j + 1)) = x by omega] at this; omega)
    split
    · by_cases c6 : j + 1 + k' = b.size
      · rw [if_pos (by simpa using c6)]
        exact wpS_pure (hd _ _ _ _ _ _ _ (sW J4' sa sb (.inr c6)))
      · rw [if_neg (by simpa using c6)]
        exact Av sa sb hl J4' h1 (by omega) (by omega) (ql.mp (w3 k' (Nat.le_refl _) (by omega))) hd hx
    · exact Av sa sb hl J3 h1 h2' (by omega) (ql.mp (w3 0 (by omega) (by omega))) hd hx
theorem Km {st : SortSt} {a b : Array Keyed} {Q : Array Keyed → SortSt → Prop} (hk : kindOf st = oneType') (ka : IntKeys a) (kb : IntKeys b) (sa : Seg a 0 a.size) (sb : Seg b 0 b.size)
    (ha : 1 ≤ a.size) (hb : 1 ≤ b.size) (hba : K b 0 ≤ K a 0) (hl : ∀ x, x < b.size → K b x ≤ K a (a.size - 1)) (h : ∀ r st', Sg st st' → Rs a b r → Q r st') : wpS (model prog w) A E s (mLo a b) Q st := by
  rw [Nf]
  dsimp only
  refine wpS_bind (wpS_lift (wpAny_rule ⟨rfl, ?_⟩))
  refine wpS_bind (cD (by omega) ?_)
  have J0 : Jn leK a.toList b.toList (#[b[0]] : Array Keyed).toList 0 1 := by
    refine Jn.first (b := b[0]) ?_ sb.pw fun x hx => ?_
    · simp
    · obtain ⟨u, u1, u2, u3⟩ := nq (i := 0) (by simpa using hx)
      unfold leK
      rw [u3, ← gn (by omega)]
      exact Int.le_trans hba (sa 0 u (by omega) (by omega) u2)
  have S0 : Sg st st := ⟨rfl, rfl, rfl, rfl⟩
  by_cases c1 : 1 = b.size
  · rw [if_pos (by simpa using c1)]
    exact wpS_pure (h _ _ S0 (sW J0 sa sb (.inr c1)))
  rw [if_neg (by simpa using c1)]
  by_cases c2 : 0 + 1 = a.size
  · rw [if_pos (by simpa using c2)]
    exact wpS_pure (h _ _ S0 (wL J0 sa sb c2 hl))
  rw [if_neg (by simpa using c2)]
  refine wpS_bind (wpS_get ?_)
  refine wpS_bind (wpS_mono (wpS_forRange (I := fun x c b' => Sg st b' ∧ ∃ o i j g, c = (none, o, i, j, g) ∧ Jn leK a.toList b.toList o.toList i j ∧ i + 1 < a.size ∧ j < b.size ∧ x + 1 ≤ i + j)
    (Q := fun c b' => Sg st b' ∧ ∃ r o i j g, c = (some r, o, i, j, g) ∧ Rs a b r) ?step ?fin ⟨S0, _, _, _, _, rfl, J0, by omega, by omega, by omega⟩) ?post)
  case post =>
    rintro c b' ⟨S1, r, o, i, j, g, rfl, hr⟩
    exact wpS_pure (h _ _ S1 hr)
  case fin =>
    rintro c b' ⟨S1, o, i, j, g, rfl, J, q1, q2, q3⟩
    omega
  case step =>
    rintro x c b' _ hx ⟨S1, o, i, j, g, rfl, J, q1, q2, q3⟩
    dsimp only
    refine wpS_bind (wpS_mono (wpS_forRange (I := fun y c b' => Sg st b' ∧ ∃ o i j p q, c = (none, o, i, j, p, q) ∧ Jn leK a.toList b.toList o.toList i j ∧ i + 1 < a.size ∧ j < b.size ∧ x + 1 + y ≤ i + j)
      (Q := fun c b' => Sg st b' ∧ ((∃ o i j p q, c = (none, o, i, j, p, q) ∧ Jn leK a.toList b.toList o.toList i j ∧ i + 1 < a.size ∧ j < b.size ∧ x + 2 ≤ i + j) ∨ ∃ r o i j p q, c = (some r, o, i, j, p, q) ∧ Rs a b r)) ?step1 ?fin1 ⟨S1, _, _, _, _, _, rfl, J, by omega, by omega, by omega⟩) ?post1)
    case fin1 =>
      rintro c b' ⟨S2, o, i, j, p, q, rfl, J, q1, q2, q3⟩
      exact ⟨S2, .inl ⟨_, _, _, _, _, rfl, J, q1, q2, by omega⟩⟩
    case step1 =>
      rintro y c b' _ hy ⟨S2, o, i, j, p, q, rfl, J, q1, q2, q3⟩
      dsimp only
      refine wpS_bind (cD (by omega) ?_)
      refine wpS_bind (cD (by omega) ?_)
      refine wpS_bind (qO (S2.1.trans hk) (kb _ (by simp)) (ka _ (by simp)) ?_)
      rw [← gn (by omega), ← gn (by omega)]
      dsimp only
      by_cases c3 : K b j < K a i
      · rw [if_pos (by simpa using c3)]
        refine wpS_bind (cD (by omega) ?_)
        have J2 := Eu J sa sb (by omega) (by omega) (Int.le_of_lt c3)
        by_cases c4 : j + 1 = b.size
        · rw [if_pos (by simpa using c4)]
          exact wpS_pure ⟨S2, .inr ⟨_, _, _, _, _, _, rfl, sW J2 sa sb (.inr c4)⟩⟩
        · rw [if_neg (by simpa using c4)]
          split
          · exact wpS_pure ⟨S2, .inl ⟨_, _, _, _, _, rfl, J2, by omega, by omega, by omega⟩⟩
          · exact wpS_pure ⟨S2, _, _, _, _, _, rfl, J2, by omega, by omega, by omega⟩
      · rw [if_neg (by simpa using c3)]
        refine wpS_bind (cD (by omega) ?_)
        have J2 := yE J sa sb (by omega) (by omega) (Int.not_lt.mp c3)
        by_cases c4 : i + 1 + 1 = a.size
        · rw [if_pos (by simpa using c4)]
          exact wpS_pure ⟨S2, .inr ⟨_, _, _, _, _, _, rfl, wL J2 sa sb c4 hl⟩⟩
        · rw [if_neg (by simpa using c4)]
          split
          · exact wpS_pure ⟨S2, .inl ⟨_, _, _, _, _, rfl, J2, by omega, by omega, by omega⟩⟩
          · exact wpS_pure ⟨S2, _, _, _, _, _, rfl, J2, by omega, by omega, by omega⟩
    case post1 =>
      rintro c b' ⟨S2, ⟨o, i, j, p, q, rfl, J, q1, q2, q3⟩ | ⟨r, o, i, j, p, q, rfl, hr⟩⟩
      rotate_left
      · exact wpS_pure ⟨S2, _, _, _, _, _, rfl, hr⟩
      dsimp only
      refine wpS_bind (wpS_lift (wpAny_rule ⟨rfl, ?_⟩))
      refine wpS_bind (wpS_mono (wpS_forRange (I := fun y c b' => Sg st b' ∧ ∃ o i j g p q, c = (none, o, i, j, g, p, q) ∧ Jn leK a.toList b.toList o.toList i j ∧ i + 1 < a.size ∧ j < b.size ∧ x + 2 ≤ i + j)
        (Q := fun c b' => Sg st b' ∧ ((∃ o i j g p q, c = (none, o, i, j, g, p, q) ∧ Jn leK a.toList b.toList o.toList i j ∧ i + 1 < a.size ∧ j < b.size ∧ x + 2 ≤ i + j) ∨ ∃ r o i j g p q, c = (some r, o, i, j, g, p, q) ∧ Rs a b r)) ?step2 ?fin2 ⟨S2, _, _, _, _, _, _, rfl, J, by omega, by omega, by omega⟩) ?post2)
      case fin2 =>
        rintro c b' ⟨S2, o, i, j, g, p, q, rfl, J, q1, q2, q3⟩
        exact ⟨S2, .inl ⟨_, _, _, _, _, _, rfl, J, q1, q2, q3⟩⟩
      case post2 =>
        rintro c b' ⟨S2, ⟨o, i, j, g, p, q, rfl, J, q1, q2, q3⟩ | ⟨r, o, i, j, g, p, q, rfl, hr⟩⟩
        · exact wpS_bind (pJ (wpS_pure ⟨S2, _, _, _, _, rfl, J, by omega, by omega, by omega⟩))
        · exact wpS_pure ⟨S2, _, _, _, _, _, rfl, hr⟩
      case step2 =>
        rintro y c b' _ hy ⟨S2', o, i, j, g, p, q, rfl, J, q1, q2, q3⟩
        dsimp only
        generalize hg1 : g - 1 = g1
        apply Jz
        intro g'
        refine wpS_bind (pJ ?_)
        have S2 : Sg st (SortSt.mk' (kindOf b') (arrOf b') (pendingOf b') g' (failedOf b')) := S2'
        refine wpS_bind (cD (by omega) ?_)
        refine wpS_bind (lZ (S2.1.trans hk) (kb _ (by simp)) ka (by omega) (by omega) (sa.sub (by omega) (by omega)) fun k v1 v2 v3 => ?_)
        dsimp only
        rw [← gn (by omega)] at v2 v3
        have J2' := yC (k := k) J sa sb (by omega) (fun x h1 h2 => by have := ud.mp (v2 (x - i) (by omega)); rw [show i + (x - i) = x by omega] at this; omega)
        by_cases c1 : k > 0
        · rw [if_pos c1]
          by_cases c2 : i + k + 1 = a.size
          · rw [if_pos (by simpa using c2)]
            exact wpS_pure ⟨S2, .inr ⟨_, _, _, _, _, _, _, rfl, wL J2' sa sb c2 hl⟩⟩
          · rw [if_neg (by simpa using c2)]
            by_cases c7 : i + k = a.size
            · rw [if_pos (by simpa using c7)]
              exact wpS_pure ⟨S2, .inr ⟨_, _, _, _, _, _, _, rfl, sW J2' sa sb (.inl c7)⟩⟩
            · rw [if_neg (by simpa using c7)]
              refine uq (m := loB a b (o ++ a.extract i (i + k)) (i + k) j g' k q) (by kernel_rfl) (Ay (X := x + 2) (S2.1.trans hk) ka kb sa sb hl J2' (by omega) q2 (by omega) (Int.le_of_lt (um.mp (v3 k (Nat.le_refl _) (by omega)))) (fun r _ _ _ _ _ _ hr => ⟨S2, .inr ⟨_, _, _, _, _, _, _, rfl, hr⟩⟩) fun o i j g p q z1 z2 z3 z4 => ⟨⟨S2, .inl ⟨_, _, _, _, _, _, rfl, z1, z2, z3, z4⟩⟩, S2, _, _, _, _, _, _, rfl, z1, z2, z3, z4⟩)
        · rw [if_neg c1]
          refine uq (m := loB a b o i j g' k q) (by kernel_rfl) (Ay (X := x + 2) (S2.1.trans hk) ka kb sa sb hl J q1 q2 q3 (Int.le_of_lt (um.mp (v3 0 (by omega) (by omega)))) (fun r _ _ _ _ _ _ hr => ⟨S2, .inr ⟨_, _, _, _, _, _, _, rfl, hr⟩⟩) fun o i j g p q z1 z2 z3 z4 => ⟨⟨S2, .inl ⟨_, _, _, _, _, _, rfl, z1, z2, z3, z4⟩⟩, S2, _, _, _, _, _, _, rfl, z1, z2, z3, z4⟩)
end
end L2
namespace L2
open PySem PyProof.Rows
theorem Ox (a b : Array Keyed) : mHi a b = (do
  rule "list.sort.merge-hi"
  let t := a.size + b.size
  let e1 (o : Array Keyed) (i j : Nat) := a.extract 0 i ++ b.extract 0 j ++ o.reverse
  let e2 (o : Array Keyed) (i j : Nat) := b.extract 0 j ++ a.extract 0 i ++ o.reverse
  let mut i := a.size - 1
  let mut j := b.size
  let mut o : Array Keyed := #[← elem' a i]
  if i == 0 then return e1 o i j
  if j == 1 then return e2 o i j
  let mut g := gallopOf (← get)
  for _ in [0:t] do
    let mut p := 0
    let mut q := 0
    for _ in [0:t] do
      let some r ← lt' (← elem' b (j - 1)) (← elem' a (i - 1)) | return e1 o i j
      if r then
        i := i - 1; o := o.push (← elem' a i); p := p + 1; q := 0
        if i == 0 then return e1 o i j
        if p ≥ g then break
      else
        j := j - 1; o := o.push (← elem' b j); q := q + 1; p := 0
        if j == 1 then return e2 o i j
        if q ≥ g then break
    rule "list.sort.gallop"
    g := g + 1
    for _ in [0:t] do
      if g > 1 then g := g - 1
      setG g
      let some z ← gal false (← elem' b (j - 1)) a 0 i (i - 1) | return e1 o i j
      let k := i - z
      p := k
      if k > 0 then
        o := o ++ (a.extract z i).reverse; i := z
        if i == 0 then return e1 o i j
      j := j - 1; o := o.push (← elem' b j)
      if j == 1 then return e2 o i j
      let some z ← gal true (← elem' a (i - 1)) b 0 j (j - 1) | return e1 o i j
      let k := j - z
      q := k
      if k > 0 then
        o := o ++ (b.extract z j).reverse; j := z
        if j == 1 then return e2 o i j
        if j == 0 then return e1 o i j
      i := i - 1; o := o.push (← elem' a i)
      if i == 0 then return e1 o i j
      if p < 7 && q < 7 then break
    g := g + 1
    setG g
  unsupported "internal:list.sort.merge-bound") := rfl
noncomputable def geK (p q : Keyed) : Prop := leK q p
noncomputable def Jh (a b o : Array Keyed) (i j : Nat) : Prop := Jn geK a.toList.reverse b.toList.reverse o.toList (a.size - i) (b.size - j)
theorem Seg.wp {a : Array Keyed} (h : Seg a 0 a.size) : a.toList.reverse.Pairwise geK := List.pairwise_reverse.mpr h.pw
theorem j0 {a : Array Keyed} {i : Nat} (hi : i ≤ a.size) : a.toList.reverse.drop (a.size - i) = (a.toList.take i).reverse := by
  rw [List.drop_reverse]
  congr 2
  simp
  omega
theorem yO {a : Array Keyed} {i z : Nat} (hi : i ≤ a.size) (hz : z ≤ i) : (a.toList.reverse.drop (a.size - i)).take (i - z) = (a.extract z i).reverse.toList := by
  rw [j0 hi, List.take_reverse, Array.toList_reverse, Array.toList_extract]
  congr 1
  have e : (a.toList.take i).length - (i - z) = z := by simp; omega
  rw [e, List.extract_eq_drop_take, List.drop_take]
theorem qi {a : Array Keyed} {i : Nat} {y : Keyed} (h : y ∈ (a.toList.take i).reverse) : ∃ x, x < i ∧ x < a.size ∧ numOf y.1 = K a x := by
  obtain ⟨x, _, h1, h2, h3⟩ := ni (i := 0) (k := i) (by simpa using h)
  exact ⟨x, by omega, h2, h3⟩
section
variable {a b o : Array Keyed} {i j z : Nat}
theorem yu (h : Jh a b o i j) (sa : Seg a 0 a.size) (sb : Seg b 0 b.size) (hi : i ≤ a.size) (hj : j ≤ b.size) (hj1 : 1 ≤ j) (hz : z ≤ i) (hk : ∀ x, z ≤ x → x < i → K b (j - 1) ≤ K a x) : Jh a b (o ++ (a.extract z i).reverse) z j := by
  have e : (o ++ (a.extract z i).reverse).toList = o.toList ++ (a.toList.reverse.drop (a.size - i)).take (i - z) := by rw [yO hi hz]; simp
  unfold Jh
  rw [e, show a.size - z = a.size - i + (i - z) by omega]
  refine Jn.step h sa.wp fun x hx y hy => ?_
  rw [yO hi hz] at hx
  rw [j0 hj] at hy
  obtain ⟨u, u1, u2, u3, u4⟩ := ni (a := a) (i := z) (k := i - z) (y := x) (by simpa [List.extract_eq_drop_take] using hx)
  obtain ⟨v, v1, v2, v3⟩ := qi hy
  unfold geK leK
  rw [u4, v3]
  exact Int.le_trans (sb v (j - 1) (Nat.zero_le _) (by omega) (by omega)) (hk u u1 (by omega))
theorem Jh.swap (h : Jh a b o i j) : Jh b a o j i := Jn.swap h
theorem Mx (h : Jh a b o i j) (sa : Seg a 0 a.size) (sb : Seg b 0 b.size) (hi : i ≤ a.size) (hj : j ≤ b.size) (hi1 : 1 ≤ i) (hz : z ≤ j) (hk : ∀ x, z ≤ x → x < j → K a (i - 1) ≤ K b x) : Jh a b (o ++ (b.extract z j).reverse) i z :=
  (yu h.swap sb sa hj hi hi1 hz hk).swap
theorem Hm (hi : i < a.size) : o.push a[i] = o ++ (a.extract i (i + 1)).reverse := by
  apply Array.toList_inj.mp
  simp [List.extract_eq_drop_take, List.drop_eq_getElem_cons, hi]
theorem uF (h : Jh a b o i j) (sa : Seg a 0 a.size) (sb : Seg b 0 b.size) (hi : i ≤ a.size) (hj : j ≤ b.size) (hj1 : 1 ≤ j) (hi1 : 1 ≤ i) (hp : i - 1 < a.size) (hk : K b (j - 1) ≤ K a (i - 1)) : Jh a b (o.push a[i - 1]) (i - 1) j := by
  rw [Hm hp, show i - 1 + 1 = i by omega]
  exact yu h sa sb hi hj hj1 (by omega) fun x h1 h2 => by rw [show x = i - 1 by omega]; exact hk
theorem Eg (h : Jh a b o i j) (sa : Seg a 0 a.size) (sb : Seg b 0 b.size) (hi : i ≤ a.size) (hj : j ≤ b.size) (hi1 : 1 ≤ i) (hj1 : 1 ≤ j) (hp : j - 1 < b.size) (hk : K a (i - 1) ≤ K b (j - 1)) : Jh a b (o.push b[j - 1]) i (j - 1) :=
  (uF h.swap sb sa hj hi hi1 hj1 hp hk).swap
theorem hfin (h : Jh a b o i j) (sa : Seg a 0 a.size) (sb : Seg b 0 b.size) (hi : i ≤ a.size) (hj : j ≤ b.size) (hk : ∀ x y, x < i → y < j → K a x ≤ K b y) : Rs a b (a.extract 0 i ++ b.extract 0 j ++ o.reverse) := by
  have f := Jn.fin h.swap sb.wp sa.wp fun x hx y hy => by
    rw [j0 hj] at hx
    rw [j0 hi] at hy
    obtain ⟨u, u1, u2, u3⟩ := qi hx
    obtain ⟨v, v1, v2, v3⟩ := qi hy
    unfold geK leK
    rw [u3, v3]
    exact hk v u v1 u1
  rw [j0 hj, j0 hi] at f
  have e : (a.extract 0 i ++ b.extract 0 j ++ o.reverse).toList = (o.toList ++ (b.toList.take j).reverse ++ (a.toList.take i).reverse).reverse := by
    simp [List.extract_eq_drop_take]
  unfold Rs
  rw [e]
  refine ⟨(List.reverse_perm _).trans (f.1.trans ?_), List.pairwise_reverse.mpr f.2⟩
  exact ((List.reverse_perm _).append (List.reverse_perm _)).trans List.perm_append_comm
theorem uc (h : Jh a b o i j) (sa : Seg a 0 a.size) (sb : Seg b 0 b.size) (hi : i ≤ a.size) (hj : j ≤ b.size) (he : i = 0 ∨ j = 0) : Rs a b (a.extract 0 i ++ b.extract 0 j ++ o.reverse) :=
  hfin h sa sb hi hj fun x y hx hy => by omega
theorem Rs.swap {r : Array Keyed} (h : Rs b a r) : Rs a b r := ⟨h.1.trans List.perm_append_comm, h.2⟩
theorem wQ (h : Jh a b o i j) (sa : Seg a 0 a.size) (sb : Seg b 0 b.size) (hi : i ≤ a.size) (hj : j ≤ b.size) (he : j = 1) (hba : ∀ x, x < a.size → K b 0 ≤ K a x) : Rs a b (b.extract 0 j ++ a.extract 0 i ++ o.reverse) :=
  (hfin h.swap sb sa hj hi fun x y hx hy => by rw [show x = 0 by omega]; exact hba y (by omega)).swap
end
section
variable {prog : Program} {w : World} {A : Around} {E : Value → Shared → Prop} {s : Shared}
noncomputable abbrev HiT := Option (Array Keyed) × Nat × Nat × Array Keyed × Nat × Nat × Nat
noncomputable def hiC (a b o : Array Keyed) (i j g p q : Nat) : StateT SortSt Sem (ForInStep HiT) := do
  let y ← elem' a (i - 1)
  if (i - 1 == 0) = true then pure (.done (some (a.extract 0 (i - 1) ++ b.extract 0 j ++ (o.push y).reverse), i - 1, j, o.push y, g, p, q))
  else if (decide (p < 7) && decide (q < 7)) = true then pure (.done (none, i - 1, j, o.push y, g, p, q))
  else pure (.yield (none, i - 1, j, o.push y, g, p, q))
noncomputable def hiB (a b o : Array Keyed) (i j g p q : Nat) : StateT SortSt Sem (ForInStep HiT) := do
  let x ← elem' b (j - 1)
  if (j - 1 == 1) = true then pure (.done (some (b.extract 0 (j - 1) ++ a.extract 0 i ++ (o.push x).reverse), i, j - 1, o.push x, g, p, q))
  else do
    let y ← elem' a (i - 1)
    let z ← gal true y b 0 (j - 1) (j - 1 - 1)
    match z with
    | some z =>
      if j - 1 - z > 0 then
        if (z == 1) = true then pure (.done (some (b.extract 0 z ++ a.extract 0 i ++ (o.push x ++ (b.extract z (j - 1)).reverse).reverse), i, z, o.push x ++ (b.extract z (j - 1)).reverse, g, p, j - 1 - z))
        else if (z == 0) = true then pure (.done (some (a.extract 0 i ++ b.extract 0 z ++ (o.push x ++ (b.extract z (j - 1)).reverse).reverse), i, z, o.push x ++ (b.extract z (j - 1)).reverse, g, p, j - 1 - z))
        else hiC a b (o.push x ++ (b.extract z (j - 1)).reverse) i z g p (j - 1 - z)
      else hiC a b (o.push x) i (j - 1) g p (j - 1 - z)
    | _ => pure (.done (some (a.extract 0 i ++ b.extract 0 (j - 1) ++ (o.push x).reverse), i, j - 1, o.push x, g, p, q))
theorem Ac {st : SortSt} {a b o : Array Keyed} {i j g p q X : Nat} {Q : ForInStep HiT → SortSt → Prop} (sa : Seg a 0 a.size) (sb : Seg b 0 b.size)
    (J : Jh a b o i j) (h1 : 1 ≤ i) (h2 : i ≤ a.size) (h3 : 2 ≤ j) (h4 : j ≤ b.size) (h5 : X + i + j ≤ a.size + b.size) (hk : K b (j - 1) ≤ K a (i - 1)) (hd : ∀ r i j o g p q, Rs a b r → Q (.done (some r, i, j, o, g, p, q)) st)
    (hx : ∀ i j o g p q, Jh a b o i j → 1 ≤ i → i ≤ a.size → 2 ≤ j → j ≤ b.size → X + i + j ≤ a.size + b.size → Q (.done (none, i, j, o, g, p, q)) st ∧ Q (.yield (none, i, j, o, g, p, q)) st) :
    wpS (model prog w) A E s (hiC a b o i j g p q) Q st := by
  unfold hiC
  have hi : i - 1 < a.size := by omega
  refine wpS_bind (cD hi ?_)
  have J5 := uF J sa sb h2 h4 (Nat.le_of_succ_le h3) h1 hi hk
  by_cases c5 : i - 1 = 0
  · rw [if_pos (by simpa using c5)]
    exact wpS_pure (hd _ _ _ _ _ _ _ (uc J5 sa sb (Nat.le_of_lt hi) h4 (.inl c5)))
  · rw [if_neg (by simpa using c5)]
    have z := hx (i - 1) j (o.push a[i - 1]) g p q J5 (Nat.pos_of_ne_zero c5) (Nat.le_of_lt hi) h3 h4 (by omega)
    split
    · exact wpS_pure z.1
    · exact wpS_pure z.2
theorem Bd {st : SortSt} {a b o : Array Keyed} {i j g p q X : Nat} {Q : ForInStep HiT → SortSt → Prop} (hkd : kindOf st = oneType') (ka : IntKeys a) (kb : IntKeys b) (sa : Seg a 0 a.size) (sb : Seg b 0 b.size) (hba : ∀ x, x < a.size → K b 0 ≤ K a x)
    (J : Jh a b o i j) (h1 : 1 ≤ i) (h2 : i ≤ a.size) (h3 : 2 ≤ j) (h4 : j ≤ b.size) (h5 : X + i + j ≤ a.size + b.size) (hk : K a (i - 1) ≤ K b (j - 1)) (hd : ∀ r i j o g p q, Rs a b r → Q (.done (some r, i, j, o, g, p, q)) st)
    (hx : ∀ i j o g p q, Jh a b o i j → 1 ≤ i → i ≤ a.size → 2 ≤ j → j ≤ b.size → X + i + j ≤ a.size + b.size → Q (.done (none, i, j, o, g, p, q)) st ∧ Q (.yield (none, i, j, o, g, p, q)) st) :
    wpS (model prog w) A E s (hiB a b o i j g p q) Q st := by
  unfold hiB
  have hi : i - 1 < a.size := by omega
  have hj : j - 1 < b.size := by omega
  refine wpS_bind (cD hj ?_)
  have J3 := Eg J sa sb h2 h4 h1 (Nat.le_of_succ_le h3) hj hk
  by_cases c3 : j - 1 = 1
  · rw [if_pos (by simpa using c3)]
    exact wpS_pure (hd _ _ _ _ _ _ _ (wQ J3 sa sb h2 (Nat.le_of_lt hj) c3 hba))
  · rw [if_neg (by simpa using c3)]
    refine wpS_bind (cD hi ?_)
    refine wpS_bind (lZ hkd (ka _ (by simp)) kb (by omega) (by omega) (sb.sub (Nat.le_refl _) (by omega)) fun z' w1 w2 w3 => ?_)
    dsimp only
    rw [← gn hi] at w2 w3
    simp only [Nat.zero_add] at w2 w3
    have J4' := Mx (z := z') J3 sa sb h2 (Nat.le_of_lt hj) h1 w1 (fun x h1 h2 => ql.mp (w3 x h1 h2))
    split
    · by_cases c6 : z' = 1
      · rw [if_pos (by simpa using c6)]
        exact wpS_pure (hd _ _ _ _ _ _ _ (wQ J4' sa sb h2 (by omega) c6 hba))
      · rw [if_neg (by simpa using c6)]
        by_cases c8 : z' = 0
        · rw [if_pos (by simpa using c8)]
          exact wpS_pure (hd _ _ _ _ _ _ _ (uc J4' sa sb h2 (by omega) (.inr c8)))
        · rw [if_neg (by simpa using c8)]
          exact Ac sa sb J4' h1 h2 (by omega) (by omega) (by omega) (Int.le_of_lt (qN.mp (w2 (z' - 1) (by omega)))) hd hx
    · exact Ac sa sb J3 h1 h2 (by omega) (by omega) (by omega) (Int.le_of_lt (qN.mp (w2 (j - 1 - 1) (by omega)))) hd hx
theorem Kh {st : SortSt} {a b : Array Keyed} {Q : Array Keyed → SortSt → Prop} (hk : kindOf st = oneType') (ka : IntKeys a) (kb : IntKeys b) (sa : Seg a 0 a.size) (sb : Seg b 0 b.size)
    (ha : 1 ≤ a.size) (hb : 1 ≤ b.size) (hba : ∀ x, x < a.size → K b 0 ≤ K a x) (hl : K b (b.size - 1) ≤ K a (a.size - 1)) (h : ∀ r st', Sg st st' → Rs a b r → Q r st') : wpS (model prog w) A E s (mHi a b) Q st := by
  rw [Ox]
  dsimp only
  refine wpS_bind (wpS_lift (wpAny_rule ⟨rfl, ?_⟩))
  refine wpS_bind (cD (by omega) ?_)
  have J0 : Jh a b #[a[a.size - 1]] (a.size - 1) b.size := by
    have z : Jh a b #[] a.size b.size := by
      unfold Jh
      exact ⟨by simp, by simp, fun x hx => by simp at hx, fun x hx => by simp at hx⟩
    have := uF z sa sb (Nat.le_refl _) (Nat.le_refl _) hb ha (by omega) hl
    simpa using this
  have S0 : Sg st st := ⟨rfl, rfl, rfl, rfl⟩
  by_cases c1 : a.size - 1 = 0
  · rw [if_pos (by simpa using c1)]
    exact wpS_pure (h _ _ S0 (uc J0 sa sb (by omega) (by omega) (.inl c1)))
  rw [if_neg (by simpa using c1)]
  by_cases c2 : b.size = 1
  · rw [if_pos (by simpa using c2)]
    exact wpS_pure (h _ _ S0 (wQ J0 sa sb (by omega) (by omega) c2 hba))
  rw [if_neg (by simpa using c2)]
  refine wpS_bind (wpS_get ?_)
  refine wpS_bind (wpS_mono (wpS_forRange (I := fun x c b' => Sg st b' ∧ ∃ i j o g, c = (none, i, j, o, g) ∧ Jh a b o i j ∧ 1 ≤ i ∧ i ≤ a.size ∧ 2 ≤ j ∧ j ≤ b.size ∧ x + 1 + i + j ≤ a.size + b.size)
    (Q := fun c b' => Sg st b' ∧ ∃ r i j o g, c = (some r, i, j, o, g) ∧ Rs a b r) ?step ?fin ⟨S0, _, _, _, _, rfl, J0, by omega, by omega, by omega, by omega, by omega⟩) ?post)
  case post =>
    rintro c b' ⟨S1, r, i, j, o, g, rfl, hr⟩
    exact wpS_pure (h _ _ S1 hr)
  case fin =>
    rintro c b' ⟨S1, i, j, o, g, rfl, J, q1, q2, q3, q4, q5⟩
    omega
  case step =>
    rintro x c b' _ hx ⟨S1, i, j, o, g, rfl, J, q1, q2, q3, q4, q5⟩
    dsimp only
    refine wpS_bind (wpS_mono (wpS_forRange (I := fun y c b' => Sg st b' ∧ ∃ i j o p q, c = (none, i, j, o, p, q) ∧ Jh a b o i j ∧ 1 ≤ i ∧ i ≤ a.size ∧ 2 ≤ j ∧ j ≤ b.size ∧ x + 1 + y + i + j ≤ a.size + b.size)
      (Q := fun c b' => Sg st b' ∧ ((∃ i j o p q, c = (none, i, j, o, p, q) ∧ Jh a b o i j ∧ 1 ≤ i ∧ i ≤ a.size ∧ 2 ≤ j ∧ j ≤ b.size ∧ x + 2 + i + j ≤ a.size + b.size) ∨ ∃ r i j o p q, c = (some r, i, j, o, p, q) ∧ Rs a b r)) ?step1 ?fin1 ⟨S1, _, _, _, _, _, rfl, J, by omega, by omega, by omega, by omega, by omega⟩) ?post1)
    case fin1 =>
      rintro c b' ⟨S2, i, j, o, p, q, rfl, J, q1, q2, q3, q4, q5⟩
      exact ⟨S2, .inl ⟨_, _, _, _, _, rfl, J, q1, q2, q3, q4, by omega⟩⟩
    case step1 =>
      rintro y c b' _ hy ⟨S2, i, j, o, p, q, rfl, J, q1, q2, q3, q4, q5⟩
      dsimp only
      refine wpS_bind (cD (by omega) ?_)
      refine wpS_bind (cD (by omega) ?_)
      refine wpS_bind (qO (S2.1.trans hk) (kb _ (by simp)) (ka _ (by simp)) ?_)
      rw [← gn (by omega), ← gn (by omega)]
      dsimp only
      by_cases c3 : K b (j - 1) < K a (i - 1)
      · rw [if_pos (by simpa using c3)]
        refine wpS_bind (cD (by omega) ?_)
        have J2 := uF J sa sb q2 q4 (by omega) q1 (by omega) (Int.le_of_lt c3)
        by_cases c4 : i - 1 = 0
        · rw [if_pos (by simpa using c4)]
          exact wpS_pure ⟨S2, .inr ⟨_, _, _, _, _, _, rfl, uc J2 sa sb (by omega) (by omega) (.inl c4)⟩⟩
        · rw [if_neg (by simpa using c4)]
          split
          · exact wpS_pure ⟨S2, .inl ⟨_, _, _, _, _, rfl, J2, by omega, by omega, by omega, by omega, by omega⟩⟩
          · exact wpS_pure ⟨S2, _, _, _, _, _, rfl, J2, by omega, by omega, by omega, by omega, by omega⟩
      · rw [if_neg (by simpa using c3)]
        refine wpS_bind (cD (by omega) ?_)
        have J2 := Eg J sa sb q2 q4 q1 (by omega) (by omega) (Int.not_lt.mp c3)
        by_cases c4 : j - 1 = 1
        · rw [if_pos (by simpa using c4)]
          exact wpS_pure ⟨S2, .inr ⟨_, _, _, _, _, _, rfl, wQ J2 sa sb (by omega) (by omega) c4 hba⟩⟩
        · rw [if_neg (by simpa using c4)]
          split
          · exact wpS_pure ⟨S2, .inl ⟨_, _, _, _, _, rfl, J2, by omega, by omega, by omega, by omega, by omega⟩⟩
          · exact wpS_pure ⟨S2, _, _, _, _, _, rfl, J2, by omega, by omega, by omega, by omega, by omega⟩
    case post1 =>
      rintro c b' ⟨S2, ⟨i, j, o, p, q, rfl, J, q1, q2, q3, q4, q5⟩ | ⟨r, i, j, o, p, q, rfl, hr⟩⟩
      rotate_left
      · exact wpS_pure ⟨S2, _, _, _, _, _, rfl, hr⟩
      dsimp only
      refine wpS_bind (wpS_lift (wpAny_rule ⟨rfl, ?_⟩))
      refine wpS_bind (wpS_mono (wpS_forRange (I := fun y c b' => Sg st b' ∧ ∃ i j o g p q, c = (none, i, j, o, g, p, q) ∧ Jh a b o i j ∧ 1 ≤ i ∧ i ≤ a.size ∧ 2 ≤ j ∧ j ≤ b.size ∧ x + 2 + i + j ≤ a.size + b.size)
        (Q := fun c b' => Sg st b' ∧ ((∃ i j o g p q, c = (none, i, j, o, g, p, q) ∧ Jh a b o i j ∧ 1 ≤ i ∧ i ≤ a.size ∧ 2 ≤ j ∧ j ≤ b.size ∧ x + 2 + i + j ≤ a.size + b.size) ∨ ∃ r i j o g p q, c = (some r, i, j, o, g, p, q) ∧ Rs a b r)) ?step2 ?fin2 ⟨S2, _, _, _, _, _, _, rfl, J, by omega, by omega, by omega, by omega, by omega⟩) ?post2)
      case fin2 =>
        rintro c b' ⟨S2, i, j, o, g, p, q, rfl, J, q1, q2, q3, q4, q5⟩
        exact ⟨S2, .inl ⟨_, _, _, _, _, _, rfl, J, q1, q2, q3, q4, q5⟩⟩
      case post2 =>
        rintro c b' ⟨S2, ⟨i, j, o, g, p, q, rfl, J, q1, q2, q3, q4, q5⟩ | ⟨r, i, j, o, g, p, q, rfl, hr⟩⟩
        · exact wpS_bind (pJ (wpS_pure ⟨S2, _, _, _, _, rfl, J, by omega, by omega, by omega, by omega, by omega⟩))
        · exact wpS_pure ⟨S2, _, _, _, _, _, rfl, hr⟩
      case step2 =>
        rintro y c b' _ hy ⟨S2', i, j, o, g, p, q, rfl, J, q1, q2, q3, q4, q5⟩
        dsimp only
        generalize hg1 : g - 1 = g1
        apply Jz
        intro g'
        refine wpS_bind (pJ ?_)
        have S2 : Sg st (SortSt.mk' (kindOf b') (arrOf b') (pendingOf b') g' (failedOf b')) := S2'
        refine wpS_bind (cD (by omega) ?_)
        refine wpS_bind (lZ (S2.1.trans hk) (kb _ (by simp)) ka (by omega) (by omega) (sa.sub (by omega) (by omega)) fun z v1 v2 v3 => ?_)
        dsimp only
        rw [← gn (by omega)] at v2 v3
        simp only [Nat.zero_add] at v2 v3
        have J2' := yu (z := z) J sa sb q2 q4 (by omega) v1 (fun x h1 h2 => Int.le_of_lt (um.mp (v3 x h1 h2)))
        by_cases c1 : i - z > 0
        · rw [if_pos c1]
          by_cases c2 : z = 0
          · rw [if_pos (by simpa using c2)]
            exact wpS_pure ⟨S2, .inr ⟨_, _, _, _, _, _, _, rfl, uc J2' sa sb (by omega) q4 (.inl c2)⟩⟩
          · rw [if_neg (by simpa using c2)]
            exact uq (m := hiB a b (o ++ (a.extract z i).reverse) z j g' (i - z) q) (by kernel_rfl) (Bd (X := x + 2) (S2.1.trans hk) ka kb sa sb hba J2' (by omega) (by omega) q3 q4 (by omega) (ud.mp (v2 (z - 1) (by omega))) (fun r _ _ _ _ _ _ hr => ⟨S2, .inr ⟨_, _, _, _, _, _, _, rfl, hr⟩⟩) fun i j o g p q z1 z2 z3 z4 z5 z6 => ⟨⟨S2, .inl ⟨_, _, _, _, _, _, rfl, z1, z2, z3, z4, z5, z6⟩⟩, S2, _, _, _, _, _, _, rfl, z1, z2, z3, z4, z5, z6⟩)
        · rw [if_neg c1]
          exact uq (m := hiB a b o i j g' (i - z) q) (by kernel_rfl) (Bd (X := x + 2) (S2.1.trans hk) ka kb sa sb hba J q1 q2 q3 q4 q5 (ud.mp (v2 (i - 1) (by omega))) (fun r _ _ _ _ _ _ hr => ⟨S2, .inr ⟨_, _, _, _, _, _, _, rfl, hr⟩⟩) fun i j o g p q z1 z2 z3 z4 z5 z6 => ⟨⟨S2, .inl ⟨_, _, _, _, _, _, rfl, z1, z2, z3, z4, z5, z6⟩⟩, S2, _, _, _, _, _, _, rfl, z1, z2, z3, z4, z5, z6⟩)
end
end L2
namespace L2
open PySem PyProof.Rows
theorem O4 (i : Nat) : mergeAt' i = (do
  let z ← get
  let (some (u, m, pw), some (v, n, _)) := ((pendingOf z)[i]?, (pendingOf z)[i + 1]?) | unsupported "internal:list.sort.pending"
  set (setPending z (((pendingOf z).setIfInBounds i (u, m + n, pw)).eraseIdxIfInBounds (i + 1)))
  let some k ← gal false (← elem' (arrOf z) v) (arrOf z) u m 0 | return false
  let (u, m) := (u + k, m - k)
  if m == 0 then return true
  let some n ← gal true (← elem' (arrOf z) (u + m - 1)) (arrOf z) v n (n - 1) | return false
  if n == 0 then return true
  let x := (arrOf z).extract u v
  let y := (arrOf z).extract v (v + n)
  let r ← if m ≤ n then mLo x y else mHi x y
  modify fun z => setArr z (r.toList.zipIdx.foldl (fun a (p, j) => a.setIfInBounds (u + j) p) (arrOf z))
  return (failedOf (← get)).isNone) := rfl
section
variable {prog : Program} {w : World} {A : Around} {E : Value → Shared → Prop} {s : Shared}
theorem Lb {st st' : SortSt} {Q : PUnit → SortSt → Prop} (h : Q ⟨⟩ st') : wpS (model prog w) A E s (set st' : StateT SortSt Sem PUnit) Q st := by
  unfold wpS; rw [StateT.run_set]; exact wpAny_pure ⟨rfl, h⟩
end
theorem xx {u : Nat} : ∀ (l : List Keyed) (n : Nat) (a : Array Keyed), u + n + l.length ≤ a.size →
    ((l.zipIdx n).foldl (fun a (x : Keyed × Nat) => a.setIfInBounds (u + x.2) x.1) a).toList = a.toList.take (u + n) ++ l ++ a.toList.drop (u + n + l.length)
  | [], n, a, h => by simp
  | p :: l, n, a, h => by
    rw [List.zipIdx_cons, List.foldl_cons]
    have hl : (p :: l).length = l.length + 1 := rfl
    rw [hl] at h ⊢
    rw [xx l (n + 1) _ (by rw [Array.size_setIfInBounds]; omega), Array.toList_setIfInBounds]
    have hlen : u + n < a.toList.length := by simp; omega
    have e1 : (a.toList.set (u + n) p).take (u + (n + 1)) = a.toList.take (u + n) ++ [p] := by
      rw [show u + (n + 1) = u + n + 1 by omega, List.take_add_one, List.take_set_of_le (Nat.le_refl _)]
      simp [List.getElem?_set, hlen]
      omega
    have e2 : (a.toList.set (u + n) p).drop (u + (n + 1) + l.length) = a.toList.drop (u + n + (l.length + 1)) := by
      rw [List.drop_set_of_lt (by omega), show u + (n + 1) + l.length = u + n + (l.length + 1) by omega]
    rw [e1, e2]
    simp
theorem tR {a : Array Keyed} {i : Nat} : K a i = (match a.toList[i]? with | some p => numOf p.1 | none => 0) := by unfold K; rw [Array.getElem?_toList]; cases a[i]? <;> rfl
theorem jk {a : Array Keyed} {u v x : Nat} (hx : u + x < v) (hv : v ≤ a.size) : K (a.extract u v) x = K a (u + x) := by
  rw [gn (by simp; omega), gn (by omega)]
  simp
theorem o6 {a : Array Keyed} {u v : Nat} (k : IntKeys a) : IntKeys (a.extract u v) := fun p hp => k p (by
  rw [Array.toList_extract, List.extract_eq_drop_take] at hp
  exact List.mem_of_mem_drop (List.mem_of_mem_take hp))
theorem Gr {a r a' : Array Keyed} {u v e : Nat} (huv : u ≤ v) (hve : v ≤ e) (he : e ≤ a.size) (hr : Rs (a.extract u v) (a.extract v e) r)
    (ha' : a'.toList = a.toList.take u ++ r.toList ++ a.toList.drop e) :
    a'.Perm a ∧ (∀ t, t < u ∨ e ≤ t → K a' t = K a t) ∧ Seg a' u e ∧ (∀ t, u ≤ t → t < e → ∃ t', u ≤ t' ∧ t' < e ∧ K a' t = K a t') := by
  have hlr : r.toList.length = e - u := by rw [hr.1.length_eq]; simp; omega
  have exl : (a.extract u v).toList ++ (a.extract v e).toList = (a.toList.drop u).take (e - u) := by
    rw [Array.toList_extract, Array.toList_extract, List.extract_eq_drop_take, List.extract_eq_drop_take]
    rw [show e - u = (v - u) + (e - v) by omega, List.take_add, List.drop_drop, show u + (v - u) = v by omega]
  have hp : r.toList.Perm ((a.toList.drop u).take (e - u)) := by rw [← exl]; exact hr.1
  have hlt : (a.toList.take u).length = u := by simp; omega
  have ea : a.toList = a.toList.take u ++ (a.toList.drop u).take (e - u) ++ a.toList.drop e := by
    have := List.take_append_drop (e - u) (a.toList.drop u)
    rw [List.drop_drop, show u + (e - u) = e by omega] at this
    rw [List.append_assoc, this, List.take_append_drop]
  have Kout : ∀ t, t < u ∨ e ≤ t → K a' t = K a t := by
    intro t ht
    rw [tR, tR, ha']
    congr 1
    rcases ht with ht | ht
    · rw [List.append_assoc, List.getElem?_append_left (by omega), List.getElem?_take_of_lt ht]
    · rw [List.getElem?_append_right (by rw [List.length_append]; omega), List.getElem?_drop]
      congr 1
      rw [List.length_append]; omega
  have Kin : ∀ t, u ≤ t → t < e → K a' t = K r (t - u) := by
    intro t h1 h2
    rw [tR, tR, ha']
    congr 1
    rw [List.append_assoc, List.getElem?_append_right (by omega), hlt, List.getElem?_append_left (by omega)]
  have sr := Om hr.2
  have hrs : r.size = e - u := by rw [← hlr]; simp
  refine ⟨Array.perm_iff_toList_perm.mpr ?_, Kout, fun i j hi hij hj => ?_, fun t h1 h2 => ?_⟩
  · rw [ha']
    conv => rhs; rw [ea]
    exact (hp.append_left _).append_right _
  · rw [Kin i hi (by omega), Kin j (by omega) hj]
    exact sr _ _ (Nat.zero_le _) (by omega) (by omega)
  · rw [Kin t h1 h2]
    have hm : r[t - u]'(by omega) ∈ (a.toList.drop u).take (e - u) := hp.mem_iff.mp (by simp)
    obtain ⟨x, x1, x2, x3, x4⟩ := ni hm
    exact ⟨x, x1, by omega, by rw [gn (by omega), x4]⟩
theorem Jr {a a' : Array Keyed} {u y v e f : Nat} (huy : y ≤ v) (hz : e ≤ f) (low : ∀ t, u ≤ t → t < y → K a t ≤ K a v) (top : ∀ t, y ≤ t → t < v + e → K a v ≤ K a t ∧ K a t ≤ K a (v - 1)) (high : ∀ t, v + e ≤ t → t < v + f → K a (v - 1) ≤ K a t)
    (hvm : K a v ≤ K a (v - 1)) (s1 : Seg a u v) (s2 : Seg a v (v + f)) (p2 : ∀ t, t < y ∨ v + e ≤ t → K a' t = K a t) (p3 : Seg a' y (v + e)) (p4 : ∀ t, y ≤ t → t < v + e → ∃ t', y ≤ t' ∧ t' < v + e ∧ K a' t = K a t') : Seg a' u (v + f) := by
  intro i j hi hij hj
  by_cases i1 : i < y
  · rw [p2 i (.inl i1)]
    by_cases j1 : j < y
    · rw [p2 j (.inl j1)]; exact s1 i j hi hij (Nat.lt_of_lt_of_le j1 huy)
    · by_cases j2 : j < v + e
      · obtain ⟨t, t1, t2, t3⟩ := p4 j (Nat.not_lt.mp j1) j2
        rw [t3]
        exact Int.le_trans (low i hi i1) (top t t1 t2).1
      · rw [p2 j (.inr (Nat.not_lt.mp j2))]
        exact Int.le_trans (low i hi i1) (Int.le_trans hvm (high j (Nat.not_lt.mp j2) hj))
  · have i1 := Nat.not_lt.mp i1
    by_cases j2 : j < v + e
    · exact p3 i j i1 hij j2
    · have j2 := Nat.not_lt.mp j2
      rw [p2 j (.inr j2)]
      by_cases i2 : i < v + e
      · obtain ⟨t, t1, t2, t3⟩ := p4 i i1 i2
        rw [t3]
        exact Int.le_trans (top t t1 t2).2 (high j j2 hj)
      · rw [p2 i (.inr (Nat.not_lt.mp i2))]
        exact s2 i j (Nat.le_trans (Nat.le_add_right _ _) (Nat.not_lt.mp i2)) hij hj
theorem HB {l1 l2 : List (Nat × Nat × Nat)} {x y z : Nat × Nat × Nat} : (((l1 ++ x :: y :: l2).toArray.setIfInBounds l1.length z).eraseIdxIfInBounds (l1.length + 1)) = (l1 ++ z :: l2).toArray := by
  apply Array.toList_inj.mp
  rw [List.setIfInBounds_toArray]
  have : (l1 ++ x :: y :: l2).set l1.length z = l1 ++ z :: y :: l2 := by simp
  rw [this]
  rw [Array.eraseIdxIfInBounds, dif_pos (by simp)]
  simp [List.eraseIdx_append_of_length_le]
section
variable {prog : Program} {w : World} {A : Around} {E : Value → Shared → Prop} {s : Shared}
theorem Lx {st : SortSt} {l1 l2 : List (Nat × Nat × Nat)} {u m pw v n q : Nat} {Q : Bool → SortSt → Prop} (k : Sk st) (hp : pendingOf st = (l1 ++ (u, m, pw) :: (v, n, q) :: l2).toArray)
    (hv : v = u + m) (hm : 1 ≤ m) (hn : 1 ≤ n) (hs : v + n ≤ (arrOf st).size) (s1 : Seg (arrOf st) u (u + m)) (s2 : Seg (arrOf st) v (v + n))
    (h : ∀ st', Sk st' → pendingOf st' = (l1 ++ (u, m + n, pw) :: l2).toArray → (arrOf st').Perm (arrOf st) → (∀ t, t < u ∨ v + n ≤ t → K (arrOf st') t = K (arrOf st) t) → Seg (arrOf st') u (u + (m + n)) → Q true st') :
    wpS (model prog w) A E s (mergeAt' l1.length) Q st := by
  rw [O4]
  refine wpS_bind (wpS_get ?_)
  have g1 : (pendingOf st)[l1.length]? = some (u, m, pw) := by rw [hp]; simp
  have g2 : (pendingOf st)[l1.length + 1]? = some (v, n, q) := by rw [hp]; simp
  rw [g1, g2]
  dsimp only
  refine wpS_bind (Lb ?_)
  rw [hp, HB]
  generalize hst1 : setPending st (l1 ++ (u, m + n, pw) :: l2).toArray = b
  have b1 : kindOf b = oneType' := by rw [← hst1]; exact k.kind
  have b2 : arrOf b = arrOf st := by rw [← hst1]
  have b3 : failedOf b = none := by rw [← hst1]; exact k.failed
  have b4 : pendingOf b = (l1 ++ (u, m + n, pw) :: l2).toArray := by rw [← hst1]
  have kb : Sk b := ⟨b1, b3, by rw [b2]; exact k.keys⟩
  refine wpS_bind (cD (by omega) ?_)
  refine wpS_bind (lZ b1 (k.keys _ (by simp)) k.keys (by omega) (by omega) s1 fun z w1 w2 w3 => ?_)
  dsimp only
  rw [← gn (by omega)] at w2 w3
  by_cases c1 : m - z = 0
  · rw [if_pos (by simpa using c1)]
    refine wpS_pure (h b kb b4 (by rw [b2]) (fun t _ => by rw [b2]) ?_)
    rw [b2]
    intro i j hi hij hj
    by_cases hjv : j < v
    · exact s1 i j hi hij (by omega)
    · by_cases hiv : i < v
      · have := ud.mp (w2 (i - u) (by omega))
        rw [show u + (i - u) = i by omega] at this
        exact Int.le_trans this (s2 v j (by omega) (by omega) (by omega))
      · exact s2 i j (by omega) hij (by omega)
  · rw [if_neg (by simpa using c1)]
    refine wpS_bind (cD (by omega) ?_)
    refine wpS_bind (lZ b1 (k.keys _ (by simp)) k.keys (by omega) (by omega) s2 fun z' x1 x2 x3 => ?_)
    dsimp only
    rw [← gn (by omega), show u + z + (m - z) - 1 = v - 1 by omega] at x2 x3
    by_cases c2 : z' = 0
    · rw [if_pos (by simpa using c2)]
      refine wpS_pure (h b kb b4 (by rw [b2]) (fun t _ => by rw [b2]) ?_)
      rw [b2]
      intro i j hi hij hj
      by_cases hjv : j < v
      · exact s1 i j hi hij (by omega)
      · by_cases hiv : i < v
        · have h0 := ql.mp (x3 0 (by omega) (by omega))
          exact Int.le_trans (s1 i (v - 1) hi (by omega) (by omega)) (Int.le_trans h0 (s2 (v + 0) j (by omega) (by omega) (by omega)))
        · exact s2 i j (by omega) hij (by omega)
    · rw [if_neg (by simpa using c2)]
      have hz : z < m := by omega
      have lowA : K (arrOf st) v < K (arrOf st) (u + z) := um.mp (w3 z (Nat.le_refl _) hz)
      have y1 : ((arrOf st).extract (u + z) v).size = m - z := by simp; omega
      have y2 : ((arrOf st).extract v (v + z')).size = z' := by simp; omega
      have sx : Seg ((arrOf st).extract (u + z) v) 0 ((arrOf st).extract (u + z) v).size := by
        intro i j _ hij hj
        rw [jk (by omega) (by omega), jk (by omega) (by omega)]
        exact s1 _ _ (by omega) (by omega) (by omega)
      have sy : Seg ((arrOf st).extract v (v + z')) 0 ((arrOf st).extract v (v + z')).size := by
        intro i j _ hij hj
        rw [jk (by omega) (by omega), jk (by omega) (by omega)]
        exact s2 _ _ (by omega) (by omega) (by omega)
      have fin : ∀ r st', Sg b st' → Rs ((arrOf st).extract (u + z) v) ((arrOf st).extract v (v + z')) r →
          wpS (model prog w) A E s (do
            modify fun z0 => setArr z0 (r.toList.zipIdx.foldl (fun a (p : Keyed × Nat) => a.setIfInBounds (u + z + p.2) p.1) (arrOf z0))
            let x ← get
            pure (failedOf x).isNone) Q st' := by
        intro r st' S hr
        refine wpS_bind (wpS_modify (wpS_bind (wpS_get ?_)))
        obtain ⟨S1, S2, S3, S4⟩ := S
        have ef : failedOf st' = none := S4.trans b3
        have hr' : r.toList.length = (m - z) + z' := by rw [hr.1.length_eq]; simp; omega
        have fp := xx (u := u + z) r.toList 0 (arrOf st') (by rw [S2, b2, hr']; omega)
        rw [S2, b2, hr', show u + z + 0 = u + z by omega, show u + z + (m - z + z') = v + z' by omega] at fp
        obtain ⟨p1, p2, p3, p4⟩ := Gr (by omega) (by omega) (by omega) hr fp
        rw [S2, b2]
        refine wpS_pure ?_
        show Q (failedOf st').isNone _
        rw [ef]
        refine h _ ⟨S1.trans b1, ef, keys_perm p1 k.keys⟩ (S3.trans b4) p1 (fun t ht => p2 t (by omega)) ?_
        have top : ∀ t, u + z ≤ t → t < v + z' → K (arrOf st) v ≤ K (arrOf st) t ∧ K (arrOf st) t ≤ K (arrOf st) (v - 1) := by
          intro t h1 h2
          by_cases htv : t < v
          · exact ⟨Int.le_trans (Int.le_of_lt lowA) (s1 (u + z) t (by omega) h1 (by omega)), s1 t (v - 1) (by omega) (by omega) (by omega)⟩
          · have := qN.mp (x2 (t - v) (by omega))
            rw [show v + (t - v) = t by omega] at this
            exact ⟨s2 v t (by omega) (by omega) (by omega), Int.le_of_lt this⟩
        have low : ∀ t, u ≤ t → t < u + z → K (arrOf st) t ≤ K (arrOf st) v := by
          intro t h1 h2
          have := ud.mp (w2 (t - u) (by omega))
          rwa [show u + (t - u) = t by omega] at this
        have high : ∀ t, v + z' ≤ t → t < v + n → K (arrOf st) (v - 1) ≤ K (arrOf st) t := by
          intro t h1 h2
          have := ql.mp (x3 (t - v) (by omega) (by omega))
          rwa [show v + (t - v) = t by omega] at this
        have hvm : K (arrOf st) v ≤ K (arrOf st) (v - 1) := Int.le_trans (Int.le_of_lt lowA) (s1 (u + z) (v - 1) (by omega) (by omega) (by omega))
        generalize (List.foldl (fun a (p : Keyed × Nat) => a.setIfInBounds (u + z + p.2) p.1) (arrOf st) r.toList.zipIdx) = a' at p1 p2 p3 p4 ⊢
        rw [show u + (m + n) = v + n by omega]
        exact Jr (show u + z ≤ v by omega) x1 low top high hvm (by rw [hv]; exact s1) s2 p2 p3 p4
      split
      · refine wpS_bind (Km b1 (o6 k.keys) (o6 k.keys) sx sy (by omega) (by omega) ?_ ?_ fin)
        · rw [jk (by omega) (by omega), jk (by omega) (by omega)]
          exact Int.le_of_lt lowA
        · intro x hx
          rw [jk (by omega) (by omega), jk (by omega) (by omega), show u + z + (((arrOf st).extract (u + z) v).size - 1) = v - 1 by omega]
          exact Int.le_of_lt (qN.mp (x2 x (by omega)))
      · refine wpS_bind (Kh b1 (o6 k.keys) (o6 k.keys) sx sy (by omega) (by omega) ?_ ?_ fin)
        · intro x hx
          rw [jk (by omega) (by omega), jk (by omega) (by omega)]
          exact Int.le_trans (Int.le_of_lt lowA) (s1 (u + z) (u + z + x) (by omega) (by omega) (by omega))
        · rw [jk (by omega) (by omega), jk (by omega) (by omega), show u + z + (((arrOf st).extract (u + z) v).size - 1) = v - 1 by omega]
          exact Int.le_of_lt (qN.mp (x2 _ (by omega)))
end
end L2
namespace L2
open PySem PyProof.Rows
noncomputable def Rn (a : Array Keyed) : Nat → List (Nat × Nat × Nat) → Nat → Prop
  | lo, [], hi => lo = hi
  | lo, (u, n, _) :: r, hi => u = lo ∧ 1 ≤ n ∧ Seg a u (u + n) ∧ Rn a (u + n) r hi
theorem Rn.le {a : Array Keyed} : ∀ {p : List (Nat × Nat × Nat)} {lo hi : Nat}, Rn a lo p hi → lo + p.length ≤ hi
  | [], lo, hi, h => by have : lo = hi := h; simp; omega
  | (u, n, q) :: r, lo, hi, ⟨h1, h2, h3, h4⟩ => by have := Rn.le h4; simp; omega
theorem Rn.same {a a' : Array Keyed} : ∀ {p : List (Nat × Nat × Nat)} {lo hi : Nat}, Rn a lo p hi → (∀ t, lo ≤ t → t < hi → K a' t = K a t) → Rn a' lo p hi
  | [], lo, hi, h, _ => h
  | (u, n, q) :: r, lo, hi, ⟨h1, h2, h3, h4⟩, hk => by
    have := Rn.le h4
    refine ⟨h1, h2, fun i j hi hij hj => ?_, Rn.same h4 fun t t1 t2 => hk t (by omega) t2⟩
    rw [hk i (by omega) (by omega), hk j (by omega) (by omega)]
    exact h3 i j hi hij hj
theorem Rn.append {a : Array Keyed} : ∀ {p r : List (Nat × Nat × Nat)} {lo hi : Nat}, Rn a lo (p ++ r) hi ↔ ∃ m, Rn a lo p m ∧ Rn a m r hi
  | [], r, lo, hi => ⟨fun h => ⟨lo, rfl, h⟩, fun hq__ => by obtain ⟨m, h1, h2⟩ := hq__; have : lo = m := h1; subst this; exact h2⟩
  | (u, n, q) :: p, r, lo, hi => by
    constructor
    · rintro ⟨h1, h2, h3, h4⟩
      obtain ⟨m, h5, h6⟩ := Rn.append.mp h4
      exact ⟨m, ⟨h1, h2, h3, h5⟩, h6⟩
    · rintro ⟨m, ⟨h1, h2, h3, h5⟩, h6⟩
      exact ⟨h1, h2, h3, Rn.append.mpr ⟨m, h5, h6⟩⟩
section
variable {prog : Program} {w : World} {A : Around} {E : Value → Shared → Prop} {s : Shared}
theorem Bo {st : SortSt} {p : List (Nat × Nat × Nat)} {i hi : Nat} {Q : Bool → SortSt → Prop} (k : Sk st) (hp : pendingOf st = p.toArray) (hR : Rn (arrOf st) 0 p hi) (hh : hi ≤ (arrOf st).size) (hi1 : i + 1 < p.length)
    (h : ∀ st' p', Sk st' → pendingOf st' = p'.toArray → (arrOf st').Perm (arrOf st) → Rn (arrOf st') 0 p' hi → p'.length + 1 = p.length → (∀ t, hi ≤ t → K (arrOf st') t = K (arrOf st) t) → Q true st') :
    wpS (model prog w) A E s (mergeAt' i) Q st := by
  obtain ⟨l1, x, y, l2, e, el⟩ : ∃ l1 x y l2, p = l1 ++ x :: y :: l2 ∧ l1.length = i := by
    refine ⟨p.take i, p[i], p[i + 1], p.drop (i + 2), ?_, by simp; omega⟩
    rw [List.getElem_cons_drop, List.getElem_cons_drop, List.take_append_drop]
  obtain ⟨u, m, pw⟩ := x
  obtain ⟨v, n, q⟩ := y
  subst e
  subst el
  obtain ⟨c, r1, ⟨h1, h2, h3, h4, h5, h6, r2⟩⟩ := Rn.append.mp hR
  have l2e := r2.le
  have l1e := r1.le
  refine Lx k hp h4 h2 h5 (by omega) h3 h6 fun st' k' hp' pm out sg => h st' _ k' hp' pm ?_ (by simp only [List.length_append, List.length_cons]; omega) fun t ht => out t (by omega)
  refine Rn.append.mpr ⟨c, r1.same fun t _ ht => out t (by omega), h1, by omega, sg, ?_⟩
  rw [show u + (m + n) = v + n by omega]
  exact r2.same fun t ht _ => out t (by omega)
structure Gd (st : SortSt) (lo : Nat) (b : SortSt) : Prop where
  sk : Sk b
  perm : (arrOf b).Perm (arrOf st)
  runs : ∃ p, pendingOf b = p.toArray ∧ Rn (arrOf b) 0 p lo
theorem Rn.modify {a : Array Keyed} {f : Nat × Nat × Nat → Nat × Nat × Nat} (hf : ∀ x, (f x).1 = x.1 ∧ (f x).2.1 = x.2.1) : ∀ {p : List (Nat × Nat × Nat)} {i lo hi : Nat}, Rn a lo p hi → Rn a lo (p.modify i f) hi
  | [], i, lo, hi, h => by cases i <;> exact h
  | (u, n, q) :: r, 0, lo, hi, ⟨h1, h2, h3, h4⟩ => by
    obtain ⟨e1, e2⟩ := hf (u, n, q)
    rw [List.modify_zero_cons]
    generalize f (u, n, q) = y at e1 e2
    obtain ⟨u', n', q'⟩ := y
    dsimp only at e1 e2
    subst e1
    subst e2
    exact ⟨h1, h2, h3, h4⟩
  | (u, n, q) :: r, i + 1, lo, hi, ⟨h1, h2, h3, h4⟩ => by
    rw [List.modify_succ_cons]
    exact ⟨h1, h2, h3, Rn.modify hf h4⟩
theorem Gd.modify {st b : SortSt} {lo i : Nat} {f : Nat × Nat × Nat → Nat × Nat × Nat} (g : Gd st lo b) (hf : ∀ x, (f x).1 = x.1 ∧ (f x).2.1 = x.2.1) : Gd st lo (setPending b ((pendingOf b).modify i f)) := by
  obtain ⟨p, e, r⟩ := g.runs
  refine ⟨⟨g.sk.kind, g.sk.failed, g.sk.keys⟩, g.perm, p.modify i f, ?_, r.modify hf⟩
  show (pendingOf b).modify i f = _
  rw [e]
  apply Array.toList_inj.mp
  simp
theorem Gd.push {st b : SortSt} {lo n : Nat} (g : Gd st lo b) (hs : Seg (arrOf b) lo (lo + n)) (hn : 1 ≤ n) : Gd st (lo + n) (setPending b ((pendingOf b).push (lo, n, 0))) := by
  obtain ⟨p, e, r⟩ := g.runs
  refine ⟨⟨g.sk.kind, g.sk.failed, g.sk.keys⟩, g.perm, p ++ [(lo, n, 0)], ?_, Rn.append.mpr ⟨lo, r, rfl, hn, hs, rfl⟩⟩
  show (pendingOf b).push _ = _
  rw [e]
  simp
set_option hygiene false in
local macro_rules | `(tactic| walk_at "runs_end") => `(tactic| (
  refine wpS_bind (wpS_get ?_)
  cases hbk : (pendingOf b2).back? with
  | none =>
    refine wpS_bind (wpS_modify (wpS_pure ⟨lo + n, rfl, by omega, by omega, g2.push sg2 (by omega)⟩))
  | some t =>
    obtain ⟨s1, n1, q0⟩ := t
    dsimp only
    refine wpS_bind (wpS_mono (wpS_forRange (I := fun y c b3 => c = (none, ()) ∧ Gd st lo b3 ∧ Seg (arrOf b3) lo (lo + n)) (Q := fun c b3 => c = (none, ()) ∧ Gd st lo b3 ∧ Seg (arrOf b3) lo (lo + n)) ?istep (fun _ _ hh => hh) ⟨rfl, g2, sg2⟩) ?ipost)
    case ipost =>
      rintro c b3 ⟨rfl, g3, sg3⟩
      have g4 := g3.modify (i := (pendingOf b3).size - 1) (f := fun x => (x.1, x.2.1, power' (arrOf st).size (2 * s1 + n1) (2 * s1 + n1 + n1 + n) (arrOf st).size)) (fun x => ⟨rfl, rfl⟩)
      exact wpS_bind (wpS_modify (wpS_bind (wpS_modify (wpS_pure ⟨lo + n, rfl, by omega, by omega, g4.push sg3 (by omega)⟩))))
    case istep =>
      rintro y c b3 _ hy ⟨rfl, g3, sg3⟩
      refine wpS_bind (wpS_get ?_)
      obtain ⟨p, ep, rp⟩ := g3.runs
      by_cases hz : (pendingOf b3).size > 1
      · rw [if_pos hz]
        have hz2 : (pendingOf b3).size - 2 < (pendingOf b3).size := by omega
        rw [getElem?_pos (pendingOf b3) _ hz2]
        generalize (pendingOf b3)[(pendingOf b3).size - 2] = t3
        obtain ⟨t1, t2, older⟩ := t3
        dsimp only
        split
        · exact wpS_pure ⟨rfl, g3, sg3⟩
        · have hpl : (pendingOf b3).size = p.length := by rw [ep]; simp
          have sz3 : (arrOf b3).size = (arrOf st).size := g3.perm.size_eq
          refine wpS_bind (Bo g3.sk ep rp (by omega) (by omega) fun b4 p' k4 e4 pm4 r4 _ out => ?_)
          rw [if_neg (by simp)]
          refine wpS_pure ⟨rfl, ⟨k4, pm4.trans g3.perm, p', e4, r4⟩, fun i j hi hij hj => ?_⟩
          rw [out i (by omega), out j (by omega)]
          exact sg3 i j hi hij hj
      · rw [if_neg hz]
        exact wpS_pure ⟨rfl, g3, sg3⟩))
theorem JT {st : SortSt} {Q : Unit → SortSt → Prop} (k : Sk st) (hp : pendingOf st = #[]) (h2 : 2 ≤ (arrOf st).size)
    (h : ∀ st', (arrOf st').Perm (arrOf st) → failedOf st' = none → SortedTo (arrOf st') (arrOf st).size → Q () st') : wpS (model prog w) A E s sortRuns' Q st := by
  rw [sortRuns'_eq]
  refine wpS_bind (wpS_get ?_)
  dsimp only
  generalize hmr : minRun' (arrOf st).size (arrOf st).size 0 = mr
  refine wpS_bind (wpS_mono (wpS_forRange (I := fun x c b => ∃ lo, c = (none, lo) ∧ x ≤ lo ∧ lo ≤ (arrOf st).size ∧ Gd st lo b)
    (Q := fun c b => c = (none, (arrOf st).size) ∧ Gd st (arrOf st).size b) ?step ?fin ⟨0, rfl, by omega, by omega, k, .refl _, [], hp, rfl⟩) ?post)
  case fin =>
    rintro c b ⟨lo, rfl, q1, q2, g⟩
    have : lo = (arrOf st).size := by omega
    subst this
    exact ⟨rfl, g⟩
  case step =>
    rintro x c b _ hx ⟨lo, rfl, q1, q2, g⟩
    dsimp only
    by_cases c1 : lo ≥ (arrOf st).size
    · rw [if_pos c1]
      have : lo = (arrOf st).size := by omega
      subst this
      exact wpS_pure ⟨rfl, g⟩
    · rw [if_neg c1]
      have sz : (arrOf b).size = (arrOf st).size := g.perm.size_eq
      refine wpS_bind (J1 g.sk (by omega) (by omega) fun m b1 mv m1 m2 sg => ?_)
      dsimp only
      have keep : ∀ {b2 : SortSt}, Mv lo (arrOf st).size b b2 → Gd st lo b2 := fun {b2} mv => by
        obtain ⟨p, ep, rp⟩ := g.runs
        exact ⟨mv.sk g.sk, mv.perm.trans g.perm, p, mv.pend.trans ep, rp.same fun t _ ht => mv.out t (by omega)⟩
      have mv' : Mv lo (arrOf st).size b b1 := mv.wide (by omega) (by omega)
      by_cases c2 : m < mr
      · rw [if_pos c2]
        refine wpS_bind (wpS_lift (wpAny_rule ⟨rfl, ?_⟩))
        refine wpS_bind (Mg (mv.sk g.sk) (by rw [mv.size]; omega) (by omega) sg fun b2 mv2 sg2 => ?_)
        rw [if_neg (by simp)]
        have g2 := keep (mv'.trans (mv2.wide (Nat.le_refl _) (by omega)))
        have hn1 : 1 ≤ min ((arrOf st).size - lo) mr := by omega
        have hn2 : lo + min ((arrOf st).size - lo) mr ≤ (arrOf st).size := by omega
        generalize min ((arrOf st).size - lo) mr = n at *
        walk_at "runs_end"
      · rw [if_neg c2]
        have g2 := keep mv'
        generalize b1 = b2 at *
        have sg2 := sg
        have hn1 : 1 ≤ m := by omega
        have hn2 : lo + m ≤ (arrOf st).size := by omega
        generalize m = n at *
        walk_at "runs_end"
  case post =>
    rintro c b ⟨rfl, g⟩
    dsimp only
    have sz : (arrOf b).size = (arrOf st).size := g.perm.size_eq
    refine wpS_bind (wpS_mono (wpS_forRange (I := fun x c b => c = (none, ()) ∧ Sk b ∧ (arrOf b).Perm (arrOf st) ∧ ∃ p, pendingOf b = p.toArray ∧ Rn (arrOf b) 0 p (arrOf st).size ∧ p.length ≤ max 1 ((arrOf st).size - x))
      (Q := fun c b => c = (none, ()) ∧ Sk b ∧ (arrOf b).Perm (arrOf st) ∧ ∃ p, pendingOf b = p.toArray ∧ Rn (arrOf b) 0 p (arrOf st).size ∧ p.length ≤ 1) ?zstep ?zfin ?zinit) ?zpost)
    case zinit =>
      obtain ⟨p, ep, rp⟩ := g.runs
      have := rp.le
      exact ⟨rfl, g.sk, g.perm, p, ep, rp, by omega⟩
    case zfin =>
      rintro c b ⟨hc, k', pm, p, ep, rp, hl⟩
      exact ⟨hc, k', pm, p, ep, rp, by omega⟩
    case zpost =>
      rintro c b ⟨rfl, k', pm, p, ep, rp, hl⟩
      refine wpS_pure (h b pm k'.failed fun i j hij hj => ?_)
      match p, rp, hl with
      | [], rp, _ => have : 0 = (arrOf st).size := rp; omega
      | [(u, n, q)], ⟨h1, h3, h4, h5⟩, _ =>
        have h6 : u + n = (arrOf st).size := h5
        exact h4 i j (by omega) hij (by omega)
    case zstep =>
      rintro x c b _ hx ⟨rfl, k', pm, p, ep, rp, hl⟩
      refine wpS_bind (wpS_get ?_)
      have hpl : (pendingOf b).size = p.length := by rw [ep]; simp
      by_cases c3 : (pendingOf b).size ≤ 1
      · rw [if_pos c3]
        exact wpS_pure ⟨rfl, k', pm, p, ep, rp, by omega⟩
      · rw [if_neg c3]
        refine wpS_bind (Bo k' ep rp (by rw [pm.size_eq]; exact Nat.le_refl _) ?hidx fun b4 p' k4 e4 pm4 r4 hl4 out => ?hmain)
        case hmain =>
          rw [if_neg (by simp)]
          exact wpS_pure ⟨rfl, k4, pm4.trans pm, p', e4, r4, by omega⟩
        case hidx =>
          repeat' split
          all_goals omega
end
end L2
namespace L2
open PySem PyProof.Rows
section
variable {prog : Program} {w : World} {A : Around} {E : Value → Shared → Prop} {s : Shared}
theorem vN {a : Addr} {vs : List Value} {ns : List Int} {n : Nat} {P : Fin → Shared → Prop} (ho : s.heap.get? a = some (seqObj "list" vs.toArray n))
    (hI : IntsAre vs ns) (hz : vs.length ≤ sizeLine)
    (h : ∀ (out : Array Value) (ns' : List Int), IntsAre out.toList ns' → ns'.Perm ns → ns'.Pairwise (· ≤ ·) → P (.done (.ret .none)) { s with heap := sortedHeap s.heap a vs out }) :
    wpAny (model prog w) A (Builtin.«list.sort» ⟨[.ref a], []⟩) P E s := by
  by_cases h2 : vs.length < 2
  · exact list_sort_tree ho hI (by omega) h
  rw [list_sort_plain]
  have ha := Heap.lt_size ho
  refine wpAny_bind (listItems_at ho rfl ?_)
  refine wpAny_bind (listUpdate_at ho rfl ?_ (by simpa using hz) (by simp))
  obtain ⟨e1, g1⟩ : ∃ e1, (s.heap.update a (Obj.mapSeq fun _ => #[])).get? a = some (seqObj "list" #[] e1) := ⟨_, get?_update_seq ho (fun _ => #[])⟩
  refine wpAny_bind (seqEpoch_at g1 rfl (wpAny_bind (wpAny_newTuple (wpAny_bind (wpAny_newList (wpAny_holding ?_))))))
  have g2 : (((s.heap.update a (Obj.mapSeq fun _ => #[])).push (seqObj "tuple" vs.toArray 0)).push (seqObj "list" #[] 0)).get? a = some (seqObj "list" #[] e1) :=
    Heap.get?_push_of_some _ (Heap.get?_push_of_some _ g1)
  show wpAny (model prog w) A _ P E { s with heap := ((s.heap.update a (Obj.mapSeq fun _ => #[])).push (seqObj "tuple" vs.toArray 0)).push (seqObj "list" #[] 0) }
  dsimp only
  have hs : ¬ vs.toArray.size < 2 := by simpa using h2
  rw [if_neg hs, if_neg hs]
  have hkk : keyKind' vs.toArray = pure oneType' := by
    match vs, h2, hI with
    | [], h2, _ => simp at h2
    | [_], h2, _ => simp at h2
    | v₁ :: v₂ :: rest, _, hI => exact keyKind_ints hI
  rw [hkk]
  refine wpAny_bind (wpAny_pure ?_)
  have all := JT (prog := prog) (w := w) (A := A) (E := E) (s := { s with heap := ((s.heap.update a (Obj.mapSeq fun _ => #[])).push (seqObj "tuple" vs.toArray 0)).push (seqObj "list" #[] 0) })
    (st := SortSt.mk' oneType' (vs.toArray.zip vs.toArray) #[] 7 none)
    (Q := fun _ st' => (arrOf st').Perm (pairsOf vs) ∧ failedOf st' = none ∧ SortedTo (arrOf st') (pairsOf vs).size)
    ⟨rfl, rfl, hI.intKeys⟩ rfl (by show 2 ≤ (pairsOf vs).size; rw [pairsOf_size]; omega) (fun st' q1 q2 q3 => ⟨q1, q2, q3⟩)
  refine wpAny_bind (wpAny_mono all ?_ fun _ _ e => e)
  rintro ⟨⟨⟩, st'⟩ s' ⟨rfl, hp, hf, hsr⟩
  dsimp only
  refine wpAny_bind (seqEpoch_at g2 rfl (wpAny_bind (listUpdate_at g2 rfl ?_ (by simp) (by rw [Array.size_map, hp.size_eq, pairsOf_size]; omega))))
  rw [hf]
  simp only [bne_self_eq_false, Bool.false_eq_true, if_false]
  obtain ⟨ns', r1, r2, r3⟩ := sorted_out hI hp hsr
  exact wpAny_pure (h _ ns' r1 r2 r3)
end
end L2
namespace L3
open PySem PySem.Spec PyProof.Rows L2
noncomputable def insI (x : Int) : List Int → List Int
  | [] => [x]
  | y :: ys => if x ≤ y then x :: y :: ys else y :: insI x ys
noncomputable def srt : List Int → List Int
  | [] => []
  | x :: xs => insI x (srt xs)
theorem insI_perm (x : Int) : ∀ ys : List Int, (insI x ys).Perm (x :: ys)
  | [] => .refl _
  | y :: ys => by
    unfold insI
    by_cases h : x ≤ y
    · rw [if_pos h]
    · rw [if_neg h]
      exact ((insI_perm x ys).cons y).trans (.swap ..)
theorem eZ : ∀ xs : List Int, (srt xs).Perm xs
  | [] => .refl _
  | x :: xs => (insI_perm x (srt xs)).trans ((eZ xs).cons x)
theorem q8 (x : Int) : ∀ {ys : List Int}, ys.Pairwise (· ≤ ·) → (insI x ys).Pairwise (· ≤ ·)
  | [], _ => List.pairwise_singleton _ _
  | y :: ys, h => by
    unfold insI
    have hy := (List.pairwise_cons.mp h)
    by_cases hxy : x ≤ y
    · rw [if_pos hxy]
      refine List.pairwise_cons.mpr ⟨fun z hz => ?_, h⟩
      rcases List.mem_cons.mp hz with rfl | hz
      · exact hxy
      · exact Int.le_trans hxy (hy.1 z hz)
    · rw [if_neg hxy]
      refine List.pairwise_cons.mpr ⟨fun z hz => ?_, q8 x hy.2⟩
      rcases List.mem_cons.mp ((insI_perm x ys).mem_iff.mp hz) with rfl | hz
      · omega
      · exact hy.1 z hz
theorem gD : ∀ xs : List Int, (srt xs).Pairwise (· ≤ ·)
  | [] => .nil
  | x :: xs => q8 x (gD xs)
theorem jd : ∀ {xs ys : List Int}, xs.Perm ys → xs.Pairwise (· ≤ ·) → ys.Pairwise (· ≤ ·) → xs = ys
  | [], ys, p, _, _ => (List.nil_perm.mp p).symm ▸ rfl
  | x :: xs, [], p, _, _ => absurd p.length_eq (by simp)
  | x :: xs, y :: ys, p, hx, hy => by
    have hx' := List.pairwise_cons.mp hx
    have hy' := List.pairwise_cons.mp hy
    have h1 : y ≤ x := by
      rcases List.mem_cons.mp (p.mem_iff.mp List.mem_cons_self) with e | e
      · omega
      · exact hy'.1 x e
    have h2 : x ≤ y := by
      rcases List.mem_cons.mp (p.mem_iff.mpr List.mem_cons_self) with e | e
      · omega
      · exact hx'.1 y e
    have e : x = y := by omega
    subst e
    rw [jd (p.cons_inv) hx'.2 hy'.2]
theorem mJ : ∀ {us : List Value} {ns : List Int}, IntsAre us ns → Vals (ns.map V.int) us
  | _, _, .nil => .nil
  | _, _, .cons n t h => .cons ⟨t, rfl⟩ (mJ h)
section
variable {X : Cx}
theorem aB.Ci {K : PySem.W.Frag} {A : Hp} : ∀ {ns : List Int} {vs : List V}, aB K A (ns.map PyData.int) vs → vs = ns.map V.int
  | [], vs, h => aB.nil.mp h
  | n :: ns, vs, h => by
    obtain ⟨v, r, rfl, h1, h2⟩ := aB.cons.mp h
    rw [Rp.int.mp h1, aB.Ci h2]; rfl
end
open Classical in
noncomputable def eqR (h : Heap) (x : PyData) (y : Value) : Bool := if q : ∃ d as, Reads h y d as ∧ d.canLay0 = true then PyData.eqv (Classical.choose q) x else false
theorem Ec {h : Heap} {x d : PyData} {y : Value} {as : List Addr} (r : Reads h y d as) (hd : d.canLay0 = true) : eqR h x y = PyData.eqv d x := by
  unfold eqR
  have q : ∃ d as, Reads h y d as ∧ d.canLay0 = true := ⟨d, as, r, hd⟩
  rw [dif_pos q]
  obtain ⟨as', r', c'⟩ := Classical.choose_spec q
  rw [(PySem.Reads.unique r' d as r).1]
theorem anyR {h : Heap} {x : PyData} : ∀ {us : List Value} {ds : List PyData} {as : List Addr}, ReadsAll h us ds as → PyData.canLayAll0 ds = true → us.any (eqR h x) = ds.any fun d => PyData.eqv d x
  | _, _, _, .nil, _ => rfl
  | _, _, _, .cons r rs, c => by
    rw [PyData.canLayAll0, Bool.and_eq_true] at c
    rw [List.any_cons, List.any_cons, Ec r c.1, anyR rs c.2]
theorem M6 {h : Heap} : ∀ {us : List Value} {ds : List PyData} {as : List Addr} {u : Value}, ReadsAll h us ds as → u ∈ us → ∃ d as, d ∈ ds ∧ Reads h u d as
  | _, _, _, u, .nil, m => nomatch m
  | _, _, _, u, .cons (d := d) r rs, m => by
    rcases List.mem_cons.mp m with rfl | m
    · exact ⟨_, _, List.mem_cons_self, r⟩
    · obtain ⟨d', as, h1, h2⟩ := M6 rs m
      exact ⟨d', as, List.mem_cons_of_mem _ h1, h2⟩
noncomputable def inB (a : PyData) (ds : List PyData) : Bool := ds.any fun y => PyData.eqv y a
noncomputable def inX : PyData → PyData → Res PyData
  | a, .list ds => gd (SeqAt.shaped a = true ∧ ds.all SeqAt.shaped = true) (.ok (.bool (inB a ds)))
  | a, .tuple ds => gd (SeqAt.shaped a = true ∧ ds.all SeqAt.shaped = true) (.ok (.bool (inB a ds)))
  | _, _ => .bad
noncomputable def FJ : PyData → PyData → Res PyData
  | a, .list ds => gd (SeqAt.shaped a = true ∧ ds.all SeqAt.shaped = true) (.ok (.bool (!inB a ds)))
  | a, .tuple ds => gd (SeqAt.shaped a = true ∧ ds.all SeqAt.shaped = true) (.ok (.bool (!inB a ds)))
  | _, _ => .bad
theorem uU : ∀ {ds : List PyData}, ds.all SeqAt.shaped = true → PyData.canLayAll0 ds = true
  | [], _ => by rw [PyData.canLayAll0]
  | d :: ds, h => by
    rw [List.all_cons, Bool.and_eq_true] at h
    rw [PyData.canLayAll0, SeqAt.canLay_of_shaped h.1, uU h.2]; rfl
theorem xj {d : PyData} (h : SeqAt.shaped d = true) : d.depth ≤ 64 := by
  unfold SeqAt.shaped at h
  rw [Bool.and_eq_true] at h
  exact of_decide_eq_true h.2
section
variable {X : Cx}
theorem tL {pins : List (Addr × Obj)} {s : Shared} {σ : L2.St} {H A : Hp} {d1 : PyData} {ds : List PyData} {x : V} {v : Value} {vs : List V} {its : List Value} (hu : X.A.units + 66 < cLine) (I : Inv X pins σ H s) (rx : RelV x v) (ha : aH A H)
    (p1 : Pk X.K A H d1 x) (f1 : SeqAt.shaped d1 = true) (f2 : ds.all SeqAt.shaped = true) (q2 : aB X.K A ds vs) (r : Vals vs its) :
    (∀ y, y ∈ its.toArray → SeqAt.EqAt X.A.in1 s y v (eqR s.heap d1 y)) ∧ its.toArray.any (eqR s.heap d1) = inB d1 ds := by
  obtain ⟨as, r1⟩ := Is.reads I d1 (p1.is ha f1) rx
  obtain ⟨bs, r2⟩ := cQ.reads I ds (cQ.mono ha ds (aB.is ds (uU f2) q2)) r
  refine ⟨fun y hy => ?_, by rw [List.any_toArray, anyR r2 (uU f2)]; rfl⟩
  obtain ⟨d, cs, hd, ry⟩ := M6 r2 (by simpa using hy)
  have hs : SeqAt.shaped d = true := List.all_eq_true.mp f2 d hd
  rw [Ec ry (SeqAt.canLay_of_shaped hs)]
  refine SeqAt.eqAt_reads d d1 X.A.in1 s y v cs as ry r1 (SeqAt.canLay_of_shaped hs) (SeqAt.canLay_of_shaped f1) ?_
  have := xj hs
  have e : X.A.in1.units = X.A.units + 1 := rfl
  have := Nat.min_le_left d.depth d1.depth
  omega
theorem Em (hu : X.A.units + 66 < cLine) : OpR X (compareOp .In) (rD X.K inX) := by
  intro pins s σ H x y v u Q I rx ry hq
  obtain ⟨A, d1, d2, d, e, ha, p1, p2, k⟩ := hq
  cases d2 with
  | list ds =>
    obtain ⟨⟨f1, f2⟩, e⟩ := bL e
    have e' := Res.ok.inj e
    subst e'
    obtain ⟨l, vs, rfl, h1, q2⟩ := p2.list ha
    cases ry
    obtain ⟨its, r, pl, hz⟩ := I.list h1
    obtain ⟨w1, w2⟩ := tL hu I rx ha p1 f1 f2 q2 r
    refine SeqAt.in_listAt (eqR s.heap d1) pl.isList w1 ?_
    rw [w2]
    exact ⟨.bl _, H, I, rfl, k _ A H (aQ.refl ha) (Rp.bool.mpr rfl)⟩
  | tuple ds =>
    obtain ⟨⟨f1, f2⟩, e⟩ := bL e
    have e' := Res.ok.inj e
    subst e'
    obtain ⟨l, vs, rfl, h1, q2⟩ := p2.tuple ha
    cases ry
    obtain ⟨its, r, pl, hz⟩ := I.tuple h1
    obtain ⟨w1, w2⟩ := tL hu I rx ha p1 f1 f2 q2 r
    refine SeqAt.in_tupleAt (eqR s.heap d1) (show s.heap.IsTuple l its.toArray from pl) w1 ?_
    rw [w2]
    exact ⟨.bl _, H, I, rfl, k _ A H (aQ.refl ha) (Rp.bool.mpr rfl)⟩
  | _ => cases e
theorem vM (hu : X.A.units + 66 < cLine) : OpR X (compareOp .NotIn) (rD X.K FJ) := by
  intro pins s σ H x y v u Q I rx ry hq
  obtain ⟨A, d1, d2, d, e, ha, p1, p2, k⟩ := hq
  cases d2 with
  | list ds =>
    obtain ⟨⟨f1, f2⟩, e⟩ := bL e
    have e' := Res.ok.inj e
    subst e'
    obtain ⟨l, vs, rfl, h1, q2⟩ := p2.list ha
    cases ry
    obtain ⟨its, r, pl, hz⟩ := I.list h1
    obtain ⟨w1, w2⟩ := tL hu I rx ha p1 f1 f2 q2 r
    refine SeqAt.notIn_listAt (eqR s.heap d1) pl.isList w1 ?_
    rw [w2]
    exact ⟨.bl _, H, I, rfl, k _ A H (aQ.refl ha) (Rp.bool.mpr rfl)⟩
  | tuple ds =>
    obtain ⟨⟨f1, f2⟩, e⟩ := bL e
    have e' := Res.ok.inj e
    subst e'
    obtain ⟨l, vs, rfl, h1, q2⟩ := p2.tuple ha
    cases ry
    obtain ⟨its, r, pl, hz⟩ := I.tuple h1
    obtain ⟨w1, w2⟩ := tL hu I rx ha p1 f1 f2 q2 r
    refine SeqAt.notIn_tupleAt (eqR s.heap d1) (show s.heap.IsTuple l its.toArray from pl) w1 ?_
    rw [w2]
    exact ⟨.bl _, H, I, rfl, k _ A H (aQ.refl ha) (Rp.bool.mpr rfl)⟩
  | _ => cases e
end
theorem _root_.L2.dF.gO {k : Nat} {A : Around} (r : dF k A) : A.units + 66 < cLine := by have := r.un; omega
end L3
namespace L3
open PySem PySem.Spec PyProof.Rows L2
noncomputable def gZ (key : Key) : List (PyData × PyData) → Option PyData
  | [] => none
  | (k, d) :: r => if cI k = some key then some d else gZ key r
noncomputable def sI (key : Key) : List (PyData × PyData) → Bool
  | [] => false
  | (k, _) :: r => if cI k = some key then true else sI key r
noncomputable def uY (key : Key) (x : PyData) : List (PyData × PyData) → List (PyData × PyData)
  | [] => []
  | (k, d) :: r => (if cI k = some key then (k, x) else (k, d)) :: uY key x r
noncomputable def m7 (kd : PyData) (key : Key) (x : PyData) (kvs : List (PyData × PyData)) : List (PyData × PyData) := if sI key kvs = true then uY key x kvs else kvs ++ [(kd, x)]
theorem mD {k : PyData} {key key' : Key} (h : cI k = some key') : cI k = some key ↔ key' = key := by rw [h]; simp
section
variable {K : PySem.W.Frag} {A : Hp} {key : Key}
theorem aX.look : ∀ {kvs : List (PyData × PyData)} {u : List (Key × V)}, aX K A kvs u → (∀ d, gZ key kvs = some d → ∃ v, jm u key = some v ∧ Rp K A d v) ∧ (gZ key kvs = none → jm u key = none)
  | [], u, h => by
    rw [aX.nil] at h; subst h
    exact ⟨fun d e => (nomatch e), fun _ => rfl⟩
  | (k, d) :: r, u, h => by
    obtain ⟨key', v, u', rfl, hk, hd, hr⟩ := aX.cons.mp h
    unfold gZ
    by_cases e : cI k = some key
    · have e' := (mD hk).mp e
      rw [if_pos e]
      exact ⟨fun d' z => by cases z; exact ⟨v, oU (p := (key', v)) e', hd⟩, fun z => (nomatch z)⟩
    · have e' : ¬ key' = key := fun z => e ((mD hk).mpr z)
      rw [if_neg e, o7 (p := (key', v)) e']
      exact aX.look hr
theorem aX.has : ∀ {kvs : List (PyData × PyData)} {u : List (Key × V)}, aX K A kvs u → (u.any fun kv => decide (kv.1 = key)) = sI key kvs
  | [], u, h => by rw [aX.nil] at h; subst h; rfl
  | (k, d) :: r, u, h => by
    obtain ⟨key', v, u', rfl, hk, hd, hr⟩ := aX.cons.mp h
    unfold sI
    rw [List.any_cons, aX.has hr]
    by_cases e : cI k = some key
    · rw [if_pos e, decide_eq_true ((mD hk).mp e)]; rfl
    · rw [if_neg e, decide_eq_false fun z => e ((mD hk).mpr z)]; rfl
theorem aX.set {x : PyData} {w : V} (hx : Rp K A x w) : ∀ {kvs : List (PyData × PyData)} {u : List (Key × V)}, aX K A kvs u → aX K A (uY key x kvs) (u.map fun kv => if kv.1 = key then (kv.1, w) else kv)
  | [], u, h => by rw [aX.nil] at h; subst h; exact aX.nil.mpr rfl
  | (k, d) :: r, u, h => by
    obtain ⟨key', v, u', rfl, hk, hd, hr⟩ := aX.cons.mp h
    unfold uY
    rw [List.map_cons]
    by_cases e : cI k = some key
    · rw [if_pos e, if_pos ((mD hk).mp e)]
      exact aX.cons.mpr ⟨key', w, _, rfl, hk, hx, aX.set hx hr⟩
    · rw [if_neg e, if_neg fun z => e ((mD hk).mpr z)]
      exact aX.cons.mpr ⟨key', v, _, rfl, hk, hd, aX.set hx hr⟩
theorem aX.snoc {kd x : PyData} {w : V} (hk : cI kd = some key) (hx : Rp K A x w) : ∀ {kvs : List (PyData × PyData)} {u : List (Key × V)}, aX K A kvs u → aX K A (kvs ++ [(kd, x)]) (u ++ [(key, w)])
  | [], u, h => by rw [aX.nil] at h; subst h; exact aX.cons.mpr ⟨key, w, [], rfl, hk, hx, aX.nil.mpr rfl⟩
  | (k, d) :: r, u, h => by
    obtain ⟨key', v, u', rfl, hk', hd, hr⟩ := aX.cons.mp h
    exact aX.cons.mpr ⟨key', v, _, rfl, hk', hd, aX.snoc hk hx hr⟩
theorem aX.put {kd x : PyData} {w : V} {kvs : List (PyData × PyData)} {u : List (Key × V)} (hk : cI kd = some key) (hx : Rp K A x w) (h : aX K A kvs u) : aX K A (m7 kd key x kvs) (putK u key w) := by
  unfold m7 putK
  rw [h.has]
  by_cases e : sI key kvs = true
  · rw [if_pos e, if_pos e]; exact h.set hx
  · rw [if_neg e, if_neg e]; exact h.snoc hk hx
theorem aX.length : ∀ {kvs : List (PyData × PyData)} {u : List (Key × V)}, aX K A kvs u → kvs.length = u.length
  | [], u, h => by rw [aX.nil] at h; subst h; rfl
  | (k, d) :: r, u, h => by
    obtain ⟨key', v, u', rfl, _, _, hr⟩ := aX.cons.mp h
    rw [List.length_cons, List.length_cons, aX.length hr]
end
noncomputable def inY : PyData → PyData → Res PyData
  | a, .dict kvs => match cI a with
    | some key => .ok (.bool (gZ key kvs).isSome)
    | none => .bad
  | a, b => inX a b
noncomputable def fX : PyData → PyData → Res PyData
  | a, .dict kvs => match cI a with
    | some key => .ok (.bool (!(gZ key kvs).isSome))
    | none => .bad
  | a, b => FJ a b
section
variable {X : Cx}
theorem Pk.key {K : PySem.W.Frag} {A H : Hp} {d : PyData} {v : V} {key : Key} (p : Pk K A H d v) (h : cI d = some key) : v = kV key := by
  cases d with
  | int i => cases h; exact p.int
  | str x => cases h; exact p.str
  | _ => cases h
theorem aX.some {K : PySem.W.Frag} {A : Hp} {kvs : List (PyData × PyData)} {u : List (Key × V)} {key : Key} (h : aX K A kvs u) : (jm u key).isSome = (gZ key kvs).isSome := by
  have := h.look (key := key)
  cases e : gZ key kvs with
  | none => rw [this.2 e]; rfl
  | some d => obtain ⟨v, e1, _⟩ := this.1 d e; rw [e1]; rfl
theorem yo (hu : X.A.units + 66 < cLine) : OpR X (compareOp .In) (rD X.K inY) := by
  intro pins s σ H x y v u Q I rx ry hq
  obtain ⟨A, d1, d2, d, e, ha, p1, p2, k⟩ := hq
  cases d2 with
  | dict kvs =>
    have e : (match cI d1 with | some key => Res.ok (PyData.bool (gZ key kvs).isSome) | none => .bad) = .ok d := e
    cases hk : cI d1 with
    | none => rw [hk] at e; cases e
    | some key =>
      rw [hk] at e
      cases e
      obtain ⟨l, w, rfl, h1, h2⟩ := p2.dict ha
      cases ry
      rw [p1.key hk] at rx
      exact RV (by omega) I (pW.k (k := key) h1) rx fun s' I' => ⟨.bl _, H, I', rfl, k _ A H (aQ.refl ha) (Rp.bool.mpr (by rw [h2.some]))⟩
  | list ds => exact Em hu pins s σ H x y v u Q I rx ry ⟨A, d1, .list ds, d, e, ha, p1, p2, k⟩
  | tuple ds => exact Em hu pins s σ H x y v u Q I rx ry ⟨A, d1, .tuple ds, d, e, ha, p1, p2, k⟩
  | _ => cases e
theorem ju (hu : X.A.units + 66 < cLine) : OpR X (compareOp .NotIn) (rD X.K fX) := by
  intro pins s σ H x y v u Q I rx ry hq
  obtain ⟨A, d1, d2, d, e, ha, p1, p2, k⟩ := hq
  cases d2 with
  | dict kvs =>
    have e : (match cI d1 with | some key => Res.ok (PyData.bool (!(gZ key kvs).isSome)) | none => .bad) = .ok d := e
    cases hk : cI d1 with
    | none => rw [hk] at e; cases e
    | some key =>
      rw [hk] at e
      cases e
      obtain ⟨l, w, rfl, h1, h2⟩ := p2.dict ha
      cases ry
      rw [p1.key hk] at rx
      exact J6 (by omega) I (pW.k (k := key) h1) rx fun s' I' => ⟨.bl _, H, I', rfl, k _ A H (aQ.refl ha) (Rp.bool.mpr (by rw [h2.some]))⟩
  | list ds => exact vM hu pins s σ H x y v u Q I rx ry ⟨A, d1, .list ds, d, e, ha, p1, p2, k⟩
  | tuple ds => exact vM hu pins s σ H x y v u Q I rx ry ⟨A, d1, .tuple ds, d, e, ha, p1, p2, k⟩
  | _ => cases e
end
noncomputable def qM (i : Nat) (mk mv : ME) : MS := fun Γ => (mv Γ).bind fun x => (mk Γ).bind fun kd => match gv Γ i with
  | some (.dict kvs) => match cI kd with
    | some key => gd (kvs.length < sizeLine ∧ i < Γ.length) (.ok (.nx (Γ.set i (some (.dict (m7 kd key x kvs))))))
    | none => .bad
  | _ => .bad
section
variable {X : Cx} {rm : Rm} {Ol O : List Fl} {m m' : ME} {e a b : Expr} {pos p apos cpos : Pos}
theorem Jq {K : PySem.W.Frag} {A B H : Hp} {σ : L2.St} {Γ : Ev} {i : Nat} {kvs : List (PyData × PyData)} (r : aZ K A B H O σ Γ) (hi : isO (fl O i) = true) (he : gv Γ i = some (.dict kvs)) : ∃ q u, sv σ i = some (.ref q) ∧ H q = some (.dK u) ∧ aX K A kvs u := by
  obtain ⟨d, q, o, e1, e2, h1, h2, h3, ⟨ds', vs, rfl, rfl, h4⟩ | ⟨kvs, u, rfl, rfl, h4⟩⟩ := r.pX hi (by rw [he]; simp)
  · rw [he] at e1; cases e1
  · rw [he] at e1
    cases e1
    exact ⟨q, u, e2, h1, h4⟩
theorem Rp.key {K : PySem.W.Frag} {A : Hp} {d : PyData} {v : V} {key : Key} (p : Rp K A d v) (h : cI d = some key) : v = kV key := Pk.key (H := A) (.inl p) h
theorem uQ (i : Nat) {x : Str} {xp tpos : Pos} (hu : X.A.units + 66 < cLine) (ha : QE X a (tE X.K O m)) (he : QE X e (tE X.K O m')) (hi : isO (fl O i) = true := by rfl) (hN : X.N[i]? = some x := by rfl) (hv : Vis X.env.scope x := by first | exact Or.inl rfl | exact Or.inr (Or.inl rfl) | exact Or.inr (Or.inr rfl)) (hd : (x == ("__debug__" : Str)) = false := by decide)
    (hcd : (x == ("__classdict__" : Str)) = false := by decide) (hs : swapsWith e (some (.Subscript (.Name x xp) a tpos)) pos.line X.env = pure false := by rfl) :
    QS X (.Assign [.Subscript (.Name x xp) a tpos] e pos) (tS X.K rm Ol O O (qM i m m')) := by
  refine QS.imp (KR (by omega) (n8 hN hv hd hcd) ha.h he.h hs) fun D σ H hq__ => ?_
  obtain ⟨A, B, Γ, o, r, em, k⟩ := hq__
  obtain ⟨d, e1, em⟩ := Res.aF em
  obtain ⟨kd, e2, em⟩ := Res.aF em
  cases hg : gv Γ i with
  | none => rw [hg] at em; cases em
  | some dl =>
    rw [hg] at em
    cases dl with
    | dict kvs =>
      have em' : (match cI kd with | some key => gd (kvs.length < sizeLine ∧ i < Γ.length) (Res.ok (Out.nx (Γ.set i (some (.dict (m7 kd key d kvs)))))) | none => .bad) = .ok o := em
      cases hk : cI kd with
      | none => rw [hk] at em'; cases em'
      | some key =>
        rw [hk] at em'
        obtain ⟨⟨hz, hlt⟩, em'⟩ := bL em'
        cases em'
        obtain ⟨q, u, e3, h2, h4⟩ := Jq r hi hg
        refine ⟨A, B, Γ, d, r, e1, fun v A1 H1 g1 p1 => ⟨.ref q, oh e3, A1, B, Γ, _, r.grow g1, e2, fun w A2 H2 g2 p2 => ?_⟩⟩
        have gg := g1.trans g2
        refine ⟨q, _, rfl, by rw [Rp.key p2 hk]; exact rK.k (gg.hh _ _ h2) (by rw [← h4.length]; exact hz), ?_⟩
        exact k σ A2 _ ((r.grow gg).change hi hlt (by rw [hg]; simp) e3 (gg.hh _ _ h2) (.inr ⟨_, _, rfl, rfl, aX.put hk (Rp.mono g2.aa _ p1) (aX.mono gg.aa _ h4)⟩)) gg.aa (gg.nB r.b)
    | _ => cases em
end
section
variable {X : Cx}
end
end L3
namespace L3
open PySem PySem.Spec PyProof.Rows L2
noncomputable def kh : List (PyData × PyData) → Option (List Int)
  | [] => some []
  | (.int k, _) :: r => (kh r).map (k :: ·)
  | _ => none
theorem xV {K : PySem.W.Frag} {A : Hp} : ∀ {kvs : List (PyData × PyData)} {ns : List Int} {u : List (Key × V)}, kh kvs = some ns → aX K A kvs u → u.map (·.1) = ns.map Sum.inl
  | [], ns, u, h, r => by cases h; rw [aX.nil.mp r]; rfl
  | (.int k, d) :: rest, ns, u, h, r => by
    have h : (kh rest).map (k :: ·) = some ns := h
    cases e : kh rest with
    | none => rw [e] at h; cases h
    | some ms =>
      rw [e] at h; cases h
      obtain ⟨key, v, u', rfl, hk, _, r'⟩ := aX.cons.mp r
      cases hk
      rw [List.map_cons, List.map_cons, xV e r']
  | (.none, d) :: rest, ns, u, h, r => by cases h
  | (.bool _, d) :: rest, ns, u, h, r => by cases h
  | (.str _, d) :: rest, ns, u, h, r => by cases h
  | (.list _, d) :: rest, ns, u, h, r => by cases h
  | (.tuple _, d) :: rest, ns, u, h, r => by cases h
  | (.dict _, d) :: rest, ns, u, h, r => by cases h
theorem LQ {u : List (Key × V)} {vs : List (Key × Value)} (r : KV u vs) : vs.map (·.1) = u.map (·.1) := by
  unfold KV at r
  induction r with
  | nil => rfl
  | cons h t ih => rw [List.map_cons, List.map_cons, ih, h.1]
theorem JL {P : Program} {w : World} {i : Int} {v : Value} (h : (cA P w).is (.inl i) v = true) : ∃ t, v = .int i t := by
  rw [Dl] at h
  cases v <;> simp_all [nJ, Value.isInt]
theorem nY : ∀ {vs : List Value} {ns : List Int}, vs.length = ns.length → (∀ (j : Nat) (v : Value), vs[j]? = some v → ∃ n t, ns[j]? = some n ∧ v = .int n t) → IntsAre vs ns
  | [], [], _, _ => .nil
  | [], _ :: _, h, _ => by simp at h
  | _ :: _, [], h, _ => by simp at h
  | v :: vs, n :: ns, h, g => by
    obtain ⟨n', t, e, rfl⟩ := g 0 v rfl
    obtain rfl : n = n' := Option.some.inj e
    exact .cons n t (nY (by simpa using h) fun j v hv => g (j + 1) v (by simpa using hv))
section
variable {X : Cx}
theorem xr (hc : X.calm = true) : dh X (.builtin "sorted") (fun xs H Q => ∃ p u ns, xs = [.ref p] ∧ H p = some (.dK u) ∧ u.map (·.1) = ns.map Sum.inl ∧ ns.length < 3000 ∧ ∀ l, H l = none → Q (.ref l) (upd H l (.lst ((srt ns).map V.int)))) := by
  intro pins s σ H xs us Q I r h
  obtain ⟨p, u, ns, rfl, he, hk, h64, q⟩ := h
  obtain ⟨z, rfl, rx⟩ := vals1 r
  cases rx
  obtain ⟨hz, hsys, vs, kv, dd⟩ := Jv I.hok he
  obtain ⟨ep, hat⟩ := dd.dictAt
  have hks := (LQ kv).trans hk
  have hln : vs.length = ns.length := by have := congrArg List.length hks; rw [List.length_map, List.length_map] at this; exact this
  have small : vs.length ≤ sizeLine := by rw [hln]; exact Nat.le_of_lt (Nat.lt_trans h64 (by decide))
  refine (Calls.call_function_entry kind_sorted plain_sorted entry_sorted (args_sorted1 _) ?_); unfold Builtin.«sorted»
  refine wpAny_bind (m := checkCount "sorted" 1 1 _) (wpAny_pure (wpAny_bind (PySem.W.kdu_collect (A := X.A.in1) (PySem.W.kdl_dict (knd := cA X.prog X.w) (kvs := vs) (ep := ep) hsys) (I.ok.hd hc) hat small fun h' tk acc hkeep hacc => ?_)))
  have hl : acc.toList.length = ns.length := by rw [Array.length_toList, hacc.1, hln]
  have hI : IntsAre acc.toList ns := nY hl fun j v hv => by
    obtain ⟨k, x, e1, e2⟩ := hacc.2 j v (by rw [← Array.getElem?_toList]; exact hv)
    have e3 : (ns.map Sum.inl)[j]? = some k := by rw [← hks, List.getElem?_map, e1]; rfl
    rw [List.getElem?_map] at e3
    cases e4 : ns[j]? with
    | none => rw [e4] at e3; cases e3
    | some n =>
      rw [e4] at e3; cases e3
      obtain ⟨t, rfl⟩ := JL e2
      exact ⟨n, t, rfl, rfl⟩
  have hoL : (h'.push (seqObj "list" acc.toList.toArray 0)).get? h'.objs.size = some (seqObj "list" acc.toList.toArray 0) := Heap.get?_push_size _ rfl
  have I1 : L2.Inv X pins σ H { s with heap := h', toks := tk } := I.kept hkeep
  refine wpAny_bind (wpAny_newList (wpAny_bind (wpAny_holding (wpAny_call_entry slot_list_sort ⟨_, hoL, rfl⟩ entry_list_sort (vN hoL hI (Nat.le_of_lt (Nat.lt_of_lt_of_le (show _ < 3000 by omega) (by decide))) fun out ns' a1 a2 a3 => ⟨_, rfl, wpAny_pure ⟨_, rfl, ?_⟩⟩) (args_list_sort _)))) (by rw [hl]; exact Nat.le_of_lt (Nat.lt_trans h64 (by decide))))
  have e : ns' = srt ns := jd (a2.trans (eZ ns).symm) a3 (gD ns)
  subst e
  obtain ⟨c, hc'⟩ := sortedHeap_at (out := out) hoL
  refine ⟨.ref h'.objs.size, _, I1.laid (a := h'.objs.size) (o := .lst ((srt ns).map V.int)) (h' := sortedHeap (h'.push (seqObj "list" acc.toList.toArray 0)) h'.objs.size acc.toList out) (t' := tk) (fun b o e => ?_) (Nat.le_refl _) ?_, rfl, q _ (I1.hok.fresh (Nat.le_refl _))⟩
  · have hb : b < h'.objs.size := Heap.lt_size e
    rw [sortedHeap_old (Nat.ne_of_lt hb) (by rw [size_push']; exact Nat.lt_succ_of_lt hb)]
    exact Heap.get?_push_of_some _ e
  · refine ⟨?_, out.toList, c, mJ a1, by simpa [seqObj] using hc'⟩
    rw [List.length_map, (eZ ns).length_eq]
    exact Nat.le_of_lt (Nat.lt_trans h64 (by decide))
noncomputable def qI : List PyData → Res PyData
  | [.dict kvs] => match kh kvs with
    | some ns => gd (ns.length < 3000) (.ok (.list ((srt ns).map PyData.int)))
    | none => .bad
  | _ => .bad
theorem sY (hc : X.calm = true) : dh X (.builtin "sorted") (rCF X.K qI) := by
  intro pins s σ H xs us Q I r h
  obtain ⟨A, ds, d, e, ha, p, k⟩ := h
  match ds, e with
  | [.dict kvs], e =>
    have e : (match kh kvs with | some ns => gd (ns.length < 3000) (.ok (.list ((srt ns).map PyData.int))) | none => .bad) = Res.ok d := e
    cases hn : kh kvs with
    | none => rw [hn] at e; cases e
    | some ns =>
      rw [hn] at e
      obtain ⟨hz, e⟩ := bL e
      cases e
      obtain ⟨v, r', rfl, p1, p2⟩ := p.cons
      obtain rfl := p2.nil
      obtain ⟨l, u, rfl, h1, q1⟩ := p1.dict ha
      exact xr hc pins s σ H _ us Q I r ⟨l, u, ns, rfl, h1, xV hn q1, hz, fun q hq => k _ A _ (aQ.lay ha hq) ⟨q, _, rfl, hq, bz, ha.free hq, .inl ⟨_, _, rfl, rfl, aB.ints⟩⟩⟩
theorem q9 : dh X (.type "range") (fun xs H Q => ∃ n, xs = [.int n] ∧ ∀ p, H p = none → Q (.ref p) (upd H p (.rng 0 n))) := by
  intro pins s σ H xs us Q I r h
  obtain ⟨n, rfl, q⟩ := h
  obtain ⟨z, rfl, t, rfl⟩ := vals1 r
  refine call_range_1 ⟨.ref s.heap.objs.size, _, I.laid (a := s.heap.objs.size) (o := .rng 0 n) (fun b o e => Heap.get?_push_of_some _ e) (Nat.le_refl _) ⟨_, _, _, Heap.get?_push_size _ rfl⟩, rfl, q _ (I.hok.fresh (Nat.le_refl _))⟩
theorem CN (hc : X.calm = true) : dh X (.type "list") (fun xs H Q => ∃ p n, xs = [.ref p] ∧ H p = some (.rng 0 n) ∧ (-(2 ^ 20) ≤ n ∧ n ≤ 2 ^ 20) ∧ ∀ l, H l = none → Q (.ref l) (upd H l (.lst ((List.range n.toNat).map fun i => V.int (i : Nat))))) := by
  intro pins s σ H xs us Q I r h
  obtain ⟨p, n, rfl, he, hn, q⟩ := h
  obtain ⟨z, rfl, rx⟩ := vals1 r
  cases rx
  obtain ⟨t, u, v, eo⟩ := (show cM X.prog X.w H s.heap p (.rng 0 n) from I.hok p _ he)
  refine call_list_range (n := n.toNat) (I.ok.hd hc) (show IsRange s.heap p 0 n 1 t u v from eo) (small_one (by decide) (by decide) (by omega) (by omega)) (by rw [rangeSize_one]; split <;> omega) (by omega) fun h' tk acc c hk hS hacc => ?_
  refine ⟨.ref s.heap.objs.size, _, I.laid (a := s.heap.objs.size) (o := .lst ((List.range n.toNat).map fun i => V.int (i : Nat))) (t' := tk) hk (Nat.le_refl _) ⟨?_, acc.toList, c, ?_, by simpa using hS⟩, rfl, q _ (I.hok.fresh (Nat.le_refl _))⟩
  · rw [List.length_map, List.length_range, PySem.sizeLine_eq]; omega
  · have hv : ∀ (m : Nat) (vs : List Value), vs.length = m → (∀ (j : Nat) (v : Value), vs[j]? = some v → ∃ t, v = Value.int (0 + (j : Int) * 1) t) → ∀ k : Nat, (∀ (j : Nat) (v : Value), vs[j]? = some v → ∃ t, v = Value.int (0 + (j : Int) * 1) t) → Vals ((List.range m).map fun i => V.int (i : Nat)) vs := by
      intro m
      induction m with
      | zero => intro vs h _ _ _; rw [List.length_eq_zero_iff.mp h]; exact .nil
      | succ m ih =>
        intro vs hl g k _
        rw [List.range_succ, List.map_append]
        obtain ⟨ws, x, rfl⟩ : ∃ ws x, vs = ws ++ [x] := ⟨vs.dropLast, vs.getLast (by intro z; rw [z] at hl; cases hl), (List.dropLast_concat_getLast _).symm⟩
        have hl' : ws.length = m := by simpa using hl
        refine Vals.append (ih ws hl' (fun j v e => g j v (by rw [List.getElem?_append_left (List.getElem?_eq_some_iff.mp e).1]; exact e)) 0 fun j v e => g j v (by rw [List.getElem?_append_left (List.getElem?_eq_some_iff.mp e).1]; exact e)) (.cons ?_ .nil)
        obtain ⟨t, e⟩ := g m x (by rw [List.getElem?_append_right (by omega)]; simp [hl'])
        exact ⟨t, by rw [e]; congr 1; omega⟩
    have g : ∀ (j : Nat) (v : Value), acc.toList[j]? = some v → ∃ t, v = Value.int (0 + (j : Int) * 1) t := fun j v e => hacc.2 j v (by rw [← Array.getElem?_toList]; exact e)
    exact hv n.toNat acc.toList (by rw [Array.length_toList]; exact hacc.1) g 0 g
noncomputable def lrD : PyData → Res PyData
  | .int n => gd (-(2 ^ 20) ≤ n ∧ n ≤ 2 ^ 20) (.ok (.list ((List.range n.toNat).map fun i => PyData.int (i : Nat))))
  | _ => .bad
theorem aB.range {K : PySem.W.Frag} {A : Hp} {n : Nat} : aB K A ((List.range n).map fun i => PyData.int (i : Nat)) ((List.range n).map fun i => V.int (i : Nat)) := by
  have := aB.ints (K := K) (A := A) (ns := (List.range n).map fun i => ((i : Nat) : Int))
  rw [List.map_map, List.map_map] at this
  exact this
theorem Fe {e : Expr} {O : List Fl} {m : ME} {p p2 pos pos2 : Pos} (hc : X.calm = true) (hgl : Gl X "list") (hml : X.mg "list" = none) (hvl : bootBuiltins "list" = some (.type "list")) (hgr : Gl X "range") (hmr : X.mg "range" = none) (hvr : bootBuiltins "range" = some (.type "range")) (he : QE X e (tP X.K O m))
    (hst : noStar e = true := by rfl) : QE X (.Call (.Name "list" p) [.Call (.Name "range" p2) [e] [] pos2] [] pos) (tF X.K O (eUn lrD m)) := by
  refine QE.imp (jx (CN hc) hgl hml hvl (cL (jx q9 hgr hmr hvr (cL he.h gf (bV hst)) (by decide) (by decide) (bV hst) (gF rfl)) gf)) fun σ H Q hq__ => ?_
  obtain ⟨A, B, Γ, d, r, em, k⟩ := hq__
  obtain ⟨d1, e1, em⟩ := Res.aF em
  cases d1 with
  | int n =>
    obtain ⟨hn, em⟩ := bL em
    cases em
    refine ⟨A, B, Γ, _, r, e1, fun v A1 H1 g1 p1 => ⟨n, by rw [p1.int], fun q hq => ⟨q, n, rfl, bz, hn, fun l hl => ?_⟩⟩⟩
    have hq1 : H1 l = none := by
      by_cases z : l = q
      · subst z; rw [bz] at hl; cases hl
      · rw [bw z] at hl; exact hl
    have g2 := aQ.lay (o := HO.rng 0 n) g1.ah hq
    have g3 := aQ.lay (o := HO.lst ((List.range n.toNat).map fun i => V.int (i : Nat))) g2.ah hl
    exact k _ A1 _ (g1.trans (g2.trans g3)) ⟨l, _, rfl, g1.hh.free hq1, bz, g2.ah.free hl, .inl ⟨_, _, rfl, rfl, aB.range⟩⟩
  | _ => cases em
end
end L3
namespace L3
open PySem PySem.Spec PyProof.Rows L2
section
variable {K : PySem.W.Frag} {A B H A' H' : Hp} {O : List Fl} {σ : L2.St} {Γ : Ev} {i : Nat}
end
inductive MA where
  | imm | bor | var (i : Nat) | new
noncomputable def RZ (K : PySem.W.Frag) (A B : Hp) (σ : L2.St) (Γ : Ev) (H0 H : Hp) : MA → PyData → V → Prop
  | .imm, d, v => Rp K A d v
  | .bor, d, v => Pk K A B d v
  | .var i, d, v => sv σ i = some v ∧ gv Γ i = some d
  | .new, d, v => ∃ p o, v = .ref p ∧ H0 p = none ∧ H p = some o ∧ A p = none ∧ jo K A d o
noncomputable def oY (K : PySem.W.Frag) (A B : Hp) (σ : L2.St) (Γ : Ev) (H0 H : Hp) : List MA → List PyData → List V → Prop
  | [], ds, vs => ds = [] ∧ vs = []
  | a :: as, ds, vs => ∃ d r v s, ds = d :: r ∧ vs = v :: s ∧ RZ K A B σ Γ H0 H a d v ∧ oY K A B σ Γ H0 H as r s
section
variable {K : PySem.W.Frag} {A B H H0 A' H' : Hp} {σ : L2.St} {Γ : Ev}
theorem oY.base (s : aH H0 H) : ∀ {as : List MA} {ds : List PyData} {vs : List V}, oY K A B σ Γ H H' as ds vs → oY K A B σ Γ H0 H' as ds vs
  | [], ds, vs, h => h
  | a :: as, ds, vs, h => by
    obtain ⟨d, r, v, t, rfl, rfl, h1, h2⟩ := h
    refine ⟨d, r, v, t, rfl, rfl, ?_, oY.base s h2⟩
    cases a with
    | new => obtain ⟨p, o, e, h0, q⟩ := h1; exact ⟨p, o, e, s.free h0, q⟩
    | imm => exact h1
    | bor => exact h1
    | var i => exact h1
theorem oY.len : ∀ {as : List MA} {ds : List PyData} {vs : List V}, oY K A B σ Γ H0 H as ds vs → ds.length = as.length ∧ vs.length = as.length
  | [], ds, vs, h => by obtain ⟨rfl, rfl⟩ := h; exact ⟨rfl, rfl⟩
  | a :: as, ds, vs, h => by
    obtain ⟨d, r, v, t, rfl, rfl, _, h2⟩ := h
    have := h2.len
    exact ⟨by rw [List.length_cons, List.length_cons, this.1], by rw [List.length_cons, List.length_cons, this.2]⟩
end
section
variable {X : Cx} {K : PySem.W.Frag} {O : List Fl} {m : ME} {ms : List ME} {as : List MA} {e : Expr} {es : List Expr} {pos : Pos}
end
section
variable {X : Cx} {k : Nat} {x : Str} {ps : List Str} {fs : List Fl} {j : Nat} {f : List PyData → Res PyData} {O : List Fl} {as : List MA} {ms : List ME} {p pos : Pos} {e : Expr} {es : List Expr}
end
section
variable {X : Cx} {K : PySem.W.Frag} {rm : Rm} {Ol O O' : List Fl} {f : List PyData → Res PyData} {ms : List ME} {m : ME} {e : Expr} {pos : Pos}
end
section
variable {P : Program} {w : World} {K : PySem.W.Frag} {mg : Str → Option Value} {base : Heap}
end
end L3
namespace L3
open PySem PySem.Spec PyProof.Rows L2
section
variable {K : PySem.W.Frag} {A B H : Hp} {O : List Fl} {σ : L2.St} {Γ : Ev}
end
section
variable {K : PySem.W.Frag} {O Ob O1 : List Fl} {tn : List Str} {ix is : List Nat} {it : MI} {g : MG} {f : List PyData → Res PyData} {ms : List ME}
end
section
variable {X : Cx} {O Ob O1 Ol O' : List Fl} {scope : Scope} {is : List Nat} {it : MI} {g : MG} {m1 : ME} {f : List PyData → Res PyData} {ms : List ME} {e1 elt tg iter : Expr} {nt : Nat}
end
end L3
namespace L3
open PySem PySem.Spec PyProof.Rows L2
section
variable {X : Cx}
end
noncomputable abbrev MZ := Ev → Res Str
section
variable {X : Cx} {K : PySem.W.Frag} {rm : Rm} {Ol O O1 O2 : List Fl} {XE : Str → Hp → Prop} {m1 : MS} {m : ME} {z z1 z2 : MZ} {c : Expr} {st : Stmt} {rest a b : List Stmt} {pos : Pos}
end
section
variable {P : Program} {w : World} {K : PySem.W.Frag} {mg : Str → Option Value} {base : Heap}
end
end L3
namespace L3
open PySem PySem.Spec PyProof.Rows L2
section
variable {X : Cx} {pins : List (Addr × Obj)} {σ : L2.St} {H : Hp} {s : Shared} {O : List Fl} {Γ : Ev} {A B : Hp}
end
section
variable {M : Model} {A : Around} {E : Value → Shared → Prop} {K : PySem.W.Frag}
end
section
variable {X : Cx} {pins : List (Addr × Obj)} {σ : L2.St} {H : Hp} {s : Shared} {ea : Addr} {ob : Obj}
end
end L3
namespace L3
open PySem PySem.Spec PyProof.Rows L2
section
variable {X : Cx} {pins : List (Addr × Obj)} {σ : L2.St} {H : Hp} {s : Shared}
end
section
variable {X : Cx} {pins : List (Addr × Obj)} {σ : L2.St} {H : Hp} {s : Shared}
end
section
variable {X : Cx} {ea C : Addr} {ob : Obj}
end
section
variable {X : Cx} {k : Nat} {fn : Str} {ps : List Str} {fs : List Fl} {f : List PyData → Res PyData} {zf : List PyData → Res Str} {O Ol : List Fl} {rm : Rm} {ms : List ME} {pf pc pos px pa : Pos} {e : Expr} {es : List Expr}
end
end L3
namespace L3
open PySem PySem.Spec PyProof.Rows L2
end L3
namespace L3
open PySem PySem.Spec PyProof.Rows L2
end L3
namespace L3
open PySem PySem.Spec PyProof.Rows L2
end L3
namespace L2
open PySem PySem.Spec PyProof.Rows
open Builtin Builtin.Str
section
variable {prog : Program} {w : World} {A : Around} {E : Value → Shared → Prop} {s : Shared}
end
section
variable {X : Cx} {tg : Expr}
end
end L2
namespace L3
open PySem PySem.Spec PyProof.Rows L2
section
variable {X : Cx} {O : List Fl} {m m' : ME} {e a b tg : Expr} {pos p : Pos}
end
section
variable {X : Cx} {rm : Rm} {Ol O O' : List Fl} {is : List Nat} {g : MG} {tg : Expr} {p apos cpos pos : Pos}
end
end L3
namespace L2
open PySem PySem.Spec PyProof.Rows
end L2
namespace L3
open PySem PySem.Spec PyProof.Rows L2
section
variable {X : Cx} {k : Nat} {x : Str} {ps : List Str} {fs : List Fl} {f : List PyData → Res PyData} {O : List Fl} {ms : List ME} {p pos : Pos} {e : Expr} {es : List Expr}
end
section
variable {X : Cx} {K : PySem.W.Frag} {rm : Rm} {Ol O O' : List Fl} {m1 m2 : MS} {sts : List Stmt}
end
end L3
namespace L2
open PySem PySem.Spec PyProof.Rows
noncomputable def BV (lo c : Int) (n : Nat) : It := ⟨fun i _ => i < n, fun i H x H' => H' = H ∧ x = .int (lo + i * c), fun i _ => n ≤ i⟩
theorem zA {P : Program} {w : World} {K : PySem.W.Frag} {tg : Expr} (it : Addr) (lo c : Int) (n : Nat) : Turn P w K tg (BV lo c n) [it] it (fun i h => IsRangeIter h it (lo + (i : Nat) * c) ((n : Int) - (i : Nat)) c) where
  mem := by simp
  obj := fun i h st b hb => by
    have e : b = it := by simpa using hb
    subst e
    exact ⟨_, st, fun v z => by
      have z' : Data.fields _ = Data.cell v := z
      cases z'⟩
  keep := fun i h h' st k => k it (by simp) _ st
  item := by
    intro X hP hw hK hc i pins s σ H E I hf st hg
    subst hP hw hK
    obtain ⟨f0, f1, f2, f3, f4, f5⟩ := hf it (by simp)
    have W := Walks.range (prog := X.prog) (w := X.w) (I.ok.hd hc) it lo c n
    refine W.item i s _ _ hg st fun v h' tk hv st' kk => ?_
    obtain ⟨t, rfl⟩ := hv
    have I1 : Inv X pins σ H { s with heap := h', toks := tk } := I.turned (fun b o hb e => kk b o (by simpa using hb) e) f0 f1 f3 f4 f5
    refine ⟨_, rfl, tM (s := { s with heap := h', toks := tk }) (n := "range_iterator") st' rfl rfl (by decide) ⟨.int (lo + i * c), H, I1, ⟨t, rfl⟩, ⟨rfl, rfl⟩, st', fun b hb => (hf b hb).1⟩⟩
  done := by
    intro X hP hw hK hc i pins s σ H E I hf st hg
    subst hP hw hK
    obtain ⟨f0, f1, f2, f3, f4, f5⟩ := hf it (by simp)
    exact wpAny_pyNext_range_end (I.ok.hd hc) st (by have : n ≤ i := hg; omega) fun h' eb => ⟨rfl, I.turned (t' := s.toks) (fun b o hb e => eb b o hb e) f0 f1 f3 f4 f5⟩
  self := fun _ _ _ _ _ st h => wpAny_pyIter_rangeiter st h
section
variable {X : Cx} {tg : Expr}
theorem FW {pins : List (Addr × Obj)} {σ : St} {H : Hp} {s : Shared} {R : It → Hp → Prop} {E : Value → Shared → Prop} {lo hi c : Int} {t u v : Tok} {tk : Nat} (I : Inv X pins σ H s) (hs : Builtin.Range.small lo hi c = true) (h0 : 0 ≤ Builtin.Range.rangeSize lo hi c)
    (q : R (BV lo c (Builtin.Range.rangeSize lo hi c).toNat) H) : wpAny (model X.prog X.w) X.A (pyIter (.ref s.heap.objs.size)) (PIE X pins σ tg R) E { s with heap := s.heap.push { cls := .type "range", data := .fields #[.int lo t, .int hi u, .int c v] }, toks := tk } := by
  refine wpAny_pyIter_range (IsRange.new ..) hs ?_
  have I1 : Inv X pins σ H { s with heap := s.heap.push { cls := .type "range", data := .fields #[.int lo t, .int hi u, .int c v] }, toks := tk } := I.kept fun b o e => Heap.get?_push_of_some _ e
  refine ⟨(s.heap.push { cls := .type "range", data := .fields #[.int lo t, .int hi u, .int c v] }).objs.size, [(s.heap.push { cls := .type "range", data := .fields #[.int lo t, .int hi u, .int c v] }).objs.size], _, _, H, rfl,
    I1.kept (t' := tk) fun b o e => Heap.get?_push_of_some _ e, zA _ lo c (Builtin.Range.rangeSize lo hi c).toNat, ?_, fun b hb => ?_, q⟩
  · have e1 : lo + ((0 : Nat) : Int) * c = lo := by simp
    have e2 : (((Builtin.Range.rangeSize lo hi c).toNat : Nat) : Int) - ((0 : Nat) : Int) = Builtin.Range.rangeSize lo hi c := by omega
    show IsRangeIter _ _ (lo + ((0 : Nat) : Int) * c) ((((Builtin.Range.rangeSize lo hi c).toNat : Nat) : Int) - ((0 : Nat) : Int)) c
    rw [e1, e2]
    exact Heap.get?_push_size _ rfl
  · have e : b = (s.heap.push { cls := .type "range", data := .fields #[.int lo t, .int hi u, .int c v] }).objs.size := by simpa using hb
    subst e
    exact I1.rY (Nat.le_refl _) (I1.hok.fresh (Nat.le_refl _))
noncomputable def Q5 (ta : TA) : TI := fun σ H R => ta σ H fun vs H1 => ∃ i j c : Int, vs = [.int i, .int j, .int c] ∧ (c ≠ 0 ∧ c.natAbs < 1073741824 ∧ Builtin.Range.small i j c = true ∧ 0 ≤ Builtin.Range.rangeSize i j c) ∧ R (BV i c (Builtin.Range.rangeSize i j c).toNat) H1
theorem Ew {a b c : Expr} {ta : TA} {p pos : Pos} (hg : Gl X "range") (hm : X.mg "range" = none) (ha : PA X [a, b, c] ta) (hs : starEach [a, b, c] X.env = [(false, eval a X.env), (false, eval b X.env), (false, eval c X.env)] := by rfl) (hs2 : starEach [b, c] X.env = [(false, eval b X.env), (false, eval c X.env)] := by rfl) :
    PI X tg (.Call (.Name "range" p) [a, b, c] [] pos) (Q5 ta) := by
  intro pins s σ H R I h
  refine Call_ (lE I hg hm boot_range (PyProof.Rows.callWith_type1 (thn (ha pos pins s σ H _ I h) fun us s1 hq__ => ?_) (by rw [hs, hs2]) (by rw [hs2]; rfl)))
  obtain ⟨vs, H1, I1, r1, q1⟩ := hq__
  obtain ⟨i, j, k, e, ⟨q0, q1, q2, q3⟩, q⟩ := q1
  subst e
  cases r1 with
  | cons r rr =>
    cases rr with
    | cons r' rr =>
      cases rr with
      | cons r'' rr =>
        cases rr
        obtain ⟨t, rfl⟩ := r
        obtain ⟨t', rfl⟩ := r'
        obtain ⟨t'', rfl⟩ := r''
        exact call_range_3 q0 (FW I1 q2 q3 q) (.inl (PyProof.noPylong_small q1))
end
end L2
namespace L3
open PySem PySem.Spec PyProof.Rows L2
section
variable {X : Cx} {O : List Fl} {m m' m'' : ME} {e a b c tg : Expr} {pos p : Pos} {K : PySem.W.Frag} {A B : Hp}
theorem Ep (lo c : Int) (n : Nat) : p6 K A B (BV lo c n) ((List.range n).map fun i => PyData.int (lo + (i : Nat) * c)) := by
  have hl : ((List.range n).map fun i => PyData.int (lo + (i : Nat) * c)).length = n := by rw [List.length_map, List.length_range]
  refine ⟨fun i H _ _ hi => (by rw [hl] at hi; exact hi), fun H _ _ => (by rw [hl]; exact Nat.le_refl _), fun i A2 H x H' sa s1 s2 hi y => ?_⟩
  obtain ⟨rfl, rfl⟩ := y
  rw [hl] at hi
  exact ⟨A2, .int (lo + (i : Nat) * c), by rw [List.getElem?_map, List.getElem?_range hi]; rfl, aQ.refl s1, Rp.int.mpr rfl⟩
noncomputable def xT (d d' d'' : PyData) : Res (List PyData) := match d, d', d'' with
  | .int i, .int j, .int c => gd (c ≠ 0 ∧ c.natAbs < 1073741824 ∧ Builtin.Range.small i j c = true ∧ 0 ≤ Builtin.Range.rangeSize i j c) (.ok ((List.range (Builtin.Range.rangeSize i j c).toNat).map fun k => PyData.int (i + (k : Nat) * c)))
  | _, _, _ => .bad
noncomputable def Hs (m m' m'' : ME) : MI := fun Γ => (m Γ).bind fun d => (m' Γ).bind fun d' => (m'' Γ).bind fun d'' => xT d d' d''
theorem Mi {d d' d'' : PyData} {xs : List PyData} (h : xT d d' d'' = .ok xs) : ∃ i j c : Int, d = .int i ∧ d' = .int j ∧ d'' = .int c ∧ (c ≠ 0 ∧ c.natAbs < 1073741824 ∧ Builtin.Range.small i j c = true ∧ 0 ≤ Builtin.Range.rangeSize i j c) ∧ xs = (List.range (Builtin.Range.rangeSize i j c).toNat).map fun k => PyData.int (i + (k : Nat) * c) := by
  unfold xT at h
  split at h
  · obtain ⟨hc, em⟩ := bL h
    cases em
    exact ⟨_, _, _, rfl, rfl, rfl, hc, rfl⟩
  · cases h
theorem Ed (hg : Gl X "range") (hm : X.mg "range" = none) (ha : QE X a (tP X.K O m)) (hb : QE X b (tP X.K O m')) (hc : QE X c (tP X.K O m'')) (hs : starEach [a, b, c] X.env = [(false, eval a X.env), (false, eval b X.env), (false, eval c X.env)] := by rfl) (hs2 : starEach [b, c] X.env = [(false, eval b X.env), (false, eval c X.env)] := by rfl) (hs3 : starEach [c] X.env = [(false, eval c X.env)] := by rfl) :
    QI X tg (.Call (.Name "range" p) [a, b, c] [] pos) (tIc X.K O (Hs m m' m'')) :=
  QI.imp (Ew hg hm (cL ha.h (cL hb.h (cL hc.h gf hs3) (by rw [hs2, hs3])) (by rw [hs, hs2])) hs hs2) fun σ H R hq__ => by
    obtain ⟨A, B, Γ, xs, r, em, k⟩ := hq__
    obtain ⟨d, e1, em⟩ := Res.aF em
    obtain ⟨d', e2, em⟩ := Res.aF em
    obtain ⟨d'', e3, em⟩ := Res.aF em
    obtain ⟨i, j, s, rfl, rfl, rfl, hc, rfl⟩ := Mi em
    exact ⟨A, B, Γ, _, r, e1, fun v A1 H1 g1 p1 => ⟨A1, B, Γ, _, r.grow g1, e2, fun v' A2 H2 g2 p2 => ⟨A2, B, Γ, _, (r.grow g1).grow g2, e3, fun v'' A3 H3 g3 p3 => ⟨i, j, s, by rw [p1.int, p2.int, p3.int], hc, k _ A3 H3 ((g1.trans g2).trans g3) (Ep i s _)⟩⟩⟩⟩
noncomputable def Nr : PyData → Res PyData
  | .int a => .ok (.int (Builtin.bitNot a))
  | _ => .bad
theorem O8 {a : Expr} (ha : QE X a (tP K O m)) : QE X (.UnaryOp .Invert a pos) (tE K O (eUn Nr m)) := Jw M7 (fun A H d1 d x Q e hA p k => by
  cases d1 with
  | int i => cases e; exact ⟨i, p.int, k _ A H (aQ.refl hA) (Rp.int.mpr rfl)⟩
  | _ => cases e) ha
end
end L3
namespace L2
open PySem
noncomputable def gM (xs : Array Nat) : Prop := xs.toList.Pairwise (· < ·)
theorem zL (xs : Array Nat) (i d : Nat) : xs.getD i d = xs.toList.getD i d := by
  rw [List.getD_eq_getElem?_getD, Array.getElem?_toList, Array.getD_eq_getD_getElem?]
theorem sH {xs : Array Nat} {j : Nat} (hr : gM xs) : ∀ fuel lo hi, hi - lo ≤ fuel → lo ≤ hi → hi ≤ xs.size →
    (∀ a ∈ xs.toList.take lo, a < j) → (∀ b ∈ xs.toList.drop hi, j ≤ b) →
    SetTable.below.go xs j fuel lo hi ≤ xs.size ∧ (∀ a ∈ xs.toList.take (SetTable.below.go xs j fuel lo hi), a < j) ∧ (∀ b ∈ xs.toList.drop (SetTable.below.go xs j fuel lo hi), j ≤ b)
  | 0, lo, hi, h1, h2, h3, h4, h5 => by
    have e : lo = hi := by omega
    subst e
    unfold SetTable.below.go
    exact ⟨h3, h4, h5⟩
  | fuel + 1, lo, hi, h1, h2, h3, h4, h5 => by
    unfold SetTable.below.go
    by_cases hlt : lo < hi
    · rw [if_pos hlt]
      dsimp only
      have hm : (lo + hi) / 2 < xs.toList.length := by rw [Array.length_toList]; omega
      have hg : xs.getD ((lo + hi) / 2) j = xs.toList[(lo + hi) / 2] := by
        rw [zL, List.getD_eq_getElem?_getD, List.getElem?_eq_getElem hm]; rfl
      rw [hg]
      by_cases hc : xs.toList[(lo + hi) / 2] < j
      · rw [if_pos hc]
        refine sH hr fuel _ hi (by omega) (by omega) h3 (fun a ha => ?_) h5
        obtain ⟨k, hk, rfl⟩ := List.mem_iff_getElem.mp ha
        rw [List.getElem_take]
        rw [List.length_take] at hk
        have hk2 : k < xs.toList.length := by omega
        rcases Nat.lt_or_ge k ((lo + hi) / 2) with hq | hq
        · exact Nat.lt_trans (List.pairwise_iff_getElem.mp hr k ((lo + hi) / 2) hk2 hm hq) hc
        · have : k = (lo + hi) / 2 := by omega
          subst this; exact hc
      · rw [if_neg hc]
        refine sH hr fuel lo _ (by omega) (by omega) (by omega) h4 fun b hb => ?_
        obtain ⟨k, hk, rfl⟩ := List.mem_iff_getElem.mp hb
        rw [List.getElem_drop]
        rw [List.length_drop] at hk
        have hk2 : (lo + hi) / 2 + k < xs.toList.length := by omega
        rcases Nat.eq_zero_or_pos k with rfl | hq
        · simp only [Nat.add_zero]; omega
        · have := List.pairwise_iff_getElem.mp hr ((lo + hi) / 2) ((lo + hi) / 2 + k) hm hk2 (by omega)
          omega
    · rw [if_neg hlt]
      have e : lo = hi := by omega
      subst e
      exact ⟨h3, h4, h5⟩
theorem pI {xs : Array Nat} (hr : gM xs) (j : Nat) : SetTable.below xs j ≤ xs.size ∧ (∀ a ∈ xs.toList.take (SetTable.below xs j), a < j) ∧ (∀ b ∈ xs.toList.drop (SetTable.below xs j), j ≤ b) :=
  sH hr xs.size 0 xs.size (by omega) (by omega) (Nat.le_refl _) (fun a ha => by simp at ha) (fun b hb => by rw [← Array.length_toList, List.drop_length] at hb; cases hb)
theorem below_at {xs : Array Nat} (hr : gM xs) {j : Nat} (h : j ∈ xs.toList) : xs[SetTable.below xs j]? = some j := by
  obtain ⟨h1, h2, h3⟩ := pI hr j
  obtain ⟨k, hk, e⟩ := List.mem_iff_getElem.mp h
  have hkp : SetTable.below xs j ≤ k := by
    rcases Nat.lt_or_ge k (SetTable.below xs j) with hq | hq
    · have hm : xs.toList[k] ∈ xs.toList.take (SetTable.below xs j) := List.mem_iff_getElem.mpr ⟨k, by rw [List.length_take]; omega, List.getElem_take⟩
      have := h2 _ hm
      omega
    · exact hq
  have hp : SetTable.below xs j < xs.toList.length := by omega
  have hb := h3 (xs.toList[SetTable.below xs j]) (List.mem_iff_getElem.mpr ⟨0, by rw [List.length_drop]; omega, by rw [List.getElem_drop]; rfl⟩)
  rcases Nat.lt_or_ge (SetTable.below xs j) k with hq | hq
  · have := List.pairwise_iff_getElem.mp hr _ _ hp hk hq
    omega
  · have : SetTable.below xs j = k := by omega
    rw [← Array.getElem?_toList, List.getElem?_eq_getElem hp]
    simp only [this, e]
theorem Dm {xs : Array Nat} (hr : gM xs) {i : Nat} (hi : i < xs.size) : SetTable.below xs (xs[i] + 1) = i + 1 := by
  obtain ⟨h1, h2, h3⟩ := pI hr (xs[i] + 1)
  have hi' : i < xs.toList.length := by simpa using hi
  have e : xs.toList[i] = xs[i] := by simp
  rcases Nat.lt_trichotomy (SetTable.below xs (xs[i] + 1)) (i + 1) with hq | hq | hq
  · have := h3 (xs.toList[i]) (List.mem_iff_getElem.mpr ⟨i - SetTable.below xs (xs[i] + 1), by rw [List.length_drop]; omega, by rw [List.getElem_drop]; congr 1; omega⟩)
    omega
  · exact hq
  · have hj : i + 1 < xs.toList.length := by rw [Array.length_toList]; omega
    have a1 := h2 (xs.toList[i + 1]) (List.mem_iff_getElem.mpr ⟨i + 1, by rw [List.length_take]; omega, List.getElem_take⟩)
    have a2 := List.pairwise_iff_getElem.mp hr i (i + 1) hi' hj (by omega)
    omega
theorem zH {xs : Array Nat} (hr : gM xs) : SetTable.below xs 0 = 0 := by
  obtain ⟨h1, h2, h3⟩ := pI hr 0
  rcases Nat.eq_zero_or_pos (SetTable.below xs 0) with h | h
  · exact h
  · have hj : 0 < xs.toList.length := by rw [Array.length_toList]; omega
    have a1 := h2 (xs.toList[0]) (List.mem_iff_getElem.mpr ⟨0, by rw [List.length_take]; omega, List.getElem_take⟩)
    omega
theorem wD {xs : Array Nat} (hr : gM xs) {j : Nat} (h : xs[SetTable.below xs j]? ≠ some j) : gM (SetTable.insertAt xs (SetTable.below xs j) j) := by
  obtain ⟨h1, h2, h3⟩ := pI hr j
  have hn : j ∉ xs.toList := fun q => h (below_at hr q)
  unfold gM
  rw [SetTable.toList_insertAt]
  have hr' : xs.toList.Pairwise (· < ·) := hr
  rw [← List.take_append_drop (SetTable.below xs j) xs.toList] at hr'
  obtain ⟨p1, p2, p3⟩ := List.pairwise_append.mp hr'
  have h3' : ∀ b ∈ xs.toList.drop (SetTable.below xs j), j < b := fun b hb => by
    have := h3 b hb
    have : b ≠ j := fun e => hn (e ▸ List.mem_of_mem_drop hb)
    omega
  refine List.pairwise_append.mpr ⟨p1, List.pairwise_cons.mpr ⟨h3', p2⟩, fun a ha b hb => ?_⟩
  have := h2 a ha
  rcases List.mem_cons.mp hb with rfl | hb
  · exact this
  · have := h3' b hb; omega
theorem yK (n : Nat) : gM (Array.range n) := by
  unfold gM
  rw [Array.toList_range]
  exact List.pairwise_lt_range
theorem rN {t : SetTable} {at_ : Nat → Int} {h : Int} {j : Nat} {dm : Option Nat} : ∀ fuel p, (∀ d, p.dummy = some d → t.slot d = .dummy) → SetTable.probe.go t at_ h fuel p = some (.empty j dm) → t.slot j = .empty ∧ ∀ d, dm = some d → t.slot d = .dummy
  | 0, p, hp, e => by unfold SetTable.probe.go at e; cases e
  | fuel + 1, p, hp, e => by
    unfold SetTable.probe.go at e
    have adv : ∀ q : SetTable.Probe, (t.advance q).dummy = q.dummy := fun q => by
      unfold SetTable.advance; split <;> rfl
    cases hs : t.slot p.j with
    | empty =>
      rw [hs] at e
      simp only [Option.some.injEq, SetTable.Met.empty.injEq] at e
      obtain ⟨rfl, rfl⟩ := e
      exact ⟨hs, hp⟩
    | dummy =>
      rw [hs] at e
      refine rN fuel _ (fun d hd => ?_) e
      rw [adv] at hd
      cases hd
      exact hs
    | live i =>
      rw [hs] at e
      dsimp only at e
      split at e
      · cases e
      · refine rN fuel _ (fun d hd => ?_) e
        rw [adv] at hd
        exact hp d hd
theorem zr {t : SetTable} {h : Int} {j : Nat} {b : Bool} (e : t.freeSlot h = some (j, b)) : ∀ i, t.slot j ≠ .live i := by
  unfold SetTable.freeSlot at e
  split at e
  · rename_i j' dm hp
    simp only [Option.some.injEq, Prod.mk.injEq] at e
    obtain ⟨rfl, _⟩ := e
    obtain ⟨h1, h2⟩ := rN _ _ (fun d hd => by cases hd) hp
    cases dm with
    | none => intro i q; rw [show (none : Option Nat).getD j' = j' from rfl, h1] at q; cases q
    | some d => intro i q; rw [show (some d).getD j' = d from rfl, h2 d rfl] at q; cases q
  · cases e
theorem HF {t : SetTable} {j : Nat} (h : ∀ i, t.slot j ≠ .live i) : t.place[SetTable.below t.place j]? ≠ some j := fun e => by
  have := h (SetTable.below t.place j)
  unfold SetTable.slot at this
  dsimp only at this
  rw [e] at this
  simp at this
structure TabOk (led : Bool) (t : SetTable) : Prop where
  up : gM t.place
  led : t.led = led
theorem TabOk.standIn {led : Bool} {t : SetTable} (h : TabOk led t) (n : Nat) : TabOk led (t.standIn n) := ⟨yK n, h.led⟩
theorem TabOk.orStandIn {led : Bool} {t : SetTable} (h : TabOk led t) (n : Nat) : TabOk led (t.orStandIn n) := by
  unfold SetTable.orStandIn; split
  · exact h
  · exact h.standIn n
theorem TabOk.layNew {led : Bool} {t : SetTable} (h : TabOk led t) (es : Array (Int × Value)) (hs : Int) (x : Value) : TabOk led (layNew t es hs x).2.1 := by
  unfold PySem.layNew
  split
  · rename_i j wd e
    have hl := HF (zr e)
    refine TabOk.orStandIn (t := (t.put j).1) ⟨?_, h.led⟩ _
    exact wD h.up hl
  · exact h.standIn _
theorem zO (owner : Array (Option Nat)) (n : Nat) : (((List.range n).filterMap fun j => (owner.getD j none).map (j, ·)).map (·.1)).Pairwise (· < ·) := by
  rw [List.pairwise_map]
  refine List.Pairwise.filterMap _ (fun a a' hlt b hb b' hb' => ?_) List.pairwise_lt_range
  cases h1 : owner.getD a none with
  | none => rw [h1] at hb; cases hb
  | some x =>
    cases h2 : owner.getD a' none with
    | none => rw [h2] at hb'; cases hb'
    | some y =>
      rw [h1] at hb; rw [h2] at hb'
      simp only [Option.map_some, Option.some.injEq] at hb hb'
      subst hb; subst hb'
      exact hlt
theorem JH {mask finger moves : Nat} {led plain : Bool} {hs : Array Int} {t : SetTable} {o : Array Nat} (e : SetTable.laid mask finger moves led plain hs = some (t, o)) : TabOk led t := by
  unfold SetTable.laid at e
  cases hl : SetTable.layClean mask hs with
  | none => rw [hl] at e; cases e
  | some ow =>
    rw [hl] at e
    simp only [bind, Option.bind, pure, Option.some.injEq, Prod.mk.injEq] at e
    obtain ⟨rfl, _⟩ := e
    refine ⟨?_, rfl⟩
    show (List.toArray _).toList.Pairwise _
    exact zO ow _
theorem TabOk.relayAll {led : Bool} {t : SetTable} (h : TabOk led t) (es : Array (Int × Value)) (n : Nat) : TabOk led (relayAll t es n).2.1 := by
  unfold PySem.relayAll
  split
  · rename_i t' o e
    dsimp only
    split
    · unfold SetTable.relaid at e
      have := JH e
      rw [h.led] at this
      exact this
    · exact h.standIn _
  · exact h.standIn _
theorem oX {α : Type} : ∀ {l : List α} {i : Nat} (h : i < l.length), (l[i] :: l.eraseIdx i).Perm l
  | a :: l, 0, _ => .refl _
  | a :: l, i + 1, h => by
    simp only [List.length_cons] at h
    rw [List.eraseIdx_cons_succ]
    exact (List.Perm.swap a _ _).trans ((oX (l := l) (by omega)).cons a)
theorem Al {α : Type} (next : Nat → Nat) : ∀ (fuel k : Nat) (left : List α) (out : Array α), left.length = fuel → (pickOrder.go next fuel k left out).toList.Perm (out.toList ++ left)
  | 0, k, left, out, h => by
    have : left = [] := List.length_eq_zero_iff.mp h
    subst this
    unfold pickOrder.go
    rw [List.append_nil]
  | fuel + 1, k, left, out, h => by
    unfold pickOrder.go
    have hlt : next k % left.length < left.length := Nat.mod_lt _ (by omega)
    rw [List.getElem?_eq_getElem hlt]
    dsimp only
    refine (Al next fuel (k + 1) (left.eraseIdx (next k % left.length)) _ (by rw [List.length_eraseIdx_of_lt hlt]; omega)).trans ?_
    rw [Array.toList_push, List.append_assoc]
    refine List.Perm.append_left _ ?_
    exact oX hlt
theorem vJ {α : Type} (next : Nat → Nat) (xs : Array α) : (pickOrder next xs).toList.Perm xs.toList := by
  have := Al next xs.size 0 xs.toList #[] (by simp)
  rw [List.nil_append] at this
  exact this
end L2
namespace L2
open PySem PySem.Spec PyProof.Rows
noncomputable def BJ : Value → Int
  | .int k _ => k
  | _ => 0
noncomputable def lJ (w : World) : Bool := !(w.params.followText "set-order")
noncomputable def bG (es : Array (Int × Value)) (ep : Nat) (t : SetTable) : Obj := { cls := .type "set", dict := none, data := .set es ep t, slots := #[] }
structure dY (P : Program) (w : World) (es : Array (Int × Value)) (t : SetTable) (ks : List Int) : Prop where
  el : ElemsOf (intKind P w) es.toList
  tab : TabOk (lJ w) t
  fit : t.fits es.size = true
  pm : (es.toList.map fun e => BJ e.2).Perm ks
noncomputable def fJ (P : Program) (w : World) (h : Heap) (a : Addr) (ks : List Int) : Prop := ∃ es ep t, h.get? a = some (bG es ep t) ∧ dY P w es t ks
section
variable {P : Program} {w : World} {A : Around} {E : Value → Shared → Prop} {s : Shared}
theorem fJ.at {h h' : Heap} {a : Addr} {ks : List Int} (x : fJ P w h a ks) (e : ∀ o, h.get? a = some o → h'.get? a = some o) : fJ P w h' a ks := by
  obtain ⟨es, ep, t, g, r⟩ := x
  exact ⟨es, ep, t, e _ g, r⟩
theorem dY.size {es : Array (Int × Value)} {t : SetTable} {ks : List Int} (r : dY P w es t ks) : es.size = ks.length := by
  have := r.pm.length_eq
  rw [List.length_map, Array.length_toList] at this
  exact this
theorem dY.shape {es : Array (Int × Value)} {t : SetTable} {ks : List Int} (r : dY P w es t ks) {e : Int × Value} (he : e ∈ es.toList) : ∃ k tk, e = (hashInt k, .int k tk) := by
  obtain ⟨⟨k, h1, h2⟩, _⟩ := r.el e he
  obtain ⟨tk, h3⟩ := Value.isInt_shape h1
  exact ⟨k, tk, by rw [← h3]; exact Prod.ext h2 rfl⟩
theorem dY.mem {es : Array (Int × Value)} {t : SetTable} {ks : List Int} (r : dY P w es t ks) {k : Int} : k ∈ ks ↔ ∃ e ∈ es.toList, (intKind P w).is k e.2 = true := by
  rw [← r.pm.mem_iff, List.mem_map]
  constructor
  · rintro ⟨e, he, rfl⟩
    obtain ⟨k', tk, rfl⟩ := r.shape he
    exact ⟨_, he, intKind_is _ _ _ _⟩
  · rintro ⟨e, he, h⟩
    obtain ⟨k', tk, rfl⟩ := r.shape he
    refine ⟨_, he, ?_⟩
    exact ((intKind P w).inj _ k k' h (intKind_is _ _ _ _)).symm
theorem dY.found {es : Array (Int × Value)} {t : SetTable} {ks : List Int} (r : dY P w es t ks) (k : Int) : (es.toList.findIdx? fun e => (intKind P w).is k e.2).isSome = decide (k ∈ ks) := by
  cases hq : es.toList.findIdx? fun e => (intKind P w).is k e.2 with
  | none =>
    refine (decide_eq_false fun hk => ?_).symm
    obtain ⟨e, he, h⟩ := r.mem.mp hk
    have := List.findIdx?_eq_none_iff.mp hq e he
    rw [h] at this; cases this
  | some j =>
    obtain ⟨hj, hp, _⟩ := List.findIdx?_eq_some_iff_getElem.mp hq
    exact (decide_eq_true (r.mem.mpr ⟨_, List.getElem_mem hj, hp⟩)).symm
theorem Aj {a : Addr} {es es' : Array (Int × Value)} {ep : Nat} {t t' : SetTable} {h : Heap} (g : h.get? a = some (bG es ep t)) : (h.update a (Obj.putSet es' t')).get? a = some (bG es' (ep + 1) t') := by
  have := Heap.get?_update_self (Obj.putSet es' t') g (by rw [putSet_of es' t' (show (bG es ep t).data = _ from rfl)]; rfl)
  rw [putSet_of es' t' (show (bG es ep t).data = _ from rfl)] at this
  exact this
theorem pZ {n : Nat} (h : n < 4000) : n ≤ sizeLine := Nat.le_trans (Nat.le_of_lt h) (by decide)
theorem dY.perm {es es' : Array (Int × Value)} {t t' : SetTable} {ks : List Int} (r : dY P w es t ks) (hp : es'.toList.Perm es.toList) (ht : TabOk (lJ w) t') (hf : t'.fits es'.size = true) : dY P w es' t' ks :=
  ⟨r.el.perm hp, ht, hf, (hp.map _).trans r.pm⟩
theorem add_int {a : Addr} {ks : List Int} {k : Int} {tk : Tok} {Q : Bool → Shared → Prop} (x : fJ P w s.heap a ks) (hb : ks.length + 1 < 4000)
    (h : ∀ h', Heap.SameBut a s.heap h' → fJ P w h' a (if k ∈ ks then ks else ks ++ [k]) → Q (!decide (k ∈ ks)) { s with heap := h' }) : wpAny (model P w) A (setAddHashed a (.int k tk) (hashInt k)) Q E s := by
  obtain ⟨es, ep, t, g, r⟩ := x
  have sz := r.size
  have fd := r.found k
  have key : (intKind P w).is k (.int k tk) = true := intKind_is _ _ _ _
  have hsc : Value.scannable (.int k tk) = true := rfl
  have bs : byScan (.int k tk) es = true := byScan_of (knd := intKind P w) hsc (by unfold scanBound; omega) r.el
  unfold setAddHashed
  refine wpAny_holding ?_
  unfold setAddHashedIn
  refine wpAny_bind (wpAny_setState_of g rfl r.fit ?_)
  dsimp only
  rw [bs]
  simp only [↓reduceIte]
  refine wpAny_bind ?_
  unfold setAddByScan
  refine wpAny_bind (wpAny_rule (wpAny_bind (wpAny_setScan_of (knd := intKind P w) key g rfl r.fit r.el ?_)))
  cases hq : es.toList.findIdx? fun e => (intKind P w).is k e.2 with
  | some j =>
    rw [hq] at fd
    have hk : k ∈ ks := of_decide_eq_true fd.symm
    dsimp only
    refine wpAny_pure (wpAny_pure ?_)
    have := h s.heap (Heap.SameBut.refl a s.heap) (by rw [if_pos hk]; exact ⟨es, ep, t, g, r⟩)
    rw [decide_eq_true hk] at this
    exact this
  | none =>
    rw [hq] at fd
    have hk : k ∉ ks := of_decide_eq_false fd.symm
    rw [if_neg hk, decide_eq_false hk] at h
    dsimp only
    have gw : ∀ (b : Bool) {s₁ : Shared} {R : Unit → Shared → Prop}, R () s₁ → wpAny (model P w) A (match b with | true => rule "set.scan.the-table-gave-way" | false => pure ()) R E s₁ :=
      fun b s₁ R q => by cases b <;> first | exact wpAny_pure q | exact wpAny_rule q
    have pn := layNew_perm t es (hashInt k) (.int k tk)
    have fn := layNew_fits t es (hashInt k) (.int k tk)
    have tn := r.tab.layNew es (hashInt k) (.int k tk)
    show wpAny _ _ (have __do_lift := layNew t es (hashInt k) (.int k tk); _) _ _ _
    generalize hL : layNew t es (hashInt k) (.int k tk) = L at pn fn tn ⊢
    obtain ⟨es1, t1, wd, gv⟩ := L
    dsimp only at pn fn tn ⊢
    rw [Array.toList_push] at pn
    have r1 : dY P w es1 t1 (ks ++ [k]) := ⟨(r.el.push key hsc).perm pn, tn, fn, ((pn.map _).trans (by rw [List.map_append]; exact List.Perm.append_right _ r.pm))⟩
    have sz1 := r1.size
    rw [List.length_append] at sz1
    simp only [List.length_cons, List.length_nil] at sz1
    refine wpAny_bind (gw _ ?_)
    have go : wpAny (model P w) A (storeSet a es1 t1 >>= fun _ => if (!wd && t1.tooFull) = true then
        (match (relayAll t1 es1 (SetTable.grown es1.size)).2.2 with | true => rule "set.scan.the-table-gave-way" | false => pure ()) >>= fun _ => storeSet a (relayAll t1 es1 (SetTable.grown es1.size)).1 (relayAll t1 es1 (SetTable.grown es1.size)).2.1 >>= fun _ => pure (some true)
        else pure (some true)) (fun r s' => r = some true ∧ ∃ h', s' = { s with heap := h' } ∧ Heap.SameBut a s.heap h' ∧ fJ P w h' a (ks ++ [k])) E s := by
      refine wpAny_bind (wpAny_storeSet_of g rfl ?_ (pZ (by omega)))
      have g1 := Aj (es' := es1) (t' := t1) g
      have b1 := Heap.SameBut.update s.heap a (Obj.putSet es1 t1)
      split
      · refine wpAny_bind (gw _ ?_)
        have pr := relayAll_perm t1 es1 (SetTable.grown es1.size)
        have fr := relayAll_fits t1 es1 (SetTable.grown es1.size)
        have tr := r1.tab.relayAll es1 (SetTable.grown es1.size)
        have r2 := r1.perm pr tr fr
        refine wpAny_bind (wpAny_storeSet_of g1 rfl ?_ (pZ (by rw [r2.size, List.length_append]; simp only [List.length_cons, List.length_nil]; omega)))
        exact wpAny_pure ⟨rfl, _, rfl, b1.trans (Heap.SameBut.update _ a _), _, _, _, Aj g1, r2⟩
      · exact wpAny_pure ⟨rfl, _, rfl, b1, _, _, _, g1, r1⟩
    have fin : ∀ {m : Sem (Option Bool)}, wpAny (model P w) A m (fun r s' => r = some true ∧ ∃ h', s' = { s with heap := h' } ∧ Heap.SameBut a s.heap h' ∧ fJ P w h' a (ks ++ [k])) E s →
        wpAny (model P w) A m (fun r s' => wpAny (model P w) A (match r with | some added => pure added | none => setAddHashedIn a (.int k tk) (hashInt k) 99999) Q E s') E s := fun hm =>
      wpAny_mono hm (fun r s' hq__ => by obtain ⟨e1, h', e2, b, q⟩ := hq__; subst e1 e2; exact wpAny_pure (h h' b q)) fun _ _ z => z
    refine fin ?_
    by_cases hp : t1.plain = true
    · rw [if_pos hp, hashByValue_scannable 8 hsc]
      refine wpAny_bind (wpAny_pure ?_)
      exact go
    · rw [if_neg hp]
      refine wpAny_bind (wpAny_pure ?_)
      exact go
end
end L2
namespace L2
open PySem PySem.Spec PyProof.Rows
noncomputable def gC (σ : List Int) (v : Int) : List Int := if v ∈ σ then σ else σ ++ [v]
noncomputable def ddl (ns : List Int) : List Int := ns.foldl gC []
theorem IK (σ : List Int) (v : Int) : σ.length ≤ (gC σ v).length := by
  unfold gC; split
  · exact Nat.le_refl _
  · rw [List.length_append]; exact Nat.le_add_right _ _
theorem GD (ns : List Int) : ∀ σ : List Int, σ.length ≤ (ns.foldl gC σ).length := by
  induction ns with
  | nil => exact fun σ => Nat.le_refl _
  | cons n r ih => exact fun σ => Nat.le_trans (IK σ n) (ih _)
theorem HY (ns : List Int) (v : Int) : ddl (ns ++ [v]) = gC (ddl ns) v := by unfold ddl; rw [List.foldl_append]; rfl
theorem Bx (ns ms : List Int) : (ddl ns).length ≤ (ddl (ns ++ ms)).length := by unfold ddl; rw [List.foldl_append]; exact GD ms _
theorem Ga {k : Int} (ns : List Int) : ∀ σ : List Int, k ∈ ns.foldl gC σ ↔ k ∈ σ ∨ k ∈ ns := by
  induction ns with
  | nil => intro σ; simp
  | cons n r ih =>
    intro σ
    rw [List.foldl_cons, ih]
    unfold gC
    split
    · rename_i h
      constructor
      · rintro (q | q)
        · exact .inl q
        · exact .inr (List.mem_cons_of_mem _ q)
      · rintro (q | q)
        · exact .inl q
        · rcases List.mem_cons.mp q with rfl | q
          · exact .inl h
          · exact .inr q
    · rw [List.mem_append, List.mem_singleton, List.mem_cons, or_assoc]
theorem uZ {k : Int} {ns : List Int} : k ∈ ddl ns ↔ k ∈ ns := by unfold ddl; rw [Ga]; simp
theorem z8 (ns : List Int) : ∀ σ : List Int, σ.Nodup → (ns.foldl gC σ).Nodup := by
  induction ns with
  | nil => exact fun σ h => h
  | cons n r ih =>
    intro σ h
    refine ih _ ?_
    unfold gC
    split
    · exact h
    · rename_i hn
      refine List.nodup_append.mpr ⟨h, by simp, fun a ha b hb e => ?_⟩
      rw [List.mem_singleton] at hb
      exact hn (by rw [← hb, ← e]; exact ha)
theorem qt (ns : List Int) : (ddl ns).Nodup := z8 ns [] List.nodup_nil
theorem wI (ns : List Int) : (ddl ns).length ≤ ns.length := by
  have key : ∀ (ns σ : List Int), (ns.foldl gC σ).length ≤ σ.length + ns.length := fun ns => by
    induction ns with
    | nil => exact fun σ => Nat.le_refl _
    | cons n r ih =>
      intro σ
      have h1 := ih (gC σ n)
      have h2 : (gC σ n).length ≤ σ.length + 1 := by
        unfold gC; split
        · omega
        · rw [List.length_append]; exact Nat.le_refl _
      rw [List.foldl_cons, List.length_cons]; omega
  have := key ns []
  rw [List.length_nil, Nat.zero_add] at this
  exact this
theorem Af : entryFor table "set.update.loop" = some Builtin.«set.update.loop» := entryFor_of_tree (by kernel_rfl)
theorem yp : plainId "set.update.loop" = true := by decide +kernel
section
variable {P : Program} {w : World} {A : Around} {R : Result → Shared → Prop} {I : Addr} {fp wr : List Addr} {G : Array GenState → Array GenState → Prop} {n : Nat} {Pv : Nat → Value → Prop} {St : Nat → Shared → Prop}
theorem Ik (W : WalksS P w A.in1 I fp wr G n Pv St) (S : Addr) (hS : S ∉ fp) (ns : List Int) (hn : ns.length = n) (hv : ∀ i v, i < n → Pv i v → ∃ t, v = .int (ns.getD i 0) t) (hb : (ddl ns).length + 1 < 4000) :
    ∀ (k i : Nat) (s : Shared), n - i = k → i ≤ n → St i s → fJ P w s.heap S (ddl (ns.take i)) →
      (∀ s', Moved (S :: wr) G s s' → fJ P w s'.heap S (ddl ns) → R (.ok (.ret .none)) s') →
      codeAny (model P w) A (.builtin "set.update.loop" ⟨[.ref S, .ref I], []⟩) R s := by
  have up : ∀ b ∈ wr, b ∈ S :: wr := fun b h => List.mem_cons_of_mem _ h
  have sw : S ∉ wr := fun h => hS (W.sub _ h)
  intro k
  induction k with
  | zero =>
    intro i s hk hi st x hR
    obtain rfl : i = n := by omega
    rw [List.take_of_length_le (by omega)] at x
    refine codeAny_builtin Af ?_
    rw [Around.under_plainId yp _]
    show wpAny _ A.in1 (pyNext (.ref I) >>= _) _ _ s
    exact wpAny_bind (W.done s _ _ st fun s' hm => wpAny_pure (hR s' (hm.mono up) (x.at fun o e => hm.heap S o sw e)))
  | succ k ih =>
    intro i s hk hi st x hR
    have hlt : i < n := by omega
    refine codeAny_builtin Af ?_
    rw [Around.under_plainId yp _]
    show wpAny _ A.in1 (pyNext (.ref I) >>= _) _ _ s
    refine wpAny_bind (W.item i s _ _ hlt st fun v s' pv st' hm => ?_)
    obtain ⟨t, rfl⟩ := hv i v hlt pv
    have x' := x.at (h' := s'.heap) fun o e => hm.heap S o sw e
    have et : ns.take (i + 1) = ns.take i ++ [ns.getD i 0] := by
      rw [List.take_add_one, List.getD_eq_getElem?_getD, List.getElem?_eq_getElem (by omega)]; rfl
    have le1 : (ddl (ns.take i)).length ≤ (ddl ns).length := by
      have := Bx (ns.take i) (ns.drop i)
      rwa [List.take_append_drop] at this
    show wpAny _ A.in1 (holding [Value.int (ns.getD i 0) t] (setAdd S (.int (ns.getD i 0) t)) >>= _) _ _ s'
    refine wpAny_bind (wpAny_holding ?_)
    unfold setAdd
    refine wpAny_holding (wpAny_bind (wpAny_pyHash_int ?_))
    refine add_int (s := { s' with toks := s'.toks + 1 }) x' (by omega) fun h' sb x2 => ?_
    have x3 : fJ P w h' S (ddl (ns.take (i + 1))) := by rw [et, HY]; exact x2
    refine wpAny_pure ⟨plainId_quiet yp _, ih (i + 1) _ (by omega) hlt (W.frame _ s' _ _ st' (Nat.le_succ _) fun b hb' o e => ?_) x3 fun s2 hm2 x4 => ?_⟩
    · rw [sb.2 b (fun z : b = S => hS (by rw [← z]; exact hb'))]; exact e
    · refine hR s2 (Moved.trans W.gtrans ((hm.mono up).then_heap (Nat.le_succ _) fun b o hb' e => ?_) hm2) x4
      rw [sb.2 b (fun z : b = S => hb' (by rw [z]; exact List.mem_cons_self))]; exact e
end
section
variable {P : Program} {w : World} {A : Around} {E : Value → Shared → Prop} {s : Shared}
theorem Dz : dY P w #[] (.fresh 0 0 (lJ w)) [] := ⟨(fun e h => nomatch h), ⟨List.Pairwise.nil, rfl⟩, rfl, List.Perm.nil⟩
theorem Ab (a : Value) : checkBuiltinCall "set.__new__" ⟨[.type "set", a], []⟩ = pure () := by kernel_rfl
theorem xO (a : Value) : checkTypeCall "set" ⟨[a], []⟩ = pure () := by kernel_rfl
theorem Jm (a : Value) {Q : Value → Shared → Prop} (h : Q (.ref s.heap.objs.size) { s with heap := s.heap.push (bG #[] 0 (.fresh 0 0 (lJ w))) }) :
    codeAny (model P w) A (.call (.builtin "set.__new__") ⟨[.type "set", a], []⟩) (wants Q E) s := by
  refine codeAny_of_tree ?_
  show wpAny _ A.in1 (checkBuiltinCall "set.__new__" ⟨[.type "set", a], []⟩ >>= fun _ => again (.builtin "set.__new__" ⟨[.type "set", a], []⟩)) _ _ s
  refine wpAny_bind (wpAny_of_eq (Ab a) (wpAny_pure ⟨plainId_quiet F.plain_set_new _, codeAny_builtin F.entry_set_new ?_⟩))
  rw [Around.under_plainId F.plain_set_new _]
  unfold Builtin.«set.__new__»
  unfold Builtin.Frozenset.newClass
  have hsb := sub_set_self
  obtain ⟨hp, g, d, tk, os⟩ := s
  dsimp only
  wp_walk
  refine wpAny_askSetting (wpAny_pure ?_)
  dsimp only
  simp only [newObj]
  exact wpAny_bind (wpAny_alloc (wpAny_pure (wpAny_pure h)))
theorem xF {M : Model} {self a : Value} {Q : Unit → Shared → Prop} (hT : s.TypeIs self "set") (hQ : Q () s) : wpAny M A (checkBuiltinCall "set.__init__" ⟨[self, a], []⟩) Q E s := by
  simp only [checkBuiltinCall, kind_set_init, split_set_init, sig_set_init]
  refine wpAny_bind (wpAny_isInstance hT sub_set_self ?_)
  simp only [Bool.not_true, Bool.false_eq_true, if_false]
  unfold Bind.checkArgs
  dsimp only
  refine wpAny_bind (m := Bind.printed "set" true _ _) (printed_name (by decide) (wpAny_bind (m := Bind.printed "*" false _ _) (printed_star (self := self) rfl hT fun short => ?_)))
  have e0 : (Manifest.Receiver.self == Manifest.Receiver.none) = false := by decide
  rw [show (if (Manifest.Receiver.self == Manifest.Receiver.none) = true then [self, a].length else [self, a].length - 1) = 1 by simp [e0]]
  simp only [List.map_nil]
  have e1 : (Manifest.ParamKind.posOnly == Manifest.ParamKind.posOnly) = true := by decide
  have e2 : (Manifest.ParamKind.posOnly == Manifest.ParamKind.posOrKw) = false := by decide
  have e3 : (Manifest.ParamKind.posOnly == Manifest.ParamKind.varPos) = false := by decide
  rw [show Bind.check ⟨.positional, "set", "*", .self, [⟨"iterable", .posOnly, false⟩]⟩ "set" short 1 [] = pure () by simp [Bind.check, Bind.checkCount, Bind.isPositional, e1, e2, e3]]
  exact wpAny_pure hQ
theorem intAt : ∀ {vs : List Value} {ns : List Int}, IntsAre vs ns → ∀ {i : Nat} {v : Value}, vs[i]? = some v → ∃ t, v = .int (ns.getD i 0) t
  | _, _, .nil, i, v, h => by simp at h
  | _, _, .cons n t r, 0, v, h => ⟨t, by rw [← Option.some.inj h]; rfl⟩
  | _, _, .cons n t r, i + 1, v, h => intAt r (by simpa using h)
theorem qK : ∀ {vs : List Value} {ns : List Int}, IntsAre vs ns → vs.length = ns.length
  | _, _, .nil => rfl
  | _, _, .cons n t r => by rw [List.length_cons, List.length_cons, qK r]
structure mF (P : Program) (w : World) (A : Around) (s : Shared) (l : Addr) (T : String) (ns : List Int) : Prop where
  ty : s.TypeIs (.ref l) T
  n1 : isSubtype (.type T) (.type "set") = pure false
  n2 : isSubtype (.type T) (.type "frozenset") = pure false
  n3 : (Value.type T == Value.type "dict") = false
  it : ∀ (s' : Shared) (Q : Value → Shared → Prop) (E : Value → Shared → Prop) (A' : Around), A'.handled = none → (∀ b o, s.heap.get? b = some o → s'.heap.get? b = some o) →
    (∀ (h' : Heap) (fp wr : List Addr) (Pv : Nat → Value → Prop) (St : Nat → Shared → Prop), (∀ b o, s'.heap.get? b = some o → h'.get? b = some o) → (∀ b ∈ fp, b = s'.heap.objs.size ∨ b < s.heap.objs.size) → (∀ b ∈ wr, s'.heap.objs.size ≤ b) →
      (∀ A2 : Around, A2.handled = none → WalksS P w A2 s'.heap.objs.size fp wr (fun a b => b = a) ns.length Pv St) → (∀ i v, i < ns.length → Pv i v → ∃ t, v = .int (ns.getD i 0) t) → St 0 { s' with heap := h' } → Q (.ref s'.heap.objs.size) { s' with heap := h' }) →
    wpAny (model P w) A' (pyIter (.ref l)) Q E s'
theorem wZ {l : Addr} {T : String} {ns : List Int} {Q : Value → Shared → Prop} (hh : A.handled = none) (x : mF P w A s l T ns) (hb : (ddl ns).length + 1 < 4000)
    (h : ∀ (h' : Heap) (tk : Nat), fJ P w h' s.heap.objs.size (ddl ns) → (∀ b o, s.heap.get? b = some o → h'.get? b = some o) → Q (.ref s.heap.objs.size) { s with heap := h', toks := tk }) :
    wpAny (model P w) A (call (.type "set") [.ref l]) Q E s := by
  obtain ⟨c, tl, hmro⟩ := F.called_set.mro
  have q1 := F.called_set.made
  have q2 := F.called_set.sub
  refine wpAny_call (codeAny_of_tree ?_)
  show wpAny _ _ (callAny (.type "set") _) _ _ _
  refine wpAny_pure ⟨Code.quiet_builtin _ (by decide +kernel), codeAny_builtin F.entry_type_call ?_⟩
  rw [Around.under_plain (weight_type_call_type "set" [.ref l] []) rfl]
  have q3 := F.called_set.notType
  have q4 := F.called_set.canCreate
  have q5 := xO (.ref l)
  repeat any_goals first | wp_step | assumption
  refine codeAny_mono (Jm (.ref l) (E := E) (Q := fun obj s₁ => obj = .ref s.heap.objs.size ∧ s₁ = { s with heap := s.heap.push (bG #[] 0 (.fresh 0 0 (lJ w))) }) ⟨rfl, rfl⟩) fun r s₁ hr => ?_
  cases r with
  | error e => exact hr
  | ok fl =>
    cases fl with
    | ret obj =>
      obtain ⟨rfl, rfl⟩ := hr
      have g0 : (s.heap.push (bG #[] 0 (.fresh 0 0 (lJ w)))).get? s.heap.objs.size = some (bG #[] 0 (.fresh 0 0 (lJ w))) := Heap.get?_push_size _ rfl
      have hT : Shared.TypeIs { s with heap := s.heap.push (bG #[] 0 (.fresh 0 0 (lJ w))) } (.ref s.heap.objs.size) "set" := ⟨_, g0, rfl⟩
      have q6 := F.called_set.init.lookup
      have q7 := F.called_set.init.bind (.ref s.heap.objs.size)
      repeat any_goals first | wp_step | assumption
      refine codeAny_mono (codeAny_call_builtin (R := wants (fun r s₂ => r = .none ∧ ∃ h' tk, s₂ = { s with heap := h', toks := tk } ∧ fJ P w h' s.heap.objs.size (ddl ns) ∧ (∀ b o, s.heap.get? b = some o → h'.get? b = some o)) E) F.called_set.init.plain F.entry_set_init (xF hT ?_)) fun r₂ s₂ hr₂ => ?_
      · have hTl : Shared.TypeIs { s with heap := s.heap.push (bG #[] 0 (.fresh 0 0 (lJ w))) } (.ref l) T := by
          obtain ⟨o, ho, hc⟩ := x.ty
          exact ⟨o, Heap.get?_push_of_some _ ho, hc⟩
        have n1 := x.n1
        have n2 := x.n2
        have n3 := x.n3
        unfold Builtin.«set.__init__» noKeywords
        unfold Builtin.Frozenset.updateFrom
        generalize hq : pyIter = PI
        wp_walk
        subst hq
        have hs3 : A.in1.in1.in1.handled = none := by simp [hh]
        refine x.it _ _ _ _ (by simp [hh]) (fun b o e => Heap.get?_push_of_some _ e) fun h' fp wr Pv St hk hfp hwr W hv st => ?_
        have hsz : (s.heap.push (bG #[] 0 (.fresh 0 0 (lJ w)))).objs.size = s.heap.objs.size + 1 := Heap.size_push ..
        refine wpAny_bind (wpAny_runValue (Ik (W _ (by simp [hh])) s.heap.objs.size (fun hm => ?_) ns rfl hv hb ns.length 0 _ (by omega) (Nat.zero_le _) st ⟨_, _, _, hk _ _ g0, Dz⟩ fun s' hm x' => ?_))
        · rcases hfp _ hm with z | z
          · rw [hsz] at z; exact absurd z (Nat.ne_of_lt (Nat.lt_succ_self _))
          · exact absurd z (Nat.lt_irrefl _)
        · obtain ⟨h2, g', d', tk', os'⟩ := s'
          obtain rfl : g' = s.gens := hm.gens
          obtain rfl : d' = s.drawn := hm.drawn
          obtain rfl : os' = s.os := hm.os
          refine wpAny_pure (wpAny_pure ⟨rfl, h2, tk', rfl, x', fun b o e => ?_⟩)
          have hlt := Heap.lt_size e
          refine hm.heap b o (fun z => ?_) (hk _ _ (Heap.get?_push_of_some _ e))
          rcases List.mem_cons.mp z with z | z
          · exact absurd z (Nat.ne_of_lt hlt)
          · have := hwr b z; rw [hsz] at this; exact absurd (Nat.lt_of_lt_of_le (Nat.lt_succ_of_lt hlt) this) (Nat.lt_irrefl _)
      · cases r₂ with
        | error e => exact hr₂
        | ok fl₂ =>
          cases fl₂ with
          | ret r =>
            obtain ⟨rfl, h', tk, rfl, x', k'⟩ := hr₂
            repeat any_goals first | wp_step | assumption
            exact h _ _ x' k'
          | _ => exact hr₂.elim
    | _ => exact hr.elim
theorem mF.list {l : Addr} {items : Array Value} {ns : List Int} (hl : s.heap.IsList l items) (hi : IntsAre items.toList ns) : mF P w A s l "list" ns where
  ty := hl.typeIs
  n1 := by rw [isSubtype_type]; kernel_rfl
  n2 := by rw [isSubtype_type]; kernel_rfl
  n3 := by decide
  it := fun s' Q E A' hh hk hQ => by
    have hl' : s'.heap.IsList l items := by
      obtain ⟨o, ho, r⟩ := hl
      exact ⟨o, hk _ _ ho, r⟩
    have hlt : l < s'.heap.objs.size := by obtain ⟨o, ho, r⟩ := hl'; exact Heap.lt_size ho
    have hls : l < s.heap.objs.size := by obtain ⟨o, ho, r⟩ := hl; exact Heap.lt_size ho
    have en : ns.length = items.size := by rw [← qK hi, Array.length_toList]
    refine wpAny_pyIter_list hl' (hQ _ [s'.heap.objs.size, l] [s'.heap.objs.size] (fun i v => items[i]? = some v) (fun i s2 => s2.heap.IsListIter s'.heap.objs.size l i ∧ s2.heap.IsList l items) (fun b o e => Heap.get?_push_of_some _ e) (fun b hb => ?_) (fun b hb => ?_) (fun A2 h2 => ?_) (fun i v _ hv => ?_) ⟨⟨_, Heap.get?_push_size _ rfl, rfl, rfl⟩, hl'.push _⟩)
    · rcases List.mem_cons.mp hb with z | z
      · exact .inl z
      · exact .inr (by rw [List.mem_singleton.mp z]; exact hls)
    · rw [List.mem_singleton.mp hb]; exact Nat.le_refl _
    · rw [en]; exact (Walks.list h2 _ l (Nat.ne_of_lt hlt) items).toS
    · exact intAt hi (by rw [Array.getElem?_toList]; exact hv)
theorem mF.tuple {l : Addr} {items : Array Value} {ns : List Int} (hl : s.heap.IsTuple l items) (hi : IntsAre items.toList ns) : mF P w A s l "tuple" ns where
  ty := hl.typeIs
  n1 := by rw [isSubtype_type]; kernel_rfl
  n2 := by rw [isSubtype_type]; kernel_rfl
  n3 := by decide
  it := fun s' Q E A' hh hk hQ => by
    have hl' : s'.heap.IsTuple l items := by
      obtain ⟨o, ho, r⟩ := hl
      exact ⟨o, hk _ _ ho, r⟩
    have hlt : l < s'.heap.objs.size := by obtain ⟨o, ho, r⟩ := hl'; exact Heap.lt_size ho
    have hls : l < s.heap.objs.size := by obtain ⟨o, ho, r⟩ := hl; exact Heap.lt_size ho
    have en : ns.length = items.size := by rw [← qK hi, Array.length_toList]
    refine wpAny_pyIter_tuple hl' (hQ _ [s'.heap.objs.size, l] [s'.heap.objs.size] (fun i v => items[i]? = some v) (fun i s2 => s2.heap.IsTupleIter s'.heap.objs.size l i ∧ s2.heap.IsTuple l items) (fun b o e => Heap.get?_push_of_some _ e) (fun b hb => ?_) (fun b hb => ?_) (fun A2 h2 => ?_) (fun i v _ hv => ?_) ⟨⟨_, Heap.get?_push_size _ rfl, rfl, rfl⟩, hl'.push _⟩)
    · rcases List.mem_cons.mp hb with z | z
      · exact .inl z
      · exact .inr (by rw [List.mem_singleton.mp z]; exact hls)
    · rw [List.mem_singleton.mp hb]; exact Nat.le_refl _
    · rw [en]; exact (Walks.tuple h2 _ l (Nat.ne_of_lt hlt) items).toS
    · exact intAt hi (by rw [Array.getElem?_toList]; exact hv)
end
end L2
namespace L2
open PySem PySem.Spec PyProof.Rows
theorem rF : Slot "set" "__iter__" "set.__iter__" :=
  .of (owner := "set") (n := "__iter__") (by rw [typeLookup_type, builtinLookup_eq_fast]; kernel_rfl) (by decide +kernel) (by decide +kernel) (by decide +kernel)
    (by first | exact .inl (by decide +kernel) | exact .inr (by decide +kernel)) (by rw [isSubtype_type]; kernel_rfl)
theorem BR : entryFor table "set.__iter__" = some Builtin.«frozenset.__iter__» :=
  entryFor_alias (id' := "frozenset.__iter__") (by kernel_rfl) (by first | rfl | decide +kernel) (by decide +kernel) (by kernel_rfl)
theorem Cj (a : Value) : argsOk "set.__iter__" ⟨[a], []⟩ := by
  unfold argsOk; rw [signature?_of (id := "set.__iter__") (n := ['_', '_', 'r', 'e', 't', 'i', '_', '_']) (o := ['t', 'e', 's']) (by kernel_rfl) F.owner_set]; kernel_rfl
theorem yf : Manifest.owners.lookup (String.ofList ['r', 'o', 't', 'a', 'r', 'e', 't', 'i', '_', 't', 'e', 's'].reverse) = some Manifest.sig_set_iterator := by kernel_rfl
theorem bN : Slot "set_iterator" "__next__" "set_iterator.__next__" :=
  .of (owner := "set_iterator") (n := "__next__") (by rw [typeLookup_type, builtinLookup_eq_fast]; kernel_rfl) (by decide +kernel) (by decide +kernel) (by decide +kernel)
    (by first | exact .inl (by decide +kernel) | exact .inr (by decide +kernel)) (by rw [isSubtype_type]; kernel_rfl)
theorem j9 : entryFor table "set_iterator.__next__" = some Builtin.«set_iterator.__next__» := entryFor_of_tree (by kernel_rfl)
theorem km (a : Value) : argsOk "set_iterator.__next__" ⟨[a], []⟩ := by
  unfold argsOk; rw [signature?_of (id := "set_iterator.__next__") (n := ['_', '_', 't', 'x', 'e', 'n', '_', '_']) (o := ['r', 'o', 't', 'a', 'r', 'e', 't', 'i', '_', 't', 'e', 's']) (by kernel_rfl) yf]; kernel_rfl
theorem jD : Slot "set_iterator" "__iter__" "set_iterator.__iter__" :=
  .of (owner := "set_iterator") (n := "__iter__") (by rw [typeLookup_type, builtinLookup_eq_fast]; kernel_rfl) (by decide +kernel) (by decide +kernel) (by decide +kernel)
    (by first | exact .inl (by decide +kernel) | exact .inr (by decide +kernel)) (by rw [isSubtype_type]; kernel_rfl)
theorem rE : entryFor table "set_iterator.__iter__" = some Builtin.«dict_keyiterator.__iter__» :=
  entryFor_alias (id' := "dict_keyiterator.__iter__") (by kernel_rfl) (by first | rfl | decide +kernel | (unfold String.splitOn; simp +decide [String.splitOnAux])) (by decide +kernel) (by kernel_rfl)
theorem qY (a : Value) : argsOk "set_iterator.__iter__" ⟨[a], []⟩ := by
  unfold argsOk; rw [signature?_of (id := "set_iterator.__iter__") (n := ['_', '_', 'r', 'e', 't', 'i', '_', '_']) (o := ['r', 'o', 't', 'a', 'r', 'e', 't', 'i', '_', 't', 'e', 's']) (by kernel_rfl) yf]; kernel_rfl
noncomputable def eE (first : Value) (i S n ep : Nat) : Obj := { cls := .type "set_iterator", dict := none, data := .fields #[first, rawInt (i : Nat), .ref S, rawInt (n : Nat), rawInt (ep : Nat)], slots := #[] }
structure tZ (s s' : Shared) : Prop where
  heap : ∀ b o, s.heap.get? b = some o → s'.heap.get? b = some o
  gens : s'.gens = s.gens
  os : s'.os = s.os
section
variable {P : Program} {w : World} {A : Around} {E : Value → Shared → Prop} {s : Shared}
theorem Bs {src : Source} {n : Nat} {Q : Nat → Shared → Prop} {M : Model} (hn : n ≠ 0) (h : ∀ i, i < n → Q i { s with drawn := s.drawn.bump src }) : wpAny M A (choose src n) Q E s := fun Γ p _ => by
  show Sem.wp M Γ (.choose src n .pure) _ _ p s
  rw [Sem.wp_choose]
  exact ⟨hn, h _ (Nat.mod_lt _ (Nat.pos_of_ne_zero hn))⟩
theorem yg {M : Model} {α : Type} : ∀ (n : Nat) (xs : List α) (s : Shared) {Q : List α → Shared → Prop}, xs.length = n → (∀ ys s', ys.Perm xs → s'.heap = s.heap → s'.gens = s.gens → s'.os = s.os → s'.toks = s.toks → Q ys s') → wpAny M A (drawOrder n xs) Q E s
  | 0, xs, s, Q, hl, h => by
    have : xs = [] := List.length_eq_zero_iff.mp hl
    subst this
    unfold drawOrder
    exact wpAny_pure (h [] s (.refl _) rfl rfl rfl rfl)
  | n + 1, [], s, Q, hl, h => by cases hl
  | n + 1, x :: xs, s, Q, hl, h => by
    unfold drawOrder
    refine wpAny_bind (Bs (by rw [hl]; exact Nat.succ_ne_zero _) fun i hi => ?_)
    rw [List.getElem?_eq_getElem hi]
    dsimp only
    refine wpAny_bind (yg n _ _ (by rw [List.length_eraseIdx_of_lt hi, hl]; rfl) fun ys s' hp h1 h2 h3 h4 => wpAny_pure ?_)
    exact h _ s' ((hp.cons _).trans (oX hi)) h1 h2 h3 h4
theorem texts_any {M : Model} {Q : Bool → Shared → Prop} (h : Q (M.w.params.followText "set-order") s) : wpAny M A setsByText Q E s := by
  unfold setsByText
  exact wpAny_bind (wpAny_askSetting (wpAny_pure h))
noncomputable def placeAt (t : SetTable) (i : Nat) : Nat := match i with
  | 0 => 0
  | i + 1 => t.place.getD i 0 + 1
theorem zP {t : SetTable} (h : gM t.place) : ∀ {i : Nat}, i ≤ t.place.size → SetTable.below t.place (placeAt t i) = i
  | 0, _ => zH h
  | i + 1, hi => by
    have e : placeAt t (i + 1) = t.place[i]'hi + 1 := by
      show t.place.getD i 0 + 1 = _
      rw [Array.getD_eq_getD_getElem?, Array.getElem?_eq_getElem (by omega)]; rfl
    rw [e]
    exact Dm h (by omega)
structure Asks (P : Program) (w : World) (S : Addr) (es : Array (Int × Value)) (ep : Nat) (t : SetTable) (sl : Nat → Nat) (W : List Value) : Prop where
  len : W.length = es.size
  item : ∀ (A : Around) (E : Value → Shared → Prop) (s : Shared) (i : Nat) (v : Value) (Q : Option (Value × Nat) → Shared → Prop), s.heap.get? S = some (bG es ep t) → W[i]? = some v → Q (some (v, sl (i + 1))) s → wpAny (model P w) A (setNext S (sl i) i ep) Q E s
  done : ∀ (A : Around) (E : Value → Shared → Prop) (s : Shared) (Q : Option (Value × Nat) → Shared → Prop), s.heap.get? S = some (bG es ep t) → Q none s → wpAny (model P w) A (setNext S (sl es.size) es.size ep) Q E s
theorem Dw {S : Addr} {es : Array (Int × Value)} {ep : Nat} {t : SetTable} (hf : t.fits es.size = true) (hw : w.params.followText "set-order" = true) :
    Asks P w S es ep t (fun _ => 0) ((pickOrder (w.params.setOrder S ep) es).toList.map (·.2)) := by
  have hl : ((pickOrder (w.params.setOrder S ep) es).toList.map (·.2)).length = es.size := by
    rw [List.length_map, (vJ _ es).length_eq, Array.length_toList]
  have key : ∀ (A : Around) (E : Value → Shared → Prop) (s : Shared) (i : Nat) (Q : Option (Value × Nat) → Shared → Prop), s.heap.get? S = some (bG es ep t) →
      Q ((((pickOrder (w.params.setOrder S ep) es).toList.map (·.2))[i]?).map fun v => (v, 0)) s → wpAny (model P w) A (setNext S 0 i ep) Q E s := fun A E s i Q g h => by
    unfold setNext
    refine wpAny_bind (wpAny_setState_of g rfl hf ?_)
    dsimp only
    refine wpAny_bind (texts_any ?_)
    rw [show (model P w).w.params.followText "set-order" = true from hw]
    simp only [if_true, bne_self_eq_false, Bool.false_eq_true, if_false]
    refine wpAny_bind ?_
    unfold setWalk
    refine wpAny_bind (wpAny_setState_of g rfl hf ?_)
    dsimp only
    refine wpAny_bind (texts_any ?_)
    rw [show (model P w).w.params.followText "set-order" = true from hw]
    simp only [if_true]
    refine wpAny_bind (wpAny_askSetting (wpAny_pure (wpAny_pure ?_)))
    rw [List.getElem?_map, Array.getElem?_toList, Option.map_map] at h
    exact h
  refine ⟨hl, fun A E s i v Q g hv h => key A E s i Q g (by rw [hv]; exact h), fun A E s Q g h => key A E s _ Q g ?_⟩
  rw [List.getElem?_eq_none (by rw [hl]; exact Nat.le_refl _)]
  exact h
theorem CZ {S : Addr} {es : Array (Int × Value)} {ep : Nat} {t : SetTable} (hf : t.fits es.size = true) (hw : w.params.followText "set-order" = false) (ht : TabOk (lJ w) t) (hd : (!t.plain && decide (es.size > 1)) = false) :
    Asks P w S es ep t (placeAt t) (es.toList.map (·.2)) := by
  have hps : t.place.size = es.size := by
    simp only [SetTable.fits, Bool.and_eq_true, beq_iff_eq] at hf
    exact hf.1
  have hled : t.led = true := by rw [ht.led]; unfold lJ; rw [hw]; rfl
  have key : ∀ (A : Around) (E : Value → Shared → Prop) (s : Shared) (i : Nat) (Q : Option (Value × Nat) → Shared → Prop), s.heap.get? S = some (bG es ep t) → i ≤ es.size →
      Q (match es[i]?, t.place[i]? with | some (_, x), some j => some (x, j + 1) | _, _ => none) s → wpAny (model P w) A (setNext S (placeAt t i) i ep) Q E s := fun A E s i Q g hi h => by
    unfold setNext
    refine wpAny_bind (wpAny_setState_of g rfl hf ?_)
    dsimp only
    refine wpAny_bind (texts_any ?_)
    rw [show (model P w).w.params.followText "set-order" = false from hw]
    simp only [Bool.false_eq_true, if_false]
    show wpAny _ _ (if (!t.plain && decide (es.size > 1)) = true then _ else _) _ _ _
    rw [hd]
    simp only [Bool.false_eq_true, if_false]
    refine wpAny_bind ?_
    show wpAny _ _ (if (!t.led && !es.isEmpty) = true then _ else _) _ _ _
    rw [hled]
    simp only [Bool.not_true, Bool.false_and, Bool.false_eq_true, if_false]
    refine wpAny_pure ?_
    rw [zP ht.up (by omega)]
    exact wpAny_pure h
  refine ⟨by rw [List.length_map, Array.length_toList], fun A E s i v Q g hv h => ?_, fun A E s Q g h => key A E s _ Q g (Nat.le_refl _) ?_⟩
  · rw [List.getElem?_map, Array.getElem?_toList] at hv
    cases he : es[i]? with
    | none => rw [he] at hv; cases hv
    | some e =>
      rw [he] at hv
      cases hv
      have hi : i < es.size := (Array.getElem?_eq_some_iff.mp he).1
      refine key A E s i Q g (by omega) ?_
      rw [he, Array.getElem?_eq_getElem (by omega)]
      have e2 : placeAt t (i + 1) = t.place[i]'(by omega) + 1 := by
        show t.place.getD i 0 + 1 = _
        rw [Array.getD_eq_getD_getElem?, Array.getElem?_eq_getElem (by omega)]; rfl
      rw [e2] at h
      exact h
  · rw [Array.getElem?_eq_none (Nat.le_refl _)]
    exact h
theorem dJ {I S i n ep : Nat} {f : Value} (g : s.heap.get? I = some (eE f i S n ep)) : s.TypeIs (.ref I) "set_iterator" := ⟨_, g, rfl⟩
theorem vH {a : Addr} {f : Value} {i S n ep : Nat} {k : Nat} {x : Value} {h : Heap} (g : h.get? a = some (eE f i S n ep)) : (h.update a (Obj.mapFields (·.setIfInBounds k x))).get? a = some { eE f i S n ep with data := .fields (#[f, rawInt (i : Nat), .ref S, rawInt (n : Nat), rawInt (ep : Nat)].setIfInBounds k x) } :=
  Heap.get?_update_self _ g rfl
theorem next_item {I S i ep : Nat} {es : Array (Int × Value)} {t : SetTable} {sl : Nat → Nat} {W : List Value} {v : Value} {Q : Option Value → Shared → Prop} (g : s.heap.get? I = some (eE (rawInt (sl i : Nat)) i S es.size ep)) (gs : s.heap.get? S = some (bG es ep t)) (hf : t.fits es.size = true)
    (K : Asks P w S es ep t sl W) (hv : W[i]? = some v) (hQ : ∀ h', h'.get? I = some (eE (rawInt (sl (i + 1) : Nat)) (i + 1) S es.size ep) → Heap.SameBut I s.heap h' → Q (some v) { s with heap := h' }) : wpAny (model P w) A (pyNext (.ref I)) Q E s := by
  unfold pyNext
  refine wpAny_bind (wpAny_attempt (wpAny_callSpecial?_slot (name := Str.ofString "__next__") (dJ g) bN (wpAny_call_entry bN (dJ g) j9 ?_ (km _))))
  unfold Builtin.«set_iterator.__next__»
  refine wpAny_bind (wpAny_of_eq (a := (Value.ref I, [])) rfl (wpAny_bind (wpAny_fieldsOf g rfl ?_)))
  dsimp only [eE, rawInt]
  refine wpAny_bind (wpAny_setEntries_of gs rfl hf ?_)
  simp only [bne_self_eq_false, Bool.false_eq_true, if_false, Int.toNat_natCast]
  refine wpAny_bind (K.item _ _ _ i v _ gs hv ?_)
  dsimp only
  have g1 := vH (k := 0) (x := rawInt (sl (i + 1) : Nat)) g
  refine wpAny_bind (wpAny_setField g rfl (by simp) ?_)
  refine wpAny_bind (wpAny_setField (s := { s with heap := _ }) g1 rfl (by simp) ?_)
  refine wpAny_pure ⟨v, rfl, wpAny_pure (hQ _ ?_ ((Heap.SameBut.update ..).trans (Heap.SameBut.update ..)))⟩
  have g2 := Heap.get?_update_self (Obj.mapFields (·.setIfInBounds 1 (rawInt ((i : Int) + 1)))) g1 rfl
  refine g2.trans ?_
  rfl
theorem En {I S ep : Nat} {es : Array (Int × Value)} {t : SetTable} {sl : Nat → Nat} {W : List Value} {Q : Option Value → Shared → Prop} (hh : A.handled = none) (g : s.heap.get? I = some (eE (rawInt (sl es.size : Nat)) es.size S es.size ep)) (gs : s.heap.get? S = some (bG es ep t)) (hf : t.fits es.size = true)
    (K : Asks P w S es ep t sl W) (hQ : ∀ h', Heap.ExtBut I s.heap h' → Q none { s with heap := h' }) : wpAny (model P w) A (pyNext (.ref I)) Q E s := by
  unfold pyNext
  refine wpAny_bind (wpAny_attempt (wpAny_callSpecial?_slot (name := Str.ofString "__next__") (dJ g) bN (wpAny_call_entry bN (dJ g) j9 ?_ (km _))))
  unfold Builtin.«set_iterator.__next__»
  refine wpAny_bind (wpAny_of_eq (a := (Value.ref I, [])) rfl (wpAny_bind (wpAny_fieldsOf g rfl ?_)))
  dsimp only [eE, rawInt]
  refine wpAny_bind (wpAny_setEntries_of gs rfl hf ?_)
  simp only [bne_self_eq_false, Bool.false_eq_true, if_false, Int.toNat_natCast]
  refine wpAny_bind (K.done _ _ _ _ gs ?_)
  dsimp only
  refine wpAny_bind (wpAny_setField g rfl (by simp) ?_)
  refine wpAny_bind ?_
  simp only [newExc, newTuple]
  refine wpAny_bind (wpAny_newObj_type ?_ (by size_fits))
  refine wpAny_bind (m := firstArgMember _ _) (wpAny_of_eq (a := Value.none) (by first | rfl | (simp only [firstArgMember]; rfl)) ?_)
  refine wpAny_newObj_type ?_ (by size_fits)
  simp only [raiseNew]
  refine wpAny_bind (wpAny_handled ?_)
  first | rw [show A.in1.handled = none from hh] | rw [hh]
  refine wpAny_bind (wpAny_pure (wpAny_throw ?_))
  refine wpAny_bind (wpAny_isInstance (T := "StopIteration") (b := true) ⟨_, Heap.get?_push_size _ rfl, rfl⟩ isSubtype_stop ?_)
  exact wpAny_pure (hQ _ (((Heap.SameBut.update ..).extBut.push _).push _))
theorem CT {I S ep : Nat} {es : Array (Int × Value)} {t : SetTable} {sl : Nat → Nat} {W : List Value} (hh : A.handled = none) (hne : S ≠ I) (hf : t.fits es.size = true) (K : Asks P w S es ep t sl W) :
    WalksS P w A I [I, S] [I] (fun a b => b = a) es.size (fun i v => W[i]? = some v) (fun i s => s.heap.get? I = some (eE (rawInt (sl i : Nat)) i S es.size ep) ∧ s.heap.get? S = some (bG es ep t)) where
  sub := fun b hb => by rw [List.mem_singleton.mp hb]; exact List.mem_cons_self
  grefl := fun _ => rfl
  gtrans := fun _ _ _ h1 h2 => h2.trans h1
  frame := fun i s h' tk st _ hk => ⟨hk I List.mem_cons_self _ st.1, hk S (by simp) _ st.2⟩
  item := fun i s Q E hi st hQ => by
    have hv : W[i]? = some (W[i]'(by rw [K.len]; exact hi)) := List.getElem?_eq_getElem _
    refine next_item st.1 st.2 hf K hv fun h' g' sb => hQ _ _ hv ⟨g', (sb.2 S hne).trans st.2⟩ ⟨fun b o hb e => (sb.2 b (fun z => hb (by simp [z]))).trans e, rfl, rfl, rfl, Nat.le_refl _⟩
  done := fun s Q E st hQ => En hh st.1 st.2 hf K fun h' eb => hQ _ ⟨fun b o hb e => eb b o (fun z => hb (by simp [z])) e, rfl, rfl, rfl, Nat.le_refl _⟩
  self := fun i s Q E st hQ => wpAny_pyIter_slot (dJ st.1) jD (wpAny_call_entry jD (dJ st.1) rE (by
    show wpAny _ _ (ret (.ref I)) _ _ s
    exact wpAny_pure ⟨_, rfl, "set_iterator", _, dJ st.1, bN.lookup, hQ⟩) (qY _))
noncomputable def cX (os : List Nat) : Obj := { cls := .type "tuple", dict := none, data := .seq (os.map fun (i : Nat) => rawInt (i : Nat)).toArray, slots := #[] }
theorem Dk {I S T i ep : Nat} {es : Array (Int × Value)} {t : SetTable} {os : List Nat} {e : Int × Value} {p : Nat} {Q : Option Value → Shared → Prop} (g : s.heap.get? I = some (eE (.ref T) i S es.size ep)) (gs : s.heap.get? S = some (bG es ep t)) (gt : s.heap.get? T = some (cX os)) (hf : t.fits es.size = true)
    (hp : os[i]? = some p) (he : es[p]? = some e) (hQ : ∀ h', h'.get? I = some (eE (.ref T) (i + 1) S es.size ep) → Heap.SameBut I s.heap h' → Q (some e.2) { s with heap := h' }) : wpAny (model P w) A (pyNext (.ref I)) Q E s := by
  unfold pyNext
  refine wpAny_bind (wpAny_attempt (wpAny_callSpecial?_slot (name := Str.ofString "__next__") (dJ g) bN (wpAny_call_entry bN (dJ g) j9 ?_ (km _))))
  unfold Builtin.«set_iterator.__next__»
  refine wpAny_bind (wpAny_of_eq (a := (Value.ref I, [])) rfl (wpAny_bind (wpAny_fieldsOf g rfl ?_)))
  dsimp only [eE, rawInt]
  refine wpAny_bind (wpAny_setEntries_of gs rfl hf ?_)
  simp only [bne_self_eq_false, Bool.false_eq_true, if_false, Int.toNat_natCast]
  refine wpAny_bind (wpAny_seqItems gt rfl ?_)
  have hx : ((os.map fun (i : Nat) => rawInt (i : Nat)).toArray)[i]? = some (rawInt (p : Nat)) := by
    rw [List.getElem?_toArray, List.getElem?_map, hp]; rfl
  dsimp only
  rw [hx]
  dsimp only [rawInt]
  refine wpAny_bind ?_
  unfold setNextDrawn
  refine wpAny_bind (wpAny_setState_of gs rfl hf ?_)
  dsimp only
  simp only [bne_self_eq_false, Bool.false_eq_true, if_false, Int.toNat_natCast]
  rw [he]
  refine wpAny_pure (wpAny_bind (wpAny_setField g rfl (by simp) ?_))
  refine wpAny_pure ⟨e.2, rfl, wpAny_pure (hQ _ ?_ (Heap.SameBut.update ..))⟩
  have g2 := Heap.get?_update_self (Obj.mapFields (·.setIfInBounds 1 (rawInt ((i : Int) + 1)))) g rfl
  exact g2.trans rfl
theorem Cz {I S T ep : Nat} {es : Array (Int × Value)} {t : SetTable} {os : List Nat} {Q : Option Value → Shared → Prop} (hh : A.handled = none) (g : s.heap.get? I = some (eE (.ref T) es.size S es.size ep)) (gs : s.heap.get? S = some (bG es ep t)) (gt : s.heap.get? T = some (cX os)) (hf : t.fits es.size = true)
    (hp : os.length = es.size) (hQ : ∀ h', Heap.ExtBut I s.heap h' → Q none { s with heap := h' }) : wpAny (model P w) A (pyNext (.ref I)) Q E s := by
  unfold pyNext
  refine wpAny_bind (wpAny_attempt (wpAny_callSpecial?_slot (name := Str.ofString "__next__") (dJ g) bN (wpAny_call_entry bN (dJ g) j9 ?_ (km _))))
  unfold Builtin.«set_iterator.__next__»
  refine wpAny_bind (wpAny_of_eq (a := (Value.ref I, [])) rfl (wpAny_bind (wpAny_fieldsOf g rfl ?_)))
  dsimp only [eE, rawInt]
  refine wpAny_bind (wpAny_setEntries_of gs rfl hf ?_)
  simp only [bne_self_eq_false, Bool.false_eq_true, if_false, Int.toNat_natCast]
  refine wpAny_bind (wpAny_seqItems gt rfl ?_)
  have hx : ((os.map fun (i : Nat) => rawInt (i : Nat)).toArray)[es.size]? = none := by
    rw [List.getElem?_toArray, List.getElem?_map, List.getElem?_eq_none (by omega)]; rfl
  dsimp only
  rw [hx]
  dsimp only
  have g1 := vH (k := 0) (x := rawInt 0) g
  refine wpAny_bind (wpAny_setField g rfl (by simp) ?_)
  refine wpAny_bind (wpAny_setField (s := { s with heap := _ }) g1 rfl (by simp) ?_)
  refine wpAny_bind ?_
  simp only [newExc, newTuple]
  refine wpAny_bind (wpAny_newObj_type ?_ (by size_fits))
  refine wpAny_bind (m := firstArgMember _ _) (wpAny_of_eq (a := Value.none) (by first | rfl | (simp only [firstArgMember]; rfl)) ?_)
  refine wpAny_newObj_type ?_ (by size_fits)
  simp only [raiseNew]
  refine wpAny_bind (wpAny_handled ?_)
  first | rw [show A.in1.handled = none from hh] | rw [hh]
  refine wpAny_bind (wpAny_pure (wpAny_throw ?_))
  refine wpAny_bind (wpAny_isInstance (T := "StopIteration") (b := true) ⟨_, Heap.get?_push_size _ rfl, rfl⟩ isSubtype_stop ?_)
  exact wpAny_pure (hQ _ ((((Heap.SameBut.update ..).trans (Heap.SameBut.update ..)).extBut.push _).push _))
theorem zg {I S T ep : Nat} {es : Array (Int × Value)} {t : SetTable} {os : List Nat} (hh : A.handled = none) (h1 : S ≠ I) (h2 : T ≠ I) (hf : t.fits es.size = true) (hp : os.Perm (List.range es.size)) :
    WalksS P w A I [I, S, T] [I] (fun a b => b = a) es.size (fun i v => (os.map fun p => (es.getD p (0, .none)).2)[i]? = some v) (fun i s => s.heap.get? I = some (eE (.ref T) i S es.size ep) ∧ s.heap.get? S = some (bG es ep t) ∧ s.heap.get? T = some (cX os)) where
  sub := fun b hb => by rw [List.mem_singleton.mp hb]; exact List.mem_cons_self
  grefl := fun _ => rfl
  gtrans := fun _ _ _ h1 h2 => h2.trans h1
  frame := fun i s h' tk st _ hk => ⟨hk I List.mem_cons_self _ st.1, hk S (by simp) _ st.2.1, hk T (by simp) _ st.2.2⟩
  item := fun i s Q E hi st hQ => by
    have hl : os.length = es.size := by rw [hp.length_eq, List.length_range]
    have hv : os[i]? = some (os[i]'(by omega)) := List.getElem?_eq_getElem _
    have hlt : os[i]'(by omega) < es.size := List.mem_range.mp (hp.mem_iff.mp (List.getElem_mem _))
    have he : es[os[i]'(by omega)]? = some (es[os[i]'(by omega)]'hlt) := Array.getElem?_eq_getElem hlt
    refine Dk st.1 st.2.1 st.2.2 hf hv he fun h' g' sb => hQ _ _ ?_ ⟨g', (sb.2 S h1).trans st.2.1, (sb.2 T h2).trans st.2.2⟩ ⟨fun b o hb e => (sb.2 b (fun z => hb (by simp [z]))).trans e, rfl, rfl, rfl, Nat.le_refl _⟩
    rw [List.getElem?_map, hv]
    show some (es.getD _ _).2 = _
    rw [Array.getD_eq_getD_getElem?, he]; rfl
  done := fun s Q E st hQ => Cz hh st.1 st.2.1 st.2.2 hf (by rw [hp.length_eq, List.length_range]) fun h' eb => hQ _ ⟨fun b o hb e => eb b o (fun z => hb (by simp [z])) e, rfl, rfl, rfl, Nat.le_refl _⟩
  self := fun i s Q E st hQ => wpAny_pyIter_slot (dJ st.1) jD (wpAny_call_entry jD (dJ st.1) rE (by
    show wpAny _ _ (ret (.ref I)) _ _ s
    exact wpAny_pure ⟨_, rfl, "set_iterator", _, dJ st.1, bN.lookup, hQ⟩) (qY _))
theorem BX {es : Array (Int × Value)} {os : List Nat} (hp : os.Perm (List.range es.size)) : (os.map fun p => (es.getD p (0, .none)).2).Perm (es.toList.map (·.2)) := by
  refine (hp.map _).trans ?_
  refine List.Perm.of_eq (List.ext_getElem? fun i => ?_)
  rw [List.getElem?_map, List.getElem?_map, Array.getElem?_toList (xs := es)]
  by_cases h : i < es.size
  · rw [List.getElem?_range h, Array.getElem?_eq_getElem h]
    show some (es.getD i _).2 = _
    rw [Array.getD_eq_getD_getElem?, Array.getElem?_eq_getElem h]; rfl
  · rw [List.getElem?_eq_none (by rw [List.length_range]; omega), Array.getElem?_eq_none (by omega)]; rfl
structure Mr (P : Program) (w : World) (s : Shared) (S : Addr) (I : Addr) (es : Array (Int × Value)) (s' : Shared) : Prop where
  grown : tZ s s'
  new : s.heap.objs.size ≤ I
  walk : ∃ (fp : List Addr) (W : List Value) (St : Nat → Shared → Prop), W.Perm (es.toList.map (·.2)) ∧ I ∈ fp ∧ (∀ b ∈ fp, b = S ∨ s.heap.objs.size ≤ b) ∧ (∀ A2 : Around, A2.handled = none → WalksS P w A2 I fp [I] (fun a b => b = a) es.size (fun i v => W[i]? = some v) St) ∧ St 0 s'
theorem GP {S : Addr} {es : Array (Int × Value)} {ep : Nat} {t : SetTable} {ks : List Int} {Q : Value → Shared → Prop} (gs : s.heap.get? S = some (bG es ep t)) (r : dY P w es t ks) (hz : es.size ≤ sizeLine)
    (hQ : ∀ I s', Mr P w s S I es s' → Q (.ref I) s') : wpAny (model P w) A (pyIter (.ref S)) Q E s := by
  have hlt : S < s.heap.objs.size := Heap.lt_size gs
  have hT : s.TypeIs (.ref S) "set" := ⟨_, gs, rfl⟩
  refine wpAny_pyIter_slot hT rF (wpAny_call_entry rF hT BR ?_ (Cj _))
  unfold Builtin.«frozenset.__iter__»
  refine wpAny_bind (wpAny_of_eq (a := S) rfl ?_)
  refine wpAny_bind ?_
  unfold Builtin.Frozenset.sizeOf
  refine wpAny_bind (wpAny_setEntries_of gs rfl r.fit (wpAny_pure ?_))
  refine wpAny_bind ?_
  unfold setDrawn
  refine wpAny_bind (wpAny_setState_of gs rfl r.fit ?_)
  dsimp only
  refine wpAny_bind (texts_any (wpAny_pure ?_))
  have plainWay : ∀ (sl : Nat → Nat) (W : List Value), sl 0 = 0 → Asks P w S es ep t sl W → W.Perm (es.toList.map (·.2)) →
      wpAny (model P w) A.in1 (pure (rawInt 0) >>= fun first => setEpoch S >>= fun e => newFields "set_iterator" [first, rawInt 0, .ref S, rawInt (es.size : Nat), rawInt (e : Nat)] >>= fun v => ret v) (fun fin s' => ∃ v, fin = .done (.ret v) ∧ ∃ T' r, s'.TypeIs v T' ∧ typeLookup (.type T') "__next__" = pure (some r) ∧ Q v s') E s := fun sl W e0 K hp => by
    refine wpAny_bind (wpAny_pure (wpAny_bind (wpAny_setEpoch_of gs rfl r.fit (wpAny_bind ?_))))
    unfold newFields
    refine wpAny_newObj_type (wpAny_pure ?_) (by size_fits)
    have g1 : (s.heap.push (eE (rawInt (sl 0 : Nat)) 0 S es.size ep)).get? s.heap.objs.size = some (eE (rawInt (sl 0 : Nat)) 0 S es.size ep) := Heap.get?_push_size _ rfl
    rw [e0] at g1
    refine ⟨_, rfl, "set_iterator", _, ⟨_, g1, rfl⟩, bN.lookup, hQ _ _ ⟨⟨fun b o e => Heap.get?_push_of_some _ e, rfl, rfl⟩, Nat.le_refl _, [s.heap.objs.size, S], W, _, hp, by simp, fun b hb => ?_, fun A2 h2 => CT h2 (Nat.ne_of_lt hlt) r.fit K, ?_, Heap.get?_push_of_some _ gs⟩⟩
    · rcases List.mem_cons.mp hb with z | z
      · exact .inr (by rw [z]; exact Nat.le_refl _)
      · exact .inl (List.mem_singleton.mp z)
    · rw [e0]; exact g1
  have bnd : ∀ {α β γ : Type} {m : Sem α} {f : α → Sem β} {k : β → Sem γ} {R : γ → Shared → Prop} {s1 : Shared}, wpAny (model P w) A.in1 (m >>= fun a => f a >>= k) R E s1 → wpAny (model P w) A.in1 ((m >>= f) >>= k) R E s1 := fun h => by rw [bind_assoc]; exact h
  by_cases hw : w.params.followText "set-order" = true
  · rw [show (model P w).w.params.followText "set-order" = true from hw]
    simp only [Bool.not_true, Bool.false_and, Bool.false_eq_true, if_false]
    have := plainWay (fun _ => 0) _ rfl (Dw r.fit hw) ((vJ _ es).map _)
    simpa only [pure_bind, bind_assoc] using this
  · have hw' : w.params.followText "set-order" = false := by simpa using hw
    rw [show (model P w).w.params.followText "set-order" = false from hw']
    simp only [Bool.not_false, Bool.true_and]
    show wpAny _ _ (if (!t.plain && decide (es.size > 1)) = true then _ else _) _ _ _
    by_cases hd : (!t.plain && decide (es.size > 1)) = true
    · rw [hd]
      simp only [if_true]
      refine wpAny_bind (yg es.size _ _ (List.length_range ..) fun os s1 hp h1 h2 h3 h4 => wpAny_bind ?_)
      have hl : os.length = es.size := by rw [hp.length_eq, List.length_range]
      unfold newTuple
      refine wpAny_newObj_type ?_ ?_
      · have gs1 : s1.heap.get? S = some (bG es ep t) := by rw [h1]; exact gs
        have gs2 : (s1.heap.push (cX os)).get? S = some (bG es ep t) := Heap.get?_push_of_some _ gs1
        have gt2 : (s1.heap.push (cX os)).get? s1.heap.objs.size = some (cX os) := Heap.get?_push_size _ rfl
        refine wpAny_bind (wpAny_setEpoch_of (s := { s1 with heap := s1.heap.push (cX os) }) gs2 rfl r.fit (wpAny_bind ?_))
        unfold newFields
        refine wpAny_newObj_type (wpAny_pure ?_) (by size_fits)
        have g1 : ((s1.heap.push (cX os)).push (eE (.ref s1.heap.objs.size) 0 S es.size ep)).get? (s1.heap.push (cX os)).objs.size = some (eE (.ref s1.heap.objs.size) 0 S es.size ep) := Heap.get?_push_size _ rfl
        have hs1 : (s1.heap.push (cX os)).objs.size = s.heap.objs.size + 1 := by rw [Heap.size_push, h1]
        refine ⟨_, rfl, "set_iterator", _, ⟨_, g1, rfl⟩, bN.lookup, hQ _ _ ⟨⟨fun b o e => ?_, h2, h3⟩, ?_, [(s1.heap.push (cX os)).objs.size, S, s1.heap.objs.size], _, _, BX hp, by simp, fun b hb => ?_, fun A2 hh2 => zg hh2 ?_ ?_ r.fit hp, g1, Heap.get?_push_of_some _ gs2, Heap.get?_push_of_some _ gt2⟩⟩
        · refine Heap.get?_push_of_some _ (Heap.get?_push_of_some _ ?_)
          show s1.heap.get? b = some o
          rw [h1]; exact e
        · show s.heap.objs.size ≤ (s1.heap.push (cX os)).objs.size
          rw [hs1]; exact Nat.le_succ _
        · rcases List.mem_cons.mp hb with z | z
          · exact .inr (by rw [z, hs1]; exact Nat.le_succ _)
          · rcases List.mem_cons.mp z with z | z
            · exact .inl z
            · exact .inr (by rw [List.mem_singleton.mp z, h1]; exact Nat.le_refl _)
        · rw [hs1]; exact Nat.ne_of_lt (Nat.lt_succ_of_lt hlt)
        · rw [hs1, h1]; exact Nat.ne_of_lt (Nat.lt_succ_self _)
      · show ((os.map fun (i : Nat) => rawInt (i : Nat)).toArray).size ≤ sizeLine
        rw [List.size_toArray, List.length_map, hl]
        exact hz
    · have hd' : (!t.plain && decide (es.size > 1)) = false := by simpa using hd
      rw [hd']
      simp only [Bool.false_eq_true, if_false]
      have := plainWay (placeAt t) _ rfl (CZ r.fit hw' r.tab hd') (.refl _)
      simpa only [pure_bind, bind_assoc] using this
theorem Ia {S : Addr} {Q : Bool → Shared → Prop} (hT : s.TypeIs (.ref S) "set") (h : Q false s) : wpAny (model P w) A (Builtin.List.listLengthHint (.ref S)) Q E s := by
  unfold Builtin.List.listLengthHint
  refine wpAny_bind (wpAny_specialOf hT F.slot_set_len.lookup ?_)
  generalize hq : ("set.__len__" : String) = id0
  wp_delta
  rw [show splitId id0 = some ("set", "__len__") by subst hq; decide +kernel]
  subst hq
  refine wpAny_bind (wpAny_isInstance (T := "set") (b := true) hT sub_set_self ?_)
  refine wpAny_ite_split (fun z => absurd z (by decide)) (fun _ => wpAny_ite_split (fun _ => ?_) (fun z => absurd (by decide +kernel) z))
  exact wpAny_bind (wpAny_typeOf hT (wpAny_pure h))
theorem xH {W : List Value} {es : Array (Int × Value)} {t : SetTable} {ks : List Int} (r : dY P w es t ks) (hp : W.Perm (es.toList.map (·.2))) : IntsAre W (W.map BJ) ∧ (W.map BJ).Perm ks := by
  refine ⟨?_, (hp.map BJ).trans (by rw [List.map_map]; exact r.pm)⟩
  have : ∀ v ∈ W, ∃ k tk, v = .int k tk := fun v hv => by
    obtain ⟨e, he, rfl⟩ := List.mem_map.mp (hp.mem_iff.mp hv)
    obtain ⟨k, tk, rfl⟩ := r.shape he
    exact ⟨k, tk, rfl⟩
  clear hp
  induction W with
  | nil => exact .nil
  | cons v W ih =>
    obtain ⟨k, tk, rfl⟩ := this v List.mem_cons_self
    exact .cons k tk (ih fun v hv => this v (List.mem_cons_of_mem _ hv))
theorem zJ {S : Addr} {ks : List Int} {Q : List Value → Shared → Prop} (hh : A.handled = none) (x : fJ P w s.heap S ks) (hz : ks.length < 4000)
    (hQ : ∀ vs ns s', tZ s s' → IntsAre vs ns → ns.Perm ks → Q vs s') : wpAny (model P w) A (collect (.ref S)) Q E s := by
  obtain ⟨es, ep, t, gs, r⟩ := x
  have hn : es.size ≤ sizeLine := pZ (by rw [r.size]; exact hz)
  have hlt : S < s.heap.objs.size := Heap.lt_size gs
  unfold collect
  refine wpAny_bind (wpAny_runValue (codeAny_builtin F.entry_proto_collect ?_))
  rw [Around.under_plainId F.plain_proto_collect _]
  show wpAny _ A.in1 (newList [] >>= fun l => again (.builtin "list.__iadd__" ⟨[l, .ref S], []⟩)) _ _ s
  refine wpAny_bind (wpAny_newObj_type (wpAny_pure ⟨plainId_quiet F.plain_list_iadd _, codeAny_builtin F.entry_list_iadd ?_⟩))
  rw [Around.under_plainId F.plain_list_iadd _]
  show wpAny _ A.in1 (Builtin.List.listExtendWith (.ref s.heap.objs.size) (.ref S) (.ref s.heap.objs.size)) _ _ _
  have gs1 : (s.heap.push { cls := .type "list", data := .seq ([] : List Value).toArray }).get? S = some (bG es ep t) := Heap.get?_push_of_some _ gs
  unfold Builtin.List.listExtendWith
  refine wpAny_bind (wpAny_typeOf (T := "set") ⟨_, gs1, rfl⟩ ?_)
  have c1 : Builtin.List.listSameRef (.ref s.heap.objs.size) (.ref S) = false := by simp [Builtin.List.listSameRef]; exact Nat.ne_of_gt hlt
  have c2 : (Value.type "set" == Value.type "list") = false := by decide
  have c3 : (Value.type "set" == Value.type "tuple") = false := by decide
  simp only [c1, c2, c3, Bool.or_false, Bool.false_eq_true, if_false]
  refine wpAny_bind (GP gs1 r hn fun I s2 it => ?_)
  obtain ⟨gw, hI, fp, W, St, hp, hIf, hfp, walk, st⟩ := it
  have gs2 : s2.heap.get? S = some (bG es ep t) := gw.heap _ _ gs1
  refine wpAny_bind (wpAny_holding (Ia ⟨_, gs2, rfl⟩ ?_))
  have o1 : s2.heap.get? s.heap.objs.size = some { cls := .type "list", data := .seq ([] : List Value).toArray } := gw.heap _ _ (Heap.get?_push_size _ rfl)
  have hoff : s.heap.objs.size ∉ fp := fun z => by
    rcases hfp _ z with e | e
    · exact absurd e (Nat.ne_of_gt hlt)
    · rw [Heap.size_push] at e; exact absurd e (Nat.not_succ_le_self _)
  have hld : A.in1.handled = none := by simp [hh]
  have go : ∀ (s3 : Shared) (c : Nat), St 0 s3 → tZ s s3 → s3.heap.get? s.heap.objs.size = some { cls := .type "list", dict := none, data := .seq #[] c, slots := #[] } →
      codeAny (model P w) A (.builtin "list.extend.loop" ⟨[.ref s.heap.objs.size, .ref I, .ref s.heap.objs.size], []⟩) (fun r s' => match r with | .ok (.ret v) => wpAny (model P w) A (match v with | .ref a => load a >>= fun o => (match o.data with | .seq items _ => pure items.toList | _ => unsupported "internal:collect") | _ => unsupported "internal:collect") Q E s' | .ok _ => False | .error e => E e s') s3 := fun s3 c st3 gw3 o3 => by
    refine codeAny_extend_loopS (walk _ hld) hn s.heap.objs.size hoff _ es.size 0 _ #[] c (by omega) (Nat.zero_le _) st3 o3 (ItemsOf.nil _) fun s' acc c' hm o' hacc => ?_
    refine wpAny_bind (wpAny_load o' (wpAny_pure ?_))
    have eW : acc.toList = W := List.ext_getElem? fun i => by
      have hWl : W.length = es.size := by rw [hp.length_eq, List.length_map, Array.length_toList]
      by_cases hi : i < es.size
      · have ha : acc[i]? = some (acc[i]'(by rw [hacc.1]; exact hi)) := Array.getElem?_eq_getElem _
        rw [Array.getElem?_toList, ha, hacc.2 i _ ha]
      · rw [List.getElem?_eq_none (by rw [Array.length_toList, hacc.1]; omega), List.getElem?_eq_none (by omega)]
    obtain ⟨i1, i2⟩ := xH r hp
    refine hQ _ _ s' ⟨fun b o e => hm.heap b o (fun z => ?_) (gw3.heap b o e), hm.gens.trans gw3.gens, hm.os.trans gw3.os⟩ (by rw [eW]; exact i1) i2
    have hb := Heap.lt_size e
    rcases List.mem_cons.mp z with z | z
    · exact absurd z (Nat.ne_of_lt hb)
    · rw [List.mem_singleton.mp z] at hb
      rw [Heap.size_push] at hI
      exact absurd (Nat.lt_of_lt_of_le hb (Nat.le_of_succ_le hI)) (Nat.lt_irrefl _)
  have gw0 : tZ s s2 := ⟨fun b o e => gw.heap b o (Heap.get?_push_of_some _ e), gw.gens, gw.os⟩
  refine wpAny_ite_split (fun _ => ?_) (fun _ => wpAny_pure ⟨plainId_quiet F.plain_extend_loop _, go _ 0 st gw0 o1⟩)
  refine wpAny_bind (wpAny_rule (wpAny_bind ?_))
  show wpAny _ _ (updateSeq s.heap.objs.size (·.push .none) >>= fun _ => updateSeq s.heap.objs.size (·.pop)) _ _ _
  refine wpAny_bind (wpAny_updateSeq o1 rfl ?_)
  have o2 := Heap.get?_update_self (Obj.mapSeq (·.push Value.none)) o1 rfl
  refine wpAny_updateSeq (s := { s2 with heap := _ }) o2 rfl ?_
  have o3 := Heap.get?_update_self (Obj.mapSeq (·.pop)) o2 rfl
  have oth : ∀ b o, b ≠ s.heap.objs.size → s2.heap.get? b = some o → ((s2.heap.update s.heap.objs.size (Obj.mapSeq (·.push Value.none))).update s.heap.objs.size (Obj.mapSeq (·.pop))).get? b = some o :=
    fun b o hb e => (Heap.get?_update_other _ _ (Ne.symm hb)).trans ((Heap.get?_update_other _ _ (Ne.symm hb)).trans e)
  refine wpAny_pure ⟨plainId_quiet F.plain_extend_loop _, go _ _ ((walk A hh).frame 0 s2 _ s2.toks st (Nat.le_refl _) fun b hb o e => oth b o (fun z => hoff (z ▸ hb)) e) ⟨fun b o e => oth b o (Nat.ne_of_lt (Heap.lt_size e)) (gw0.heap b o e), gw0.gens, gw0.os⟩ o3⟩
end
end L2
namespace L2
open PySem PySem.Spec PyProof.Rows
section
variable {X : Cx} {pins : List (Addr × Obj)} {σ : St} {H : Hp} {s s' : Shared}
theorem Inv.grown (I : Inv X pins σ H s) (g : tZ s s') : Inv X pins σ H s' := by
  have J : Inv X pins σ H { s with heap := s'.heap, toks := s'.toks } := I.kept g.heap
  exact ⟨J.ok, g.os.trans J.os, by rw [g.gens]; exact J.bare, J.base, J.loc, J.cell, J.free, J.freeC, J.pin, J.hok, J.len⟩
noncomputable def PSt (X : Cx) (e : Expr) (t : St → Hp → (List Int → Hp → Prop) → Prop) : Prop :=
  ∀ (pins : List (Addr × Obj)) (s : Shared) (σ : St) (H : Hp) (Q : List Int → Hp → Prop), Inv X pins σ H s → t σ H Q →
    wpAny (model X.prog X.w) X.A (eval e X.env) (fun v s1 => ∃ S ks H1, v = .ref S ∧ fJ X.prog X.w s1.heap S ks ∧ mR X pins H1 S ∧ Inv X pins σ H1 s1 ∧ Q ks H1) X.xe s
variable {e : Expr} {ta : TA} {p pos : Pos}
noncomputable def RQ (K : PySem.W.Frag) (ta : TA) : St → Hp → (List Int → Hp → Prop) → Prop := fun σ H Q => ta σ H fun vs H1 => ∃ q ns, vs = [.ref q] ∧ (SqL K H1 q (ns.map V.int) ∨ SqT K H1 q (ns.map V.int)) ∧ (ddl ns).length + 1 < 4000 ∧ Q (ddl ns) H1
theorem boot_set : bootBuiltins "set" = some (.type "set") := by decide +kernel
theorem Lp (hc : X.calm = true) (hg : Gl X "set") (hm : X.mg "set" = none) (ha : PA X [e] ta) (hs : starEach [e] X.env = [(false, eval e X.env)] := by rfl) : PSt X (.Call (.Name "set" p) [e] [] pos) (RQ X.K ta) := by
  intro pins s σ H Q I h
  refine Call_ (lE I hg hm boot_set (PyProof.Rows.callWith_type1 (thn (ha pos pins s σ H _ I h) fun us s1 hq__ => ?_) hs rfl))
  obtain ⟨vs, H1, I1, r1, q1⟩ := hq__
  obtain ⟨l, ns, rfl, hq, hb, q⟩ := q1
  obtain ⟨u, rfl, rx⟩ := vals1 r1
  cases rx
  have fin : ∀ (h' : Heap) (tk : Nat), fJ X.prog X.w h' s1.heap.objs.size (ddl ns) → (∀ b o, s1.heap.get? b = some o → h'.get? b = some o) → ∃ S ks H2, Value.ref s1.heap.objs.size = .ref S ∧ fJ X.prog X.w h' S ks ∧ mR X pins H2 S ∧ Inv X pins σ H2 { s1 with heap := h', toks := tk } ∧ Q ks H2 := fun h' tk x k =>
    ⟨_, _, H1, rfl, x, I1.rY (Nat.le_refl _) (I1.hok.fresh (Nat.le_refl _)), I1.kept k, q⟩
  rcases hq with hq | hq
  · obtain ⟨its, r', pl, hz⟩ := I1.list hq
    exact wZ (I1.ok.hd hc) (mF.list pl.isList (by simpa using intsAre_of r')) hb fun h' tk x k => fin h' tk x k
  · obtain ⟨its, r', pl, hz⟩ := I1.tuple hq
    exact wZ (I1.ok.hd hc) (mF.tuple (show s1.heap.IsTuple l its.toArray from pl) (by simpa using intsAre_of r')) hb fun h' tk x k => fin h' tk x k
noncomputable def RT (t : St → Hp → (List Int → Hp → Prop) → Prop) : TE := fun σ H Q => t σ H fun ks H1 => ks.length < 3000 ∧ ∀ l, H1 l = none → Q (.ref l) (upd H1 l (.lst ((L3.srt ks).map V.int)))
theorem boot_sorted : bootBuiltins "sorted" = some (.builtin "sorted") := by decide +kernel
theorem La {S : Addr} {ks : List Int} {Q : VK} (hc : X.calm = true) (I : Inv X pins σ H s) (x : fJ X.prog X.w s.heap S ks) (h64 : ks.length < 3000) (q : ∀ l, H l = none → Q (.ref l) (upd H l (.lst ((L3.srt ks).map V.int)))) :
    wpAny (model X.prog X.w) X.A (call (.builtin "sorted") [.ref S]) (fun v s1 => ∃ y H1, Inv X pins σ H1 s1 ∧ RelV y v ∧ Q y H1) X.xe s := by
  refine (Calls.call_function_entry kind_sorted plain_sorted entry_sorted (args_sorted1 _) ?_); unfold Builtin.«sorted»
  refine wpAny_bind (m := checkCount "sorted" 1 1 _) (wpAny_pure (wpAny_bind (zJ (A := X.A.in1) (by simp [I.ok.hd hc]) x (by omega) fun vs ns s2 gw hI hp => ?_)))
  have hl : vs.length = ks.length := by rw [qK hI, hp.length_eq]
  have I1 := I.grown gw
  have hoL : (s2.heap.push (seqObj "list" vs.toArray 0)).get? s2.heap.objs.size = some (seqObj "list" vs.toArray 0) := Heap.get?_push_size _ rfl
  refine wpAny_bind (wpAny_newList (wpAny_bind (wpAny_holding (wpAny_call_entry slot_list_sort ⟨_, hoL, rfl⟩ entry_list_sort (vN hoL hI (Nat.le_of_lt (Nat.lt_of_lt_of_le (show _ < 3000 by omega) (by decide))) fun out ns' a1 a2 a3 => ⟨_, rfl, wpAny_pure ⟨_, rfl, ?_⟩⟩) (args_list_sort _)))) (by rw [hl]; exact Nat.le_of_lt (Nat.lt_trans h64 (by decide))))
  have e : ns' = L3.srt ks := L3.jd ((a2.trans hp).trans (L3.eZ ks).symm) a3 (L3.gD ks)
  subst e
  obtain ⟨c, hc'⟩ := sortedHeap_at (out := out) hoL
  refine ⟨.ref s2.heap.objs.size, _, I1.laid (a := s2.heap.objs.size) (o := .lst ((L3.srt ks).map V.int)) (h' := sortedHeap (s2.heap.push (seqObj "list" vs.toArray 0)) s2.heap.objs.size vs out) (t' := s2.toks) (fun b o e => ?_) (Nat.le_refl _) ?_, rfl, q _ (I1.hok.fresh (Nat.le_refl _))⟩
  · have hb : b < s2.heap.objs.size := Heap.lt_size e
    rw [sortedHeap_old (Nat.ne_of_lt hb) (by rw [size_push']; exact Nat.lt_succ_of_lt hb)]
    exact Heap.get?_push_of_some _ e
  · refine ⟨?_, out.toList, c, L3.mJ a1, by simpa [seqObj] using hc'⟩
    rw [List.length_map, (L3.eZ ks).length_eq]
    exact Nat.le_of_lt (Nat.lt_trans h64 (by decide))
theorem Px {t : St → Hp → (List Int → Hp → Prop) → Prop} (hc : X.calm = true) (hg : Gl X "sorted") (hm : X.mg "sorted" = none) (hst : PSt X e t) (hs : starEach [e] X.env = [(false, eval e X.env)] := by rfl) : PE X (.Call (.Name "sorted" p) [e] [] pos) (RT t) := by
  intro pins s σ H Q I h
  refine wpAny_Call_Name_kw (lE I hg hm boot_sorted ?_)
  refine PyProof.Rows.callWith_builtin1 ?_ hs rfl
  rw [hs]
  show wpAny _ _ (spliced ((false, eval e X.env) :: backTo pos [])) _ _ s
  refine Calls.spliced_cons (thn (hst pins s σ H _ I h) fun v s1 ⟨S, ks, H1, e1, x, _, I1, h64, q⟩ => Calls.spliced_nil ?_)
  subst e1
  exact La hc I1 x h64 q
end
end L2
namespace L3
open PySem PySem.Spec PyProof.Rows L2
noncomputable def qH : PyData → Option (List Int)
  | .list es => intsOf es
  | .tuple es => intsOf es
  | _ => none
noncomputable def oO : List PyData → Res PyData
  | [d] => match qH d with
    | some ns => gd ((ddl ns).length < 3000) (.ok (.list ((srt (ddl ns)).map PyData.int)))
    | none => .bad
  | _ => .bad
section
variable {X : Cx} {O : List Fl} {m : ME} {e : Expr} {p p2 pos pos2 : Pos}
theorem By {K : PySem.W.Frag} {A H : Hp} {d : PyData} {v : V} {ns : List Int} (h : qH d = some ns) (ha : aH A H) (p1 : Pk K A H d v) : ∃ q, v = .ref q ∧ (SqL K H q (ns.map V.int) ∨ SqT K H q (ns.map V.int)) := by
  cases d with
  | list es =>
    have hn : intsOf es = some ns := h
    have := nj hn
    subst this
    obtain ⟨l, vs, rfl, h1, q1⟩ := p1.list ha
    have ev := q1.Ci
    subst ev
    exact ⟨l, rfl, .inl h1⟩
  | tuple es =>
    have hn : intsOf es = some ns := h
    have := nj hn
    subst this
    obtain ⟨l, vs, rfl, h2, h1⟩ := p1.oM (H := H)
    have ev := h2.Ci
    subst ev
    exact ⟨l, rfl, .inr (h1 H ha)⟩
  | _ => cases h
theorem Ea (hc : X.calm = true) (hg : Gl X "sorted") (hm : X.mg "sorted" = none) (hg2 : Gl X "set") (hm2 : X.mg "set" = none) (ha : QE X e (tP X.K O m)) (hs : noStar e = true := by rfl) :
    QE X (.Call (.Name "sorted" p) [.Call (.Name "set" p2) [e] [] pos2] [] pos) (tF X.K O (eFn oO [m])) :=
  QE.imp (Px hc hg hm (Lp hc hg2 hm2 (cL ha.h gf (bV hs)) (bV hs))) fun σ H Q hq__ => by
    obtain ⟨A, B, Γ, d, r, em, k⟩ := hq__
    obtain ⟨ds, e1, em⟩ := Res.aF em
    obtain ⟨d1, e2, e1⟩ := Res.aF e1
    obtain ⟨_, e3, e1⟩ := Res.aF e1
    cases e3
    cases e1
    have em : (match qH d1 with | some ns => gd ((ddl ns).length < 3000) (.ok (.list ((srt (ddl ns)).map PyData.int))) | none => .bad) = Res.ok d := em
    cases hn : qH d1 with
    | none => rw [hn] at em; cases em
    | some ns =>
      rw [hn] at em
      obtain ⟨hz, em⟩ := bL em
      cases em
      refine ⟨A, B, Γ, d1, r, e2, fun v A1 H1 g1 p1 => ?_⟩
      obtain ⟨q, rfl, hq⟩ := By hn g1.ah p1
      refine ⟨q, ns, rfl, hq, by omega, hz, fun l hl => k _ A1 _ (g1.trans (aQ.lay g1.ah hl)) ⟨l, _, rfl, g1.hh.free hl, bz, g1.ah.free hl, .inl ⟨_, _, rfl, rfl, aB.ints⟩⟩⟩
end
end L3
namespace L2
open PySem PySem.Spec PyProof.Rows
section
variable {P : Program} {w : World} {A : Around} {E : Value → Shared → Prop} {s : Shared}
end
end L2
namespace L2
open PySem PySem.Spec PyProof.Rows
section
variable {P : Program} {w : World} {A : Around} {E : Value → Shared → Prop} {s : Shared}
end
end L2
namespace L2
open PySem PySem.Spec PyProof.Rows
section
variable {P : Program} {w : World} {A : Around} {E : Value → Shared → Prop} {s : Shared}
end
end L2
namespace L2
open PySem PySem.Spec PyProof.Rows
section
variable {P : Program} {w : World} {A : Around} {E : Value → Shared → Prop} {s : Shared}
end
end L2
namespace L2
open PySem PySem.Spec PyProof.Rows
section
variable {X : Cx} {a b : Expr} {pos : Pos}
end
end L2
namespace L3
open PySem PySem.Spec PyProof.Rows L2
section
variable {X : Cx} {O : List Fl} {m m' : ME} {e e' : Expr} {p p2 p3 pos pos2 pos3 pos4 : Pos}
end
end L3
namespace L2
open PySem PySem.Spec PyProof.Rows
section
variable {P : Program} {w : World} {A : Around} {E : Value → Shared → Prop} {s : Shared}
end
end L2
namespace L3
open PySem PySem.Spec PyProof.Rows L2
section
variable {X : Cx} {rm : Rm} {Ol O : List Fl} {m m' : ME} {e a b : Expr} {pos p apos cpos : Pos}
end
end L3
namespace L3
open PySem PySem.Spec PyProof.Rows L2
noncomputable def fnN (n : Nat) (m : MS) (ds : List PyData) : Res PyData := (m (ds.map some ++ List.replicate (n - ds.length) none)).bind fun o => match o with
  | .rt d => .ok d
  | .nx _ => .ok .none
  | _ => .bad
section
variable {P : Program} {w : World} {K : PySem.W.Frag} {mg : Str → Option Value} {base : Heap}
theorem Lz {x : Str} {st : Stmt} {N ps : List Str} {k : Nat} {fs O O' Ol : List Fl} {rm : Rm} {m : MS} (F : At K mg x st ps) (S : aV N ps (au st)) (hf : fs.length = ps.length) (hn : ps.length ≤ N.length)
    (hO : ∀ i, i < fs.length → (fl O i = .imm ∧ fl fs i = .imm) ∨ fl O i = .bor)
    (hbody : ∀ (f : Addr) (cdv : Value) (A : Around) (outer : List Env) (s : Shared) (H : Hp) (E : XK), dF k (A.deeper (envOfC x (au st) s.heap.objs.size f cdv)) →
      QSs (nQ CX0 P w K mg base N x (au st) f cdv A outer s H E).nox (aK st) (tS K .f Ol O O' m)) (hrm : rm = .f) : Def P w K mg base (k + 1) x ps (spF K fs rm (fnN N.length m)) := by
  subst hrm
  refine F.ok S (fun vs H Q E h => ?_) (fun f cdv A outer s H vs Q E hr h => ?_)
  · obtain ⟨A, ds, d, _, h, _⟩ := h
    rw [h.length.1, hf]
  · obtain ⟨A', ds, d, ha, h, em, q⟩ := h
    obtain ⟨o, e1, em⟩ := Res.aF em
    cases o with
    | rt d' =>
      cases em
      refine ⟨_, (hbody f cdv A outer s H E hr).h, A', H, _, _, nA ha h hO (by omega), e1, fun v A2 H2 s1 s2 sa nw rv => q v A2 H2 ⟨sa, s2, s1, nw⟩ rv⟩
    | nx Γ' =>
      cases em
      refine ⟨_, (hbody f cdv A outer s H E hr).h, A', H, _, _, nA ha h hO (by omega), e1, fun σ2 A2 H2 r2 sa nw => q .non A2 H2 ⟨sa, r2.b, r2.a, nw⟩ (show Rp K A2 .none .non from Rp.none.mpr rfl)⟩
    | _ => cases em
end
end L3
namespace L3
open PySem PySem.Spec PyProof.Rows L2
section
variable {X : Cx} {D : List (Str × PyData)}
end
section
variable {X : Cx} {D : List (Str × PyData)} {O : List Fl}
end
end L3
namespace L3
open PySem PySem.Spec PyProof.Rows L2
section
variable {X : Cx} {O : List Fl} {ks : List (Option Expr)} {vs : List Expr} {R : List (Str × ME)}
end
section
variable {X : Cx} {O Ol : List Fl} {rm : Rm} {a e : Expr} {m m' : ME} {pos : Pos}
end
end L3
namespace L3
open PySem PySem.Spec PyProof.Rows L2
section
variable {K : PySem.W.Frag} {A : Hp} {key : gJ} {kvs : List (PyData × PyData)} {us : List (gJ × V)}
end
section
variable {K : PySem.W.Frag} {A B H : Hp} {O : List Fl} {σ : L2.St} {Γ : Ev} {i : Nat}
end
end L3
namespace L3
open PySem PySem.Spec PyProof.Rows L2
section
variable {X : Cx} {rm : Rm} {Ol O : List Fl} {m m' : ME} {e a b : Expr} {pos : Pos} {i : Nat} {x : Str} {xp tpos : Pos}
end
end L3
namespace L3
open PySem PySem.Spec PyProof.Rows L2
end L3
namespace L2
open PySem PySem.Spec PyProof.Rows
section
variable {prog : Program} {w : World} {A : Around} {E : Value → Shared → Prop} {s : Shared}
end
section
variable {X : Cx} {pos : Pos}
end
end L2
namespace L3
open PySem PySem.Spec PyProof.Rows L2
section
variable {X : Cx} {O O' : List Fl} {is : List Nat} {gs : List MG} {es : List Expr} {pos : Pos}
end
end L3
namespace L2
open PySem PySem.Spec PyProof.Rows
open Builtin Builtin.Str
section
variable {X : Cx}
end
end L2
namespace L3
open PySem PySem.Spec PyProof.Rows L2
section
variable {X : Cx} {O : List Fl} {m m' : ME} {a b : Expr} {pos p : Pos} {K : PySem.W.Frag} {A B : Hp} {ds es : List PyData} {vs ws : List V} {q q' : Addr}
variable {elts : List Expr} {tpos : Pos}
end
end L3
namespace L2
open PySem PySem.Spec PyProof.Rows PySem.Calls
section
variable {prog : Program} {w : World} {A : Around} {E : Value → Shared → Prop} {s : Shared}
end
end L2
namespace L2
open PySem PySem.Spec PyProof.Rows
section
variable {X : Cx} {pins : List (Addr × Obj)} {σ : St} {H : Hp} {s s' : Shared} {e : Expr} {ta : TA} {p pos : Pos}
end
end L2
namespace L3
open PySem PySem.Spec PyProof.Rows L2
section
variable {X : Cx} {O : List Fl} {m : ME} {e : Expr} {p p2 pos pos2 : Pos}
theorem aX.len {K : PySem.W.Frag} {A : Hp} : ∀ {kvs : List (PyData × PyData)} {u : List (Key × V)}, aX K A kvs u → kvs.length = u.length
  | [], u, h => by rw [aX.nil.mp h]; rfl
  | (k, d) :: r, u, h => by
    obtain ⟨key, v, u', rfl, _, _, h⟩ := aX.cons.mp h
    rw [List.length_cons, List.length_cons, aX.len h]
end
end L3
namespace L2
open PySem PySem.Spec PyProof.Rows
open AutoSeq1 (wpAny_loadPart')
section
variable {prog : Program} {w : World} {A : Around} {E : Value → Shared → Prop} {s : Shared}
theorem zG {Q : List Value → Shared → Prop} {r : Addr} {a b c : Int} {t u v : Tok} {n : Nat} (hh : A.handled = none) (hr : IsRange s.heap r a b c t u v) (hsmall : Builtin.Range.small a b c = true)
    (hn : Builtin.Range.rangeSize a b c = n) (hlen : n ≤ 2 ^ 24)
    (hQ : ∀ (h' : Heap) (tk : Nat) (acc : Array Value), (∀ b o, s.heap.get? b = some o → h'.get? b = some o) → ItemsOf (fun i v => ∃ t, v = .int (a + i * c) t) acc n → Q acc.toList { s with heap := h', toks := tk }) :
    wpAny (model prog w) A (collect (.ref r)) Q E s := by
  unfold collect
  refine wpAny_bind (wpAny_runValue (codeAny_builtin F.entry_proto_collect ?_))
  rw [Around.under_plainId F.plain_proto_collect _]
  show wpAny _ A.in1 (newList [] >>= fun l => again (.builtin "list.__iadd__" ⟨[l, .ref r], []⟩)) _ _ s
  refine wpAny_bind (wpAny_newObj_type (wpAny_pure ⟨plainId_quiet F.plain_list_iadd _, codeAny_builtin F.entry_list_iadd ?_⟩))
  rw [Around.under_plainId F.plain_list_iadd _]
  show wpAny _ A.in1 (Builtin.List.listExtendWith (.ref s.heap.objs.size) (.ref r) (.ref s.heap.objs.size)) _ _ _
  have hS : (s.heap.push { cls := .type "list", data := .seq ([] : List Value).toArray }).get? s.heap.objs.size = some { cls := .type "list", data := .seq #[] 0 } := Heap.get?_push_size _ rfl
  have fin : ∀ (h' : Heap) (tk : Nat) (acc : Array Value) (c' : Nat), (∀ b o, b ≠ s.heap.objs.size → (s.heap.push { cls := .type "list", data := .seq ([] : List Value).toArray }).get? b = some o → h'.get? b = some o) →
      h'.get? s.heap.objs.size = some { cls := .type "list", dict := none, data := .seq acc c', slots := #[] } → ItemsOf (fun i v => ∃ t, v = .int (a + i * c) t) acc n →
      wpAny (model prog w) A (load s.heap.objs.size >>= fun x => match x.data with
          | Data.seq xs _ => pure xs.toList
          | _ => unsupported "internal:collect") Q E { s with heap := h', toks := tk } := fun h' tk acc c' hk hS' hacc =>
    wpAny_bind (wpAny_load hS' (wpAny_pure (hQ h' tk acc (fun b o e => hk b o (Nat.ne_of_lt (Heap.lt_size e)) (Heap.get?_push_of_some _ e)) hacc)))
  refine wpAny_mono (wpAny_extend_range (A := A) (R := fun res s' => ∃ h' tk acc c', res = .ok (.ret (.ref s.heap.objs.size)) ∧ s' = { s with heap := h', toks := tk } ∧
      (∀ b o, b ≠ s.heap.objs.size → (s.heap.push { cls := .type "list", data := .seq ([] : List Value).toArray }).get? b = some o → h'.get? b = some o) ∧
      h'.get? s.heap.objs.size = some { cls := .type "list", dict := none, data := .seq acc c', slots := #[] } ∧ ItemsOf (fun i v => ∃ t, v = .int (a + i * c) t) acc n)
    (s := { s with heap := s.heap.push { cls := .type "list", data := .seq ([] : List Value).toArray } }) hh (Heap.get?_push_of_some _ hr) hsmall hn hlen s.heap.objs.size _ 0 hS
    fun h' tk acc c' hk hS' hacc => ⟨h', tk, acc, c', rfl, rfl, hk, hS', hacc⟩) (fun f s' h => ?_) (fun e s' h => ?_)
  · cases f with
    | done f =>
      obtain ⟨h', tk, acc, c', e, rfl, k1, k2, k3⟩ := h
      cases e
      exact fin h' tk acc c' k1 k2 k3
    | again c' => exact ⟨h.1, codeAny_mono h.2 fun res s'' hr' => by
        obtain ⟨h', tk, acc, c', rfl, rfl, k1, k2, k3⟩ := hr'
        exact fin h' tk acc c' k1 k2 k3⟩
  · obtain ⟨h', tk, acc, c', e, _⟩ := h
    cases e
theorem sV (r : Addr) (a b c : Int) (t u v : Tok) (n : Nat) (hsmall : Builtin.Range.small a b c = true) (hn : Builtin.Range.rangeSize a b c = n) (hlen : n ≤ 2 ^ 24) :
    Meets (Builtin.«tuple.__new__» ⟨[.type "tuple", .ref r], []⟩)
      (fun A R s => A.handled = none ∧ IsRange s.heap r a b c t u v ∧ ∀ (h' : Heap) (tk : Nat) (acc : Array Value), (∀ b o, s.heap.get? b = some o → h'.get? b = some o) → ItemsOf (fun i v => ∃ t, v = .int (a + i * c) t) acc n →
        R (.ok (.ret (.ref h'.objs.size))) { s with heap := h'.push { cls := .type "tuple", data := .seq acc }, toks := tk }) :=
  .of_wp fun prog w A R s h => by
    obtain ⟨hh, hr, h⟩ := h
    have hsub := sub_tuple_self
    have hinit := init_tuple_lookup
    have hmh := madeHere_tuple
    have hT : s.TypeIs (.ref r) "range" := ⟨_, hr, rfl⟩
    have hh1 : A.in1.handled = none := hh
    wp_walk using wpAny_typeOf hT, zG hh1 hr hsmall hn hlen
    intro h' tk acc hk hacc
    show wpAny _ _ (Builtin.Tuple.tupleExact acc.toList.toArray >>= fun v => ret v) _ _ _
    unfold Builtin.Tuple.tupleExact
    refine wpAny_bind (wpAny_newObj_type ?_ (show acc.toList.toArray.size ≤ sizeLine by simp only [Array.toArray_toList]; rw [hacc.1, sizeLine_eq]; omega))
    refine wpAny_pure ⟨_, rfl, ?_⟩
    rw [show acc.toList.toArray = acc by simp]
    exact h h' tk acc hk hacc
theorem u6 {Q : Value → Shared → Prop} {r : Addr} {a b c : Int} {t u v : Tok} {n : Nat} (hh : A.handled = none) (hr : IsRange s.heap r a b c t u v) (hsmall : Builtin.Range.small a b c = true)
    (hn : Builtin.Range.rangeSize a b c = n) (hlen : n ≤ 2 ^ 24)
    (hQ : ∀ (h' : Heap) (tk : Nat) (acc : Array Value), (∀ b o, s.heap.get? b = some o → h'.get? b = some o) → ItemsOf (fun i v => ∃ t, v = .int (a + i * c) t) acc n → Q (.ref h'.objs.size) { s with heap := h'.push { cls := .type "tuple", data := .seq acc }, toks := tk }) :
    wpAny (model prog w) A (call (.type "tuple") [.ref r]) Q E s :=
  callType_new F.called_tuple (by decide) (F.typeCall_tuple_1 _) (F.newCall_tuple_1 _) (fun obj => F.args_object_init_2 obj _) F.entry_tuple_new
    (sV r a b c t u v n hsmall hn hlen) ⟨hh, hr, fun h' tk acc hk hacc => ⟨⟨_, Heap.get?_push_size _ rfl, rfl⟩, hQ h' tk acc hk hacc⟩⟩
end
end L2
namespace L3
open PySem PySem.Spec PyProof.Rows L2
theorem Io : ∀ (m : Nat) (vs : List Value), vs.length = m → (∀ (j : Nat) (v : Value), vs[j]? = some v → ∃ t, v = Value.int (0 + (j : Int) * 1) t) → Vals ((List.range m).map fun i => V.int (i : Nat)) vs := by
  intro m
  induction m with
  | zero => intro vs h _; rw [List.length_eq_zero_iff.mp h]; exact .nil
  | succ m ih =>
    intro vs hl g
    rw [List.range_succ, List.map_append]
    obtain ⟨ws, x, rfl⟩ : ∃ ws x, vs = ws ++ [x] := ⟨vs.dropLast, vs.getLast (by intro z; rw [z] at hl; cases hl), (List.dropLast_concat_getLast _).symm⟩
    have hl' : ws.length = m := by simpa using hl
    refine Vals.append (ih ws hl' (fun j v e => g j v (by rw [List.getElem?_append_left (List.getElem?_eq_some_iff.mp e).1]; exact e))) (.cons ?_ .nil)
    obtain ⟨t, e⟩ := g m x (by rw [List.getElem?_append_right (by omega)]; simp [hl'])
    exact ⟨t, by rw [e]; congr 1; omega⟩
section
variable {X : Cx}
theorem zz (hc : X.calm = true) : dh X (.type "tuple") (fun xs H Q => ∃ p n, xs = [.ref p] ∧ H p = some (.rng 0 n) ∧ (-(2 ^ 20) ≤ n ∧ n ≤ 2 ^ 20) ∧ ∀ l, H l = none → Q (.ref l) (upd H l (.tup ((List.range n.toNat).map fun i => V.int (i : Nat))))) := by
  intro pins s σ H xs us Q I r h
  obtain ⟨p, n, rfl, he, hn, q⟩ := h
  obtain ⟨z, rfl, rx⟩ := vals1 r
  cases rx
  obtain ⟨t, u, v, eo⟩ := (show cM X.prog X.w H s.heap p (.rng 0 n) from I.hok p _ he)
  refine u6 (n := n.toNat) (I.ok.hd hc) (show IsRange s.heap p 0 n 1 t u v from eo) (small_one (by decide) (by decide) (by omega) (by omega)) (by rw [rangeSize_one]; split <;> omega) (by omega) fun h' tk acc hk hacc => ?_
  have I1 : L2.Inv X pins σ H { s with heap := h', toks := tk } := I.kept hk
  have I2 : L2.Inv X pins σ (upd H h'.objs.size (.tup ((List.range n.toNat).map fun i => V.int (i : Nat)))) { s with heap := h'.push { cls := .type "tuple", data := .seq acc }, toks := tk } := by
    refine I1.laid (t' := tk) (fun b o e => Heap.get?_push_of_some _ e) (Nat.le_refl _) (show cM X.prog X.w _ _ _ (.tup _) from ⟨?_, acc.toList, ?_, by simpa using IsTup.new h' acc⟩)
    · rw [List.length_map, List.length_range, PySem.sizeLine_eq]; omega
    · exact Io n.toNat acc.toList (by rw [Array.length_toList]; exact hacc.1) fun j v e => hacc.2 j v (by rw [← Array.getElem?_toList]; exact e)
  exact ⟨.ref h'.objs.size, _, I2, rfl, q _ (I1.hok.fresh (Nat.le_refl _))⟩
noncomputable def trD : PyData → Res PyData
  | .int n => gd (-(2 ^ 20) ≤ n ∧ n ≤ 2 ^ 20) (.ok (.tuple ((List.range n.toNat).map fun i => PyData.int (i : Nat))))
  | _ => .bad
theorem Gp {e : Expr} {O : List Fl} {m : ME} {p p2 pos pos2 : Pos} (hc : X.calm = true) (hgl : Gl X "tuple") (hml : X.mg "tuple" = none) (hvl : bootBuiltins "tuple" = some (.type "tuple")) (hgr : Gl X "range") (hmr : X.mg "range" = none) (hvr : bootBuiltins "range" = some (.type "range")) (he : QE X e (tP X.K O m))
    (hst : noStar e = true := by rfl) : QE X (.Call (.Name "tuple" p) [.Call (.Name "range" p2) [e] [] pos2] [] pos) (tE X.K O (eUn trD m)) := by
  refine QE.imp (jx (zz hc) hgl hml hvl (cL (jx q9 hgr hmr hvr (cL he.h gf (bV hst)) (by decide) (by decide) (bV hst) (gF rfl)) gf)) fun σ H Q hq__ => ?_
  obtain ⟨A, B, Γ, d, r, em, k⟩ := hq__
  obtain ⟨d1, e1, em⟩ := Res.aF em
  cases d1 with
  | int n =>
    obtain ⟨hn, em⟩ := bL em
    cases em
    refine ⟨A, B, Γ, _, r, e1, fun v A1 H1 g1 p1 => ⟨n, by rw [p1.int], fun q hq => ⟨q, n, rfl, bz, hn, fun l hl => ?_⟩⟩⟩
    have g2 := aQ.lay (o := HO.rng 0 n) g1.ah hq
    have g3 := aQ.new (o := HO.tup ((List.range n.toNat).map fun i => V.int (i : Nat))) g2.ah hl
    exact k _ _ _ (g1.trans (g2.trans g3)) (Rp.tuple.mpr ⟨l, _, rfl, SqT.of bz, aB.range⟩)
  | _ => cases em
end
end L3
namespace L3
open PySem PySem.Spec PyProof.Rows L2
theorem len0 {α : Type} {P : List α → Prop} (h : P []) (us : List α) (e : us.length = 0) : P us := by
  rw [List.length_eq_zero_iff.mp e]; exact h
theorem MJ {α : Type} {P : List α → Prop} (h : ∀ a0, P [a0]) (us : List α) (e : us.length = 1) : P us := by
  cases us with
  | nil => cases e
  | cons a r => exact len0 (P := fun r => P (a :: r)) (h a) r (Nat.succ.inj e)
theorem O3 {α : Type} {P : List α → Prop} (h : ∀ a0 a1, P [a0, a1]) (us : List α) (e : us.length = 2) : P us := by
  cases us with
  | nil => cases e
  | cons a r => exact MJ (P := fun r => P (a :: r)) (fun b0 => h a b0) r (Nat.succ.inj e)
theorem Oh {α : Type} {P : List α → Prop} (h : ∀ a0 a1 a2, P [a0, a1, a2]) (us : List α) (e : us.length = 3) : P us := by
  cases us with
  | nil => cases e
  | cons a r => exact O3 (P := fun r => P (a :: r)) (fun b0 b1 => h a b0 b1) r (Nat.succ.inj e)
theorem Ri {α : Type} {P : List α → Prop} (h : ∀ a0 a1 a2 a3, P [a0, a1, a2, a3]) (us : List α) (e : us.length = 4) : P us := by
  cases us with
  | nil => cases e
  | cons a r => exact Oh (P := fun r => P (a :: r)) (fun b0 b1 b2 => h a b0 b1 b2) r (Nat.succ.inj e)
theorem qj {x : Str} {st : Stmt} {ps : List Str} (h : ∀ (kV doc pm : Value) (an : Option Addr) (cdv ct : Value) (a0 : Value), bindArgs (PySem.W.fnOf x x (aM st) (aK st) (au st) .none kV doc pm an cdv ct) ⟨[a0], []⟩ = pure (ps.zip [a0])) (hp : ps.length = 1) :
    ∀ (kV doc pm : Value) (an : Option Addr) (cdv ct : Value) (us : List Value), us.length = ps.length → bindArgs (PySem.W.fnOf x x (aM st) (aK st) (au st) .none kV doc pm an cdv ct) ⟨us, []⟩ = pure (ps.zip us) := fun kV doc pm an cdv ct us hl =>
  MJ (P := fun us => bindArgs (PySem.W.fnOf x x (aM st) (aK st) (au st) .none kV doc pm an cdv ct) ⟨us, []⟩ = pure (ps.zip us)) (h kV doc pm an cdv ct) us (hl.trans hp)
theorem fC {x : Str} {st : Stmt} {ps : List Str} (h : ∀ (kV doc pm : Value) (an : Option Addr) (cdv ct : Value) (a0 a1 : Value), bindArgs (PySem.W.fnOf x x (aM st) (aK st) (au st) .none kV doc pm an cdv ct) ⟨[a0, a1], []⟩ = pure (ps.zip [a0, a1])) (hp : ps.length = 2) :
    ∀ (kV doc pm : Value) (an : Option Addr) (cdv ct : Value) (us : List Value), us.length = ps.length → bindArgs (PySem.W.fnOf x x (aM st) (aK st) (au st) .none kV doc pm an cdv ct) ⟨us, []⟩ = pure (ps.zip us) := fun kV doc pm an cdv ct us hl =>
  O3 (P := fun us => bindArgs (PySem.W.fnOf x x (aM st) (aK st) (au st) .none kV doc pm an cdv ct) ⟨us, []⟩ = pure (ps.zip us)) (h kV doc pm an cdv ct) us (hl.trans hp)
theorem uO {x : Str} {st : Stmt} {ps : List Str} (h : ∀ (kV doc pm : Value) (an : Option Addr) (cdv ct : Value) (a0 a1 a2 : Value), bindArgs (PySem.W.fnOf x x (aM st) (aK st) (au st) .none kV doc pm an cdv ct) ⟨[a0, a1, a2], []⟩ = pure (ps.zip [a0, a1, a2])) (hp : ps.length = 3) :
    ∀ (kV doc pm : Value) (an : Option Addr) (cdv ct : Value) (us : List Value), us.length = ps.length → bindArgs (PySem.W.fnOf x x (aM st) (aK st) (au st) .none kV doc pm an cdv ct) ⟨us, []⟩ = pure (ps.zip us) := fun kV doc pm an cdv ct us hl =>
  Oh (P := fun us => bindArgs (PySem.W.fnOf x x (aM st) (aK st) (au st) .none kV doc pm an cdv ct) ⟨us, []⟩ = pure (ps.zip us)) (h kV doc pm an cdv ct) us (hl.trans hp)
theorem Ru {x : Str} {st : Stmt} {ps : List Str} (h : ∀ (kV doc pm : Value) (an : Option Addr) (cdv ct : Value) (a0 a1 a2 a3 : Value), bindArgs (PySem.W.fnOf x x (aM st) (aK st) (au st) .none kV doc pm an cdv ct) ⟨[a0, a1, a2, a3], []⟩ = pure (ps.zip [a0, a1, a2, a3])) (hp : ps.length = 4) :
    ∀ (kV doc pm : Value) (an : Option Addr) (cdv ct : Value) (us : List Value), us.length = ps.length → bindArgs (PySem.W.fnOf x x (aM st) (aK st) (au st) .none kV doc pm an cdv ct) ⟨us, []⟩ = pure (ps.zip us) := fun kV doc pm an cdv ct us hl =>
  Ri (P := fun us => bindArgs (PySem.W.fnOf x x (aM st) (aK st) (au st) .none kV doc pm an cdv ct) ⟨us, []⟩ = pure (ps.zip us)) (h kV doc pm an cdv ct) us (hl.trans hp)
section
variable {X : Cx} {O : List Fl} {m mk : ME} {a st : Expr} {p2 pos : Pos} {te ts : TE}
end
end L3
namespace L3
open PySem PySem.Spec PyProof.Rows L2
section
variable {X : Cx} {pins : List (Addr × Obj)} {σ : L2.St} {H : Hp} {s : Shared} {ea : Addr} {ob : Obj}
end
section
variable {X : Cx} {pins : List (Addr × Obj)} {σ : L2.St} {H : Hp} {s : Shared} {ea : Addr}
end
section
variable {M : Model} {A : Around} {E : Value → Shared → Prop} {K : PySem.W.Frag}
end
section
variable {X : Cx} {pins : List (Addr × Obj)} {σ : L2.St} {H : Hp} {s : Shared}
end
end L3
namespace L3
open PySem PySem.Spec PySem.Calls PyProof.Rows L2 Builtin Builtin.ObjectAttr Builtin.Getset_descriptor
section
variable {prog : Program} {w : World} {A : Around} {E : Value → Shared → Prop} {s : Shared} {K : PySem.W.Frag} {x C : Addr} {ob : Obj}
end
end L3
namespace L3
open PySem PySem.Spec PySem.Calls PyProof.Rows L2 Builtin Builtin.ObjectAttr
section
variable {prog : Program} {w : World} {A : Around} {E : Value → Shared → Prop} {s : Shared} {K : PySem.W.Frag} {x C : Addr} {ob : Obj} {c : Value} {Q : Value → Shared → Prop}
end
section
variable {X : Cx} {C : Addr} {O : List Fl} {K : PySem.W.Frag}
end
section
variable {P : Program} {w : World} {K : PySem.W.Frag} {mg : Str → Option Value} {base : Heap}
end
section
variable {X : Cx} {C : Addr} {O : List Fl} {k : Nat} {fn : Str} {ps : List Str} {f : List PyData → Res PyData}
end
end L3
namespace L3
open PySem PySem.Spec PyProof.Rows L2
section
variable {X : Cx} {k : Nat} {fn : Str} {ps : List Str} {fs : List Fl} {zf : List PyData → Res Str} {O Ol : List Fl} {rm : Rm} {ms : List ME} {pf pc pos px pa : Pos} {e : Expr} {es : List Expr} {C : Addr}
end
section
variable {X : Cx} {O O1 O' Ol : List Fl} {rm : Rm} {C TA : Addr} {st : Stmt} {rest : List Stmt} {m1 mn mx : MS} {z : MZ} {T en yn : Str} {np pos2 px pe pa pos : Pos}
end
end L3
namespace L3
open PySem PySem.Spec PyProof.Rows L2
end L3
namespace L3
open PySem PySem.Spec PyProof.Rows L2
section
variable {X : Cx} {pins : List (Addr × Obj)} {σ : L2.St} {H : Hp} {s : Shared}
end
section
variable {X : Cx} {O O1 Ol : List Fl} {rm : Rm} {C TA : Addr} {st : Stmt} {m1 : MS} {z : MZ} {T yn : Str} {kj} {np pos2 px pe pa pos : Pos}
end
end L3
namespace L3
open PySem PySem.Spec PyProof.Rows L2
section
variable {X : Cx} {pins : List (Addr × Obj)} {σ : L2.St} {H A B : Hp} {s : Shared} {Γ : Ev} {O : List Fl}
end
section
variable {X : Cx} {k : Nat} {fn : Str} {ps : List Str} {fs : List Fl} {cl : Str → Addr} {zf : List PyData → Res Str} {O Ol : List Fl} {rm : Rm} {ms : List ME} {pf pc pos px pa : Pos} {e tg : Expr} {es : List Expr} {XE : Str → Hp → Prop} {body : List Stmt}
end
section
variable {X : Cx} {rm : Rm} {O : List Fl} {is : List Nat} {g : MG} {it : MI} {cl : List Nat} {mb : MS} {zb : MZ} {tg iter : Expr} {body : List Stmt} {pos : Pos} {XE : Str → Hp → Prop}
end
end L3
namespace L3
open PySem PySem.Spec PyProof.Rows L2
section
variable {X : Cx} {O : List Fl} {m : ME} {e : Expr} {p p2 pos pos2 : Pos}
end
end L3
namespace Gk
noncomputable def bJ (xs : List Int) : Int := xs.foldr (fun f n => 2 * n + f) 0
theorem gq (x : Int) (xs : List Int) : bJ (x :: xs) = 2 * bJ xs + x := rfl
theorem fQ : ∀ {xs : List Int}, (∀ x ∈ xs, 0 ≤ x) → 0 ≤ bJ xs
  | [], _ => Int.le_refl 0
  | x :: xs, h => by
    have h1 := h x (by simp)
    have h2 := fQ fun y hy => h y (List.mem_cons_of_mem _ hy)
    rw [gq]; omega
theorem two_pos (n : Nat) : (0 : Int) < 2 ^ n := Int.pow_pos (by decide)
theorem nG (xs : List Int) (y : Int) : bJ (xs ++ [y]) = bJ xs + 2 ^ xs.length * y := by
  induction xs with
  | nil => simp [bJ]
  | cons x xs ih =>
    rw [List.cons_append, gq, ih, gq, List.length_cons, Int.pow_succ]
    have : (2 : Int) ^ xs.length * 2 * y = 2 * (2 ^ xs.length * y) := by rw [Int.mul_comm ((2 : Int) ^ xs.length) 2, Int.mul_assoc]
    rw [this]; omega
theorem Ip (xs : List Int) : xs.reverse.foldl (fun n f => 2 * n + f) 0 = bJ xs := by
  rw [List.foldl_reverse]; rfl
noncomputable def aU (b p : Int) : Int := b / 2 ^ p.toNat % 2
theorem dU (b p : Int) : aU b p = 0 ∨ aU b p = 1 := by unfold aU; omega
theorem Aa (b p : Int) : 0 ≤ aU b p := by unfold aU; omega
theorem J8 (b p : Int) : aU b p ≤ 1 := by unfold aU; omega
noncomputable def ji (k r : Nat) : List Int := (List.range k).map fun j => ((r / 2 ^ j % 2 : Nat) : Int)
theorem wJ (k r : Nat) : (ji k r).length = k := by simp [ji]
theorem Fq {k r : Nat} {x : Int} (h : x ∈ ji k r) : x = 0 ∨ x = 1 := by
  unfold ji at h
  obtain ⟨j, _, e⟩ := List.mem_map.mp h
  omega
noncomputable def gather (b : Int) : Nat → Int
  | 0 => 0
  | n + 1 => gather b n + 2 ^ n * aU b n
theorem CV (b : Int) (n : Nat) : gather b n = b % 2 ^ n := by
  induction n with
  | zero => simp [gather, Int.emod_one]
  | succ n ih =>
    have hp := two_pos n
    rw [gather, ih, aU, Int.toNat_natCast, Int.pow_succ]
    have h1 := Int.emod_add_mul_ediv b (2 ^ n)
    have h2 := Int.emod_add_mul_ediv (b / 2 ^ n) 2
    have h3 : b = (b % 2 ^ n + 2 ^ n * (b / 2 ^ n % 2)) + 2 ^ n * 2 * (b / 2 ^ n / 2) := by
      have e : 2 ^ n * (b / 2 ^ n) = 2 ^ n * (b / 2 ^ n % 2) + 2 ^ n * 2 * (b / 2 ^ n / 2) := by
        rw [Int.mul_assoc, ← Int.mul_add, h2]
      omega
    have h4 := Int.emod_nonneg b (Int.ne_of_gt hp)
    have h5 := Int.emod_lt_of_pos b hp
    have h6 : (b / 2 ^ n % 2 = 0) ∨ (b / 2 ^ n % 2 = 1) := by omega
    have h7 : (b % 2 ^ n + 2 ^ n * (b / 2 ^ n % 2)) % (2 ^ n * 2) = b % (2 ^ n * 2) := by
      have e := congrArg (· % ((2 : Int) ^ n * 2)) h3
      simp only [Int.add_mul_emod_self_left] at e
      exact e.symm
    rw [← h7]
    refine (Int.emod_eq_of_lt ?_ ?_).symm
    · rcases h6 with h | h <;> rw [h] <;> omega
    · rcases h6 with h | h <;> rw [h] <;> omega
theorem Cr {b : Int} {n : Nat} (h0 : 0 ≤ b) (h1 : b < 2 ^ n) : gather b n = b := by
  rw [CV, Int.emod_eq_of_lt h0 h1]
end Gk
namespace Gk
noncomputable def cN (xs : List Int) : Prop := ∀ x ∈ xs, x = 0 ∨ x = 1
theorem cN.nn {xs : List Int} (h : cN xs) : ∀ x ∈ xs, 0 ≤ x := fun x hx => by rcases h x hx with z | z <;> omega
theorem cN.tail {x : Int} {xs : List Int} (h : cN (x :: xs)) : cN xs := fun y hy => h y (List.mem_cons_of_mem _ hy)
theorem cN.map {α : Type} {l : List α} {f : α → Int} (h : ∀ a ∈ l, f a = 0 ∨ f a = 1) : cN (l.map f) := fun x hx => by
  obtain ⟨a, ha, rfl⟩ := List.mem_map.mp hx
  exact h a ha
theorem cN.bits {α : Type} {l : List α} {f g : α → Int} : cN (l.map fun a => aU (f a) (g a)) := cN.map fun a _ => dU _ _
theorem oH : ∀ {xs : List Int}, cN xs → bJ xs < 2 ^ xs.length
  | [], _ => by decide
  | x :: xs, h => by
    have h1 := oH h.tail
    have h2 := h x (by simp)
    rw [gq, List.length_cons, Int.pow_succ]
    omega
theorem wy (b : Int) : aU b 0 = b % 2 := by unfold aU; simp
theorem wz (b : Int) (n : Nat) : aU b ((n + 1 : Nat) : Int) = aU (b / 2) (n : Nat) := by
  unfold aU
  rw [Int.toNat_natCast, Int.toNat_natCast, Nat.add_comm, Int.pow_add, Int.pow_one' , ← Int.ediv_ediv_of_nonneg (by decide)]
where
  Int.pow_one' : (2 : Int) ^ 1 = 2 := by decide
theorem mW : ∀ {xs : List Int} {r : Nat} {x : Int}, cN xs → xs[r]? = some x → aU (bJ xs) (r : Nat) = x
  | [], r, x, _, h => by simp at h
  | y :: xs, 0, x, h, e => by
    have h2 := h y (by simp)
    have e' : y = x := by simpa using e
    rw [gq]
    show aU (2 * bJ xs + y) 0 = x
    rw [wy]
    omega
  | y :: xs, r + 1, x, h, e => by
    have h2 := h y (by simp)
    rw [gq, wz]
    have e2 : (2 * bJ xs + y) / 2 = bJ xs := by omega
    rw [e2]
    exact mW h.tail (by simpa using e)
theorem qd {b : Int} {m : Nat} (h0 : 0 ≤ b) (h1 : b < 2 ^ m) : bJ ((List.range m).map fun r => aU b ((r : Nat) : Int)) = b := by
  have key : ∀ m : Nat, bJ ((List.range m).map fun r => aU b ((r : Nat) : Int)) = gather b m := by
    intro m
    induction m with
    | zero => rfl
    | succ m ih =>
      rw [List.range_succ, List.map_append, List.map_singleton, nG, ih, List.length_map, List.length_range]
      rfl
  rw [key, Cr h0 h1]
theorem yX {b c : Int} {m : Nat} (h0 : 0 ≤ b) (h1 : b < 2 ^ m) (k0 : 0 ≤ c) (k1 : c < 2 ^ m) (h : ∀ r : Nat, r < m → aU b (r : Nat) = aU c (r : Nat)) : b = c := by
  rw [← qd h0 h1, ← qd k0 k1]
  congr 1
  exact List.map_congr_left fun r hr => h r (List.mem_range.mp hr)
noncomputable def tab (m : Nat) (f : Nat → Int) : Int := bJ ((List.range m).map f)
theorem xM {m : Nat} {f : Nat → Int} (h : ∀ r, f r = 0 ∨ f r = 1) : cN ((List.range m).map f) := cN.map fun a _ => h a
theorem oN {m : Nat} {f : Nat → Int} (h : ∀ r, f r = 0 ∨ f r = 1) : 0 ≤ tab m f := fQ (xM h).nn
theorem za {m : Nat} {f : Nat → Int} (h : ∀ r, f r = 0 ∨ f r = 1) : tab m f < 2 ^ m := by
  have := oH (xM (m := m) h)
  rw [List.length_map, List.length_range] at this
  exact this
theorem uI {m : Nat} {f : Nat → Int} (h : ∀ r, f r = 0 ∨ f r = 1) {r : Nat} (hr : r < m) : aU (tab m f) (r : Nat) = f r :=
  mW (xM h) (by rw [List.getElem?_map, List.getElem?_range hr]; rfl)
theorem Nk {m : Nat} {f : Nat → Int} {b : Int} (h : ∀ r, f r = 0 ∨ f r = 1) (h0 : 0 ≤ b) (h1 : b < 2 ^ m) (e : ∀ r, r < m → f r = aU b (r : Nat)) : tab m f = b :=
  yX (oN h) (za h) h0 h1 fun r hr => by rw [uI h hr, e r hr]
theorem wk {m : Nat} {f g : Nat → Int} (e : ∀ r, r < m → f r = g r) : tab m f = tab m g := by
  unfold tab; congr 1; exact List.map_congr_left fun r hr => e r (List.mem_range.mp hr)
noncomputable def pA (n j : Nat) : Int := tab (2 ^ n) fun r => aU (r : Nat) (j : Nat)
theorem DY {n j r : Nat} (h : r < 2 ^ n) : aU (pA n j) (r : Nat) = aU (r : Nat) (j : Nat) := uI (fun _ => dU _ _) h
theorem xg (n j : Nat) : 0 ≤ pA n j := oN fun _ => dU _ _
theorem Hl (n j : Nat) : pA n j < 2 ^ 2 ^ n := za fun _ => dU _ _
theorem Ii (r j : Nat) : aU (r : Nat) (j : Nat) = ((r / 2 ^ j % 2 : Nat) : Int) := by
  unfold aU
  rw [Int.toNat_natCast]
  simp
end Gk
namespace Gk
theorem zQ {xs : List Int} (h : cN xs) : ji xs.length (bJ xs).toNat = xs := by
  refine List.ext_getElem (wJ _ _) fun j h1 h2 => ?_
  have hb := mW h (List.getElem?_eq_getElem h2)
  have hnn := fQ h.nn
  have e : (ji xs.length (bJ xs).toNat)[j] = aU (((bJ xs).toNat : Nat) : Int) (j : Nat) := by
    simp only [ji, List.getElem_map, List.getElem_range, Ii]
  rw [e, Int.toNat_of_nonneg hnn]
  exact hb
theorem Ot {xs : List Int} (h : cN xs) : ∃ r : Nat, r < 2 ^ xs.length ∧ bJ xs = (r : Nat) ∧ ji xs.length r = xs := by
  have hnn := fQ h.nn
  have hlt := oH h
  refine ⟨(bJ xs).toNat, ?_, (Int.toNat_of_nonneg hnn).symm, zQ h⟩
  have e : ((2 : Int) ^ xs.length) = (((2 ^ xs.length : Nat)) : Int) := by simp
  omega
theorem cN.ji {k r : Nat} : cN (ji k r) := fun _ hx => Fq hx
end Gk
namespace Gk
end Gk
namespace Gk
end Gk
namespace Prog
open PySem L3
noncomputable def bU : List PyData → Res PyData := fnR 3 (aP (bj 1 (eC (.int 1)))
    (aP (cg (fU (ak 0)) (gN 2) [2] (bj 1 (az jP (eC (.int 2)) (ak 1))))
    (bh (ak 1))))
noncomputable def lY : List PyData → Res PyData := fnR 2 (bh (az pQ (az vg (ak 0) (ak 1)) (eC (.int 1))))
noncomputable def fW : List PyData → Res PyData := fnR 3 (aP (bj 1 (eC (.int 0)))
    (aP (cg (itV (ak 0)) (gN 2) [2] (bj 1 (az cP (az jP (eC (.int 2)) (ak 1)) (ak 2))))
    (bh (ak 1))))
noncomputable def lq : List PyData → Res PyData := fnR 5 (aP (bj 3 (cu (fU (aO bU [(az ixD (ak 0) (eC (.int 0)))])) (gN 0) (eC (.bool true)) (az jP (ak 1) (aO lY [(az ixD (ak 2) (eC (.int 1))), (ak 0)])) 1 [2, 0]))
    (aP (cg (itL (ak 1)) (gN 4) [4] (bj 3 (cu (Hs (eC (.int 0)) (eFn b7 [(ak 3)]) (eC (.int 2))) (gN 0) (eC (.bool true)) (az orD (az pQ (az ixD (ak 1) (ak 0)) (eUn Nr (ak 2))) (az pQ (az ixD (ak 1) (az cP (ak 0) (eC (.int 1)))) (ak 2))) 1 [3, 4])))
    (bh (az ixD (ak 3) (eC (.int 0))))))
noncomputable def jQ : List PyData → Res PyData := fnR 2 (bh (jn [(ak 0), (eFn iu [(eFn oO [(ak 1)])])]))
noncomputable def jr : List PyData → Res PyData := fnR 3 (aP (bj 1 (qe []))
    (aP (cg (itL (ak 0)) (gN 2) [2] (qM 1 (ak 2) (eC (.bool true))))
    (bh (ak 1))))
noncomputable def jL : List PyData → Res PyData := fnR 3 (bh (aO lq [(ak 0), (ak 1), (az Ir (aO bU [(ak 2)]) (eC (.int 1)))]))
noncomputable def jX : List PyData → Res PyData := fnR 4 (aP (bj 2 (eC (.int 1)))
    (aP (cg (fU (ak 1)) (gN 3) [3] (bj 2 (az jP (ak 0) (ak 2))))
    (bh (ak 2))))
noncomputable def iy : List PyData → Res PyData := fnR 2 (bh (eFn sE [(cu (itL (ak 1)) (gN 0) (eC (.bool true)) (aO jX [(ak 1), (az ixD (ak 0) (eC (.int 0)))]) 1 [0])]))
noncomputable def fO : List PyData → Res PyData := fnR 6 (aP (bj 1 (fu [(fu [])]))
    (aP (cg (itL (ak 0)) (gN 2) [2, 3, 4, 5] (aP (bj 3 (fu []))
    (aP (cg (itL (ak 1)) (gN 4) [4, 5] (cg (itL (ak 2)) (gN 5) [5] (pG 3 (az cP (ak 4) (fu [(ak 5)])))))
    (bj 1 (ak 3)))))
    (bh (ak 1))))
noncomputable def mK : List PyData → Res PyData := fnR 6 (aP (bj 2 (az ixD (ak 1) (eC (.int 0))))
    (aP (bj 3 (az ixD (ak 1) (eC (.int 1))))
    (aP (sIf (az gtD (aO iy [(eFn b7 [(ak 3)]), (fu [(ak 0)])]) (eC (.int 20000))) BW dB)
    (aP (bj 4 (aO jr [(ak 3)]))
    (aP (cg (itL (aO fO [(az uN (fu [(ak 3)]) (az ixD (ak 0) (eC (.int 0))))])) (gN 5) [5] (sIf (az fX (aO jL [(ak 0), (ak 5), (ak 2)]) (ak 4)) (bh (ak 5)) dB))
    (bh (eC .none)))))))
noncomputable def jU : List PyData → Res PyData := fnR 2 (bh (az NP (aO mK [(ak 0), (ak 1)]) (eC .none)))
noncomputable def cT : List PyData → Res PyData := fnR 2 (bh (aO fW [(cu (itL (ak 1)) (gN 0) (eC (.bool true)) (aO lY [(ak 1), (ak 0)]) 1 [0])]))
noncomputable def mX : List PyData → Res PyData := fnR 2 (bh (aO jQ [(eFn b7 [(ak 1)]), (cu (itL (az ixD (ak 0) (eC (.int 1)))) (gN 0) (eC (.bool true)) (aO cT [(ak 0), (ak 1)]) 1 [1])]))
noncomputable def fj : List PyData → Res PyData := fnR 3 (aP (bj 2 (aO jr [(az ixD (az ixD (ak 1) (eC (.int 0))) (eC (.int 1)))]))
    (bh (cu (itL (ak 0)) (gN 0) (az inY (aO cT [(ak 0), (az ixD (ak 1) (eC (.int 1)))]) (ak 2)) (ak 0) 1 [1, 2])))
noncomputable def cZ : List PyData → Res PyData := fnR 3 (aP (bj 1 (eUn lrD (aO bU [(az ixD (ak 0) (eC (.int 0)))])))
    (aP (cg (itL (az ixD (ak 0) (eC (.int 1)))) (gN 2) [2] (bj 1 (aO fj [(ak 1), (ak 2)])))
    (bh (aO mX [(jn [(az ixD (ak 0) (eC (.int 0))), (eFn iu [(ak 1)])]), (az ixD (ak 0) (eC (.int 2)))]))))
noncomputable def oG : List PyData → Res PyData := fnR 2 (bh (aO fW [(cu (itL (ak 0)) (gN 0) (eC (.bool true)) (aO lY [(ak 0), (ak 1)]) 1 [1])]))
noncomputable def jq : List PyData → Res PyData := fnR 2 (bh (eFn iu [(cu (fU (ak 1)) (gN 0) (eC (.bool true)) (aO oG [(ak 1), (ak 0)]) 1 [0])]))
noncomputable def gk : List PyData → Res PyData := fnN 3 (cg (itL (ak 0)) (gN 2) [2] (sIf (eOr (az gtD (az ixD (ak 2) (eC (.int 0))) (eC (.int 4))) (az gtD (aO jX [(eFn b7 [(az ixD (ak 2) (eC (.int 1)))]), (ak 1)]) (eC (.int 64)))) BW dB))
noncomputable def cU : List PyData → Res PyData := fnR 5 (aP (bj 2 (fu []))
    (aP (cg (itL (ak 0)) (gN 3) [3, 4] (cg (itL (aO fO [(az uN (fu [(az ixD (ak 3) (eC (.int 1)))]) (ak 1))])) (gN 4) [4] (pG 2 (jn [(ak 3), (aO jq [(ak 4), (az ixD (ak 3) (eC (.int 0)))])]))))
    (bh (eFn iu [(ak 2)]))))
noncomputable def lC : List PyData → Res PyData := fnR 3 (aP (sEx (aO gk [(ak 0), (ak 1)]))
    (aP (bj 2 (aO bU [(ak 1)]))
    (bh (az ixD (aO cZ [(jn [(ak 2), (aO cU [(ak 0), (ak 1)]), (eUn trD (ak 2))])]) (eC (.int 1))))))
noncomputable def jt : List PyData → Res PyData := fnR 6 (aP (bj 2 (eFn BZ [(az ixD (ak 1) (eC (.int 1)))]))
    (aP (bj 3 (eFn b7 [(ak 2)]))
    (aP (sIf (eOr (az gtD (az ixD (ak 1) (eC (.int 0))) (eC (.int 8))) (az gtD (ak 3) (eC (.int 3)))) BW dB)
    (aP (bj 4 (aO jq [(ak 2), (az ixD (ak 1) (eC (.int 0)))]))
    (aP (cg (itL (aO lC [(ak 0), (ak 3)])) (gN 5) [5] (sIf (az fX (aO cT [(ak 5), (ak 4)]) (ak 2)) (bh (jn [(eC (.str "cant")), (jn [(ak 3), (ak 5)]), (ak 2)])) dB))
    (bh (jn [(eC (.str "made")), (jn [(aO bU [(ak 3)]), (aO cU [(ak 0), (ak 3)]), (ak 4)])])))))))
end Prog
theorem L2.sizeLine_eq : PySem.sizeLine = 16777216 := by decide
namespace L3
open PySem L2
theorem Kc {o : Option PyData} {Γ : Ev} : gv (o :: Γ) 0 = o := rfl
theorem Li {o : Option PyData} {Γ : Ev} {i : Nat} : gv (o :: Γ) (i + 1) = gv Γ i := rfl
theorem Ey {d : PyData} {Γ : Ev} : ak 0 (some d :: Γ) = .ok d := rfl
theorem Ek {o : Option PyData} {Γ : Ev} {i : Nat} : ak (i + 1) (o :: Γ) = ak i Γ := rfl
theorem DP {d : PyData} {Γ : Ev} : eC d Γ = .ok d := rfl
theorem Hw {f : PyData → PyData → Res PyData} {a b : ME} {Γ : Ev} : az f a b Γ = (a Γ).bind fun x => (b Γ).bind fun y => f x y := rfl
theorem JW {f : PyData → Res PyData} {a : ME} {Γ : Ev} : eUn f a Γ = (a Γ).bind f := rfl
theorem Ar {f : List PyData → Res PyData} {ms : List ME} {Γ : Ev} : eFn f ms Γ = (evs ms Γ).bind f := rfl
theorem Fp {f : List PyData → Res PyData} {ms : List ME} {Γ : Ev} : aO f ms Γ = (evs ms Γ).bind f := rfl
theorem Ba {Γ : Ev} : evs [] Γ = .ok [] := rfl
theorem yw {m : ME} {ms : List ME} {Γ : Ev} : evs (m :: ms) Γ = (m Γ).bind fun d => (evs ms Γ).bind fun ds => .ok (d :: ds) := rfl
theorem Gy {ms : List ME} {Γ : Ev} : jn ms Γ = (evs ms Γ).bind fun ds => .ok (.tuple ds) := rfl
theorem Hk {ms : List ME} {Γ : Ev} : fu ms Γ = (evs ms Γ).bind fun ds => .ok (.list ds) := rfl
theorem GZ {T : String} {a : ME} {Γ : Ev} : lK T a Γ = (a Γ).bind fun d => .ok (.bool (nP T d)) := rfl
noncomputable def bT (x : PyData) (a b : Res PyData) : Res PyData := match x with
  | .bool true => a
  | .bool false => b
  | _ => .bad
noncomputable def bS (x : PyData) (a b : Res Out) : Res Out := match x with
  | .bool true => a
  | .bool false => b
  | _ => .bad
theorem Kl {a b : Res PyData} : bT (.bool true) a b = a := rfl
theorem Jd {a b : Res PyData} : bT (.bool false) a b = b := rfl
theorem Ld {a b : Res Out} : bS (.bool true) a b = a := rfl
theorem Iw {a b : Res Out} : bS (.bool false) a b = b := rfl
theorem Ms {c : Bool} {a b : Res PyData} : bT (.bool c) a b = if c = true then a else b := by cases c <;> rfl
theorem Ft {c : Bool} {a b : Res Out} : bS (.bool c) a b = if c = true then a else b := by cases c <;> rfl
theorem G6 {a b : ME} {Γ : Ev} : jK a b Γ = (a Γ).bind fun x => bT x (b Γ) (.ok (.bool false)) := by
  unfold jK bT; rfl
theorem Kz {a b : ME} {Γ : Ev} : eOr a b Γ = (a Γ).bind fun x => bT x (.ok (.bool true)) (b Γ) := by
  unfold eOr; congr 1; funext x; cases x <;> first | rfl | (rename_i b; cases b <;> rfl)
noncomputable def MT : PyData → Res PyData
  | .bool t => .ok (.bool (!t))
  | _ => .bad
theorem Gz {t : Bool} : MT (.bool t) = .ok (.bool (!t)) := rfl
theorem Hi {a : ME} {Γ : Ev} : dX a Γ = (a Γ).bind MT := rfl
noncomputable def CK (b : MS) : Out → Res Out
  | .nx Γ' => b Γ'
  | .rt d => .ok (.rt d)
  | .bk Γ' => .ok (.bk Γ')
  | .ct Γ' => .ok (.ct Γ')
theorem Le {b : MS} {Γ : Ev} : CK b (.nx Γ) = b Γ := rfl
theorem K6 {b : MS} {d : PyData} : CK b (.rt d) = .ok (.rt d) := rfl
theorem Jg {a b : MS} {Γ : Ev} : aP a b Γ = (a Γ).bind (CK b) := by
  unfold aP CK; rfl
theorem JR {α : Type} {r : Res α} : gd True r = r := rfl
theorem Hh {i : Nat} {m : ME} {Γ : Ev} : bj i m Γ = (m Γ).bind fun d => gd (i < Γ.length) (.ok (.nx (Γ.set i (some d)))) := rfl
theorem Kw {c : ME} {a b : MS} {Γ : Ev} : sIf c a b Γ = (c Γ).bind fun x => bS x (a Γ) (b Γ) := by
  unfold sIf bS; rfl
theorem Jj {m : ME} {Γ : Ev} : bh m Γ = (m Γ).bind fun d => .ok (.rt d) := rfl
theorem GX {Γ : Ev} : dB Γ = .ok (.nx Γ) := rfl
theorem HD {g : MG} {m : ME} {Γ : Ev} : Dg g m Γ = (m Γ).bind fun d => (g d Γ).bind fun Γ' => .ok (.nx Γ') := rfl
theorem IV {it : MI} {g : MG} {cl : List Nat} {b : MS} {Γ : Ev} : cg it g cl b Γ = (it Γ).bind fun xs => forR g cl b xs Γ := rfl
noncomputable def fin : Out → Res PyData
  | .rt d => .ok d
  | _ => .bad
theorem Oi {d : PyData} : fin (.rt d) = .ok d := rfl
theorem Lq {n : Nat} {m : MS} {ds : List PyData} : fnR n m ds = (m (ds.map some ++ List.replicate (n - ds.length) none)).bind fin := by
  unfold fnR; rfl
noncomputable def Od : Out → Res PyData
  | .rt d => .ok d
  | .nx _ => .ok .none
  | _ => .bad
theorem Ke {Γ : Ev} : Od (.nx Γ) = .ok .none := rfl
theorem K8 {n : Nat} {m : MS} {ds : List PyData} : fnN n m ds = (m (ds.map some ++ List.replicate (n - ds.length) none)).bind Od := by
  unfold fnN; rfl
noncomputable def IW (Γ : Ev) (i : Nat) (d : PyData) : Option PyData → Res Out
  | some (.list ds) => gd (ds.length < sizeLine ∧ i < Γ.length) (.ok (.nx (Γ.set i (some (.list (ds ++ [d]))))))
  | _ => .bad
theorem HQ {Γ : Ev} {i : Nat} {d : PyData} {ds : List PyData} : IW Γ i d (some (.list ds)) = gd (ds.length < sizeLine ∧ i < Γ.length) (.ok (.nx (Γ.set i (some (.list (ds ++ [d])))))) := rfl
theorem Hg {i : Nat} {m : ME} {Γ : Ev} : pG i m Γ = (m Γ).bind fun d => IW Γ i d (gv Γ i) := by
  unfold pG IW; rfl
theorem Pz {i : Nat} {d : PyData} {Γ : Ev} : gN i d Γ = gd (i < Γ.length) (.ok (Γ.set i (some d))) := rfl
theorem Nq {gs : List MG} {ds : List PyData} {Γ : Ev} : gT gs (.tuple ds) Γ = gTs gs ds Γ := rfl
theorem LC {Γ : Ev} : gTs [] [] Γ = .ok Γ := rfl
theorem Iz {g : MG} {gs : List MG} {d : PyData} {ds : List PyData} {Γ : Ev} : gTs (g :: gs) (d :: ds) Γ = (g d Γ).bind fun Γ' => gTs gs ds Γ' := rfl
noncomputable def mY : PyData → Res (List PyData)
  | .list ds => .ok ds
  | .tuple ds => .ok ds
  | _ => .bad
theorem Fw {ds : List PyData} : mY (.list ds) = .ok ds := rfl
theorem Ca {ds : List PyData} : mY (.tuple ds) = .ok ds := rfl
theorem Kr {m : ME} {Γ : Ev} : itL m Γ = (m Γ).bind mY := by
  unfold itL mY; rfl
noncomputable def upN (n : Nat) : List PyData := (List.range n).map fun i => PyData.int (i : Nat)
noncomputable def De : PyData → Res (List PyData)
  | .int j => gd (-(2 ^ 62) ≤ j ∧ j < 2 ^ 62) (.ok (upN j.toNat))
  | _ => .bad
theorem G5 {j : Int} : De (.int j) = gd (-(2 ^ 62) ≤ j ∧ j < 2 ^ 62) (.ok (upN j.toNat)) := rfl
theorem cH {n : Nat} (h : n < 2 ^ 62) : De (.int (n : Nat)) = .ok (upN n) := by
  rw [G5, bc (by omega), Int.toNat_natCast]
theorem yl {m : ME} {Γ : Ev} : fU m Γ = (m Γ).bind De := by
  unfold fU; congr 1; funext d
  cases d with
  | int j => show gd _ _ = gd _ _; congr 2; unfold upN; simp only [Int.zero_add]
  | _ => rfl
noncomputable def Ig : PyData → Res (List PyData)
  | .list ds => .ok ds.reverse
  | _ => .bad
theorem Im {ds : List PyData} : Ig (.list ds) = .ok ds.reverse := rfl
theorem Ku {m : ME} {Γ : Ev} : itV m Γ = (m Γ).bind Ig := by
  unfold itV Ig; rfl
theorem KH {Γ : Ev} : clr [] Γ = Γ := rfl
theorem Ih {i : Nat} {l : List Nat} {Γ : Ev} : clr (i :: l) Γ = clr l (Γ.set i none) := rfl
theorem GF {a b : Int} : cP (.int a) (.int b) = .ok (.int (a + b)) := rfl
theorem Gq {a b : Int} : Ir (.int a) (.int b) = .ok (.int (a - b)) := rfl
theorem Iv {a b : Int} : jP (.int a) (.int b) = gd (pK a b) (.ok (.int (a * b))) := rfl
theorem El {a b : Int} : jl (.int a) (.int b) = gd (vh a b) (.ok (.int (a / b))) := rfl
theorem Ib {a b : Int} : ir (.int a) (.int b) = gd (0 < b) (.ok (.int (a % b))) := rfl
theorem GQ {a b : Int} : j6 (.int a) (.int b) = gd (j4 a b) (.ok (.int (a * 2 ^ b.toNat))) := rfl
theorem Gx {a b : Int} : vg (.int a) (.int b) = gd (0 ≤ b) (.ok (.int (a / 2 ^ b.toNat))) := rfl
theorem Hv {a b : Int} : pQ (.int a) (.int b) = .ok (.int (Builtin.bitAnd a b)) := rfl
theorem JV {a b : Int} : ltD (.int a) (.int b) = .ok (.bool (decide (a < b))) := rfl
theorem Lh {a b : Int} : leD (.int a) (.int b) = .ok (.bool (decide (a ≤ b))) := rfl
theorem Ln {a b : Int} : gtD (.int a) (.int b) = .ok (.bool (decide (b < a))) := rfl
theorem lX {a : Int} : SeqAt.shaped (.int a) = true := by unfold SeqAt.shaped; rw [PyData.canLay0, PyData.depth]; rfl
theorem JQ {a b : Int} : eqD (.int a) (.int b) = .ok (.bool (decide (a = b))) := by
  unfold eqD; rw [bc ⟨lX, lX⟩, PyData.eqv]; congr 2
theorem Kp {a b : Int} : neD (.int a) (.int b) = .ok (.bool (!decide (a = b))) := by
  unfold neD; rw [bc ⟨lX, lX⟩, PyData.eqv]; congr 2
mutual
noncomputable def plain : PyData → Bool
  | .int _ => true
  | .none => true
  | .list ds => fP ds
  | .tuple ds => fP ds
  | .bool _ => false
  | .str _ => false
  | .dict _ => false
noncomputable def fP : List PyData → Bool
  | [] => true
  | d :: ds => plain d && fP ds
end
mutual
theorem v7 : ∀ (d : PyData), plain d = true → d.canLay0 = true
  | .int _, _ => by rw [PyData.canLay0]
  | .none, _ => by rw [PyData.canLay0]
  | .list ds, h => by rw [PyData.canLay0]; exact oJ ds (by rw [plain] at h; exact h)
  | .tuple ds, h => by rw [PyData.canLay0]; exact oJ ds (by rw [plain] at h; exact h)
  | .bool _, h => by rw [plain] at h; cases h
  | .str _, h => by rw [plain] at h; cases h
  | .dict _, h => by rw [plain] at h; cases h
theorem oJ : ∀ (ds : List PyData), fP ds = true → PyData.canLayAll0 ds = true
  | [], _ => by rw [PyData.canLayAll0]
  | d :: ds, h => by
    rw [fP, Bool.and_eq_true] at h
    rw [PyData.canLayAll0, v7 d h.1, oJ ds h.2]; rfl
end
mutual
theorem m9 : ∀ (d e : PyData), plain d = true → plain e = true → (PyData.eqv d e = true ↔ d = e)
  | .int a, .int b, _, _ => by rw [PyData.eqv]; simp
  | .none, .none, _, _ => by rw [PyData.eqv]; simp
  | .list ds, .list es, h, g => by
    rw [plain] at h g
    rw [PyData.eqv, o5 ds es h g]
    exact ⟨fun z => by rw [z], fun z => by cases z; rfl⟩
  | .tuple ds, .tuple es, h, g => by
    rw [plain] at h g
    rw [PyData.eqv, o5 ds es h g]
    exact ⟨fun z => by rw [z], fun z => by cases z; rfl⟩
  | .int _, .none, _, _ | .int _, .list _, _, _ | .int _, .tuple _, _, _ | .none, .int _, _, _ | .none, .list _, _, _ | .none, .tuple _, _, _
  | .list _, .int _, _, _ | .list _, .none, _, _ | .list _, .tuple _, _, _ | .tuple _, .int _, _, _ | .tuple _, .none, _, _ | .tuple _, .list _, _, _ => by
    rw [PyData.eqv]; exact ⟨(fun z => nomatch z), (fun z => nomatch z)⟩
  | .bool _, _, h, _ => by rw [plain] at h; cases h
  | .str _, _, h, _ => by rw [plain] at h; cases h
  | .dict _, _, h, _ => by rw [plain] at h; cases h
  | _, .bool _, _, h => by rw [plain] at h; cases h
  | _, .str _, _, h => by rw [plain] at h; cases h
  | _, .dict _, _, h => by rw [plain] at h; cases h
theorem o5 : ∀ (ds es : List PyData), fP ds = true → fP es = true → (PyData.eqvAll ds es = true ↔ ds = es)
  | [], [], _, _ => by rw [PyData.eqvAll]; simp
  | [], _ :: _, _, _ => by rw [PyData.eqvAll]; simp
  | _ :: _, [], _, _ => by rw [PyData.eqvAll]; simp
  | d :: ds, e :: es, h, g => by
    rw [fP, Bool.and_eq_true] at h g
    rw [PyData.eqvAll, Bool.and_eq_true, m9 d e h.1 g.1, o5 ds es h.2 g.2]
    simp
end
theorem eG {d : PyData} (h : plain d = true) (hd : d.depth ≤ 64) : SeqAt.shaped d = true := by
  unfold SeqAt.shaped; rw [v7 d h, decide_eq_true hd]; rfl
theorem vW {a b : PyData} (ha : plain a = true) (hb : plain b = true) (da : a.depth ≤ 64) (db : b.depth ≤ 64) : (eqD a b = .ok (.bool true) ↔ a = b) ∧ (eqD a b = .ok (.bool false) ↔ a ≠ b) ∧ (neD a b = .ok (.bool true) ↔ a ≠ b) ∧ (neD a b = .ok (.bool false) ↔ a = b) := by
  unfold eqD neD
  rw [bc ⟨eG ha da, eG hb db⟩, bc ⟨eG ha da, eG hb db⟩]
  have h := m9 a b ha hb
  cases q : PyData.eqv a b with
  | true => have e := h.mp q; simp [e]
  | false => have e : a ≠ b := fun z => by rw [h.mpr z] at q; cases q
             simp [e]
theorem G7 {a : PyData} (ha : plain a = true) (da : a.depth ≤ 64) : eqD a a = .ok (.bool true) := (vW ha ha da da).1.mpr rfl
theorem GC {a : PyData} (ha : plain a = true) (da : a.depth ≤ 64) : neD a a = .ok (.bool false) := (vW ha ha da da).2.2.2.mpr rfl
theorem rH : ∀ ns : List Int, fP (ns.map PyData.int) = true
  | [] => by rw [List.map_nil, fP]
  | n :: ns => by rw [List.map_cons, fP, plain, rH ns]; rfl
theorem zm (ns : List Int) : plain (.tuple (ns.map PyData.int)) = true := by rw [plain]; exact rH ns
noncomputable def j7 (cl : List Nat) : Out → Res Out
  | .nx Γ => .ok (.nx (clr cl Γ))
  | .ct Γ => .ok (.nx (clr cl Γ))
  | .bk Γ => .ok (.bk (clr cl Γ))
  | .rt d => .ok (.rt d)
theorem JM {cl : List Nat} {Γ : Ev} : j7 cl (.nx Γ) = .ok (.nx (clr cl Γ)) := rfl
noncomputable def Goes (r : Res Out) (P : Ev → Prop) : Prop := ∃ Γ, r = .ok (.nx Γ) ∧ P Γ
theorem KZ {Γ : Ev} {P : Ev → Prop} : Goes (.ok (.nx Γ)) P ↔ P Γ := ⟨fun hq__ => by obtain ⟨Γ', e, h⟩ := hq__; cases e; exact h, fun h => ⟨Γ, rfl, h⟩⟩
theorem uT {g : MG} {cl : List Nat} {b : MS} {x : PyData} {xs : List PyData} {Γ Γ' : Ev} (h : ((g x Γ).bind b).bind (j7 cl) = .ok (.nx Γ')) : forR g cl b (x :: xs) Γ = forR g cl b xs Γ' := by
  obtain ⟨o, h1, h2⟩ := Res.aF h
  obtain ⟨Γ1, h3, h4⟩ := Res.aF h1
  rw [forR, h3, Res.cW, h4, Res.cW]
  cases o <;> cases h2 <;> rfl
theorem rT {g : MG} {cl : List Nat} {b : MS} (I : Nat → Ev → Prop) : ∀ {xs : List PyData} {Γ : Ev}, I 0 Γ →
    (∀ i x Γ, xs[i]? = some x → I i Γ → Goes (((g x Γ).bind b).bind (j7 cl)) (I (i + 1))) → ∃ Γ', forR g cl b xs Γ = .ok (.nx Γ') ∧ I xs.length Γ' := by
  intro xs
  induction xs generalizing I with
  | nil => intro Γ h0 _; exact ⟨Γ, rfl, h0⟩
  | cons x xs ih =>
    intro Γ h0 hs
    obtain ⟨Γ2, e, h2⟩ := hs 0 x Γ rfl h0
    obtain ⟨Γ', e3, h3⟩ := ih (fun i => I (i + 1)) h2 fun i y Γ hy h => hs (i + 1) y Γ (by simpa using hy) h
    refine ⟨Γ', ?_, h3⟩
    rw [uT e]
    exact e3
theorem Lg {g : MG} {cl : List Nat} {b : MS} {xs : List PyData} {Γ : Ev} (S : Nat → Ev) (h0 : Γ = S 0)
    (h : ∀ i x, xs[i]? = some x → ((g x (S i)).bind b).bind (j7 cl) = .ok (.nx (S (i + 1)))) : forR g cl b xs Γ = .ok (.nx (S xs.length)) := by
  obtain ⟨Γ', e, h'⟩ := rT (g := g) (cl := cl) (b := b) (fun i Γ => Γ = S i) (xs := xs) (Γ := Γ) h0 fun i x Γ hx hI => by
    subst hI
    exact ⟨_, h i x hx, rfl⟩
  rw [e, h']
theorem bC {α : Type} {g : MG} {cl : List Nat} {b : MS} {xs : List PyData} {Γ : Ev} {f : Out → Res α} {r : Res α} (S : Nat → Ev) (h0 : Γ = S 0)
    (h : ∀ i x, xs[i]? = some x → ((g x (S i)).bind b).bind (j7 cl) = .ok (.nx (S (i + 1)))) (k : f (.nx (S xs.length)) = r) : (forR g cl b xs Γ).bind f = r := by
  rw [Lg S h0 h]; exact k
theorem Res.bind_assoc {α β γ : Type} {r : Res α} {f : α → Res β} {g : β → Res γ} : (r.bind f).bind g = r.bind fun a => (f a).bind g := by cases r <;> rfl
theorem vB {g : MG} {e : ME} {Γ : Ev} (F : PyData → PyData) : ∀ {xs : List PyData}, (∀ x ∈ xs, (g x Γ).bind e = .ok (F x)) → lN g (eC (.bool true)) e Γ xs = .ok (xs.map F)
  | [], _ => rfl
  | x :: xs, h => by
    obtain ⟨Γ1, e1, e2⟩ := Res.aF (h x List.mem_cons_self)
    rw [lN, e1, Res.cW, DP, Res.cW]
    show (e Γ1).bind _ = _
    rw [e2, Res.cW, vB F fun y hy => h y (List.mem_cons_of_mem _ hy)]
    rfl
theorem Du {it : MI} {g : MG} {e : ME} {nt : Nat} {ix : List Nat} {Γ : Ev} {xs : List PyData} (F : PyData → PyData) (hi : it Γ = .ok xs) (hz : xs.length < sizeLine) (h : ∀ x ∈ xs, (g x (gb nt ix Γ)).bind e = .ok (F x)) :
    cu it g (eC (.bool true)) e nt ix Γ = .ok (.list (xs.map F)) := by
  unfold cu
  rw [hi, Res.cW, bc hz, vB F h]
  rfl
theorem jA {it : MI} {g : MG} {e : ME} {nt : Nat} {ix : List Nat} {Γ : Ev} {n : Nat} (F : Nat → PyData) (hi : it Γ = .ok (upN n)) (hz : n < sizeLine) (h : ∀ i, i < n → (g (.int (i : Nat)) (gb nt ix Γ)).bind e = .ok (F i)) :
    cu it g (eC (.bool true)) e nt ix Γ = .ok (.list ((List.range n).map F)) := by
  have e1 : (upN n).map (fun d => match d with | .int i => F i.toNat | _ => .none) = (List.range n).map F := by
    unfold upN
    rw [List.map_map]
    refine List.map_congr_left fun i _ => ?_
    show F ((i : Nat) : Int).toNat = F i
    rw [Int.toNat_natCast]
  rw [← e1]
  refine Du _ hi (by unfold upN; rw [List.length_map, List.length_range]; exact hz) fun x hx => ?_
  obtain ⟨i, hi, rfl⟩ := List.mem_map.mp hx
  show _ = Res.ok (F ((i : Nat) : Int).toNat)
  rw [Int.toNat_natCast]
  exact h i (List.mem_range.mp hi)
theorem iG {n i : Nat} {x : PyData} (h : (upN n)[i]? = some x) : i < n ∧ x = .int (i : Nat) := by
  unfold upN at h
  rw [List.getElem?_map] at h
  rcases Nat.lt_or_ge i n with hi | hi
  · rw [List.getElem?_range hi] at h; exact ⟨hi, (Option.some.inj h).symm⟩
  · rw [List.getElem?_eq_none (by rw [List.length_range]; exact hi)] at h; cases h
theorem d9 (n : Nat) : (upN n).length = n := by unfold upN; rw [List.length_map, List.length_range]
theorem ints_get {ns : List Int} {i : Nat} {x : PyData} (h : (ns.map PyData.int)[i]? = some x) : ∃ v, x = .int v ∧ ns[i]? = some v := by
  rw [List.getElem?_map] at h
  cases e : ns[i]? with
  | none => rw [e] at h; cases h
  | some v => rw [e] at h; exact ⟨v, (Option.some.inj h).symm, rfl⟩
theorem BL {nt : Nat} {ix : List Nat} {Γ : Ev} : gb nt ix Γ = List.replicate nt none ++ ix.map (gv Γ) := rfl
theorem mO {ds : List PyData} {i : Nat} {d : PyData} (h : ds[i]? = some d) : ixD (.list ds) (.int (i : Nat)) = .ok d := by
  show (match L2.atI ds (i : Nat) with | some d => Res.ok d | none => .bad) = _
  rw [L2.Bq h]
theorem nH {ds : List PyData} {i : Nat} {d : PyData} (h : ds[i]? = some d) : ixD (.tuple ds) (.int (i : Nat)) = .ok d := by
  show (match L2.atI ds (i : Nat) with | some d => Res.ok d | none => .bad) = _
  rw [L2.Bq h]
theorem vU {ds : List PyData} : b7 [.list ds] = .ok (.int ds.length) := rfl
theorem iT {ds : List PyData} : b7 [.tuple ds] = .ok (.int ds.length) := rfl
theorem zF {ds : List PyData} : iu [.list ds] = .ok (.tuple ds) := rfl
theorem Gf {b : Bool} : jW (.bool b) = .ok (.bool b) := rfl
theorem zq {i : Int} : nP "int" (.int i) = true := rfl
theorem yQ {i : Int} : nP "bool" (.int i) = false := rfl
theorem tX {ds : List PyData} : nP "tuple" (.tuple ds) = true := rfl
theorem CW {f g : PyData → PyData → Res PyData} {a b c : ME} {Γ : Ev} : kZ f g a b c Γ = (a Γ).bind fun x => (b Γ).bind fun y => (f x y).bind fun t => bT t ((c Γ).bind fun z => g y z) (.ok (.bool false)) := by
  unfold kZ bT; rfl
theorem v9 {a b : List PyData} (h : a.length + b.length ≤ sizeLine) : cP (.list a) (.list b) = .ok (.list (a ++ b)) := bc h
theorem vY {α : Type} {g : MG} {c e : ME} {Γ : Ev} (enc : α → PyData) (p : α → Bool) (F : α → PyData) : ∀ {xs : List α}, (∀ a ∈ xs, (g (enc a) Γ).bind c = .ok (.bool (p a))) → (∀ a ∈ xs, p a = true → (g (enc a) Γ).bind e = .ok (F a)) → lN g c e Γ (xs.map enc) = .ok ((xs.filter p).map F)
  | [], _, _ => rfl
  | x :: xs, h, h' => by
    obtain ⟨Γ1, e1, e2⟩ := Res.aF (h x List.mem_cons_self)
    rw [List.map_cons, lN, e1, Res.cW, e2, Res.cW]
    have ih := vY enc p F (fun y hy => h y (List.mem_cons_of_mem _ hy)) (fun y hy => h' y (List.mem_cons_of_mem _ hy))
    cases hp : p x with
    | true =>
      have e3 := h' x List.mem_cons_self hp
      rw [e1, Res.cW] at e3
      show (e Γ1).bind _ = _
      rw [e3, Res.cW, ih, List.filter_cons_of_pos hp]
      rfl
    | false =>
      show lN g c e Γ (xs.map enc) = _
      rw [ih, List.filter_cons_of_neg (by rw [hp]; exact Bool.false_ne_true)]
theorem pL {α : Type} {it : MI} {g : MG} {c e : ME} {nt : Nat} {ix : List Nat} {Γ : Ev} {xs : List α} (enc : α → PyData) (p : α → Bool) (F : α → PyData) (hi : it Γ = .ok (xs.map enc)) (hz : xs.length < sizeLine)
    (h : ∀ a ∈ xs, (g (enc a) (gb nt ix Γ)).bind c = .ok (.bool (p a))) (h' : ∀ a ∈ xs, p a = true → (g (enc a) (gb nt ix Γ)).bind e = .ok (F a)) : cu it g c e nt ix Γ = .ok (.list ((xs.filter p).map F)) := by
  unfold cu
  rw [hi, Res.cW, bc (by rw [List.length_map]; exact hz), vY enc p F h h']
  rfl
theorem il {α : Type} {it : MI} {g : MG} {e : ME} {nt : Nat} {ix : List Nat} {Γ : Ev} {xs : List α} (enc : α → PyData) (F : α → PyData) (hi : it Γ = .ok (xs.map enc)) (hz : xs.length < sizeLine)
    (h : ∀ a ∈ xs, (g (enc a) (gb nt ix Γ)).bind e = .ok (F a)) : cu it g (eC (.bool true)) e nt ix Γ = .ok (.list (xs.map F)) := by
  rw [pL enc (fun _ => true) F hi hz (fun a ha => ?_) fun a ha _ => h a ha, List.filter_eq_self.mpr fun _ _ => rfl]
  obtain ⟨Γ1, e1, e2⟩ := Res.aF (h a ha)
  rw [e1]; rfl
theorem cV {α : Type} {enc : α → PyData} {xs : List α} {i : Nat} {x : PyData} (h : (xs.map enc)[i]? = some x) : ∃ a, xs[i]? = some a ∧ x = enc a := by
  rw [List.getElem?_map] at h
  cases e : xs[i]? with
  | none => rw [e] at h; cases h
  | some v => rw [e] at h; exact ⟨v, rfl, (Option.some.inj h).symm⟩
noncomputable def Gives {α : Type} (r : Res α) (P : α → Prop) : Prop := ∃ a, r = .ok a ∧ P a
theorem Jk {α : Type} {a : α} {P : α → Prop} : Gives (.ok a) P ↔ P a := ⟨fun hq__ => by obtain ⟨b, e, h⟩ := hq__; cases e; exact h, fun h => ⟨a, rfl, h⟩⟩
theorem jN {α : Type} {g : MG} {cl : List Nat} {b : MS} {xs : List PyData} {Γ : Ev} {f : Out → Res α} {P : α → Prop} (I : Nat → Ev → Prop) (h0 : I 0 Γ)
    (h : ∀ i x Γ, xs[i]? = some x → I i Γ → Goes (((g x Γ).bind b).bind (j7 cl)) (I (i + 1))) (k : ∀ Γ, I xs.length Γ → Gives (f (.nx Γ)) P) : Gives ((forR g cl b xs Γ).bind f) P := by
  obtain ⟨Γ', e, h'⟩ := rT I h0 h
  rw [e]; exact k Γ' h'
theorem EY {g : MG} {cl : List Nat} {b : MS} {xs : List PyData} {Γ : Ev} {f : Out → Res Out} {P : Ev → Prop} (I : Nat → Ev → Prop) (h0 : I 0 Γ)
    (h : ∀ i x Γ, xs[i]? = some x → I i Γ → Goes (((g x Γ).bind b).bind (j7 cl)) (I (i + 1))) (k : ∀ Γ, I xs.length Γ → Goes (f (.nx Γ)) P) : Goes ((forR g cl b xs Γ).bind f) P := by
  obtain ⟨Γ', e, h'⟩ := rT I h0 h
  rw [e]; exact k Γ' h'
theorem OD {a : PyData} {ds : List PyData} : ixD (.tuple (a :: ds)) (.int 0) = .ok a := nH (i := 0) rfl
theorem PQ {a b : PyData} {ds : List PyData} : ixD (.tuple (a :: b :: ds)) (.int 1) = .ok b := nH (i := 1) rfl
theorem Np {a b c : PyData} {ds : List PyData} : ixD (.tuple (a :: b :: c :: ds)) (.int 2) = .ok c := nH (i := 2) rfl
noncomputable def dG (n : Nat) (b : Int) : PyData := .tuple [.int (n : Nat), .int b]
noncomputable def dL (ns : List Int) : PyData := .list (ns.map PyData.int)
theorem ix0 {n : Nat} {b : Int} : ixD (dG n b) (.int 0) = .ok (.int (n : Nat)) := rfl
theorem ix1 {n : Nat} {b : Int} : ixD (dG n b) (.int 1) = .ok (.int b) := rfl
theorem Kd {n : Nat} {b : Int} : b7 [dG n b] = .ok (.int 2) := rfl
theorem Ky {ns : List Int} : b7 [dL ns] = .ok (.int ns.length) := by unfold dL; rw [vU, List.length_map]
theorem JS {ns : List Int} : mY (dL ns) = .ok (ns.map PyData.int) := rfl
theorem O7 {n : Nat} {b : Int} : nP "tuple" (dG n b) = true := rfl
theorem Oa {ns : List Int} : nP "list" (dL ns) = true := rfl
theorem pD {α : Type} {g : MG} {cl : List Nat} {b : MS} {Γ : Ev} {d : PyData} (enc : α → PyData) (p : α → Bool) : ∀ {xs : List α}, (∀ a ∈ xs, ((g (enc a) Γ).bind b).bind (j7 cl) = if p a = true then .ok (.rt d) else .ok (.nx Γ)) →
    forR g cl b (xs.map enc) Γ = if xs.any p = true then .ok (.rt d) else .ok (.nx Γ)
  | [], _ => rfl
  | x :: xs, h => by
    have h1 := h x List.mem_cons_self
    have ih := pD enc p (xs := xs) fun y hy => h y (List.mem_cons_of_mem _ hy)
    rw [List.map_cons]
    cases hp : p x with
    | true =>
      rw [if_pos hp] at h1
      obtain ⟨o, h2, h3⟩ := Res.aF h1
      obtain ⟨Γ1, h4, h5⟩ := Res.aF h2
      rw [List.any_cons, hp, Bool.true_or, if_pos rfl, forR, h4, Res.cW, h5, Res.cW]
      cases o <;> cases h3
      rfl
    | false =>
      rw [if_neg (by rw [hp]; exact Bool.false_ne_true)] at h1
      rw [uT h1, ih, List.any_cons, hp, Bool.false_or]
end L3
namespace L3
open PySem L2
theorem KQ {n : Int} : lrD (.int n) = gd (-(2 ^ 20) ≤ n ∧ n ≤ 2 ^ 20) (.ok (.list (upN n.toNat))) := rfl
end L3
set_option hygiene false in
local macro_rules | `(tactic| walk_at "ev") => `(tactic| simp (config := { decide := true, implicitDefEqProofs := false }) only [L3.Lq, L3.K8, L3.Jg, L3.Le, L3.K6, L3.JR, L3.Im, L3.Hh, L3.Kw, L3.Jj, L3.GX, L3.HD, L3.IV, L3.Hg, L3.HQ, L3.KQ, L3.Kc, L3.Li, L3.Ey, L3.Ek, L3.DP, L3.Hw, L3.JW, L3.Ar, L3.Fp, L3.Ba, L3.yw, L3.Gy, L3.Hk, L3.GZ, L3.G6, L3.Kz, L3.Hi, L3.CW, L3.zq, L3.yQ, L3.tX, L3.Gz, L3.Kr, L3.yl, L3.Ku, L3.Fw, L3.Ca, L3.Pz, L3.Nq, L3.LC, L3.Iz, L3.KH, L3.JM, L3.KZ, L3.Jk, L3.Ih, L3.BL, L3.Res.cW, L3.Res.bind_assoc, L3.Oi, L3.Ke, L3.Kl, L3.Jd, L3.Ld, L3.Iw, L3.GF, L3.Gq, L3.Iv, L3.El, L3.Ib, L3.GQ, L3.Gx, L3.Hv, L3.JV, L3.Lh, L3.Ln, L3.JQ, L3.Kp, L3.OD, L3.PQ, L3.Np, L3.ix0, L3.ix1, L3.Kd, L3.Ky, L3.JS, L3.O7, L3.Oa, L3.vU, L3.iT, L3.zF, L3.Gf, decide_false, decide_true, if_true, if_false, Bool.not_true, Bool.not_false, and_true, true_and, List.map_cons, List.map_nil, List.length_cons, List.length_nil, List.length_map, List.length_range, List.replicate_succ, List.replicate_zero, List.cons_append, List.nil_append, List.set_cons_zero, List.set_cons_succ, Nat.reduceSub, Nat.reduceAdd, Nat.zero_add])
set_option hygiene false in
local macro_rules | `(tactic| walk_at "gd") => `(tactic| (rw [L3.bc (by first | omega (config := {}) | (unfold L2.pK; omega (config := {})) | (unfold L2.vh; omega (config := {})) | (unfold L2.j4; omega (config := {})) | (simp (config := { decide := true }) only [L2.sizeLine_eq, List.length_append, List.length_map, List.length_range, List.length_take, List.length_drop, List.length_cons, List.length_nil]; omega (config := {})))]))
set_option hygiene false in
local macro_rules | `(tactic| walk_at "go") => `(tactic| (repeat (first | walk_at "ev" | walk_at "gd")))
namespace Prog
open PySem L2 L3 Gk
theorem Dh {a p : Int} (hp : 0 ≤ p) : lY [.int a, .int p] = .ok (.int (aU a p)) := by
  unfold lY
  walk_at "ev"
  rw [bc hp]
  walk_at "ev"
  rw [PyProof.Rows.bitAnd_m1]
  rfl
theorem rG {xs : List Int} : fW [dL xs] = .ok (.int (bJ xs)) := by
  unfold fW dL
  walk_at "ev"
  refine bC (fun i => [some (.list (xs.map PyData.int)), some (.int ((xs.reverse.take i).foldl (fun n f => 2 * n + f) 0)), none]) rfl (fun i x hx => ?_) ?_
  rotate_left
  · walk_at "ev"
    rw [List.length_reverse, List.length_map, ← List.length_reverse, List.take_length, Ip]
  · rw [← List.map_reverse] at hx
    obtain ⟨v, rfl, hv⟩ := ints_get hx
    walk_at "ev"
    rw [bc (.inl ⟨by decide, by decide⟩)]
    walk_at "ev"
    rw [List.take_add_one, hv, List.foldl_append]
    rfl
theorem jg {n : Nat} (hn : n ≤ 100) : bU [.int (n : Nat)] = .ok (.int (2 ^ n)) := by
  unfold bU
  walk_at "ev"
  rw [cH (by omega)]
  walk_at "ev"
  refine bC (fun i => [some (.int (n : Nat)), some (.int (2 ^ i)), none]) rfl (fun i x hx => ?_) ?_
  · obtain ⟨_, rfl⟩ := iG hx
    walk_at "ev"
    rw [bc (.inl ⟨by decide, by decide⟩)]
    walk_at "ev"
    rw [show (2 : Int) * 2 ^ i = 2 ^ (i + 1) by rw [Int.pow_succ, Int.mul_comm]]
  · rw [d9]
    walk_at "ev"
theorem nM {n : Nat} (h : n ≤ 4) : 2 ^ n ≤ 16 := by
  have : n = 0 ∨ n = 1 ∨ n = 2 ∨ n = 3 ∨ n = 4 := by omega
  rcases this with rfl | rfl | rfl | rfl | rfl <;> decide
theorem GK {n : Nat} (h : n ≤ 4) : De (.int (2 ^ n)) = .ok (upN (2 ^ n)) := by
  have e : ((2 : Int) ^ n) = (((2 ^ n : Nat)) : Int) := by simp
  have := nM h
  rw [e, cH (by omega)]
theorem Jc {n : Nat} (h : n ≤ 4) : 2 ^ n < sizeLine := by
  have := nM h
  exact Nat.lt_of_le_of_lt this (by decide)
theorem size_le {n : Nat} (h : n ≤ 100000) : n < sizeLine := Nat.lt_of_le_of_lt h (by decide)
theorem Bp {n : Nat} {f : Nat → Int} : (List.range n).map (fun i => PyData.int (f i)) = ((List.range n).map f).map PyData.int := by rw [List.map_map]; rfl
theorem nT (x y : Int) : Builtin.bitAnd x y / 2 = Builtin.bitAnd (x / 2) (y / 2) ∧ Builtin.bitAnd x y % 2 = (x % 2) * (y % 2) := by
  have h := PySem.W.kbt_halves x y
  have hx : x % 2 = 0 ∨ x % 2 = 1 := by omega
  have hy : y % 2 = 0 ∨ y % 2 = 1 := by omega
  rcases hx with hx | hx <;> rcases hy with hy | hy <;> simp only [hx, hy] at h ⊢ <;> (try simp at h) <;> omega
theorem kJ (x : Int) : Builtin.bitNot x / 2 = Builtin.bitNot (x / 2) ∧ Builtin.bitNot x % 2 = 1 - x % 2 := by
  unfold Builtin.bitNot; omega
theorem Dj (x y : Int) : Builtin.bitOr x y / 2 = Builtin.bitOr (x / 2) (y / 2) ∧ Builtin.bitOr x y % 2 = 1 - (1 - x % 2) * (1 - y % 2) := by
  unfold Builtin.bitOr
  obtain ⟨a1, a2⟩ := kJ (Builtin.bitAnd (Builtin.bitNot x) (Builtin.bitNot y))
  obtain ⟨b1, b2⟩ := nT (Builtin.bitNot x) (Builtin.bitNot y)
  obtain ⟨c1, c2⟩ := kJ x
  obtain ⟨d1, d2⟩ := kJ y
  rw [a1, a2, b1, b2, c1, c2, d1, d2]
  exact ⟨rfl, rfl⟩
noncomputable def qp (x y t : Int) : Int := Builtin.bitOr (Builtin.bitAnd x (Builtin.bitNot t)) (Builtin.bitAnd y t)
theorem Di (x y t : Int) : qp x y t / 2 = qp (x / 2) (y / 2) (t / 2) ∧ qp x y t % 2 = if t % 2 = 1 then y % 2 else x % 2 := by
  unfold qp
  obtain ⟨a1, a2⟩ := Dj (Builtin.bitAnd x (Builtin.bitNot t)) (Builtin.bitAnd y t)
  obtain ⟨b1, b2⟩ := nT x (Builtin.bitNot t)
  obtain ⟨c1, c2⟩ := nT y t
  obtain ⟨d1, d2⟩ := kJ t
  rw [a1, a2, b1, b2, c1, c2, d1, d2]
  refine ⟨rfl, ?_⟩
  have ht : t % 2 = 0 ∨ t % 2 = 1 := by omega
  rcases ht with ht | ht <;> rw [ht] <;> simp <;> omega
theorem vL (x : Int) : Builtin.bitAnd 0 x = 0 := by
  have := PySem.W.kbt_mask' x 0
  simpa using this
theorem pH {W : Nat} {f : Nat → Int} : tab (W + 1) f = 2 * tab W (fun r => f (r + 1)) + f 0 := by
  unfold tab
  rw [List.range_succ_eq_map, List.map_cons, gq, List.map_map]
  rfl
theorem Az {f g : Nat → Int} (t : Int) (hf : ∀ r, f r = 0 ∨ f r = 1) (hg : ∀ r, g r = 0 ∨ g r = 1) : ∀ W : Nat, qp (tab W f) (tab W g) t = tab W fun r => if aU t (r : Nat) = 1 then g r else f r
  | 0 => by
    show qp 0 0 t = 0
    unfold qp
    rw [vL, vL]
    rfl
  | W + 1 => by
    have ih := Az (f := fun r => f (r + 1)) (g := fun r => g (r + 1)) (t / 2) (fun r => hf (r + 1)) (fun r => hg (r + 1)) W
    rw [pH, pH, pH]
    have f0 := hf 0
    have g0 := hg 0
    obtain ⟨h1, h2⟩ := Di (2 * tab W (fun r => f (r + 1)) + f 0) (2 * tab W (fun r => g (r + 1)) + g 0) t
    rw [show (2 * tab W (fun r => f (r + 1)) + f 0) / 2 = tab W (fun r => f (r + 1)) by omega, show (2 * tab W (fun r => g (r + 1)) + g 0) / 2 = tab W (fun r => g (r + 1)) by omega, ih] at h1
    rw [show (2 * tab W (fun r => f (r + 1)) + f 0) % 2 = f 0 by omega, show (2 * tab W (fun r => g (r + 1)) + g 0) % 2 = g 0 by omega] at h2
    have e : (fun r : Nat => if aU t ((r + 1 : Nat) : Int) = 1 then g (r + 1) else f (r + 1)) = fun r : Nat => if aU (t / 2) (r : Nat) = 1 then g (r + 1) else f (r + 1) := by
      funext r; rw [wz]
    rw [e, show aU t ((0 : Nat) : Int) = t % 2 from wy t]
    omega
theorem vK (c : Int) : ∀ W : Nat, tab W (fun _ => c) = (2 ^ W - 1) * c
  | 0 => by simp [tab, bJ]
  | W + 1 => by
    rw [pH, vK c W, Int.pow_succ]
    have : (2 ^ W * 2 - 1) * c = 2 * ((2 ^ W - 1) * c) + c := by
      rw [Int.sub_mul, Int.sub_mul, Int.mul_sub, Int.mul_assoc, Int.mul_left_comm (2 ^ W) 2 c]; omega
    rw [this]
theorem jE {x : Int} (h0 : 0 ≤ x) (h1 : x < 4000) : Builtin.Range.rangeFitsLong x = true := by
  unfold Builtin.Range.rangeFitsLong
  rw [decide_eq_true (show -(2 ^ 63) ≤ x by omega), decide_eq_true (show x < 2 ^ 63 by omega)]
  rfl
theorem Gv {n : Nat} (h : n < 1000) : xT (.int 0) (.int ((2 * n : Nat) : Int)) (.int 2) = .ok ((List.range n).map fun (k : Nat) => PyData.int (((2 * k : Nat)) : Int)) := by
  have e : Builtin.Range.rangeSize 0 ((2 * n : Nat) : Int) 2 = (n : Nat) := by
    unfold Builtin.Range.rangeSize
    rw [if_pos (by decide)]
    split <;> omega
  have hs : Builtin.Range.small 0 ((2 * n : Nat) : Int) 2 = true := by
    unfold Builtin.Range.small
    rw [e, jE (by decide) (by decide), jE (by omega) (by omega), jE (by decide) (by decide), jE (by omega) (by omega), if_pos (by decide), jE (by omega) (by omega), Bool.or_true]
    rfl
  have e2 : xT (.int 0) (.int ((2 * n : Nat) : Int)) (.int 2) = gd ((2 : Int) ≠ 0 ∧ (2 : Int).natAbs < 1073741824 ∧ Builtin.Range.small 0 ((2 * n : Nat) : Int) 2 = true ∧ 0 ≤ Builtin.Range.rangeSize 0 ((2 * n : Nat) : Int) 2) (.ok ((List.range (Builtin.Range.rangeSize 0 ((2 * n : Nat) : Int) 2).toNat).map fun k => PyData.int (0 + (k : Nat) * 2))) := rfl
  have c3 : (2 : Int) ≠ 0 ∧ (2 : Int).natAbs < 1073741824 ∧ Builtin.Range.small 0 ((2 * n : Nat) : Int) 2 = true ∧ 0 ≤ Builtin.Range.rangeSize 0 ((2 * n : Nat) : Int) 2 := ⟨by omega, by omega, hs, by rw [e]; omega⟩
  refine e2.trans ((bc c3).trans ?_)
  rw [e, Int.toNat_natCast]
  refine congrArg Res.ok (List.map_congr_left fun k _ => congrArg PyData.int ?_)
  omega
noncomputable def xn (W N : Nat) (F : Int → Nat → Int) : List Int := (List.range N).map fun p => tab W (F (p : Nat))
theorem uL {W N : Nat} {F : Int → Nat → Int} {p : Nat} (h : p < N) : ((xn W N F).map PyData.int)[p]? = some (.int (tab W (F (p : Nat)))) := by
  unfold xn
  rw [List.map_map, List.getElem?_map, List.getElem?_range h]
  rfl
noncomputable def uB (t : Int) (F : Int → Nat → Int) : Int → Nat → Int := fun p r => F (2 * p + aU t (r : Nat)) r
noncomputable def iJ : List Int → (Int → Nat → Int) → Int → Nat → Int
  | [], F => F
  | t :: ts, F => iJ ts (uB t F)
theorem xJ : ∀ {ts : List Int} {F : Int → Nat → Int}, (∀ p r, F p r = 0 ∨ F p r = 1) → ∀ p r, iJ ts F p r = 0 ∨ iJ ts F p r = 1
  | [], F, h => h
  | t :: ts, F, h => xJ (ts := ts) fun p r => h _ r
theorem ur : ∀ {ts : List Int} {t : Int} {F : Int → Nat → Int}, iJ (ts ++ [t]) F = uB t (iJ ts F)
  | [], t, F => rfl
  | u :: ts, t, F => ur (ts := ts)
theorem yN : ∀ {ts : List Int} {F : Int → Nat → Int} {p : Int} {r : Nat}, iJ ts F p r = F (2 ^ ts.length * p + bJ (ts.map fun t => aU t (r : Nat))) r
  | [], F, p, r => by show F p r = F (2 ^ 0 * p + 0) r; simp
  | t :: ts, F, p, r => by
    show iJ ts (uB t F) p r = _
    rw [yN]
    unfold uB
    rw [List.map_cons, gq, List.length_cons, Int.pow_succ]
    congr 1
    rw [Int.mul_comm (2 ^ ts.length) 2, Int.mul_assoc]
    omega
theorem DQ {m W : Nat} {b : Int} {ts : List Int} (hl : ts.length = m) (hm : m ≤ 4) : lq [dG m b, dL ts, .int (2 ^ W - 1)] = .ok (.int (tab W fun r => aU b (bJ (ts.map fun t => aU t (r : Nat))))) := by
  have hp : ∀ i, 2 ^ (m - i) ≤ 16 := fun i => by have := nM (n := m - i) (by omega); omega
  unfold lq
  walk_at "ev"
  rw [jA (n := 2 ^ m) (fun p => .int (tab W fun _ => aU b (p : Nat))) ?_ (Jc hm) fun i _ => ?_]
  rotate_left
  · walk_at "ev"
    rw [jg (by omega)]
    walk_at "ev"
    exact GK hm
  · walk_at "ev"
    rw [Dh (by omega)]
    walk_at "ev"
    have cm : pK (2 ^ W - 1) (aU b (i : Nat)) := .inr ⟨by have := Aa b (i : Nat); omega, by have := J8 b (i : Nat); omega⟩
    rw [bc cm, vK]
  walk_at "ev"
  rw [Bp]
  refine bC (fun i => [some (dG m b), some (dL ts), some (.int (2 ^ W - 1)), some (dL (xn W (2 ^ (m - i)) (iJ (ts.take i) fun p r => aU b p))), none]) rfl (fun i x hx => ?_) ?_
  rotate_left
  · rw [List.length_map, hl, Nat.sub_self, ← hl, List.take_length]
    unfold dL
    walk_at "ev"
    rw [show (PyData.int 0) = .int ((0 : Nat) : Int) from rfl, mO (uL (by decide))]
    walk_at "ev"
    congr 2
    refine wk fun r hr => ?_
    rw [yN]
    congr 1
    simp
  · obtain ⟨t, rfl, ht⟩ := ints_get hx
    have hi : i < ts.length := (List.getElem?_eq_some_iff.mp ht).1
    have e2 : 2 ^ (m - i) = 2 * 2 ^ (m - (i + 1)) := by rw [show m - i = (m - (i + 1)) + 1 by omega, Nat.pow_succ]; omega
    have p16 := hp (i + 1)
    have F01 : ∀ p r, iJ (ts.take i) (fun p r => aU b p) p r = 0 ∨ iJ (ts.take i) (fun p r => aU b p) p r = 1 := xJ fun p r => dU b p
    walk_at "ev"
    rw [il (α := Nat) (xs := List.range (2 ^ (m - (i + 1)))) (fun k => .int ((2 * k : Nat) : Int)) (fun k => .int (tab W (iJ (ts.take (i + 1)) (fun p r => aU b p) (k : Nat)))) ?_ (size_le (by rw [List.length_range]; omega)) fun k hk => ?_]
    · walk_at "ev"
      rw [Bp]
      rfl
    · unfold Hs
      walk_at "ev"
      rw [show (xn W (2 ^ (m - i)) (iJ (ts.take i) fun p r => aU b p)).length = 2 * 2 ^ (m - (i + 1)) by unfold xn; rw [List.length_map, List.length_range, e2]]
      exact Gv (by omega)
    · have hk' := List.mem_range.mp hk
      unfold dL
      walk_at "ev"
      rw [mO (uL (by omega)), show ((2 * k : Nat) : Int) + 1 = ((2 * k + 1 : Nat) : Int) by omega, mO (uL (by omega))]
      walk_at "ev"
      show Res.ok (PyData.int (qp (tab W _) (tab W _) t)) = _
      rw [Az t (F01 _) (F01 _)]
      congr 2
      refine wk fun r hr => ?_
      rw [List.take_add_one, ht]
      show _ = iJ (ts.take i ++ [t]) _ _ _
      rw [ur]
      unfold uB
      rcases dU t (r : Nat) with h | h <;> rw [h]
      · rw [if_neg (by decide)]; congr 1 <;> omega
      · rw [if_pos rfl]; congr 1 <;> omega
theorem su (a : Int) {m : Int} (h : 0 < m) : ∃ n : Nat, a % m = (n : Nat) ∧ (n : Int) < m :=
  ⟨(a % m).toNat, by have := Int.emod_nonneg a (show m ≠ 0 by omega); omega, by have := Int.emod_lt_of_pos a h; have := Int.emod_nonneg a (show m ≠ 0 by omega); omega⟩
end Prog
namespace Prog
open PySem L2 L3 Gk
structure wN where
  m : Nat
  b : Int
  ws : List Nat
noncomputable def dN (ks : List Nat) : List PyData := ks.map fun k => PyData.int (k : Nat)
structure wN.Ok (t : Nat) (s : wN) : Prop where
  m4 : s.m ≤ 4
  len : s.ws.length = s.m
  lt : ∀ k ∈ s.ws, k < t
  b0 : 0 ≤ s.b
  b1 : s.b < 2 ^ 2 ^ s.m
noncomputable def Aq (n : Nat) (ss : List wN) : Prop := ∀ (i : Nat) (s : wN), ss[i]? = some s → s.Ok (n + i)
theorem snoc_ind {α : Type} {P : List α → Prop} (h0 : P []) (h : ∀ l a, P l → P (l ++ [a])) (l : List α) : P l := by
  have : ∀ k : Nat, ∀ l : List α, l.length = k → P l := by
    intro k
    induction k with
    | zero => intro l hl; rw [List.length_eq_zero_iff.mp hl]; exact h0
    | succ k ih =>
      intro l hl
      have hne : l ≠ [] := fun z => by rw [z] at hl; cases hl
      rw [← List.dropLast_concat_getLast hne]
      exact h _ _ (ih _ (by rw [List.length_dropLast, hl]; rfl))
  exact this _ l rfl
theorem Aq.nil {n : Nat} : Aq n [] := fun i s h => by cases h
theorem uM {ts : List Int} {k : Nat} (h : k < ts.length) : ixD (dL ts) (.int (k : Nat)) = .ok (.int (ts.getD k 0)) := by
  unfold dL
  refine mO (i := k) ?_
  rw [List.getElem?_map, List.getD_eq_getElem?_getD, List.getElem?_eq_getElem h]; rfl
theorem vz {xs : List Int} : sE [.list (xs.map PyData.int)] = .ok (.int xs.sum) := by
  show (match intsOf (xs.map PyData.int) with | some ns => Res.ok (PyData.int ns.sum) | none => .bad) = _
  rw [ug]
theorem CQ : ∀ (xs : List Int), ((List.range xs.length).map fun i => xs.getD i 0 * 2 ^ i).sum = bJ xs := by
  intro xs
  induction xs using snoc_ind with
  | h0 => rfl
  | h l a ih =>
    rw [List.length_append, List.length_singleton, List.range_succ, List.map_append, List.sum_append, nG, ← ih]
    congr 1
    · congr 1
      refine List.map_congr_left fun i hi => ?_
      rw [List.getD_eq_getElem?_getD, List.getD_eq_getElem?_getD, List.getElem?_append_left (List.mem_range.mp hi)]
    · show List.sum [(l ++ [a]).getD l.length 0 * 2 ^ l.length] = _
      rw [List.getD_eq_getElem?_getD, List.getElem?_append_right (Nat.le_refl _), Nat.sub_self]
      show a * 2 ^ l.length + 0 = _
      rw [Int.add_zero, Int.mul_comm]
theorem Bj (b : Int) (k : Nat) : Builtin.bitAnd (b / 2 ^ k) 1 = aU b (k : Nat) := by
  rw [PyProof.Rows.bitAnd_m1]; unfold aU; rw [Int.toNat_natCast]
end Prog
namespace Prog
open PySem L2 L3 Gk
theorem qZ {k : Nat} : ∀ {ds : List PyData}, (∀ d ∈ ds, d.depth ≤ k) → PyData.depthAll ds ≤ k
  | [], _ => by rw [PyData.depthAll]; exact Nat.zero_le _
  | d :: ds, h => by
    rw [PyData.depthAll]
    exact Nat.max_le.mpr ⟨h d List.mem_cons_self, qZ fun e he => h e (List.mem_cons_of_mem _ he)⟩
theorem vD {k : Nat} {ds : List PyData} (h : ∀ d ∈ ds, d.depth ≤ k) : (PyData.tuple ds).depth ≤ k + 1 := by
  rw [PyData.depth]
  have := qZ h
  omega
theorem Ff {ds : List PyData} (h : ∀ d ∈ ds, plain d = true) : fP ds = true := by
  induction ds with
  | nil => rw [fP]
  | cons d ds ih => rw [fP, h d List.mem_cons_self, ih fun e he => h e (List.mem_cons_of_mem _ he)]; rfl
theorem DK {ds : List PyData} (h : ∀ d ∈ ds, plain d = true) : plain (.tuple ds) = true := by rw [L3.plain]; exact Ff h
theorem j8 {i : Int} : plain (.int i) = true := by rw [L3.plain]
theorem mz {i : Int} : (PyData.int i).depth ≤ 0 := by rw [PyData.depth]; exact Nat.le_refl _
end Prog
namespace Prog
open PySem L2 L3 Gk
noncomputable def bW (b : Int) (ts : List Int) (w : Nat) : Int := tab w fun c => aU b (bJ (ts.map fun t => aU t (c : Nat)))
theorem rA {b : Int} {ts : List Int} {w : Nat} : 0 ≤ bW b ts w := oN fun _ => dU _ _
theorem Bc {b : Int} {ts : List Int} {w : Nat} : bW b ts w < 2 ^ w := za fun _ => dU _ _
theorem Oq {n : Nat} {f : Nat → Int} : PyData.list ((List.range n).map fun i => PyData.int (f i)) = dL ((List.range n).map f) := by unfold dL; rw [List.map_map]; rfl
theorem Bu {m : Nat} {b : Int} {ts : List Int} {w : Nat} (hl : ts.length = m) (hm : m ≤ 4) (hw : w ≤ 100) : jL [dG m b, dL ts, .int (w : Nat)] = .ok (.int (bW b ts w)) := by
  unfold jL
  walk_at "ev"
  rw [jg hw]
  walk_at "ev"
  rw [DQ hl hm]
  rfl
theorem take_snoc {α : Type} {l : List α} {i : Nat} {x : α} (h : l[i]? = some x) : l.take (i + 1) = l.take i ++ [x] := by
  rw [List.take_succ, h]; rfl
end Prog
namespace Prog
open PySem L2 L3 Gk
noncomputable def mk (ks : List Int) : List (PyData × PyData) := ks.map fun k => (PyData.int k, PyData.bool true)
noncomputable def nR (x : Int) (ks : List Int) : List Int := if x ∈ ks then ks else ks ++ [x]
theorem DW {x : Int} : ∀ ks : List Int, sI (.inl x) (mk ks) = decide (x ∈ ks)
  | [] => rfl
  | k :: ks => by
    show (if cI (PyData.int k) = some (.inl x) then true else sI (.inl x) (mk ks)) = _
    rw [DW ks]
    by_cases h : k = x
    · subst h
      rw [if_pos (show cI (PyData.int k) = some (.inl k) from rfl), decide_eq_true List.mem_cons_self]
    · rw [if_neg (show ¬ (cI (PyData.int k) = some (.inl x)) from fun z => h (Sum.inl.inj (Option.some.inj z)))]
      have : (x ∈ k :: ks) ↔ x ∈ ks := ⟨fun z => (List.mem_cons.mp z).resolve_left (fun e => h e.symm), List.mem_cons_of_mem _⟩
      exact decide_eq_decide.mpr this.symm
theorem uP {x : Int} : ∀ ks : List Int, (gZ (.inl x) (mk ks)).isSome = decide (x ∈ ks)
  | [] => rfl
  | k :: ks => by
    show (if cI (PyData.int k) = some (.inl x) then some (PyData.bool true) else gZ (.inl x) (mk ks)).isSome = _
    by_cases h : k = x
    · subst h
      rw [if_pos (show cI (PyData.int k) = some (.inl k) from rfl), decide_eq_true List.mem_cons_self]; rfl
    · rw [if_neg (show ¬ (cI (PyData.int k) = some (.inl x)) from fun z => h (Sum.inl.inj (Option.some.inj z))), uP ks]
      have : (x ∈ k :: ks) ↔ x ∈ ks := ⟨fun z => (List.mem_cons.mp z).resolve_left (fun e => h e.symm), List.mem_cons_of_mem _⟩
      exact decide_eq_decide.mpr this.symm
theorem Fy {x : Int} : ∀ ks : List Int, uY (.inl x) (.bool true) (mk ks) = mk ks
  | [] => rfl
  | k :: ks => by
    show (if cI (PyData.int k) = some (.inl x) then (PyData.int k, PyData.bool true) else (PyData.int k, PyData.bool true)) :: uY (.inl x) (.bool true) (mk ks) = (PyData.int k, PyData.bool true) :: mk ks
    rw [Fy ks, ite_self]
theorem Oo {x : Int} {ks : List Int} : m7 (.int x) (.inl x) (.bool true) (mk ks) = mk (nR x ks) := by
  unfold m7 nR
  rw [DW]
  by_cases h : x ∈ ks
  · rw [if_pos (decide_eq_true h), if_pos h, Fy]
  · rw [if_neg (by rw [decide_eq_true_eq]; exact h), if_neg h]
    unfold mk
    rw [List.map_append]
    rfl
theorem xQ {x : Int} {ks : List Int} : (nR x ks).length ≤ ks.length + 1 := by
  unfold nR
  split
  · omega
  · rw [List.length_append]; exact Nat.le_refl _
theorem xK {x y : Int} {ks : List Int} : y ∈ nR x ks ↔ y = x ∨ y ∈ ks := by
  unfold nR
  split
  · rename_i h
    exact ⟨.inr, fun z => z.elim (fun e => e ▸ h) id⟩
  · rw [List.mem_append, List.mem_singleton]
    exact Or.comm
theorem M4 {ks : List Int} : (mk ks).length = ks.length := by unfold mk; rw [List.length_map]
theorem rO {i : Nat} {m1 m2 : ME} {Γ : Ev} {x : Int} {ks : List Int} (h2 : m2 Γ = .ok (.bool true)) (h1 : m1 Γ = .ok (.int x)) (hg : gv Γ i = some (.dict (mk ks))) (hl : ks.length ≤ 100000) (hi : i < Γ.length) : qM i m1 m2 Γ = .ok (.nx (Γ.set i (some (.dict (mk (nR x ks)))))) := by
  unfold qM
  rw [h2, h1]
  show (match gv Γ i with
    | some (.dict kvs) => (match cI (.int x) with
      | some key => gd (kvs.length < sizeLine ∧ i < Γ.length) (.ok (Out.nx (Γ.set i (some (.dict (m7 (.int x) key (.bool true) kvs))))))
      | none => .bad)
    | _ => Res.bad) = _
  rw [hg]
  show gd ((mk ks).length < sizeLine ∧ i < Γ.length) (.ok (Out.nx (Γ.set i (some (.dict (m7 (.int x) (.inl x) (.bool true) (mk ks))))))) = _
  rw [bc ⟨size_le (by rw [M4]; exact hl), hi⟩, Oo]
theorem xN : ∀ ks : List Int, kh (mk ks) = some ks
  | [] => rfl
  | k :: ks => by
    show (kh (mk ks)).map (k :: ·) = _
    rw [xN ks]; rfl
theorem t8 {ks : List Int} (h : ks.length < 3000) : qI [.dict (mk ks)] = .ok (.list ((srt ks).map PyData.int)) := by
  show (match kh (mk ks) with
    | some ns => gd (ns.length < 3000) (Res.ok (PyData.list ((srt ns).map PyData.int)))
    | none => .bad) = _
  rw [xN]
  exact bc h
noncomputable def dR (rs : List Int) : PyData := .tuple (rs.map PyData.int)
theorem ph (rs : List Int) : (rs.map PyData.int).all SeqAt.shaped = true := by
  rw [List.all_eq_true]
  intro d hd
  obtain ⟨x, _, rfl⟩ := List.mem_map.mp hd
  exact eG j8 (Nat.le_trans mz (by decide))
theorem rP {x : Int} (rs : List Int) : inB (.int x) (rs.map PyData.int) = decide (x ∈ rs) := by
  unfold inB
  have e : ∀ y : Int, PyData.eqv (.int y) (.int x) = decide (y = x) := fun y => Bool.eq_iff_iff.mpr ((m9 _ _ j8 j8).trans ⟨fun z => decide_eq_true (PyData.int.inj z), fun z => congrArg PyData.int (of_decide_eq_true z)⟩)
  induction rs with
  | nil => rfl
  | cons r rs ih =>
    rw [List.map_cons, List.any_cons, ih, e]
    by_cases h : r = x
    · subst h; rw [decide_eq_true rfl, decide_eq_true List.mem_cons_self]; rfl
    · rw [decide_eq_false h, Bool.false_or]
      have : (x ∈ r :: rs) ↔ x ∈ rs := ⟨fun z => (List.mem_cons.mp z).resolve_left (fun e => h e.symm), List.mem_cons_of_mem _⟩
      exact decide_eq_decide.mpr this.symm
theorem rM {x : Int} {rs : List Int} : fX (.int x) (dR rs) = .ok (.bool (!decide (x ∈ rs))) := by
  show gd (SeqAt.shaped (.int x) = true ∧ (rs.map PyData.int).all SeqAt.shaped = true) (Res.ok (PyData.bool (!inB (.int x) (rs.map PyData.int)))) = _
  rw [bc ⟨eG j8 (Nat.le_trans mz (by decide)), ph rs⟩, rP]
theorem Hn {x : Int} {rs : List Int} : fX (.int x) (dL rs) = .ok (.bool (!decide (x ∈ rs))) := by
  show gd (SeqAt.shaped (.int x) = true ∧ (rs.map PyData.int).all SeqAt.shaped = true) (Res.ok (PyData.bool (!inB (.int x) (rs.map PyData.int)))) = _
  rw [bc ⟨eG j8 (Nat.le_trans mz (by decide)), ph rs⟩, rP]
theorem Hu {x : Int} {ks : List Int} : fX (.int x) (.dict (mk ks)) = .ok (.bool (!decide (x ∈ ks))) := by
  show Res.ok (PyData.bool (!(gZ (.inl x) (mk ks)).isSome)) = _
  rw [uP]
noncomputable def fL (rs : List Int) (ls : List (List Int)) : List (List Int) := ls.flatMap fun c => rs.map fun r => c ++ [r]
noncomputable def d8 (rs : List Int) : Nat → List (List Int)
  | 0 => [[]]
  | m + 1 => fL rs (d8 rs m)
theorem kW {rs : List Int} : ∀ ls : List (List Int), (fL rs ls).length = ls.length * rs.length
  | [] => by show 0 = 0 * _; omega
  | c :: ls => by
    show ((rs.map fun r => c ++ [r]) ++ fL rs ls).length = _
    rw [List.length_append, List.length_map, kW ls, List.length_cons, Nat.succ_mul]; omega
theorem pM {rs : List Int} : ∀ m, (d8 rs m).length = rs.length ^ m
  | 0 => rfl
  | m + 1 => by show (fL rs (d8 rs m)).length = _; rw [kW, pM m, Nat.pow_succ]
theorem jz {rs : List Int} : ∀ m, ∀ c ∈ d8 rs m, c.length = m
  | 0, c, h => by rw [List.mem_singleton.mp h]; rfl
  | m + 1, c, h => by
    obtain ⟨c', h1, h2⟩ := List.mem_flatMap.mp h
    obtain ⟨r, _, rfl⟩ := List.mem_map.mp h2
    rw [List.length_append, jz m c' h1]; rfl
theorem sZ {rs : List Int} {ls : List (List Int)} {c : List Int} : fL rs (ls ++ [c]) = fL rs ls ++ rs.map fun r => c ++ [r] := by
  unfold fL
  rw [List.flatMap_append]
  show _ ++ ((rs.map fun r => c ++ [r]) ++ []) = _
  rw [List.append_nil]
theorem Ph {c : List Int} {r : Int} (h : c.length ≤ 100) : cP (dL c) (.list [.int r]) = .ok (dL (c ++ [r])) := by
  unfold dL
  rw [v9 (Nat.le_of_lt (size_le (by rw [List.length_map, List.length_singleton]; omega))), List.map_append]
  rfl
theorem pN {α : Type} {g : MG} {cl : List Nat} {b : MS} {Γ : Ev} (enc D : α → PyData) (p : α → Bool) : ∀ {xs : List α}, (∀ a ∈ xs, ((g (enc a) Γ).bind b).bind (j7 cl) = if p a = true then .ok (.rt (D a)) else .ok (.nx Γ)) →
    forR g cl b (xs.map enc) Γ = match xs.find? p with | some a => .ok (.rt (D a)) | none => .ok (.nx Γ)
  | [], _ => rfl
  | x :: xs, h => by
    have h1 := h x List.mem_cons_self
    have ih := pN enc D p (xs := xs) fun a ha => h a (List.mem_cons_of_mem _ ha)
    rw [List.map_cons]
    cases hp : p x with
    | true =>
      rw [if_pos hp] at h1
      obtain ⟨o, h2, h3⟩ := Res.aF h1
      obtain ⟨Γ1, h4, h5⟩ := Res.aF h2
      rw [List.find?_cons, hp, forR, h4, Res.cW, h5, Res.cW]
      cases o <;> cases h3
      rfl
    | false =>
      rw [if_neg (by rw [hp]; exact Bool.false_ne_true)] at h1
      rw [uT h1, ih, List.find?_cons, hp]
theorem KC {a : List PyData} {k : Int} (h : -(2 ^ 63) ≤ k ∧ k < 2 ^ 63 ∧ a.length * k.toNat ≤ sizeLine) : uN (.list a) (.int k) = .ok (.list (List.replicate k.toNat a).flatten) := bc h
theorem rep1 {n : Nat} {x : PyData} (hn : n ≤ 100) : uN (.list [x]) (.int (n : Nat)) = .ok (.list (List.replicate n x)) := by
  rw [KC ⟨by omega, by omega, by rw [Int.toNat_natCast, List.length_singleton, Nat.one_mul]; exact Nat.le_of_lt (size_le (by omega))⟩, Int.toNat_natCast]
  congr 2
  clear hn
  induction n with
  | zero => rfl
  | succ n ih => rw [List.replicate_succ, List.flatten_cons, ih, List.replicate_succ]; rfl
noncomputable def markL (rs : List Int) : List Int := rs.foldl (fun ks r => nR r ks) []
theorem jM {rs : List Int} {r : Int} : markL (rs ++ [r]) = nR r (markL rs) := by unfold markL; rw [List.foldl_append]; rfl
theorem pY {x : Int} (rs : List Int) : x ∈ markL rs ↔ x ∈ rs := by
  induction rs using snoc_ind with
  | h0 => exact Iff.rfl
  | h rs r ih => rw [jM, xK, ih, List.mem_append, List.mem_singleton]; exact Or.comm
theorem wj (rs : List Int) : (markL rs).length ≤ rs.length := by
  induction rs using snoc_ind with
  | h0 => exact Nat.le_refl _
  | h rs r ih => rw [jM, List.length_append]; exact Nat.le_trans xQ (Nat.succ_le_succ ih)
theorem xf {rs : List Int} (hr : rs.length ≤ 1000) : jr [dR rs] = .ok (.dict (mk (markL rs))) := by
  unfold jr
  walk_at "ev"
  rw [show mY (dR rs) = .ok (rs.map PyData.int) from rfl, show qe [] [some (dR rs), none, none] = .ok (.dict []) from rfl]
  walk_at "ev"
  refine bC (fun i => [some (dR rs), some (.dict (mk (markL (rs.take i)))), none]) rfl (fun i x hx => ?_) ?_
  · obtain ⟨r, er, rfl⟩ := cV hx
    walk_at "ev"
    rw [rO (x := r) (ks := markL (rs.take i)) rfl rfl rfl (Nat.le_trans (wj _) (by rw [List.length_take]; omega)) (of_decide_eq_true rfl)]
    walk_at "ev"
    rw [take_snoc er, jM]
  · rw [List.length_map, List.take_length]
    walk_at "ev"
noncomputable def gA (cs : List (List Int)) : List (List Int) := cs.foldl (fun ls rs => fL rs ls) [[]]
theorem lQ (cs : List (List Int)) (rs : List Int) : gA (cs ++ [rs]) = fL rs (gA cs) := by unfold gA; rw [List.foldl_append]; rfl
theorem Et {rs : List Int} {ls : List (List Int)} {c : List Int} : c ∈ fL rs ls ↔ ∃ d ∈ ls, ∃ r ∈ rs, c = d ++ [r] := by
  unfold fL
  rw [List.mem_flatMap]
  constructor
  · rintro ⟨d, hd, h⟩
    obtain ⟨r, hr, rfl⟩ := List.mem_map.mp h
    exact ⟨d, hd, r, hr, rfl⟩
  · rintro ⟨d, hd, r, hr, rfl⟩
    exact ⟨d, hd, List.mem_map.mpr ⟨r, hr, rfl⟩⟩
theorem wB {c : List Int} {cs : List (List Int)} : c ∈ gA cs ↔ c.length = cs.length ∧ ∀ i, i < cs.length → c.getD i 0 ∈ cs.getD i [] := by
  induction cs using snoc_ind generalizing c with
  | h0 =>
    constructor
    · intro h; rw [List.mem_singleton.mp h]; exact ⟨rfl, fun i hi => absurd hi (Nat.not_lt_zero _)⟩
    · rintro ⟨h, _⟩; rw [List.length_eq_zero_iff.mp h]; exact List.mem_singleton.mpr rfl
  | h cs rs ih =>
    rw [lQ, Et]
    constructor
    · rintro ⟨d, hd, r, hr, rfl⟩
      obtain ⟨h1, h2⟩ := ih.mp hd
      refine ⟨by rw [List.length_append, List.length_append, h1]; rfl, fun i hi => ?_⟩
      rw [List.length_append] at hi
      have hi : i < cs.length + 1 := hi
      rcases Nat.lt_or_ge i cs.length with q | q
      · have := h2 i q
        rw [List.getD_eq_getElem?_getD, List.getD_eq_getElem?_getD] at this ⊢
        rw [List.getElem?_append_left (l₁ := d) (by omega), List.getElem?_append_left (l₁ := cs) q]
        exact this
      · have e : i = cs.length := by omega
        subst e
        rw [List.getD_eq_getElem?_getD, List.getD_eq_getElem?_getD, List.getElem?_append_right (l₁ := d) (by omega), List.getElem?_append_right (l₁ := cs) (Nat.le_refl _), h1, Nat.sub_self]
        exact hr
    · rintro ⟨h1, h2⟩
      rw [List.length_append] at h1
      have h1 : c.length = cs.length + 1 := h1
      have hl : cs.length < c.length := by omega
      refine ⟨c.take cs.length, ih.mpr ⟨by rw [List.length_take]; omega, fun i hi => ?_⟩, c.getD cs.length 0, ?_, ?_⟩
      · have := h2 i (by rw [List.length_append]; exact Nat.lt_succ_of_lt hi)
        rw [List.getD_eq_getElem?_getD, List.getD_eq_getElem?_getD] at this ⊢
        rw [List.getElem?_append_left hi] at this
        rw [List.getElem?_take, if_pos hi]
        exact this
      · have := h2 cs.length (by rw [List.length_append]; exact Nat.lt_succ_self _)
        rw [List.getD_eq_getElem?_getD (l := cs ++ [rs]), List.getElem?_append_right (Nat.le_refl _), Nat.sub_self] at this
        exact this
      · rw [List.getD_eq_getElem?_getD, List.getElem?_eq_getElem hl]
        show c = c.take cs.length ++ [c[cs.length]]
        have e1 : c.take (cs.length + 1) = c.take cs.length ++ [c[cs.length]] := by rw [List.take_add_one, List.getElem?_eq_getElem hl]; rfl
        rw [← e1, List.take_of_length_le (by omega)]
theorem Cy {c : List Int} {cs : List (List Int)} (h : c ∈ gA cs) : c.length = cs.length := (wB.mp h).1
theorem Fi {B : Nat} : ∀ {cs : List (List Int)}, (∀ rs ∈ cs, rs.length ≤ B) → (gA cs).length ≤ B ^ cs.length := fun {cs} => by
  induction cs using snoc_ind with
  | h0 => exact fun _ => Nat.le_refl _
  | h cs rs ih =>
    intro hb
    rw [lQ, kW, List.length_append]
    show _ ≤ B ^ (cs.length + 1)
    rw [Nat.pow_succ]
    exact Nat.mul_le_mul (ih fun r hr => hb r (List.mem_append_left _ hr)) (hb rs (by simp))
theorem nO (rs : List Int) : ∀ m, d8 rs m = gA (List.replicate m rs)
  | 0 => rfl
  | m + 1 => by
    rw [List.replicate_succ', lQ, ← nO rs m]
    rfl
theorem rQ {rs c : List Int} {m : Nat} : c ∈ d8 rs m ↔ c.length = m ∧ ∀ x ∈ c, x ∈ rs := by
  rw [nO, wB, List.length_replicate]
  constructor
  · rintro ⟨h1, h2⟩
    refine ⟨h1, fun x hx => ?_⟩
    obtain ⟨i, hi, rfl⟩ := List.mem_iff_getElem.mp hx
    have := h2 i (by omega)
    rw [List.getD_eq_getElem?_getD, List.getD_eq_getElem?_getD, List.getElem?_eq_getElem hi, List.getElem?_replicate_of_lt (by omega)] at this
    exact this
  · rintro ⟨h1, h2⟩
    refine ⟨h1, fun i hi => ?_⟩
    rw [List.getD_eq_getElem?_getD, List.getD_eq_getElem?_getD, List.getElem?_eq_getElem (l := c) (by omega), List.getElem?_replicate_of_lt hi]
    exact h2 _ (List.getElem_mem _)
theorem Pj {n m : Nat} (hn : n ≤ 16) (hm : m ≤ 4) : n ^ m ≤ 65536 := Nat.le_trans (Nat.pow_le_pow_left hn m) (Nat.le_trans (Nat.pow_le_pow_right (by decide) hm) (by decide))
theorem tu {enc : List Int → PyData} {cs : List (List Int)} (he : ∀ rs, mY (enc rs) = .ok (rs.map PyData.int)) (hr : ∀ rs ∈ cs, rs.length ≤ 16) (hm : cs.length ≤ 4) : fO [.list (cs.map enc)] = .ok (.list ((gA cs).map dL)) := by
  unfold fO
  walk_at "ev"
  refine bC (fun i => [some (.list (cs.map enc)), some (.list ((gA (cs.take i)).map dL)), none, none, none, none]) rfl (fun i x hx => ?_) ?_
  · obtain ⟨rs, ers, rfl⟩ := cV hx
    have hi := (List.getElem?_eq_some_iff.mp ers).1
    have hrs := hr rs (List.mem_of_getElem? ers)
    have L0 : (gA (cs.take i)).length ≤ 65536 := Nat.le_trans (Fi (B := 16) fun r q => hr r (List.mem_of_mem_take q)) (Pj (Nat.le_refl _) (by rw [List.length_take]; omega))
    walk_at "ev"
    refine bC (fun j => [some (.list (cs.map enc)), some (.list ((gA (cs.take i)).map dL)), some (enc rs), some (.list ((fL rs ((gA (cs.take i)).take j)).map dL)), none, none]) rfl (fun j x hx => ?_) ?_
    · obtain ⟨c, ec, rfl⟩ := cV hx
      have hc := Cy (List.mem_of_getElem? ec)
      rw [List.length_take] at hc
      have Lj : (fL rs ((gA (cs.take i)).take j)).length ≤ 1100000 := by
        rw [kW, List.length_take]
        exact Nat.le_trans (Nat.mul_le_mul (Nat.le_trans (Nat.min_le_right _ _) L0) hrs) (by decide)
      walk_at "ev"
      rw [he]
      walk_at "ev"
      refine bC (fun k => [some (.list (cs.map enc)), some (.list ((gA (cs.take i)).map dL)), some (enc rs), some (.list ((fL rs ((gA (cs.take i)).take j) ++ (rs.take k).map fun r => c ++ [r]).map dL)), some (dL c), none]) ?_ (fun k x hx => ?_) ?_
      · rw [List.take_zero, List.map_nil, List.append_nil]
      · obtain ⟨r, er, rfl⟩ := cV hx
        have hk := (List.getElem?_eq_some_iff.mp er).1
        walk_at "ev"
        rw [Ph (by omega)]
        walk_at "ev"
        rw [bc (Nat.lt_of_le_of_lt (show _ ≤ 1200000 by rw [List.length_append, List.length_map, List.length_take]; omega) (by decide))]
        walk_at "ev"
        rw [take_snoc er, List.map_append (f := fun r => c ++ [r]), ← List.append_assoc, List.map_append (f := dL) (l₂ := List.map (fun r => c ++ [r]) [r])]
        rfl
      · rw [List.length_map, List.take_length]
        walk_at "ev"
        rw [take_snoc ec, sZ]
    · rw [List.length_map, List.take_length]
      walk_at "ev"
      rw [take_snoc ers, lQ]
  · rw [List.length_map, List.take_length]
    walk_at "ev"
theorem Bb {n m : Nat} (hn : n ≤ 128) (hm : m ≤ 4) : jX [.int (n : Nat), .int (m : Nat)] = .ok (.int ((n ^ m : Nat) : Int)) := by
  unfold jX
  walk_at "ev"
  rw [cH (by omega)]
  walk_at "ev"
  refine bC (fun i => [some (.int (n : Nat)), some (.int (m : Nat)), some (.int ((n ^ i : Nat) : Int)), none]) rfl (fun i x hx => ?_) ?_
  · obtain ⟨hi, rfl⟩ := iG hx
    have e : ((n ^ (i + 1) : Nat) : Int) = (n : Nat) * ((n ^ i : Nat) : Int) := by rw [Nat.pow_succ, Nat.mul_comm, Int.natCast_mul]
    rw [e]
    generalize n ^ i = q
    walk_at "go"
  · rw [d9]
    walk_at "ev"
end Prog
namespace Prog
open PySem L2 L3 Gk
noncomputable abbrev dGp (g : Nat × Int) : PyData := dG g.1 g.2
theorem o8 {a b : List PyData} (h : a.length + b.length ≤ 1000) : cP (.list a) (.list b) = .ok (.list (a ++ b)) := v9 (Nat.le_of_lt (size_le (by omega)))
noncomputable def Cg (n : Nat) (gs : List (Nat × Int)) : Nat := (gs.map fun g => n ^ g.1).sum
theorem xX {n : Nat} {gs : List (Nat × Int)} (hn : n ≤ 128) (hg : gs.length ≤ 100) (hm : ∀ g ∈ gs, g.1 ≤ 4) : iy [.int (n : Nat), .list (gs.map dGp)] = .ok (.int (Cg n gs : Nat)) := by
  unfold iy
  walk_at "ev"
  rw [il (xs := gs) dGp (fun g => .int ((n ^ g.1 : Nat) : Int)) ?_ (size_le (by omega)) fun g h => ?_]
  · walk_at "ev"
    rw [show gs.map (fun g => PyData.int ((n ^ g.1 : Nat) : Int)) = (gs.map fun g => ((n ^ g.1 : Nat) : Int)).map PyData.int by rw [List.map_map]; rfl]
    have : ∀ ns : List Int, sE [.list (ns.map PyData.int)] = .ok (.int ns.sum) := fun ns => vz
    rw [this]
    walk_at "ev"
    unfold Cg
    congr 2
    induction gs with
    | nil => rfl
    | cons g gs ih =>
      rw [List.map_cons, List.sum_cons, List.map_cons, List.sum_cons, Int.natCast_add, ih (by rw [List.length_cons] at hg; omega) fun q hq => hm q (List.mem_cons_of_mem _ hq)]
  · walk_at "ev"
  · walk_at "ev"
    rw [Bb hn (hm g h)]
theorem Dt {ns : List Int} (h : (ddl ns).length < 3000) : oO [dL ns] = .ok (dL (srt (ddl ns))) := by
  show (match intsOf (ns.map PyData.int) with
    | some ns => gd ((ddl ns).length < 3000) (Res.ok (PyData.list ((srt (ddl ns)).map PyData.int)))
    | none => .bad) = _
  rw [ug]
  exact bc h
theorem Df {w : PyData} {ns : List Int} (h : (ddl ns).length < 3000) : jQ [w, dL ns] = .ok (.tuple [w, dR (srt (ddl ns))]) := by
  unfold jQ
  walk_at "ev"
  rw [Dt h]
  unfold dL
  walk_at "ev"
  rfl
end Prog
namespace Prog
open PySem L2 L3 Gk
theorem yt : ∀ {N : Nat} {l : List Int}, l.Nodup → (∀ x ∈ l, 0 ≤ x ∧ x < N) → l.length ≤ N
  | 0, l, hn, hb => by
    cases l with
    | nil => exact Nat.le_refl _
    | cons x l => have := hb x List.mem_cons_self; omega
  | N + 1, l, hn, hb => by
    have h1 : (l.erase (N : Int)).length ≤ N := yt (hn.erase _) fun x hx => by
      have hx := (hn.mem_erase_iff).mp hx
      have := hb x hx.2
      have hne := hx.1
      omega
    by_cases hm : (N : Int) ∈ l
    · rw [List.length_erase_of_mem hm] at h1; omega
    · rw [List.erase_of_not_mem hm] at h1; omega
theorem G3 {l : List Int} (h : l.Nodup) : ddl l = l := by
  have key : ∀ (l σ : List Int), (σ ++ l).Nodup → l.foldl gC σ = σ ++ l := fun l => by
    induction l with
    | nil => intro σ _; rw [List.append_nil]; rfl
    | cons x l ih =>
      intro σ h
      have hx : x ∉ σ := fun z => (List.nodup_append.mp h).2.2 x z x List.mem_cons_self rfl
      rw [List.foldl_cons, show gC σ x = σ ++ [x] from if_neg hx, ih (σ ++ [x]) (by rw [List.append_assoc]; exact h), List.append_assoc]
      rfl
  exact key l [] (by simpa using h)
theorem Bl {x : Int} {l : List Int} : x ∈ srt l ↔ x ∈ l := (eZ l).mem_iff
theorem xY {a b : List Int} (ha : a.Nodup) (hb : b.Nodup) (h : ∀ x, x ∈ a ↔ x ∈ b) : srt a = srt b :=
  jd (((eZ a).trans ((List.perm_ext_iff_of_nodup ha hb).mpr h)).trans (eZ b).symm) (gD a) (gD b)
theorem Nx {m : ME} {Γ : Ev} {d : PyData} (h : m Γ = .ok d) : sEx m Γ = .ok (.nx Γ) := by unfold sEx; rw [h]; rfl
end Prog
namespace Prog
open PySem L2 L3 Gk
noncomputable def dg (w : Nat) (rs : List Int) : PyData := .tuple [.int (w : Nat), dR rs]
theorem lu (w : Nat) (rs : List Int) : plain (dg w rs) = true := DK fun d hd => by
  rcases List.mem_cons.mp hd with rfl | hd
  · exact j8
  · rw [List.mem_singleton.mp hd]; exact zm rs
theorem nu (w : Nat) (rs : List Int) : (dg w rs).depth ≤ 64 := Nat.le_trans (vD (k := 1) fun d hd => by
  rcases List.mem_cons.mp hd with rfl | hd
  · exact Nat.le_trans mz (by decide)
  · rw [List.mem_singleton.mp hd]
    exact vD (k := 0) fun d hd => by obtain ⟨x, _, rfl⟩ := List.mem_map.mp hd; exact mz) (by decide)
noncomputable def brk (b : Int) (w : Nat) (rs : List Int) (m : Nat) : Option (List Int) := (d8 rs m).find? fun c => !decide (bW b c w ∈ rs)
noncomputable def O6 : Option (List Int) → PyData
  | none => .none
  | some c => dL c
theorem Hb {m w : Nat} {b : Int} {rs : List Int} (hr : rs.length ≤ 16) (hm : m ≤ 4) (hp : rs.length ^ m ≤ 20000) (hw : w ≤ 100) : mK [dG m b, dg w rs] = .ok (O6 (brk b w rs m)) := by
  unfold mK dg
  walk_at "ev"
  rw [show b7 [dR rs] = .ok (.int (rs.length : Nat)) by unfold dR; rw [iT, List.length_map]]
  walk_at "ev"
  have hc := xX (n := rs.length) (gs := [(m, b)]) (by omega) (by simp) fun g hg => by rw [List.mem_singleton.mp hg]; exact hm
  rw [show PyData.list [dG m b] = .list ([(m, b)].map dGp) from rfl, hc, show Cg rs.length [(m, b)] = rs.length ^ m by unfold Cg; simp]
  walk_at "ev"
  rw [decide_eq_false (by omega)]
  walk_at "ev"
  rw [xf (by omega)]
  walk_at "ev"
  rw [show uN (.list [dR rs]) (.int (m : Nat)) = .ok (.list (List.replicate m (dR rs))) from rep1 (by omega)]
  walk_at "ev"
  rw [show List.replicate m (dR rs) = (List.replicate m rs).map dR by rw [List.map_replicate], tu (enc := dR) (fun _ => rfl) (fun r h => by rw [(List.mem_replicate.mp h).2]; exact hr) (by rw [List.length_replicate]; exact hm), ← nO]
  walk_at "ev"
  rw [pN dL dL (fun c => !decide (bW b c w ∈ rs)) fun c hc => ?_]
  · show Res.bind _ _ = Res.ok (O6 (brk b w rs m))
    unfold brk
    cases (d8 rs m).find? fun c => !decide (bW b c w ∈ rs) with
    | none => walk_at "ev"; rfl
    | some c => walk_at "ev"; rfl
  · walk_at "ev"
    rw [Bu (by rw [jz m c hc]) hm hw]
    walk_at "ev"
    rw [Hu, show decide (bW b c w ∈ markL rs) = decide (bW b c w ∈ rs) from decide_eq_decide.mpr (pY rs)]
    walk_at "ev"
    rw [Ft]
    by_cases h : bW b c w ∈ rs
    · rw [decide_eq_true h]; rfl
    · rw [decide_eq_false h]; rfl
theorem JG {m w : Nat} {b : Int} {rs : List Int} (hr : rs.length ≤ 16) (hm : m ≤ 4) (hp : rs.length ^ m ≤ 20000) (hw : w ≤ 100) : jU [dG m b, dg w rs] = .ok (.bool (brk b w rs m).isNone) := by
  unfold jU
  walk_at "ev"
  rw [Hb hr hm hp hw]
  walk_at "ev"
  cases brk b w rs m <;> rfl
theorem Ie {b : Int} {w m : Nat} {rs : List Int} : (brk b w rs m).isNone = (d8 rs m).all fun c => decide (bW b c w ∈ rs) := by
  unfold brk
  cases h : (d8 rs m).find? fun c => !decide (bW b c w ∈ rs) with
  | none =>
    have := List.find?_eq_none.mp h
    symm
    show _ = true
    rw [List.all_eq_true]
    intro c hc
    have := this c hc
    simpa using this
  | some c =>
    have h1 := List.find?_some h
    have h2 := List.mem_of_find?_eq_some h
    symm
    show _ = false
    rw [← Bool.not_eq_true, List.all_eq_true]
    intro z
    have := z c h2
    rw [this] at h1
    cases h1
theorem Q8 {x : Int} {ks : List Int} : inY (.int x) (.dict (mk ks)) = .ok (.bool (decide (x ∈ ks))) := by
  show Res.ok (PyData.bool ((gZ (.inl x) (mk ks)).isSome)) = _
  rw [uP]
theorem QM {x : Int} {rs : List Int} : inY (.int x) (dR rs) = .ok (.bool (decide (x ∈ rs))) := by
  show gd (SeqAt.shaped (.int x) = true ∧ (rs.map PyData.int).all SeqAt.shaped = true) (Res.ok (PyData.bool (inB (.int x) (rs.map PyData.int)))) = _
  rw [bc ⟨eG j8 (Nat.le_trans mz (by decide)), ph rs⟩, rP]
end Prog
namespace Prog
open PySem L2 L3 Gk
noncomputable def b8 (r : Int) (cs : List Nat) : Int := bJ (cs.map fun c => aU r (c : Nat))
theorem sJ {r : Int} {cs : List Nat} : cN (cs.map fun c => aU r (c : Nat)) := cN.map fun _ _ => dU _ _
theorem qx {r : Int} {cs : List Nat} : 0 ≤ b8 r cs := fQ sJ.nn
theorem yR {r : Int} {cs : List Nat} : b8 r cs < 2 ^ cs.length := by
  have := oH (sJ (r := r) (cs := cs))
  rw [List.length_map] at this
  exact this
theorem mG {r : Int} {d : PyData} {cs : List Nat} (hd : mY d = .ok (dN cs)) (hl : cs.length ≤ 1000) : cT [.int r, d] = .ok (.int (b8 r cs)) := by
  unfold cT
  walk_at "ev"
  rw [il (xs := cs) (fun c => PyData.int ((c : Nat) : Int)) (fun c => .int (aU r ((c : Nat) : Int))) ?_ (size_le (by omega)) fun c _ => ?_]
  · walk_at "ev"
    rw [show PyData.list (cs.map fun c => PyData.int (aU r ((c : Nat) : Int))) = dL (cs.map fun c => aU r ((c : Nat) : Int)) by unfold dL; rw [List.map_map]; rfl, rG]
    walk_at "ev"
    rfl
  · walk_at "ev"
    rw [hd]
    rfl
  · walk_at "ev"
    rw [Dh (Int.natCast_nonneg _)]
structure FPt where
  w : Nat
  rs : List Int
  cs : List Nat
noncomputable def FPt.d (p : FPt) : PyData := .tuple [dg p.w p.rs, .tuple (dN p.cs)]
noncomputable def FPt.has (p : FPt) (r : Int) : Bool := decide (b8 r p.cs ∈ p.rs)
noncomputable def FPt.Sm (p : FPt) : Prop := p.rs.length ≤ 1000 ∧ p.cs.length ≤ 1000
theorem sS {rows : List Int} {p : FPt} (hr : rows.length ≤ 3000) (hp : p.Sm) : fj [dL rows, p.d] = .ok (dL (rows.filter p.has)) := by
  unfold fj FPt.d dg
  walk_at "ev"
  rw [xf hp.1]
  walk_at "ev"
  rw [pL (xs := rows) PyData.int p.has (fun r => .int r) ?_ (size_le (by omega)) (fun r _ => ?_) fun r _ _ => ?_]
  · walk_at "ev"
    rfl
  · walk_at "ev"
  · walk_at "ev"
    rw [mG (cs := p.cs) rfl hp.2]
    walk_at "ev"
    rw [Q8, show decide (b8 r p.cs ∈ markL p.rs) = p.has r from decide_eq_decide.mpr (pY p.rs)]
  · walk_at "ev"
noncomputable def upI (n : Nat) : List Int := (List.range n).map fun i => ((i : Nat) : Int)
theorem Ae {n : Nat} {x : Int} : x ∈ upI n ↔ 0 ≤ x ∧ x < n := by
  unfold upI
  rw [List.mem_map]
  constructor
  · rintro ⟨i, h, rfl⟩
    have := List.mem_range.mp h
    omega
  · rintro ⟨h0, h1⟩
    exact ⟨x.toNat, List.mem_range.mpr (by omega), by omega⟩
theorem Bk {n : Nat} : (upI n).length = n := by unfold upI; rw [List.length_map, List.length_range]
theorem Gn {n : Nat} : (upI n).Nodup := by
  unfold upI
  rw [List.nodup_iff_pairwise_ne, List.pairwise_map]
  exact List.nodup_range.imp fun h e => h (Int.ofNat_inj.mp e)
theorem Ho {w : PyData} {rs : List Int} {d : PyData} {cs : List Nat} (hd : mY d = .ok (dN cs)) (hld : b7 [d] = .ok (.int (cs.length : Nat))) (hl : cs.length ≤ 1000) (hr : rs.length < 3000) :
    mX [.tuple [w, dR rs], d] = .ok (dg cs.length (srt (ddl (rs.map fun r => b8 r cs)))) := by
  unfold mX
  walk_at "ev"
  rw [hld]
  walk_at "ev"
  rw [il (xs := rs) PyData.int (fun r => .int (b8 r cs)) ?_ (size_le (by omega)) fun r _ => ?_]
  · walk_at "ev"
    rw [show PyData.list (rs.map fun r => PyData.int (b8 r cs)) = dL (rs.map fun r => b8 r cs) by unfold dL; rw [List.map_map]; rfl]
    rw [Df (Nat.lt_of_le_of_lt (wI _) (by rw [List.length_map]; exact hr))]
    rfl
  · walk_at "ev"
    rfl
  · walk_at "ev"
    rw [mG hd hl]
theorem Mh (cs : List Nat) : b7 [.tuple (dN cs)] = .ok (.int (cs.length : Nat)) := by rw [iT]; unfold dN; rw [List.length_map]
noncomputable def iH (w : Nat) (ps : List FPt) : List Int := (upI (2 ^ w)).filter fun r => ps.all fun p => p.has r
theorem nD {w : Nat} {ps : List FPt} {r : Int} : r ∈ iH w ps ↔ (0 ≤ r ∧ r < 2 ^ w) ∧ ∀ p ∈ ps, b8 r p.cs ∈ p.rs := by
  unfold iH
  rw [List.mem_filter, Ae, List.all_eq_true, Int.natCast_pow]
  exact and_congr Iff.rfl ⟨fun h p hp => of_decide_eq_true (h p hp), fun h p hp => decide_eq_true (h p hp)⟩
noncomputable def eY (w : Nat) (ps : List FPt) (cs : List Nat) : List Int := srt (ddl ((iH w ps).map fun r => b8 r cs))
theorem rW {w : Nat} {ps : List FPt} {cs : List Nat} {x : Int} : x ∈ eY w ps cs ↔ ∃ r, ((0 ≤ r ∧ r < 2 ^ w) ∧ ∀ p ∈ ps, b8 r p.cs ∈ p.rs) ∧ b8 r cs = x := by
  unfold eY
  rw [Bl, uZ, List.mem_map]
  exact ⟨fun ⟨r, h, e⟩ => ⟨r, nD.mp h, e⟩, fun ⟨r, h, e⟩ => ⟨r, nD.mpr h, e⟩⟩
theorem Qg {w : Nat} (h : w ≤ 8) : 2 ^ w ≤ 256 := Nat.pow_le_pow_right (by decide) h
theorem pP {w : Nat} {ps : List FPt} {cs : List Nat} (hw : w ≤ 8) (hp : ∀ p ∈ ps, p.Sm) (hc : cs.length ≤ 1000) :
    cZ [.tuple [.int (w : Nat), .tuple (ps.map FPt.d), .tuple (dN cs)]] = .ok (dg cs.length (eY w ps cs)) := by
  have h8 := Qg hw
  unfold cZ
  walk_at "ev"
  rw [jg (by omega)]
  walk_at "ev"
  have e2 : (2 : Int) ^ w = ((2 ^ w : Nat) : Int) := by rw [Int.natCast_pow]; rfl
  rw [e2, bc ⟨Int.le_trans (by decide) (Int.natCast_nonneg _), Int.le_trans (Int.ofNat_le.mpr h8) (by decide)⟩, Int.toNat_natCast]
  walk_at "ev"
  have eu : PyData.list (upN (2 ^ w)) = dL (upI (2 ^ w)) := by unfold upN dL upI; rw [List.map_map]; rfl
  rw [eu]
  have lf : ∀ q : Int → Bool, ((upI (2 ^ w)).filter q).length ≤ 256 := fun q => Nat.le_trans (List.length_filter_le _ _) (by rw [Bk]; exact h8)
  have lr : ∀ qs, (iH w qs).length ≤ 256 := fun qs => lf _
  refine bC (fun i => [some (.tuple [.int (w : Nat), .tuple (ps.map FPt.d), .tuple (dN cs)]), some (dL (iH w (ps.take i))), none]) ?_ (fun i x hx => ?_) ?_
  · rw [List.take_zero]
    have : iH w [] = upI (2 ^ w) := List.filter_eq_self.mpr fun _ _ => rfl
    rw [this]
  · obtain ⟨p, ep, rfl⟩ := cV hx
    walk_at "ev"
    rw [sS (Nat.le_trans (lr _) (by decide)) (hp p (List.mem_of_getElem? ep))]
    walk_at "ev"
    congr 6
    unfold iH
    rw [List.filter_filter, take_snoc ep]
    refine List.filter_congr fun r _ => ?_
    rw [List.all_append, Bool.and_comm]
    simp
  · rw [List.length_map, List.take_length]
    walk_at "ev"
    unfold dL
    walk_at "ev"
    rw [show PyData.tuple ((iH w ps).map PyData.int) = dR (iH w ps) from rfl, Ho (cs := cs) rfl (Mh cs) hc (Nat.lt_of_le_of_lt (lr _) (by decide))]
    rfl
end Prog
namespace Prog
open PySem L2 L3 Gk
theorem z7 (rs : List Int) : (markL rs).Nodup := by
  induction rs using snoc_ind with
  | h0 => exact List.nodup_nil
  | h rs r ih =>
    rw [jM]
    unfold nR
    split
    · exact ih
    · rename_i hx
      refine List.nodup_append.mpr ⟨ih, by simp, fun a ha b hb e => ?_⟩
      rw [List.mem_singleton] at hb
      exact hx (by rw [← hb, ← e]; exact ha)
theorem wV {a b : List Int} (h : ∀ x, x ∈ a ↔ x ∈ b) : srt (markL a) = srt (ddl b) :=
  xY (z7 a) (qt b) fun x => (pY a).trans ((h x).trans uZ.symm)
noncomputable def uW (w : Nat) (r : Int) : List Int := (List.range w).map fun k => aU r ((k : Nat) : Int)
theorem QB {cs : List Nat} {k : Nat} (h : k < cs.length) : ixD (.tuple (dN cs)) (.int (k : Nat)) = .ok (.int ((cs.getD k 0 : Nat) : Int)) := by
  refine nH (i := k) ?_
  unfold dN
  rw [List.getElem?_map, List.getElem?_eq_getElem h, List.getD_eq_getElem?_getD, List.getElem?_eq_getElem h]
  rfl
theorem wW {n : Nat} : upI (n + 1) = upI n ++ [((n : Nat) : Int)] := by unfold upI; rw [List.range_succ, List.map_append]; rfl
end Prog
namespace Prog
open PySem L2 L3 Gk
noncomputable abbrev Rl := Nat × List Int
noncomputable abbrev dRl (R : Rl) : PyData := dg R.1 R.2
theorem K4 {c : List Int} {j : Nat} (hc : c.length ≤ 1000) : oG [dL c, .int (j : Nat)] = .ok (.int (bJ (c.map fun r => aU r ((j : Nat) : Int)))) := by
  unfold oG
  walk_at "ev"
  rw [il (xs := c) PyData.int (fun r => .int (aU r ((j : Nat) : Int))) ?_ (size_le (by omega)) fun r _ => ?_]
  · walk_at "ev"
    rw [show PyData.list (c.map fun r => PyData.int (aU r ((j : Nat) : Int))) = dL (c.map fun r => aU r ((j : Nat) : Int)) by unfold dL; rw [List.map_map]; rfl, rG]
    rfl
  · walk_at "ev"
  · walk_at "ev"
    rw [Dh (Int.natCast_nonneg _)]
noncomputable def iZ (c : List Int) (w : Nat) : List Nat := (List.range w).map fun j => (bJ (c.map fun r => aU r ((j : Nat) : Int))).toNat
theorem uw {c : List Int} {j : Nat} : 0 ≤ bJ (c.map fun r => aU r ((j : Nat) : Int)) := fQ (cN.bits (l := c) (f := fun r => r) (g := fun _ => ((j : Nat) : Int))).nn
theorem PL {c : List Int} {j : Nat} : bJ (c.map fun r => aU r ((j : Nat) : Int)) < 2 ^ c.length := by
  have := oH (cN.bits (l := c) (f := fun r => r) (g := fun _ => ((j : Nat) : Int)))
  rw [List.length_map] at this
  exact this
theorem mV {c : List Int} {w : Nat} : (iZ c w).length = w := by unfold iZ; rw [List.length_map, List.length_range]
theorem Am {c : List Int} {w p : Nat} (h : p ∈ iZ c w) : p < 2 ^ c.length := by
  obtain ⟨j, _, rfl⟩ := List.mem_map.mp h
  have h1 := PL (c := c) (j := j)
  have h0 := uw (c := c) (j := j)
  have e : ((2 ^ c.length : Nat) : Int) = 2 ^ c.length := by rw [Int.natCast_pow]; rfl
  omega
theorem pC {b : Int} {c : List Int} {w : Nat} : b8 b (iZ c w) = bW b c w := by
  unfold b8 iZ bW tab
  rw [List.map_map]
  congr 1
theorem yq {c : List Int} {w : Nat} (hw : w ≤ 1000) (hc : c.length ≤ 1000) : jq [dL c, .int (w : Nat)] = .ok (.tuple (dN (iZ c w))) := by
  unfold jq
  walk_at "ev"
  rw [jA (n := w) (fun j => .int (bJ (c.map fun r => aU r ((j : Nat) : Int)))) ?_ (size_le (by omega)) fun j hj => ?_]
  · walk_at "ev"
    unfold dN iZ
    rw [List.map_map]
    congr 2
    refine List.map_congr_left fun j _ => ?_
    show _ = PyData.int (((bJ (c.map fun r => aU r ((j : Nat) : Int))).toNat : Nat) : Int)
    rw [Int.toNat_of_nonneg uw]
  · walk_at "ev"
    rw [cH (by omega)]
  · walk_at "ev"
    rw [K4 hc]
noncomputable def oA (R : Rl) (n : Nat) : List FPt := (d8 R.2 n).map fun c => ⟨R.1, R.2, iZ c R.1⟩
noncomputable def fc (Rs : List Rl) (n : Nat) : List FPt := Rs.flatMap fun R => oA R n
theorem zu {Rs : List Rl} {R : Rl} {n : Nat} : fc (Rs ++ [R]) n = fc Rs n ++ oA R n := by
  unfold fc
  rw [List.flatMap_append]
  show _ ++ (oA R n ++ []) = _
  rw [List.append_nil]
structure oR (n : Nat) (R : Rl) : Prop where
  w : R.1 ≤ 4
  l : R.2.length ≤ 16
  p : R.2.length ^ n ≤ 64
theorem o4 {n : Nat} : ∀ {Rs : List Rl}, (∀ R ∈ Rs, oR n R) → (fc Rs n).length ≤ Rs.length * 64
  | [], _ => Nat.zero_le _
  | R :: Rs, h => by
    have ih := o4 (Rs := Rs) fun S hS => h S (List.mem_cons_of_mem _ hS)
    have h1 := (h R List.mem_cons_self).p
    show (oA R n ++ fc Rs n).length ≤ _
    have h2 : (oA R n).length = R.2.length ^ n := by unfold oA; rw [List.length_map, pM]
    rw [List.length_append, List.length_cons, h2, Nat.succ_mul]
    omega
theorem nF {Rs : List Rl} {n : Nat} (hn : n ≤ 4) (hR : ∀ R ∈ Rs, oR n R) (hl : Rs.length ≤ 100) : cU [.list (Rs.map dRl), .int (n : Nat)] = .ok (.tuple ((fc Rs n).map FPt.d)) := by
  unfold cU
  walk_at "ev"
  refine bC (fun i => [some (.list (Rs.map dRl)), some (.int (n : Nat)), some (.list ((fc (Rs.take i) n).map FPt.d)), none, none]) rfl (fun i x hx => ?_) ?_
  · obtain ⟨R, eR, rfl⟩ := cV hx
    have hRo := hR R (List.mem_of_getElem? eR)
    have hi := (List.getElem?_eq_some_iff.mp eR).1
    have hpl : (fc (Rs.take i) n).length ≤ 6400 := by
      refine Nat.le_trans (o4 fun S hS => hR S (List.mem_of_mem_take hS)) ?_
      rw [List.length_take]
      omega
    walk_at "ev"
    unfold dRl dg
    walk_at "ev"
    rw [rep1 (by omega)]
    walk_at "ev"
    have eL : fO [.list (List.replicate n (dR R.2))] = .ok (.list ((d8 R.2 n).map dL)) := by
      have := tu (enc := dR) (cs := List.replicate n R.2) (fun _ => rfl) (fun rs h => by rw [List.eq_of_mem_replicate h]; exact hRo.l) (by rw [List.length_replicate]; exact hn)
      rw [List.map_replicate] at this
      rw [this, nO]
    rw [eL]
    walk_at "ev"
    have hal : (d8 R.2 n).length ≤ 64 := by rw [pM]; exact hRo.p
    refine bC (fun j => [some (.list (Rs.map fun R => PyData.tuple [.int (R.1 : Nat), dR R.2])), some (.int (n : Nat)), some (.list ((fc (Rs.take i) n ++ ((d8 R.2 n).take j).map fun c => (⟨R.1, R.2, iZ c R.1⟩ : FPt)).map FPt.d)), some (.tuple [.int (R.1 : Nat), dR R.2]), none]) ?_ (fun j x hx => ?_) ?_
    · rw [List.take_zero, List.map_nil, List.append_nil]
    · obtain ⟨c, ec, rfl⟩ := cV hx
      have hcl := jz n c (List.mem_of_getElem? ec)
      walk_at "ev"
      rw [yq (by have := hRo.w; omega) (by omega)]
      walk_at "ev"
      rw [bc (size_le (by rw [List.length_append, List.length_map, List.length_take]; omega))]
      walk_at "ev"
      rw [take_snoc ec, List.map_append (f := fun c => (⟨R.1, R.2, iZ c R.1⟩ : FPt)), ← List.append_assoc, List.map_append (f := FPt.d) (l₂ := List.map _ [c])]
      rfl
    · rw [List.length_map, List.take_length]
      walk_at "ev"
      rw [take_snoc eR, zu]
      rfl
  · rw [List.length_map, List.take_length]
    walk_at "ev"
theorem uV {Rs : List Rl} {n : Nat} (hn : n ≤ 4) (hR : ∀ R ∈ Rs, oR n R) : gk [.list (Rs.map dRl), .int (n : Nat)] = .ok .none := by
  unfold gk
  walk_at "ev"
  refine bC (fun i => [some (.list (Rs.map dRl)), some (.int (n : Nat)), none]) rfl (fun i x hx => ?_) ?_
  · obtain ⟨R, eR, rfl⟩ := cV hx
    have hRo := hR R (List.mem_of_getElem? eR)
    unfold dRl dg
    walk_at "ev"
    rw [decide_eq_false (by have := hRo.w; omega)]
    walk_at "ev"
    rw [show b7 [dR R.2] = .ok (.int (R.2.length : Nat)) by unfold dR; rw [iT, List.length_map]]
    walk_at "ev"
    rw [Bb (by have := hRo.l; omega) hn]
    walk_at "ev"
    rw [decide_eq_false (by have := hRo.p; omega)]
    walk_at "ev"
  · walk_at "ev"
noncomputable def dW (b : Int) (n : Nat) (R : Rl) : Bool := (d8 R.2 n).all fun c => decide (bW b c R.1 ∈ R.2)
noncomputable def bR (Rs : List Rl) (n : Nat) : List Int := (upI (2 ^ 2 ^ n)).filter fun b => Rs.all fun R => dW b n R
theorem o9 {b : Int} {n : Nat} {R : Rl} : dW b n R = true ↔ ∀ c : List Int, c.length = n → (∀ x ∈ c, x ∈ R.2) → bW b c R.1 ∈ R.2 := by
  unfold dW
  rw [List.all_eq_true]
  exact ⟨fun h c hl hc => of_decide_eq_true (h c (rQ.mpr ⟨hl, hc⟩)), fun h c hc => decide_eq_true (h c (rQ.mp hc).1 (rQ.mp hc).2)⟩
theorem lB {Rs : List Rl} {n : Nat} {b : Int} : b ∈ bR Rs n ↔ (0 ≤ b ∧ b < 2 ^ 2 ^ n) ∧ ∀ R ∈ Rs, dW b n R = true := by
  unfold bR
  rw [List.mem_filter, Ae, List.all_eq_true, Int.natCast_pow]
  exact Iff.rfl
theorem BK {n : Nat} : (upI n).Pairwise (· ≤ ·) := by
  unfold upI
  rw [List.pairwise_map]
  exact List.pairwise_lt_range.imp fun h => by omega
theorem yU {l : List Int} (h : l.Pairwise (· ≤ ·)) : srt l = l := jd (eZ l) (gD l) h
theorem yZ {Rs : List Rl} {n : Nat} : (bR Rs n).Pairwise (· ≤ ·) := BK.sublist List.filter_sublist
theorem zy {Rs : List Rl} {n : Nat} : (bR Rs n).Nodup := Gn.sublist List.filter_sublist
theorem uA {Rs : List Rl} {n : Nat} : iH (2 ^ n) (fc Rs n) = bR Rs n := by
  unfold iH bR
  refine List.filter_congr fun b _ => Bool.eq_iff_iff.mpr ?_
  rw [List.all_eq_true, List.all_eq_true]
  constructor
  · intro h R hR
    unfold dW
    rw [List.all_eq_true]
    intro c hc
    have := h ⟨R.1, R.2, iZ c R.1⟩ (List.mem_flatMap.mpr ⟨R, hR, List.mem_map.mpr ⟨c, hc, rfl⟩⟩)
    unfold FPt.has at this
    rw [pC] at this
    exact this
  · intro h p hp
    obtain ⟨R, hR, hp⟩ := List.mem_flatMap.mp hp
    obtain ⟨c, hc, rfl⟩ := List.mem_map.mp hp
    unfold FPt.has
    rw [pC]
    have := h R hR
    unfold dW at this
    rw [List.all_eq_true] at this
    exact this c hc
theorem Gh {Rs : List Rl} {n : Nat} : eY (2 ^ n) (fc Rs n) (List.range (2 ^ n)) = bR Rs n := by
  unfold eY
  rw [uA]
  have e : (bR Rs n).map (fun r => b8 r (List.range (2 ^ n))) = bR Rs n := by
    conv => rhs; rw [← List.map_id (bR Rs n)]
    refine List.map_congr_left fun r hr => ?_
    have h := (lB.mp hr).1
    exact qd h.1 h.2
  rw [e, G3 zy, yU yZ]
theorem FQ {Rs : List Rl} {n : Nat} (hR : ∀ R ∈ Rs, oR n R) : ∀ p ∈ fc Rs n, p.Sm := fun p hp => by
  obtain ⟨R, hRm, hp⟩ := List.mem_flatMap.mp hp
  obtain ⟨c, hc, rfl⟩ := List.mem_map.mp hp
  have := hR R hRm
  exact ⟨by have := this.l; show R.2.length ≤ 1000; omega, by show (iZ c R.1).length ≤ 1000; rw [mV]; have := this.w; omega⟩
theorem HN {n : Nat} (h : n ≤ 3) : 2 ^ n ≤ 8 := Nat.pow_le_pow_right (by decide) h
theorem Dy {Rs : List Rl} {n : Nat} (hn : n ≤ 3) (hR : ∀ R ∈ Rs, oR n R) (hl : Rs.length ≤ 100) : lC [.list (Rs.map dRl), .int (n : Nat)] = .ok (dR (bR Rs n)) := by
  have h8 := HN hn
  unfold lC
  walk_at "ev"
  rw [Nx (d := .none) (by walk_at "ev"; exact uV (by omega) hR)]
  walk_at "ev"
  rw [jg (by omega)]
  walk_at "ev"
  rw [nF (by omega) hR hl]
  walk_at "ev"
  have e2 : (2 : Int) ^ n = ((2 ^ n : Nat) : Int) := by rw [Int.natCast_pow]; rfl
  rw [e2]
  have et : trD (.int ((2 ^ n : Nat) : Int)) = .ok (.tuple (dN (List.range (2 ^ n)))) := by
    show gd (-(2 ^ 20) ≤ ((2 ^ n : Nat) : Int) ∧ ((2 ^ n : Nat) : Int) ≤ 2 ^ 20) (Res.ok (PyData.tuple ((List.range ((2 ^ n : Nat) : Int).toNat).map fun i => PyData.int (i : Nat)))) = _
    rw [bc ⟨Int.le_trans (by decide) (Int.natCast_nonneg _), Int.le_trans (Int.ofNat_le.mpr h8) (by decide)⟩, Int.toNat_natCast]
    rfl
  rw [et]
  walk_at "ev"
  rw [pP (w := 2 ^ n) h8 (FQ hR) (by rw [List.length_range]; omega), Gh]
  rfl
noncomputable def bad (w : Nat) (rs : List Int) (b : Int) : Bool := !decide (bW b rs w ∈ rs)
noncomputable def oV (Rs : List Rl) (w : Nat) (rs : List Int) : PyData := match (bR Rs rs.length).find? (bad w rs) with
  | some b => .tuple [.str "cant", dG rs.length b, dL rs]
  | none => .tuple [.str "made", .tuple [.int ((2 ^ rs.length : Nat) : Int), .tuple ((fc Rs rs.length).map FPt.d), .tuple (dN (iZ rs w))]]
theorem Gm {Rs : List Rl} {w : Nat} {rs : List Int} (hn : rs.length ≤ 3) (hw : w ≤ 8) (hR : ∀ R ∈ Rs, oR rs.length R) (hl : Rs.length ≤ 100) : jt [.list (Rs.map dRl), dg w rs] = .ok (oV Rs w rs) := by
  unfold jt dg
  walk_at "ev"
  rw [show BZ [dR rs] = .ok (dL rs) from rfl]
  walk_at "ev"
  rw [decide_eq_false (by omega)]
  walk_at "ev"
  rw [decide_eq_false (by omega)]
  walk_at "ev"
  rw [yq (by omega) (by omega)]
  walk_at "ev"
  rw [Dy hn hR hl]
  walk_at "ev"
  rw [show mY (dR (bR Rs rs.length)) = .ok ((bR Rs rs.length).map PyData.int) from rfl]
  walk_at "ev"
  rw [pN PyData.int (fun b => .tuple [.str "cant", dG rs.length b, dL rs]) (bad w rs) fun b _ => ?_]
  · unfold oV
    cases (bR Rs rs.length).find? (bad w rs) with
    | some b =>
      walk_at "ev"
    | none =>
      walk_at "ev"
      rw [jg (by omega)]
      walk_at "ev"
      rw [nF (by omega) hR hl]
      walk_at "ev"
      rw [show (2 : Int) ^ rs.length = ((2 ^ rs.length : Nat) : Int) by rw [Int.natCast_pow]; rfl]
  · walk_at "ev"
    rw [mG (cs := iZ rs w) rfl (by rw [mV]; omega), pC]
    walk_at "ev"
    rw [Hn]
    walk_at "ev"
    unfold bad
    by_cases h : bW b rs w ∈ rs
    · rw [decide_eq_true h]; rfl
    · rw [decide_eq_false h]; rfl
end Prog
namespace Prog
open PySem L2 L3 Gk
theorem yF {b : Int} {c : List Int} {w j : Nat} (h : j < w) : aU (bW b c w) (j : Nat) = aU b (bJ (c.map fun t => aU t (j : Nat))) := uI (fun _ => dU _ _) h
theorem wA {n i w : Nat} {c : List Int} (hl : c.length = n) (hi : i < n) (hc : ∀ x ∈ c, 0 ≤ x ∧ x < 2 ^ w) : bW (pA n i) c w = c.getD i 0 := by
  have hi' : i < c.length := by omega
  have eg : c.getD i 0 = c[i] := by rw [List.getD_eq_getElem?_getD, List.getElem?_eq_getElem hi']; rfl
  rw [eg]
  have hb := hc c[i] (List.getElem_mem hi')
  unfold bW
  refine Nk (fun _ => dU _ _) hb.1 hb.2 fun j _ => ?_
  have a01 := cN.bits (l := c) (f := fun t => t) (g := fun _ => ((j : Nat) : Int))
  obtain ⟨r, hr, er, _⟩ := Ot (xs := c.map fun t => aU t (j : Nat)) a01
  rw [List.length_map, hl] at hr
  rw [er, DY hr, ← er]
  exact mW a01 (by rw [List.getElem?_map, List.getElem?_eq_getElem hi']; rfl)
noncomputable def RlB (R : Rl) : Prop := ∀ r ∈ R.2, 0 ≤ r ∧ r < 2 ^ R.1
theorem Gw {n i : Nat} {R : Rl} (hi : i < n) (hR : RlB R) : dW (pA n i) n R = true := by
  rw [o9]
  intro c hl hc
  rw [wA hl hi fun x hx => hR x (hc x hx)]
  have hi' : i < c.length := by omega
  rw [List.getD_eq_getElem?_getD, List.getElem?_eq_getElem hi']
  exact hc _ (List.getElem_mem hi')
theorem Dn {Rs : List Rl} {n i : Nat} (hi : i < n) (hR : ∀ R ∈ Rs, RlB R) : pA n i ∈ bR Rs n := lB.mpr ⟨⟨xg _ _, Hl _ _⟩, fun R h => Gw hi (hR R h)⟩
noncomputable def uE (Rs : List Rl) (w : Nat) (rs : List Int) : List Int := (bR Rs rs.length).map fun b => bW b rs w
theorem Es {Rs : List Rl} {w : Nat} {rs : List Int} : eY (2 ^ rs.length) (fc Rs rs.length) (iZ rs w) = srt (ddl (uE Rs w rs)) := by
  unfold eY uE
  rw [uA]
  congr 2
  exact List.map_congr_left fun b _ => pC
theorem Hj {Rs : List Rl} {w : Nat} {rs : List Int} (hR : ∀ R ∈ Rs, RlB R) (hr : ∀ r ∈ rs, 0 ≤ r ∧ r < 2 ^ w) {r : Int} (h : r ∈ rs) : r ∈ uE Rs w rs := by
  obtain ⟨i, hi, rfl⟩ := List.mem_iff_getElem.mp h
  refine List.mem_map.mpr ⟨pA rs.length i, Dn hi hR, ?_⟩
  rw [wA rfl hi hr, List.getD_eq_getElem?_getD, List.getElem?_eq_getElem hi]
  rfl
theorem find_none {Rs : List Rl} {w : Nat} {rs : List Int} (h : (bR Rs rs.length).find? (bad w rs) = none) : ∀ x ∈ uE Rs w rs, x ∈ rs := by
  intro x hx
  obtain ⟨b, hb, rfl⟩ := List.mem_map.mp hx
  have := List.find?_eq_none.mp h b hb
  unfold bad at this
  by_cases hm : bW b rs w ∈ rs
  · exact hm
  · rw [decide_eq_false hm] at this
    exact absurd rfl this
theorem find_some {Rs : List Rl} {w : Nat} {rs : List Int} {b : Int} (h : (bR Rs rs.length).find? (bad w rs) = some b) : b ∈ bR Rs rs.length ∧ bW b rs w ∉ rs := by
  refine ⟨List.mem_of_find?_eq_some h, fun hm => ?_⟩
  have := List.find?_some h
  unfold bad at this
  rw [decide_eq_true hm] at this
  cases this
theorem Ht {Rs : List Rl} {w : Nat} {rs : List Int} (hR : ∀ R ∈ Rs, RlB R) (hr : ∀ r ∈ rs, 0 ≤ r ∧ r < 2 ^ w) (hs : rs.Pairwise (· ≤ ·)) (hn : rs.Nodup) (h : (bR Rs rs.length).find? (bad w rs) = none) :
    eY (2 ^ rs.length) (fc Rs rs.length) (iZ rs w) = rs := by
  rw [Es]
  have := xY (qt (uE Rs w rs)) hn fun x => uZ.trans ⟨fun hx => find_none h x hx, fun hx => Hj hR hr hx⟩
  rw [this, yU hs]
end Prog
namespace Prog
open PySem L2 L3 Gk
theorem yz {r : Int} {cs : List Nat} {j : Nat} (hj : j < cs.length) : aU (b8 r cs) (j : Nat) = aU r ((cs[j] : Nat) : Int) := by
  refine mW sJ ?_
  rw [List.getElem?_map, List.getElem?_eq_getElem hj]
  rfl
theorem vQ {b : Int} {rs : List Int} {w : Nat} {cs : List Nat} (hc : ∀ c ∈ cs, c < w) : b8 (bW b rs w) cs = bW b (rs.map fun r => b8 r cs) cs.length := by
  refine yX qx yR rA Bc fun j hj => ?_
  rw [yz hj, yF hj, yF (hc _ (List.getElem_mem hj)), List.map_map]
  congr 2
  exact List.map_congr_left fun r _ => (yz hj).symm
theorem Ks {b : Int} {m w : Nat} {ps : List FPt} {cs : List Nat} (hp : ∀ p ∈ ps, dW b m (p.w, p.rs) = true ∧ p.cs.length = p.w ∧ ∀ c ∈ p.cs, c < w) (hc : ∀ c ∈ cs, c < w) : dW b m (cs.length, eY w ps cs) = true := by
  rw [o9]
  intro c hl hx
  have : ∃ rs : List Int, rs.length = c.length ∧ (∀ r ∈ rs, r ∈ iH w ps) ∧ rs.map (fun r => b8 r cs) = c := by
    clear hl
    induction c with
    | nil => exact ⟨[], rfl, (fun r h => nomatch h), rfl⟩
    | cons x c ih =>
      obtain ⟨rs, h1, h2, h3⟩ := ih fun y h => hx y (List.mem_cons_of_mem _ h)
      obtain ⟨r, hr, rfl⟩ := rW.mp (hx x List.mem_cons_self)
      refine ⟨r :: rs, by rw [List.length_cons, List.length_cons, h1], fun t ht => ?_, by rw [List.map_cons, h3]⟩
      rcases List.mem_cons.mp ht with rfl | ht
      · exact nD.mpr hr
      · exact h2 t ht
  obtain ⟨rs, h1, h2, h3⟩ := this
  show bW b c cs.length ∈ eY w ps cs
  refine rW.mpr ⟨bW b rs w, ⟨⟨rA, Bc⟩, fun p hpm => ?_⟩, by rw [vQ hc, h3]⟩
  obtain ⟨k1, k2, k3⟩ := hp p hpm
  rw [vQ k3, k2]
  refine o9.mp k1 _ (by rw [List.length_map, h1, hl]) fun x hx => ?_
  obtain ⟨r, hr, rfl⟩ := List.mem_map.mp hx
  exact (nD.mp (h2 r hr)).2 p hpm
theorem vZ {Rs : List Rl} {w : Nat} {rs : List Int} (h : ∀ b ∈ bR Rs rs.length, dW b rs.length (w, rs) = true) : (bR Rs rs.length).find? (bad w rs) = none := by
  rw [List.find?_eq_none]
  intro b hb
  unfold bad
  rw [decide_eq_true (o9.mp (h b hb) rs rfl fun x hx => hx)]
  decide
theorem zY {w : Nat} {ps : List FPt} {cs : List Nat} : (eY w ps cs).Pairwise (· ≤ ·) := gD _
theorem tD {w : Nat} {ps : List FPt} {cs : List Nat} : (eY w ps cs).Nodup := (eZ _).nodup_iff.mpr (qt _)
theorem tH {w : Nat} {ps : List FPt} {cs : List Nat} {r : Int} (h : r ∈ eY w ps cs) : 0 ≤ r ∧ r < 2 ^ cs.length := by
  obtain ⟨x, _, rfl⟩ := rW.mp h
  exact ⟨qx, yR⟩
theorem Cd {w : Nat} {ps : List FPt} {cs : List Nat} : (eY w ps cs).length ≤ 2 ^ cs.length := yt (N := 2 ^ cs.length) tD fun x hx => by
  have := tH hx
  rw [Int.natCast_pow]
  exact this
noncomputable def Md (Rs : List Rl) (W : Rl) : Prop := ∃ (w : Nat) (ps : List FPt) (cs : List Nat), (∀ p ∈ ps, (p.w, p.rs) ∈ Rs ∧ p.cs.length = p.w ∧ ∀ c ∈ p.cs, c < w) ∧ cs.length ≤ 4 ∧ (∀ c ∈ cs, c < w) ∧ W = (cs.length, eY w ps cs)
theorem Md.keeps {Rs : List Rl} {W : Rl} {b : Int} {m : Nat} (h : Md Rs W) (hk : ∀ R ∈ Rs, dW b m R = true) : dW b m W = true := by
  obtain ⟨w, ps, cs, h1, _, h3, rfl⟩ := h
  exact Ks (fun p hp => ⟨hk _ (h1 p hp).1, (h1 p hp).2⟩) h3
theorem Md.none {Rs : List Rl} {W : Rl} (h : Md Rs W) : (bR Rs W.2.length).find? (bad W.1 W.2) = .none := vZ fun b hb => h.keeps (lB.mp hb).2
theorem Md.w4 {Rs : List Rl} {W : Rl} (h : Md Rs W) : W.1 ≤ 4 := by obtain ⟨w, ps, cs, _, h2, _, rfl⟩ := h; exact h2
theorem Md.b {Rs : List Rl} {W : Rl} (h : Md Rs W) : RlB W := by obtain ⟨w, ps, cs, _, _, _, rfl⟩ := h; exact fun r hr => tH hr
theorem Md.s {Rs : List Rl} {W : Rl} (h : Md Rs W) : W.2.Pairwise (· ≤ ·) := by obtain ⟨w, ps, cs, _, _, _, rfl⟩ := h; exact zY
theorem Md.d {Rs : List Rl} {W : Rl} (h : Md Rs W) : W.2.Nodup := by obtain ⟨w, ps, cs, _, _, _, rfl⟩ := h; exact tD
theorem Md.l {Rs : List Rl} {W : Rl} (h : Md Rs W) : W.2.length ≤ 16 := by
  obtain ⟨w, ps, cs, _, h2, _, rfl⟩ := h
  exact Nat.le_trans Cd (Nat.pow_le_pow_right (by decide) h2)
theorem Md.mono {Rs Ss : List Rl} {W : Rl} (h : Md Ss W) (hS : ∀ S ∈ Ss, Md Rs S) {b : Int} {m : Nat} (hk : ∀ R ∈ Rs, dW b m R = true) : dW b m W = true := h.keeps fun S hS' => (hS S hS').keeps hk
end Prog
namespace Law
open PySem PySem.Spec PyProof.Rows L2 L3 Prog
noncomputable def bF : List PyData → Res PyData := fnR 2 (aP (sIf (az ltD (ak 1) (eFn b7 [(ak 0)])) (bh (az ir (az cP (az jP (az ixD (ak 0) (ak 1)) (eC (.int 48271))) (az jP (az jP (ak 1) (ak 1)) (eC (.int 69621)))) (eC (.int 2147483647)))) dB)
    (bh (az ir (az cP (az cP (az jP (az jP (ak 1) (ak 1)) (eC (.int 69621))) (az jP (eFn b7 [(ak 0)]) (eC (.int 7919)))) (eC (.int 5))) (eC (.int 2147483647)))))
noncomputable def iV : List PyData → Res PyData := fnR 4 (aP (bj 2 (az ixD (fu [(eC (.int 2)), (eC (.int 1)), (eC (.int 2)), (eC (.int 3)), (eC (.int 0)), (eC (.int 2)), (eC (.int 4)), (eC (.int 3))]) (az ir (ak 0) (eC (.int 8)))))
    (aP (bj 2 (eFn minD [(ak 2), (ak 1)]))
    (aP (bj 3 (az ixD (fu [(eC (.int 8)), (eC (.int 14)), (eC (.int 6)), (eC (.int 1)), (eC (.int 232)), (eC (.int 150)), (eC (.int 202)), (az jl (ak 0) (eC (.int 64)))]) (az ir (az jl (ak 0) (eC (.int 8))) (eC (.int 8)))))
    (bh (jn [(ak 2), (az ir (ak 3) (az j6 (eC (.int 1)) (az j6 (eC (.int 1)) (ak 2))))])))))
noncomputable def iB : List PyData → Res PyData := fnR 7 (aP (bj 3 (eC (.int 0)))
    (aP (cg (fU (ak 2)) (gN 4) [4, 5, 6] (aP (bj 5 (eC (.int 0)))
    (aP (cg (fU (az ixD (ak 0) (eC (.int 0)))) (gN 6) [6] (bj 5 (az cP (ak 5) (az j6 (az pQ (az vg (az ixD (ak 1) (ak 6)) (ak 4)) (eC (.int 1))) (ak 6)))))
    (bj 3 (az cP (ak 3) (az j6 (az pQ (az vg (az ixD (ak 0) (eC (.int 1))) (ak 5)) (eC (.int 1))) (ak 4)))))))
    (bh (ak 3))))
noncomputable def jh : List PyData → Res PyData := fnR 7 (aP (bj 2 (fu [(fu [])]))
    (aP (cg (fU (ak 1)) (gN 3) [3, 4, 5, 6] (aP (bj 4 (fu []))
    (aP (cg (itL (ak 2)) (gN 5) [5, 6] (cg (itL (ak 0)) (gN 6) [6] (pG 4 (az cP (ak 5) (fu [(ak 6)])))))
    (bj 2 (ak 4)))))
    (bh (ak 2))))
noncomputable def eF : List PyData → Res PyData := fnR 3 (aP (cg (itL (aO jh [(az ixD (ak 1) (eC (.int 1))), (az ixD (ak 0) (eC (.int 0)))])) (gN 2) [2] (sIf (az fX (aO iB [(ak 0), (ak 2), (az ixD (ak 1) (eC (.int 0)))]) (az ixD (ak 1) (eC (.int 1)))) (bh (eC (.bool false))) dB))
    (bh (eC (.bool true))))
noncomputable def dq : List PyData → Res PyData := fnR 3 (aP (cg (itL (ak 1)) (gN 2) [2] (sIf (dX (eUn jW (aO eF [(ak 0), (ak 2)]))) (bh (eC (.bool false))) dB))
    (bh (eC (.bool true))))
noncomputable def jO : List PyData → Res PyData := fnR 2 (bh (cu (fU (ak 1)) (gN 0) (eC (.bool true)) (az pQ (az vg (ak 1) (ak 0)) (eC (.int 1))) 1 [0]))
noncomputable def dZ : List PyData → Res PyData := fnR 10 (aP (Dg (gT [(gN 1), (gN 2), (gN 3)]) (ak 0))
    (aP (bj 4 (qe []))
    (aP (cg (fU (az j6 (eC (.int 1)) (ak 1))) (gN 5) [5, 6, 7, 8, 9] (aP (bj 6 (aO jO [(ak 5), (ak 1)]))
    (aP (bj 7 (eC (.bool true)))
    (aP (cg (itL (ak 2)) (gT [(gN 8), (gN 9)]) [8, 9] (sIf (az fX (eFn sE [(cu (fU (eFn b7 [(ak 9)])) (gN 0) (eC (.bool true)) (az j6 (az ixD (ak 1) (az ixD (ak 2) (ak 0))) (ak 0)) 1 [6, 9])]) (az ixD (ak 8) (eC (.int 1)))) (bj 7 (eC (.bool false))) dB))
    (sIf (eUn jW (ak 7)) (qM 4 (eFn sE [(cu (fU (eFn b7 [(ak 3)])) (gN 0) (eC (.bool true)) (az j6 (az ixD (ak 1) (az ixD (ak 2) (ak 0))) (ak 0)) 1 [6, 3])]) (eC (.bool true))) dB)))))
    (bh (jn [(eFn b7 [(ak 3)]), (eFn iu [(eFn qI [(ak 4)])])])))))
noncomputable def dD : List PyData → Res PyData := fnR 1 (bh (jK (lK "int" (ak 0)) (dX (lK "bool" (ak 0)))))
noncomputable def di : List PyData → Res PyData := fnR 9 (aP (sIf (eOr (dX (lK "tuple" (ak 0))) (eOr (az neD (eFn b7 [(ak 0)]) (eC (.int 3))) (dX (eUn jW (aO dD [(az ixD (ak 0) (eC (.int 0)))]))))) (bh (eC (.bool false))) dB)
    (aP (Dg (gT [(gN 3), (gN 4), (gN 5)]) (ak 0))
    (aP (sIf (eOr (dX (kZ leD leD (eC (.int 0)) (ak 3) (eC (.int 8)))) (eOr (dX (lK "tuple" (ak 4))) (eOr (dX (lK "tuple" (ak 5))) (az gtD (eFn b7 [(ak 4)]) (eC (.int 256)))))) (bh (eC (.bool false))) dB)
    (aP (cg (itL (ak 4)) (gN 6) [6] (aP (sIf (eOr (dX (lK "tuple" (ak 6))) (eOr (az neD (eFn b7 [(ak 6)]) (eC (.int 2))) (eOr (az fX (az ixD (ak 6) (eC (.int 0))) (ak 1)) (dX (lK "tuple" (az ixD (ak 6) (eC (.int 1)))))))) (bh (eC (.bool false))) dB)
    (sIf (az neD (eFn b7 [(az ixD (ak 6) (eC (.int 1)))]) (az ixD (az ixD (ak 6) (eC (.int 0))) (eC (.int 0)))) (bh (eC (.bool false))) dB)))
    (aP (cg (itL (az cP (cu (itL (ak 4)) (gN 0) (eC (.bool true)) (az ixD (ak 0) (eC (.int 1))) 1 []) (fu [(ak 5)]))) (gN 7) [7, 8] (cg (itL (ak 7)) (gN 8) [8] (sIf (eOr (dX (eUn jW (aO dD [(ak 8)]))) (dX (kZ leD ltD (eC (.int 0)) (ak 8) (ak 3)))) (bh (eC (.bool false))) dB)))
    (bh (az eqD (aO dZ [(ak 0)]) (ak 2))))))))
noncomputable def eV : List PyData → Res PyData := fnR 4 (aP (sIf (eOr (dX (lK "tuple" (ak 0))) (eOr (az neD (eFn b7 [(ak 0)]) (eC (.int 2))) (eOr (dX (eUn jW (aO dD [(az ixD (ak 0) (eC (.int 0)))]))) (dX (eUn jW (aO dD [(az ixD (ak 0) (eC (.int 1)))])))))) (bh (eC (.bool false))) dB)
    (aP (sIf (eOr (dX (kZ leD leD (eC (.int 0)) (az ixD (ak 0) (eC (.int 0))) (eC (.int 3)))) (eOr (dX (kZ leD ltD (eC (.int 0)) (az ixD (ak 0) (eC (.int 1))) (az j6 (eC (.int 1)) (az j6 (eC (.int 1)) (az ixD (ak 0) (eC (.int 0))))))) (dX (lK "list" (ak 1))))) (bh (eC (.bool false))) dB)
    (aP (sIf (eOr (az neD (eFn b7 [(ak 1)]) (az ixD (ak 0) (eC (.int 0)))) (az inY (eC (.bool false)) (cu (itL (ak 1)) (gN 0) (eC (.bool true)) (az inY (ak 0) (az ixD (ak 1) (eC (.int 1)))) 1 [3]))) (bh (eC (.bool false))) dB)
    (bh (jK (aO dq [(ak 0), (ak 2)]) (az fX (aO iB [(ak 0), (ak 1), (az ixD (ak 3) (eC (.int 0)))]) (az ixD (ak 3) (eC (.int 1)))))))))
noncomputable def eO : List PyData → Res PyData := fnR 3 (aP (sIf (eOr (dX (lK "tuple" (ak 0))) (az ltD (eFn b7 [(ak 0)]) (eC (.int 2)))) (bh (eC (.bool false))) dB)
    (aP (sIf (az eqD (az ixD (ak 0) (eC (.int 0))) (eC (.str "made"))) (bh (jK (az eqD (eFn b7 [(ak 0)]) (eC (.int 2))) (aO di [(az ixD (ak 0) (eC (.int 1))), (ak 1), (ak 2)]))) dB)
    (bh (jK (az eqD (az ixD (ak 0) (eC (.int 0))) (eC (.str "cant"))) (jK (az eqD (eFn b7 [(ak 0)]) (eC (.int 3))) (aO eV [(az ixD (ak 0) (eC (.int 1))), (az ixD (ak 0) (eC (.int 2))), (ak 1), (ak 2)]))))))
noncomputable def dH : List PyData → Res PyData := fnR 7 (aP (bj 1 (fu []))
    (aP (cg (fU (az cP (eC (.int 1)) (az ir (aO bF [(ak 0), (eC (.int 0))]) (eC (.int 3))))) (gN 2) [2, 3, 4, 5, 6] (aP (bj 3 (aO bF [(ak 0), (az cP (eC (.int 4)) (ak 2))]))
    (aP (bj 4 (az cP (eC (.int 1)) (az ir (ak 3) (eC (.int 3)))))
    (aP (bj 5 (qe []))
    (aP (cg (fU (az ir (az jl (ak 3) (eC (.int 3))) (eC (.int 4)))) (gN 6) [6] (qM 5 (az ir (az jl (aO bF [(ak 0), (az cP (az cP (eC (.int 8)) (az jP (eC (.int 4)) (ak 2))) (ak 6))]) (eC (.int 7))) (az j6 (eC (.int 1)) (ak 4))) (eC (.bool true))))
    (pG 1 (jn [(ak 4), (eFn iu [(eFn qI [(ak 5)])])])))))))
    (bh (ak 1))))
noncomputable def cY : List PyData → Res PyData := fnR 9 (aP (bj 3 (aO bF [(ak 0), (ak 1)]))
    (aP (bj 4 (az cP (eC (.int 1)) (az ir (ak 3) (eC (.int 4)))))
    (aP (bj 5 (fu []))
    (aP (cg (fU (az ir (az jl (ak 3) (eC (.int 4))) (eC (.int 4)))) (gN 6) [6, 7] (aP (bj 7 (az ixD (ak 2) (az ir (az jl (aO bF [(ak 0), (az cP (az cP (ak 1) (eC (.int 1))) (ak 6))]) (eC (.int 3))) (eFn b7 [(ak 2)]))))
    (pG 5 (jn [(ak 7), (eFn iu [(cu (fU (az ixD (ak 7) (eC (.int 0)))) (gN 0) (eC (.bool true)) (az ir (az jl (aO bF [(ak 1), (az cP (az cP (az cP (ak 2) (eC (.int 4))) (az jP (eC (.int 4)) (ak 3))) (ak 0))]) (eC (.int 3))) (ak 4)) 1 [0, 1, 6, 4])])]))))
    (aP (bj 8 (eFn iu [(cu (fU (az ir (az jl (ak 3) (eC (.int 16))) (eC (.int 5)))) (gN 0) (eC (.bool true)) (az ir (az jl (aO bF [(ak 1), (az cP (az cP (ak 2) (eC (.int 16))) (ak 0))]) (eC (.int 3))) (ak 3)) 1 [0, 1, 4])]))
    (bh (jn [(ak 4), (eFn iu [(ak 5)]), (ak 8)])))))))
noncomputable def bY : List PyData → Res PyData := fnR 3 (aP (bj 2 (aO jt [(ak 0), (ak 1)]))
    (bh (jK (aO eO [(ak 2), (ak 0), (ak 1)]) (az eqD (az ixD (ak 2) (eC (.int 0))) (eC (.str "made"))))))
noncomputable def nC : List PyData → Res PyData := fnR 9 (aP (bj 1 (aO dH [(ak 0)]))
    (aP (bj 2 (fu []))
    (aP (cg (itL (fu [(eC (.int 20)), (eC (.int 41))])) (gN 3) [3, 4] (aP (bj 4 (aO cY [(ak 0), (ak 3), (ak 1)]))
    (aP (pG 2 (aO dZ [(ak 4)]))
    (sIf (az neD (aO cZ [(ak 4)]) (az ixD (ak 2) (eUn Iu (eC (.int 1))))) (bh (eC (.bool false))) dB))))
    (aP (bj 5 (aO dZ [(aO cY [(ak 0), (eC (.int 20)), (ak 2)])]))
    (aP (bj 6 (cu (itL (ak 2)) (gN 0) (jK (az leD (az ixD (ak 0) (eC (.int 0))) (eC (.int 4))) (az leD (eFn b7 [(az ixD (ak 0) (eC (.int 1)))]) (eC (.int 3)))) (ak 0) 1 []))
    (aP (cg (itL (az cP (ak 6) (fu [(ak 5)]))) (gN 7) [7] (sIf (jK (az leD (eFn b7 [(az ixD (ak 7) (eC (.int 1)))]) (eC (.int 3))) (dX (eUn jW (aO bY [(ak 1), (ak 7)])))) (bh (eC (.bool false))) dB))
    (aP (sIf (jK (az eqD (eFn b7 [(ak 6)]) (eC (.int 2))) (jK (az leD (eFn b7 [(az ixD (ak 5) (eC (.int 1)))]) (eC (.int 3))) (dX (eUn jW (aO bY [(ak 6), (ak 5)]))))) (bh (eC (.bool false))) dB)
    (aP (bj 8 (aO iV [(az jl (aO bF [(ak 0), (eC (.int 1))]) (eC (.int 3))), (eC (.int 2))]))
    (aP (sIf (eUn jW (aO dq [(ak 8), (ak 1)])) (cg (itL (az cP (ak 2) (fu [(ak 5)]))) (gN 7) [7] (sIf (eOr (dX (eUn jW (aO eF [(ak 8), (ak 7)]))) (dX (eUn jW (aO jU [(ak 8), (ak 7)])))) (bh (eC (.bool false))) dB)) dB)
    (bh (eC (.bool true))))))))))))
end Law
namespace Law
open PySem L2 L3 Prog Gk
theorem Pg (ns : List Int) {k : Nat} (hk : k ≤ 100000) : ∃ c : Int, 0 ≤ c ∧ c < 2147483647 ∧ bF [dL ns, .int (k : Nat)] = .ok (.int c) := by
  unfold bF
  walk_at "ev"
  rw [Ft]
  by_cases h : k < ns.length
  · rw [if_pos (decide_eq_true (by omega)), uM h]
    walk_at "go"
    exact ⟨_, Int.emod_nonneg _ (by decide), Int.emod_lt_of_pos _ (by decide), rfl⟩
  · rw [if_neg (by rw [decide_eq_true_eq]; omega)]
    walk_at "go"
    exact ⟨_, Int.emod_nonneg _ (by decide), Int.emod_lt_of_pos _ (by decide), rfl⟩
theorem uH (ns : List Int) : ∃ F : Nat → Int, ∀ k, k ≤ 100000 → 0 ≤ F k ∧ F k < 2147483647 ∧ bF [dL ns, .int (k : Nat)] = .ok (.int (F k)) := by
  have h : ∀ k : Nat, ∃ c : Int, k ≤ 100000 → 0 ≤ c ∧ c < 2147483647 ∧ bF [dL ns, .int (k : Nat)] = .ok (.int c) := fun k => by
    by_cases hk : k ≤ 100000
    · obtain ⟨c, hc⟩ := Pg ns hk
      exact ⟨c, fun _ => hc⟩
    · exact ⟨0, fun z => absurd z hk⟩
  exact ⟨fun k => Classical.choose (h k), fun k => Classical.choose_spec (h k)⟩
theorem arity {v : Int} (h : 0 ≤ v ∧ v < 8) : ∃ n : Nat, n ≤ 4 ∧ ixD (.list [.int 2, .int 1, .int 2, .int 3, .int 0, .int 2, .int 4, .int 3]) (.int v) = .ok (.int (n : Nat)) := by
  have : v = 0 ∨ v = 1 ∨ v = 2 ∨ v = 3 ∨ v = 4 ∨ v = 5 ∨ v = 6 ∨ v = 7 := by omega
  rcases this with rfl | rfl | rfl | rfl | rfl | rfl | rfl | rfl
  · exact ⟨2, by decide, rfl⟩
  · exact ⟨1, by decide, rfl⟩
  · exact ⟨2, by decide, rfl⟩
  · exact ⟨3, by decide, rfl⟩
  · exact ⟨0, by decide, rfl⟩
  · exact ⟨2, by decide, rfl⟩
  · exact ⟨4, by decide, rfl⟩
  · exact ⟨3, by decide, rfl⟩
theorem HS {v : Int} (a : Int) (h : 0 ≤ v ∧ v < 8) : ∃ x : Int, ixD (.list [.int 8, .int 14, .int 6, .int 1, .int 232, .int 150, .int 202, .int a]) (.int v) = .ok (.int x) := by
  have : v = 0 ∨ v = 1 ∨ v = 2 ∨ v = 3 ∨ v = 4 ∨ v = 5 ∨ v = 6 ∨ v = 7 := by omega
  rcases this with rfl | rfl | rfl | rfl | rfl | rfl | rfl | rfl <;> exact ⟨_, rfl⟩
theorem Rb {a b : Nat} : minD [.int (a : Nat), .int (b : Nat)] = .ok (.int (min a b : Nat)) := by
  show Res.ok (PyData.int (if ((b : Nat) : Int) < (a : Nat) then ((b : Nat) : Int) else (a : Nat))) = _
  by_cases h : b < a
  · rw [if_pos (by omega), Nat.min_eq_right (by omega)]
  · rw [if_neg (by omega), Nat.min_eq_left (by omega)]
theorem PB (c : Int) {k : Nat} (hk : k ≤ 4) : ∃ (m : Nat) (b : Int), m ≤ k ∧ 0 ≤ b ∧ b < 2 ^ 2 ^ m ∧ iV [.int c, .int (k : Nat)] = .ok (dG m b) := by
  unfold iV
  walk_at "go"
  obtain ⟨q, hq, eq⟩ := arity (v := c % 8) ⟨Int.emod_nonneg _ (by decide), Int.emod_lt_of_pos _ (by decide)⟩
  rw [eq]
  walk_at "ev"
  rw [Rb]
  have hm : min q k ≤ k := Nat.min_le_right _ _
  generalize min q k = m at hm
  obtain ⟨x, ex⟩ := HS (v := c / 8 % 8) (c / 64) ⟨Int.emod_nonneg _ (by decide), Int.emod_lt_of_pos _ (by decide)⟩
  walk_at "go"
  rw [ex]
  have h2 := two_pos (2 ^ m)
  have h16 := nM (show m ≤ 4 by omega)
  have e1 : ((1 : Int) * 2 ^ ((m : Nat) : Int).toNat) = ((2 ^ m : Nat) : Int) := by rw [Int.toNat_natCast, Int.one_mul]; exact (Int.natCast_pow 2 m).symm
  walk_at "go"
  rw [e1, bc (show j4 1 ((2 ^ m : Nat) : Int) from ⟨Int.natCast_nonneg _, Int.le_trans (Int.ofNat_le.mpr h16) (by decide), by decide⟩)]
  walk_at "ev"
  rw [Int.toNat_natCast, Int.one_mul, bc h2]
  walk_at "ev"
  exact ⟨m, _, hm, Int.emod_nonneg _ (by omega), Int.emod_lt_of_pos _ h2, rfl⟩
theorem Ju {m : Nat} {b : Int} {ts : List Int} {w : Nat} (hm : m ≤ 4) (hl : ts.length = m) (hw : w ≤ 1000) : iB [dG m b, dL ts, .int (w : Nat)] = .ok (.int (bW b ts w)) := by
  unfold iB
  walk_at "ev"
  rw [cH (by omega)]
  walk_at "ev"
  refine bC (fun j => [some (dG m b), some (dL ts), some (.int (w : Nat)), some (.int (bW b ts j)), none, none, none]) rfl (fun j x hx => ?_) ?_
  · obtain ⟨hj, rfl⟩ := iG hx
    walk_at "ev"
    rw [cH (show m < 2 ^ 62 by omega)]
    walk_at "ev"
    refine bC (fun k => [some (dG m b), some (dL ts), some (.int (w : Nat)), some (.int (bW b ts j)), some (.int (j : Nat)), some (.int (bJ ((ts.take k).map fun t => aU t (j : Nat)))), none]) rfl (fun k x hx => ?_) ?_
    · obtain ⟨hk, rfl⟩ := iG hx
      have h01 := dU (ts.getD k 0) (j : Nat)
      have hk' : k < ts.length := by omega
      walk_at "ev"
      rw [uM hk']
      walk_at "go"
      rw [Int.toNat_natCast, Bj, bc (show j4 _ _ from ⟨by omega, by omega, by omega⟩), Int.toNat_natCast]
      walk_at "ev"
      rw [take_snoc (List.getElem?_eq_getElem hk'), List.map_append, List.map_cons, List.map_nil, nG, List.length_map, List.length_take, Nat.min_eq_left (by omega), Int.mul_comm (2 ^ k), List.getD_eq_getElem?_getD, List.getElem?_eq_getElem hk']
      rfl
    · rw [d9]
      have g0 : 0 ≤ bJ (ts.map fun t => aU t (j : Nat)) := fQ (cN.bits (l := ts) (f := fun t => t) (g := fun _ => (j : Nat))).nn
      have h01 := dU b (bJ (ts.map fun t => aU t (j : Nat)))
      rw [List.take_of_length_le (by omega)]
      walk_at "ev"
      rw [bc g0]
      walk_at "ev"
      rw [PyProof.Rows.bitAnd_m1]
      rw [show b / 2 ^ (bJ (ts.map fun t => aU t (j : Nat))).toNat % 2 = aU b (bJ (ts.map fun t => aU t (j : Nat))) from rfl]
      rw [bc (show j4 _ _ from ⟨by omega, by omega, by omega⟩), Int.toNat_natCast]
      walk_at "ev"
      have e : bW b ts (j + 1) = bW b ts j + aU b (bJ (ts.map fun t => aU t (j : Nat))) * 2 ^ j := by
        unfold bW tab
        rw [List.range_succ, List.map_append, List.map_cons, List.map_nil, nG, List.length_map, List.length_range, Int.mul_comm (2 ^ j)]
      rw [e]
  · rw [d9]
    walk_at "ev"
theorem K7 {rs : List Int} {m : Nat} (hr : rs.length ≤ 16) (hm : m ≤ 4) : jh [dR rs, .int (m : Nat)] = .ok (.list ((d8 rs m).map dL)) := by
  have LL : ∀ i, i ≤ 4 → (d8 rs i).length ≤ 65536 := fun i hi => by rw [pM]; exact Pj hr hi
  unfold jh
  walk_at "ev"
  rw [cH (by omega)]
  walk_at "ev"
  refine bC (fun i => [some (dR rs), some (.int (m : Nat)), some (.list ((d8 rs i).map dL)), none, none, none, none]) rfl (fun i x hx => ?_) ?_
  · obtain ⟨hi, rfl⟩ := iG hx
    have L0 := LL i (by omega)
    walk_at "ev"
    refine bC (fun j => [some (dR rs), some (.int (m : Nat)), some (.list ((d8 rs i).map dL)), some (.int (i : Nat)), some (.list ((fL rs ((d8 rs i).take j)).map dL)), none, none]) rfl (fun j x hx => ?_) ?_
    · obtain ⟨c, ec, rfl⟩ := cV hx
      have hc := jz i c (List.mem_of_getElem? ec)
      have Lj : (fL rs ((d8 rs i).take j)).length ≤ 1100000 := by
        rw [kW, List.length_take]
        exact Nat.le_trans (Nat.mul_le_mul (Nat.le_trans (Nat.min_le_right _ _) L0) hr) (by decide)
      walk_at "ev"
      rw [show mY (dR rs) = .ok (rs.map PyData.int) from rfl]
      walk_at "ev"
      refine bC (fun k => [some (dR rs), some (.int (m : Nat)), some (.list ((d8 rs i).map dL)), some (.int (i : Nat)), some (.list ((fL rs ((d8 rs i).take j) ++ (rs.take k).map fun r => c ++ [r]).map dL)), some (dL c), none]) ?_ (fun k x hx => ?_) ?_
      · rw [List.take_zero, List.map_nil, List.append_nil]
      · obtain ⟨r, er, rfl⟩ := cV hx
        have hk := (List.getElem?_eq_some_iff.mp er).1
        walk_at "ev"
        rw [Ph (by omega)]
        walk_at "ev"
        rw [bc (Nat.lt_of_le_of_lt (show _ ≤ 1200000 by rw [List.length_append, List.length_map, List.length_take]; omega) (by decide))]
        walk_at "ev"
        rw [take_snoc er, List.map_append (f := fun r => c ++ [r]), ← List.append_assoc, List.map_append (f := dL) (l₂ := List.map (fun r => c ++ [r]) [r])]
        rfl
      · rw [List.length_map, List.take_length]
        walk_at "ev"
        rw [take_snoc ec, sZ]
    · rw [List.length_map, List.take_length]
      walk_at "ev"
      rfl
  · rw [d9]
    walk_at "ev"
theorem Ai {α : Type} {p : α → Bool} {xs : List α} : (xs.any fun a => !p a) = !xs.all p := by
  induction xs with
  | nil => rfl
  | cons x xs ih => rw [List.any_cons, List.all_cons, ih, Bool.not_and]
theorem Ak {n : Nat} {b : Int} {R : Rl} (hn : n ≤ 4) (hl : R.2.length ≤ 16) (hw : R.1 ≤ 1000) : eF [dG n b, dRl R] = .ok (.bool (dW b n R)) := by
  unfold eF dRl dg
  walk_at "ev"
  rw [K7 hl hn]
  walk_at "ev"
  rw [pD (d := .bool false) dL (fun c => !decide (bW b c R.1 ∈ R.2)) fun c hc => ?_]
  · rw [Ai]
    show Res.bind (if (!dW b n R) = true then _ else _) _ = _
    cases dW b n R with
    | true => rw [if_neg (by decide)]; walk_at "ev"
    | false => rw [if_pos (by decide)]; walk_at "ev"
  · walk_at "ev"
    rw [Ju hn (jz n c hc) hw]
    walk_at "ev"
    rw [rM]
    walk_at "ev"
    by_cases h : bW b c R.1 ∈ R.2
    · rw [decide_eq_true h]; rfl
    · rw [decide_eq_false h]; rfl
theorem uy {n : Nat} {b : Int} {Rs : List Rl} (hn : n ≤ 4) (hR : ∀ R ∈ Rs, R.2.length ≤ 16 ∧ R.1 ≤ 1000) : dq [dG n b, .list (Rs.map dRl)] = .ok (.bool (Rs.all fun R => dW b n R)) := by
  unfold dq
  walk_at "ev"
  rw [pD (d := .bool false) dRl (fun R => !dW b n R) fun R hRm => ?_]
  · rw [Ai]
    cases Rs.all fun R => dW b n R with
    | true => rw [if_neg (by decide)]; walk_at "ev"
    | false => rw [if_pos (by decide)]; walk_at "ev"
  · walk_at "ev"
    rw [Ak hn (hR R hRm).1 (hR R hRm).2]
    cases dW b n R <;> rfl
theorem Nj {x : Int} {w : Nat} (hw : w ≤ 1000) : jO [.int x, .int (w : Nat)] = .ok (dL (uW w x)) := by
  unfold jO
  walk_at "ev"
  rw [jA (n := w) (fun k => .int (aU x ((k : Nat) : Int))) ?_ (size_le (by omega)) fun k hk => ?_]
  · walk_at "ev"
    rw [Oq]
    rfl
  · walk_at "ev"
    rw [cH (by omega)]
  · walk_at "ev"
    rw [bc (Int.natCast_nonneg _)]
    walk_at "ev"
    rw [Int.toNat_natCast, Bj]
structure Pb (N : Nat) (p : FPt) : Prop where
  w8 : p.w ≤ 8
  rl : p.rs.length ≤ 16
  cl : p.cs.length = p.w
  cb : ∀ c ∈ p.cs, c < N
theorem Eb {i : Int} {w : Nat} {cs : List Nat} {Γ : Ev} {jb jc : Nat} (hc : cs.length ≤ 8) (hb : ∀ c ∈ cs, c < w) (e : gb 1 [jb, jc] Γ = [none, some (dL (uW w i)), some (.tuple (dN cs))]) (ec : ak jc Γ = .ok (.tuple (dN cs))) :
    cu (fU (eFn b7 [(ak jc)])) (gN 0) (eC (.bool true)) (az j6 (az ixD (ak 1) (az ixD (ak 2) (ak 0))) (ak 0)) 1 [jb, jc] Γ = .ok (.list ((List.range cs.length).map fun k => PyData.int ((cs.map fun c => aU i ((c : Nat) : Int)).getD k 0 * 2 ^ k))) := by
  refine jA (n := cs.length) (fun k => .int ((cs.map fun c => aU i ((c : Nat) : Int)).getD k 0 * 2 ^ k)) ?_ (size_le (by omega)) fun k hk => ?_
  · rw [yl, Ar, yw, Ba, ec]
    walk_at "ev"
    rw [show (dN cs).length = cs.length by unfold dN; rw [List.length_map], cH (by omega)]
  · rw [e]
    have hck := hb _ (List.getElem_mem hk)
    have h01 := dU i ((cs[k] : Nat) : Int)
    have eg : cs.getD k 0 = cs[k] := by rw [List.getD_eq_getElem?_getD, List.getElem?_eq_getElem hk]; rfl
    walk_at "ev"
    rw [QB hk, eg]
    walk_at "ev"
    rw [uM (by unfold uW; simp; omega)]
    have er : (uW w i).getD cs[k] 0 = aU i ((cs[k] : Nat) : Int) := by
      unfold uW
      rw [List.getD_eq_getElem?_getD, List.getElem?_map, List.getElem?_range (by omega)]
      rfl
    rw [er]
    walk_at "ev"
    rw [bc (show j4 _ _ from ⟨by omega, by omega, by omega⟩), Int.toNat_natCast]
    rw [List.getD_eq_getElem?_getD (l := cs.map _), List.getElem?_map, List.getElem?_eq_getElem hk]
    rfl
theorem Fb {i : Int} {cs : List Nat} : sE [.list ((List.range cs.length).map fun k => PyData.int ((cs.map fun c => aU i ((c : Nat) : Int)).getD k 0 * 2 ^ k))] = .ok (.int (b8 i cs)) := by
  rw [show PyData.list ((List.range cs.length).map fun k => PyData.int ((cs.map fun c => aU i ((c : Nat) : Int)).getD k 0 * 2 ^ k)) = .list (((List.range cs.length).map fun k => (cs.map fun c => aU i ((c : Nat) : Int)).getD k 0 * 2 ^ k).map PyData.int) by rw [List.map_map]; rfl, vz]
  have := CQ (cs.map fun c => aU i ((c : Nat) : Int))
  rw [List.length_map] at this
  rw [this]
  rfl
theorem Fx {w : Nat} {ps : List FPt} {cs : List Nat} (hw : w ≤ 8) (hp : ∀ p ∈ ps, Pb w p) (hc : cs.length ≤ 8) (hb : ∀ c ∈ cs, c < w) :
    dZ [.tuple [.int (w : Nat), .tuple (ps.map FPt.d), .tuple (dN cs)]] = .ok (dg cs.length (eY w ps cs)) := by
  have h8 := Qg hw
  unfold dZ
  walk_at "ev"
  rw [show ∀ Γ, qe [] Γ = .ok (.dict []) from fun _ => rfl]
  walk_at "ev"
  rw [bc (show j4 1 (w : Nat) from ⟨by omega, by omega, by decide⟩), Int.toNat_natCast, Int.one_mul]
  walk_at "ev"
  have e2 : (2 : Int) ^ w = ((2 ^ w : Nat) : Int) := by rw [Int.natCast_pow]; rfl
  rw [e2, cH (by omega)]
  walk_at "ev"
  generalize hD : PyData.tuple [.int (w : Nat), .tuple (ps.map FPt.d), .tuple (dN cs)] = D
  generalize hN : 2 ^ w = N at h8
  have hml : ∀ i, i ≤ N → (markL (((upI i).filter fun r => ps.all fun p => p.has r).map fun r => b8 r cs)).length ≤ 256 := fun i hi => by
    refine Nat.le_trans (wj _) ?_
    rw [List.length_map]
    refine Nat.le_trans (List.length_filter_le _ _) ?_
    rw [Bk]; omega
  refine bC (fun i => [some D, some (.int (w : Nat)), some (.tuple (ps.map FPt.d)), some (.tuple (dN cs)), some (.dict (mk (markL (((upI i).filter fun r => ps.all fun p => p.has r).map fun r => b8 r cs)))), none, none, none, none, none]) rfl (fun i x hx => ?_) ?_
  · obtain ⟨hi, rfl⟩ := iG hx
    walk_at "ev"
    rw [Nj (by omega)]
    walk_at "ev"
    refine bC (fun j => [some D, some (.int (w : Nat)), some (.tuple (ps.map FPt.d)), some (.tuple (dN cs)), some (.dict (mk (markL (((upI i).filter fun r => ps.all fun p => p.has r).map fun r => b8 r cs)))), some (.int (i : Nat)), some (dL (uW w (i : Nat))), some (.bool ((ps.take j).all fun p => p.has (i : Nat))), none, none]) rfl (fun j x hx => ?_) ?_
    · obtain ⟨p, ep, rfl⟩ := cV hx
      have hpo := hp p (List.mem_of_getElem? ep)
      unfold FPt.d dg
      walk_at "ev"
      rw [Eb (i := (i : Nat)) (w := w) (cs := p.cs) (by have := hpo.cl; have := hpo.w8; omega) hpo.cb rfl rfl]
      walk_at "ev"
      rw [Fb]
      walk_at "ev"
      rw [rM]
      rw [show decide (b8 (i : Nat) p.cs ∈ p.rs) = p.has (i : Nat) from rfl]
      rw [take_snoc ep, List.all_append]
      cases hh : p.has (i : Nat) with
      | true =>
        walk_at "ev"
        simp [hh]
      | false =>
        walk_at "ev"
        simp [hh]
    · rw [List.length_map, List.take_length]
      walk_at "ev"
      cases hh : ps.all fun p => p.has (i : Nat) with
      | false =>
        walk_at "ev"
        rw [wW, List.filter_append, List.filter_cons_of_neg (by rw [hh]; exact Bool.false_ne_true), List.filter_nil, List.append_nil]
      | true =>
        walk_at "ev"
        rw [rO (x := b8 (i : Nat) cs) (ks := markL (((upI i).filter fun r => ps.all fun p => p.has r).map fun r => b8 r cs)) rfl (by walk_at "ev"; rw [Eb (i := (i : Nat)) (w := w) (cs := cs) hc hb rfl rfl]; walk_at "ev"; exact Fb) rfl (Nat.le_trans (hml i (by omega)) (by decide)) (of_decide_eq_true rfl)]
        walk_at "ev"
        rw [wW, List.filter_append, List.filter_cons_of_pos (p := fun r => ps.all fun p => p.has r) hh, List.filter_nil, List.map_append, List.map_cons, List.map_nil, jM]
  · rw [d9]
    walk_at "ev"
    rw [t8 (Nat.lt_of_le_of_lt (hml N (Nat.le_refl _)) (by decide))]
    walk_at "ev"
    rw [show (dN cs).length = cs.length by unfold dN; rw [List.length_map]]
    unfold eY iH
    rw [hN, wV fun _ => Iff.rfl]
    rfl
theorem qQ {x : Int} : dD [.int x] = .ok (.bool true) := by
  unfold dD
  walk_at "ev"
theorem xm {b : Bool} : SeqAt.shaped (.bool b) = true := by cases b <;> decide
theorem Rh {α : Type} {f : α → Bool} (xs : List α) : fX (.bool false) (.list (xs.map fun a => PyData.bool (f a))) = .ok (.bool (xs.all f)) := by
  have sh : (xs.map fun a => PyData.bool (f a)).all SeqAt.shaped = true := by
    rw [List.all_eq_true]
    intro d hd
    obtain ⟨a, _, rfl⟩ := List.mem_map.mp hd
    exact xm
  show gd (SeqAt.shaped (.bool false) = true ∧ (xs.map fun a => PyData.bool (f a)).all SeqAt.shaped = true) (Res.ok (PyData.bool (!inB (.bool false) (xs.map fun a => PyData.bool (f a))))) = _
  rw [bc ⟨xm, sh⟩]
  congr 2
  unfold inB
  have e : ∀ y : Bool, PyData.eqv (.bool y) (.bool false) = !y := fun y => by cases y <;> decide
  clear sh
  induction xs with
  | nil => rfl
  | cons x xs ih =>
    rw [List.map_cons, List.any_cons, List.all_cons, e, ← ih]
    cases f x <;> simp
theorem qS {x y : Str} {t : Bool} (h1 : SeqAt.shaped (.str x) = true) (h2 : SeqAt.shaped (.str y) = true) (h3 : PyData.eqv (.str x) (.str y) = t) : eqD (.str x) (.str y) = .ok (.bool t) := by
  unfold eqD
  rw [bc ⟨h1, h2⟩, h3]
theorem QF {α : Type} [DecidableEq α] {enc : α → PyData} (hp : ∀ a, plain (enc a) = true) (hi : ∀ a b, enc a = enc b → a = b) {x : α} (xs : List α) : inB (enc x) (xs.map enc) = decide (x ∈ xs) := by
  unfold inB
  have e : ∀ y : α, PyData.eqv (enc y) (enc x) = decide (y = x) := fun y => Bool.eq_iff_iff.mpr ((m9 _ _ (hp y) (hp x)).trans ⟨fun z => decide_eq_true (hi _ _ z), fun z => by rw [of_decide_eq_true z]⟩)
  induction xs with
  | nil => rfl
  | cons r rs ih =>
    rw [List.map_cons, List.any_cons, ih, e]
    by_cases h : r = x
    · subst h; rw [decide_eq_true rfl, decide_eq_true List.mem_cons_self]; rfl
    · rw [decide_eq_false h, Bool.false_or]
      have : (x ∈ r :: rs) ↔ x ∈ rs := ⟨fun z => (List.mem_cons.mp z).resolve_left (fun e => h e.symm), List.mem_cons_of_mem _⟩
      exact decide_eq_decide.mpr this.symm
theorem Mf {R S : Rl} (h : dRl R = dRl S) : R = S := by
  have h1 := PyData.tuple.inj h
  obtain ⟨h2, h3⟩ := List.cons.inj h1
  have h4 := PyData.tuple.inj (List.cons.inj h3).1
  exact Prod.ext (Int.ofNat_inj.mp (PyData.int.inj h2)) ((List.map_inj_right fun _ _ z => PyData.int.inj z).mp h4)
theorem Bt {R : Rl} {Rs : List Rl} : fX (dRl R) (.list (Rs.map dRl)) = .ok (.bool (!decide (R ∈ Rs))) := by
  show gd (SeqAt.shaped (dRl R) = true ∧ (Rs.map dRl).all SeqAt.shaped = true) (Res.ok (PyData.bool (!inB (dRl R) (Rs.map dRl)))) = _
  have hall : (Rs.map dRl).all SeqAt.shaped = true := by
    rw [List.all_eq_true]
    intro d hd
    obtain ⟨S, _, rfl⟩ := List.mem_map.mp hd
    exact eG (lu _ _) (nu _ _)
  rw [bc ⟨eG (lu _ _) (nu _ _), hall⟩, QF (fun R => lu _ _) fun a b h => Mf h]
  exact congrArg (fun b => Res.ok (PyData.bool !b)) (decide_eq_decide.mpr Iff.rfl)
theorem Bv {w : Nat} {rs : List Int} {Rs : List Rl} : fX (.tuple [.int (w : Nat), dR rs]) (.list (Rs.map dRl)) = .ok (.bool (!decide ((w, rs) ∈ Rs))) := Bt (R := (w, rs))
theorem uz {N v : Nat} {ps : List FPt} {cs : List Nat} {Rs : List Rl} {rs : List Int} (hN : N ≤ 8) (hpl : ps.length ≤ 256) (hp : ∀ p ∈ ps, Pb N p ∧ (p.w, p.rs) ∈ Rs) (hc : cs.length ≤ 8) (hb : ∀ c ∈ cs, c < N) (hv : cs.length = v) (hr : eY N ps cs = rs) :
    di [.tuple [.int (N : Nat), .tuple (ps.map FPt.d), .tuple (dN cs)], .list (Rs.map dRl), dg v rs] = .ok (.bool true) := by
  have told := Fx hN (fun p h => (hp p h).1) hc hb
  rw [hr, hv] at told
  unfold di
  generalize hD : PyData.tuple [.int (N : Nat), .tuple (ps.map FPt.d), .tuple (dN cs)] = D at told
  walk_at "ev"
  rw [← hD]
  walk_at "ev"
  rw [qQ]
  walk_at "ev"
  rw [decide_eq_true (show (0 : Int) ≤ (N : Nat) by omega)]
  walk_at "ev"
  rw [decide_eq_true (show ((N : Nat) : Int) ≤ 8 by omega)]
  walk_at "ev"
  rw [decide_eq_false (show ¬ ((ps.length : Nat) : Int) > 256 by omega)]
  walk_at "ev"
  rw [hD]
  refine bC (fun _ => [some D, some (.list (Rs.map dRl)), some (dg v rs), some (.int (N : Nat)), some (.tuple (ps.map FPt.d)), some (.tuple (dN cs)), none, none, none]) rfl (fun i x hx => ?_) ?_
  · obtain ⟨p, ep, rfl⟩ := cV hx
    obtain ⟨hpb, hpm⟩ := hp p (List.mem_of_getElem? ep)
    unfold FPt.d dg
    walk_at "ev"
    rw [Bv, decide_eq_true hpm]
    walk_at "ev"
    rw [show (dN p.cs).length = p.cs.length by unfold dN; rw [List.length_map], hpb.cl]
    walk_at "ev"
  · walk_at "ev"
    rw [il (xs := ps) FPt.d (fun p => .tuple (dN p.cs)) ?_ (size_le (by omega)) fun p _ => ?_]
    · walk_at "ev"
      rw [o8 (by rw [List.length_map, List.length_singleton]; omega)]
      walk_at "ev"
      have eL : (ps.map fun p => PyData.tuple (dN p.cs)) ++ [.tuple (dN cs)] = (ps.map FPt.cs ++ [cs]).map fun l => PyData.tuple (dN l) := by
        rw [List.map_append, List.map_map]
        rfl
      rw [eL]
      have hall : ∀ l ∈ ps.map FPt.cs ++ [cs], ∀ c ∈ l, c < N := fun l hl => by
        rcases List.mem_append.mp hl with hl | hl
        · obtain ⟨p, h1, rfl⟩ := List.mem_map.mp hl
          exact (hp p h1).1.cb
        · rw [List.mem_singleton.mp hl]; exact hb
      refine bC (fun _ => [some D, some (.list (Rs.map dRl)), some (dg v rs), some (.int (N : Nat)), some (.tuple (ps.map FPt.d)), some (.tuple (dN cs)), none, none, none]) rfl (fun i x hx => ?_) ?_
      · obtain ⟨l, el, rfl⟩ := cV hx
        walk_at "ev"
        refine bC (fun _ => [some D, some (.list (Rs.map dRl)), some (dg v rs), some (.int (N : Nat)), some (.tuple (ps.map FPt.d)), some (.tuple (dN cs)), none, some (.tuple (dN l)), none]) rfl (fun j x hx => ?_) ?_
        · obtain ⟨c, ec, rfl⟩ := cV (enc := fun k : Nat => PyData.int ((k : Nat) : Int)) hx
          have := hall l (List.mem_of_getElem? el) c (List.mem_of_getElem? ec)
          walk_at "ev"
          rw [qQ]
          walk_at "ev"
          rw [decide_eq_true (show (0 : Int) ≤ (c : Nat) by omega)]
          walk_at "ev"
          rw [decide_eq_true (show ((c : Nat) : Int) < (N : Nat) by omega)]
          walk_at "ev"
        · walk_at "ev"
      · walk_at "ev"
        rw [told]
        walk_at "ev"
        rw [G7 (lu _ _) (nu _ _)]
        walk_at "ev"
    · walk_at "ev"
    · unfold FPt.d
      walk_at "ev"
theorem ye {n w : Nat} {b : Int} {rs ss : List Int} {Rs : List Rl} (hn : n ≤ 3) (h0 : 0 ≤ b) (h1 : b < 2 ^ 2 ^ n) (hl : rs.length = n) (hs : ∀ r ∈ rs, r ∈ ss) (hR : ∀ R ∈ Rs, R.2.length ≤ 16 ∧ R.1 ≤ 1000) (hw : w ≤ 1000)
    (hk : (Rs.all fun R => dW b n R) = true) (hx : bW b rs w ∉ ss) : eV [dG n b, dL rs, .list (Rs.map dRl), dg w ss] = .ok (.bool true) := by
  have h8 := HN hn
  have hall := uy (n := n) (b := b) (Rs := Rs) (by omega) hR
  have hput := Ju (m := n) (b := b) (ts := rs) (w := w) (by omega) hl hw
  unfold eV dg
  generalize hG : dG n b = G at hall hput
  walk_at "ev"
  rw [← hG]
  walk_at "ev"
  rw [qQ, qQ]
  walk_at "ev"
  rw [decide_eq_true (show (0 : Int) ≤ (n : Nat) by omega)]
  walk_at "ev"
  rw [decide_eq_true (show ((n : Nat) : Int) ≤ 3 by omega)]
  walk_at "ev"
  rw [decide_eq_true h0]
  walk_at "ev"
  have e1 : (2 : Int) ^ n = ((2 ^ n : Nat) : Int) := by rw [Int.natCast_pow]; rfl
  rw [bc (show j4 1 (n : Nat) from ⟨by omega, by omega, by decide⟩), Int.toNat_natCast, Int.one_mul]
  walk_at "ev"
  rw [e1, bc (show j4 1 ((2 ^ n : Nat) : Int) from ⟨Int.natCast_nonneg _, Int.le_trans (Int.ofNat_le.mpr h8) (by decide), by decide⟩), Int.toNat_natCast, Int.one_mul]
  walk_at "ev"
  rw [decide_eq_true h1]
  walk_at "ev"
  rw [hl]
  walk_at "ev"
  rw [il (xs := rs) PyData.int (fun r => .bool true) ?_ (size_le (by omega)) fun r hr => ?_]
  · walk_at "ev"
    rw [show inY (.bool false) (.list (rs.map fun _ => PyData.bool true)) = .ok (.bool false) by
      have nf := Rh (f := fun _ => true) rs
      show gd (SeqAt.shaped (.bool false) = true ∧ (rs.map fun _ => PyData.bool true).all SeqAt.shaped = true) (Res.ok (PyData.bool (inB (.bool false) (rs.map fun _ => PyData.bool true)))) = _
      have nf : gd (SeqAt.shaped (.bool false) = true ∧ (rs.map fun _ => PyData.bool true).all SeqAt.shaped = true) (Res.ok (PyData.bool (!inB (.bool false) (rs.map fun _ => PyData.bool true)))) = .ok (.bool (rs.all fun _ => true)) := nf
      obtain ⟨c, nf⟩ := bL nf
      rw [bc c]
      rw [show (rs.all fun _ => true) = true from List.all_eq_true.mpr fun _ _ => rfl] at nf
      cases hb : inB (.bool false) (rs.map fun _ => PyData.bool true) with
      | false => rfl
      | true => rw [hb] at nf; cases nf]
    walk_at "ev"
    rw [hG, hall, hk]
    walk_at "ev"
    rw [hput]
    walk_at "ev"
    rw [rM, decide_eq_false hx]
    rfl
  · walk_at "ev"
  · walk_at "ev"
    rw [QM, decide_eq_true (hs r hr)]
theorem Ds : eqD (.str "made") (.str "made") = .ok (.bool true) := qS (by decide +kernel) (by decide +kernel) (by decide +kernel)
theorem zU : eqD (.str "cant") (.str "made") = .ok (.bool false) := qS (by decide +kernel) (by decide +kernel) (by decide +kernel)
theorem Ni : eqD (.str "cant") (.str "cant") = .ok (.bool true) := qS (by decide +kernel) (by decide +kernel) (by decide +kernel)
structure xq (w : Nat) (rs : List Int) : Prop where
  w8 : w ≤ 8
  n3 : rs.length ≤ 3
  b : ∀ r ∈ rs, 0 ≤ r ∧ r < 2 ^ w
  s : rs.Pairwise (· ≤ ·)
  d : rs.Nodup
theorem Dq {w : Nat} {rs : List Int} {Rs Ss : List Rl} (hW : xq w rs) (hR : ∀ R ∈ Rs, oR rs.length R ∧ RlB R) (hl : Rs.length ≤ 4) (hm : ∀ R, R ∈ Rs ↔ R ∈ Ss) : eO [oV Rs w rs, .list (Ss.map dRl), dg w rs] = .ok (.bool true) := by
  have hn := hW.n3
  have h8 := HN hn
  unfold eO oV
  cases hf : (bR Rs rs.length).find? (bad w rs) with
  | some b =>
    obtain ⟨h1, h2⟩ := find_some hf
    obtain ⟨h3, h4⟩ := lB.mp h1
    walk_at "ev"
    rw [zU]
    walk_at "ev"
    rw [Ni]
    walk_at "ev"
    rw [ye hn h3.1 h3.2 rfl (fun r h => h) (fun R h => ⟨(hR R ((hm R).mpr h)).1.l, by have := (hR R ((hm R).mpr h)).1.w; omega⟩) (by have := hW.w8; omega) (List.all_eq_true.mpr fun R h => h4 R ((hm R).mpr h)) h2]
    walk_at "ev"
  | none =>
    have hrel := Ht (fun R h => (hR R h).2) hW.b hW.s hW.d hf
    walk_at "ev"
    rw [Ds]
    walk_at "ev"
    rw [uz h8 (Nat.le_trans (o4 fun R h => (hR R h).1) (by omega)) (fun p hp => ?_) (by rw [mV]; exact hW.w8) (fun c hc => Am hc) mV hrel]
    · walk_at "ev"
    · obtain ⟨R, hRm, hp⟩ := List.mem_flatMap.mp hp
      obtain ⟨c, hc, rfl⟩ := List.mem_map.mp hp
      have hRo := (hR R hRm).1
      refine ⟨⟨by have := hRo.w; show R.1 ≤ 8; omega, hRo.l, mV, fun q hq => ?_⟩, (hm R).mp hRm⟩
      have := Am hq
      rw [jz _ c hc] at this
      exact this
theorem Lf {a b : Bool} : (if a = true then Res.ok (PyData.bool b) else .ok (.bool false)) = .ok (.bool (a && b)) := by cases a <;> rfl
structure G9 (R : Rl) : Prop where
  w1 : 1 ≤ R.1
  w4 : R.1 ≤ 4
  l : R.2.length ≤ 16
  b : RlB R
theorem CJ {Rs : List Rl} {w : Nat} {rs : List Int} : ixD (oV Rs w rs) (.int 0) = .ok (.str (if ((bR Rs rs.length).find? (bad w rs)).isSome = true then "cant" else "made")) := by
  unfold oV
  cases (bR Rs rs.length).find? (bad w rs) with
  | some b => rfl
  | none => rfl
theorem zK (ns : List Int) : ∃ Rs : List Rl, Rs.length ≤ 3 ∧ 1 ≤ Rs.length ∧ (∀ R ∈ Rs, G9 R ∧ R.2.length ≤ 3) ∧ dH [dL ns] = .ok (.list (Rs.map dRl)) := by
  suffices hg : Gives (dH [dL ns]) fun d => ∃ Rs : List Rl, (Rs.length ≤ 3 ∧ 1 ≤ Rs.length ∧ ∀ R ∈ Rs, G9 R ∧ R.2.length ≤ 3) ∧ d = .list (Rs.map dRl) by
    obtain ⟨d, e, Rs, ⟨h1, h2, h3⟩, rfl⟩ := hg
    exact ⟨Rs, h1, h2, h3, e⟩
  obtain ⟨F, hF⟩ := uH ns
  unfold dH
  walk_at "ev"
  rw [show bF [dL ns, .int 0] = .ok (.int (F 0)) from (hF 0 (by decide)).2.2]
  walk_at "go"
  obtain ⟨q, eq0, hq⟩ := su (F 0) (m := 3) (by decide)
  rw [eq0, show (1 : Int) + (q : Nat) = ((1 + q : Nat) : Int) by omega, cH (by omega)]
  walk_at "ev"
  refine jN (fun i Γ => ∃ Rs : List Rl, Γ = [some (dL ns), some (.list (Rs.map dRl)), none, none, none, none, none] ∧ Rs.length = i ∧ ∀ R ∈ Rs, G9 R ∧ R.2.length ≤ 3) ⟨[], rfl, rfl, fun R h => nomatch h⟩ (fun i x Γ hx hI => ?_) fun Γ hI => ?_
  · obtain ⟨Rs, rfl, hl, hRs⟩ := hI
    obtain ⟨hi, rfl⟩ := iG hx
    walk_at "ev"
    rw [show (4 : Int) + (i : Nat) = ((4 + i : Nat) : Int) by omega, (hF (4 + i) (by omega)).2.2]
    walk_at "go"
    generalize F (4 + i) = c
    obtain ⟨w0, ew, hw0⟩ := su c (m := 3) (by decide)
    obtain ⟨w, hw⟩ : ∃ w, w = 1 + w0 := ⟨_, rfl⟩
    have w1 : 1 ≤ w := by omega
    have w4 : w ≤ 4 := by omega
    rw [ew, show (1 : Int) + (w0 : Nat) = ((w : Nat) : Int) by omega]
    walk_at "go"
    rw [show ∀ Γ, qe [] Γ = .ok (.dict []) from fun _ => rfl]
    obtain ⟨t, et, ht⟩ := su (c / 3) (m := 4) (by decide)
    walk_at "go"
    rw [et, cH (by omega)]
    walk_at "ev"
    have hp : (0 : Int) < 2 ^ w := two_pos w
    refine EY (fun j Γ => ∃ ks : List Int, Γ = [some (dL ns), some (.list (Rs.map dRl)), some (.int (i : Nat)), some (.int c), some (.int (w : Nat)), some (.dict (mk ks)), none] ∧ ks.length ≤ j ∧ ∀ r ∈ ks, 0 ≤ r ∧ r < 2 ^ w) ⟨[], rfl, Nat.le_refl _, fun r h => nomatch h⟩ (fun j x Γ hx hI => ?_) fun Γ hI => ?_
    · obtain ⟨ks, rfl, hk, hb⟩ := hI
      obtain ⟨hj, rfl⟩ := iG hx
      walk_at "ev"
      rw [rO (x := F (8 + 4 * i + j) / 7 % 2 ^ w) (ks := ks) rfl ?_ rfl (by omega) (of_decide_eq_true rfl)]
      · walk_at "ev"
        refine ⟨_, rfl, Nat.le_trans xQ (by omega), fun r hr => ?_⟩
        rcases xK.mp hr with rfl | hr
        · exact ⟨Int.emod_nonneg _ (by omega), Int.emod_lt_of_pos _ hp⟩
        · exact hb r hr
      · walk_at "go"
        rw [show (8 : Int) + 4 * (i : Nat) + (j : Nat) = ((8 + 4 * i + j : Nat) : Int) by omega, (hF (8 + 4 * i + j) (by omega)).2.2]
        walk_at "go"
        rw [Int.toNat_natCast, Int.one_mul, bc hp]
    · obtain ⟨ks, rfl, hk, hb⟩ := hI
      rw [d9] at hk
      walk_at "ev"
      rw [t8 (by omega)]
      walk_at "ev"
      rw [bc (size_le (by omega))]
      walk_at "ev"
      refine ⟨Rs ++ [(w, srt ks)], ?_, by simp; omega, fun R hR => ?_⟩
      · rw [List.map_append]
        rfl
      · rcases List.mem_append.mp hR with hR | hR
        · exact hRs R hR
        · rw [List.mem_singleton.mp hR]
          have hsl : (srt ks).length ≤ 3 := by rw [(eZ ks).length_eq]; omega
          exact ⟨⟨w1, w4, by show (srt ks).length ≤ 16; omega, fun r hr => hb r (Bl.mp hr)⟩, hsl⟩
  · obtain ⟨Rs, rfl, hl, hRs⟩ := hI
    rw [d9] at hl
    walk_at "ev"
    exact ⟨Rs, ⟨by omega, by omega, hRs⟩, rfl⟩
theorem Ou {Rs : List Rl} {i : Nat} (h : i < Rs.length) : ixD (.list (Rs.map dRl)) (.int (i : Nat)) = .ok (dRl Rs[i]) := mO (i := i) (by rw [List.getElem?_map, List.getElem?_eq_getElem h]; rfl)
theorem vy (ns : List Int) {a : Nat} {Rs : List Rl} (ha : a ≤ 1000) (hl0 : 0 < Rs.length) (hl : Rs.length ≤ 100) (hR : ∀ R ∈ Rs, R.1 ≤ 4 ∧ R.2.length ≤ 16) :
    ∃ (w : Nat) (ps : List FPt) (cs : List Nat), 1 ≤ w ∧ w ≤ 4 ∧ (∀ p ∈ ps, (p.w, p.rs) ∈ Rs ∧ p.cs.length = p.w ∧ ∀ c ∈ p.cs, c < w) ∧ ps.length ≤ 3 ∧ cs.length ≤ 4 ∧ (∀ c ∈ cs, c < w) ∧
      cY [dL ns, .int (a : Nat), .list (Rs.map dRl)] = .ok (.tuple [.int (w : Nat), .tuple (ps.map FPt.d), .tuple (dN cs)]) := by
  suffices hg : Gives (cY [dL ns, .int (a : Nat), .list (Rs.map dRl)]) fun d => ∃ (w : Nat) (ps : List FPt) (cs : List Nat), (1 ≤ w ∧ w ≤ 4 ∧ (∀ p ∈ ps, (p.w, p.rs) ∈ Rs ∧ p.cs.length = p.w ∧ ∀ c ∈ p.cs, c < w) ∧ ps.length ≤ 3 ∧ cs.length ≤ 4 ∧ (∀ c ∈ cs, c < w)) ∧ d = .tuple [.int (w : Nat), .tuple (ps.map FPt.d), .tuple (dN cs)] by
    obtain ⟨d, e, w, ps, cs, ⟨h1, h2, h3, h4, h5, h6⟩, rfl⟩ := hg
    exact ⟨w, ps, cs, h1, h2, h3, h4, h5, h6, e⟩
  obtain ⟨F, hF⟩ := uH ns
  unfold cY
  walk_at "ev"
  rw [(hF a (by omega)).2.2]
  walk_at "go"
  generalize F a = c0
  obtain ⟨w0, ew, hw0⟩ := su c0 (m := 4) (by decide)
  obtain ⟨w, hw⟩ : ∃ w, w = 1 + w0 := ⟨_, rfl⟩
  obtain ⟨np, enp, hnp⟩ := su (c0 / 4) (m := 4) (by decide)
  obtain ⟨nc, enc, hnc⟩ := su (c0 / 16) (m := 5) (by decide)
  rw [ew, show (1 : Int) + (w0 : Nat) = ((w : Nat) : Int) by omega, enp, cH (by omega)]
  walk_at "ev"
  have hwi : (0 : Int) < w := by omega
  have pk : ∀ k, (F k / 3 % w).toNat < w := fun k => by
    have := Int.emod_lt_of_pos (F k / 3) hwi
    have := Int.emod_nonneg (F k / 3) (show (w : Int) ≠ 0 by omega)
    omega
  refine jN (fun i Γ => ∃ ps : List FPt, Γ = [some (dL ns), some (.int (a : Nat)), some (.list (Rs.map dRl)), some (.int c0), some (.int (w : Nat)), some (.list (ps.map FPt.d)), none, none, none] ∧ ps.length = i ∧ ∀ p ∈ ps, (p.w, p.rs) ∈ Rs ∧ p.cs.length = p.w ∧ ∀ c ∈ p.cs, c < w) ⟨[], rfl, rfl, fun p hp => nomatch hp⟩ (fun i x Γ hx hI => ?_) fun Γ hI => ?_
  · obtain ⟨ps, rfl, hpl, hps⟩ := hI
    obtain ⟨hi, rfl⟩ := iG hx
    obtain ⟨t, et, ht⟩ := su (F (a + 1 + i) / 3) (m := ((Rs.length : Nat) : Int)) (by omega)
    have ht' : t < Rs.length := by omega
    walk_at "ev"
    rw [show ((a : Nat) : Int) + 1 + (i : Nat) = ((a + 1 + i : Nat) : Int) by omega, (hF (a + 1 + i) (by omega)).2.2]
    walk_at "go"
    rw [et, Ou ht']
    have hRt := hR Rs[t] (List.getElem_mem ht')
    have hRm : Rs[t] ∈ Rs := List.getElem_mem ht'
    generalize hS : Rs[t] = S at hRt hRm
    walk_at "ev"
    rw [jA (n := S.1) (fun k => .int (((F (a + 4 + 4 * i + k) / 3 % w).toNat : Nat) : Int)) ?_ (size_le (by omega)) fun k hk => ?_]
    · walk_at "ev"
      rw [bc (size_le (by omega))]
      walk_at "ev"
      refine ⟨ps ++ [⟨S.1, S.2, (List.range S.1).map fun k => (F (a + 4 + 4 * i + k) / 3 % w).toNat⟩], ?_, by simp; omega, fun p hp => ?_⟩
      · have ed : FPt.d ⟨S.1, S.2, (List.range S.1).map fun k => (F (a + 4 + 4 * i + k) / 3 % w).toNat⟩ = .tuple [dRl S, .tuple ((List.range S.1).map fun k => .int (((F (a + 4 + 4 * i + k) / 3 % w).toNat : Nat) : Int))] := by
          unfold FPt.d dN
          rw [List.map_map]
          rfl
        rw [List.map_append, List.map_cons, List.map_nil, ed]
      · rcases List.mem_append.mp hp with hp | hp
        · exact hps p hp
        · rw [List.mem_singleton.mp hp]
          refine ⟨hRm, by simp, fun c hc => ?_⟩
          obtain ⟨k, _, rfl⟩ := List.mem_map.mp hc
          exact pk _
    · unfold dRl dg
      walk_at "ev"
      rw [cH (by omega)]
    · walk_at "go"
      rw [show ((a : Nat) : Int) + 4 + 4 * (i : Nat) + (k : Nat) = ((a + 4 + 4 * i + k : Nat) : Int) by omega, (hF (a + 4 + 4 * i + k) (by omega)).2.2]
      walk_at "go"
      rw [Int.toNat_of_nonneg (Int.emod_nonneg _ (by omega))]
  · obtain ⟨ps, rfl, hpl, hps⟩ := hI
    rw [d9] at hpl
    walk_at "ev"
    rw [jA (n := nc) (fun k => .int (((F (a + 16 + k) / 3 % w).toNat : Nat) : Int)) ?_ (size_le (by omega)) fun k hk => ?_]
    · walk_at "ev"
      refine ⟨w, ps, (List.range nc).map fun k => (F (a + 16 + k) / 3 % w).toNat, ⟨by omega, by omega, hps, by omega, by simp; omega, fun c hc => ?_⟩, ?_⟩
      · obtain ⟨k, _, rfl⟩ := List.mem_map.mp hc
        exact pk _
      · unfold dN
        rw [List.map_map]
        rfl
    · walk_at "go"
      rw [enc, cH (by omega)]
    · walk_at "ev"
      rw [show ((a : Nat) : Int) + 16 + (k : Nat) = ((a + 16 + k : Nat) : Int) by omega, (hF (a + 16 + k) (by omega)).2.2]
      walk_at "go"
      rw [Int.toNat_of_nonneg (Int.emod_nonneg _ (by omega))]
theorem rn {Rs : List Rl} {W : Rl} (hW : xq W.1 W.2) (hR : ∀ R ∈ Rs, oR W.2.length R ∧ RlB R) (hl : Rs.length ≤ 4) (h : (bR Rs W.2.length).find? (bad W.1 W.2) = none) : bY [.list (Rs.map dRl), dRl W] = .ok (.bool true) := by
  unfold bY
  walk_at "ev"
  rw [show jt [.list (Rs.map dRl), dRl W] = _ from Gm hW.n3 hW.w8 (fun R hr => (hR R hr).1) (by omega)]
  walk_at "ev"
  rw [show eO [oV Rs W.1 W.2, .list (Rs.map dRl), dRl W] = _ from Dq hW hR hl fun _ => Iff.rfl]
  walk_at "ev"
  rw [CJ, h, if_neg (by decide)]
  walk_at "ev"
  rw [Ds]
  rfl
theorem N8 {ds : List PyData} {d : PyData} : ixD (.list (ds ++ [d])) (.int (-1)) = .ok d := by
  show (match L2.atI (ds ++ [d]) (-1) with | some d => Res.ok d | none => .bad) = _
  have e : L2.atI (ds ++ [d]) (-1) = some d := by
    unfold L2.atI L2.ixN
    rw [if_neg (by decide), if_pos (by simp; omega)]
    show (ds ++ [d])[((-1 : Int) + ((ds ++ [d]).length : Nat)).toNat]? = some d
    rw [show ((-1 : Int) + ((ds ++ [d]).length : Nat)).toNat = ds.length by rw [List.length_append, List.length_singleton]; omega]
    simp
  rw [e]
theorem wg {Rs : List Rl} {w : Nat} {ps : List FPt} {cs : List Nat} (hw : w ≤ 4) (hR : ∀ R ∈ Rs, R.1 ≤ 4 ∧ R.2.length ≤ 16) (hp : ∀ p ∈ ps, (p.w, p.rs) ∈ Rs ∧ p.cs.length = p.w ∧ ∀ c ∈ p.cs, c < w) (hc : cs.length ≤ 4) (hb : ∀ c ∈ cs, c < w) :
    dZ [.tuple [.int (w : Nat), .tuple (ps.map FPt.d), .tuple (dN cs)]] = .ok (dRl (cs.length, eY w ps cs)) ∧ cZ [.tuple [.int (w : Nat), .tuple (ps.map FPt.d), .tuple (dN cs)]] = .ok (dRl (cs.length, eY w ps cs)) :=
  ⟨Fx (by omega) (fun p h => ⟨Nat.le_trans (show p.w ≤ 4 from (hR _ (hp p h).1).1) (by decide), (hR _ (hp p h).1).2, (hp p h).2.1, (hp p h).2.2⟩) (by omega) hb,
   pP (by omega) (fun p h => ⟨Nat.le_trans (show p.rs.length ≤ 16 from (hR _ (hp p h).1).2) (by decide), by have := (hp p h).2.1; have : p.w ≤ 4 := (hR _ (hp p h).1).1; omega⟩) (by omega)⟩
theorem zZ {m : Nat} {b : Int} {W : Rl} (hm : m ≤ 2) (hl : W.2.length ≤ 16) (hw : W.1 ≤ 4) (hk : dW b m W = true) : eF [dG m b, dRl W] = .ok (.bool true) ∧ jU [dG m b, dRl W] = .ok (.bool true) := by
  constructor
  · rw [Ak (by omega) hl (by omega), hk]
  · have hp : W.2.length ^ m ≤ 20000 := Nat.le_trans (Nat.pow_le_pow_left hl m) (Nat.le_trans (Nat.pow_le_pow_right (by decide) hm) (by decide))
    rw [show jU [dG m b, dRl W] = _ from JG hl (by omega) hp (by omega), Ie]
    rw [show ((d8 W.2 m).all fun c => decide (bW b c W.1 ∈ W.2)) = true from hk]
noncomputable def smB (W : Rl) : Bool := decide (((W.1 : Nat) : Int) ≤ 4) && decide (((W.2.length : Nat) : Int) ≤ 3)
theorem main (ns : List Int) (h : ns.length ≤ 63) : nC [.list (ns.map PyData.int)] = .ok (.bool true) := by
  show nC [dL ns] = _
  suffices hg : Gives (nC [dL ns]) (· = .bool true) by
    obtain ⟨d, e, rfl⟩ := hg
    exact e
  obtain ⟨F, hF⟩ := uH ns
  obtain ⟨Rs, hl, hl0, hR, eR⟩ := zK ns
  have hRa : ∀ R ∈ Rs, R.1 ≤ 4 ∧ R.2.length ≤ 16 := fun R h => ⟨(hR R h).1.w4, (hR R h).1.l⟩
  have hRo : ∀ n, n ≤ 3 → ∀ R ∈ Rs, oR n R ∧ RlB R := fun n hn R h => ⟨⟨(hR R h).1.w4, (hR R h).1.l, Nat.le_trans (Nat.pow_le_pow_left (hR R h).2 _) (Nat.le_trans (Nat.pow_le_pow_right (by decide) hn) (by decide))⟩, (hR R h).1.b⟩
  unfold nC
  walk_at "ev"
  rw [eR]
  walk_at "ev"
  refine jN (xs := [.int 20, .int 41]) (fun i Γ => ∃ Ws : List Rl, Γ = [some (dL ns), some (.list (Rs.map dRl)), some (.list (Ws.map dRl)), none, none, none, none, none, none] ∧ Ws.length = i ∧ ∀ W ∈ Ws, Md Rs W) ⟨[], rfl, rfl, fun W h => nomatch h⟩ (fun i x Γ hx hI => ?_) fun Γ hI => ?_
  · obtain ⟨Ws, rfl, hWl, hWs⟩ := hI
    have : ∃ a : Nat, x = .int (a : Nat) ∧ a ≤ 41 := by
      match i, hx with
      | 0, hx => exact ⟨20, (Option.some.inj hx).symm, by decide⟩
      | 1, hx => exact ⟨41, (Option.some.inj hx).symm, by decide⟩
    obtain ⟨a, rfl, ha⟩ := this
    have hi : i < 2 := (List.getElem?_eq_some_iff.mp hx).1
    obtain ⟨w, ps, cs, w1, w4, hp, hpl, hc, hb, ef⟩ := vy ns (a := a) (Rs := Rs) (by omega) (by omega) (by omega) hRa
    obtain ⟨et, er⟩ := wg w4 hRa hp hc hb
    walk_at "ev"
    rw [ef]
    walk_at "ev"
    rw [et]
    walk_at "ev"
    rw [bc (size_le (by omega))]
    walk_at "ev"
    rw [er]
    walk_at "ev"
    rw [show Iu (.int 1) = .ok (.int (-1)) from rfl]
    walk_at "ev"
    rw [N8]
    walk_at "ev"
    rw [GC (lu _ _) (nu _ _)]
    walk_at "ev"
    refine ⟨Ws ++ [(cs.length, eY w ps cs)], by rw [List.map_append]; rfl, by simp; omega, fun W hW => ?_⟩
    rcases List.mem_append.mp hW with hW | hW
    · exact hWs W hW
    · rw [List.mem_singleton.mp hW]
      exact ⟨w, ps, cs, hp, hc, hb, rfl⟩
  obtain ⟨Ws, rfl, hWl, hWs⟩ := hI
  have hWl : Ws.length = 2 := hWl
  have hWa : ∀ W ∈ Ws, W.1 ≤ 4 ∧ W.2.length ≤ 16 := fun W h => ⟨(hWs W h).w4, (hWs W h).l⟩
  obtain ⟨w, ps, cs, w1, w4, hp, hpl, hc, hb, ef⟩ := vy ns (a := 20) (Rs := Ws) (by omega) (by omega) (by omega) hWa
  obtain ⟨et, _⟩ := wg w4 hWa hp hc hb
  walk_at "ev"
  rw [show cY [dL ns, .int 20, .list (Ws.map dRl)] = _ from ef]
  walk_at "ev"
  rw [et]
  have h3 : Md Ws (cs.length, eY w ps cs) := ⟨w, ps, cs, hp, hc, hb, rfl⟩
  generalize (cs.length, eY w ps cs) = W3 at h3
  clear et ef hp hb hpl
  walk_at "ev"
  rw [pL (xs := Ws) dRl smB dRl ?_ (size_le (by omega)) (fun W _ => ?_) fun W _ _ => ?_]
  rotate_left
  · walk_at "ev"
  · unfold dRl dg
    walk_at "ev"
    rw [show b7 [dR W.2] = .ok (.int (W.2.length : Nat)) by unfold dR; rw [iT, List.length_map]]
    walk_at "ev"
    rw [Ms, Lf]
    rfl
  · walk_at "ev"
  generalize hSm : Ws.filter smB = Sm
  have hSs : ∀ S ∈ Sm, S ∈ Ws := fun S h => by rw [← hSm] at h; exact (List.mem_filter.mp h).1
  have hSb : ∀ S ∈ Sm, S.2.length ≤ 3 := fun S h => by
    rw [← hSm] at h
    have := (List.mem_filter.mp h).2
    unfold smB at this
    rw [Bool.and_eq_true] at this
    have := of_decide_eq_true this.2
    omega
  have hSl : Sm.length ≤ 2 := by rw [← hSm, ← hWl]; exact List.length_filter_le _ _
  walk_at "ev"
  rw [o8 (by rw [List.length_map, List.length_singleton]; omega), show Sm.map dRl ++ [dRl W3] = (Sm ++ [W3]).map dRl by rw [List.map_append]; rfl]
  walk_at "ev"
  have wok : ∀ {Qs : List Rl} {W : Rl}, Md Qs W → W.2.length ≤ 3 → xq W.1 W.2 := fun hm h3 => ⟨by have := hm.w4; omega, h3, hm.b, hm.s, hm.d⟩
  have lenW : ∀ W : Rl, b7 [dR W.2] = .ok (.int (W.2.length : Nat)) := fun W => by unfold dR; rw [iT, List.length_map]
  have tm : ∀ W : Rl, (∃ Qs, Md Qs W) → (bR Rs W.2.length).find? (bad W.1 W.2) = none → W.2.length ≤ 3 → bY [.list (Rs.map dRl), dRl W] = .ok (.bool true) := fun W hm hn h3 => by
    obtain ⟨Qs, hm⟩ := hm
    exact rn (wok hm h3) (hRo _ h3) (by omega) hn
  refine jN (fun _ Γ => Γ = [some (dL ns), some (.list (Rs.map dRl)), some (.list (Ws.map dRl)), none, none, some (dRl W3), some (.list (Sm.map dRl)), none, none]) rfl (fun i x Γ hx hI => ?_) fun Γ hI => ?_
  · subst hI
    obtain ⟨W, eW, rfl⟩ := cV hx
    have hok : (∃ Qs, Md Qs W) ∧ (bR Rs W.2.length).find? (bad W.1 W.2) = none := by
      rcases List.mem_append.mp (List.mem_of_getElem? eW) with hW | hW
      · exact ⟨⟨Rs, hWs W (hSs W hW)⟩, (hWs W (hSs W hW)).none⟩
      · rw [List.mem_singleton.mp hW]
        exact ⟨⟨Ws, h3⟩, vZ fun b hb => h3.mono hWs (lB.mp hb).2⟩
    have tmW := tm W hok.1 hok.2
    unfold dRl dg at tmW ⊢
    walk_at "ev"
    rw [lenW W]
    walk_at "ev"
    by_cases c3 : W.2.length ≤ 3
    · rw [decide_eq_true (by omega)]
      walk_at "ev"
      rw [tmW c3]
      walk_at "ev"
    · rw [decide_eq_false (by omega)]
      walk_at "ev"
  subst hI
  have two : bY [.list (Sm.map dRl), dRl W3] = .ok (.bool true) ∨ Sm.length ≠ 2 ∨ ¬ W3.2.length ≤ 3 := by
    by_cases c2 : Sm.length = 2
    · by_cases c3 : W3.2.length ≤ 3
      · left
        have hall : Sm = Ws := by
          rw [← hSm]
          exact List.filter_eq_self.mpr (List.length_filter_eq_length_iff.mp (by rw [hSm, c2, hWl]))
        refine rn (wok h3 c3) (fun S hS => ⟨⟨(hWs S (hSs S hS)).w4, (hWs S (hSs S hS)).l, Nat.le_trans (Nat.pow_le_pow_left (hSb S hS) _) (Nat.le_trans (Nat.pow_le_pow_right (by decide) c3) (by decide))⟩, (hWs S (hSs S hS)).b⟩) (by omega) ?_
        rw [hall]
        exact h3.none
      · exact .inr (.inr c3)
    · exact .inr (.inl c2)
  walk_at "ev"
  rw [show ixD (dRl W3) (.int 1) = .ok (dR W3.2) from rfl]
  walk_at "ev"
  rw [lenW W3]
  walk_at "ev"
  have skip : ∀ (y : Res PyData), (bY [.list (Sm.map dRl), dRl W3] = .ok (.bool true) → y = .ok (.bool false)) → bT (.bool (decide (((Sm.length : Nat) : Int) = 2))) (bT (.bool (decide (((W3.2.length : Nat) : Int) ≤ 3))) y (.ok (.bool false))) (.ok (.bool false)) = .ok (.bool false) := fun y hy => by
    rcases two with z | z | z
    · rw [hy z]
      cases decide (((Sm.length : Nat) : Int) = 2) <;> cases decide (((W3.2.length : Nat) : Int) ≤ 3) <;> rfl
    · rw [decide_eq_false (by omega)]; rfl
    · rw [decide_eq_false (show ¬ ((W3.2.length : Nat) : Int) ≤ 3 by omega)]
      cases decide (((Sm.length : Nat) : Int) = 2) <;> rfl
  rw [skip _ fun z => by rw [z]; rfl]
  walk_at "ev"
  rw [show bF [dL ns, .int 1] = .ok (.int (F 1)) from (hF 1 (by decide)).2.2]
  walk_at "go"
  obtain ⟨m, b, hm, _, _, eg⟩ := PB (F 1 / 3) (k := 2) (by decide)
  rw [show iV [.int (F 1 / 3), .int 2] = _ from eg]
  walk_at "ev"
  rw [uy (by omega) fun R h => ⟨(hRa R h).2, by have := (hRa R h).1; omega⟩]
  cases hk : Rs.all fun R => dW b m R with
  | false => walk_at "ev"
  | true =>
    have hk := List.all_eq_true.mp hk
    walk_at "ev"
    rw [o8 (by rw [List.length_map, List.length_singleton]; omega), show Ws.map dRl ++ [dRl W3] = (Ws ++ [W3]).map dRl by rw [List.map_append]; rfl]
    walk_at "ev"
    refine jN (fun _ Γ => Γ = [some (dL ns), some (.list (Rs.map dRl)), some (.list (Ws.map dRl)), none, none, some (dRl W3), some (.list (Sm.map dRl)), none, some (dG m b)]) rfl (fun i x Γ hx hI => ?_) fun Γ hI => ?_
    · subst hI
      obtain ⟨W, eW, rfl⟩ := cV hx
      have hok : dW b m W = true ∧ W.2.length ≤ 16 ∧ W.1 ≤ 4 := by
        rcases List.mem_append.mp (List.mem_of_getElem? eW) with hW | hW
        · exact ⟨(hWs W hW).keeps hk, (hWs W hW).l, (hWs W hW).w4⟩
        · rw [List.mem_singleton.mp hW]
          exact ⟨h3.mono hWs hk, h3.l, h3.w4⟩
      obtain ⟨k1, k2⟩ := zZ hm hok.2.1 hok.2.2 hok.1
      walk_at "ev"
      rw [k1]
      walk_at "ev"
      rw [k2]
      walk_at "ev"
    · subst hI
      walk_at "ev"
end Law
namespace Law
open PySem PySem.Spec PyProof.Rows L2 L3 Prog
noncomputable def top (i : Nat) : Stmt := PySem.Challenge.pw_gatekin_k65_whole_made_again.main.body.getD i (.Pass ⟨0, 0, 0, 0⟩)
noncomputable abbrev gU : Stmt := top 4
noncomputable abbrev qL : Stmt := top 5
noncomputable abbrev gP : Stmt := top 6
noncomputable abbrev jC : Stmt := top 7
noncomputable abbrev iW : Stmt := top 10
noncomputable abbrev jY : Stmt := top 11
noncomputable abbrev iD : Stmt := top 12
noncomputable abbrev mj : Stmt := top 13
noncomputable abbrev gm : Stmt := top 14
noncomputable abbrev iR : Stmt := top 15
noncomputable abbrev j5 : Stmt := top 16
noncomputable abbrev mC : Stmt := top 17
noncomputable abbrev fY : Stmt := top 19
noncomputable abbrev jV : Stmt := top 20
noncomputable abbrev dw : Stmt := top 21
noncomputable abbrev fG : Stmt := top 22
noncomputable abbrev mq : Stmt := top 28
noncomputable abbrev jZ : Stmt := top 29
noncomputable abbrev eU : Stmt := top 30
noncomputable abbrev dO : Stmt := top 31
noncomputable abbrev jw : Stmt := top 32
noncomputable abbrev jy : Stmt := top 33
noncomputable abbrev iI : Stmt := top 35
noncomputable abbrev iM : Stmt := top 36
noncomputable abbrev jB : Stmt := top 37
noncomputable abbrev gQ : Stmt := top 38
noncomputable abbrev gR : Stmt := top 39
noncomputable abbrev eN : Stmt := top 40
noncomputable abbrev iC : Stmt := top 41
noncomputable abbrev iK : Stmt := top 42
noncomputable abbrev gW : Stmt := top 43
noncomputable abbrev cz : Stmt := top 44
noncomputable abbrev du : Stmt := top 45
noncomputable abbrev eQ : Stmt := top 46
noncomputable abbrev dI : Stmt := top 47
noncomputable abbrev fD : Stmt := top 48
noncomputable abbrev dM : Stmt := top 49
noncomputable abbrev lO : Stmt := top 50
theorem jR : aV ["inputs", "count", "j"] ["inputs"] (au gU) := ⟨rfl, rfl, rfl, by decide +kernel, rfl, by decide +kernel, by decide +kernel⟩
theorem P0 : aV ["number", "place"] ["number", "place"] (au qL) := ⟨rfl, rfl, rfl, by decide +kernel, rfl, by decide +kernel, by decide +kernel⟩
theorem jJ : aV ["figures", "number", "figure"] ["figures"] (au gP) := ⟨rfl, rfl, rfl, by decide +kernel, rfl, by decide +kernel, by decide +kernel⟩
theorem lR : aV ["gate", "numbers", "full", "given", "number"] ["gate", "numbers", "full"] (au jC) := ⟨rfl, rfl, rfl, by decide +kernel, rfl, by decide +kernel, by decide +kernel⟩
theorem zR : aV ["width", "rows"] ["width", "rows"] (au iW) := ⟨rfl, rfl, rfl, by decide +kernel, rfl, by decide +kernel, by decide +kernel⟩
theorem qC : aV ["rows", "marks", "row"] ["rows"] (au jY) := ⟨rfl, rfl, rfl, by decide +kernel, rfl, by decide +kernel, by decide +kernel⟩
theorem zN : aV ["gate", "rows", "width"] ["gate", "rows", "width"] (au iD) := ⟨rfl, rfl, rfl, by decide +kernel, rfl, by decide +kernel, by decide +kernel⟩
theorem pF : aV ["base", "exponent", "product", "j"] ["base", "exponent"] (au mj) := ⟨rfl, rfl, rfl, by decide +kernel, rfl, by decide +kernel, by decide +kernel⟩
theorem wG : aV ["count", "gates"] ["count", "gates"] (au gm) := ⟨rfl, rfl, rfl, by decide +kernel, rfl, by decide +kernel, by decide +kernel⟩
theorem fV : aV ["choices", "lists", "rows", "longer", "chosen", "row"] ["choices"] (au iR) := ⟨rfl, rfl, rfl, by decide +kernel, rfl, by decide +kernel, by decide +kernel⟩
theorem lA : aV ["gate", "relation", "width", "rows", "marks", "chosen"] ["gate", "relation"] (au j5) := ⟨rfl, rfl, rfl, by decide +kernel, rfl, by decide +kernel, by decide +kernel⟩
theorem Hy : aV ["gate", "relation"] ["gate", "relation"] (au mC) := ⟨rfl, rfl, rfl, by decide +kernel, rfl, by decide +kernel, by decide +kernel⟩
theorem wF : aV ["row", "columns"] ["row", "columns"] (au fY) := ⟨rfl, rfl, rfl, by decide +kernel, rfl, by decide +kernel, by decide +kernel⟩
theorem Ex : aV ["relation", "columns"] ["relation", "columns"] (au jV) := ⟨rfl, rfl, rfl, by decide +kernel, rfl, by decide +kernel, by decide +kernel⟩
theorem lM : aV ["rows", "part", "marks"] ["rows", "part"] (au dw) := ⟨rfl, rfl, rfl, by decide +kernel, rfl, by decide +kernel, by decide +kernel⟩
theorem iY : aV ["formula", "rows", "part"] ["formula"] (au fG) := ⟨rfl, rfl, rfl, by decide +kernel, rfl, by decide +kernel, by decide +kernel⟩
theorem HJ : aV ["rows", "column"] ["rows", "column"] (au mq) := ⟨rfl, rfl, rfl, by decide +kernel, rfl, by decide +kernel, by decide +kernel⟩
theorem FZ : aV ["rows", "width"] ["rows", "width"] (au jZ) := ⟨rfl, rfl, rfl, by decide +kernel, rfl, by decide +kernel, by decide +kernel⟩
theorem m5 : aV ["relations", "inputs", "given"] ["relations", "inputs"] (au eU) := ⟨rfl, rfl, rfl, by decide +kernel, rfl, by decide +kernel, by decide +kernel⟩
theorem gH : aV ["relations", "inputs", "parts", "given", "chosen"] ["relations", "inputs"] (au dO) := ⟨rfl, rfl, rfl, by decide +kernel, rfl, by decide +kernel, by decide +kernel⟩
theorem tY : aV ["relations", "inputs", "width"] ["relations", "inputs"] (au jw) := ⟨rfl, rfl, rfl, by decide +kernel, rfl, by decide +kernel, by decide +kernel⟩
theorem jF : aV ["relations", "wish", "rows", "inputs", "columns", "bits"] ["relations", "wish"] (au jy) := ⟨rfl, rfl, rfl, by decide +kernel, rfl, by decide +kernel, by decide +kernel⟩
theorem zj : aV ["_law_script", "_law_k"] ["_law_script", "_law_k"] (au iI) := ⟨rfl, rfl, rfl, by decide +kernel, rfl, by decide +kernel, by decide +kernel⟩
theorem kO : aV ["_law_cell_here", "_law_most", "_law_inputs", "_law_some"] ["_law_cell_here", "_law_most"] (au iM) := ⟨rfl, rfl, rfl, by decide +kernel, rfl, by decide +kernel, by decide +kernel⟩
theorem gB : aV ["_law_gate_here", "_law_some", "_law_width", "_law_row", "_law_j", "_law_number", "_law_k"] ["_law_gate_here", "_law_some", "_law_width"] (au jB) := ⟨rfl, rfl, rfl, by decide +kernel, rfl, by decide +kernel, by decide +kernel⟩
theorem fB : aV ["_law_rows", "_law_many", "_law_found", "_law_k", "_law_further", "_law_one", "_law_row"] ["_law_rows", "_law_many"] (au gQ) := ⟨rfl, rfl, rfl, by decide +kernel, rfl, by decide +kernel, by decide +kernel⟩
theorem qu : aV ["_law_gate_here", "_law_kept", "_law_some"] ["_law_gate_here", "_law_kept"] (au gR) := ⟨rfl, rfl, rfl, by decide +kernel, rfl, by decide +kernel, by decide +kernel⟩
theorem m8 : aV ["_law_gate_here", "_law_relations_here", "_law_kept"] ["_law_gate_here", "_law_relations_here"] (au eN) := ⟨rfl, rfl, rfl, by decide +kernel, rfl, by decide +kernel, by decide +kernel⟩
theorem zc : aV ["_law_number", "_law_width"] ["_law_number", "_law_width"] (au iC) := ⟨rfl, rfl, rfl, by decide +kernel, rfl, by decide +kernel, by decide +kernel⟩
theorem cC : aV ["_law_formula_here", "_law_width", "_law_parts", "_law_columns", "_law_rows", "_law_number", "_law_bits_here", "_law_good", "_law_kept", "_law_picks"] ["_law_formula_here"] (au iK) := ⟨rfl, rfl, rfl, by decide +kernel, rfl, by decide +kernel, by decide +kernel⟩
theorem yH : aV ["_law_found"] ["_law_found"] (au gW) := ⟨rfl, rfl, rfl, by decide +kernel, rfl, by decide +kernel, by decide +kernel⟩
theorem bM : aV ["_law_formula_here", "_law_relations_here", "_law_wish", "_law_width", "_law_parts", "_law_columns", "_law_part", "_law_some", "_law_pick"] ["_law_formula_here", "_law_relations_here", "_law_wish"] (au cz) := ⟨rfl, rfl, rfl, by decide +kernel, rfl, by decide +kernel, by decide +kernel⟩
theorem qU : aV ["_law_gate_here", "_law_rows", "_law_relations_here", "_law_wish"] ["_law_gate_here", "_law_rows", "_law_relations_here", "_law_wish"] (au du) := ⟨rfl, rfl, rfl, by decide +kernel, rfl, by decide +kernel, by decide +kernel⟩
theorem tU : aV ["_law_found", "_law_relations_here", "_law_wish"] ["_law_found", "_law_relations_here", "_law_wish"] (au eQ) := ⟨rfl, rfl, rfl, by decide +kernel, rfl, by decide +kernel, by decide +kernel⟩
theorem cJ : aV ["_law_script", "_law_found", "_law_k", "_law_cell_here", "_law_width", "_law_rows", "_law_j"] ["_law_script"] (au dI) := ⟨rfl, rfl, rfl, by decide +kernel, rfl, by decide +kernel, by decide +kernel⟩
theorem dz : aV ["_law_script", "_law_at", "_law_relations_here", "_law_cell_here", "_law_width", "_law_parts", "_law_k", "_law_kept", "_law_columns"] ["_law_script", "_law_at", "_law_relations_here"] (au fD) := ⟨rfl, rfl, rfl, by decide +kernel, rfl, by decide +kernel, by decide +kernel⟩
theorem mQ : aV ["_law_relations_here", "_law_wish", "_law_found"] ["_law_relations_here", "_law_wish"] (au dM) := ⟨rfl, rfl, rfl, by decide +kernel, rfl, by decide +kernel, by decide +kernel⟩
theorem jf : aV ["_law_script", "_law_relations_here", "_law_wishes", "_law_at", "_law_formula_here", "_law_third", "_law_small", "_law_wish", "_law_gate_here"] ["_law_script"] (au lO) := ⟨rfl, rfl, rfl, by decide +kernel, rfl, by decide +kernel, by decide +kernel⟩
section
variable {P : Program} {w : World} {K : PySem.W.Frag} {mg : Str → Option Value} {base : Heap}
theorem yd (F : At K mg "row_count" gU ["inputs"]) (z_range : mg "range" = none) : Def P w K mg base 1 "row_count" ["inputs"] (spF K [.bor] .f bU) :=
  bA (N := ["inputs", "count", "j"]) (fs := [.bor]) (O := [.bor, .imm, .imm]) (O' := []) (Ol := []) (rm := .f) F jR rfl (by decide) (by decide) fun f cdv A outer s H E hr =>
  (aC (O1 := [.bor, .imm, .imm]) (bf 1 jR.nd rfl (Or.inl rfl) aq)
    (aC (O1 := [.bor, .imm, .imm]) (bD PassesOwn.never rfl [2] (Oe := [.bor, .imm, .imm]) (fK rfl z_range (aj 0)) (aN 2 jR.nd rfl (Or.inl rfl)) (aD (bf 1 jR.nd rfl (Or.inl rfl) (aG gK (sp aq) (aj 1)))) (by decide))
    (aD (aW (bx 1)))))
theorem PK (F : At K mg "bit" qL ["number", "place"]) : Def P w K mg base 1 "bit" ["number", "place"] (spF K [.bor, .bor] .f lY) :=
  bA (N := ["number", "place"]) (fs := [.bor, .bor]) (O := [.bor, .bor]) (O' := []) (Ol := []) (rm := .f) F P0 rfl (by decide) (by decide) fun f cdv A outer s H E hr =>
  (aD (aW (aG oE (sp (aG uf (aj 0) (aj 1))) (sp aq))))
theorem xR (F : At K mg "number_of" gP ["figures"]) (z_reversed : mg "reversed" = none) : Def P w K mg base 1 "number_of" ["figures"] (spF K [.bor] .f fW) :=
  bA (N := ["figures", "number", "figure"]) (fs := [.bor]) (O := [.bor, .imm, .imm]) (O' := []) (Ol := []) (rm := .f) F jJ rfl (by decide) (by decide) fun f cdv A outer s H E hr =>
  (aC (O1 := [.bor, .imm, .imm]) (bf 1 jJ.nd rfl (Or.inl rfl) aq)
    (aC (O1 := [.bor, .imm, .imm]) (bD PassesOwn.never rfl [2] (Oe := [.bor, .imm, .imm]) (MN rfl z_reversed (fM 0)) (aN 2 jJ.nd rfl (Or.inl rfl)) (aD (bf 1 jJ.nd rfl (Or.inl rfl) (aG bQ (sp (aG gK (sp aq) (aj 1))) (aj 2)))) (by decide))
    (aD (aW (bx 1)))))
theorem Cw (F : At K mg "put_all" jC ["gate", "numbers", "full"]) (d_bit : Def P w K mg base 1 "bit" ["number", "place"] (spF K [.bor, .bor] .f lY)) (d_row_count : Def P w K mg base 1 "row_count" ["inputs"] (spF K [.bor] .f bU)) (z_len : mg "len" = none) (z_range : mg "range" = none) : Def P w K mg base 2 "put_all" ["gate", "numbers", "full"] (spF K [.bor, .bor, .bor] .f lq) :=
  bA (N := ["gate", "numbers", "full", "given", "number"]) (fs := [.bor, .bor, .bor]) (O := [.bor, .bor, .bor, .imm, .imm]) (O' := []) (Ol := []) (rm := .f) F lR rfl (by decide) (by decide) fun f cdv A outer s H E hr =>
  (aC (O1 := [.bor, .bor, .bor, .imm, .imm]) (bf 3 lR.nd rfl (Or.inr rfl) (sfe (dj ["place"] [2, 0] (Ob := [.imm, .bor, .bor]) (O1 := [.imm, .bor, .bor]) (is := [0]) rfl rfl rfl rfl (by decide) (ik rfl z_range (sp (aJ d_row_count (hr.mono (by decide)) rfl (ao (sp (aR (aj 0) (sp aq) (fun _ _ => rfl))) aA)))) (fun _ _ _ _ _ => (aN 0 (show List.Nodup (["place", "full", "gate"] : List Str) by decide +kernel) rfl (Or.inl rfl))) (fun _ _ _ _ _ => cR) (fun _ _ _ _ _ => (aG gK (aj 1) (sp (aJ d_bit (hr.mono (by decide)) rfl (ao (sp (aR (aj 2) (sp aq) (fun _ _ => rfl))) (ao (aj 0) aA)))))))))
    (aC (O1 := [.bor, .bor, .bor, .imm, .imm]) (bD PassesOwn.never rfl [4] (Oe := [.bor, .bor, .bor, .imm, .imm]) (cj (fM 1)) (aN 4 lR.nd rfl (Or.inr rfl)) (aD (bf 3 lR.nd rfl (Or.inr rfl) (sfe (dj ["k"] [3, 4] (Ob := [.imm, .imm, .imm]) (O1 := [.imm, .imm, .imm]) (is := [0]) rfl rfl rfl rfl (by decide) (Ed rfl z_range (sp aq) (sp (bu bZ rfl z_len (show bootBuiltins "len" = some (.builtin "len") by decide +kernel) (ao (aj 3) aA))) (sp aq)) (fun _ _ _ _ _ => (aN 0 (show List.Nodup (["k", "given", "number"] : List Str) by decide +kernel) rfl (Or.inl rfl))) (fun _ _ _ _ _ => cR) (fun _ _ _ _ _ => (aG QQ (sp (aG oE (sp (aR (aj 1) (aj 0) (fun _ _ => rfl))) (sp (O8 (aj 2))))) (sp (aG oE (sp (aR (aj 1) (sp (aG bQ (aj 0) (sp aq))) (fun _ _ => rfl))) (aj 2))))))))) (by decide))
    (aD (aW (aR (aj 3) (sp aq) (fun _ _ => rfl))))))
theorem zp (F : At K mg "gathered" iW ["width", "rows"]) (z_set : mg "set" = none) (z_sorted : mg "sorted" = none) (z_tuple : mg "tuple" = none) : Def P w K mg base 1 "gathered" ["width", "rows"] (spF K [.imm, .bor] .f jQ) :=
  bA (N := ["width", "rows"]) (fs := [.imm, .bor]) (O := [.imm, .bor]) (O' := []) (Ol := []) (rm := .f) F zR rfl (by decide) (by decide) fun f cdv A outer s H E hr =>
  (aD (aW (gh (aL (bx 0) (aL (fH gr rfl z_tuple (show bootBuiltins "tuple" = some (.type "tuple") by decide +kernel) (ao (sfp (Ea rfl rfl z_sorted rfl z_set (aj 1))) aA)) bB)))))
theorem Fd (F : At K mg "marked" jY ["rows"]) : Def P w K mg base 1 "marked" ["rows"] (spF K [.bor] .t jr) :=
  bA (N := ["rows", "marks", "row"]) (fs := [.bor]) (O := [.bor, .own, .imm]) (O' := []) (Ol := []) (rm := .t) F qC rfl (by decide) (by decide) fun f cdv A outer s H E hr =>
  (aC (O1 := [.bor, .own, .imm]) (iU 1 qC.nd rfl (Or.inl rfl) vf)
    (aC (O1 := [.bor, .own, .imm]) (bD PassesOwn.never rfl [2] (Oe := [.bor, .own, .imm]) (cj (fM 0)) (aN 2 qC.nd rfl (Or.inl rfl)) (aD (uQ 1 hr.gO (bx 2) cO)) (by decide))
    (aD (Ao 1))))
theorem zE (F : At K mg "put_rows" iD ["gate", "rows", "width"]) (d_put_all : Def P w K mg base 2 "put_all" ["gate", "numbers", "full"] (spF K [.bor, .bor, .bor] .f lq)) (d_row_count : Def P w K mg base 1 "row_count" ["inputs"] (spF K [.bor] .f bU)) : Def P w K mg base 3 "put_rows" ["gate", "rows", "width"] (spF K [.bor, .bor, .bor] .f jL) :=
  bA (N := ["gate", "rows", "width"]) (fs := [.bor, .bor, .bor]) (O := [.bor, .bor, .bor]) (O' := []) (Ol := []) (rm := .f) F zN rfl (by decide) (by decide) fun f cdv A outer s H E hr =>
  (aD (aW (aJ d_put_all (hr.mono (by decide)) rfl (ao (aj 0) (ao (aj 1) (ao (sp (aG Nu (sp (aJ d_row_count (hr.mono (by decide)) rfl (ao (aj 2) aA))) (sp aq))) aA))))))
theorem G8 (F : At K mg "power" mj ["base", "exponent"]) (z_range : mg "range" = none) : Def P w K mg base 1 "power" ["base", "exponent"] (spF K [.bor, .bor] .f jX) :=
  bA (N := ["base", "exponent", "product", "j"]) (fs := [.bor, .bor]) (O := [.bor, .bor, .imm, .imm]) (O' := []) (Ol := []) (rm := .f) F pF rfl (by decide) (by decide) fun f cdv A outer s H E hr =>
  (aC (O1 := [.bor, .bor, .imm, .imm]) (bf 2 pF.nd rfl (Or.inl rfl) aq)
    (aC (O1 := [.bor, .bor, .imm, .imm]) (bD PassesOwn.never rfl [3] (Oe := [.bor, .bor, .imm, .imm]) (fK rfl z_range (aj 1)) (aN 3 pF.nd rfl (Or.inl rfl)) (aD (bf 2 pF.nd rfl (Or.inl rfl) (aG gK (aj 0) (aj 2)))) (by decide))
    (aD (aW (bx 2)))))
theorem wH (F : At K mg "list_count" gm ["count", "gates"]) (d_power : Def P w K mg base 1 "power" ["base", "exponent"] (spF K [.bor, .bor] .f jX)) (z_sum : mg "sum" = none) : Def P w K mg base 2 "list_count" ["count", "gates"] (spF K [.bor, .bor] .f iy) :=
  bA (N := ["count", "gates"]) (fs := [.bor, .bor]) (O := [.bor, .bor]) (O' := []) (Ol := []) (rm := .f) F wG rfl (by decide) (by decide) fun f cdv A outer s H E hr =>
  (aD (aW (bu (yc rfl) rfl z_sum (show bootBuiltins "sum" = some (.builtin "sum") by decide +kernel) (ao (sfp (dj ["gate"] [0] (Ob := [.imm, .bor]) (O1 := [.imm, .bor]) (is := [0]) rfl rfl rfl rfl (by decide) (lD (aj 1)) (fun _ _ _ _ _ => (aN 0 (show List.Nodup (["gate", "count"] : List Str) by decide +kernel) rfl (Or.inl rfl))) (fun _ _ _ _ _ => cR) (fun _ _ _ _ _ => (aJ d_power (hr.mono (by decide)) rfl (ao (aj 1) (ao (sp (aR (aj 0) (sp aq) (fun _ _ => rfl))) aA)))))) aA))))
theorem zB (F : At K mg "lists_of" iR ["choices"]) : Def P w K mg base 1 "lists_of" ["choices"] (spF K [.bor] .f fO) :=
  bA (N := ["choices", "lists", "rows", "longer", "chosen", "row"]) (fs := [.bor]) (O := [.bor, .imm, .imm, .own, .imm, .imm]) (O' := []) (Ol := []) (rm := .f) F fV rfl (by decide) (by decide) fun f cdv A outer s H E hr =>
  (aC (O1 := [.bor, .imm, .imm, .own, .imm, .imm]) (bf 1 fV.nd rfl (Or.inl rfl) (sfe (cB (aL (sfe (cB bB)) bB))))
    (aC (O1 := [.bor, .imm, .imm, .own, .imm, .imm]) (bD PassesOwn.never rfl [2, 3, 4, 5] (Oe := [.bor, .imm, .imm, .imm, .imm, .imm]) (cj (fM 0)) (aN 2 fV.nd rfl (Or.inl rfl)) (aC (O1 := [.bor, .imm, .imm, .own, .imm, .imm]) (iU 3 fV.nd rfl (Or.inl rfl) (cB bB))
    (aC (O1 := [.bor, .imm, .imm, .own, .imm, .imm]) (bD PassesOwn.never rfl [4, 5] (Oe := [.bor, .imm, .imm, .own, .imm, .imm]) (cj (fM 1)) (aN 4 fV.nd rfl (Or.inl rfl)) (aD (bD PassesOwn.never rfl [5] (Oe := [.bor, .imm, .imm, .own, .imm, .imm]) (cj (fM 2)) (aN 5 fV.nd rfl (Or.inl rfl)) (aD (nZ 3 (aG bQ (aj 4) (sfp (cB (aL (bx 5) bB)))))) (by decide))) (by decide))
    (aD (DN 3 (O2 := [.bor, .imm, .imm, .imm, .imm, .imm]) (bf 1 fV.nd rfl (Or.inl rfl) (bx 3)))))) (by decide))
    (aD (aW (bx 1)))))
theorem Eo (F : At K mg "broken" j5 ["gate", "relation"]) (d_marked : Def P w K mg base 1 "marked" ["rows"] (spF K [.bor] .t jr)) (d_lists_of : Def P w K mg base 1 "lists_of" ["choices"] (spF K [.bor] .f fO)) (d_list_count : Def P w K mg base 2 "list_count" ["count", "gates"] (spF K [.bor, .bor] .f iy)) (d_put_rows : Def P w K mg base 3 "put_rows" ["gate", "rows", "width"] (spF K [.bor, .bor, .bor] .f jL)) (z_len : mg "len" = none) {v_MOST_LISTS : Value} (g_MOST_LISTS : mg "MOST_LISTS" = some v_MOST_LISTS) (r_MOST_LISTS : RelV (.int 20000) v_MOST_LISTS) : Def P w K mg base 4 "broken" ["gate", "relation"] (spF K [.imm, .bor] .f mK) :=
  bA (N := ["gate", "relation", "width", "rows", "marks", "chosen"]) (fs := [.imm, .bor]) (O := [.imm, .bor, .imm, .imm, .imm, .imm]) (O' := []) (Ol := []) (rm := .f) F lA rfl (by decide) (by decide) fun f cdv A outer s H E hr =>
  (aC (O1 := [.imm, .bor, .imm, .imm, .imm, .imm]) (bf 2 lA.nd rfl (Or.inl rfl) (aR (aj 1) (sp aq) (fun _ _ => rfl)))
    (aC (O1 := [.imm, .bor, .imm, .imm, .imm, .imm]) (bf 3 lA.nd rfl (Or.inl rfl) (aR (aj 1) (sp aq) (fun _ _ => rfl)))
    (aC (O1 := [.imm, .bor, .imm, .imm, .imm, .imm]) (cG (bH qP (sp (aJ d_list_count (hr.mono (by decide)) rfl (ao (sp (bu bZ rfl z_len (show bootBuiltins "len" = some (.builtin "len") by decide +kernel) (ao (aj 3) aA))) (ao (sfp (cB (aL (bx 0) bB))) aA)))) (sp (n6 rfl g_MOST_LISTS r_MOST_LISTS (fun _ => Rp.int.mpr rfl))) (bK _)) (aD yL) bO)
    (aC (O1 := [.imm, .bor, .imm, .imm, .imm, .imm]) (bf 4 lA.nd rfl (Or.inl rfl) (sfe (ou d_marked (hr.mono (by decide)) rfl (ao (aj 3) aA))))
    (aC (O1 := [.imm, .bor, .imm, .imm, .imm, .imm]) (bD PassesOwn.never rfl [5] (Oe := [.imm, .bor, .imm, .imm, .imm, .imm]) (cj (sq (aJ d_lists_of (hr.mono (by decide)) rfl (ao (sfp (Dv (cB (aL (bx 3) bB)) (sp (aR (aj 0) (sp aq) (fun _ _ => rfl))))) aA)))) (aN 5 lA.nd rfl (Or.inl rfl)) (aD (cG (bH (ju hr.gO) (sp (aJ d_put_rows (hr.mono (by decide)) rfl (ao (aj 0) (ao (aj 5) (ao (aj 2) aA))))) (aj 4) rfl) (aD (aW (bx 5))) bO)) (by decide))
    (aD (aW Ej)))))))
theorem Jb (F : At K mg "keeps" mC ["gate", "relation"]) (d_broken : Def P w K mg base 4 "broken" ["gate", "relation"] (spF K [.imm, .bor] .f mK)) : Def P w K mg base 5 "keeps" ["gate", "relation"] (spF K [.imm, .bor] .f jU) :=
  bA (N := ["gate", "relation"]) (fs := [.imm, .bor]) (O := [.imm, .bor]) (O' := []) (Ol := []) (rm := .f) F Hy rfl (by decide) (by decide) fun f cdv A outer s H E hr =>
  (aD (aW (lG Nv (sp (aJ d_broken (hr.mono (by decide)) rfl (mL (bx 0) (ao (aj 1) aA)))) (sp Ej) (bK _))))
theorem wC (F : At K mg "picked_row" fY ["row", "columns"]) (d_number_of : Def P w K mg base 1 "number_of" ["figures"] (spF K [.bor] .f fW)) (d_bit : Def P w K mg base 1 "bit" ["number", "place"] (spF K [.bor, .bor] .f lY)) : Def P w K mg base 2 "picked_row" ["row", "columns"] (spF K [.bor, .bor] .f cT) :=
  bA (N := ["row", "columns"]) (fs := [.bor, .bor]) (O := [.bor, .bor]) (O' := []) (Ol := []) (rm := .f) F wF rfl (by decide) (by decide) fun f cdv A outer s H E hr =>
  (aD (aW (aJ d_number_of (hr.mono (by decide)) rfl (ao (sfp (dj ["column"] [0] (Ob := [.imm, .bor]) (O1 := [.imm, .bor]) (is := [0]) rfl rfl rfl rfl (by decide) (lD (aj 1)) (fun _ _ _ _ _ => (aN 0 (show List.Nodup (["column", "row"] : List Str) by decide +kernel) rfl (Or.inl rfl))) (fun _ _ _ _ _ => cR) (fun _ _ _ _ _ => (aJ d_bit (hr.mono (by decide)) rfl (ao (aj 1) (ao (aj 0) aA)))))) aA))))
theorem Gj (F : At K mg "picked" jV ["relation", "columns"]) (d_gathered : Def P w K mg base 1 "gathered" ["width", "rows"] (spF K [.imm, .bor] .f jQ)) (d_picked_row : Def P w K mg base 2 "picked_row" ["row", "columns"] (spF K [.bor, .bor] .f cT)) (z_len : mg "len" = none) : Def P w K mg base 3 "picked" ["relation", "columns"] (spF K [.bor, .bor] .f mX) :=
  bA (N := ["relation", "columns"]) (fs := [.bor, .bor]) (O := [.bor, .bor]) (O' := []) (Ol := []) (rm := .f) F Ex rfl (by decide) (by decide) fun f cdv A outer s H E hr =>
  (aD (aW (aJ d_gathered (hr.mono (by decide)) rfl (mL (bu bZ rfl z_len (show bootBuiltins "len" = some (.builtin "len") by decide +kernel) (ao (aj 1) aA)) (ao (sfp (dj ["row"] [1] (Ob := [.imm, .bor]) (O1 := [.imm, .bor]) (is := [0]) rfl rfl rfl rfl (by decide) (lD (sp (aR (aj 0) (sp aq) (fun _ _ => rfl)))) (fun _ _ _ _ _ => (aN 0 (show List.Nodup (["row", "columns"] : List Str) by decide +kernel) rfl (Or.inl rfl))) (fun _ _ _ _ _ => cR) (fun _ _ _ _ _ => (aJ d_picked_row (hr.mono (by decide)) rfl (ao (aj 0) (ao (aj 1) aA)))))) aA)))))
theorem qX (F : At K mg "rows_with_part" dw ["rows", "part"]) (d_marked : Def P w K mg base 1 "marked" ["rows"] (spF K [.bor] .t jr)) (d_picked_row : Def P w K mg base 2 "picked_row" ["row", "columns"] (spF K [.bor, .bor] .f cT)) : Def P w K mg base 3 "rows_with_part" ["rows", "part"] (spF K [.bor, .bor] .t fj) :=
  bA (N := ["rows", "part", "marks"]) (fs := [.bor, .bor]) (O := [.bor, .bor, .imm]) (O' := []) (Ol := []) (rm := .t) F lM rfl (by decide) (by decide) fun f cdv A outer s H E hr =>
  (aC (O1 := [.bor, .bor, .imm]) (bf 2 lM.nd rfl (Or.inr rfl) (sfe (ou d_marked (hr.mono (by decide)) rfl (ao (sp (aR (sp (aR (aj 1) (sp aq) (fun _ _ => rfl))) (sp aq) (fun _ _ => rfl))) aA))))
    (aD (Bg (dj ["row"] [1, 2] (Ob := [.imm, .bor, .imm]) (O1 := [.imm, .bor, .imm]) (is := [0]) rfl rfl rfl rfl (by decide) (lD (aj 0)) (fun _ _ _ _ _ => (aN 0 (show List.Nodup (["row", "part", "marks"] : List Str) by decide +kernel) rfl (Or.inl rfl))) (fun _ _ _ _ _ => (yW (bH (yo hr.gO) (sp (aJ d_picked_row (hr.mono (by decide)) rfl (ao (aj 0) (ao (sp (aR (aj 1) (sp aq) (fun _ _ => rfl))) aA)))) (aj 2) rfl))) (fun _ _ _ _ _ => (bx 0))))))
theorem vm (F : At K mg "relation_of" fG ["formula"]) (d_picked : Def P w K mg base 3 "picked" ["relation", "columns"] (spF K [.bor, .bor] .f mX)) (d_rows_with_part : Def P w K mg base 3 "rows_with_part" ["rows", "part"] (spF K [.bor, .bor] .t fj)) (d_row_count : Def P w K mg base 1 "row_count" ["inputs"] (spF K [.bor] .f bU)) (z_list : mg "list" = none) (z_range : mg "range" = none) (z_tuple : mg "tuple" = none) : Def P w K mg base 4 "relation_of" ["formula"] (spF K [.bor] .f cZ) :=
  bA (N := ["formula", "rows", "part"]) (fs := [.bor]) (O := [.bor, .imm, .imm]) (O' := []) (Ol := []) (rm := .f) F iY rfl (by decide) (by decide) fun f cdv A outer s H E hr =>
  (aC (O1 := [.bor, .imm, .imm]) (bf 1 iY.nd rfl (Or.inl rfl) (sfe (Fe rfl rfl z_list (show bootBuiltins "list" = some (.type "list") by decide +kernel) rfl z_range (show bootBuiltins "range" = some (.type "range") by decide +kernel) (sp (aJ d_row_count (hr.mono (by decide)) rfl (ao (sp (aR (aj 0) (sp aq) (fun _ _ => rfl))) aA))))))
    (aC (O1 := [.bor, .imm, .imm]) (bD PassesOwn.never rfl [2] (Oe := [.bor, .imm, .imm]) (cj (sq (aR (aj 0) (sp aq) (fun _ _ => rfl)))) (aN 2 iY.nd rfl (Or.inl rfl)) (aD (bf 1 iY.nd rfl (Or.inl rfl) (sfe (ou d_rows_with_part (hr.mono (by decide)) rfl (ao (aj 1) (ao (aj 2) aA)))))) (by decide))
    (aD (aW (aJ d_picked (hr.mono (by decide)) rfl (ao (sp (gh (aL (aR (aj 0) (sp aq) (fun _ _ => rfl)) (aL (fH gr rfl z_tuple (show bootBuiltins "tuple" = some (.type "tuple") by decide +kernel) (ao (aj 1) aA)) bB)))) (ao (sp (aR (aj 0) (sp aq) (fun _ _ => rfl))) aA)))))))
theorem HW (F : At K mg "place" mq ["rows", "column"]) (d_number_of : Def P w K mg base 1 "number_of" ["figures"] (spF K [.bor] .f fW)) (d_bit : Def P w K mg base 1 "bit" ["number", "place"] (spF K [.bor, .bor] .f lY)) : Def P w K mg base 2 "place" ["rows", "column"] (spF K [.bor, .bor] .f oG) :=
  bA (N := ["rows", "column"]) (fs := [.bor, .bor]) (O := [.bor, .bor]) (O' := []) (Ol := []) (rm := .f) F HJ rfl (by decide) (by decide) fun f cdv A outer s H E hr =>
  (aD (aW (aJ d_number_of (hr.mono (by decide)) rfl (ao (sfp (dj ["row"] [1] (Ob := [.imm, .bor]) (O1 := [.imm, .bor]) (is := [0]) rfl rfl rfl rfl (by decide) (lD (aj 0)) (fun _ _ _ _ _ => (aN 0 (show List.Nodup (["row", "column"] : List Str) by decide +kernel) rfl (Or.inl rfl))) (fun _ _ _ _ _ => cR) (fun _ _ _ _ _ => (aJ d_bit (hr.mono (by decide)) rfl (ao (aj 0) (ao (aj 1) aA)))))) aA))))
theorem Ge (F : At K mg "places" jZ ["rows", "width"]) (d_place : Def P w K mg base 2 "place" ["rows", "column"] (spF K [.bor, .bor] .f oG)) (z_range : mg "range" = none) (z_tuple : mg "tuple" = none) : Def P w K mg base 3 "places" ["rows", "width"] (spF K [.bor, .bor] .f jq) :=
  bA (N := ["rows", "width"]) (fs := [.bor, .bor]) (O := [.bor, .bor]) (O' := []) (Ol := []) (rm := .f) F FZ rfl (by decide) (by decide) fun f cdv A outer s H E hr =>
  (aD (aW (fH gr rfl z_tuple (show bootBuiltins "tuple" = some (.type "tuple") by decide +kernel) (ao (sfp (dj ["column"] [0] (Ob := [.imm, .bor]) (O1 := [.imm, .bor]) (is := [0]) rfl rfl rfl rfl (by decide) (ik rfl z_range (aj 1)) (fun _ _ _ _ _ => (aN 0 (show List.Nodup (["column", "rows"] : List Str) by decide +kernel) rfl (Or.inl rfl))) (fun _ _ _ _ _ => cR) (fun _ _ _ _ _ => (aJ d_place (hr.mono (by decide)) rfl (ao (aj 1) (ao (aj 0) aA)))))) aA))))
theorem uD (F : At K mg "refuse_great" eU ["relations", "inputs"]) (d_power : Def P w K mg base 1 "power" ["base", "exponent"] (spF K [.bor, .bor] .f jX)) (z_len : mg "len" = none) {v_MOST_COLUMNS : Value} (g_MOST_COLUMNS : mg "MOST_COLUMNS" = some v_MOST_COLUMNS) (r_MOST_COLUMNS : RelV (.int 4) v_MOST_COLUMNS) {v_MOST_KEPT_LISTS : Value} (g_MOST_KEPT_LISTS : mg "MOST_KEPT_LISTS" = some v_MOST_KEPT_LISTS) (r_MOST_KEPT_LISTS : RelV (.int 64) v_MOST_KEPT_LISTS) : Def P w K mg base 2 "refuse_great" ["relations", "inputs"] (spF K [.bor, .bor] .f gk) :=
  Lz (N := ["relations", "inputs", "given"]) (fs := [.bor, .bor]) (O := [.bor, .bor, .imm]) (O' := [.bor, .bor, .imm]) (Ol := []) (rm := .f) F m5 rfl (by decide) (by decide) (hrm := rfl) (hbody := fun f cdv A outer s H E hr =>
  (aD (bD PassesOwn.never rfl [2] (Oe := [.bor, .bor, .imm]) (cj (fM 0)) (aN 2 m5.nd rfl (Or.inl rfl)) (aD (cG (g8 (d7 (bH qP (sp (aR (aj 2) (sp aq) (fun _ _ => rfl))) (sp (n6 rfl g_MOST_COLUMNS r_MOST_COLUMNS (fun _ => Rp.int.mpr rfl))) (bK _)) (ig (bH qP (sp (aJ d_power (hr.mono (by decide)) rfl (ao (sp (bu bZ rfl z_len (show bootBuiltins "len" = some (.builtin "len") by decide +kernel) (ao (sp (aR (aj 2) (sp aq) (fun _ _ => rfl))) aA))) (ao (aj 1) aA)))) (sp (n6 rfl g_MOST_KEPT_LISTS r_MOST_KEPT_LISTS (fun _ => Rp.int.mpr rfl))) (bK _))))) (aD yL) bO)) (by decide))))
theorem rZ (F : At K mg "keeping_parts" dO ["relations", "inputs"]) (d_lists_of : Def P w K mg base 1 "lists_of" ["choices"] (spF K [.bor] .f fO)) (d_places : Def P w K mg base 3 "places" ["rows", "width"] (spF K [.bor, .bor] .f jq)) (z_tuple : mg "tuple" = none) : Def P w K mg base 4 "keeping_parts" ["relations", "inputs"] (spF K [.bor, .bor] .f cU) :=
  bA (N := ["relations", "inputs", "parts", "given", "chosen"]) (fs := [.bor, .bor]) (O := [.bor, .bor, .own, .imm, .imm]) (O' := []) (Ol := []) (rm := .f) F gH rfl (by decide) (by decide) fun f cdv A outer s H E hr =>
  (aC (O1 := [.bor, .bor, .own, .imm, .imm]) (iU 2 gH.nd rfl (Or.inl rfl) (cB bB))
    (aC (O1 := [.bor, .bor, .own, .imm, .imm]) (bD PassesOwn.never rfl [3, 4] (Oe := [.bor, .bor, .own, .imm, .imm]) (cj (fM 0)) (aN 3 gH.nd rfl (Or.inl rfl)) (aD (bD PassesOwn.never rfl [4] (Oe := [.bor, .bor, .own, .imm, .imm]) (cj (sq (aJ d_lists_of (hr.mono (by decide)) rfl (ao (sfp (Dv (cB (aL (aR (aj 3) (sp aq) (fun _ _ => rfl)) bB)) (aj 1))) aA)))) (aN 4 gH.nd rfl (Or.inl rfl)) (aD (nZ 2 (gh (aL (bx 3) (aL (aJ d_places (hr.mono (by decide)) rfl (ao (aj 4) (ao (sp (aR (aj 3) (sp aq) (fun _ _ => rfl))) aA))) bB))))) (by decide))) (by decide))
    (aD (aW (fH gr rfl z_tuple (show bootBuiltins "tuple" = some (.type "tuple") by decide +kernel) (ao (aj 2) aA))))))
theorem Dp (F : At K mg "keepers" jw ["relations", "inputs"]) (d_refuse_great : Def P w K mg base 2 "refuse_great" ["relations", "inputs"] (spF K [.bor, .bor] .f gk)) (d_row_count : Def P w K mg base 1 "row_count" ["inputs"] (spF K [.bor] .f bU)) (d_relation_of : Def P w K mg base 4 "relation_of" ["formula"] (spF K [.bor] .f cZ)) (d_keeping_parts : Def P w K mg base 4 "keeping_parts" ["relations", "inputs"] (spF K [.bor, .bor] .f cU)) (z_range : mg "range" = none) (z_tuple : mg "tuple" = none) : Def P w K mg base 5 "keepers" ["relations", "inputs"] (spF K [.bor, .bor] .f lC) :=
  bA (N := ["relations", "inputs", "width"]) (fs := [.bor, .bor]) (O := [.bor, .bor, .imm]) (O' := []) (Ol := []) (rm := .f) F tY rfl (by decide) (by decide) fun f cdv A outer s H E hr =>
  (aC (O1 := [.bor, .bor, .imm]) (Qv (sp (aJ d_refuse_great (hr.mono (by decide)) rfl (ao (aj 0) (ao (aj 1) aA)))))
    (aC (O1 := [.bor, .bor, .imm]) (bf 2 tY.nd rfl (Or.inl rfl) (aJ d_row_count (hr.mono (by decide)) rfl (ao (aj 1) aA)))
    (aD (aW (aR (sp (aJ d_relation_of (hr.mono (by decide)) rfl (ao (sp (gh (aL (bx 2) (aL (aJ d_keeping_parts (hr.mono (by decide)) rfl (ao (aj 0) (ao (aj 1) aA))) (aL (Gp rfl rfl z_tuple (show bootBuiltins "tuple" = some (.type "tuple") by decide +kernel) rfl z_range (show bootBuiltins "range" = some (.type "range") by decide +kernel) (aj 2)) bB))))) aA))) (sp aq) (fun _ _ => rfl))))))
theorem Dc (F : At K mg "made_of" jy ["relations", "wish"]) (d_places : Def P w K mg base 3 "places" ["rows", "width"] (spF K [.bor, .bor] .f jq)) (d_keepers : Def P w K mg base 5 "keepers" ["relations", "inputs"] (spF K [.bor, .bor] .f lC)) (d_picked_row : Def P w K mg base 2 "picked_row" ["row", "columns"] (spF K [.bor, .bor] .f cT)) (d_row_count : Def P w K mg base 1 "row_count" ["inputs"] (spF K [.bor] .f bU)) (d_keeping_parts : Def P w K mg base 4 "keeping_parts" ["relations", "inputs"] (spF K [.bor, .bor] .f cU)) (z_len : mg "len" = none) (z_list : mg "list" = none) {v_MOST_WISHED_COLUMNS : Value} (g_MOST_WISHED_COLUMNS : mg "MOST_WISHED_COLUMNS" = some v_MOST_WISHED_COLUMNS) (r_MOST_WISHED_COLUMNS : RelV (.int 8) v_MOST_WISHED_COLUMNS) {v_MOST_WISHED_ROWS : Value} (g_MOST_WISHED_ROWS : mg "MOST_WISHED_ROWS" = some v_MOST_WISHED_ROWS) (r_MOST_WISHED_ROWS : RelV (.int 3) v_MOST_WISHED_ROWS) : Def P w K mg base 6 "made_of" ["relations", "wish"] (spF K [.bor, .bor] .f jt) :=
  bA (N := ["relations", "wish", "rows", "inputs", "columns", "bits"]) (fs := [.bor, .bor]) (O := [.bor, .bor, .imm, .imm, .imm, .imm]) (O' := []) (Ol := []) (rm := .f) F jF rfl (by decide) (by decide) fun f cdv A outer s H E hr =>
  (aC (O1 := [.bor, .bor, .imm, .imm, .imm, .imm]) (bf 2 jF.nd rfl (Or.inl rfl) (sfe (Er Kg rfl z_list (show bootBuiltins "list" = some (.type "list") by decide +kernel) (ao (sp (aR (aj 1) (sp aq) (fun _ _ => rfl))) aA))))
    (aC (O1 := [.bor, .bor, .imm, .imm, .imm, .imm]) (bf 3 jF.nd rfl (Or.inl rfl) (bu bZ rfl z_len (show bootBuiltins "len" = some (.builtin "len") by decide +kernel) (ao (aj 2) aA)))
    (aC (O1 := [.bor, .bor, .imm, .imm, .imm, .imm]) (cG (g8 (d7 (bH qP (sp (aR (aj 1) (sp aq) (fun _ _ => rfl))) (sp (n6 rfl g_MOST_WISHED_COLUMNS r_MOST_WISHED_COLUMNS (fun _ => Rp.int.mpr rfl))) (bK _)) (ig (bH qP (aj 3) (sp (n6 rfl g_MOST_WISHED_ROWS r_MOST_WISHED_ROWS (fun _ => Rp.int.mpr rfl))) (bK _))))) (aD yL) bO)
    (aC (O1 := [.bor, .bor, .imm, .imm, .imm, .imm]) (bf 4 jF.nd rfl (Or.inl rfl) (aJ d_places (hr.mono (by decide)) rfl (ao (aj 2) (ao (sp (aR (aj 1) (sp aq) (fun _ _ => rfl))) aA))))
    (aC (O1 := [.bor, .bor, .imm, .imm, .imm, .imm]) (bD PassesOwn.never rfl [5] (Oe := [.bor, .bor, .imm, .imm, .imm, .imm]) (cj (sq (aJ d_keepers (hr.mono (by decide)) rfl (ao (aj 0) (ao (aj 3) aA))))) (aN 5 jF.nd rfl (Or.inl rfl)) (aD (cG (bH (ju hr.gO) (sp (aJ d_picked_row (hr.mono (by decide)) rfl (ao (aj 5) (ao (aj 4) aA)))) (aj 2) rfl) (aD (aW (gh (aL qg (aL (gh (aL (bx 3) (aL (bx 5) bB))) (aL (bx 2) bB)))))) bO)) (by decide))
    (aD (aW (gh (aL qg (aL (gh (aL (aJ d_row_count (hr.mono (by decide)) rfl (ao (aj 3) aA)) (aL (aJ d_keeping_parts (hr.mono (by decide)) rfl (ao (aj 0) (ao (aj 3) aA))) (aL (bx 4) bB)))) bB))))))))))
theorem zM (F : At K mg "_law_cell" iI ["_law_script", "_law_k"]) (z_len : mg "len" = none) : Def P w K mg base 1 "_law_cell" ["_law_script", "_law_k"] (spF K [.bor, .bor] .f bF) :=
  bA (N := ["_law_script", "_law_k"]) (fs := [.bor, .bor]) (O := [.bor, .bor]) (O' := []) (Ol := []) (rm := .f) F zj rfl (by decide) (by decide) fun f cdv A outer s H E hr =>
  (aC (O1 := [.bor, .bor]) (cG (bH wU (aj 1) (sp (bu bZ rfl z_len (show bootBuiltins "len" = some (.builtin "len") by decide +kernel) (ao (aj 0) aA))) (bK _)) (aD (aW (aG eX (sp (aG bQ (sp (aG gK (sp (aR (aj 0) (aj 1) (fun _ _ => rfl))) (sp aq))) (sp (aG gK (sp (aG gK (aj 1) (aj 1))) (sp aq))))) (sp aq)))) bO)
    (aD (aW (aG eX (sp (aG bQ (sp (aG bQ (sp (aG gK (sp (aG gK (aj 1) (aj 1))) (sp aq))) (sp (aG gK (sp (bu bZ rfl z_len (show bootBuiltins "len" = some (.builtin "len") by decide +kernel) (ao (aj 0) aA))) (sp aq))))) (sp aq))) (sp aq)))))
theorem z9 (F : At K mg "_law_gate" iM ["_law_cell_here", "_law_most"]) (z_min : mg "min" = none) : Def P w K mg base 1 "_law_gate" ["_law_cell_here", "_law_most"] (spF K [.bor, .bor] .f iV) :=
  bA (N := ["_law_cell_here", "_law_most", "_law_inputs", "_law_some"]) (fs := [.bor, .bor]) (O := [.bor, .bor, .imm, .imm]) (O' := []) (Ol := []) (rm := .f) F kO rfl (by decide) (by decide) fun f cdv A outer s H E hr =>
  (aC (O1 := [.bor, .bor, .imm, .imm]) (bf 2 kO.nd rfl (Or.inl rfl) (aR (sfp (cB (aL aq (aL aq (aL aq (aL aq (aL aq (aL aq (aL aq (aL aq bB)))))))))) (sp (aG eX (aj 0) (sp aq))) (fun _ _ => rfl)))
    (aC (O1 := [.bor, .bor, .imm, .imm]) (bf 2 kO.nd rfl (Or.inl rfl) (bu (Mt rfl) rfl z_min (show bootBuiltins "min" = some (.builtin "min") by decide +kernel) (ao (aj 2) (ao (aj 1) aA))))
    (aC (O1 := [.bor, .bor, .imm, .imm]) (bf 3 kO.nd rfl (Or.inl rfl) (aR (sfp (cB (aL aq (aL aq (aL aq (aL aq (aL aq (aL aq (aL aq (aL (aG gY (aj 0) (sp aq)) bB)))))))))) (sp (aG eX (sp (aG gY (aj 0) (sp aq))) (sp aq))) (fun _ _ => rfl)))
    (aD (aW (gh (aL (bx 2) (aL (aG eX (aj 3) (sp (aG je (sp aq) (sp (aG je (sp aq) (aj 2)))))) bB))))))))
theorem Bw (F : At K mg "_law_put" jB ["_law_gate_here", "_law_some", "_law_width"]) (z_range : mg "range" = none) : Def P w K mg base 1 "_law_put" ["_law_gate_here", "_law_some", "_law_width"] (spF K [.bor, .bor, .bor] .f iB) :=
  bA (N := ["_law_gate_here", "_law_some", "_law_width", "_law_row", "_law_j", "_law_number", "_law_k"]) (fs := [.bor, .bor, .bor]) (O := [.bor, .bor, .bor, .imm, .imm, .imm, .imm]) (O' := []) (Ol := []) (rm := .f) F gB rfl (by decide) (by decide) fun f cdv A outer s H E hr =>
  (aC (O1 := [.bor, .bor, .bor, .imm, .imm, .imm, .imm]) (bf 3 gB.nd rfl (Or.inl rfl) aq)
    (aC (O1 := [.bor, .bor, .bor, .imm, .imm, .imm, .imm]) (bD PassesOwn.never rfl [4, 5, 6] (Oe := [.bor, .bor, .bor, .imm, .imm, .imm, .imm]) (fK rfl z_range (aj 2)) (aN 4 gB.nd rfl (Or.inl rfl)) (aC (O1 := [.bor, .bor, .bor, .imm, .imm, .imm, .imm]) (bf 5 gB.nd rfl (Or.inl rfl) aq)
    (aC (O1 := [.bor, .bor, .bor, .imm, .imm, .imm, .imm]) (bD PassesOwn.never rfl [6] (Oe := [.bor, .bor, .bor, .imm, .imm, .imm, .imm]) (fK rfl z_range (sp (aR (aj 0) (sp aq) (fun _ _ => rfl)))) (aN 6 gB.nd rfl (Or.inl rfl)) (aD (bf 5 gB.nd rfl (Or.inl rfl) (aG bQ (aj 5) (sp (aG je (sp (aG oE (sp (aG uf (sp (aR (aj 1) (aj 6) (fun _ _ => rfl))) (aj 4))) (sp aq))) (aj 6)))))) (by decide))
    (aD (bf 3 gB.nd rfl (Or.inl rfl) (aG bQ (aj 3) (sp (aG je (sp (aG oE (sp (aG uf (sp (aR (aj 0) (sp aq) (fun _ _ => rfl))) (aj 5))) (sp aq))) (aj 4)))))))) (by decide))
    (aD (aW (bx 3)))))
theorem yx (F : At K mg "_law_lists" gQ ["_law_rows", "_law_many"]) (z_range : mg "range" = none) : Def P w K mg base 1 "_law_lists" ["_law_rows", "_law_many"] (spF K [.bor, .bor] .f jh) :=
  bA (N := ["_law_rows", "_law_many", "_law_found", "_law_k", "_law_further", "_law_one", "_law_row"]) (fs := [.bor, .bor]) (O := [.bor, .bor, .imm, .imm, .own, .imm, .imm]) (O' := []) (Ol := []) (rm := .f) F fB rfl (by decide) (by decide) fun f cdv A outer s H E hr =>
  (aC (O1 := [.bor, .bor, .imm, .imm, .own, .imm, .imm]) (bf 2 fB.nd rfl (Or.inl rfl) (sfe (cB (aL (sfe (cB bB)) bB))))
    (aC (O1 := [.bor, .bor, .imm, .imm, .own, .imm, .imm]) (bD PassesOwn.never rfl [3, 4, 5, 6] (Oe := [.bor, .bor, .imm, .imm, .imm, .imm, .imm]) (fK rfl z_range (aj 1)) (aN 3 fB.nd rfl (Or.inl rfl)) (aC (O1 := [.bor, .bor, .imm, .imm, .own, .imm, .imm]) (iU 4 fB.nd rfl (Or.inl rfl) (cB bB))
    (aC (O1 := [.bor, .bor, .imm, .imm, .own, .imm, .imm]) (bD PassesOwn.never rfl [5, 6] (Oe := [.bor, .bor, .imm, .imm, .own, .imm, .imm]) (cj (fM 2)) (aN 5 fB.nd rfl (Or.inl rfl)) (aD (bD PassesOwn.never rfl [6] (Oe := [.bor, .bor, .imm, .imm, .own, .imm, .imm]) (cj (fM 0)) (aN 6 fB.nd rfl (Or.inl rfl)) (aD (nZ 4 (aG bQ (aj 5) (sfp (cB (aL (bx 6) bB)))))) (by decide))) (by decide))
    (aD (DN 4 (O2 := [.bor, .bor, .imm, .imm, .imm, .imm, .imm]) (bf 2 fB.nd rfl (Or.inl rfl) (bx 4)))))) (by decide))
    (aD (aW (bx 2)))))
theorem wY (F : At K mg "_law_keeps" gR ["_law_gate_here", "_law_kept"]) (d__law_lists : Def P w K mg base 1 "_law_lists" ["_law_rows", "_law_many"] (spF K [.bor, .bor] .f jh)) (d__law_put : Def P w K mg base 1 "_law_put" ["_law_gate_here", "_law_some", "_law_width"] (spF K [.bor, .bor, .bor] .f iB)) : Def P w K mg base 2 "_law_keeps" ["_law_gate_here", "_law_kept"] (spF K [.bor, .bor] .f eF) :=
  bA (N := ["_law_gate_here", "_law_kept", "_law_some"]) (fs := [.bor, .bor]) (O := [.bor, .bor, .imm]) (O' := []) (Ol := []) (rm := .f) F qu rfl (by decide) (by decide) fun f cdv A outer s H E hr =>
  (aC (O1 := [.bor, .bor, .imm]) (bD PassesOwn.never rfl [2] (Oe := [.bor, .bor, .imm]) (cj (sq (aJ d__law_lists (hr.mono (by decide)) rfl (ao (sp (aR (aj 1) (sp aq) (fun _ _ => rfl))) (ao (sp (aR (aj 0) (sp aq) (fun _ _ => rfl))) aA))))) (aN 2 qu.nd rfl (Or.inl rfl)) (aD (cG (bH (ju hr.gO) (sp (aJ d__law_put (hr.mono (by decide)) rfl (ao (aj 0) (ao (aj 2) (ao (sp (aR (aj 1) (sp aq) (fun _ _ => rfl))) aA))))) (sp (aR (aj 1) (sp aq) (fun _ _ => rfl))) rfl) (aD (aW cO)) bO)) (by decide))
    (aD (aW cO)))
theorem tW (F : At K mg "_law_keep_all" eN ["_law_gate_here", "_law_relations_here"]) (d__law_keeps : Def P w K mg base 2 "_law_keeps" ["_law_gate_here", "_law_kept"] (spF K [.bor, .bor] .f eF)) : Def P w K mg base 3 "_law_keep_all" ["_law_gate_here", "_law_relations_here"] (spF K [.bor, .bor] .f dq) :=
  bA (N := ["_law_gate_here", "_law_relations_here", "_law_kept"]) (fs := [.bor, .bor]) (O := [.bor, .bor, .imm]) (O' := []) (Ol := []) (rm := .f) F m8 rfl (by decide) (by decide) fun f cdv A outer s H E hr =>
  (aC (O1 := [.bor, .bor, .imm]) (bD PassesOwn.never rfl [2] (Oe := [.bor, .bor, .imm]) (cj (fM 1)) (aN 2 m8.nd rfl (Or.inl rfl)) (aD (cG (cF (ie (sp (aJ d__law_keeps (hr.mono (by decide)) rfl (ao (aj 0) (ao (aj 2) aA)))))) (aD (aW cO)) bO)) (by decide))
    (aD (aW cO)))
theorem zT (F : At K mg "_law_bits" iC ["_law_number", "_law_width"]) (z_range : mg "range" = none) : Def P w K mg base 1 "_law_bits" ["_law_number", "_law_width"] (spF K [.bor, .bor] .t jO) :=
  bA (N := ["_law_number", "_law_width"]) (fs := [.bor, .bor]) (O := [.bor, .bor]) (O' := []) (Ol := []) (rm := .t) F zc rfl (by decide) (by decide) fun f cdv A outer s H E hr =>
  (aD (Bg (dj ["_law_k"] [0] (Ob := [.imm, .bor]) (O1 := [.imm, .bor]) (is := [0]) rfl rfl rfl rfl (by decide) (ik rfl z_range (aj 1)) (fun _ _ _ _ _ => (aN 0 (show List.Nodup (["_law_k", "_law_number"] : List Str) by decide +kernel) rfl (Or.inl rfl))) (fun _ _ _ _ _ => cR) (fun _ _ _ _ _ => (aG oE (sp (aG uf (aj 1) (aj 0))) (sp aq))))))
theorem zW (F : At K mg "_law_told" iK ["_law_formula_here"]) (d__law_bits : Def P w K mg base 1 "_law_bits" ["_law_number", "_law_width"] (spF K [.bor, .bor] .t jO)) (z_len : mg "len" = none) (z_range : mg "range" = none) (z_sorted : mg "sorted" = none) (z_sum : mg "sum" = none) (z_tuple : mg "tuple" = none) : Def P w K mg base 2 "_law_told" ["_law_formula_here"] (spF K [.imm] .f dZ) :=
  bA (N := ["_law_formula_here", "_law_width", "_law_parts", "_law_columns", "_law_rows", "_law_number", "_law_bits_here", "_law_good", "_law_kept", "_law_picks"]) (fs := [.imm]) (O := [.imm, .imm, .imm, .imm, .own, .imm, .imm, .imm, .imm, .imm]) (O' := []) (Ol := []) (rm := .f) F cC rfl (by decide) (by decide) fun f cdv A outer s H E hr =>
  (aC (O1 := [.imm, .imm, .imm, .imm, .own, .imm, .imm, .imm, .imm, .imm]) (Ei (bx 0) (xP rfl (iw (O1 := [.imm, .imm, .imm, .imm, .own, .imm, .imm, .imm, .imm, .imm]) (aN 1 cC.nd rfl (Or.inl rfl)) (iw (O1 := [.imm, .imm, .imm, .imm, .own, .imm, .imm, .imm, .imm, .imm]) (aN 2 cC.nd rfl (Or.inl rfl)) (iw (O1 := [.imm, .imm, .imm, .imm, .own, .imm, .imm, .imm, .imm, .imm]) (aN 3 cC.nd rfl (Or.inr rfl)) u5)))))
    (aC (O1 := [.imm, .imm, .imm, .imm, .own, .imm, .imm, .imm, .imm, .imm]) (iU 4 cC.nd rfl (Or.inl rfl) vf)
    (aC (O1 := [.imm, .imm, .imm, .imm, .own, .imm, .imm, .imm, .imm, .imm]) (bD PassesOwn.never rfl [5, 6, 7, 8, 9] (Oe := [.imm, .imm, .imm, .imm, .own, .imm, .imm, .imm, .imm, .imm]) (fK rfl z_range (sp (aG je (sp aq) (aj 1)))) (aN 5 cC.nd rfl (Or.inl rfl)) (aC (O1 := [.imm, .imm, .imm, .imm, .own, .imm, .imm, .imm, .imm, .imm]) (bf 6 cC.nd rfl (Or.inr rfl) (sfe (ou d__law_bits (hr.mono (by decide)) rfl (ao (aj 5) (ao (aj 1) aA)))))
    (aC (O1 := [.imm, .imm, .imm, .imm, .own, .imm, .imm, .imm, .imm, .imm]) (bf 7 cC.nd rfl (Or.inl rfl) cO)
    (aC (O1 := [.imm, .imm, .imm, .imm, .own, .imm, .imm, .imm, .imm, .imm]) (bD PassesOwn.never rfl [8, 9] (Oe := [.imm, .imm, .imm, .imm, .own, .imm, .imm, .imm, .imm, .imm]) (cj (fM 2)) (xP rfl (iw (O1 := [.imm, .imm, .imm, .imm, .own, .imm, .imm, .imm, .imm, .imm]) (aN 8 cC.nd rfl (Or.inl rfl)) (iw (O1 := [.imm, .imm, .imm, .imm, .own, .imm, .imm, .imm, .imm, .imm]) (aN 9 cC.nd rfl (Or.inr rfl)) u5))) (aD (cG (bH (ju hr.gO) (sp (bu (yc rfl) rfl z_sum (show bootBuiltins "sum" = some (.builtin "sum") by decide +kernel) (ao (sfp (dj ["_law_k"] [6, 9] (Ob := [.imm, .imm, .imm]) (O1 := [.imm, .imm, .imm]) (is := [0]) rfl rfl rfl rfl (by decide) (ik rfl z_range (sp (bu bZ rfl z_len (show bootBuiltins "len" = some (.builtin "len") by decide +kernel) (ao (aj 9) aA)))) (fun _ _ _ _ _ => (aN 0 (show List.Nodup (["_law_k", "_law_bits_here", "_law_picks"] : List Str) by decide +kernel) rfl (Or.inl rfl))) (fun _ _ _ _ _ => cR) (fun _ _ _ _ _ => (aG je (sp (aR (aj 1) (sp (aR (aj 2) (aj 0) (fun _ _ => rfl))) (fun _ _ => rfl))) (aj 0))))) aA))) (sp (aR (aj 8) (sp aq) (fun _ _ => rfl))) rfl) (aD (bf 7 cC.nd rfl (Or.inl rfl) cO)) bO)) (by decide))
    (aD (cG (ie (aj 7)) (aD (uQ 4 hr.gO (bu (yc rfl) rfl z_sum (show bootBuiltins "sum" = some (.builtin "sum") by decide +kernel) (ao (sfp (dj ["_law_k"] [6, 3] (Ob := [.imm, .imm, .imm]) (O1 := [.imm, .imm, .imm]) (is := [0]) rfl rfl rfl rfl (by decide) (ik rfl z_range (sp (bu bZ rfl z_len (show bootBuiltins "len" = some (.builtin "len") by decide +kernel) (ao (aj 3) aA)))) (fun _ _ _ _ _ => (aN 0 (show List.Nodup (["_law_k", "_law_bits_here", "_law_columns"] : List Str) by decide +kernel) rfl (Or.inl rfl))) (fun _ _ _ _ _ => cR) (fun _ _ _ _ _ => (aG je (sp (aR (aj 1) (sp (aR (aj 2) (aj 0) (fun _ _ => rfl))) (fun _ _ => rfl))) (aj 0))))) aA)) cO)) bO))))) (by decide))
    (aD (aW (gh (aL (bu bZ rfl z_len (show bootBuiltins "len" = some (.builtin "len") by decide +kernel) (ao (aj 3) aA)) (aL (fH gr rfl z_tuple (show bootBuiltins "tuple" = some (.type "tuple") by decide +kernel) (ao (sfp (wX (sY rfl) rfl z_sorted (show bootBuiltins "sorted" = some (.builtin "sorted") by decide +kernel) (ao (aj 4) aA))) aA)) bB))))))))
theorem yM (F : At K mg "_law_whole" gW ["_law_found"]) (z_bool : mg "bool" = none) (z_int : mg "int" = none) (z_isinstance : mg "isinstance" = none) : Def P w K mg base 1 "_law_whole" ["_law_found"] (spF K [.bor] .f dD) :=
  bA (N := ["_law_found"]) (fs := [.bor]) (O := [.bor]) (O' := []) (Ol := []) (rm := .f) F yH rfl (by decide) (by decide) fun f cdv A outer s H E hr =>
  (aD (aW (nU (jj KY rfl z_isinstance (aj 0) (kE rfl z_int (show bootBuiltins "int" = some (.type "int") by decide +kernel))) (p7 (Oj (jj GJ rfl z_isinstance (aj 0) (kE rfl z_bool (show bootBuiltins "bool" = some (.type "bool") by decide +kernel))))))))
theorem pg (F : At K mg "_law_formula_right" cz ["_law_formula_here", "_law_relations_here", "_law_wish"]) (d__law_told : Def P w K mg base 2 "_law_told" ["_law_formula_here"] (spF K [.imm] .f dZ)) (d__law_whole : Def P w K mg base 1 "_law_whole" ["_law_found"] (spF K [.bor] .f dD)) (z_isinstance : mg "isinstance" = none) (z_len : mg "len" = none) (z_tuple : mg "tuple" = none) : Def P w K mg base 3 "_law_formula_right" ["_law_formula_here", "_law_relations_here", "_law_wish"] (spF K [.imm, .bor, .bor] .f di) :=
  bA (N := ["_law_formula_here", "_law_relations_here", "_law_wish", "_law_width", "_law_parts", "_law_columns", "_law_part", "_law_some", "_law_pick"]) (fs := [.imm, .bor, .bor]) (O := [.imm, .bor, .bor, .imm, .imm, .imm, .imm, .imm, .imm]) (O' := []) (Ol := []) (rm := .f) F bM rfl (by decide) (by decide) fun f cdv A outer s H E hr =>
  (aC (O1 := [.imm, .bor, .bor, .imm, .imm, .imm, .imm, .imm, .imm]) (cG (g8 (d7 (cF (lF (jj iz rfl z_isinstance (aj 0) (kE rfl z_tuple (show bootBuiltins "tuple" = some (.type "tuple") by decide +kernel))))) (d7 (bH (qT hr.units) (sp (bu bZ rfl z_len (show bootBuiltins "len" = some (.builtin "len") by decide +kernel) (ao (aj 0) aA))) (sp aq) (bK _)) (ig (cF (ie (sp (aJ d__law_whole (hr.mono (by decide)) rfl (ao (sp (aR (aj 0) (sp aq) (fun _ _ => rfl))) aA))))))))) (aD (aW cO)) bO)
    (aC (O1 := [.imm, .bor, .bor, .imm, .imm, .imm, .imm, .imm, .imm]) (Ei (bx 0) (xP rfl (iw (O1 := [.imm, .bor, .bor, .imm, .imm, .imm, .imm, .imm, .imm]) (aN 3 bM.nd rfl (Or.inl rfl)) (iw (O1 := [.imm, .bor, .bor, .imm, .imm, .imm, .imm, .imm, .imm]) (aN 4 bM.nd rfl (Or.inl rfl)) (iw (O1 := [.imm, .bor, .bor, .imm, .imm, .imm, .imm, .imm, .imm]) (aN 5 bM.nd rfl (Or.inl rfl)) u5)))))
    (aC (O1 := [.imm, .bor, .bor, .imm, .imm, .imm, .imm, .imm, .imm]) (cG (g8 (d7 (cF (oK kI kI (sp aq) (aj 3) (sp aq))) (d7 (cF (lF (jj iz rfl z_isinstance (aj 4) (kE rfl z_tuple (show bootBuiltins "tuple" = some (.type "tuple") by decide +kernel))))) (d7 (cF (lF (jj iz rfl z_isinstance (aj 5) (kE rfl z_tuple (show bootBuiltins "tuple" = some (.type "tuple") by decide +kernel))))) (ig (bH qP (sp (bu bZ rfl z_len (show bootBuiltins "len" = some (.builtin "len") by decide +kernel) (ao (aj 4) aA))) (sp aq) (bK _))))))) (aD (aW cO)) bO)
    (aC (O1 := [.imm, .bor, .bor, .imm, .imm, .imm, .imm, .imm, .imm]) (bD PassesOwn.never rfl [6] (Oe := [.imm, .bor, .bor, .imm, .imm, .imm, .imm, .imm, .imm]) (cj (fM 4)) (aN 6 bM.nd rfl (Or.inl rfl)) (aC (O1 := [.imm, .bor, .bor, .imm, .imm, .imm, .imm, .imm, .imm]) (cG (g8 (d7 (cF (lF (jj iz rfl z_isinstance (aj 6) (kE rfl z_tuple (show bootBuiltins "tuple" = some (.type "tuple") by decide +kernel))))) (d7 (bH (qT hr.units) (sp (bu bZ rfl z_len (show bootBuiltins "len" = some (.builtin "len") by decide +kernel) (ao (aj 6) aA))) (sp aq) (bK _)) (d7 (bH (ju hr.gO) (sp (aR (aj 6) (sp aq) (fun _ _ => rfl))) (aj 1) rfl) (ig (cF (lF (jj iz rfl z_isinstance (sp (aR (aj 6) (sp aq) (fun _ _ => rfl))) (kE rfl z_tuple (show bootBuiltins "tuple" = some (.type "tuple") by decide +kernel)))))))))) (aD (aW cO)) bO)
    (aD (cG (bH (qT hr.units) (sp (bu bZ rfl z_len (show bootBuiltins "len" = some (.builtin "len") by decide +kernel) (ao (sp (aR (aj 6) (sp aq) (fun _ _ => rfl))) aA))) (sp (aR (sp (aR (aj 6) (sp aq) (fun _ _ => rfl))) (sp aq) (fun _ _ => rfl))) (bK _)) (aD (aW cO)) bO))) (by decide))
    (aC (O1 := [.imm, .bor, .bor, .imm, .imm, .imm, .imm, .imm, .imm]) (bD PassesOwn.never rfl [7, 8] (Oe := [.imm, .bor, .bor, .imm, .imm, .imm, .imm, .imm, .imm]) (cj (sq (aG bQ (sfp (dj ["_law_part"] [] (Ob := [.imm]) (O1 := [.imm]) (is := [0]) rfl rfl rfl rfl (by decide) (lD (aj 4)) (fun _ _ _ _ _ => (aN 0 (show List.Nodup (["_law_part"] : List Str) by decide +kernel) rfl (Or.inl rfl))) (fun _ _ _ _ _ => cR) (fun _ _ _ _ _ => (aR (aj 0) (sp aq) (fun _ _ => rfl))))) (sfp (cB (aL (bx 5) bB)))))) (aN 7 bM.nd rfl (Or.inl rfl)) (aD (bD PassesOwn.never rfl [8] (Oe := [.imm, .bor, .bor, .imm, .imm, .imm, .imm, .imm, .imm]) (cj (fM 7)) (aN 8 bM.nd rfl (Or.inl rfl)) (aD (cG (g8 (d7 (cF (ie (sp (aJ d__law_whole (hr.mono (by decide)) rfl (ao (aj 8) aA))))) (ig (cF (oK kI wU (sp aq) (aj 8) (aj 3)))))) (aD (aW cO)) bO)) (by decide))) (by decide))
    (aD (aW (lG (pq hr.units) (sp (aJ d__law_told (hr.mono (by decide)) rfl (mL (bx 0) aA))) (aj 2) (bK _)))))))))
theorem qW (F : At K mg "_law_gate_right" du ["_law_gate_here", "_law_rows", "_law_relations_here", "_law_wish"]) (d__law_keep_all : Def P w K mg base 3 "_law_keep_all" ["_law_gate_here", "_law_relations_here"] (spF K [.bor, .bor] .f dq)) (d__law_whole : Def P w K mg base 1 "_law_whole" ["_law_found"] (spF K [.bor] .f dD)) (d__law_put : Def P w K mg base 1 "_law_put" ["_law_gate_here", "_law_some", "_law_width"] (spF K [.bor, .bor, .bor] .f iB)) (z_isinstance : mg "isinstance" = none) (z_len : mg "len" = none) (z_list : mg "list" = none) (z_tuple : mg "tuple" = none) : Def P w K mg base 4 "_law_gate_right" ["_law_gate_here", "_law_rows", "_law_relations_here", "_law_wish"] (spF K [.bor, .bor, .bor, .bor] .f eV) :=
  bA (N := ["_law_gate_here", "_law_rows", "_law_relations_here", "_law_wish"]) (fs := [.bor, .bor, .bor, .bor]) (O := [.bor, .bor, .bor, .bor]) (O' := []) (Ol := []) (rm := .f) F qU rfl (by decide) (by decide) fun f cdv A outer s H E hr =>
  (aC (O1 := [.bor, .bor, .bor, .bor]) (cG (g8 (d7 (cF (lF (jj iz rfl z_isinstance (aj 0) (kE rfl z_tuple (show bootBuiltins "tuple" = some (.type "tuple") by decide +kernel))))) (d7 (bH (qT hr.units) (sp (bu bZ rfl z_len (show bootBuiltins "len" = some (.builtin "len") by decide +kernel) (ao (aj 0) aA))) (sp aq) (bK _)) (d7 (cF (ie (sp (aJ d__law_whole (hr.mono (by decide)) rfl (ao (sp (aR (aj 0) (sp aq) (fun _ _ => rfl))) aA))))) (ig (cF (ie (sp (aJ d__law_whole (hr.mono (by decide)) rfl (ao (sp (aR (aj 0) (sp aq) (fun _ _ => rfl))) aA)))))))))) (aD (aW cO)) bO)
    (aC (O1 := [.bor, .bor, .bor, .bor]) (cG (g8 (d7 (cF (oK kI kI (sp aq) (sp (aR (aj 0) (sp aq) (fun _ _ => rfl))) (sp aq))) (d7 (cF (oK kI wU (sp aq) (sp (aR (aj 0) (sp aq) (fun _ _ => rfl))) (sp (aG je (sp aq) (sp (aG je (sp aq) (sp (aR (aj 0) (sp aq) (fun _ _ => rfl))))))))) (ig (cF (lF (jj Jp rfl z_isinstance (aj 1) (kE rfl z_list (show bootBuiltins "list" = some (.type "list") by decide +kernel))))))))) (aD (aW cO)) bO)
    (aC (O1 := [.bor, .bor, .bor, .bor]) (cG (g8 (d7 (bH (qT hr.units) (sp (bu bZ rfl z_len (show bootBuiltins "len" = some (.builtin "len") by decide +kernel) (ao (aj 1) aA))) (sp (aR (aj 0) (sp aq) (fun _ _ => rfl))) (bK _)) (ig (bH (yo hr.gO) (sp cO) (sfp (dj ["_law_row"] [3] (Ob := [.imm, .bor]) (O1 := [.imm, .bor]) (is := [0]) rfl rfl rfl rfl (by decide) (lD (aj 1)) (fun _ _ _ _ _ => (aN 0 (show List.Nodup (["_law_row", "_law_wish"] : List Str) by decide +kernel) rfl (Or.inl rfl))) (fun _ _ _ _ _ => cR) (fun _ _ _ _ _ => (lG (yo hr.gO) (aj 0) (sp (aR (aj 1) (sp aq) (fun _ _ => rfl))) rfl)))) rfl)))) (aD (aW cO)) bO)
    (aD (aW (nU (aJ d__law_keep_all (hr.mono (by decide)) rfl (ao (aj 0) (ao (aj 2) aA))) (p7 (lG (ju hr.gO) (sp (aJ d__law_put (hr.mono (by decide)) rfl (ao (aj 0) (ao (aj 1) (ao (sp (aR (aj 3) (sp aq) (fun _ _ => rfl))) aA))))) (sp (aR (aj 3) (sp aq) (fun _ _ => rfl))) rfl))))))))
theorem tV (F : At K mg "_law_answered" eQ ["_law_found", "_law_relations_here", "_law_wish"]) (d__law_gate_right : Def P w K mg base 4 "_law_gate_right" ["_law_gate_here", "_law_rows", "_law_relations_here", "_law_wish"] (spF K [.bor, .bor, .bor, .bor] .f eV)) (d__law_formula_right : Def P w K mg base 3 "_law_formula_right" ["_law_formula_here", "_law_relations_here", "_law_wish"] (spF K [.imm, .bor, .bor] .f di)) (z_isinstance : mg "isinstance" = none) (z_len : mg "len" = none) (z_tuple : mg "tuple" = none) : Def P w K mg base 5 "_law_answered" ["_law_found", "_law_relations_here", "_law_wish"] (spF K [.bor, .bor, .bor] .f eO) :=
  bA (N := ["_law_found", "_law_relations_here", "_law_wish"]) (fs := [.bor, .bor, .bor]) (O := [.bor, .bor, .bor]) (O' := []) (Ol := []) (rm := .f) F tU rfl (by decide) (by decide) fun f cdv A outer s H E hr =>
  (aC (O1 := [.bor, .bor, .bor]) (cG (g8 (d7 (cF (lF (jj iz rfl z_isinstance (aj 0) (kE rfl z_tuple (show bootBuiltins "tuple" = some (.type "tuple") by decide +kernel))))) (ig (bH wU (sp (bu bZ rfl z_len (show bootBuiltins "len" = some (.builtin "len") by decide +kernel) (ao (aj 0) aA))) (sp aq) (bK _))))) (aD (aW cO)) bO)
    (aC (O1 := [.bor, .bor, .bor]) (cG (bH (pq hr.units) (sp (aR (aj 0) (sp aq) (fun _ _ => rfl))) (sp qg) (bK _)) (aD (aW (nU (lG (pq hr.units) (sp (bu bZ rfl z_len (show bootBuiltins "len" = some (.builtin "len") by decide +kernel) (ao (aj 0) aA))) (sp aq) (bK _)) (p7 (aJ d__law_formula_right (hr.mono (by decide)) rfl (mL (aR (aj 0) (sp aq) (fun _ _ => rfl)) (ao (aj 1) (ao (aj 2) aA)))))))) bO)
    (aD (aW (nU (lG (pq hr.units) (sp (aR (aj 0) (sp aq) (fun _ _ => rfl))) (sp qg) (bK _)) (nU (lG (pq hr.units) (sp (bu bZ rfl z_len (show bootBuiltins "len" = some (.builtin "len") by decide +kernel) (ao (aj 0) aA))) (sp aq) (bK _)) (p7 (aJ d__law_gate_right (hr.mono (by decide)) rfl (ao (sp (aR (aj 0) (sp aq) (fun _ _ => rfl))) (ao (sp (aR (aj 0) (sp aq) (fun _ _ => rfl))) (ao (aj 1) (ao (aj 2) aA))))))))))))
theorem rJ (F : At K mg "_law_relations" dI ["_law_script"]) (d__law_cell : Def P w K mg base 1 "_law_cell" ["_law_script", "_law_k"] (spF K [.bor, .bor] .f bF)) (z_range : mg "range" = none) (z_sorted : mg "sorted" = none) (z_tuple : mg "tuple" = none) : Def P w K mg base 2 "_law_relations" ["_law_script"] (spF K [.bor] .t dH) :=
  bA (N := ["_law_script", "_law_found", "_law_k", "_law_cell_here", "_law_width", "_law_rows", "_law_j"]) (fs := [.bor]) (O := [.bor, .own, .imm, .imm, .imm, .own, .imm]) (O' := []) (Ol := []) (rm := .t) F cJ rfl (by decide) (by decide) fun f cdv A outer s H E hr =>
  (aC (O1 := [.bor, .own, .imm, .imm, .imm, .own, .imm]) (iU 1 cJ.nd rfl (Or.inl rfl) (cB bB))
    (aC (O1 := [.bor, .own, .imm, .imm, .imm, .own, .imm]) (bD PassesOwn.never rfl [2, 3, 4, 5, 6] (Oe := [.bor, .own, .imm, .imm, .imm, .own, .imm]) (fK rfl z_range (sp (aG bQ (sp aq) (sp (aG eX (sp (aJ d__law_cell (hr.mono (by decide)) rfl (ao (aj 0) (ao (sp aq) aA)))) (sp aq)))))) (aN 2 cJ.nd rfl (Or.inl rfl)) (aC (O1 := [.bor, .own, .imm, .imm, .imm, .own, .imm]) (bf 3 cJ.nd rfl (Or.inl rfl) (aJ d__law_cell (hr.mono (by decide)) rfl (ao (aj 0) (ao (sp (aG bQ (sp aq) (aj 2))) aA))))
    (aC (O1 := [.bor, .own, .imm, .imm, .imm, .own, .imm]) (bf 4 cJ.nd rfl (Or.inl rfl) (aG bQ (sp aq) (sp (aG eX (aj 3) (sp aq)))))
    (aC (O1 := [.bor, .own, .imm, .imm, .imm, .own, .imm]) (iU 5 cJ.nd rfl (Or.inl rfl) vf)
    (aC (O1 := [.bor, .own, .imm, .imm, .imm, .own, .imm]) (bD PassesOwn.never rfl [6] (Oe := [.bor, .own, .imm, .imm, .imm, .own, .imm]) (fK rfl z_range (sp (aG eX (sp (aG gY (aj 3) (sp aq))) (sp aq)))) (aN 6 cJ.nd rfl (Or.inl rfl)) (aD (uQ 5 hr.gO (aG eX (sp (aG gY (sp (aJ d__law_cell (hr.mono (by decide)) rfl (ao (aj 0) (ao (sp (aG bQ (sp (aG bQ (sp aq) (sp (aG gK (sp aq) (aj 2))))) (aj 6))) aA)))) (sp aq))) (sp (aG je (sp aq) (aj 4)))) cO)) (by decide))
    (aD (nZ 1 (gh (aL (bx 4) (aL (fH gr rfl z_tuple (show bootBuiltins "tuple" = some (.type "tuple") by decide +kernel) (ao (sfp (wX (sY rfl) rfl z_sorted (show bootBuiltins "sorted" = some (.builtin "sorted") by decide +kernel) (ao (aj 5) aA))) aA)) bB))))))))) (by decide))
    (aD (Ao 1))))
theorem uK (F : At K mg "_law_formula" fD ["_law_script", "_law_at", "_law_relations_here"]) (d__law_cell : Def P w K mg base 1 "_law_cell" ["_law_script", "_law_k"] (spF K [.bor, .bor] .f bF)) (z_len : mg "len" = none) (z_range : mg "range" = none) (z_tuple : mg "tuple" = none) : Def P w K mg base 2 "_law_formula" ["_law_script", "_law_at", "_law_relations_here"] (spF K [.bor, .bor, .bor] .f cY) :=
  bA (N := ["_law_script", "_law_at", "_law_relations_here", "_law_cell_here", "_law_width", "_law_parts", "_law_k", "_law_kept", "_law_columns"]) (fs := [.bor, .bor, .bor]) (O := [.bor, .bor, .bor, .imm, .imm, .own, .imm, .imm, .imm]) (O' := []) (Ol := []) (rm := .f) F dz rfl (by decide) (by decide) fun f cdv A outer s H E hr =>
  (aC (O1 := [.bor, .bor, .bor, .imm, .imm, .own, .imm, .imm, .imm]) (bf 3 dz.nd rfl (Or.inl rfl) (aJ d__law_cell (hr.mono (by decide)) rfl (ao (aj 0) (ao (aj 1) aA))))
    (aC (O1 := [.bor, .bor, .bor, .imm, .imm, .own, .imm, .imm, .imm]) (bf 4 dz.nd rfl (Or.inr rfl) (aG bQ (sp aq) (sp (aG eX (aj 3) (sp aq)))))
    (aC (O1 := [.bor, .bor, .bor, .imm, .imm, .own, .imm, .imm, .imm]) (iU 5 dz.nd rfl (Or.inl rfl) (cB bB))
    (aC (O1 := [.bor, .bor, .bor, .imm, .imm, .own, .imm, .imm, .imm]) (bD PassesOwn.never rfl [6, 7] (Oe := [.bor, .bor, .bor, .imm, .imm, .own, .imm, .imm, .imm]) (fK rfl z_range (sp (aG eX (sp (aG gY (aj 3) (sp aq))) (sp aq)))) (aN 6 dz.nd rfl (Or.inr rfl)) (aC (O1 := [.bor, .bor, .bor, .imm, .imm, .own, .imm, .imm, .imm]) (bf 7 dz.nd rfl (Or.inl rfl) (aR (aj 2) (sp (aG eX (sp (aG gY (sp (aJ d__law_cell (hr.mono (by decide)) rfl (ao (aj 0) (ao (sp (aG bQ (sp (aG bQ (aj 1) (sp aq))) (aj 6))) aA)))) (sp aq))) (sp (bu bZ rfl z_len (show bootBuiltins "len" = some (.builtin "len") by decide +kernel) (ao (aj 2) aA))))) (fun _ _ => rfl)))
    (aD (nZ 5 (gh (aL (bx 7) (aL (fH gr rfl z_tuple (show bootBuiltins "tuple" = some (.type "tuple") by decide +kernel) (ao (sfp (dj ["_law_j"] [0, 1, 6, 4] (Ob := [.imm, .bor, .bor, .imm, .imm]) (O1 := [.imm, .bor, .bor, .imm, .imm]) (is := [0]) rfl rfl rfl rfl (by decide) (ik rfl z_range (sp (aR (aj 7) (sp aq) (fun _ _ => rfl)))) (fun _ _ _ _ _ => (aN 0 (show List.Nodup (["_law_j", "_law_script", "_law_at", "_law_k", "_law_width"] : List Str) by decide +kernel) rfl (Or.inl rfl))) (fun _ _ _ _ _ => cR) (fun _ _ _ _ _ => (aG eX (sp (aG gY (sp (aJ d__law_cell (hr.mono (by decide)) rfl (ao (aj 1) (ao (sp (aG bQ (sp (aG bQ (sp (aG bQ (aj 2) (sp aq))) (sp (aG gK (sp aq) (aj 3))))) (aj 0))) aA)))) (sp aq))) (aj 4))))) aA)) bB)))))) (by decide))
    (aC (O1 := [.bor, .bor, .bor, .imm, .imm, .own, .imm, .imm, .imm]) (bf 8 dz.nd rfl (Or.inl rfl) (fH gr rfl z_tuple (show bootBuiltins "tuple" = some (.type "tuple") by decide +kernel) (ao (sfp (dj ["_law_k"] [0, 1, 4] (Ob := [.imm, .bor, .bor, .imm]) (O1 := [.imm, .bor, .bor, .imm]) (is := [0]) rfl rfl rfl rfl (by decide) (ik rfl z_range (sp (aG eX (sp (aG gY (aj 3) (sp aq))) (sp aq)))) (fun _ _ _ _ _ => (aN 0 (show List.Nodup (["_law_k", "_law_script", "_law_at", "_law_width"] : List Str) by decide +kernel) rfl (Or.inl rfl))) (fun _ _ _ _ _ => cR) (fun _ _ _ _ _ => (aG eX (sp (aG gY (sp (aJ d__law_cell (hr.mono (by decide)) rfl (ao (aj 1) (ao (sp (aG bQ (sp (aG bQ (aj 2) (sp aq))) (aj 0))) aA)))) (sp aq))) (aj 3))))) aA)))
    (aD (aW (gh (aL (bx 4) (aL (fH gr rfl z_tuple (show bootBuiltins "tuple" = some (.type "tuple") by decide +kernel) (ao (aj 5) aA)) (aL (bx 8) bB)))))))))))
theorem sU (F : At K mg "_law_told_made" dM ["_law_relations_here", "_law_wish"]) (d_made_of : Def P w K mg base 6 "made_of" ["relations", "wish"] (spF K [.bor, .bor] .f jt)) (d__law_answered : Def P w K mg base 5 "_law_answered" ["_law_found", "_law_relations_here", "_law_wish"] (spF K [.bor, .bor, .bor] .f eO)) : Def P w K mg base 7 "_law_told_made" ["_law_relations_here", "_law_wish"] (spF K [.bor, .bor] .f bY) :=
  bA (N := ["_law_relations_here", "_law_wish", "_law_found"]) (fs := [.bor, .bor]) (O := [.bor, .bor, .imm]) (O' := []) (Ol := []) (rm := .f) F mQ rfl (by decide) (by decide) fun f cdv A outer s H E hr =>
  (aC (O1 := [.bor, .bor, .imm]) (bf 2 mQ.nd rfl (Or.inl rfl) (aJ d_made_of (hr.mono (by decide)) rfl (ao (aj 0) (ao (aj 1) aA))))
    (aD (aW (nU (aJ d__law_answered (hr.mono (by decide)) rfl (ao (aj 2) (ao (aj 0) (ao (aj 1) aA)))) (p7 (lG (pq hr.units) (sp (aR (aj 2) (sp aq) (fun _ _ => rfl))) (sp qg) (bK _)))))))
theorem NQ {fa : Addr} {fd : FuncData} (F : Fun K "law" "law" lO fa fd) (d__law_relations : Def P w K mg base 2 "_law_relations" ["_law_script"] (spF K [.bor] .t dH)) (d__law_told : Def P w K mg base 2 "_law_told" ["_law_formula_here"] (spF K [.imm] .f dZ)) (d__law_gate : Def P w K mg base 1 "_law_gate" ["_law_cell_here", "_law_most"] (spF K [.bor, .bor] .f iV)) (d__law_keep_all : Def P w K mg base 3 "_law_keep_all" ["_law_gate_here", "_law_relations_here"] (spF K [.bor, .bor] .f dq)) (d__law_formula : Def P w K mg base 2 "_law_formula" ["_law_script", "_law_at", "_law_relations_here"] (spF K [.bor, .bor, .bor] .f cY)) (d_relation_of : Def P w K mg base 4 "relation_of" ["formula"] (spF K [.bor] .f cZ)) (d__law_told_made : Def P w K mg base 7 "_law_told_made" ["_law_relations_here", "_law_wish"] (spF K [.bor, .bor] .f bY)) (d__law_cell : Def P w K mg base 1 "_law_cell" ["_law_script", "_law_k"] (spF K [.bor, .bor] .f bF)) (d__law_keeps : Def P w K mg base 2 "_law_keeps" ["_law_gate_here", "_law_kept"] (spF K [.bor, .bor] .f eF)) (d_keeps : Def P w K mg base 5 "keeps" ["gate", "relation"] (spF K [.imm, .bor] .f jU)) (z_len : mg "len" = none) : mU P w K mg base CX0 8 fa fd ["_law_script"] (spF K [.bor] .f nC) :=
  JX (N := ["_law_script", "_law_relations_here", "_law_wishes", "_law_at", "_law_formula_here", "_law_third", "_law_small", "_law_wish", "_law_gate_here"]) (fs := [.bor]) (O := [.bor, .imm, .own, .imm, .imm, .imm, .imm, .imm, .imm]) (O' := []) (Ol := []) (rm := .f) F jf rfl (by decide) (by decide) fun f cdv A outer s H E hr =>
  (aC (O1 := [.bor, .imm, .own, .imm, .imm, .imm, .imm, .imm, .imm]) (bf 1 jf.nd rfl (Or.inl rfl) (sfe (ou d__law_relations (hr.mono (by decide)) rfl (ao (aj 0) aA))))
    (aC (O1 := [.bor, .imm, .own, .imm, .imm, .imm, .imm, .imm, .imm]) (iU 2 jf.nd rfl (Or.inl rfl) (cB bB))
    (aC (O1 := [.bor, .imm, .own, .imm, .imm, .imm, .imm, .imm, .imm]) (bD PassesOwn.never rfl [3, 4] (Oe := [.bor, .imm, .own, .imm, .imm, .imm, .imm, .imm, .imm]) (cj (sq (sfe (cB (aL aq (aL aq bB)))))) (aN 3 jf.nd rfl (Or.inl rfl)) (aC (O1 := [.bor, .imm, .own, .imm, .imm, .imm, .imm, .imm, .imm]) (bf 4 jf.nd rfl (Or.inl rfl) (aJ d__law_formula (hr.mono (by decide)) rfl (ao (aj 0) (ao (aj 3) (ao (aj 1) aA)))))
    (aC (O1 := [.bor, .imm, .own, .imm, .imm, .imm, .imm, .imm, .imm]) (nZ 2 (aJ d__law_told (hr.mono (by decide)) rfl (mL (bx 4) aA)))
    (aD (cG (bH (qT hr.units) (sp (aJ d_relation_of (hr.mono (by decide)) rfl (ao (aj 4) aA))) (sp (aR (aj 2) (sp (Py (sp aq))) (fun _ _ => rfl))) (bK _)) (aD (aW cO)) bO)))) (by decide))
    (aC (O1 := [.bor, .imm, .own, .imm, .imm, .imm, .imm, .imm, .imm]) (bf 5 jf.nd rfl (Or.inl rfl) (aJ d__law_told (hr.mono (by decide)) rfl (mL (aJ d__law_formula (hr.mono (by decide)) rfl (ao (aj 0) (ao (sp aq) (ao (aj 2) aA)))) aA)))
    (aC (O1 := [.bor, .imm, .own, .imm, .imm, .imm, .own, .imm, .imm]) (J4 6 ["_law_wish"] [] (Ob := [.imm]) (O1 := [.imm]) (is := [0]) jf.nd rfl (Or.inl rfl) rfl rfl rfl rfl (by decide) (lD (aj 2)) (fun _ _ _ _ _ => (aN 0 (show List.Nodup (["_law_wish"] : List Str) by decide +kernel) rfl (Or.inl rfl))) (fun _ _ _ _ _ => (yW (g8 (sX (bH kI (sp (aR (aj 0) (sp aq) (fun _ _ => rfl))) (sp aq) (bK _)) (u9 (bH kI (sp (bu bZ rfl z_len (show bootBuiltins "len" = some (.builtin "len") by decide +kernel) (ao (sp (aR (aj 0) (sp aq) (fun _ _ => rfl))) aA))) (sp aq) (bK _))))))) (fun _ _ _ _ _ => (bx 0)))
    (aC (O1 := [.bor, .imm, .own, .imm, .imm, .imm, .own, .imm, .imm]) (bD PassesOwn.never rfl [7] (Oe := [.bor, .imm, .own, .imm, .imm, .imm, .own, .imm, .imm]) (cj (sq (aG bQ (aj 6) (sfp (cB (aL (bx 5) bB)))))) (aN 7 jf.nd rfl (Or.inl rfl)) (aD (cG (g8 (sX (bH kI (sp (bu bZ rfl z_len (show bootBuiltins "len" = some (.builtin "len") by decide +kernel) (ao (sp (aR (aj 7) (sp aq) (fun _ _ => rfl))) aA))) (sp aq) (bK _)) (u9 (cF (ie (sp (aJ d__law_told_made (hr.mono (by decide)) rfl (ao (aj 1) (ao (aj 7) aA))))))))) (aD (aW cO)) bO)) (by decide))
    (aC (O1 := [.bor, .imm, .own, .imm, .imm, .imm, .own, .imm, .imm]) (cG (g8 (sX (bH (pq hr.units) (sp (bu bZ rfl z_len (show bootBuiltins "len" = some (.builtin "len") by decide +kernel) (ao (aj 6) aA))) (sp aq) (bK _)) (sX (bH kI (sp (bu bZ rfl z_len (show bootBuiltins "len" = some (.builtin "len") by decide +kernel) (ao (sp (aR (aj 5) (sp aq) (fun _ _ => rfl))) aA))) (sp aq) (bK _)) (u9 (cF (ie (sp (aJ d__law_told_made (hr.mono (by decide)) rfl (ao (aj 6) (ao (aj 5) aA)))))))))) (aD (aW cO)) bO)
    (aC (O1 := [.bor, .imm, .own, .imm, .imm, .imm, .own, .imm, .imm]) (bf 8 jf.nd rfl (Or.inl rfl) (aJ d__law_gate (hr.mono (by decide)) rfl (ao (sp (aG gY (sp (aJ d__law_cell (hr.mono (by decide)) rfl (ao (aj 0) (ao (sp aq) aA)))) (sp aq))) (ao (sp aq) aA))))
    (aC (O1 := [.bor, .imm, .own, .imm, .imm, .imm, .own, .imm, .imm]) (cG (ie (sp (aJ d__law_keep_all (hr.mono (by decide)) rfl (ao (aj 8) (ao (aj 1) aA))))) (aD (bD PassesOwn.never rfl [7] (Oe := [.bor, .imm, .own, .imm, .imm, .imm, .own, .imm, .imm]) (cj (sq (aG bQ (aj 2) (sfp (cB (aL (bx 5) bB)))))) (aN 7 jf.nd rfl (Or.inl rfl)) (aD (cG (g8 (d7 (cF (ie (sp (aJ d__law_keeps (hr.mono (by decide)) rfl (ao (aj 8) (ao (aj 7) aA)))))) (ig (cF (ie (sp (aJ d_keeps (hr.mono (by decide)) rfl (mL (bx 8) (ao (aj 7) aA))))))))) (aD (aW cO)) bO)) (by decide))) bO)
    (aD (aW cO)))))))))))
end
theorem all_mk {l : PySem.W.OpenLaw} {w : World} {K : PySem.W.Frag} {h : Heap} {mg : Str → Option Value} {fa : Addr} (X : K.In h) (G : h.Ns mainGlobals mg) (hfa : mg "law" = some (.ref fa))
    {f0 : Addr} {od0 an0 : Option Addr} {sl0 : Array (Option Value)} {oc0 kV0 dc0 pm0 cd0 ct0 : Value}
    {f1 : Addr} {od1 an1 : Option Addr} {sl1 : Array (Option Value)} {oc1 kV1 dc1 pm1 cd1 ct1 : Value}
    {f2 : Addr} {od2 an2 : Option Addr} {sl2 : Array (Option Value)} {oc2 kV2 dc2 pm2 cd2 ct2 : Value}
    {f3 : Addr} {od3 an3 : Option Addr} {sl3 : Array (Option Value)} {oc3 kV3 dc3 pm3 cd3 ct3 : Value}
    {f4 : Addr} {od4 an4 : Option Addr} {sl4 : Array (Option Value)} {oc4 kV4 dc4 pm4 cd4 ct4 : Value}
    {f5 : Addr} {od5 an5 : Option Addr} {sl5 : Array (Option Value)} {oc5 kV5 dc5 pm5 cd5 ct5 : Value}
    {f6 : Addr} {od6 an6 : Option Addr} {sl6 : Array (Option Value)} {oc6 kV6 dc6 pm6 cd6 ct6 : Value}
    {f7 : Addr} {od7 an7 : Option Addr} {sl7 : Array (Option Value)} {oc7 kV7 dc7 pm7 cd7 ct7 : Value}
    {f8 : Addr} {od8 an8 : Option Addr} {sl8 : Array (Option Value)} {oc8 kV8 dc8 pm8 cd8 ct8 : Value}
    {f9 : Addr} {od9 an9 : Option Addr} {sl9 : Array (Option Value)} {oc9 kV9 dc9 pm9 cd9 ct9 : Value}
    {f10 : Addr} {od10 an10 : Option Addr} {sl10 : Array (Option Value)} {oc10 kV10 dc10 pm10 cd10 ct10 : Value}
    {f11 : Addr} {od11 an11 : Option Addr} {sl11 : Array (Option Value)} {oc11 kV11 dc11 pm11 cd11 ct11 : Value}
    {f12 : Addr} {od12 an12 : Option Addr} {sl12 : Array (Option Value)} {oc12 kV12 dc12 pm12 cd12 ct12 : Value}
    {f13 : Addr} {od13 an13 : Option Addr} {sl13 : Array (Option Value)} {oc13 kV13 dc13 pm13 cd13 ct13 : Value}
    {f14 : Addr} {od14 an14 : Option Addr} {sl14 : Array (Option Value)} {oc14 kV14 dc14 pm14 cd14 ct14 : Value}
    {f15 : Addr} {od15 an15 : Option Addr} {sl15 : Array (Option Value)} {oc15 kV15 dc15 pm15 cd15 ct15 : Value}
    {f16 : Addr} {od16 an16 : Option Addr} {sl16 : Array (Option Value)} {oc16 kV16 dc16 pm16 cd16 ct16 : Value}
    {f17 : Addr} {od17 an17 : Option Addr} {sl17 : Array (Option Value)} {oc17 kV17 dc17 pm17 cd17 ct17 : Value}
    {f18 : Addr} {od18 an18 : Option Addr} {sl18 : Array (Option Value)} {oc18 kV18 dc18 pm18 cd18 ct18 : Value}
    {f19 : Addr} {od19 an19 : Option Addr} {sl19 : Array (Option Value)} {oc19 kV19 dc19 pm19 cd19 ct19 : Value}
    {f20 : Addr} {od20 an20 : Option Addr} {sl20 : Array (Option Value)} {oc20 kV20 dc20 pm20 cd20 ct20 : Value}
    {f21 : Addr} {od21 an21 : Option Addr} {sl21 : Array (Option Value)} {oc21 kV21 dc21 pm21 cd21 ct21 : Value}
    {f22 : Addr} {od22 an22 : Option Addr} {sl22 : Array (Option Value)} {oc22 kV22 dc22 pm22 cd22 ct22 : Value}
    {f23 : Addr} {od23 an23 : Option Addr} {sl23 : Array (Option Value)} {oc23 kV23 dc23 pm23 cd23 ct23 : Value}
    {f24 : Addr} {od24 an24 : Option Addr} {sl24 : Array (Option Value)} {oc24 kV24 dc24 pm24 cd24 ct24 : Value}
    {f25 : Addr} {od25 an25 : Option Addr} {sl25 : Array (Option Value)} {oc25 kV25 dc25 pm25 cd25 ct25 : Value}
    {f26 : Addr} {od26 an26 : Option Addr} {sl26 : Array (Option Value)} {oc26 kV26 dc26 pm26 cd26 ct26 : Value}
    {f27 : Addr} {od27 an27 : Option Addr} {sl27 : Array (Option Value)} {oc27 kV27 dc27 pm27 cd27 ct27 : Value}
    {f28 : Addr} {od28 an28 : Option Addr} {sl28 : Array (Option Value)} {oc28 kV28 dc28 pm28 cd28 ct28 : Value}
    {f29 : Addr} {od29 an29 : Option Addr} {sl29 : Array (Option Value)} {oc29 kV29 dc29 pm29 cd29 ct29 : Value}
    {f30 : Addr} {od30 an30 : Option Addr} {sl30 : Array (Option Value)} {oc30 kV30 dc30 pm30 cd30 ct30 : Value}
    {f31 : Addr} {od31 an31 : Option Addr} {sl31 : Array (Option Value)} {oc31 kV31 dc31 pm31 cd31 ct31 : Value}
    {f32 : Addr} {od32 an32 : Option Addr} {sl32 : Array (Option Value)} {oc32 kV32 dc32 pm32 cd32 ct32 : Value}
    {f33 : Addr} {od33 an33 : Option Addr} {sl33 : Array (Option Value)} {oc33 kV33 dc33 pm33 cd33 ct33 : Value}
    {f34 : Addr} {od34 an34 : Option Addr} {sl34 : Array (Option Value)} {oc34 kV34 dc34 pm34 cd34 ct34 : Value}
    {f35 : Addr} {od35 an35 : Option Addr} {sl35 : Array (Option Value)} {oc35 kV35 dc35 pm35 cd35 ct35 : Value}
    {f36 : Addr} {od36 an36 : Option Addr} {sl36 : Array (Option Value)} {oc36 kV36 dc36 pm36 cd36 ct36 : Value}
    {f37 : Addr} {od37 an37 : Option Addr} {sl37 : Array (Option Value)} {oc37 kV37 dc37 pm37 cd37 ct37 : Value}
    {t_MOST_COLUMNS : Tok}
    {t_MOST_KEPT_LISTS : Tok}
    {t_MOST_LISTS : Tok}
    {t_MOST_WISHED_COLUMNS : Tok}
    {t_MOST_WISHED_ROWS : Tok}
    (a0 : PySem.W.nsIn K mainGlobals "row_count" = some (some (.ref f0))) (l0 : K.lookup f0 = some ⟨oc0, od0, .func (PySem.W.fnOf "row_count" "row_count" (aM gU) (aK gU) (au gU) .none kV0 dc0 pm0 an0 cd0 ct0), sl0⟩) (c0 : PySem.W.codeIn K cd0 "row_count" = true) (k0 : PySem.W.keepIn K (.ref f0) = true)
    (a1 : PySem.W.nsIn K mainGlobals "bit" = some (some (.ref f1))) (l1 : K.lookup f1 = some ⟨oc1, od1, .func (PySem.W.fnOf "bit" "bit" (aM qL) (aK qL) (au qL) .none kV1 dc1 pm1 an1 cd1 ct1), sl1⟩) (c1 : PySem.W.codeIn K cd1 "bit" = true) (k1 : PySem.W.keepIn K (.ref f1) = true)
    (a2 : PySem.W.nsIn K mainGlobals "number_of" = some (some (.ref f2))) (l2 : K.lookup f2 = some ⟨oc2, od2, .func (PySem.W.fnOf "number_of" "number_of" (aM gP) (aK gP) (au gP) .none kV2 dc2 pm2 an2 cd2 ct2), sl2⟩) (c2 : PySem.W.codeIn K cd2 "number_of" = true) (k2 : PySem.W.keepIn K (.ref f2) = true)
    (a3 : PySem.W.nsIn K mainGlobals "put_all" = some (some (.ref f3))) (l3 : K.lookup f3 = some ⟨oc3, od3, .func (PySem.W.fnOf "put_all" "put_all" (aM jC) (aK jC) (au jC) .none kV3 dc3 pm3 an3 cd3 ct3), sl3⟩) (c3 : PySem.W.codeIn K cd3 "put_all" = true) (k3 : PySem.W.keepIn K (.ref f3) = true)
    (a4 : PySem.W.nsIn K mainGlobals "gathered" = some (some (.ref f4))) (l4 : K.lookup f4 = some ⟨oc4, od4, .func (PySem.W.fnOf "gathered" "gathered" (aM iW) (aK iW) (au iW) .none kV4 dc4 pm4 an4 cd4 ct4), sl4⟩) (c4 : PySem.W.codeIn K cd4 "gathered" = true) (k4 : PySem.W.keepIn K (.ref f4) = true)
    (a5 : PySem.W.nsIn K mainGlobals "marked" = some (some (.ref f5))) (l5 : K.lookup f5 = some ⟨oc5, od5, .func (PySem.W.fnOf "marked" "marked" (aM jY) (aK jY) (au jY) .none kV5 dc5 pm5 an5 cd5 ct5), sl5⟩) (c5 : PySem.W.codeIn K cd5 "marked" = true) (k5 : PySem.W.keepIn K (.ref f5) = true)
    (a6 : PySem.W.nsIn K mainGlobals "put_rows" = some (some (.ref f6))) (l6 : K.lookup f6 = some ⟨oc6, od6, .func (PySem.W.fnOf "put_rows" "put_rows" (aM iD) (aK iD) (au iD) .none kV6 dc6 pm6 an6 cd6 ct6), sl6⟩) (c6 : PySem.W.codeIn K cd6 "put_rows" = true) (k6 : PySem.W.keepIn K (.ref f6) = true)
    (a7 : PySem.W.nsIn K mainGlobals "power" = some (some (.ref f7))) (l7 : K.lookup f7 = some ⟨oc7, od7, .func (PySem.W.fnOf "power" "power" (aM mj) (aK mj) (au mj) .none kV7 dc7 pm7 an7 cd7 ct7), sl7⟩) (c7 : PySem.W.codeIn K cd7 "power" = true) (k7 : PySem.W.keepIn K (.ref f7) = true)
    (a8 : PySem.W.nsIn K mainGlobals "list_count" = some (some (.ref f8))) (l8 : K.lookup f8 = some ⟨oc8, od8, .func (PySem.W.fnOf "list_count" "list_count" (aM gm) (aK gm) (au gm) .none kV8 dc8 pm8 an8 cd8 ct8), sl8⟩) (c8 : PySem.W.codeIn K cd8 "list_count" = true) (k8 : PySem.W.keepIn K (.ref f8) = true)
    (a9 : PySem.W.nsIn K mainGlobals "lists_of" = some (some (.ref f9))) (l9 : K.lookup f9 = some ⟨oc9, od9, .func (PySem.W.fnOf "lists_of" "lists_of" (aM iR) (aK iR) (au iR) .none kV9 dc9 pm9 an9 cd9 ct9), sl9⟩) (c9 : PySem.W.codeIn K cd9 "lists_of" = true) (k9 : PySem.W.keepIn K (.ref f9) = true)
    (a10 : PySem.W.nsIn K mainGlobals "broken" = some (some (.ref f10))) (l10 : K.lookup f10 = some ⟨oc10, od10, .func (PySem.W.fnOf "broken" "broken" (aM j5) (aK j5) (au j5) .none kV10 dc10 pm10 an10 cd10 ct10), sl10⟩) (c10 : PySem.W.codeIn K cd10 "broken" = true) (k10 : PySem.W.keepIn K (.ref f10) = true)
    (a11 : PySem.W.nsIn K mainGlobals "keeps" = some (some (.ref f11))) (l11 : K.lookup f11 = some ⟨oc11, od11, .func (PySem.W.fnOf "keeps" "keeps" (aM mC) (aK mC) (au mC) .none kV11 dc11 pm11 an11 cd11 ct11), sl11⟩) (c11 : PySem.W.codeIn K cd11 "keeps" = true) (k11 : PySem.W.keepIn K (.ref f11) = true)
    (a12 : PySem.W.nsIn K mainGlobals "picked_row" = some (some (.ref f12))) (l12 : K.lookup f12 = some ⟨oc12, od12, .func (PySem.W.fnOf "picked_row" "picked_row" (aM fY) (aK fY) (au fY) .none kV12 dc12 pm12 an12 cd12 ct12), sl12⟩) (c12 : PySem.W.codeIn K cd12 "picked_row" = true) (k12 : PySem.W.keepIn K (.ref f12) = true)
    (a13 : PySem.W.nsIn K mainGlobals "picked" = some (some (.ref f13))) (l13 : K.lookup f13 = some ⟨oc13, od13, .func (PySem.W.fnOf "picked" "picked" (aM jV) (aK jV) (au jV) .none kV13 dc13 pm13 an13 cd13 ct13), sl13⟩) (c13 : PySem.W.codeIn K cd13 "picked" = true) (k13 : PySem.W.keepIn K (.ref f13) = true)
    (a14 : PySem.W.nsIn K mainGlobals "rows_with_part" = some (some (.ref f14))) (l14 : K.lookup f14 = some ⟨oc14, od14, .func (PySem.W.fnOf "rows_with_part" "rows_with_part" (aM dw) (aK dw) (au dw) .none kV14 dc14 pm14 an14 cd14 ct14), sl14⟩) (c14 : PySem.W.codeIn K cd14 "rows_with_part" = true) (k14 : PySem.W.keepIn K (.ref f14) = true)
    (a15 : PySem.W.nsIn K mainGlobals "relation_of" = some (some (.ref f15))) (l15 : K.lookup f15 = some ⟨oc15, od15, .func (PySem.W.fnOf "relation_of" "relation_of" (aM fG) (aK fG) (au fG) .none kV15 dc15 pm15 an15 cd15 ct15), sl15⟩) (c15 : PySem.W.codeIn K cd15 "relation_of" = true) (k15 : PySem.W.keepIn K (.ref f15) = true)
    (a16 : PySem.W.nsIn K mainGlobals "place" = some (some (.ref f16))) (l16 : K.lookup f16 = some ⟨oc16, od16, .func (PySem.W.fnOf "place" "place" (aM mq) (aK mq) (au mq) .none kV16 dc16 pm16 an16 cd16 ct16), sl16⟩) (c16 : PySem.W.codeIn K cd16 "place" = true) (k16 : PySem.W.keepIn K (.ref f16) = true)
    (a17 : PySem.W.nsIn K mainGlobals "places" = some (some (.ref f17))) (l17 : K.lookup f17 = some ⟨oc17, od17, .func (PySem.W.fnOf "places" "places" (aM jZ) (aK jZ) (au jZ) .none kV17 dc17 pm17 an17 cd17 ct17), sl17⟩) (c17 : PySem.W.codeIn K cd17 "places" = true) (k17 : PySem.W.keepIn K (.ref f17) = true)
    (a18 : PySem.W.nsIn K mainGlobals "refuse_great" = some (some (.ref f18))) (l18 : K.lookup f18 = some ⟨oc18, od18, .func (PySem.W.fnOf "refuse_great" "refuse_great" (aM eU) (aK eU) (au eU) .none kV18 dc18 pm18 an18 cd18 ct18), sl18⟩) (c18 : PySem.W.codeIn K cd18 "refuse_great" = true) (k18 : PySem.W.keepIn K (.ref f18) = true)
    (a19 : PySem.W.nsIn K mainGlobals "keeping_parts" = some (some (.ref f19))) (l19 : K.lookup f19 = some ⟨oc19, od19, .func (PySem.W.fnOf "keeping_parts" "keeping_parts" (aM dO) (aK dO) (au dO) .none kV19 dc19 pm19 an19 cd19 ct19), sl19⟩) (c19 : PySem.W.codeIn K cd19 "keeping_parts" = true) (k19 : PySem.W.keepIn K (.ref f19) = true)
    (a20 : PySem.W.nsIn K mainGlobals "keepers" = some (some (.ref f20))) (l20 : K.lookup f20 = some ⟨oc20, od20, .func (PySem.W.fnOf "keepers" "keepers" (aM jw) (aK jw) (au jw) .none kV20 dc20 pm20 an20 cd20 ct20), sl20⟩) (c20 : PySem.W.codeIn K cd20 "keepers" = true) (k20 : PySem.W.keepIn K (.ref f20) = true)
    (a21 : PySem.W.nsIn K mainGlobals "made_of" = some (some (.ref f21))) (l21 : K.lookup f21 = some ⟨oc21, od21, .func (PySem.W.fnOf "made_of" "made_of" (aM jy) (aK jy) (au jy) .none kV21 dc21 pm21 an21 cd21 ct21), sl21⟩) (c21 : PySem.W.codeIn K cd21 "made_of" = true) (k21 : PySem.W.keepIn K (.ref f21) = true)
    (a22 : PySem.W.nsIn K mainGlobals "_law_cell" = some (some (.ref f22))) (l22 : K.lookup f22 = some ⟨oc22, od22, .func (PySem.W.fnOf "_law_cell" "_law_cell" (aM iI) (aK iI) (au iI) .none kV22 dc22 pm22 an22 cd22 ct22), sl22⟩) (c22 : PySem.W.codeIn K cd22 "_law_cell" = true) (k22 : PySem.W.keepIn K (.ref f22) = true)
    (a23 : PySem.W.nsIn K mainGlobals "_law_gate" = some (some (.ref f23))) (l23 : K.lookup f23 = some ⟨oc23, od23, .func (PySem.W.fnOf "_law_gate" "_law_gate" (aM iM) (aK iM) (au iM) .none kV23 dc23 pm23 an23 cd23 ct23), sl23⟩) (c23 : PySem.W.codeIn K cd23 "_law_gate" = true) (k23 : PySem.W.keepIn K (.ref f23) = true)
    (a24 : PySem.W.nsIn K mainGlobals "_law_put" = some (some (.ref f24))) (l24 : K.lookup f24 = some ⟨oc24, od24, .func (PySem.W.fnOf "_law_put" "_law_put" (aM jB) (aK jB) (au jB) .none kV24 dc24 pm24 an24 cd24 ct24), sl24⟩) (c24 : PySem.W.codeIn K cd24 "_law_put" = true) (k24 : PySem.W.keepIn K (.ref f24) = true)
    (a25 : PySem.W.nsIn K mainGlobals "_law_lists" = some (some (.ref f25))) (l25 : K.lookup f25 = some ⟨oc25, od25, .func (PySem.W.fnOf "_law_lists" "_law_lists" (aM gQ) (aK gQ) (au gQ) .none kV25 dc25 pm25 an25 cd25 ct25), sl25⟩) (c25 : PySem.W.codeIn K cd25 "_law_lists" = true) (k25 : PySem.W.keepIn K (.ref f25) = true)
    (a26 : PySem.W.nsIn K mainGlobals "_law_keeps" = some (some (.ref f26))) (l26 : K.lookup f26 = some ⟨oc26, od26, .func (PySem.W.fnOf "_law_keeps" "_law_keeps" (aM gR) (aK gR) (au gR) .none kV26 dc26 pm26 an26 cd26 ct26), sl26⟩) (c26 : PySem.W.codeIn K cd26 "_law_keeps" = true) (k26 : PySem.W.keepIn K (.ref f26) = true)
    (a27 : PySem.W.nsIn K mainGlobals "_law_keep_all" = some (some (.ref f27))) (l27 : K.lookup f27 = some ⟨oc27, od27, .func (PySem.W.fnOf "_law_keep_all" "_law_keep_all" (aM eN) (aK eN) (au eN) .none kV27 dc27 pm27 an27 cd27 ct27), sl27⟩) (c27 : PySem.W.codeIn K cd27 "_law_keep_all" = true) (k27 : PySem.W.keepIn K (.ref f27) = true)
    (a28 : PySem.W.nsIn K mainGlobals "_law_bits" = some (some (.ref f28))) (l28 : K.lookup f28 = some ⟨oc28, od28, .func (PySem.W.fnOf "_law_bits" "_law_bits" (aM iC) (aK iC) (au iC) .none kV28 dc28 pm28 an28 cd28 ct28), sl28⟩) (c28 : PySem.W.codeIn K cd28 "_law_bits" = true) (k28 : PySem.W.keepIn K (.ref f28) = true)
    (a29 : PySem.W.nsIn K mainGlobals "_law_told" = some (some (.ref f29))) (l29 : K.lookup f29 = some ⟨oc29, od29, .func (PySem.W.fnOf "_law_told" "_law_told" (aM iK) (aK iK) (au iK) .none kV29 dc29 pm29 an29 cd29 ct29), sl29⟩) (c29 : PySem.W.codeIn K cd29 "_law_told" = true) (k29 : PySem.W.keepIn K (.ref f29) = true)
    (a30 : PySem.W.nsIn K mainGlobals "_law_whole" = some (some (.ref f30))) (l30 : K.lookup f30 = some ⟨oc30, od30, .func (PySem.W.fnOf "_law_whole" "_law_whole" (aM gW) (aK gW) (au gW) .none kV30 dc30 pm30 an30 cd30 ct30), sl30⟩) (c30 : PySem.W.codeIn K cd30 "_law_whole" = true) (k30 : PySem.W.keepIn K (.ref f30) = true)
    (a31 : PySem.W.nsIn K mainGlobals "_law_formula_right" = some (some (.ref f31))) (l31 : K.lookup f31 = some ⟨oc31, od31, .func (PySem.W.fnOf "_law_formula_right" "_law_formula_right" (aM cz) (aK cz) (au cz) .none kV31 dc31 pm31 an31 cd31 ct31), sl31⟩) (c31 : PySem.W.codeIn K cd31 "_law_formula_right" = true) (k31 : PySem.W.keepIn K (.ref f31) = true)
    (a32 : PySem.W.nsIn K mainGlobals "_law_gate_right" = some (some (.ref f32))) (l32 : K.lookup f32 = some ⟨oc32, od32, .func (PySem.W.fnOf "_law_gate_right" "_law_gate_right" (aM du) (aK du) (au du) .none kV32 dc32 pm32 an32 cd32 ct32), sl32⟩) (c32 : PySem.W.codeIn K cd32 "_law_gate_right" = true) (k32 : PySem.W.keepIn K (.ref f32) = true)
    (a33 : PySem.W.nsIn K mainGlobals "_law_answered" = some (some (.ref f33))) (l33 : K.lookup f33 = some ⟨oc33, od33, .func (PySem.W.fnOf "_law_answered" "_law_answered" (aM eQ) (aK eQ) (au eQ) .none kV33 dc33 pm33 an33 cd33 ct33), sl33⟩) (c33 : PySem.W.codeIn K cd33 "_law_answered" = true) (k33 : PySem.W.keepIn K (.ref f33) = true)
    (a34 : PySem.W.nsIn K mainGlobals "_law_relations" = some (some (.ref f34))) (l34 : K.lookup f34 = some ⟨oc34, od34, .func (PySem.W.fnOf "_law_relations" "_law_relations" (aM dI) (aK dI) (au dI) .none kV34 dc34 pm34 an34 cd34 ct34), sl34⟩) (c34 : PySem.W.codeIn K cd34 "_law_relations" = true) (k34 : PySem.W.keepIn K (.ref f34) = true)
    (a35 : PySem.W.nsIn K mainGlobals "_law_formula" = some (some (.ref f35))) (l35 : K.lookup f35 = some ⟨oc35, od35, .func (PySem.W.fnOf "_law_formula" "_law_formula" (aM fD) (aK fD) (au fD) .none kV35 dc35 pm35 an35 cd35 ct35), sl35⟩) (c35 : PySem.W.codeIn K cd35 "_law_formula" = true) (k35 : PySem.W.keepIn K (.ref f35) = true)
    (a36 : PySem.W.nsIn K mainGlobals "_law_told_made" = some (some (.ref f36))) (l36 : K.lookup f36 = some ⟨oc36, od36, .func (PySem.W.fnOf "_law_told_made" "_law_told_made" (aM dM) (aK dM) (au dM) .none kV36 dc36 pm36 an36 cd36 ct36), sl36⟩) (c36 : PySem.W.codeIn K cd36 "_law_told_made" = true) (k36 : PySem.W.keepIn K (.ref f36) = true)
    (a37 : PySem.W.nsIn K mainGlobals "law" = some (some (.ref f37))) (l37 : K.lookup f37 = some ⟨oc37, od37, .func (PySem.W.fnOf "law" "law" (aM lO) (aK lO) (au lO) .none kV37 dc37 pm37 an37 cd37 ct37), sl37⟩) (c37 : PySem.W.codeIn K cd37 "law" = true) (k37 : PySem.W.keepIn K (.ref f37) = true)
    (y_bool : PySem.W.nsIn K mainGlobals "bool" = some none)
    (y_int : PySem.W.nsIn K mainGlobals "int" = some none)
    (y_isinstance : PySem.W.nsIn K mainGlobals "isinstance" = some none)
    (y_len : PySem.W.nsIn K mainGlobals "len" = some none)
    (y_list : PySem.W.nsIn K mainGlobals "list" = some none)
    (y_min : PySem.W.nsIn K mainGlobals "min" = some none)
    (y_range : PySem.W.nsIn K mainGlobals "range" = some none)
    (y_reversed : PySem.W.nsIn K mainGlobals "reversed" = some none)
    (y_set : PySem.W.nsIn K mainGlobals "set" = some none)
    (y_sorted : PySem.W.nsIn K mainGlobals "sorted" = some none)
    (y_sum : PySem.W.nsIn K mainGlobals "sum" = some none)
    (y_tuple : PySem.W.nsIn K mainGlobals "tuple" = some none)
    (y_MOST_COLUMNS : PySem.W.nsIn K mainGlobals "MOST_COLUMNS" = some (some (.int 4 t_MOST_COLUMNS)))
    (y_MOST_KEPT_LISTS : PySem.W.nsIn K mainGlobals "MOST_KEPT_LISTS" = some (some (.int 64 t_MOST_KEPT_LISTS)))
    (y_MOST_LISTS : PySem.W.nsIn K mainGlobals "MOST_LISTS" = some (some (.int 20000 t_MOST_LISTS)))
    (y_MOST_WISHED_COLUMNS : PySem.W.nsIn K mainGlobals "MOST_WISHED_COLUMNS" = some (some (.int 8 t_MOST_WISHED_COLUMNS)))
    (y_MOST_WISHED_ROWS : PySem.W.nsIn K mainGlobals "MOST_WISHED_ROWS" = some (some (.int 3 t_MOST_WISHED_ROWS))) :
    ∃ fd : FuncData, (∀ (s : Shared) (v : Value), BindsTo s fd ⟨[v], []⟩ [("_law_script", v)]) ∧ ∀ base : Heap, K.In base → base.Ns mainGlobals mg → mU l.prog w K mg base CX0 8 fa fd ["_law_script"] (spF K [.bor] .f nC) := by
  have F_row_count : At K mg "row_count" gU ["inputs"] := At.mk' (PySem.W.mg_of X G a0) l0 c0 k0 (qj (fun _ _ _ _ _ _ _ => rfl) rfl)
  have F_bit : At K mg "bit" qL ["number", "place"] := At.mk' (PySem.W.mg_of X G a1) l1 c1 k1 (fC (fun _ _ _ _ _ _ _ _ => rfl) rfl)
  have F_number_of : At K mg "number_of" gP ["figures"] := At.mk' (PySem.W.mg_of X G a2) l2 c2 k2 (qj (fun _ _ _ _ _ _ _ => rfl) rfl)
  have F_put_all : At K mg "put_all" jC ["gate", "numbers", "full"] := At.mk' (PySem.W.mg_of X G a3) l3 c3 k3 (uO (fun _ _ _ _ _ _ _ _ _ => rfl) rfl)
  have F_gathered : At K mg "gathered" iW ["width", "rows"] := At.mk' (PySem.W.mg_of X G a4) l4 c4 k4 (fC (fun _ _ _ _ _ _ _ _ => rfl) rfl)
  have F_marked : At K mg "marked" jY ["rows"] := At.mk' (PySem.W.mg_of X G a5) l5 c5 k5 (qj (fun _ _ _ _ _ _ _ => rfl) rfl)
  have F_put_rows : At K mg "put_rows" iD ["gate", "rows", "width"] := At.mk' (PySem.W.mg_of X G a6) l6 c6 k6 (uO (fun _ _ _ _ _ _ _ _ _ => rfl) rfl)
  have F_power : At K mg "power" mj ["base", "exponent"] := At.mk' (PySem.W.mg_of X G a7) l7 c7 k7 (fC (fun _ _ _ _ _ _ _ _ => rfl) rfl)
  have F_list_count : At K mg "list_count" gm ["count", "gates"] := At.mk' (PySem.W.mg_of X G a8) l8 c8 k8 (fC (fun _ _ _ _ _ _ _ _ => rfl) rfl)
  have F_lists_of : At K mg "lists_of" iR ["choices"] := At.mk' (PySem.W.mg_of X G a9) l9 c9 k9 (qj (fun _ _ _ _ _ _ _ => rfl) rfl)
  have F_broken : At K mg "broken" j5 ["gate", "relation"] := At.mk' (PySem.W.mg_of X G a10) l10 c10 k10 (fC (fun _ _ _ _ _ _ _ _ => rfl) rfl)
  have F_keeps : At K mg "keeps" mC ["gate", "relation"] := At.mk' (PySem.W.mg_of X G a11) l11 c11 k11 (fC (fun _ _ _ _ _ _ _ _ => rfl) rfl)
  have F_picked_row : At K mg "picked_row" fY ["row", "columns"] := At.mk' (PySem.W.mg_of X G a12) l12 c12 k12 (fC (fun _ _ _ _ _ _ _ _ => rfl) rfl)
  have F_picked : At K mg "picked" jV ["relation", "columns"] := At.mk' (PySem.W.mg_of X G a13) l13 c13 k13 (fC (fun _ _ _ _ _ _ _ _ => rfl) rfl)
  have F_rows_with_part : At K mg "rows_with_part" dw ["rows", "part"] := At.mk' (PySem.W.mg_of X G a14) l14 c14 k14 (fC (fun _ _ _ _ _ _ _ _ => rfl) rfl)
  have F_relation_of : At K mg "relation_of" fG ["formula"] := At.mk' (PySem.W.mg_of X G a15) l15 c15 k15 (qj (fun _ _ _ _ _ _ _ => rfl) rfl)
  have F_place : At K mg "place" mq ["rows", "column"] := At.mk' (PySem.W.mg_of X G a16) l16 c16 k16 (fC (fun _ _ _ _ _ _ _ _ => rfl) rfl)
  have F_places : At K mg "places" jZ ["rows", "width"] := At.mk' (PySem.W.mg_of X G a17) l17 c17 k17 (fC (fun _ _ _ _ _ _ _ _ => rfl) rfl)
  have F_refuse_great : At K mg "refuse_great" eU ["relations", "inputs"] := At.mk' (PySem.W.mg_of X G a18) l18 c18 k18 (fC (fun _ _ _ _ _ _ _ _ => rfl) rfl)
  have F_keeping_parts : At K mg "keeping_parts" dO ["relations", "inputs"] := At.mk' (PySem.W.mg_of X G a19) l19 c19 k19 (fC (fun _ _ _ _ _ _ _ _ => rfl) rfl)
  have F_keepers : At K mg "keepers" jw ["relations", "inputs"] := At.mk' (PySem.W.mg_of X G a20) l20 c20 k20 (fC (fun _ _ _ _ _ _ _ _ => rfl) rfl)
  have F_made_of : At K mg "made_of" jy ["relations", "wish"] := At.mk' (PySem.W.mg_of X G a21) l21 c21 k21 (fC (fun _ _ _ _ _ _ _ _ => rfl) rfl)
  have F_law_cell : At K mg "_law_cell" iI ["_law_script", "_law_k"] := At.mk' (PySem.W.mg_of X G a22) l22 c22 k22 (fC (fun _ _ _ _ _ _ _ _ => rfl) rfl)
  have F_law_gate : At K mg "_law_gate" iM ["_law_cell_here", "_law_most"] := At.mk' (PySem.W.mg_of X G a23) l23 c23 k23 (fC (fun _ _ _ _ _ _ _ _ => rfl) rfl)
  have F_law_put : At K mg "_law_put" jB ["_law_gate_here", "_law_some", "_law_width"] := At.mk' (PySem.W.mg_of X G a24) l24 c24 k24 (uO (fun _ _ _ _ _ _ _ _ _ => rfl) rfl)
  have F_law_lists : At K mg "_law_lists" gQ ["_law_rows", "_law_many"] := At.mk' (PySem.W.mg_of X G a25) l25 c25 k25 (fC (fun _ _ _ _ _ _ _ _ => rfl) rfl)
  have F_law_keeps : At K mg "_law_keeps" gR ["_law_gate_here", "_law_kept"] := At.mk' (PySem.W.mg_of X G a26) l26 c26 k26 (fC (fun _ _ _ _ _ _ _ _ => rfl) rfl)
  have F_law_keep_all : At K mg "_law_keep_all" eN ["_law_gate_here", "_law_relations_here"] := At.mk' (PySem.W.mg_of X G a27) l27 c27 k27 (fC (fun _ _ _ _ _ _ _ _ => rfl) rfl)
  have F_law_bits : At K mg "_law_bits" iC ["_law_number", "_law_width"] := At.mk' (PySem.W.mg_of X G a28) l28 c28 k28 (fC (fun _ _ _ _ _ _ _ _ => rfl) rfl)
  have F_law_told : At K mg "_law_told" iK ["_law_formula_here"] := At.mk' (PySem.W.mg_of X G a29) l29 c29 k29 (qj (fun _ _ _ _ _ _ _ => rfl) rfl)
  have F_law_whole : At K mg "_law_whole" gW ["_law_found"] := At.mk' (PySem.W.mg_of X G a30) l30 c30 k30 (qj (fun _ _ _ _ _ _ _ => rfl) rfl)
  have F_law_formula_right : At K mg "_law_formula_right" cz ["_law_formula_here", "_law_relations_here", "_law_wish"] := At.mk' (PySem.W.mg_of X G a31) l31 c31 k31 (uO (fun _ _ _ _ _ _ _ _ _ => rfl) rfl)
  have F_law_gate_right : At K mg "_law_gate_right" du ["_law_gate_here", "_law_rows", "_law_relations_here", "_law_wish"] := At.mk' (PySem.W.mg_of X G a32) l32 c32 k32 (Ru (fun _ _ _ _ _ _ _ _ _ _ => rfl) rfl)
  have F_law_answered : At K mg "_law_answered" eQ ["_law_found", "_law_relations_here", "_law_wish"] := At.mk' (PySem.W.mg_of X G a33) l33 c33 k33 (uO (fun _ _ _ _ _ _ _ _ _ => rfl) rfl)
  have F_law_relations : At K mg "_law_relations" dI ["_law_script"] := At.mk' (PySem.W.mg_of X G a34) l34 c34 k34 (qj (fun _ _ _ _ _ _ _ => rfl) rfl)
  have F_law_formula : At K mg "_law_formula" fD ["_law_script", "_law_at", "_law_relations_here"] := At.mk' (PySem.W.mg_of X G a35) l35 c35 k35 (uO (fun _ _ _ _ _ _ _ _ _ => rfl) rfl)
  have F_law_told_made : At K mg "_law_told_made" dM ["_law_relations_here", "_law_wish"] := At.mk' (PySem.W.mg_of X G a36) l36 c36 k36 (fC (fun _ _ _ _ _ _ _ _ => rfl) rfl)
  have z_bool := PySem.W.mg_none_of X G y_bool
  have z_int := PySem.W.mg_none_of X G y_int
  have z_isinstance := PySem.W.mg_none_of X G y_isinstance
  have z_len := PySem.W.mg_none_of X G y_len
  have z_list := PySem.W.mg_none_of X G y_list
  have z_min := PySem.W.mg_none_of X G y_min
  have z_range := PySem.W.mg_none_of X G y_range
  have z_reversed := PySem.W.mg_none_of X G y_reversed
  have z_set := PySem.W.mg_none_of X G y_set
  have z_sorted := PySem.W.mg_none_of X G y_sorted
  have z_sum := PySem.W.mg_none_of X G y_sum
  have z_tuple := PySem.W.mg_none_of X G y_tuple
  have g_MOST_COLUMNS := PySem.W.mg_of X G y_MOST_COLUMNS
  have g_MOST_KEPT_LISTS := PySem.W.mg_of X G y_MOST_KEPT_LISTS
  have g_MOST_LISTS := PySem.W.mg_of X G y_MOST_LISTS
  have g_MOST_WISHED_COLUMNS := PySem.W.mg_of X G y_MOST_WISHED_COLUMNS
  have g_MOST_WISHED_ROWS := PySem.W.mg_of X G y_MOST_WISHED_ROWS
  have e := hfa.symm.trans (PySem.W.mg_of X G a37)
  cases e
  refine ⟨PySem.W.fnOf "law" "law" (aM lO) (aK lO) (au lO) .none kV37 dc37 pm37 an37 cd37 ct37, fun s v => .of_eq rfl, fun base _ _ => ?_⟩
  have d_row_count := yd (P := l.prog) (w := w) (base := base) F_row_count z_range
  have d_bit := PK (P := l.prog) (w := w) (base := base) F_bit
  have d_number_of := xR (P := l.prog) (w := w) (base := base) F_number_of z_reversed
  have d_put_all := Cw (P := l.prog) (w := w) (base := base) F_put_all d_bit d_row_count z_len z_range
  have d_gathered := zp (P := l.prog) (w := w) (base := base) F_gathered z_set z_sorted z_tuple
  have d_marked := Fd (P := l.prog) (w := w) (base := base) F_marked
  have d_put_rows := zE (P := l.prog) (w := w) (base := base) F_put_rows d_put_all d_row_count
  have d_power := G8 (P := l.prog) (w := w) (base := base) F_power z_range
  have d_list_count := wH (P := l.prog) (w := w) (base := base) F_list_count d_power z_sum
  have d_lists_of := zB (P := l.prog) (w := w) (base := base) F_lists_of
  have d_broken := Eo (P := l.prog) (w := w) (base := base) F_broken d_marked d_lists_of d_list_count d_put_rows z_len g_MOST_LISTS ⟨_, rfl⟩
  have d_keeps := Jb (P := l.prog) (w := w) (base := base) F_keeps d_broken
  have d_picked_row := wC (P := l.prog) (w := w) (base := base) F_picked_row d_number_of d_bit
  have d_picked := Gj (P := l.prog) (w := w) (base := base) F_picked d_gathered d_picked_row z_len
  have d_rows_with_part := qX (P := l.prog) (w := w) (base := base) F_rows_with_part d_marked d_picked_row
  have d_relation_of := vm (P := l.prog) (w := w) (base := base) F_relation_of d_picked d_rows_with_part d_row_count z_list z_range z_tuple
  have d_place := HW (P := l.prog) (w := w) (base := base) F_place d_number_of d_bit
  have d_places := Ge (P := l.prog) (w := w) (base := base) F_places d_place z_range z_tuple
  have d_refuse_great := uD (P := l.prog) (w := w) (base := base) F_refuse_great d_power z_len g_MOST_COLUMNS ⟨_, rfl⟩ g_MOST_KEPT_LISTS ⟨_, rfl⟩
  have d_keeping_parts := rZ (P := l.prog) (w := w) (base := base) F_keeping_parts d_lists_of d_places z_tuple
  have d_keepers := Dp (P := l.prog) (w := w) (base := base) F_keepers d_refuse_great d_row_count d_relation_of d_keeping_parts z_range z_tuple
  have d_made_of := Dc (P := l.prog) (w := w) (base := base) F_made_of d_places d_keepers d_picked_row d_row_count d_keeping_parts z_len z_list g_MOST_WISHED_COLUMNS ⟨_, rfl⟩ g_MOST_WISHED_ROWS ⟨_, rfl⟩
  have d__law_cell := zM (P := l.prog) (w := w) (base := base) F_law_cell z_len
  have d__law_gate := z9 (P := l.prog) (w := w) (base := base) F_law_gate z_min
  have d__law_put := Bw (P := l.prog) (w := w) (base := base) F_law_put z_range
  have d__law_lists := yx (P := l.prog) (w := w) (base := base) F_law_lists z_range
  have d__law_keeps := wY (P := l.prog) (w := w) (base := base) F_law_keeps d__law_lists d__law_put
  have d__law_keep_all := tW (P := l.prog) (w := w) (base := base) F_law_keep_all d__law_keeps
  have d__law_bits := zT (P := l.prog) (w := w) (base := base) F_law_bits z_range
  have d__law_told := zW (P := l.prog) (w := w) (base := base) F_law_told d__law_bits z_len z_range z_sorted z_sum z_tuple
  have d__law_whole := yM (P := l.prog) (w := w) (base := base) F_law_whole z_bool z_int z_isinstance
  have d__law_formula_right := pg (P := l.prog) (w := w) (base := base) F_law_formula_right d__law_told d__law_whole z_isinstance z_len z_tuple
  have d__law_gate_right := qW (P := l.prog) (w := w) (base := base) F_law_gate_right d__law_keep_all d__law_whole d__law_put z_isinstance z_len z_list z_tuple
  have d__law_answered := tV (P := l.prog) (w := w) (base := base) F_law_answered d__law_gate_right d__law_formula_right z_isinstance z_len z_tuple
  have d__law_relations := rJ (P := l.prog) (w := w) (base := base) F_law_relations d__law_cell z_range z_sorted z_tuple
  have d__law_formula := uK (P := l.prog) (w := w) (base := base) F_law_formula d__law_cell z_len z_range z_tuple
  have d__law_told_made := sU (P := l.prog) (w := w) (base := base) F_law_told_made d_made_of d__law_answered
  exact NQ (xG (st := lO) l37 c37 k37) d__law_relations d__law_told d__law_gate d__law_keep_all d__law_formula d_relation_of d__law_told_made d__law_cell d__law_keeps d_keeps z_len
theorem walk {l : PySem.W.OpenLaw} {q : Program} {loose : List Str} {XP : (Str → Option Value) → Heap → Prop} {YP : World → Heap → Prop} {d : DefRec} {K : Params → PySem.W.Frag} (hn : l.most = some 63) (hdf : d.params.defaults = [])
    (hY : ∀ (w : World) (h : Heap), YP w h → (K w.params).In h)
    (F : ∀ (w : World) (mg : Str → Option Value) (fa : Addr) (h : Heap), (K w.params).In h → h.Ns mainGlobals mg → mg d.name = some (.ref fa) →
      ∃ fd : FuncData, (∀ (s : Shared) (u : Value), BindsTo s fd ⟨[u], []⟩ [("_law_script", u)]) ∧ ∀ base : Heap, (K w.params).In base → base.Ns mainGlobals mg → mU l.prog w (K w.params) mg base CX0 8 fa fd ["_law_script"] (spF (K w.params) [.bor] .f nC)) :
    PySem.W.WalkO q loose XP YP l.row.toRowW d [] (fun f vs => PySem.call f vs) :=
  L2.Ls (n := 63) (k := 8) (x := "_law_script") (CX := fun _ => CX0) (sp := fun w => spF (K w.params) [.bor] .f nC) hn (by decide) hdf ⟨rfl, by decide, by decide⟩ hY F (fun _ H a ns hl _ hS => BP (main ns hl) hS) fun _ _ _ _ _ z => z
end Law
open PySem PySem.W PyProof.Rows
theorem PySem.W.Fast.tw10075380201661059738 : True := trivial
theorem PySem.W.Fast.tw6626034577160545796 : True := trivial
theorem PySem.W.Fast.tw11431633235150524735 : True := trivial
theorem PySem.W.Fast.tw18336728701468454588 : True := trivial
theorem PySem.W.Fast.tw15650476880012384227 : True := trivial
theorem PySem.W.Fast.tw4395520711489331281 : True := trivial
theorem PySem.W.Fast.tw18274041852844054119 : True := trivial
theorem PySem.W.Fast.tw563213551441973949 : True := trivial
theorem PySem.W.Fast.tw4078887468724683391 : True := trivial
theorem PySem.W.Fast.tw11741058810108847663 : True := trivial
theorem PySem.W.Fast.tw465348244698089903 : True := trivial
theorem PySem.W.Fast.tw6759794558714918281 : True := trivial
theorem PySem.W.Fast.tw3852777509720683667 : True := trivial
theorem PySem.W.Fast.tw7317817533086604617 : True := trivial
theorem PySem.W.Fast.tw1788606436742509806 : True := trivial
theorem PySem.W.Fast.tw4862775040388604401 : True := trivial
theorem PySem.W.Fast.tw981796160659308365 : True := trivial
theorem PySem.W.Fast.tw1721278375381755053 : True := trivial
theorem PySem.W.Fast.tw46032345351051823 : True := trivial
theorem PySem.W.Fast.tw11280051524256223261 : True := trivial
theorem PySem.W.Fast.tw3948245345133450177 : True := trivial
theorem PySem.W.Fast.tw15464572326131762679 : True := trivial
theorem PySem.W.Fast.tw17702294387464536170 : True := trivial
theorem PySem.W.Fast.tw16741016703626273686 : True := trivial
theorem PySem.W.Fast.tw4017370110504573085 : True := trivial
theorem PySem.W.Fast.tw558439331907153051 : True := trivial
theorem PySem.W.Fast.tw16743976901349536038 : True := trivial
theorem PySem.W.Fast.tw17094458755705019543 : True := trivial
theorem PySem.W.Fast.tw18160535620779735604 : True := trivial
theorem PySem.W.Fast.tw11367479367064745279 : True := trivial
theorem PySem.W.Fast.tw17959960538722985280 : True := trivial
theorem PySem.W.Fast.tw2359501857661944508 : True := trivial
theorem PySem.W.Fast.tw4159680992121454888 : True := trivial
theorem PySem.W.Fast.tw5067639418816795312 : True := trivial
theorem PySem.W.Fast.tw4976948880926312566 : True := trivial
set_option maxRecDepth 100000 in
set_option maxHeartbeats 0 in
theorem PySem.Challenge.cw_gatekin_k65_whole_made_again_holds : PySem.Challenge.rw_gatekin_k65_whole_made_again.Holds := by
  w_on; o_law; k_head; (case hw => w_witness2)
  k_fill
  refine Law.walk (l := PySem.Challenge.rw_gatekin_k65_whole_made_again) rfl rfl (fun w h Y => PySem.W.kIn_of Y) ?F
  case F =>
    intro w mg fa h KX G hmg
    refine' Law.all_mk KX G hmg ?a0 ?l0 ?c0 ?k0 ?a1 ?l1 ?c1 ?k1 ?a2 ?l2 ?c2 ?k2 ?a3 ?l3 ?c3 ?k3 ?a4 ?l4 ?c4 ?k4 ?a5 ?l5 ?c5 ?k5 ?a6 ?l6 ?c6 ?k6 ?a7 ?l7 ?c7 ?k7 ?a8 ?l8 ?c8 ?k8 ?a9 ?l9 ?c9 ?k9 ?a10 ?l10 ?c10 ?k10 ?a11 ?l11 ?c11 ?k11 ?a12 ?l12 ?c12 ?k12 ?a13 ?l13 ?c13 ?k13 ?a14 ?l14 ?c14 ?k14 ?a15 ?l15 ?c15 ?k15 ?a16 ?l16 ?c16 ?k16 ?a17 ?l17 ?c17 ?k17 ?a18 ?l18 ?c18 ?k18 ?a19 ?l19 ?c19 ?k19 ?a20 ?l20 ?c20 ?k20 ?a21 ?l21 ?c21 ?k21 ?a22 ?l22 ?c22 ?k22 ?a23 ?l23 ?c23 ?k23 ?a24 ?l24 ?c24 ?k24 ?a25 ?l25 ?c25 ?k25 ?a26 ?l26 ?c26 ?k26 ?a27 ?l27 ?c27 ?k27 ?a28 ?l28 ?c28 ?k28 ?a29 ?l29 ?c29 ?k29 ?a30 ?l30 ?c30 ?k30 ?a31 ?l31 ?c31 ?k31 ?a32 ?l32 ?c32 ?k32 ?a33 ?l33 ?c33 ?k33 ?a34 ?l34 ?c34 ?k34 ?a35 ?l35 ?c35 ?k35 ?a36 ?l36 ?c36 ?k36 ?a37 ?l37 ?c37 ?k37 ?y_bool ?y_int ?y_isinstance ?y_len ?y_list ?y_min ?y_range ?y_reversed ?y_set ?y_sorted ?y_sum ?y_tuple ?y_MOST_COLUMNS ?y_MOST_KEPT_LISTS ?y_MOST_LISTS ?y_MOST_WISHED_COLUMNS ?y_MOST_WISHED_ROWS
    (case a0 => k_is)
    (case l0 => k_is)
    (case c0 => k_is)
    (case k0 => k_is)
    (case a1 => k_is)
    (case l1 => k_is)
    (case c1 => k_is)
    (case k1 => k_is)
    (case a2 => k_is)
    (case l2 => k_is)
    (case c2 => k_is)
    (case k2 => k_is)
    (case a3 => k_is)
    (case l3 => k_is)
    (case c3 => k_is)
    (case k3 => k_is)
    (case a4 => k_is)
    (case l4 => k_is)
    (case c4 => k_is)
    (case k4 => k_is)
    (case a5 => k_is)
    (case l5 => k_is)
    (case c5 => k_is)
    (case k5 => k_is)
    (case a6 => k_is)
    (case l6 => k_is)
    (case c6 => k_is)
    (case k6 => k_is)
    (case a7 => k_is)
    (case l7 => k_is)
    (case c7 => k_is)
    (case k7 => k_is)
    (case a8 => k_is)
    (case l8 => k_is)
    (case c8 => k_is)
    (case k8 => k_is)
    (case a9 => k_is)
    (case l9 => k_is)
    (case c9 => k_is)
    (case k9 => k_is)
    (case a10 => k_is)
    (case l10 => k_is)
    (case c10 => k_is)
    (case k10 => k_is)
    (case a11 => k_is)
    (case l11 => k_is)
    (case c11 => k_is)
    (case k11 => k_is)
    (case a12 => k_is)
    (case l12 => k_is)
    (case c12 => k_is)
    (case k12 => k_is)
    (case a13 => k_is)
    (case l13 => k_is)
    (case c13 => k_is)
    (case k13 => k_is)
    (case a14 => k_is)
    (case l14 => k_is)
    (case c14 => k_is)
    (case k14 => k_is)
    (case a15 => k_is)
    (case l15 => k_is)
    (case c15 => k_is)
    (case k15 => k_is)
    (case a16 => k_is)
    (case l16 => k_is)
    (case c16 => k_is)
    (case k16 => k_is)
    (case a17 => k_is)
    (case l17 => k_is)
    (case c17 => k_is)
    (case k17 => k_is)
    (case a18 => k_is)
    (case l18 => k_is)
    (case c18 => k_is)
    (case k18 => k_is)
    (case a19 => k_is)
    (case l19 => k_is)
    (case c19 => k_is)
    (case k19 => k_is)
    (case a20 => k_is)
    (case l20 => k_is)
    (case c20 => k_is)
    (case k20 => k_is)
    (case a21 => k_is)
    (case l21 => k_is)
    (case c21 => k_is)
    (case k21 => k_is)
    (case a22 => k_is)
    (case l22 => k_is)
    (case c22 => k_is)
    (case k22 => k_is)
    (case a23 => k_is)
    (case l23 => k_is)
    (case c23 => k_is)
    (case k23 => k_is)
    (case a24 => k_is)
    (case l24 => k_is)
    (case c24 => k_is)
    (case k24 => k_is)
    (case a25 => k_is)
    (case l25 => k_is)
    (case c25 => k_is)
    (case k25 => k_is)
    (case a26 => k_is)
    (case l26 => k_is)
    (case c26 => k_is)
    (case k26 => k_is)
    (case a27 => k_is)
    (case l27 => k_is)
    (case c27 => k_is)
    (case k27 => k_is)
    (case a28 => k_is)
    (case l28 => k_is)
    (case c28 => k_is)
    (case k28 => k_is)
    (case a29 => k_is)
    (case l29 => k_is)
    (case c29 => k_is)
    (case k29 => k_is)
    (case a30 => k_is)
    (case l30 => k_is)
    (case c30 => k_is)
    (case k30 => k_is)
    (case a31 => k_is)
    (case l31 => k_is)
    (case c31 => k_is)
    (case k31 => k_is)
    (case a32 => k_is)
    (case l32 => k_is)
    (case c32 => k_is)
    (case k32 => k_is)
    (case a33 => k_is)
    (case l33 => k_is)
    (case c33 => k_is)
    (case k33 => k_is)
    (case a34 => k_is)
    (case l34 => k_is)
    (case c34 => k_is)
    (case k34 => k_is)
    (case a35 => k_is)
    (case l35 => k_is)
    (case c35 => k_is)
    (case k35 => k_is)
    (case a36 => k_is)
    (case l36 => k_is)
    (case c36 => k_is)
    (case k36 => k_is)
    (case a37 => k_is)
    (case l37 => k_is)
    (case c37 => k_is)
    (case k37 => k_is)
    (case y_bool => k_is)
    (case y_int => k_is)
    (case y_isinstance => k_is)
    (case y_len => k_is)
    (case y_list => k_is)
    (case y_min => k_is)
    (case y_range => k_is)
    (case y_reversed => k_is)
    (case y_set => k_is)
    (case y_sorted => k_is)
    (case y_sum => k_is)
    (case y_tuple => k_is)
    (case y_MOST_COLUMNS => k_is)
    (case y_MOST_KEPT_LISTS => k_is)
    (case y_MOST_LISTS => k_is)
    (case y_MOST_WISHED_COLUMNS => k_is)
    (case y_MOST_WISHED_ROWS => k_is)
