/-
  Maps as things: what is held at each key, and how many keys there are; whatever the keys are; and the way through a map in whatever order.
-/
import Derived.Test.YtiphkndahoageaaXm
import Derived.Maps.OwnSet
import Derived.Maps.Range
import Derived.DeepKeys4
namespace Go.Proofs.Ytiphkndahoageaa
open Go.RowKit Go.Maps
set_option linter.unusedVariables false
set_option maxRecDepth 100000

/-- how the keys of a kind are written -/
structure Keys (P : Program) (k : TypeId) (κ : Type) where
  law : Keyed P k
  val : κ → Value
  lit : κ → Lit
  ok : κ → Prop
  of : ∀ {x : κ}, ok x → keyOf P k (val x) = some (lit x)
  inv : ∀ {v : Value} {l : Lit}, keyOf P k v = some l → ∃ x, ok x ∧ v = val x ∧ l = lit x
  inj : ∀ {x y : κ}, ok x → ok y → lit x = lit y → x = y
  key : ∀ x, WideAt.IsKeyLit (lit x)
def heldV (v : Value) : Option (DataW Value × List MemPlace) := some (.held v, [])
def rdV (p : Option Value) (z : DataW Value) : DataW Value := match p with
  | none => z
  | some v => .held v
/-- what 'v, ok := m[k]' gives -/
def lkV (z : Value) (p : Option Value) : Value := match p with
  | none => .tuple #[z, .bool false]
  | some v => .tuple #[v, .bool true]
section
variable {P : Program} {k : TypeId} {κ : Type}
/-- a map: what is held at each key; so many keys -/
def GMap (S : Keys P k κ) (b n sz : Nat) (p : κ → Option Value) : Thing where
  is := fun w A => (∃ D : DataW Value, w.ownsMap P k heldV b n D ∧ (∀ x, S.ok x → ∀ z, D.atKey (S.lit x) z = rdV (p x) z) ∧ Maps.size D = sz) ∧ ∀ j, A j ↔ j = b
  lt := by
    rintro w A j ⟨⟨D, h, _⟩, hA⟩ a
    rw [(hA j).1 a]; exact h.lt
  keep := by
    rintro w w' A B ⟨⟨D, h, hk⟩, hA⟩ hf hn
    refine ⟨⟨D, ?_, hk⟩, hA⟩
    have hlt := h.lt
    obtain ⟨es, clock, hb, F, hs, hD⟩ := h
    exact ⟨es, clock, (hf.block b hlt (hn b ((hA b).2 rfl))).trans hb, F, hs, hD⟩
/-- the map while one goes through it: what is still to come -/
def GIter (S : Keys P k κ) (b r n sz : Nat) (p : κ → Option Value) (left : κ → Prop) (cnt : Nat) : Thing where
  is := fun w A => (∃ (D : DataW Value) (lf : Lit → Bool), w.ranges P k heldV b r n D lf cnt ∧ (∀ x, S.ok x → ∀ z, D.atKey (S.lit x) z = rdV (p x) z) ∧ (∀ x, S.ok x → (lf (S.lit x) = true ↔ left x)) ∧ Maps.size D = sz) ∧ ∀ j, A j ↔ j = b ∨ j = r
  lt := by
    rintro w A j ⟨⟨D, lf, h, _⟩, hA⟩ a
    rcases (hA j).1 a with rfl | rfl
    · exact h.owns.lt
    · exact h.lt
  keep := by
    rintro w w' A B ⟨⟨D, lf, h, hk, hl⟩, hA⟩ hf hn
    refine ⟨⟨D, lf, ?_, hk, hl⟩, hA⟩
    have hbl := h.owns.lt
    have hrl := h.lt
    obtain ⟨es, clock, since, seen, c0, hb, F, hs, hD, hr, rest⟩ := h
    exact ⟨es, clock, since, seen, c0, (hf.block b hbl (hn b ((hA b).2 (.inl rfl)))).trans hb, F, hs, hD, (hf.block r hrl (hn r ((hA r).2 (.inr rfl)))).trans hr, rest⟩
variable {S : Keys P k κ} {w0 w : World} {l : List Thing} {b n sz r cnt : Nat} {p q : κ → Option Value} {left : κ → Prop} {t e : TypeId} {z : Value}
theorem has_of {D : DataW Value} {x : κ} (hd : ∀ z, D.atKey (S.lit x) z = rdV (p x) z) : Maps.has D (S.lit x) = (p x).isSome := by
  cases hp : p x with
  | none => rw [hp] at hd; rw [has_false_of_atKey hd]; rfl
  | some v => rw [hp] at hd; rw [has_true_of_atKey hd]; rfl
theorem Own.gmLook (h : Own w0 w (GMap S b n sz p :: l)) (ht : P.underlying t = some (.map k e)) (hz : (zeroValue e).run P w = .ok z w) (x : κ) (hx : S.ok x) :
    (Instr.lookup t (.map (some b)) (S.val x) true).run P w = .ok (lkV z (p x)) w := by
  obtain ⟨A, ⟨B, C, ⟨⟨D, hm, hd, _⟩, _⟩, _⟩, _⟩ := h
  obtain ⟨v, ps, hrun, hv⟩ := hm.look_ok S.law ht hz (show heldV _ = some (.held _, []) from rfl) (S.of hx)
  have hd := hd x hx
  have hq := (Prod.mk.inj (Option.some.inj hv)).1
  rw [has_of hd] at hrun
  rw [hd] at hq
  cases hp : p x with
  | none => rw [hp] at hq hrun; have : v = z := by simpa [rdV] using hq
            subst this; exact hrun
  | some u => rw [hp] at hq hrun; have : v = u := by simpa [rdV] using hq
              subst this; exact hrun
theorem Own.gmAt (h : Own w0 w (GMap S b n sz p :: l)) (ht : P.underlying t = some (.map k e)) (hz : (zeroValue e).run P w = .ok z w) (x : κ) (hx : S.ok x) :
    (Instr.lookup t (.map (some b)) (S.val x) false).run P w = .ok ((p x).getD z) w := by
  obtain ⟨A, ⟨B, C, ⟨⟨D, hm, hd, _⟩, _⟩, _⟩, _⟩ := h
  obtain ⟨v, ps, hrun, hv⟩ := hm.lookup S.law ht hz (show heldV _ = some (.held _, []) from rfl) (S.of hx)
  have hd := hd x hx
  have hq := (Prod.mk.inj (Option.some.inj hv)).1
  rw [hd] at hq
  cases hp : p x with
  | none => rw [hp] at hq; have : v = z := by simpa [rdV] using hq
            subst this; exact hrun
  | some u => rw [hp] at hq; have : v = u := by simpa [rdV] using hq
              subst this; exact hrun
theorem Own.gmLen (h : Own w0 w (GMap S b n sz p :: l)) (ht : P.underlying t = some (.map k e)) (ty : TypeId) : (Builtin.len_ #[t] ty #[.map (some b)]).run P w = .ok (.int .i64 (sz : Int)) w := by
  obtain ⟨A, ⟨B, C, ⟨⟨D, hm, hd, rfl⟩, _⟩, _⟩, _⟩ := h
  exact hm.len ht ty
theorem Own.gmLe (h : Own w0 w (GMap S b n sz p :: l)) : sz ≤ n := by
  obtain ⟨A, ⟨B, C, ⟨⟨D, hm, hd, rfl⟩, _⟩, _⟩, _⟩ := h
  exact hm.size_le
theorem Own.gmPut [DecidableEq κ] (h : Own w0 w (GMap S b n sz p :: l)) (ht : P.underlying t = some (.map k e)) (x : κ) (v : Value) (hx : S.ok x) (hn : n < maxLen) :
    ∃ w', (Instr.mapUpdate t (.map (some b)) (S.val x) v).run P w = .ok () w' ∧ Own w0 w' (GMap S b (n + 1) (if (p x).isSome then sz else sz + 1) (fun y => if y = x then some v else p y) :: l) := by
  obtain ⟨A, ⟨⟨D, hm, hd, hs⟩, hA⟩, hlo, act⟩ := h.act
  obtain ⟨w', hrun, hm', hg⟩ := hm.update S.law ht hn (S.of hx) (show heldV v = some (.held v, []) from rfl)
  refine ⟨w', hrun, act w' (GMap S b (n + 1) _ _) A ⟨⟨_, hm', ?_, ?_⟩, hA⟩ ((Fr.refl _ _).grown hg (fun k hk => .inl ((hA k).2 (by cases hk; rfl)))) (fun _ a => .inl a)⟩
  · intro y hy z
    by_cases e : y = x
    · subst e
      rw [atKey_put_same hm.isMap (k := S.lit y) (S.key y)]; simp [rdV]
    · rw [atKey_put_other (by intro q; exact e (S.inj hy hx q)), hd y hy]; simp [e]
  · rw [size_put (hm.tidy S.law), has_of (hd x hx), hs]
theorem Own.gmDrop [DecidableEq κ] (h : Own w0 w (GMap S b n sz p :: l)) (ht : P.underlying t = some (.map k e)) (x : κ) (hx : S.ok x) (ty : TypeId) :
    ∃ w', (Builtin.delete_ #[t, k] ty #[.map (some b), S.val x]).run P w = .ok (.tuple #[]) w' ∧ Own w0 w' (GMap S b n (if (p x).isSome then sz - 1 else sz) (fun y => if y = x then none else p y) :: l) := by
  obtain ⟨A, ⟨⟨D, hm, hd, hs⟩, hA⟩, hlo, act⟩ := h.act
  obtain ⟨w', hrun, hm', hg⟩ := hm.drop S.law ht (S.of hx) ty
  refine ⟨w', hrun, act w' (GMap S b n _ _) A ⟨⟨_, hm', ?_, ?_⟩, hA⟩ ((Fr.refl _ _).grown hg.grown (fun k hk => .inl ((hA k).2 (by cases hk; rfl)))) (fun _ a => .inl a)⟩
  · intro y hy z
    by_cases e : y = x
    · subst e
      rw [atKey_del_same]; simp [rdV]
    · rw [atKey_del_other (by intro q; exact e (S.inj hy hx q)), hd y hy]; simp [e]
  · have := size_del (k := S.lit x) (hm.tidy S.law)
    rw [has_of (hd x hx), hs] at this
    split <;> simp_all <;> omega
theorem Own.gmNew (S : Keys P k κ) (h : Own w0 w l) : Own w0 (w.alloc (.map #[] 0)) (GMap S w.heap.size 0 0 (fun _ => none) :: l) :=
  h.new (GMap S w.heap.size 0 0 (fun _ => none)) (fun j => j = w.heap.size) ⟨⟨.map [], World.ownsMap_made _ _ _ _, fun x _ z => by simp [DataW.atKey, rdV], rfl⟩, fun _ => Iff.rfl⟩ ((Fr.refl _ _).alloc _) (fun j hj => by omega)
theorem Own.gmIs (h : Own w0 w (GMap S b n sz p :: l)) {m : Nat} (hm : n ≤ m) (hq : ∀ x, S.ok x → p x = q x) : Own w0 w (GMap S b m sz q :: l) := by
  obtain ⟨A, ⟨B, C, ⟨⟨D, hd, hk, hs⟩, hB⟩, r⟩, s⟩ := h
  exact ⟨A, ⟨B, C, ⟨⟨D, hd.mono hm, fun x hx z => by rw [← hq x hx]; exact hk x hx z, hs⟩, hB⟩, r⟩, s⟩
theorem Own.gmLt (h : Own w0 w (GMap S b n sz p :: l)) : b < w.heap.size := by
  obtain ⟨A, ⟨B, C, ⟨⟨D, hd, hk, hs⟩, hB⟩, r⟩, s⟩ := h
  exact hd.lt
theorem Own.gmRange (h : Own w0 w (GMap S b n sz p :: l)) (ht : P.underlying t = some (.map k e)) : ∃ w', (Instr.range t (.map (some b))).run P w = .ok (.pointer (some ⟨w.heap.size, 0, none⟩)) w' ∧ Own w0 w' (GIter S b w.heap.size n sz p (fun x => (p x).isSome = true) sz :: l) := by
  obtain ⟨A, ⟨⟨D, hm, hd, hs⟩, hA⟩, hlo, act⟩ := h.act
  obtain ⟨w', hrun, hR, hg, hsz⟩ := hm.range S.law ht
  rw [hs] at hR
  refine ⟨w', hrun, act w' (GIter S b w.heap.size n sz p _ _) (fun j => j = b ∨ j = w.heap.size) ⟨⟨D, _, hR, hd, fun x hx => ?_, hs⟩, fun _ => Iff.rfl⟩ ((Fr.refl _ _).grown hg (fun j hj => by cases hj)) (fun j a => ?_)⟩
  · rw [has_of (hd x hx)]
  · rcases a with rfl | rfl
    · exact .inl ((hA _).2 rfl)
    · exact .inr (Nat.le_refl _)
theorem Own.giMap (h : Own w0 w (GIter S b r n sz p left cnt :: l)) : Own w0 w (GMap S b n sz p :: l) := by
  obtain ⟨A, ⟨⟨D, lf, hR, hd, _, hs⟩, hA⟩, hlo, act⟩ := h.act
  exact act w (GMap S b n sz p) (fun j => j = b) ⟨⟨D, hR.owns, hd, hs⟩, fun _ => Iff.rfl⟩ (Fr.refl _ _) (fun j a => .inl ((hA j).2 (.inl a)))
theorem Own.giNext (h : Own w0 w (GIter S b r n sz p left cnt :: l)) (ty : TypeId) :
    (cnt = 0 ∧ (∀ x, S.ok x → ¬ left x) ∧ (Instr.next (.pointer (some ⟨r, 0, none⟩)) false ty).run P w = .ok (.tuple #[.bool false]) w) ∨
    ∃ (x : κ) (v : Value) (w' : World) (cnt' : Nat), S.ok x ∧ left x ∧ p x = some v ∧ (Instr.next (.pointer (some ⟨r, 0, none⟩)) false ty).run P w = .ok (.tuple #[.bool true, S.val x, v]) w' ∧ (Instr.entry (.pointer (some ⟨r, 0, none⟩))).run P w' = .ok (.tuple #[S.val x, v]) w' ∧ cnt' < cnt ∧ Own w0 w' (GIter S b r n sz p (fun y => left y ∧ y ≠ x) cnt' :: l) := by
  obtain ⟨A, ⟨⟨D, lf, hR, hd, hl, hs⟩, hA⟩, hlo, act⟩ := h.act
  rcases hR.next S.law ty with ⟨h0, h1, hrun⟩ | ⟨key, v, kl, y, w', cnt', hkey, hleft, hv, hat, hrun, hR', hlt, hg, hsz, hent⟩
  · exact .inl ⟨h0, fun x hx hc => (by have := (hl x hx).2 hc; rw [h1] at this; cases this), hrun⟩
  · obtain ⟨x, hx, rfl, rfl⟩ := S.inv hkey
    have hy : y = (.held v, []) := (Option.some.inj hv).symm
    subst hy
    have h3 := hat .nil
    rw [hd x hx] at h3
    have hp : p x = some v := by
      cases hp : p x with
      | none => rw [hp] at h3; simp [rdV] at h3
      | some u => rw [hp] at h3; simp only [rdV, DataW.held.injEq] at h3; rw [h3]
    refine .inr ⟨x, v, w', cnt', hx, (hl x hx).1 hleft, hp, hrun, hent, hlt, ?_⟩
    refine act w' (GIter S b r n sz p _ cnt') A ⟨⟨D, _, hR', hd, fun u hu => ?_, hs⟩, hA⟩ ((Fr.refl _ _).grown hg (fun j hj => .inl ((hA j).2 (by cases hj; exact .inr rfl)))) (fun _ a => .inl a)
    rw [Bool.and_eq_true, hl u hu]
    refine and_congr Iff.rfl ?_
    rw [Bool.not_eq_true', ← Bool.not_eq_true]
    refine not_congr ⟨fun e => S.inj hu hx (WideAt.sameKey_eq e), fun e => by rw [e]; exact WideAt.sameKey_self (S.key x)⟩
end
end Go.Proofs.Ytiphkndahoageaa
