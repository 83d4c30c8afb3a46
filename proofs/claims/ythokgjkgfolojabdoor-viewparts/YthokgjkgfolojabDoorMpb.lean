/-
  Through a map with other work between: the map and the place where one is, as they are.
-/
import Derived.Test.YthokgjkgfolojabDoorMpa
import Derived.Test.YthokgjkgfolojabDoorIa
namespace Go.Proofs.YthokgjkgfolojabDoor
open Go.RowKit Go.Maps
set_option linter.unusedVariables false
set_option maxRecDepth 100000

section
variable {P : Program} {k : TypeId} {κ : Type} {S : Keys P k κ} {w0 w : World} {l : List Thing} {b n sz r cnt : Nat} {p q : κ → Option Value} {left : κ → Prop} {t e : TypeId} {z : Value} {o o' : Obj}
/-- the map as it is -/
theorem Own.gmObj (h : Own w0 w (GMap S b n sz p :: l)) : ∃ o, Own w0 w (Objt b o :: l) ∧ ∀ (v0 v : World) (m : List Thing), Own v0 v (Objt b o :: m) → Own v0 v (GMap S b n sz p :: m) := by
  obtain ⟨A, ⟨⟨D, hm, hd, hs⟩, hA⟩, hlo, act⟩ := h.act
  have hm' := hm
  obtain ⟨es, clock, hb, F, hn, hD⟩ := hm
  refine ⟨.map es clock, act w (Objt b (.map es clock)) A ⟨hb, hA⟩ (Fr.refl _ _) (fun _ a => .inl a), ?_⟩
  intro v0 v m hv
  obtain ⟨A', ⟨hb', hA'⟩, _, act'⟩ := hv.act
  exact act' v (GMap S b n sz p) A' ⟨⟨D, ⟨es, clock, hb', F, hn, hD⟩, hd, hs⟩, hA'⟩ (Fr.refl _ _) (fun _ a => .inl a)
/-- on the way: what is still to come -/
def Rng (S : Keys P k κ) (b r : Nat) (p : κ → Option Value) (o o' : Obj) (left : κ → Prop) (cnt : Nat) : Prop :=
  ∀ w : World, w.heap[b]? = some o → w.heap[r]? = some o' → ∃ (n : Nat) (D : DataW Value) (lf : Lit → Bool), w.ranges P k heldV b r n D lf cnt ∧ (∀ x, S.ok x → ∀ z, D.atKey (S.lit x) z = rdV (p x) z) ∧ (∀ x, S.ok x → (lf (S.lit x) = true ↔ left x))
theorem Own.rgStart (h : Own w0 w (Objt b o :: l)) (ho : ∀ (v0 v : World) (m : List Thing), Own v0 v (Objt b o :: m) → Own v0 v (GMap S b n sz p :: m)) (ht : P.underlying t = some (.map k e)) :
    ∃ w' o', (Instr.range t (.map (some b))).run P w = .ok (.pointer (some ⟨w.heap.size, 0, none⟩)) w' ∧ Own w0 w' (Objt b o :: Objt w.heap.size o' :: l) ∧ Rng S b w.heap.size p o o' (fun x => (p x).isSome = true) sz := by
  have hg := ho _ _ _ h
  obtain ⟨A, ⟨B, C, ⟨⟨D, hm, hd, hs⟩, _⟩, _⟩, _⟩ := hg
  have hlt := hm.lt
  obtain ⟨w', hrun, hR, hgr, hsz⟩ := hm.range S.law ht
  have hbo : w.heap[b]? = some o := h.objt
  have hR' := hR
  obtain ⟨es, clock, since, seen, c0, hb, F, hn, hD, hr, r1, r2, r3, r4, r5, r6⟩ := hR
  have hbo' : w'.heap[b]? = some o := (hgr.block b hlt (by simp)).trans hbo
  refine ⟨w', .mapIter (some b) since seen c0, hrun, ?_, ?_⟩
  · have h2 : Own w0 w' (Objt b o :: l) := h.quiet ((Fr.refl _ _).grown hgr (fun j hj => by cases hj))
    exact ((h.new (w' := w') (Objt w.heap.size (.mapIter (some b) since seen c0)) (fun j => j = w.heap.size) ⟨hr, fun _ => Iff.rfl⟩ ((Fr.refl _ _).grown hgr (fun j hj => by cases hj)) (fun j hj => by omega))).two
  · intro v hvb hvr
    rw [hbo'] at hb
    cases hb
    rw [hs] at r2
    refine ⟨n, D, Maps.has D, ⟨es, clock, since, seen, c0, hvb, F, hn, hD, hvr, r1, r2, r3, r4, r5, r6⟩, hd, fun x hx => ?_⟩
    rw [has_of (hd x hx)]
theorem Own.rgNext (h : Own w0 w (Objt b o :: Objt r o' :: l)) (hR : Rng S b r p o o' left cnt) (ty : TypeId) :
    (cnt = 0 ∧ (∀ x, S.ok x → ¬ left x) ∧ (Instr.next (.pointer (some ⟨r, 0, none⟩)) false ty).run P w = .ok (.tuple #[.bool false]) w) ∨
    ∃ (x : κ) (v : Value) (w' : World) (o'' : Obj) (cnt' : Nat), S.ok x ∧ left x ∧ p x = some v ∧ (Instr.next (.pointer (some ⟨r, 0, none⟩)) false ty).run P w = .ok (.tuple #[.bool true, S.val x, v]) w' ∧ (Instr.entry (.pointer (some ⟨r, 0, none⟩))).run P w' = .ok (.tuple #[S.val x, v]) w' ∧ cnt' < cnt ∧ Own w0 w' (Objt b o :: Objt r o'' :: l) ∧ Rng S b r p o o'' (fun y => left y ∧ y ≠ x) cnt' := by
  have hbo := h.objt
  have hro := h.two.objt
  obtain ⟨n, D, lf, hRr, hd, hl⟩ := hR w hbo hro
  have hne := hRr.ne
  rcases hRr.next S.law ty with ⟨h0, h1, hrun⟩ | ⟨key, v, kl, y, w', cnt', hkey, hleft, hv, hat, hrun, hR', hlt, hg, hsz, hent⟩
  · exact .inl ⟨h0, fun x hx hc => (by have := (hl x hx).2 hc; rw [h1] at this; cases this), hrun⟩
  · obtain ⟨x, hx, rfl, rfl⟩ := S.inv hkey
    have hy : y = (.held v, []) := (Option.some.inj hv).symm
    subst hy
    have h3 := hat .nil
    rw [hd x hx] at h3
    have hp : p x = some v := by
      cases hp : p x with
      | none => rw [hp] at h3; simp [rdV] at h3
      | some u => rw [hp] at h3; simp only [rdV, DataW.held.injEq] at h3; rw [h3]
    have hblt : b < w.heap.size := (Array.getElem?_eq_some_iff.1 hbo).1
    have hbo' : w'.heap[b]? = some o := (hg.block b hblt (by intro e; exact hne (Option.some.inj e).symm)).trans hbo
    have hR2 := hR'
    obtain ⟨es, clock, since, seen, c0, hb, F, hn, hD, hr, r1, r2, r3, r4, r5, r6⟩ := hR'
    rw [hbo'] at hb
    cases hb
    refine .inr ⟨x, v, w', .mapIter (some b) since seen c0, cnt', hx, (hl x hx).1 hleft, hp, hrun, hent, hlt, ?_, ?_⟩
    · obtain ⟨A, ⟨_, hA⟩, _, act⟩ := h.two.act
      exact (act w' (Objt r (.mapIter (some b) since seen c0)) A ⟨hr, hA⟩ ((Fr.refl _ _).grown hg (fun j hj => .inl ((hA j).2 (by cases hj; rfl)))) (fun _ a => .inl a)).two
    · intro u hub hur
      refine ⟨n, D, _, ⟨es, clock, since, seen, c0, hub, F, hn, hD, hur, r1, r2, r3, r4, r5, r6⟩, hd, fun a ha => ?_⟩
      rw [Bool.and_eq_true, hl a ha]
      refine and_congr Iff.rfl ?_
      rw [Bool.not_eq_true', ← Bool.not_eq_true]
      refine not_congr ⟨fun e => S.inj ha hx (WideAt.sameKey_eq e), fun e => by rw [e]; exact WideAt.sameKey_self (S.key x)⟩
end
end Go.Proofs.YthokgjkgfolojabDoor
