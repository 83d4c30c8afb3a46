/-
  What becomes of those that were there: the program's after.
-/
import Derived.Test.YtkjanpjlpieaoaaDoorQd28
import Derived.Deep.RegionWith
namespace Go.Proofs.YtkjanpjlpieaoaaDoor
open Go.RowKit
set_option linter.unusedVariables false
set_option maxRecDepth 100000

theorem aft_g {x : En} {t : List En} {g : List Nat} {c : List Chg} {L : List En} (h : AftR t g c L) : AftR (x :: t) (x.1 :: g) c L := by
  unfold AftR
  simp only [List.head?_cons, if_true, List.tail_cons]
  exact h
theorem aft_c {x : En} {t : List En} {g : List Nat} {y : Chg} {c : List Chg} {M : List Cp} {L : List En} (hg : g.head? ≠ some x.1) (hy : y.id = x.1) (hM : ChgR x.2 y M) (h : AftR t g c L) : AftR (x :: t) g (y :: c) ((x.1, M) :: L) := by
  unfold AftR
  rw [if_neg hg]
  simp only
  rw [if_pos hy]
  exact ⟨M, L, rfl, hM, h⟩
theorem aft_s {x : En} {t : List En} {g : List Nat} {c : List Chg} {L : List En} (hg : g.head? ≠ some x.1) (hc : c.head?.map Chg.id ≠ some x.1) (h : AftR t g c L) : AftR (x :: t) g c (x :: L) := by
  unfold AftR
  rw [if_neg hg]
  cases c with
  | nil => exact ⟨L, rfl, h⟩
  | cons y c =>
    simp only
    rw [if_neg (by simpa using hc)]
    exact ⟨L, rfl, h⟩
theorem chgR_len {A : List Cp} {x : ChE} {M : List Cp} (h : ChgR A x.v M) : M.length ≤ A.length + x.N.length := by
  rw [h.1.length_eq]
  unfold mid ChE.v
  rw [List.length_append, List.length_map]
  have := List.length_filter_le (stays x.lost) A
  show _ + x.N.length ≤ _
  simp only
  omega
theorem chgR_k {A : List Cp} {x : ChE} {M : List Cp} (h : ChgR A x.v M) (hA : ∀ q ∈ A, q.k < 256) (hN : ∀ q ∈ x.N, q.k < 256) : ∀ q ∈ M, q.k < 256 := by
  intro q hq
  have := h.1.subset hq
  unfold mid ChE.v at this
  rcases List.mem_append.1 this with h1 | h1
  · obtain ⟨y, hy, rfl⟩ := List.mem_map.1 h1
    rw [lat_k]
    exact hA y (List.mem_filter.1 hy).1
  · exact hN q h1
theorem Nums.tail {w : World} {g o n c c' : Nat} {x : Nat} {t : List Nat} (h : Nums .u32 w (.slice (some ⟨g, o, none⟩) n c) (x :: t)) : Nums .u32 w (.slice (some ⟨g, o + 1, none⟩) t.length c') t := by
  refine ⟨_, _, rfl, ?_⟩
  obtain ⟨a, c2, e, h⟩ := h
  simp only [Value.slice.injEq] at e
  rcases h with h | ⟨g', o', ha, hc⟩
  · cases h
  · rw [← e.1] at ha
    cases ha
    refine .inr ⟨g, o + 1, rfl, fun j y hy => ?_⟩
    have := hc (j + 1) y (by simpa using hy)
    rw [show o + 1 + j = o + (j + 1) by omega]
    exact this
theorem Nums.nil (k : IntKind) (w : World) (ao : Option Addr) (c : Nat) : Nums k w (.slice ao 0 c) [] := ⟨ao, c, rfl, .inl rfl⟩
theorem ChsAt.tail {w : World} {g o : Nat} {x : ChE} {t : List ChE} (h : ChsAt w (some ⟨g, o, none⟩) (x :: t)) : ChsAt w (some ⟨g, o + 4, none⟩) t := by
  refine ⟨?_, fun y hy => h.2 y (List.mem_cons_of_mem _ hy)⟩
  rcases h.1 with h0 | ⟨g', o', ha, hc⟩
  · cases h0
  · cases ha
    refine .inr ⟨g, o + 4, rfl, fun j y hy => ?_⟩
    have := hc (j + 1) y (by simpa using hy)
    have e : o + (j + 1) * 4 = o + 4 + j * 4 := by omega
    rw [e] at this
    exact this
theorem ChsAt.nil (w : World) (ao : Option Addr) : ChsAt w ao [] := ⟨.inl rfl, fun x hx => by cases hx⟩
/-- where after stands -/
structure AfR (w0 : World) (l : List Thing) (W : List EnE) (d : DlE) (b3 : Nat) (n j : Nat) (G1 : List Nat) (ga : Option Addr) (gc : Nat) (H1 : List ChE) (ha : Option Addr) (hc : Nat) (L1 : List EnE) (la : Option Addr) (lc : Nat) (Y : List EnE) (wr : World) : Prop where
  rd : ∀ w', Own w0 w' l → Nums .u32 w' (.slice ga G1.length gc) G1 ∧ ChsAt w' ha H1
  cp : G1.length ≤ gc ∧ H1.length ≤ hc ∧ gc ≤ 9223372036854775807 ∧ hc ≤ 9223372036854775807
  sf : H1 <:+ d.H
  gl : G1.length ≤ d.G.length
  kk : ∀ L2, AftR ((evs W).drop j) G1 (chv H1) L2 → AftR (evs W) d.G (chv d.H) (evs L1 ++ L2)
  le : L1.length ≤ j
  sz : csz L1 + hsz H1 ≤ csz (W.take j) + hsz d.H
  inn : EIn L1
  src : ∀ x ∈ L1, x ∈ Y ∨ x ∈ W
  own : Own w0 wr (Row 43 2 (.slice la L1.length lc) L1.length (cat EnE.cs L1) :: Cells b3 d.vs 26 :: (Y.map erow ++ l))
end Go.Proofs.YtkjanpjlpieaoaaDoor

