/-
  Scripts of who comes, goes and moves; the document's Put of anybody, anywhere.
-/
import Derived.Test.YthokgjkgfolojaaDoorCet
namespace Go.Proofs.YthokgjkgfolojaaDoor
open Go.ChangeShapes Go.WideShapes Go.ChangeAt Go.RowKit
set_option linter.unusedVariables false
set_option maxRecDepth 100000

def sstep (L : List Spt) (q : Opq) : List Spt := if q.d < 4 then pstep L q else if q.d = 4 then dropL L q.i else L
def playsS (Q : List Opq) : List Spt := Q.foldl sstep []
theorem GAll.sst {L : List Spt} {n : Nat} (h : GAll L n) (q : Opq) (hq : q.i < 4294967296) : GAll (sstep L q) (n + 1) := by
  unfold sstep
  split
  · exact h.put q hq
  · split
    · exact (h.drop q.i).mono (by omega)
    · exact h.mono (by omega)
theorem take_stepS {Q : List Opq} {j : Nat} {q : Opq} (h : Q[j]? = some q) (hj : j < 80) : playsS (Q.take (min (j + 1) 80)) = sstep (playsS (Q.take (min j 80))) q := by
  rw [Nat.min_eq_left (by omega : j + 1 ≤ 80), Nat.min_eq_left (by omega : j ≤ 80)]
  unfold playsS
  rw [List.take_add_one, h, List.foldl_append]
  rfl
theorem take_stayS {Q : List Opq} {j : Nat} (hj : ¬ j < 80) : playsS (Q.take (min (j + 1) 80)) = playsS (Q.take (min j 80)) := by
  rw [Nat.min_eq_right (by omega : 80 ≤ j + 1), Nat.min_eq_right (by omega : 80 ≤ j)]
theorem playsS_all {w : World} {ao : Option Addr} {len cap : Nat} {Q : List Opq} (h : IsOps w ao len cap Q) {j : Nat} (hj : j ≤ 80) : GAll (playsS (Q.take (min j 80))) j := by
  rw [Nat.min_eq_left hj]
  clear hj
  induction j with
  | zero => exact GAll.nil
  | succ j ih =>
    by_cases hl : j < len
    · obtain ⟨_, _, q, _, hq, _, d2, _⟩ := op_cells h (Fr.refl _ _) hl
      have e : playsS (Q.take (j + 1)) = sstep (playsS (Q.take j)) q := by
        unfold playsS
        rw [List.take_add_one, hq, List.foldl_append]
        rfl
      rw [e]
      exact ih.sst q d2
    · have e : Q.take (j + 1) = Q.take j := by rw [List.take_of_length_le (by have := h.1; omega), List.take_of_length_le (by have := h.1; omega)]
      rw [e]
      exact ih.mono (by omega)
theorem drop_code {L : List Spt} (h : Rise L) (id : Nat) : (if (hom L id).isSome then (0 : Int) else 7) = dropE L id := by
  unfold dropE
  cases hh : hom L id with
  | none => rw [dropL_self hh, if_pos rfl]; rfl
  | some c =>
    have := len_drop h hh
    simp only [Option.isSome_some, if_true]
    rw [if_neg (by omega)]
theorem hom_any (L : List Spt) (id : Nat) : (hom L id).isSome = L.any (fun s => decide (s.1 = id)) := by
  cases hh : hom L id with
  | none =>
    have := hom_none.1 hh
    symm
    simp only [Option.isSome_none]
    rw [List.any_eq_false]
    intro s hs
    simpa using this s hs
  | some c =>
    symm
    simp only [Option.isSome_some]
    by_cases ha : L.any (fun s => decide (s.1 = id)) = true
    · exact ha
    · exfalso
      have hn : hom L id = none := hom_none.2 (fun s hs e => ha (List.any_eq_true.2 ⟨s, hs, by simpa using e⟩))
      rw [hn] at hh; cases hh
theorem any_take {L : List Spt} {k : Nat} {s : Spt} (h : L[k]? = some s) (id : Nat) : (L.take (k + 1)).any (fun s => decide (s.1 = id)) = ((L.take k).any (fun s => decide (s.1 = id)) || decide (s.1 = id)) := by
  rw [List.take_add_one, h, List.any_append]
  simp
theorem rput_any (w0 w : World) (l : List Thing) (ao : Option Addr) (cap : Nat) (L : List Spt) (h : Own w0 w (SRow ao cap L :: l)) (hL : Rise L) (hl : L.length ≤ 10000) (id : Nat) (x y : Int) :
    Calls Tryd.prog 12 #[.slice ao L.length cap, .int .u32 (id : Int), .int .i32 x, .int .i32 y] w fun e w' => ∃ (ao' : Option Addr) (cap' : Nat), e = .returned (.tuple #[.slice ao' (rputL id x y L).length cap', .int .i64 (putE id x y)]) ∧ Own w0 w' (SRow ao' cap' (rputL id x y L) :: l) := by
  by_cases hc : putE id x y = 0
  · obtain ⟨h0, hW⟩ := putE_zero hc
    have e : rputL id x y L = putL L (id, x, y) := by unfold rputL; rw [if_pos hc]
    rw [e, hc]
    exact rputC w0 w l ao cap L h hL hl id x y h0 hW
  · have hn : id = 0 ∨ inW x y = false := by
      by_cases h0 : id = 0
      · exact Or.inl h0
      · right
        cases hw : inW x y with
        | false => rfl
        | true =>
          exfalso
          apply hc
          unfold putE
          rw [if_neg h0, if_pos hw]
    have e : rputL id x y L = L := by unfold rputL; rw [if_neg hc]
    rw [e]
    refine (rputE w ao L.length cap id x y hn).mono ?_
    rintro e w' ⟨rfl, rfl⟩
    exact ⟨ao, cap, rfl, h⟩
end Go.Proofs.YthokgjkgfolojaaDoor
