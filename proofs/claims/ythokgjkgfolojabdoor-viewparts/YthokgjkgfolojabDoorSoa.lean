/-
  Sorting IDs: the row that is sorted, what is less, insertion sort.
-/
import Derived.Test.YthokgjkgfolojabDoorXm
import Derived.Sort.AssemblyPlain
import Derived.Sort.Row
import Derived.BigGuard
import Derived.BigCall
import Derived.CellFam
import Derived.Deep.Draws
import Derived.Deep.QuietTactic
import Derived.BigQuiet
namespace Go.Proofs.YthokgjkgfolojabDoor
open Go.RowKit Go.Sort
set_option linter.unusedVariables false
set_option maxRecDepth 100000

def iOf : Value → Int
  | .int _ q => q
  | _ => 0
def srow (d : Array Int) : List Value := d.toList.map (Value.int .u32)
/-- a slice of IDs that is sorted in its place -/
def SR (g n cap : Nat) (d : Array Int) : Thing := Row 29 1 (.slice (some ⟨g, 0, none⟩) n cap) n (srow d)
section
variable {w0 w : World} {l : List Thing} {g n cap : Nat} {d : Array Int}
theorem Own.srSize (h : Own w0 w (SR g n cap d :: l)) : d.size = n := by
  have := (Own.row h).1
  simpa [srow] using this
theorem Own.srAt (h : Own w0 w (SR g n cap d :: l)) (i : Nat) (hi : i < n) : w.cell? ⟨g, i, none⟩ = some (.int .u32 d[i]!) := by
  have hs := h.srSize
  have hr := Own.row h
  rw [hr.cellAt _ (by omega)]
  simp [srow, getElem!_pos, show i < d.size by omega]
theorem Own.srFz (h : Own w0 w (SR g n cap d :: l)) (i : Nat) : w.frozen? ⟨g, i, none⟩ = false := (Own.row h).frozenAt i
theorem Own.srSwp (h : Own w0 w (SR g n cap d :: l)) (i j : Nat) (hi : i < n) (hj : j < n) : Own w0 ((w.setCell ⟨g, i, none⟩ (.int .u32 d[j]!)).setCell ⟨g, j, none⟩ (.int .u32 d[i]!)) (SR g n cap (swp d i j) :: l) := by
  have h1 := (Own.setR h i (.int .u32 d[j]!)).setR j (.int .u32 d[i]!)
  have e : ((srow d).set i (.int .u32 d[j]!)).set j (.int .u32 d[i]!) = srow (swp d i j) := by
    unfold srow swp
    simp [List.map_set]
  rw [e] at h1
  exact h1
end
set_option maxHeartbeats 1000000 in
theorem isNaN_ok (x : Int) (w : World) : Calls Tryd.prog 54 #[.int .u32 x] w fun e w' => e = .returned (.bool false) ∧ w' = w := by
  go_enter Tryd.func54, Tryd.ntmps54
  go_wp2
  go_ret
  exact ⟨by simp, rfl⟩
set_option maxHeartbeats 1000000 in
theorem less_ok (x y : Int) (w : World) : Calls Tryd.prog 44 #[.int .u32 x, .int .u32 y] w fun e w' => e = .returned (.bool (ltInt x y)) ∧ w' = w := by
  go_enter Tryd.func44, Tryd.ntmps44
  go_wp2_with (go_at_call 54; refine (isNaN_ok _ _).mono ?_; rintro e w' ⟨rfl, rfl⟩)
  go_ret
  exact ⟨rfl, rfl⟩
section
variable {α : Type} [Inhabited α] (lt : α → α → Bool)
theorem inner_go (a k : Nat) (d : Array α) (hj : a < k + 1) (hl : lt d[k + 1]! d[k]! = true) : insInner lt a (k + 1) d = insInner lt a k (swp d (k + 1) k) := by
  rw [insInner]; simp [hj, hl]
theorem inner_low (a j : Nat) (d : Array α) (h : j ≤ a) : insInner lt a j d = d := by
  cases j with
  | zero => rw [insInner]
  | succ k => rw [insInner]; simp [show ¬ k + 1 > a by omega]
theorem inner_end (a k : Nat) (d : Array α) (h : lt d[k + 1]! d[k]! = false) : insInner lt a (k + 1) d = d := by
  rw [insInner]; simp [h]
end
theorem swoInt : SWO ltInt := ⟨fun x => by simp [ltInt], fun x y z h1 h2 => by simp [ltInt] at *; omega, fun x y z h1 h2 => by simp [ltInt] at *; omega⟩
set_option maxHeartbeats 4000000 in
theorem insSort_fn (w0 w : World) (l : List Thing) (g n cap : Nat) (d : Array Int) (a b : Nat) (h : Own w0 w (SR g n cap d :: l)) (hab : a ≤ b) (hb : b ≤ n) (hn : n < 1000000) :
    Calls Tryd.prog 38 #[.slice (some ⟨g, 0, none⟩) n cap, .int .i64 (a : Int), .int .i64 (b : Int)] w fun e w' => e = .returned (.tuple #[]) ∧ Own w0 w' (SR g n cap (insertionSort ltInt d a b) :: l) := by
  have H : Hid (Own w0 w (SR g n cap d :: l)) := h
  clear h
  go_enter Tryd.func38, Tryd.ntmps38
  go_wp2
  go_loopw [6] (fun vi wr => ∃ (i : Nat) (dk : Array Int), vi = .int .i64 (i : Int) ∧ a < i ∧ i ≤ b + 1 ∧ Own w0 wr (SR g n cap dk :: l) ∧ insOuter ltInt a b i dk = insOuter ltInt a b (a + 1) d) (fun vi _ => b + 1 - (iOf vi).toNat)
  case atStart => exact ⟨a + 1, d, by go_num, by omega, by omega, H.out, rfl⟩
  case round =>
    obtain ⟨i, dk, rfl, hai, hib, hO, hE⟩ := hrel
    have HO : Hid (Own w0 wr (SR g n cap dk :: l)) := hO
    have HE : Hid (insOuter ltInt a b i dk = insOuter ltInt a b (a + 1) d) := hE
    clear hO hE H
    by_cases hlt : i < b
    · have hlt' : (i : Int) < (b : Int) := by omega
      go_wp2
      go_loopw [7] (fun vj wr2 => ∃ (j : Nat) (dj : Array Int), vj = .int .i64 (j : Int) ∧ a ≤ j ∧ j ≤ i ∧ Own w0 wr2 (SR g n cap dj :: l) ∧ insInner ltInt a j dj = insInner ltInt a i dk) (fun vj _ => (iOf vj).toNat)
      case atStart => exact ⟨i, dk, rfl, by omega, Nat.le_refl _, HO.out, rfl⟩
      case round =>
        obtain ⟨j, dj, rfl, haj, hji, hO2, hI⟩ := hrel
        have HO2 : Hid (Own w0 wr (SR g n cap dj :: l)) := hO2
        have HI : Hid (insInner ltInt a j dj = insInner ltInt a i dk) := hI
        have OUT : Hid (insInner ltInt a j dj = dj → ∀ q, ∃ (i' : Nat) (dk' : Array Int), Value.int .i64 ((i : Int) + 1) = .int .i64 (i' : Int) ∧ a < i' ∧ i' ≤ b + 1 ∧ Own w0 (wr.drewN q) (SR g n cap dk' :: l) ∧ insOuter ltInt a b i' dk' = insOuter ltInt a b (a + 1) d) := fun hs q =>
          ⟨i + 1, dj, by go_num, by omega, by omega, HO2.out.drewN q, by rw [← HE.out, insOuter.eq_1 ltInt a b i, if_pos hlt, ← HI.out, hs]⟩
        clear hI HO
        by_cases hja : a < j
        · obtain ⟨k, hjk⟩ : ∃ k, j = k + 1 := ⟨j - 1, by omega⟩
          have hk1 : k + 1 < n := by omega
          have e1 : (j : Int) - 1 = (k : Int) := by omega
          have hja' : (a : Int) < (j : Int) := by omega
          have hjn : j < n := by omega
          have hkn : k < n := by omega
          have c1 := hO2.srAt j (by omega)
          have c2 := hO2.srAt k (by omega)
          have f1 := hO2.srFz j
          have f2 := hO2.srFz k
          obtain ⟨x1, hx1⟩ : ∃ x, x = dj[j]! := ⟨_, rfl⟩
          obtain ⟨x2, hx2⟩ : ∃ x, x = dj[k]! := ⟨_, rfl⟩
          rw [← hx1] at c1
          rw [← hx2] at c2
          have HX1 : Hid (x1 = dj[j]!) := hx1
          have HX2 : Hid (x2 = dj[k]!) := hx2
          have HJ : Hid (j = k + 1) := hjk
          clear hO2 hx1 hx2 hjk
          go_wp2
          go_quiet (first | (go_at_call 44; refine Calls.quiet_of_same (less_ok _ _ _)))
          go_wp2
          · have hl : ltInt x1 x2 = true := by assumption
            go_region
            all_goals go_wp2
            go_roundw
            case rel =>
              have hjk := HJ.out
              refine ⟨k, swp dj j k, by congr 1, by omega, by omega, ?_, ?_⟩
              · rw [HX1.out, HX2.out]
                exact (HO2.out.drewN _).srSwp j k (by omega) (by omega)
              · have hl2 := hl
                rw [HX1.out, HX2.out] at hl2
                rw [← HI.out]
                subst hjk
                rw [inner_go ltInt a k dj hja hl2]
            case measure => have := HJ.out; simp [iOf]; omega
          · have hl : ltInt x1 x2 = false := by assumption
            go_roundw
            case rel =>
              have hjk := HJ.out
              have hl2 := hl
              rw [HX1.out, HX2.out] at hl2
              subst hjk
              exact OUT.out (inner_end ltInt a k dj hl2) nq
            case measure => simp [iOf]; omega
        · have hja' : ¬ (a : Int) < (j : Int) := by omega
          clear hO2
          go_wp2
          go_quiet (first | (go_at_call 44; refine Calls.quiet_of_same (less_ok _ _ _)))
          go_wp2
          go_roundw
          case rel => exact OUT.out (inner_low ltInt a j dj (by omega)) nq
          case measure => simp [iOf]; omega
    · have hlt' : ¬ (i : Int) < (b : Int) := by omega
      go_wp2
      go_end0
      refine ⟨rfl, ?_⟩
      have e := HE.out
      rw [insOuter.eq_1 ltInt a b i, if_neg hlt] at e
      unfold insertionSort
      rw [← e]
      exact HO.out
end Go.Proofs.YthokgjkgfolojabDoor
