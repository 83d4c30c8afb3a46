/-
  The document's list of who is where: Box.
-/
import Derived.Test.YthokgjkgfolojaaDoorCeq
namespace Go.Proofs.YthokgjkgfolojaaDoor
open Go.RowKit
set_option linter.unusedVariables false
set_option maxRecDepth 100000

theorem box_take {L : List Spt} {j : Nat} {s : Spt} (hs : L[j]? = some s) (x0 y0 x1 y1 : Int) : boxL (L.take (j + 1)) x0 y0 x1 y1 = boxL (L.take j) x0 y0 x1 y1 ++ (if inB x0 y0 x1 y1 (scl s) then [s.1] else []) := by
  unfold boxL
  rw [List.take_add_one, hs, List.filter_append, List.map_append]
  cases h : inB x0 y0 x1 y1 (scl s) <;> simp [h]
set_option maxHeartbeats 16000000 in
theorem rbox (w0 w : World) (l : List Thing) (ao : Option Addr) (cap : Nat) (L : List Spt) (h : Own w0 w (SRow ao cap L :: l)) (hl : L.length ≤ 10000) (hI : ∀ s ∈ L, I32 s.2.1 ∧ I32 s.2.2) (x0 y0 x1 y1 : Int) :
    Calls Tryd.prog 22 #[.slice ao L.length cap, .int .i64 x0, .int .i64 y0, .int .i64 x1, .int .i64 y1] w fun e w' => ∃ (ao' : Option Addr) (cap' : Nat), e = .returned (.slice ao' (boxL L x0 y0 x1 y1).length cap') ∧ Own w0 w' (Row 30 1 (.slice ao' (boxL L x0 y0 x1 y1).length cap') (boxL L x0 y0 x1 y1).length (irow .u32 (boxL L x0 y0 x1 y1)) :: SRow ao cap L :: l) := by
  obtain ⟨i0, hi, hz0, hz1, hz2⟩ := info3 Tryd.infoIDc
  have H : Hid (Own w0 w (SRow ao cap L :: l)) := h
  have HI : Hid (∀ s ∈ L, I32 s.2.1 ∧ I32 s.2.2) := hI
  obtain ⟨n, hn⟩ : ∃ n, n = L.length := ⟨_, rfl⟩
  have HN : Hid (n = L.length) := hn
  rw [← hn] at hl ⊢
  clear h hn hI
  go_enter Tryd.func22, Tryd.ntmps22
  go_wp2
  go_loopw [11, 18] (fun vo vi wr => ∃ (j : Nat) (O : List Nat) (a1 : Option Addr) (c1 : Nat), vo = .slice a1 O.length c1 ∧ vi = .int .i64 (j : Int) ∧ j ≤ n ∧ O = boxL (L.take j) x0 y0 x1 y1 ∧ Own w0 wr (Row 30 1 (.slice a1 O.length c1) O.length (irow .u32 O) :: SRow ao cap L :: l)) (fun _ vi _ => n - (iOf vi).toNat)
  case atStart => exact ⟨0, [], none, 0, rfl, rfl, Nat.zero_le _, rfl, H.out.nilRow _ _⟩
  case round =>
    obtain ⟨j, O, a1, c1, rfl, rfl, hj, hO, hOw⟩ := hrel
    have HOE : Hid (O = boxL (L.take j) x0 y0 x1 y1) := hO
    have hOl : O.length ≤ j := by
      rw [hO]; unfold boxL; rw [List.length_map]
      exact Nat.le_trans (List.length_filter_le _ _) (by rw [List.length_take]; omega)
    clear hO H
    by_cases hlt : j < n
    · have hlt' : (j : Int) < (n : Int) := by omega
      obtain ⟨s, hs⟩ : ∃ s, L[j]? = some s := ⟨_, List.getElem?_eq_getElem (by rw [← HN.out]; exact hlt)⟩
      obtain ⟨g, rfl, c0, c1', c2⟩ := hOw.two.spt hs
      have HDT : Hid (boxL (L.take (j + 1)) x0 y0 x1 y1 = boxL (L.take j) x0 y0 x1 y1 ++ (if inB x0 y0 x1 y1 (scl s) then [s.1] else [])) := box_take hs x0 y0 x1 y1
      rw [← HOE.out] at HDT
      obtain ⟨hx32, hy32⟩ := HI.out s (List.mem_of_getElem? hs)
      obtain ⟨si, sx, sy⟩ := s
      simp only at c0 c1' c2 hx32 hy32
      obtain ⟨cx, hcx⟩ : ∃ cx, cx = cel sx := ⟨_, rfl⟩
      obtain ⟨cy, hcy⟩ : ∃ cy, cy = cel sy := ⟨_, rfl⟩
      have HX : Hid (∀ W, Calls Tryd.prog 10 #[.int .i32 sx] W fun e w' => e = .returned (.int .i64 cx) ∧ w' = W) := fun W => by rw [hcx]; exact rof_ok W sx hx32
      have HY : Hid (∀ W, Calls Tryd.prog 10 #[.int .i32 sy] W fun e w' => e = .returned (.int .i64 cy) ∧ w' = W) := fun W => by rw [hcy]; exact rof_ok W sy hy32
      have HSC : Hid (scl (si, sx, sy) = (cx, cy)) := by show _ = _; unfold scl; rw [hcx, hcy]
      rw [HSC.out] at HDT
      obtain ⟨on, hon⟩ : ∃ on, on = O.length := ⟨_, rfl⟩
      have HON : Hid (O.length = on) := hon.symm
      have HW : Hid (Own w0 wr (Row 30 1 (.slice a1 on c1) on (irow .u32 O) :: SRow (some ⟨g, 0, none⟩) cap L :: l)) := by rw [hon]; exact hOw
      rw [← hon] at hOl ⊢
      clear hOw hs hcx hcy hx32 hy32 hon HSC
      have hA := (HW.out.allocC #[.int .u32 (si : Int), .int .i32 sx, .int .i32 sy] 42)
      have HA : Hid (Own w0 _ _) := hA
      clear hA HW
      go_wp2
      generalize hWg : wr.alloc (.cells #[.int .u32 (si : Int), .int .i32 sx, .int .i32 sy] 42) = W1 at *
      generalize wr.heap.size = B at *
      clear hWg
      have q1 := HA.out.cell 1
      have q2 := HA.out.cell 2
      simp at q1 q2
      go_quiet (first | (go_at_call 10; with_reducible refine Calls.quiet_of_same (HX.out _)) | (go_at_call 10; with_reducible refine Calls.quiet_of_same (HY.out _)))
      generalize hWg : W1.drewN nq = W2
      have hB := HA.out.drewN nq
      rw [hWg] at hB
      have q0 := hB.cell 0
      simp at q0
      have HB : Hid (Own w0 W2 _) := hB.two
      clear hWg hB q1 q2 HA HX HY
      by_cases hin : x0 ≤ cx ∧ cx ≤ x1 ∧ y0 ≤ cy ∧ cy ≤ y1
      · obtain ⟨b1, b2, b3, b4⟩ := hin
        have HD2 : Hid (boxL (L.take (j + 1)) x0 y0 x1 y1 = O ++ [si]) := by
          show _ = _
          rw [HDT.out, if_pos (by simp [inB]; omega)]
        clear HDT
        go_wp2_with (at_builtin; refine append1_own rfl _ _ 46 rfl 30 i0 (.int .u32 0) 1 4 Tryd.underlying46 hi hz0 hz1 hz2 rfl (by decide) _ _ _ rfl HB.out _ #[.int .u32 (si : Int)] (by simp) rfl rfl (one_int _ _) (by unfold maxLen; omega) (by omega) ?_)
        intro g2 cap2 w2 hO2 hsz
        have HO2 : Hid (Own w0 w2 (Row 30 1 (.slice (some ⟨g2, 0, none⟩) (on + 1) cap2) (on + 1) (irow .u32 (O ++ [si])) :: SRow (some ⟨g, 0, none⟩) cap L :: l)) := by
          show Own _ _ _
          rw [irow_append]
          exact hO2.two.tail
        clear hO2 hsz HB q0
        go_wp2
        go_roundw
        case rel =>
          have e : (O ++ [si]).length = on + 1 := by rw [List.length_append, HON.out]; rfl
          refine ⟨j + 1, O ++ [si], some ⟨g2, 0, none⟩, cap2, by rw [e], by go_num, by omega, HD2.out.symm, ?_⟩
          rw [e]
          exact HO2.out
        case measure => simp [iOf]; omega
      · have HD2 : Hid (boxL (L.take (j + 1)) x0 y0 x1 y1 = O) := by
          show _ = _
          rw [HDT.out, if_neg (by simp [inB]; omega), List.append_nil]
        have HB2 : Hid (Own w0 W2 (Row 30 1 (.slice a1 on c1) on (irow .u32 O) :: SRow (some ⟨g, 0, none⟩) cap L :: l)) := HB.out.two.tail
        clear HDT HB q0
        by_cases b1 : x0 ≤ cx
        · by_cases b2 : cx ≤ x1
          · by_cases b3 : y0 ≤ cy
            · have b4 : ¬ cy ≤ y1 := fun h => hin ⟨b1, b2, b3, h⟩
              clear hin
              go_wp2
              go_roundw
              case rel => exact ⟨j + 1, O, a1, c1, by rw [HON.out], by go_num, by omega, HD2.out.symm, by rw [HON.out]; exact HB2.out⟩
              case measure => simp [iOf]; omega
            · clear hin
              go_wp2
              go_roundw
              case rel => exact ⟨j + 1, O, a1, c1, by rw [HON.out], by go_num, by omega, HD2.out.symm, by rw [HON.out]; exact HB2.out⟩
              case measure => simp [iOf]; omega
          · clear hin
            go_wp2
            go_roundw
            case rel => exact ⟨j + 1, O, a1, c1, by rw [HON.out], by go_num, by omega, HD2.out.symm, by rw [HON.out]; exact HB2.out⟩
            case measure => simp [iOf]; omega
        · clear hin
          go_wp2
          go_roundw
          case rel => exact ⟨j + 1, O, a1, c1, by rw [HON.out], by go_num, by omega, HD2.out.symm, by rw [HON.out]; exact HB2.out⟩
          case measure => simp [iOf]; omega
    · have hlt' : ¬ (j : Int) < (n : Int) := by omega
      have hjn : j = n := by omega
      have HOL : Hid (O = boxL L x0 y0 x1 y1) := by show _ = _; rw [HOE.out, hjn, HN.out, List.take_length]
      have HW : Hid (Own w0 wr _) := hOw
      clear hOw
      generalize hon : O.length = on at *
      have HON : Hid (O.length = on) := hon
      clear hon hjn
      go_wp2
      go_ret
      refine ⟨a1, c1, by rw [← HOL.out, HON.out]; rfl, ?_⟩
      rw [← HOL.out, HON.out]
      exact HW.out
end Go.Proofs.YthokgjkgfolojaaDoor
