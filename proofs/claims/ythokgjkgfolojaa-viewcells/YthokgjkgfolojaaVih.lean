/-
  The cells of a region in the document.
-/
import Derived.Test.YthokgjkgfolojaaVie
import Derived.Test.YthokgjkgfolojaaVif
namespace Go.Proofs.Ythokgjkgfolojaa
open Go.RowKit
set_option linter.unusedVariables false
set_option maxRecDepth 100000

set_option maxHeartbeats 16000000 in
theorem rcells_ok (w : World) (on : Bool) (x y r : Int) (w0 : World) (l : List Thing) (h : Own w0 w l) : Calls Try.prog 6 #[rgv on x y r] w fun e w' => ∃ (R : List Cl2) (ao : Option Addr) (cap : Nat), e = .returned (.slice ao R.length cap) ∧ AllC on x y r R ∧ Own w0 w' (CRow ao cap R :: l) := by
  obtain ⟨i0, hi, hz0, hz1, hz2⟩ := info3v Try.infoC2
  have hA := h.allocC #[.bool on, .int .i64 x, .int .i64 y, .int .i64 r] 23
  have HA : Hid (Own w0 _ _) := hA
  have CH : Hid (∀ W (X Y : Int), -32 ≤ X → X ≤ 31 → -32 ≤ Y → Y ≤ 31 → Calls Try.prog 13 #[.agg #[.bool on, .int .i64 x, .int .i64 y, .int .i64 r], .int .i64 X, .int .i64 Y] W fun e w' => e = .returned (.bool (clP on x y r (X, Y))) ∧ Fr Nobody W w') := fun W X Y h1 h2 h3 h4 => by
    have e : clP on x y r (X, Y) = hasC on x y r X Y := by
      unfold clP
      rw [bw_iff.2 ⟨h1, h2⟩, bw_iff.2 ⟨h3, h4⟩]
      simp
    rw [e]
    exact rhas_ok W on x y r X Y (by omega) (by omega)
  have HP : Hid (∀ k : Cl2, clP on x y r k = true → -32 ≤ k.1 ∧ k.1 ≤ 31 ∧ -32 ≤ k.2 ∧ k.2 ≤ 31) := fun k hk => by have := clP_iff.1 hk; omega
  clear hA h
  unfold rgv
  go_enter Try.func6, Try.ntmps6
  generalize hWg : w.alloc (.cells #[.bool on, .int .i64 x, .int .i64 y, .int .i64 r] 23) = W1 at HA
  go_wp2
  generalize w.heap.size = B at *
  clear hWg
  go_loopw [3, 4] (fun vl vx wr => ∃ (X : Int) (R : List Cl2) (n : Nat) (ao : Option Addr) (cap : Nat), vl = .slice ao n cap ∧ vx = .int .i64 X ∧ n = R.length ∧ -32 ≤ X ∧ X ≤ 32 ∧ (n : Int) ≤ 64 * (X + 32) ∧ UpTo (clP on x y r) X (-32) R ∧ Own w0 wr (CRow ao cap R :: Cells B #[.bool on, .int .i64 x, .int .i64 y, .int .i64 r] 23 :: l)) (fun _ vx _ => (32 - intOf vx).toNat)
  case atStart => exact ⟨-32, [], 0, none, 0, rfl, rfl, rfl, by decide, by decide, by decide, UpTo.start (fun k hk => by have := HP.out k hk; omega), HA.out.nilRow _ _⟩
  case round =>
    obtain ⟨X, R, n, ao, cap, rfl, rfl, hn, hX1, hX2, hnl, hU, hO⟩ := hrel
    have HN : Hid (n = R.length) := hn
    have HU : Hid (UpTo (clP on x y r) X (-32) R) := hU
    have HO : Hid (Own w0 wr _) := hO
    clear hn hU hO HA
    by_cases hx : X ≤ 31
    · go_wp2
      go_loopw [3, 5] (fun vl vy wr => ∃ (Y : Int) (R : List Cl2) (n : Nat) (ao : Option Addr) (cap : Nat), vl = .slice ao n cap ∧ vy = .int .i64 Y ∧ n = R.length ∧ -32 ≤ Y ∧ Y ≤ 32 ∧ (n : Int) ≤ 64 * (X + 32) + (Y + 32) ∧ UpTo (clP on x y r) X Y R ∧ Own w0 wr (CRow ao cap R :: Cells B #[.bool on, .int .i64 x, .int .i64 y, .int .i64 r] 23 :: l)) (fun _ vy _ => (32 - intOf vy).toNat)
      case atStart => exact ⟨-32, R, n, ao, cap, rfl, rfl, HN.out, by decide, by decide, by omega, HU.out, HO.out⟩
      case round =>
        clear HO HU HN hnl
        obtain ⟨Y, R, n, ao, cap, rfl, rfl, hn, hY1, hY2, hnl, hU, hO⟩ := hrel
        have HN : Hid (n = R.length) := hn
        have HU : Hid (UpTo (clP on x y r) X Y R) := hU
        have p0 := hO.two.cell 0
        have p1 := hO.two.cell 1
        have p2 := hO.two.cell 2
        have p3 := hO.two.cell 3
        simp at p0 p1 p2 p3
        have HO : Hid (Own w0 wr (Row 31 2 (.slice ao n cap) n (cat cl2 R) :: Cells B #[.bool on, .int .i64 x, .int .i64 y, .int .i64 r] 23 :: l)) := by rw [hn]; exact hO
        clear hn hU hO
        by_cases hy : Y ≤ 31
        · have C1 : Hid (Calls _ _ _ _ _) := CH.out wr X Y hX1 hx hY1 hy
          cases hp : clP on x y r (X, Y) with
          | true =>
            have HU2 : Hid (UpTo (clP on x y r) X (Y + 1) (R ++ [(X, Y)])) := HU.out.yes hp
            rw [hp] at C1
            clear HU hp
            go_wp2_with fail
            refine C1.out.mono ?_
            rintro e w1 ⟨rfl, hf⟩
            have HO1 : Hid (Own w0 w1 _) := HO.out.quiet hf
            clear C1 hf HO p0 p1 p2 p3
            go_wp2_with (at_builtin; refine append1_own rfl _ _ 25 rfl 31 i0 (.agg #[.int .i64 0, .int .i64 0]) 2 16 Try.underlying25 hi hz0 hz1 hz2 rfl (by decide) _ _ _ rfl HO1.out _ #[.int .i64 X, .int .i64 Y] (by simp) rfl rfl (one_cl2 (X, Y)) (by unfold maxLen; omega) (by omega) ?_)
            intro g2 cap2 w2 hO2 hsz
            have HO2 : Hid (Own w0 w2 (CRow (some ⟨g2, 0, none⟩) cap2 (R ++ [(X, Y)]) :: Cells B #[.bool on, .int .i64 x, .int .i64 y, .int .i64 r] 23 :: l)) := by
              have e : (R ++ [(X, Y)]).length = n + 1 := by rw [List.length_append, HN.out]; rfl
              show Own _ _ _
              unfold CRow
              rw [e, cat_append]
              exact hO2
            clear hO2 hsz HO1
            go_wp2
            go_roundw
            case rel => exact ⟨Y + 1, R ++ [(X, Y)], n + 1, some ⟨g2, 0, none⟩, cap2, rfl, by go_num, by rw [List.length_append, HN.out]; rfl, by omega, by omega, by omega, HU2.out, HO2.out⟩
            case measure => simp [intOf]; omega
          | false =>
            have HU2 : Hid (UpTo (clP on x y r) X (Y + 1) R) := HU.out.no hp
            rw [hp] at C1
            clear HU hp
            go_wp2_with fail
            refine C1.out.mono ?_
            rintro e w1 ⟨rfl, hf⟩
            have HO1 : Hid (Own w0 w1 (CRow ao cap R :: Cells B #[.bool on, .int .i64 x, .int .i64 y, .int .i64 r] 23 :: l)) := by
              have := HO.out.quiet hf
              rw [HN.out] at this
              exact this
            clear C1 hf HO p0 p1 p2 p3
            go_wp2
            go_roundw
            case rel => exact ⟨Y + 1, R, n, ao, cap, rfl, by go_num, HN.out, by omega, by omega, by omega, HU2.out, HO1.out⟩
            case measure => simp [intOf]; omega
        · have HO3 : Hid (Own w0 wr (CRow ao cap R :: Cells B #[.bool on, .int .i64 x, .int .i64 y, .int .i64 r] 23 :: l)) := by
            have := HO.out
            rw [HN.out] at this
            exact this
          clear HO p0 p1 p2 p3
          go_wp2
          go_roundw
          case rel => exact ⟨X + 1, R, n, ao, cap, rfl, by go_num, HN.out, by omega, by omega, by omega, HU.out.col (fun k hk => by have := HP.out k hk; omega) (fun k hk => by have := HP.out k hk; omega), HO3.out⟩
          case measure => simp [intOf]; omega
    · go_wp2
      go_ret
      refine ⟨R, ao, cap, by rw [HN.out]; rfl, AllC.of HU.out (fun k hk => Or.inl ?_), HO.out.two.tail⟩
      have := HP.out k hk
      show k.1 < X
      omega
end Go.Proofs.Ythokgjkgfolojaa
