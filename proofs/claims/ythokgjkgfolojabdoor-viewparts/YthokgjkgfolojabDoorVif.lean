/-
  The cells of a region.
-/
import Derived.Test.YthokgjkgfolojabDoorVid
import Derived.Test.YthokgjkgfolojabDoorYa
namespace Go.Proofs.YthokgjkgfolojabDoor
open Go.RowKit
set_option linter.unusedVariables false
set_option maxRecDepth 100000

def cl2 (c : Cl2) : List Value := [.int .i64 c.1, .int .i64 c.2]
theorem Tryd.infoC2 : (Tryd.prog.info? 68).map (fun i => (i.zero, i.size, i.bytes)) = some (some (.agg #[.int .i64 0, .int .i64 0]), 2, 16) := by kernel_rfl
theorem info3v {P : Program} {t : TypeId} {z : Option Value} {s b : Nat} (h : (P.info? t).map (fun i => (i.zero, i.size, i.bytes)) = some (z, s, b)) : ∃ i, P.info? t = some i ∧ i.zero = z ∧ i.size = s ∧ i.bytes = b := by
  cases hi : P.info? t with
  | none => rw [hi] at h; simp at h
  | some i => rw [hi] at h; simp at h; exact ⟨i, rfl, h.1, h.2.1, h.2.2⟩
theorem one_cl2 (c : Cl2) : ∀ u ∈ (cl2 c).toArray.toList, u.oneCell' = true := by
  intro u hu
  simp [cl2] at hu
  rcases hu with rfl | rfl <;> rfl
/-- a list of cells -/
abbrev CRow (ao : Option Addr) (cap : Nat) (R : List Cl2) : Thing := Row 68 2 (.slice ao R.length cap) R.length (cat cl2 R)
set_option maxHeartbeats 16000000 in
theorem cells_ok (w : World) (on : Bool) (x y r : Int) (w0 : World) (l : List Thing) (h : Own w0 w l) : Calls Tryd.prog 16 #[rgv on x y r] w fun e w' => ∃ (R : List Cl2) (ao : Option Addr) (cap : Nat), e = .returned (.slice ao R.length cap) ∧ AllC on x y r R ∧ Own w0 w' (CRow ao cap R :: l) := by
  obtain ⟨i0, hi, hz0, hz1, hz2⟩ := info3v Tryd.infoC2
  have hA := h.allocC #[.bool on, .int .i64 x, .int .i64 y, .int .i64 r] 24
  have HA : Hid (Own w0 _ _) := hA
  have CH : Hid (∀ W, Calls Tryd.prog 21 #[.agg #[.bool on, .int .i64 x, .int .i64 y, .int .i64 r]] W fun e w' => e = .returned (.bool (hasR on x y r)) ∧ Fr Nobody W w') := fun W => hasCells_ok W on x y r
  clear hA h
  unfold rgv
  cases hR : hasR on x y r with
  | false =>
    rw [hR] at CH
    have HR : Hid (hasR on x y r = false) := hR
    clear hR
    go_enter Tryd.func16, Tryd.ntmps16
    go_wp2_with fail
    refine (CH.out _).mono ?_
    rintro e w1 ⟨rfl, hf⟩
    have HB : Hid (Own w0 w1 l) := (HA.out.quiet hf).tail
    clear HA hf CH
    go_wp2
    go_ret
    exact ⟨[], none, 0, rfl, AllC.none HR.out, HB.out.nilRow _ _⟩
  | true =>
    rw [hR] at CH
    have HR : Hid (hasR on x y r = true) := hR
    obtain ⟨⟨bx1, bx2⟩, ⟨by1, by2⟩, br1, br2⟩ := inR_iff.1 (by unfold hasR at hR; exact (Bool.and_eq_true .. ▸ hR).2 : inR x y r = true)
    obtain ⟨a, ha⟩ : ∃ a, a = x - r := ⟨_, rfl⟩
    obtain ⟨b, hb⟩ : ∃ b, b = x + r := ⟨_, rfl⟩
    obtain ⟨c, hc⟩ : ∃ c, c = y - r := ⟨_, rfl⟩
    obtain ⟨d, hd⟩ : ∃ d, d = y + r := ⟨_, rfl⟩
    have hw1 : IntKind.i64.wrap (x - r) = a := by rw [ha]; exact wr64 bx1 bx2 br1 br2
    have hw2 : IntKind.i64.wrap (x + r) = b := by rw [hb]; exact wr64' bx1 bx2 br1 br2
    have hw3 : IntKind.i64.wrap (y - r) = c := by rw [hc]; exact wr64 by1 by2 br1 br2
    have hw4 : IntKind.i64.wrap (y + r) = d := by rw [hd]; exact wr64' by1 by2 br1 br2
    have HP : Hid (∀ k : Cl2, clP on x y r k = true ↔ ((max a (-32) ≤ k.1 ∧ k.1 ≤ min b 31) ∧ (max c (-32) ≤ k.2 ∧ k.2 ≤ min d 31))) := fun k => by
      rw [clP_iff]
      constructor
      · rintro ⟨_, h1, h2, h3, h4⟩; omega
      · rintro ⟨h1, h2⟩; exact ⟨HR.out, by omega⟩
    have e1 : -40 ≤ a ∧ a ≤ 31 := by omega
    have e2 : -32 ≤ b ∧ b ≤ 39 := by omega
    have e3 : -40 ≤ c ∧ c ≤ 31 := by omega
    have e4 : -32 ≤ d ∧ d ≤ 39 := by omega
    obtain ⟨xl, hxl⟩ : ∃ v, v = max a (-32) := ⟨_, rfl⟩
    obtain ⟨xh, hxh⟩ : ∃ v, v = min b 31 := ⟨_, rfl⟩
    obtain ⟨yl, hyl⟩ : ∃ v, v = max c (-32) := ⟨_, rfl⟩
    obtain ⟨yh, hyh⟩ : ∃ v, v = min d 31 := ⟨_, rfl⟩
    rw [← hxl, ← hxh, ← hyl, ← hyh] at HP
    have xb : -32 ≤ xl ∧ xl ≤ 31 ∧ -32 ≤ xh ∧ xh ≤ 31 ∧ xl ≤ xh := by omega
    have yb : -32 ≤ yl ∧ yl ≤ 31 ∧ -32 ≤ yh ∧ yh ≤ 31 ∧ yl ≤ yh := by omega
    obtain ⟨xb1, xb2, xb3, xb4, xb5⟩ := xb
    obtain ⟨yb1, yb2, yb3, yb4, yb5⟩ := yb
    have hm1 : max a (-32) = xl := hxl.symm
    have hm2 : min b 31 = xh := hxh.symm
    have hm3 : max c (-32) = yl := hyl.symm
    have hm4 : min d 31 = yh := hyh.symm
    clear hR hxl hxh hyl hyh ha hb hc hd e1 e2 e3 e4
    go_enter Tryd.func16, Tryd.ntmps16
    go_wp2_with fail
    refine (CH.out _).mono ?_
    rintro e w1 ⟨rfl, hf⟩
    have hB := HA.out.quiet hf
    have HB : Hid (Own w0 w1 _) := hB
    generalize w.heap.size = B at *
    have q1 := hB.cell 1
    have q2 := hB.cell 2
    have q3 := hB.cell 3
    simp at q1 q2 q3
    clear HA hf CH hB
    go_wp2
    go_loopw [3, 4] (fun vl vx wr => ∃ (X : Int) (R : List Cl2) (n : Nat) (ao : Option Addr) (cap : Nat), vl = .slice ao n cap ∧ vx = .int .i64 X ∧ n = R.length ∧ xl ≤ X ∧ X ≤ 32 ∧ (n : Int) ≤ 64 * (X + 32) ∧ UpTo (clP on x y r) X yl R ∧ Own w0 wr (CRow ao cap R :: Cells B #[.bool on, .int .i64 x, .int .i64 y, .int .i64 r] 24 :: l)) (fun _ vx _ => (32 - intOf vx).toNat)
    case atStart => exact ⟨xl, [], 0, none, 0, rfl, rfl, rfl, Int.le_refl _, by omega, by omega, UpTo.start (fun k hk => by have := (HP.out k).1 hk; omega), HB.out.nilRow _ _⟩
    case round =>
      obtain ⟨X, R, n, ao, cap, rfl, rfl, hn, hX1, hX2, hnl, hU, hO⟩ := hrel
      have HN : Hid (n = R.length) := hn
      have HU : Hid (UpTo (clP on x y r) X yl R) := hU
      have p1 := hO.two.cell 1
      have p2 := hO.two.cell 2
      have p3 := hO.two.cell 3
      simp at p1 p2 p3
      have HO : Hid (Own w0 wr _) := hO
      clear hn hU hO HB q1 q2 q3
      by_cases hx : X ≤ xh
      · go_wp2
        go_loopw [3, 5] (fun vl vy wr => ∃ (Y : Int) (R : List Cl2) (n : Nat) (ao : Option Addr) (cap : Nat), vl = .slice ao n cap ∧ vy = .int .i64 Y ∧ n = R.length ∧ yl ≤ Y ∧ Y ≤ 32 ∧ (n : Int) ≤ 64 * (X + 32) + (Y + 32) ∧ UpTo (clP on x y r) X Y R ∧ Own w0 wr (CRow ao cap R :: Cells B #[.bool on, .int .i64 x, .int .i64 y, .int .i64 r] 24 :: l)) (fun _ vy _ => (32 - intOf vy).toNat)
        case atStart => exact ⟨yl, R, n, ao, cap, rfl, rfl, HN.out, Int.le_refl _, by omega, by omega, HU.out, HO.out⟩
        case round =>
          clear p1 p2 p3 HO HU HN hnl
          obtain ⟨Y, R, n, ao, cap, rfl, rfl, hn, hY1, hY2, hnl, hU, hO⟩ := hrel
          have HN : Hid (n = R.length) := hn
          have HU : Hid (UpTo (clP on x y r) X Y R) := hU
          have p1 := hO.two.cell 1
          have p2 := hO.two.cell 2
          have p3 := hO.two.cell 3
          simp at p1 p2 p3
          have HO : Hid (Own w0 wr (Row 68 2 (.slice ao n cap) n (cat cl2 R) :: Cells B #[.bool on, .int .i64 x, .int .i64 y, .int .i64 r] 24 :: l)) := by rw [hn]; exact hO
          clear hn hU hO
          by_cases hy : Y ≤ yh
          · have HU2 : Hid (UpTo (clP on x y r) X (Y + 1) (R ++ [(X, Y)])) := HU.out.yes ((HP.out (X, Y)).2 ⟨⟨hX1, hx⟩, hY1, hy⟩)
            clear HU
            go_wp2_with (at_builtin; refine append1_own rfl _ _ 46 rfl 68 i0 (.agg #[.int .i64 0, .int .i64 0]) 2 16 Tryd.underlying46 hi hz0 hz1 hz2 rfl (by decide) _ _ _ rfl HO.out _ #[.int .i64 X, .int .i64 Y] (by simp) rfl rfl (one_cl2 (X, Y)) (by unfold maxLen; omega) (by omega) ?_)
            intro g2 cap2 w2 hO2 hsz
            have HO2 : Hid (Own w0 w2 (CRow (some ⟨g2, 0, none⟩) cap2 (R ++ [(X, Y)]) :: Cells B #[.bool on, .int .i64 x, .int .i64 y, .int .i64 r] 24 :: l)) := by
              have e : (R ++ [(X, Y)]).length = n + 1 := by rw [List.length_append, HN.out]; rfl
              show Own _ _ _
              unfold CRow
              rw [e, cat_append]
              exact hO2
            clear hO2 hsz HO
            go_wp2
            go_roundw
            case rel => exact ⟨Y + 1, R ++ [(X, Y)], n + 1, some ⟨g2, 0, none⟩, cap2, rfl, by go_num, by rw [List.length_append, HN.out]; rfl, by omega, by omega, by omega, HU2.out, HO2.out⟩
            case measure => simp [intOf]; omega
          · have HO3 : Hid (Own w0 wr (CRow ao cap R :: Cells B #[.bool on, .int .i64 x, .int .i64 y, .int .i64 r] 24 :: l)) := by
              have := HO.out
              rw [HN.out] at this
              exact this
            clear HO
            go_wp2
            go_roundw
            case rel => exact ⟨X + 1, R, n, ao, cap, rfl, by go_num, HN.out, by omega, by omega, by omega, HU.out.col (fun k hk => by have := (HP.out k).1 hk; omega) (fun k hk => by have := (HP.out k).1 hk; omega), HO3.out⟩
            case measure => simp [intOf]; omega
      · go_wp2
        go_ret
        refine ⟨R, ao, cap, by rw [HN.out]; rfl, AllC.of HU.out (fun k hk => Or.inl ?_), HO.out.two.tail⟩
        have := (HP.out k).1 hk
        show k.1 < X
        omega
end Go.Proofs.YthokgjkgfolojabDoor
