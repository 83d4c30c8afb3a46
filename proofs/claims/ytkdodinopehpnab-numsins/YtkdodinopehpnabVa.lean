/-
  The document's side of layer 2: Var.
-/
import Derived.Test.YtkdodinopehpnabRd
import Derived.Test.YtkdodinopehpnabNg
namespace Go.Proofs.Ytkdodinopehpnab
open Go.RowKit
set_option linter.unusedVariables false

theorem bitLen_ge (x : Nat) (h0 : x ≠ 0) (h : x < 18446744073709551616) : 2 ^ (Lib.bitLen x - 1) ≤ x := by
  induction x using Nat.strongRecOn with
  | ind x ih =>
    rw [Lib.bitLen_half x h0 h]
    by_cases h1 : x / 2 = 0
    · rw [h1, bitLen0]; simp; omega
    · have h2 := ih (x / 2) (by omega) h1 (by omega)
      have h3 : Lib.bitLen (x / 2) ≠ 0 := by
        intro e
        have h4 := lt_bitLen' (x / 2) (by omega)
        rw [e] at h4; omega
      obtain ⟨m, hm⟩ : ∃ m, Lib.bitLen (x / 2) = m + 1 := ⟨Lib.bitLen (x / 2) - 1, by omega⟩
      rw [hm] at h2 ⊢
      rw [show 1 + (m + 1) - 1 = m + 1 from by omega, Nat.pow_succ]
      rw [show m + 1 - 1 = m from by omega] at h2
      omega
theorem grp_more (v i : Nat) (hv : v < 18446744073709551616) : i + 1 < grp v ↔ v / 2 ^ (4 * (i + 1)) ≠ 0 := by
  constructor
  · intro h
    have hb : 4 * (i + 1) < Lib.bitLen v := by unfold grp at h; omega
    have h0 : v ≠ 0 := by rintro rfl; rw [bitLen0] at hb; omega
    have h1 := bitLen_ge v h0 hv
    have h2 : 2 ^ (4 * (i + 1)) ≤ 2 ^ (Lib.bitLen v - 1) := Nat.pow_le_pow_right (by decide) (by omega)
    intro e
    rw [Nat.div_eq_zero_iff_lt (Nat.two_pow_pos _)] at e
    omega
  · intro h
    rcases Nat.lt_or_ge (i + 1) (grp v) with c | c
    · exact c
    · exfalso
      have h1 := lt_grp v hv
      have h2 : 2 ^ (4 * grp v) ≤ 2 ^ (4 * (i + 1)) := Nat.pow_le_pow_right (by decide) (by omega)
      exact h (Nat.div_eq_of_lt (by omega))
theorem bits_group (v n i : Nat) (b : Bool) (hb : b = decide (i + 1 < n)) : bitsN 5 (grpAt v n i) = bitsN 4 (v / 2 ^ (4 * i)) ++ [b] := by
  subst hb
  unfold grpAt
  generalize v / 2 ^ (4 * i) = y
  by_cases c : i + 1 < n
  · rw [if_pos c]
    have e0 : (y % 16 + 16) % 2 = y % 2 := by omega
    have e1 : (y % 16 + 16) / 2 % 2 = y / 2 % 2 := by omega
    have e2 : (y % 16 + 16) / 2 / 2 % 2 = y / 2 / 2 % 2 := by omega
    have e3 : (y % 16 + 16) / 2 / 2 / 2 % 2 = y / 2 / 2 / 2 % 2 := by omega
    have e4 : (y % 16 + 16) / 2 / 2 / 2 / 2 % 2 = 1 := by omega
    simp only [bitsN, e0, e1, e2, e3, e4, c]
    simp
  · rw [if_neg c]
    have e0 : (y % 16 + 0) % 2 = y % 2 := by omega
    have e1 : (y % 16 + 0) / 2 % 2 = y / 2 % 2 := by omega
    have e2 : (y % 16 + 0) / 2 / 2 % 2 = y / 2 / 2 % 2 := by omega
    have e3 : (y % 16 + 0) / 2 / 2 / 2 % 2 = y / 2 / 2 / 2 % 2 := by omega
    have e4 : (y % 16 + 0) / 2 / 2 / 2 / 2 % 2 = 0 := by omega
    simp only [bitsN, e0, e1, e2, e3, e4, c]
    simp
theorem div16 (v i : Nat) : v / 2 ^ (4 * i) / 2 ^ 4 = v / 2 ^ (4 * (i + 1)) := by
  rw [Nat.div_div_eq_div_mul, ← Nat.pow_add]; congr 1

set_option maxHeartbeats 1000000 in
theorem rvar_any (w : World) (v : Nat) (hv : v < 18446744073709551616) : Calls Try.prog 13 #[.int .u64 (v : Int)] w fun e w' => ∃ u, e = .returned u ∧ Bo w.heap.size w' u (var v) ∧ Fr Nobody w w' := by
  obtain ⟨i0, hi, hz0, hz1, hz2⟩ := info_parts Try.infoBool
  have hg := grp_bd v hv
  have HM : Hid (∀ i, i + 1 < grp v ↔ v / 2 ^ (4 * (i + 1)) ≠ 0) := fun i => grp_more v i hv
  have HV : Hid (var v = varTo v (grp v) (grp v)) := rfl
  generalize var v = vv at *
  generalize grp v = n at *
  go_enter Try.func13, Try.ntmps13
  go_wp2
  go_loopw [0, 3] (fun xv u wr => ∃ i y : Nat, i < n ∧ y = v / 2 ^ (4 * i) ∧ y < 18446744073709551616 ∧ xv = .int .u64 (y : Int) ∧ Bo w.heap.size wr u (varTo v n i) ∧ Fr Nobody w wr) (fun xv _ _ => (intOf xv).toNat)
  case atStart => exact ⟨0, v, by omega, by simp, hv, rfl, Bo.nil _ _, Fr.refl _ _⟩
  case round =>
    obtain ⟨i, y, hin, hy, hyl, rfl, hB, hf⟩ := hrel
    have H1 : Hid (Bo w.heap.size wr _ (varTo v n i) ∧ Fr Nobody w wr) := ⟨hB, hf⟩
    have HY : Hid (y = v / 2 ^ (4 * i)) := hy
    have HL : Hid ((varTo v n i).length = 5 * i) := length_varTo v n i
    clear hB hf hy
    go_wp2
    go_loopw [0, 3, 4] (fun xv u c wr2 => ∃ j z : Nat, j ≤ 4 ∧ c = .int .i64 j ∧ z = y / 2 ^ j ∧ xv = .int .u64 (z : Int) ∧ Bo w.heap.size wr2 u (varTo v n i ++ bitsN j y) ∧ Fr Nobody w wr2) (fun _ _ c _ => 4 - (intOf c).toNat)
    case atStart => exact ⟨0, y, by decide, rfl, by simp, rfl, by simpa [bitsN] using H1.out.1, H1.out.2⟩
    case round =>
      obtain ⟨j, z, hj, rfl, hz, rfl, hB, hf⟩ := hrel
      have HZ : Hid (z = y / 2 ^ j) := hz
      have hz2 : z < 18446744073709551616 := by rw [hz]; exact Nat.lt_of_le_of_lt (Nat.div_le_self _ _) hyl
      have hsz := hf.size
      clear hz
      by_cases hj4 : j < 4
      · obtain ⟨bb, hbb⟩ : ∃ bb : Bool, (((z : Int) % 2 == 1) : Bool) = bb := ⟨_, rfl⟩
        have HB : Hid ((y / 2 ^ j % 2 == 1) = bb) := by
          show _ = _
          rw [← hbb, ← HZ.out, Bool.eq_iff_iff]; simp; omega
        have hln : (varTo v n i ++ bitsN j y).length ≤ 100000 := by rw [List.length_append, length_bitsN, HL.out]; omega
        go_wp2_with (at_builtin; refine wpList_append_own _ rfl _ _ 26 rfl w.heap.size 4 i0 (.bool false) 1 1 Try.underlying26 hi hz0 hz1 ‹_› rfl (by decide) _ _ _ rfl (World.ownsRow.alloc hB _) ⟨_, 0, none⟩ 1 1 [.bool bb] rfl rfl (cell_one_new _ _ _) (one_bool _) (by unfold maxLen; omega) (by omega) (by simp; omega) ?_)
        intro u' w2 ho2 hg2 _
        have H2 : Hid (Bo w.heap.size w2 u' (varTo v n i ++ bitsN (j + 1) y) ∧ Fr Nobody w w2) := by
          refine ⟨?_, (hf.alloc _).grown hg2 (fun q hq => .inr (World.ownsRow.lt hB q hq).1)⟩
          unfold Bo
          rw [bitsN_snoc, HB.out, ← List.append_assoc, brow_append (varTo v n i ++ bitsN j y), show (varTo v n i ++ bitsN j y ++ [bb]).length = (varTo v n i).length + (bitsN j y).length + 1 from by rw [List.length_append, List.length_append]; rfl]
          exact ho2
        have HY2 : Hid (z / 2 = y / 2 ^ (j + 1)) := by show _ = _; rw [HZ.out, half_pow]
        clear hB hf ho2 hg2 HB HZ hbb hln
        go_wp2
        go_roundw
        case rel => exact ⟨j + 1, z / 2, by omega, by go_num, HY2.out, by go_num, H2.out.1, H2.out.2⟩
        case measure => simp [intOf]; omega
      · have ej : j = 4 := by omega
        subst ej
        have HZ2 : Hid (z = v / 2 ^ (4 * (i + 1))) := by show _ = _; rw [HZ.out, HY.out, div16]
        have hln : (varTo v n i ++ bitsN 4 y).length ≤ 100000 := by rw [List.length_append, length_bitsN, HL.out]; omega
        have hm : z < y ∨ y = 0 := by have := HZ.out; omega
        have HZX : Hid (z ≤ y) := by have := HZ.out; show _ ≤ _; omega
        obtain ⟨bb, hbb⟩ : ∃ bb : Bool, decide (0 < z) = bb := ⟨_, rfl⟩
        have HG : Hid (varTo v n (i + 1) = varTo v n i ++ bitsN 4 y ++ [bb]) := by
          show _ = _
          rw [varTo, bits_group v n i bb, ← HY.out, List.append_assoc]
          rw [← hbb]
          have := HM.out i
          rw [← HZ2.out] at this
          rw [decide_eq_decide, this]; omega
        have hd : decide ((4 : Int) < 4) = false := by decide
        go_wp2_with (at_builtin; refine wpList_append_own _ rfl _ _ 26 rfl w.heap.size 4 i0 (.bool false) 1 1 Try.underlying26 hi hz0 hz1 ‹_› rfl (by decide) _ _ _ rfl (World.ownsRow.alloc hB _) ⟨_, 0, none⟩ 1 1 [.bool bb] rfl rfl (cell_one_new _ _ _) (one_bool _) (by unfold maxLen; omega) (by omega) (by simp; omega) ?_)
        intro u' w2 ho2 hg2 _
        have H2 : Hid (Bo w.heap.size w2 u' (varTo v n (i + 1)) ∧ Fr Nobody w w2) := by
          refine ⟨?_, (hf.alloc _).grown hg2 (fun q hq => .inr (World.ownsRow.lt hB q hq).1)⟩
          rw [HG.out]
          unfold Bo
          rw [brow_append (varTo v n i ++ bitsN 4 y), show (varTo v n i ++ bitsN 4 y ++ [bb]).length = (varTo v n i).length + (bitsN 4 y).length + 1 from by rw [List.length_append, List.length_append]; rfl]
          exact ho2
        have HI : Hid (i + 1 < n ↔ z ≠ 0) := by have := HM.out i; rw [← HZ2.out] at this; exact this
        clear hB hf ho2 hg2 HG HZ hbb hln HY
        by_cases z0 : z = 0
        · have H3 : Hid (Bo w.heap.size w2 u' vv ∧ Fr Nobody w w2) := by
            have e : i + 1 = n := by have := HI.out; omega
            have h2 := H2.out
            rw [e] at h2
            exact ⟨by rw [HV.out]; exact h2.1, h2.2⟩
          clear HI HM H2 HZ2 hm HZX
          subst z0
          go_wp2
          go_ret
          exact ⟨_, rfl, H3.out.1, H3.out.2⟩
        · have hi1 : i + 1 < n := HI.out.2 z0
          have tz : ((z : Int) == 0) = false := by simp; omega
          have HX : Hid (z < y) := by rcases hm with h | h; exact h; exact absurd (by have := HZX.out; omega) z0
          clear HI HM hm HZX
          go_wp2
          go_roundw
          case rel => exact ⟨i + 1, z, hi1, HZ2.out, hz2, rfl, H2.out.1, H2.out.2⟩
          case measure => have := HX.out; simp [intOf]; omega

end Go.Proofs.Ytkdodinopehpnab
