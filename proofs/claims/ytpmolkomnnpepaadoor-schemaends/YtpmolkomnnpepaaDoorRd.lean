/-
  The document's side of layer 2: Width.
-/
import Derived.Test.YtpmolkomnnpepaaDoorNb
namespace Go.Proofs.YtpmolkomnnpepaaDoor
open Go.RowKit
set_option linter.unusedVariables false

theorem bitLen0 : Lib.bitLen 0 = 0 := by decide +kernel

set_option maxHeartbeats 1000000 in
theorem rwidth_any (lo hi : Int) (w : World) (h0 : -9223372036854775808 ≤ lo) (h1 : hi ≤ 9223372036854775807) (h2 : lo ≤ 9223372036854775807) (h3 : -9223372036854775808 ≤ hi) :
    Calls Tryd.prog 34 #[.int .i64 lo, .int .i64 hi] w fun e w' => e = .returned (.int .i64 (wid lo hi : Nat)) ∧ w' = w := by
  by_cases h : hi < lo
  · have e0 : wid lo hi = 0 := by unfold wid; rw [if_pos h]
    rw [e0]
    go_enter Tryd.func34, Tryd.ntmps34
    go_wp2
    go_ret
    exact ⟨rfl, rfl⟩
  · have e0 : wid lo hi = Lib.bitLen (hi - lo).toNat := by unfold wid; rw [if_neg h]
    obtain ⟨d, hd⟩ : ∃ d : Nat, d = (hi - lo).toNat := ⟨_, rfl⟩
    rw [e0, ← hd]
    have hd2 : d < 18446744073709551616 := by omega
    have hq : IntKind.u64.wrap (IntKind.u64.wrap hi - IntKind.u64.wrap lo) = (d : Int) := by simp only [wrapU]; omega
    have hb := bitLen_64 d hd2
    clear e0 hd
    generalize hl : Lib.bitLen d = l at *
    have HL : Hid (Lib.bitLen d = l) := hl
    clear hl
    go_enter Tryd.func34, Tryd.ntmps34
    go_wp2
    clear hq
    go_loopw [5, 6] (fun c xv wr => ∃ k y : Nat, c = .int .i64 k ∧ xv = .int .u64 y ∧ k + Lib.bitLen y = l ∧ y < 18446744073709551616 ∧ wr = w) (fun _ xv _ => (intOf xv).toNat)
    case atStart => exact ⟨0, d, rfl, rfl, by rw [HL.out]; omega, hd2, rfl⟩
    case round =>
      obtain ⟨k, y, rfl, rfl, hy, hy2, rfl⟩ := hrel
      have HY : Hid (k + Lib.bitLen y = l) := hy
      have hkl : k ≤ l := by omega
      clear hy
      by_cases hpos : 0 < y
      · have HY2 : Hid (k + 1 + Lib.bitLen (y / 2) = l) := by
          have := Lib.bitLen_half y (by omega) hy2
          have := HY.out
          show _ = _; omega
        go_wp2
        go_roundw
        case rel => exact ⟨k + 1, y / 2, by go_num, by go_num, HY2.out, by omega, trivial⟩
        case measure => simp [intOf]; omega
      · have hy0 : y = 0 := by omega
        subst hy0
        have hkl2 : k = l := by have := HY.out; rw [bitLen0] at this; omega
        go_wp2
        go_ret
        exact ⟨ret_int (by omega), rfl⟩

end Go.Proofs.YtpmolkomnnpepaaDoor
