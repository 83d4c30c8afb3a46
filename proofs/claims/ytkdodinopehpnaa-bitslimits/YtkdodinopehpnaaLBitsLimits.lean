/-
  For every n and more: so many bits can be put into a writer and no more: BitsLimits returns true, whatever its arguments, and changes nothing that was there.
-/
import Derived.Test.YtkdodinopehpnaaAwa
import Derived.ProofKit
import Derived.OpenShut
namespace Go.Proofs.Ytkdodinopehpnaa
open Go.ChangeShapes Go.WideShapes Go.ChangeAt Go.RowKit
set_option linter.unusedVariables false

theorem own : ownKnob Try.prog.godebug = none := by kernel_rfl

theorem put_big (w0 w : World) (b : Nat) (L : List Bool) (h : Ow w0 w b L) (hl : L.length + 64 ≤ 1048576) :
    Calls Try.prog 12 #[.pointer (some ⟨b, 0, none⟩), .int .u64 9223372036854775815, .int .i64 64] w fun e w' => e = .returned (.int .i64 0) ∧ ∃ L', L'.length = L.length + 64 ∧ Ow w0 w' b L' := by
  have hh := put_ow w0 w b L 9223372036854775815 64 h (by omega) (by decide) (by decide) hl
  refine Calls.mono (show Calls Try.prog 12 #[.pointer (some ⟨b, 0, none⟩), .int .u64 9223372036854775815, .int .i64 64] w _ from hh) ?_
  rintro e w' ⟨rfl, hW⟩
  exact ⟨rfl, _, by rw [List.length_append, length_bitsN], hW⟩
theorem put_nought (w0 w : World) (b : Nat) (L : List Bool) (n : Nat) (k : Int) (hk : k = (n : Int)) (h : Ow w0 w b L) (hn : n ≤ 64) (hl : L.length + n ≤ 1048576) :
    Calls Try.prog 12 #[.pointer (some ⟨b, 0, none⟩), .int .u64 0, .int .i64 k] w fun e w' => e = .returned (.int .i64 0) ∧ ∃ L', L'.length = L.length + n ∧ Ow w0 w' b L' := by
  subst hk
  have hh := put_ow w0 w b L 0 n h hn (Nat.two_pow_pos _) (by decide) hl
  refine Calls.mono hh ?_
  rintro e w' ⟨rfl, hW⟩
  exact ⟨rfl, _, by rw [List.length_append, length_bitsN], hW⟩
theorem put_full (w0 w : World) (b : Nat) (L : List Bool) (n : Nat) (k : Int) (hk : k = (n : Int)) (h : Ow w0 w b L) (hn : n ≤ 64) (hl : L.length ≤ 1048576) (hl2 : 1048576 < L.length + n) :
    Calls Try.prog 12 #[.pointer (some ⟨b, 0, none⟩), .int .u64 0, .int .i64 k] w fun e w' => e = .returned (.int .i64 3) ∧ Ow w0 w' b L := by
  subst hk
  exact put_ow_long w0 w b L 0 n h hn (Nat.two_pow_pos _) (by decide) hl hl2

set_option maxHeartbeats 1000000 in
set_option maxRecDepth 100000 in
theorem bitsLimits_walk (a0 : Int) (w0 : (Lit.int .u8 a0).wf = true) (a1 : Int) (w1 : (Lit.int .u8 a1).wf = true) (w : World) :
    Calls Try.prog 6 #[.int .u8 a0, .int .u8 a1] w fun e w' => e = .returned (.bool true) ∧ Below w.heap.size w w' := by
  have hx0 : 0 ≤ a0 ∧ a0 ≤ 255 := by simpa [Lit.wf, IntKind.min, IntKind.max, IntKind.signed, IntKind.bits] using w0
  have hx1 : 0 ≤ a1 ∧ a1 ≤ 255 := by simpa [Lit.wf, IntKind.min, IntKind.max, IntKind.signed, IntKind.bits] using w1
  obtain ⟨n, rfl⟩ := Int.eq_ofNat_of_zero_le hx0.1
  obtain ⟨m, rfl⟩ := Int.eq_ofNat_of_zero_le hx1.1
  clear w0 w1
  go_enter Try.func6, Try.ntmps6
  go_wp2_with fail
  refine (awake1 w).mono ?_
  rintro e w1 ⟨rfl, hf⟩
  go_wp2_with fail
  refine (new_ow w w1 hf).mono ?_
  rintro e w2 ⟨b, rfl, hb, hW⟩
  have H2 : Hid (Ow w w2 b []) := hW
  clear hW hb hf
  go_wp2
  go_loopw [12] (fun c wr => ∃ k : Nat, k ≤ 16383 ∧ c = .int .i64 k ∧ ∃ L : List Bool, L.length = 64 * k ∧ Ow w wr b L) (fun c _ => 16383 - (intOf c).toNat)
  case atStart => exact ⟨0, Nat.zero_le _, rfl, [], rfl, H2.out⟩
  case round =>
    obtain ⟨k, hk, rfl, L, hL, hW⟩ := hrel
    have HL : Hid (L.length = 64 * k) := hL
    clear hL H2
    by_cases hlt : k < 16383
    · go_wp2_with fail
      refine (put_big w wr b L hW (by have := HL.out; omega)).mono ?_
      rintro e w3 ⟨rfl, L', hL', hW'⟩
      have H3 : Hid (L'.length = 64 * (k + 1) ∧ Ow w w3 b L') := ⟨by have := HL.out; omega, hW'⟩
      clear hW HL hL' hW'
      go_wp2
      go_roundw
      case rel => exact ⟨k + 1, by omega, by go_num, L', H3.out.1, H3.out.2⟩
      case measure => simp [intOf]; omega
    · have e16 : 64 * k = 1048512 := by omega
      have HL2 : Hid (L.length = 1048512) := HL.out.trans e16
      have HW : Hid (Ow w wr b L) := hW
      clear hW HL e16
      go_wp2_with fail
      refine (put_nought w wr b L (n % 65) ((n : Int) % 65) (by omega) HW.out (by omega) (by have := HL2.out; omega)).mono ?_
      rintro e w4 ⟨rfl, L4, hL4, hW4⟩
      have H4 : Hid (L4.length = 1048512 + n % 65 ∧ Ow w w4 b L4) := ⟨by have := HL2.out; omega, hW4⟩
      clear HL2 HW hL4 hW4 hk hlt
      by_cases hs : n % 65 + m % 65 ≤ 64
      · have hs' : decide ((n : Int) % 65 + (m : Int) % 65 ≤ 64) = true := by simp; omega
        go_wp2_with fail
        refine (put_nought w w4 b L4 (m % 65) ((m : Int) % 65) (by omega) H4.out.2 (by omega) (by have := H4.out.1; omega)).mono ?_
        rintro e w5 ⟨rfl, L5, hL5, hW5⟩
        have H5 : Hid (Fr Nobody w w5) := hW5.fr
        clear hL5 hW5 H4
        go_wp2
        go_ret
        exact ⟨rfl, H5.out.below (Nat.le_refl _) (fun _ _ => id)⟩
      · have hs' : decide ((n : Int) % 65 + (m : Int) % 65 ≤ 64) = false := by simp; omega
        go_wp2_with fail
        refine (put_full w w4 b L4 (m % 65) ((m : Int) % 65) (by omega) H4.out.2 (by omega) (by have := H4.out.1; omega) (by have := H4.out.1; omega)).mono ?_
        rintro e w5 ⟨rfl, hW5⟩
        have H5 : Hid (L4.length = 1048512 + n % 65 ∧ Ow w w5 b L4) := ⟨H4.out.1, hW5⟩
        clear hW5 H4
        go_wp2_with fail
        refine (len_ow w w5 b L4 H5.out.2).mono ?_
        rintro e w6 ⟨rfl, hW6⟩
        rw [H5.out.1]
        have hq : (((1048512 + n % 65 : Nat) : Int) == 1048512 + (n : Int) % 65) = true := by simp
        have H6 : Hid (Fr Nobody w w6) := hW6.fr
        clear hW6 H5
        go_wp2
        go_ret
        exact ⟨rfl, H6.out.below (Nat.le_refl _) (fun _ _ => id)⟩

theorem bitsLimits_lifted (os : Os) (started : os.Started) (H : Type) (enc : TypeId × Value → H) :
    ReturnsInHanded {} Try.checked os 6 .any (Rows.bitsLimitsSpec.pre6 enc Try.prog Try.f6 Rows.bitsLimitsRow.domain false) (Rows.bitsLimitsSpec.post enc Try.prog Try.f6 false true false false) := by
  refine returnsInHanded_of_change (C := Try.checked) own started (by kernel_rfl) Try.func6
    (ChangeSpec.witness6 (enc := enc) (C := Try.checked) false ⟨#[], #[.int .u8 0, .int .u8 0], []⟩ 8 (by kernel_rfl) (by kernel_rfl) (by kernel_rfl) (by kernel_rfl)) ?_
  intro W base args ds gs before hval0 hW hcnd _
  have hval : ∀ (j : Nat) t v, Try.f6.params[j]? = some t → args[j]? = some v → Value.okWide Try.prog W .any base t v := hval0
  have hW' := hW
  obtain ⟨p, q, hA0, hV, rfl, hfz, hnd⟩ := hW
  have hA : DataW.TrodAll enc Try.prog W 0 (fun _ => true) true Try.f6.params.toList args.toList ds p := hA0
  rw [Try.params6] at hA hval
  obtain ⟨v0, vs0, d0, ds0, p0, q0, hargs, rfl, rfl, h0, r0⟩ := trodAll_cons hA
  obtain ⟨v1, vs1, d1, ds1, p1, q1, rfl, rfl, rfl, h1, r1⟩ := trodAll_cons r0
  obtain ⟨rfl, rfl, rfl⟩ := trodAll_nil r1
  obtain rfl : args = #[v0, v1] := by cases args; simp_all
  obtain ⟨rfl, rfl⟩ := trodVars_none hV
  obtain ⟨a0, rfl, rfl, rfl, w0⟩ := open_int Try.underlying5 (hval 0 5 v0 rfl rfl) h0
  obtain ⟨a1, rfl, rfl, rfl, w1⟩ := open_int Try.underlying5 (hval 1 5 v1 rfl rfl) h1
  clear hA0 hval0
  refine (bitsLimits_walk a0 w0 a1 w1 W).mono fun e W' ⟨he, bel⟩ => ?_
  subst he
  exact ⟨_, rfl, _, _, _, [], _, [], hW', trodAll_mk1 (shut_bool Try.underlying4 _), (trodAll_cons_mk (shut_int Try.underlying5 w0) (trodAll_cons_mk (shut_int Try.underlying5 w1) trodAll_mk0)), rfl, bel.frame _, fun h => by cases h⟩

theorem bitsLimits_holds : Rows.BitsLimitsSaid :=
  OpenClaim.holds_of_wide 6 Try.f6 rfl rfl rfl rfl rfl rfl rfl ⟨rfl, rfl, rfl, rfl, rfl⟩ rfl rfl rfl rfl rfl (by kernel_rfl) Try.func6 (by kernel_rfl)
    (of_decide_eq_true (by kernel_rfl)) (by unfold Func.isWrapper; first | (rw [if_pos (by decide +kernel)]; kernel_rfl) | (rw [if_neg (by decide +kernel)]; exact ⟨rfl, rfl⟩))
    (fun os started H enc _ => bitsLimits_lifted os started H enc)


end Go.Proofs.Ytkdodinopehpnaa
