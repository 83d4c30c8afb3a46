/-
  A slot whose generations are used up is never taken again, and when all are there is no room: SlotsWorn returns true, whatever its arguments, and changes nothing that was there.
-/
import Derived.Test.YtficpeghmkbdpaaXi
import Derived.ProofKit
import Derived.OpenShut
namespace Go.Proofs.Ytficpeghmkbdpaa
open Go.ChangeShapes Go.WideShapes Go.ChangeAt Go.RowKit
set_option linter.unusedVariables false

theorem own : ownKnob Try.prog.godebug = none := by kernel_rfl
theorem u8_rng {n : Int} (h : (Lit.int .u8 n).wf = true) : ∃ k : Nat, n = k ∧ k < 256 := by
  have : 0 ≤ n ∧ n ≤ 255 := by simpa [Lit.wf, IntKind.min, IntKind.max, IntKind.signed, IntKind.bits] using h
  exact ⟨n.toNat, by omega, by omega⟩

set_option maxHeartbeats 1000000 in
set_option maxRecDepth 100000 in
theorem slotsWorn_fr (a b : Nat) (ha : a < 256) (hb : b < 256) (w : World) :
    Calls Try.prog 6 #[.int .u8 (a : Int), .int .u8 (b : Int)] w fun e w' => e = .returned (.bool true) ∧ Fr Nobody w w' := by
  obtain ⟨k, hk⟩ : ∃ k : Nat, k = 1 + a % 6 := ⟨_, rfl⟩
  obtain ⟨m, hm⟩ : ∃ m : Nat, m = 1 + b % 5 := ⟨_, rfl⟩
  obtain ⟨F, hF⟩ : ∃ F : Nat, F = 4194304 - m := ⟨_, rfl⟩
  have k1 : 1 ≤ k := by omega
  have k2 : k ≤ 6 := by omega
  have m1 : 1 ≤ m := by omega
  have m2 : m ≤ 5 := by omega
  have HF : Hid (F + m = 4194304 ∧ 1 ≤ F ∧ F ≤ 4194303) := ⟨by omega, by omega, by omega⟩
  have ek : (1 : Int) + (a : Int) % 6 = (k : Int) := by omega
  have em : (1 : Int) + (b : Int) % 5 = (m : Int) := by omega
  have eF : (4194303 : Int) - (m : Int) + 1 = (F : Int) := by omega
  obtain ⟨t, ht⟩ : ∃ t : Nat, t = k * m := ⟨_, rfl⟩
  have et : (k : Int) * (m : Int) = (t : Int) := by rw [ht]; simp
  have t30 : t ≤ 30 := by rw [ht]; exact Nat.mul_le_mul k2 m2
  have HT : Hid (t = k * m) := ht
  clear hk hm hF ht
  go_enter Try.func6, Try.ntmps6
  go_wp2_with fail
  refine (awake_any w w [] (Own.start _)).mono ?_
  rintro e w1 ⟨rfl, hO⟩
  have H1 : Hid (Own w w1 []) := hO
  clear hO
  go_wp2_with fail
  refine (new_ok w w1 [] k F H1.out k1 (by omega) HF.out.2.1 HF.out.2.2).mono ?_
  rintro e w2 ⟨bb, rfl, _, hO⟩
  have H2 : Hid (Own w w2 [Slots bb (St.new k F)]) := hO
  clear hO H1
  go_wp2
  go_loopw [36] (fun c wr => ∃ j : Nat, j ≤ t ∧ c = .int .i64 j ∧ ∃ S, Worn S k m F j ∧ Own w wr [Slots bb S]) (fun c _ => t - (intOf c).toNat)
  case atStart => exact ⟨0, Nat.zero_le _, rfl, _, Worn.start k m F m1 HF.out.1 HF.out.2.1 k1 k2, H2.out⟩
  case round =>
    obtain ⟨j, hj, rfl, S, hW, hO⟩ := hrel
    have HO : Hid (Own w wr [Slots bb S]) := hO
    clear hO H2
    by_cases hlt : j < t
    · obtain ⟨id, S1, S2, h1, h2, h3, h4, h5⟩ := hW.step m1 HF.out.1 (by rw [← HT.out]; exact hlt) k2
      have HS : Hid (S.Ok ∧ S.take = (id, 0, S1) ∧ S1.Ok ∧ id < 4294967296 ∧ S1.free id = (0, S2) ∧ Worn S2 k m F (j + 1)) := ⟨hW.ok, h1, h2, h3, h4, h5⟩
      clear hW h1 h2 h3 h4 h5
      go_wp2_with fail
      refine (take_is w wr [] bb HO.out HS.out.1 HS.out.2.1).mono ?_
      rintro e w3 ⟨rfl, hO⟩
      have H3 : Hid (Own w w3 [Slots bb S1]) := hO
      clear hO HO
      go_wp2_with fail
      refine (free_is w w3 [] bb H3.out HS.out.2.2.1 HS.out.2.2.2.1 HS.out.2.2.2.2.1).mono ?_
      rintro e w4 ⟨rfl, hO⟩
      have H4 : Hid (Own w w4 [Slots bb S2]) := hO
      clear hO H3
      go_wp2
      go_roundw
      case rel => exact ⟨j + 1, by omega, by go_num, S2, HS.out.2.2.2.2.2, H4.out⟩
      case measure => simp [intOf]; omega
    · have ej : j = t := by omega
      have hW2 : Worn S k m F (k * m) := by rw [← HT.out, ← ej]; exact hW
      have hd := hW2.done m1
      have HS : Hid (S.Ok ∧ S.take = (0, 8, S) ∧ S.room = 0 ∧ S.live = 0) := ⟨hW.ok, hd.1, hd.2.1, hd.2.2⟩
      clear hW hd hW2 ej
      go_wp2_with fail
      refine (take_is w wr [] bb HO.out HS.out.1 HS.out.2.1).mono ?_
      rintro e w3 ⟨rfl, hO⟩
      have H3 : Hid (Own w w3 [Slots bb S]) := hO
      clear hO HO
      go_wp2_with fail
      refine (room_ok w w3 [] bb S H3.out HS.out.1).mono ?_
      rw [HS.out.2.2.1]
      rintro e w4 ⟨rfl, hf⟩
      have H4 : Hid (Own w w4 [Slots bb S]) := H3.out.quiet hf
      clear hf H3
      go_wp2_with fail
      refine (len_ok w w4 [] bb S H4.out).mono ?_
      rw [HS.out.2.2.2]
      rintro e w5 ⟨rfl, hw⟩
      subst hw
      go_wp2
      go_ret
      exact ⟨rfl, H4.out.fr⟩

theorem slotsWorn_walk (a0 : Int) (w0 : (Lit.int .u8 a0).wf = true) (a1 : Int) (w1 : (Lit.int .u8 a1).wf = true) (w : World) :
    Calls Try.prog 6 #[.int .u8 a0, .int .u8 a1] w fun e w' => e = .returned (.bool true) ∧ Below w.heap.size w w' := by
  obtain ⟨a, rfl, ha⟩ := u8_rng w0
  obtain ⟨b, rfl, hb⟩ := u8_rng w1
  exact (slotsWorn_fr a b ha hb w).mono fun e w' ⟨h, f⟩ => ⟨h, f.below (Nat.le_refl _) (fun _ _ h => h)⟩

set_option maxRecDepth 100000 in
theorem slotsWorn_lifted (os : Os) (started : os.Started) (H : Type) (enc : TypeId × Value → H) :
    ReturnsInHanded {} Try.checked os 6 .any (Rows.slotsWornSpec.pre6 enc Try.prog Try.f6 Rows.slotsWornRow.domain false) (Rows.slotsWornSpec.post enc Try.prog Try.f6 false true false false) := by
  refine returnsInHanded_of_change (C := Try.checked) own started (by kernel_rfl) Try.func6
    (ChangeSpec.witness6 (enc := enc) (C := Try.checked) false ⟨#[], #[.int .u8 0, .int .u8 0], []⟩ 8 (by kernel_rfl) (by kernel_rfl) (by kernel_rfl) (by kernel_rfl)) ?_
  intro W base args ds gs before hval0 hW hcnd _
  have hval : ∀ (j : Nat) t v, Try.f6.params[j]? = some t → args[j]? = some v → Value.okWide Try.prog W .any base t v := hval0
  have hW' := hW
  obtain ⟨p, q, hA0, hV, rfl, hfz, hnd⟩ := hW
  have hA : DataW.TrodAll enc Try.prog W 0 (fun _ => true) true Try.f6.params.toList args.toList ds p := hA0
  rw [Try.params6] at hA hval
  obtain ⟨v0, vs0, d0, ds0, p0, q0, hargs, rfl, rfl, h0, r0⟩ := trodAll_cons hA
  obtain ⟨v1, vs1, d1, ds1, p1, q1, rfl, rfl, rfl, h1, r1⟩ := trodAll_cons r0
  obtain ⟨rfl, rfl, rfl⟩ := trodAll_nil r1
  obtain rfl : args = #[v0, v1] := by cases args; simp_all
  obtain ⟨rfl, rfl⟩ := trodVars_none hV
  obtain ⟨a0, rfl, rfl, rfl, w0⟩ := open_int Try.underlying5 (hval 0 5 v0 rfl rfl) h0
  obtain ⟨a1, rfl, rfl, rfl, w1⟩ := open_int Try.underlying5 (hval 1 5 v1 rfl rfl) h1
  clear hA0 hval0
  refine (slotsWorn_walk a0 w0 a1 w1 W).mono fun e W' ⟨he, bel⟩ => ?_
  subst he
  exact ⟨_, rfl, _, _, _, [], _, [], hW', trodAll_mk1 (shut_bool Try.underlying4 _), (trodAll_cons_mk (shut_int Try.underlying5 w0) (trodAll_cons_mk (shut_int Try.underlying5 w1) trodAll_mk0)), rfl, bel.frame _, fun h => by cases h⟩

theorem slotsWorn_holds : Rows.SlotsWornSaid :=
  OpenClaim.holds_of_wide 6 Try.f6 rfl rfl rfl rfl rfl rfl rfl ⟨rfl, rfl, rfl, rfl, rfl⟩ rfl rfl rfl rfl rfl (by kernel_rfl) Try.func6 (by kernel_rfl)
    (of_decide_eq_true (by kernel_rfl)) (by unfold Func.isWrapper; first | (rw [if_pos (by decide +kernel)]; kernel_rfl) | (rw [if_neg (by decide +kernel)]; exact ⟨rfl, rfl⟩))
    (fun os started H enc _ => slotsWorn_lifted os started H enc)

end Go.Proofs.Ytficpeghmkbdpaa
