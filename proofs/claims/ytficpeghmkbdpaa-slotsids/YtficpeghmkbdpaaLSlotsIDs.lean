/-
  For every slot and generation Make answers the ID, or the error, that the document says; of every ID Slot and Gen answer its slot and generation: SlotsIDs returns true, whatever its arguments, and changes nothing that was there.
-/
import Derived.Test.YtficpeghmkbdpaaXh
import Derived.ProofKit
import Derived.OpenShut
namespace Go.Proofs.Ytficpeghmkbdpaa
open Go.ChangeShapes Go.WideShapes Go.ChangeAt Go.RowKit
set_option linter.unusedVariables false

theorem own : ownKnob Try.prog.godebug = none := by kernel_rfl
theorem i64_rng {n : Int} (h : (Lit.int .i64 n).wf = true) : -9223372036854775808 ≤ n ∧ n ≤ 9223372036854775807 := by simpa [Lit.wf, IntKind.min, IntKind.max, IntKind.signed, IntKind.bits] using h
theorem u32_rng {n : Int} (h : (Lit.int .u32 n).wf = true) : ∃ k : Nat, n = k ∧ k < 4294967296 := by
  have : 0 ≤ n ∧ n ≤ 4294967295 := by simpa [Lit.wf, IntKind.min, IntKind.max, IntKind.signed, IntKind.bits] using h
  exact ⟨n.toNat, by omega, by omega⟩

set_option maxHeartbeats 1000000 in
set_option maxRecDepth 100000 in
theorem slotsIDs_yes (s g id : Nat) (h1 : s < 1024) (h2 : 1 ≤ g) (h3 : (g : Int) ≤ 4194303) (hid : id < 4294967296) (w : World) :
    Calls Try.prog 3 #[.int .i64 (s : Int), .int .i64 (g : Int), .int .u32 (id : Int)] w fun e w' => e = .returned (.bool true) ∧ Fr Nobody w w' := by
  have hx : g * 1024 + s < 4294967296 := by omega
  have m1 : (g * 1024 + s) % 1024 = s := by omega
  have m2 : (g * 1024 + s) / 1024 = g := by omega
  obtain ⟨x, hxx⟩ : ∃ x, x = g * 1024 + s := ⟨_, rfl⟩
  rw [← hxx] at hx m1 m2
  have HX : Hid (x = g * 1024 + s) := hxx
  have M1 : Hid (x % 1024 = s) := m1
  have M2 : Hid (x / 1024 = g) := m2
  have H2 : Hid (1 ≤ g ∧ (g : Int) ≤ 4194303) := ⟨h2, h3⟩
  obtain ⟨a, ha⟩ : ∃ a, a = id % 1024 := ⟨_, rfl⟩
  obtain ⟨c, hc⟩ : ∃ c, c = id / 1024 := ⟨_, rfl⟩
  have HA : Hid (id % 1024 = a) := ha.symm
  have HC : Hid (id / 1024 = c) := hc.symm
  clear hxx m1 m2 h2 h3 ha hc
  go_enter Try.func3, Try.ntmps3
  go_wp2_with fail
  refine (make_yes s g _ h1 H2.out.1 (by have := H2.out; omega)).mono ?_
  rw [← HX.out]
  rintro e w' ⟨rfl, hw⟩
  subst hw
  go_wp2_with fail
  refine (rmake_yes s g _ h1 H2.out.1 H2.out.2).mono ?_
  rw [← HX.out]
  rintro e w1 ⟨rfl, hw⟩
  subst hw
  go_wp2_with fail
  refine (awake_any w1 w1 [] (Own.start _)).mono ?_
  rintro e w2 ⟨rfl, hO⟩
  have F2 : Hid (Fr Nobody w1 w2) := hO.fr
  clear hO
  go_wp2_with fail
  refine (slot_any id w2 hid).mono ?_
  rw [HA.out]
  rintro e w3 ⟨rfl, hw⟩
  subst hw
  go_wp2_with fail
  refine (rslot_any id _ hid).mono ?_
  rw [HA.out]
  rintro e w4 ⟨rfl, hw⟩
  subst hw
  go_wp2_with fail
  refine (gen_any id _ hid).mono ?_
  rw [HC.out]
  rintro e w5 ⟨rfl, hw⟩
  subst hw
  go_wp2_with fail
  refine (rgen_any id _ hid).mono ?_
  rw [HC.out]
  rintro e w6 ⟨rfl, hw⟩
  subst hw
  go_wp2_with fail
  refine (slot_any x _ hx).mono ?_
  rw [M1.out]
  rintro e w7 ⟨rfl, hw⟩
  subst hw
  go_wp2_with fail
  refine (gen_any x _ hx).mono ?_
  rw [M2.out]
  rintro e w8 ⟨rfl, hw⟩
  subst hw
  go_wp2
  go_ret
  exact ⟨rfl, F2.out⟩
set_option maxHeartbeats 1000000 in
set_option maxRecDepth 100000 in
theorem slotsIDs_no (s g : Int) (id : Nat) (h : s < 0 ∨ 1024 ≤ s ∨ g < 1 ∨ 4194303 < g) (hid : id < 4294967296) (w : World) :
    Calls Try.prog 3 #[.int .i64 s, .int .i64 g, .int .u32 (id : Int)] w fun e w' => e = .returned (.bool true) ∧ Fr Nobody w w' := by
  have HH : Hid (s < 0 ∨ 1024 ≤ s ∨ g < 1 ∨ 4194303 < g) := h
  obtain ⟨a, ha⟩ : ∃ a, a = id % 1024 := ⟨_, rfl⟩
  obtain ⟨c, hc⟩ : ∃ c, c = id / 1024 := ⟨_, rfl⟩
  have HA : Hid (id % 1024 = a) := ha.symm
  have HC : Hid (id / 1024 = c) := hc.symm
  clear ha hc h
  go_enter Try.func3, Try.ntmps3
  go_wp2_with fail
  refine (make_no s g _ HH.out).mono ?_
  rintro e w' ⟨rfl, hw⟩
  subst hw
  go_wp2_with fail
  refine (rmake_no s g _ HH.out).mono ?_
  rintro e w1 ⟨rfl, hw⟩
  subst hw
  go_wp2_with fail
  refine (awake_any w1 w1 [] (Own.start _)).mono ?_
  rintro e w2 ⟨rfl, hO⟩
  have F2 : Hid (Fr Nobody w1 w2) := hO.fr
  clear hO
  go_wp2_with fail
  refine (slot_any id w2 hid).mono ?_
  rw [HA.out]
  rintro e w3 ⟨rfl, hw⟩
  subst hw
  go_wp2_with fail
  refine (rslot_any id _ hid).mono ?_
  rw [HA.out]
  rintro e w4 ⟨rfl, hw⟩
  subst hw
  go_wp2_with fail
  refine (gen_any id _ hid).mono ?_
  rw [HC.out]
  rintro e w5 ⟨rfl, hw⟩
  subst hw
  go_wp2_with fail
  refine (rgen_any id _ hid).mono ?_
  rw [HC.out]
  rintro e w6 ⟨rfl, hw⟩
  subst hw
  go_wp2
  go_ret
  exact ⟨rfl, F2.out⟩

theorem slotsIDs_walk (a0 : Int) (w0 : (Lit.int .i64 a0).wf = true) (a1 : Int) (w1 : (Lit.int .i64 a1).wf = true) (a2 : Int) (w2 : (Lit.int .u32 a2).wf = true) (w : World) :
    Calls Try.prog 3 #[.int .i64 a0, .int .i64 a1, .int .u32 a2] w fun e w' => e = .returned (.bool true) ∧ Below w.heap.size w w' := by
  obtain ⟨id, rfl, hid⟩ := u32_rng w2
  by_cases hb : a0 < 0 ∨ 1024 ≤ a0 ∨ a1 < 1 ∨ 4194303 < a1
  · exact (slotsIDs_no a0 a1 id hb hid w).mono fun e w' ⟨h, f⟩ => ⟨h, f.below (Nat.le_refl _) (fun _ _ h => h)⟩
  · obtain ⟨s, rfl⟩ : ∃ s : Nat, a0 = s := ⟨a0.toNat, by omega⟩
    obtain ⟨g, rfl⟩ : ∃ g : Nat, a1 = g := ⟨a1.toNat, by omega⟩
    exact (slotsIDs_yes s g id (by omega) (by omega) (by omega) hid w).mono fun e w' ⟨h, f⟩ => ⟨h, f.below (Nat.le_refl _) (fun _ _ h => h)⟩

set_option maxRecDepth 100000 in
theorem slotsIDs_lifted (os : Os) (started : os.Started) (H : Type) (enc : TypeId × Value → H) :
    ReturnsInHanded {} Try.checked os 3 .any (Rows.slotsIDsSpec.pre6 enc Try.prog Try.f3 Rows.slotsIDsRow.domain false) (Rows.slotsIDsSpec.post enc Try.prog Try.f3 false true false false) := by
  refine returnsInHanded_of_change (C := Try.checked) own started (by kernel_rfl) Try.func3
    (ChangeSpec.witness6 (enc := enc) (C := Try.checked) false ⟨#[], #[.int .i64 0, .int .i64 0, .int .u32 0], []⟩ 8 (by kernel_rfl) (by kernel_rfl) (by kernel_rfl) (by kernel_rfl)) ?_
  intro W base args ds gs before hval0 hW hcnd _
  have hval : ∀ (j : Nat) t v, Try.f3.params[j]? = some t → args[j]? = some v → Value.okWide Try.prog W .any base t v := hval0
  have hW' := hW
  obtain ⟨p, q, hA0, hV, rfl, hfz, hnd⟩ := hW
  have hA : DataW.TrodAll enc Try.prog W 0 (fun _ => true) true Try.f3.params.toList args.toList ds p := hA0
  rw [Try.params3] at hA hval
  obtain ⟨v0, vs0, d0, ds0, p0, q0, hargs, rfl, rfl, h0, r0⟩ := trodAll_cons hA
  obtain ⟨v1, vs1, d1, ds1, p1, q1, rfl, rfl, rfl, h1, r1⟩ := trodAll_cons r0
  obtain ⟨v2, vs2, d2, ds2, p2, q2, rfl, rfl, rfl, h2, r2⟩ := trodAll_cons r1
  obtain ⟨rfl, rfl, rfl⟩ := trodAll_nil r2
  obtain rfl : args = #[v0, v1, v2] := by cases args; simp_all
  obtain ⟨rfl, rfl⟩ := trodVars_none hV
  obtain ⟨a0, rfl, rfl, rfl, w0⟩ := open_int Try.underlying3 (hval 0 3 v0 rfl rfl) h0
  obtain ⟨a1, rfl, rfl, rfl, w1⟩ := open_int Try.underlying3 (hval 1 3 v1 rfl rfl) h1
  obtain ⟨a2, rfl, rfl, rfl, w2⟩ := open_int Try.underlying23 (hval 2 23 v2 rfl rfl) h2
  clear hA0 hval0
  refine (slotsIDs_walk a0 w0 a1 w1 a2 w2 W).mono fun e W' ⟨he, bel⟩ => ?_
  subst he
  exact ⟨_, rfl, _, _, _, [], _, [], hW', trodAll_mk1 (shut_bool Try.underlying4 _), (trodAll_cons_mk (shut_int Try.underlying3 w0) (trodAll_cons_mk (shut_int Try.underlying3 w1) (trodAll_cons_mk (shut_int Try.underlying23 w2) trodAll_mk0))), rfl, bel.frame _, fun h => by cases h⟩

theorem slotsIDs_holds : Rows.SlotsIDsSaid :=
  OpenClaim.holds_of_wide 3 Try.f3 rfl rfl rfl rfl rfl rfl rfl ⟨rfl, rfl, rfl, rfl, rfl⟩ rfl rfl rfl rfl rfl (by kernel_rfl) Try.func3 (by kernel_rfl)
    (of_decide_eq_true (by kernel_rfl)) (by unfold Func.isWrapper; first | (rw [if_pos (by decide +kernel)]; kernel_rfl) | (rw [if_neg (by decide +kernel)]; exact ⟨rfl, rfl⟩))
    (fun os started H enc _ => slotsIDs_lifted os started H enc)

end Go.Proofs.Ytficpeghmkbdpaa
