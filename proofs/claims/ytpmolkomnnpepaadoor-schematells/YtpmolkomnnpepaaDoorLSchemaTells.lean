/-
  For every kind and every field's number: what package schema tells of it (count, names, range, told, bits) is what the document's table tells: SchemaTells returns true, whatever its arguments, where the table of the components lies as the program's text lays it, and changes nothing that was there.
-/
import Derived.Test.YtpmolkomnnpepaaDoorSk
import Derived.Test.YtpmolkomnnpepaaDoorSj
namespace Go.Proofs.YtpmolkomnnpepaaDoor
open Go.ChangeShapes Go.WideShapes Go.ChangeAt Go.RowKit
set_option linter.unusedVariables false
set_option maxRecDepth 100000

set_option maxHeartbeats 2000000 in
theorem schemaTells_main (w : World) (ht : Tab w) (k : Nat) (hk : k < 256) (i : Int) :
    Calls Tryd.prog 3 #[.int .u8 (k : Int), .int .i64 i] w fun e w' => e = .returned (.bool true) ∧ Fr Nobody w w' := by
  have H : Hid (Tab w) := ht
  have R1 : Hid (∀ w, Tab w → _) := fun w h => range_any w h k hk i
  have R2 : Hid (∀ w, _) := fun w => rrange_any w k hk i
  have C1 : Hid (∀ w, Tab w → _) := fun w h => count_any w h k hk
  have C2 : Hid (∀ w, _) := fun w => rcount_any w k hk
  have N1 : Hid (∀ w, Tab w → _) := fun w h => name_any w h k hk
  have N2 : Hid (∀ w, _) := fun w => rname_any w k hk
  have F1 : Hid (∀ w, Tab w → Calls Tryd.prog 16 #[.int .u8 (k : Int), .int .i64 i] w fun e w' => e = .returned (.string (fnameAt k i)) ∧ w' = w) := fun w h => field_any w h k hk i
  have F2 : Hid (∀ w, _) := fun w => rfield_any w k hk i
  have T1 : Hid (∀ w, Tab w → _) := fun w h => told_any w h k hk
  have T2 : Hid (∀ w, _) := fun w => rtold_any w k hk
  have B1 : Hid (∀ w, Tab w → _) := fun w h => bits_any w h k hk
  have B2 : Hid (∀ w, _) := fun w => rbitsK_any w k hk
  generalize (rng k i).1 = r1 at *
  generalize (rng k i).2.1 = r2 at *
  generalize (rng k i).2.2 = r3 at *
  generalize cnt k = c at *
  generalize wname k = n at *
  generalize fnameAt k i = fn at *
  generalize ktold k = t at *
  generalize bitsK k = b at *
  clear ht
  go_enter Tryd.func3, Tryd.ntmps3
  go_wp2_with fail
  refine (R1.out _ H.out).mono ?_
  rintro e w1 ⟨rfl, hf1⟩
  have HF1 : Hid (Fr Nobody w w1) := hf1
  clear hf1 R1
  go_wp2_with fail
  refine (R2.out _).mono ?_
  rintro e w2 ⟨rfl, hf2⟩
  have HF2 : Hid (Fr Nobody w w2) := HF1.out.trans hf2
  clear hf2 R2
  go_wp2_with fail
  refine (awake5 _ (H.out.quiet HF2.out)).mono ?_
  rintro e w3 ⟨rfl, hf3⟩
  have HF3 : Hid (Fr Nobody w w3) := HF2.out.trans hf3
  clear hf3
  go_wp2_with fail
  refine (C1.out _ (H.out.quiet HF3.out)).mono ?_
  rintro e w3' ⟨rfl, rfl⟩
  go_wp2_with fail
  refine (C2.out _).mono ?_
  rintro e w4 ⟨rfl, hf4⟩
  have HF4 : Hid (Fr Nobody w w4) := HF3.out.trans hf4
  clear hf4
  go_wp2_with fail
  refine (N1.out _ (H.out.quiet HF4.out)).mono ?_
  rintro e w4' ⟨rfl, rfl⟩
  go_wp2_with fail
  refine (N2.out _).mono ?_
  rintro e w5 ⟨rfl, hf5⟩
  have HF5 : Hid (Fr Nobody w w5) := HF4.out.trans hf5
  clear hf5
  go_wp2_with fail
  refine (F1.out _ (H.out.quiet HF5.out)).mono ?_
  rintro e w5' ⟨rfl, rfl⟩
  go_wp2_with fail
  refine (F2.out _).mono ?_
  rintro e w6 ⟨rfl, hf6⟩
  have HF6 : Hid (Fr Nobody w w6) := HF5.out.trans hf6
  clear hf6
  go_wp2_with fail
  refine (T1.out _ (H.out.quiet HF6.out)).mono ?_
  rintro e w6' ⟨rfl, rfl⟩
  go_wp2_with fail
  refine (T2.out _).mono ?_
  rintro e w7 ⟨rfl, hf7⟩
  have HF7 : Hid (Fr Nobody w w7) := HF6.out.trans hf7
  clear hf7
  go_wp2_with fail
  refine (B1.out _ (H.out.quiet HF7.out)).mono ?_
  rintro e w8 ⟨rfl, hf8⟩
  have HF8 : Hid (Fr Nobody w w8) := HF7.out.trans hf8
  clear hf8
  go_wp2_with fail
  refine (B2.out _).mono ?_
  rintro e w9 ⟨rfl, hf9⟩
  have HF9 : Hid (Fr Nobody w w9) := HF8.out.trans hf9
  clear hf9
  go_wp2
  go_ret
  exact ⟨rfl, HF9.out⟩
theorem schemaTells_walk (w : World) (ht : Tab w) (k : Int) (wk : (Lit.int .u8 k).wf = true) (i : Int) (wi : (Lit.int .i64 i).wf = true) :
    Calls Tryd.prog 3 #[.int .u8 k, .int .i64 i] w fun e w' => e = .returned (.bool true) ∧ Below w.heap.size w w' := by
  obtain ⟨n, rfl, hn⟩ := ok8_nat wk
  refine (schemaTells_main w ht n hn i).mono ?_
  rintro e w' ⟨rfl, hf⟩
  exact ⟨rfl, hf.below (Nat.le_refl _) (fun _ _ => id)⟩
theorem schemaTells_lifted (os : Os) (started : os.Started) (H : Type) (enc : TypeId × Value → H) :
    ReturnsInHanded {} Tryd.checked os 3 .any (fun w args => (Rows.schemaTellsSpec.pre enc Tryd.prog Tryd.f3 [] false w args ∧ laidMetH Tryd.prog laid1 w) ∧ sizedMet enc Tryd.prog Tryd.f3 (OpenSpec.ofChange Rows.schemaTellsSpec) false w args) (Rows.schemaTellsSpec.post enc Tryd.prog Tryd.f3 false true false false) := by
  refine returnsInHanded_of_change_and (C := Tryd.checked) (X := fun w _ => laidMetH Tryd.prog laid1 w) (fun _ _ _ hh h => h.of_heap hh) own started (by kernel_rfl) Tryd.func3
    (ChangeSpec.witness_shaped (enc := enc) (C := Tryd.checked) (os := os) (X := fun w _ => laidMetH Tryd.prog laid1 w) false (World.doorLaid Tryd.prog 400 os) #[.int .u8 0, .int .i64 0] 8 rfl (World.shaped_of_RefB (by kernel_rfl) (by kernel_rfl)) (by kernel_rfl) (by kernel_rfl) (by kernel_rfl) (door_met os _)) ?_
  intro W base args ds gs before hval0 hW _ _ hL _
  have hval : ∀ (j : Nat) t v, Tryd.f3.params[j]? = some t → args[j]? = some v → Value.okWide Tryd.prog W .any base t v := hval0
  have hW' := hW
  obtain ⟨p, q, hA0, hV, rfl, hfz, hnd⟩ := hW
  have hA : DataW.TrodAll enc Tryd.prog W 0 (fun _ => true) true Tryd.f3.params.toList args.toList ds p := hA0
  rw [Tryd.params3] at hA hval
  obtain ⟨v0, vs0, d0, ds0, p0, q0, hargs, rfl, rfl, h0, r0⟩ := trodAll_cons hA
  obtain ⟨v1, vs1, d1, ds1, p1, q1, rfl, rfl, rfl, h1, r1⟩ := trodAll_cons r0
  obtain ⟨rfl, rfl, rfl⟩ := trodAll_nil r1
  obtain rfl : args = #[v0, v1] := by cases args; simp_all
  obtain ⟨rfl, rfl⟩ := trodVars_none hV
  obtain ⟨a0, rfl, rfl, rfl, w0⟩ := open_int Tryd.underlying5 (hval 0 5 v0 rfl rfl) h0
  obtain ⟨a1, rfl, rfl, rfl, w1⟩ := open_int Tryd.underlying3 (hval 1 3 v1 rfl rfl) h1
  clear hA0 hval0
  refine (schemaTells_walk W (of_laid hL) a0 w0 a1 w1).mono fun e W' ⟨he, bel⟩ => ?_
  subst he
  exact ⟨_, rfl, _, _, _, [], _, [], hW', trodAll_mk1 (shut_bool Tryd.underlying4 _), (trodAll_cons_mk (shut_int Tryd.underlying5 w0) (trodAll_cons_mk (shut_int Tryd.underlying3 w1) trodAll_mk0)), rfl, bel.frame _, fun h => by cases h⟩

theorem schemaTells_row : Rows.SchemaTellsSaid :=
  OpenClaim.holds_of_wide 3 Tryd.f3 rfl rfl rfl rfl rfl rfl rfl ⟨rfl, rfl, rfl, rfl, rfl⟩ rfl rfl rfl rfl rfl (by kernel_rfl) Tryd.func3 (by kernel_rfl)
    (of_decide_eq_true (by kernel_rfl)) (by unfold Func.isWrapper; first | (rw [if_pos (by decide +kernel)]; kernel_rfl) | (rw [if_neg (by decide +kernel)]; exact ⟨rfl, rfl⟩))
    (fun os started H enc _ => schemaTells_lifted os started H enc)

theorem schemaTells_holds : Rows.SchemaTellsCardSaid :=
  Claim7.holds_tied_plain_at .later [] [.data] true (true, "3574140b145b00f67d1e5906b91e76e98c8d6b867cac76379509b227c0f0b3c0") false
    schemaTells_row (fun _ h => by cases h) (by kernel_rfl) (fun _ h => by cases h) schemaTells_row_tie rfl ⟨rfl, rfl⟩ (by kernel_rfl) rfl
    (fun f fn hf hfn => by
      obtain rfl : f = 3 := Option.some.inj ((show Tryd.prog.funcNamed "pinnace/pinnacelaw05.SchemaTells" = some 3 by kernel_rfl).symm.trans hf) |>.symm
      obtain rfl : fn = Tryd.f3 := (Option.some.inj (Tryd.func3.symm.trans hfn)).symm
      exact ⟨by kernel_rfl, fun j t ht => by
        rw [Tryd.params3] at ht
        have hm : t ∈ [5, 3] := by simpa using Array.mem_of_getElem? ht
        have hall : ([5, 3].all fun u => !Tryd.prog.wantsStandIn u) = true := by kernel_rfl
        exact (show Tryd.prog.wantsStandIn t = false by simpa using List.all_eq_true.1 hall t hm)⟩)
    (by kernel_rfl)

end Go.Proofs.YtpmolkomnnpepaaDoor
