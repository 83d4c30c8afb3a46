/-
  For every component: Check of package schema tells of it what the document's table tells: SchemaChecks returns true, whatever its argument, where the table of the components lies as the program's text lays it, and changes nothing that was there.
-/
import Derived.Test.YtpmolkomnnpepaaDoorSi
import Derived.Test.YtpmolkomnnpepaaDoorSj
namespace Go.Proofs.YtpmolkomnnpepaaDoor
open Go.ChangeShapes Go.WideShapes Go.ChangeAt Go.RowKit
set_option linter.unusedVariables false
set_option maxRecDepth 100000

set_option maxHeartbeats 1000000 in
theorem schemaChecks_main (w : World) (ht : Tab w) (k : Nat) (hk : k < 256) (a b c : Int) :
    Calls Tryd.prog 5 #[.agg #[.int .u8 (k : Int), .int .i32 a, .int .i32 b, .int .i32 c]] w fun e w' => e = .returned (.bool true) ∧ Fr Nobody w w' := by
  have H : Hid (Tab w) := ht
  have H1 : Hid (∀ w, Tab w → _) := fun w h => check3 w h k hk a b c
  have H2 : Hid (∀ w, _) := fun w => rcheck3 w k hk a b c
  have HB : Hid (Box (w.alloc (.cells #[.int .u8 (k : Int), .int .i32 a, .int .i32 b, .int .i32 c] 38)) w.heap.size k (f3 a b c)) := Box.new w k (f3 a b c)
  generalize chk k (f3 a b c) = x at *
  clear ht
  go_enter Tryd.func5, Tryd.ntmps5
  go_wp2_with fail
  go_region_with (first
    | (go_at_call 11; refine (awake5 _ (H.out.quiet (((Fr.refl _ w).alloc _).drew))).mono ?_; rintro e w1 ⟨rfl, hf1⟩
       have HF1 : Hid (Fr Nobody w w1) := (((Fr.refl _ w).alloc _).drew).trans hf1
       obtain ⟨c0, c1, c2, c3⟩ := (HB.out.quiet (((Fr.refl _ _).drew).trans hf1)).cells
       have HB1 : Hid (Box w1 w.heap.size k (f3 a b c)) := HB.out.quiet (((Fr.refl _ _).drew).trans hf1)
       simp only [f3] at c1 c2 c3
       clear hf1)
    | (go_at_call 23; refine (H1.out _ (H.out.quiet HF1.out)).mono ?_; rintro e w2 ⟨rfl, hf2⟩
       have HF2 : Hid (Fr Nobody w w2) := HF1.out.trans hf2
       clear c0 c1 c2 c3
       obtain ⟨c0, c1, c2, c3⟩ := (HB1.out.quiet hf2).cells
       simp only [f3] at c1 c2 c3
       clear hf2)
    | (go_at_call 24; refine (H2.out _).mono ?_; rintro e w3 ⟨rfl, hf3⟩
       have HF3 : Hid (Fr Nobody w w3) := HF2.out.trans hf3
       clear hf3))
  all_goals
    go_wp2
    go_ret
    exact ⟨rfl, HF3.out⟩
theorem schemaChecks_walk (w : World) (ht : Tab w) (k : Int) (wk : ok8 k) (a : Int) (wa : ok32 a) (b : Int) (wb : ok32 b) (c : Int) (wc : ok32 c) :
    Calls Tryd.prog 5 #[.agg #[.int .u8 k, .int .i32 a, .int .i32 b, .int .i32 c]] w fun e w' => e = .returned (.bool true) ∧ Below w.heap.size w w' := by
  obtain ⟨n, rfl, hn⟩ := ok8_nat wk
  refine (schemaChecks_main w ht n hn a b c).mono ?_
  rintro e w' ⟨rfl, hf⟩
  exact ⟨rfl, hf.below (Nat.le_refl _) (fun _ _ => id)⟩
theorem schemaChecks_lifted (os : Os) (started : os.Started) (H : Type) (enc : TypeId × Value → H) :
    ReturnsInHanded {} Tryd.checked os 5 .any (fun w args => (Rows.schemaChecksSpec.pre enc Tryd.prog Tryd.f5 [] false w args ∧ laidMetH Tryd.prog laid1 w) ∧ sizedMet enc Tryd.prog Tryd.f5 (OpenSpec.ofChange Rows.schemaChecksSpec) false w args) (Rows.schemaChecksSpec.post enc Tryd.prog Tryd.f5 false true false false) := by
  refine returnsInHanded_of_change_and (C := Tryd.checked) (X := fun w _ => laidMetH Tryd.prog laid1 w) (fun _ _ _ hh h => h.of_heap hh) own started (by kernel_rfl) Tryd.func5
    (ChangeSpec.witness_shaped (enc := enc) (C := Tryd.checked) (os := os) (X := fun w _ => laidMetH Tryd.prog laid1 w) false (World.doorLaid Tryd.prog 400 os) #[.agg #[.int .u8 0, .int .i32 0, .int .i32 0, .int .i32 0]] 8 rfl (World.shaped_of_RefB (by kernel_rfl) (by kernel_rfl)) (by kernel_rfl) (by kernel_rfl) (by kernel_rfl) (door_met os _)) ?_
  intro W base args ds gs before hval0 hW _ _ hL _
  have hval : ∀ (j : Nat) t v, Tryd.f5.params[j]? = some t → args[j]? = some v → Value.okWide Tryd.prog W .any base t v := hval0
  have hW' := hW
  obtain ⟨p, q, hA0, hV, rfl, hfz, hnd⟩ := hW
  have hA : DataW.TrodAll enc Tryd.prog W 0 (fun _ => true) true Tryd.f5.params.toList args.toList ds p := hA0
  rw [Tryd.params5] at hA hval
  obtain ⟨v0, vs0, d0, ds0, p0, q0, hargs, rfl, rfl, h0, r0⟩ := trodAll_cons hA
  obtain ⟨rfl, rfl, rfl⟩ := trodAll_nil r0
  obtain rfl : args = #[v0] := by cases args; simp_all
  obtain ⟨rfl, rfl⟩ := trodVars_none hV
  obtain ⟨k0, x0, y0, z0, rfl, rfl, rfl, wk0, wx0, wy0, wz0⟩ := open_comp (hval 0 38 v0 rfl rfl) h0
  clear hA0 hval0
  refine (schemaChecks_walk W (of_laid hL) k0 wk0 x0 wx0 y0 wy0 z0 wz0).mono fun e W' ⟨he, bel⟩ => ?_
  subst he
  exact ⟨_, rfl, _, _, _, [], _, [], hW', trodAll_mk1 (shut_bool Tryd.underlying4 _), (trodAll_cons_mk (shut_comp wk0 wx0 wy0 wz0) trodAll_mk0), rfl, bel.frame _, fun h => by cases h⟩

theorem schemaChecks_row : Rows.SchemaChecksSaid :=
  OpenClaim.holds_of_wide 5 Tryd.f5 rfl rfl rfl rfl rfl rfl rfl ⟨rfl, rfl, rfl, rfl, rfl⟩ rfl rfl rfl rfl rfl (by kernel_rfl) Tryd.func5 (by kernel_rfl)
    (of_decide_eq_true (by kernel_rfl)) (by unfold Func.isWrapper; first | (rw [if_pos (by decide +kernel)]; kernel_rfl) | (rw [if_neg (by decide +kernel)]; exact ⟨rfl, rfl⟩))
    (fun os started H enc _ => schemaChecks_lifted os started H enc)

theorem schemaChecks_holds : Rows.SchemaChecksCardSaid :=
  Claim7.holds_tied_plain_at .later [] [.data] true (true, "3574140b145b00f67d1e5906b91e76e98c8d6b867cac76379509b227c0f0b3c0") false
    schemaChecks_row (fun _ h => by cases h) (by kernel_rfl) (fun _ h => by cases h) schemaChecks_row_tie rfl ⟨rfl, rfl⟩ (by kernel_rfl) rfl
    (fun f fn hf hfn => by
      obtain rfl : f = 5 := Option.some.inj ((show Tryd.prog.funcNamed "pinnace/pinnacelaw05.SchemaChecks" = some 5 by kernel_rfl).symm.trans hf) |>.symm
      obtain rfl : fn = Tryd.f5 := (Option.some.inj (Tryd.func5.symm.trans hfn)).symm
      exact ⟨by kernel_rfl, fun j t ht => by
        rw [Tryd.params5] at ht
        have hm : t ∈ [38] := by simpa using Array.mem_of_getElem? ht
        have hall : ([38].all fun u => !Tryd.prog.wantsStandIn u) = true := by kernel_rfl
        exact (show Tryd.prog.wantsStandIn t = false by simpa using List.all_eq_true.1 hall t hm)⟩)
    (by kernel_rfl)

end Go.Proofs.YtpmolkomnnpepaaDoor
