/-
  For every two components: on nil writers and readers Put, PutStep, Get and GetStep of package comp answer ErrNone, and the zero component beside it: CompNil returns true, whatever its arguments, where the table of the components lies as the program's text lays it, and changes nothing that was there.
-/
import Derived.Test.YtpmolkomnnpepabDoorKf
namespace Go.Proofs.YtpmolkomnnpepabDoor
open Go.ChangeShapes Go.WideShapes Go.ChangeAt Go.RowKit
set_option linter.unusedVariables false
set_option maxRecDepth 100000

set_option maxHeartbeats 4000000 in
theorem compNil_main (w : World) (ht : Tab w) (k k' : Nat) (F G : Nat → Int) :
    Calls Tryd.prog 8 #[.agg (cmp k F), .agg (cmp k' G)] w fun e w' => e = .returned (.bool true) ∧ Fr Nobody w w' := by
  obtain ⟨b1, b2, hf⟩ := boxes w k k' F G
  have H : Hid (Tab w) := ht
  have HF : Hid (Fr Nobody w _) := hf
  have HB1 : Hid (Box _ w.heap.size k F) := b1
  have HB2 : Hid (Box _ (w.heap.size + 1) k' G) := b2
  have G1 : Hid (∀ w, _) := fun w => getC_nil w k'
  have G2 : Hid (∀ w, _) := fun w => getStep_nil w k F
  have P1 : Hid (∀ w, _) := fun w => putC_nil w k' G
  have P2 : Hid (∀ w, _) := fun w => putStep_nil w k k' F G
  clear ht hf b1 b2
  unfold cmp at *
  go_enter Tryd.func8, Tryd.ntmps8
  go_wp2_with fail
  refine (G1.out _).mono ?_
  rintro e w1 ⟨rfl, hf1⟩
  have HF1 : Hid (Fr Nobody w w1) := HF.out.trans hf1
  have B1 : Hid (Box w1 w.heap.size k F) := Box.quiet HB1.out hf1
  have B2 : Hid (Box w1 (w.heap.size + 1) k' G) := Box.quiet HB2.out hf1
  obtain ⟨p0, p1, p2, p3⟩ := B1.out.cells
  have l1 : w.heap.size < w1.heap.size := World.block_lt_of_cell? w1 _ p0
  have n1 : w1.heap.size ≠ w.heap.size := by omega
  clear hf1
  go_wp2_with fail
  refine (G2.out _).mono ?_
  rintro e w2 ⟨rfl, hf2⟩
  have HF2 : Hid (Fr Nobody w w2) := (HF1.out.alloc _).trans hf2
  have B12 : Hid (Box w2 w.heap.size k F) := (B1.out.quiet ((Fr.refl _ _).alloc _)).quiet hf2
  have B22 : Hid (Box w2 (w.heap.size + 1) k' G) := (B2.out.quiet ((Fr.refl _ _).alloc _)).quiet hf2
  have BX : Hid (Box w2 w1.heap.size 0 (f3 0 0 0)) := (Box.new w1 0 (f3 0 0 0)).quiet hf2
  clear hf2 p0 p1 p2 p3 l1 n1
  go_wp2_with fail
  refine (awake6 _ (H.out.quiet (HF2.out.alloc _))).mono ?_
  rintro e w3 ⟨rfl, hf3⟩
  have HF3 : Hid (Fr Nobody w w3) := (HF2.out.alloc _).trans hf3
  have B13 : Hid (Box w3 w.heap.size k F) := (B12.out.quiet ((Fr.refl _ _).alloc _)).quiet hf3
  have B23 : Hid (Box w3 (w.heap.size + 1) k' G) := (B22.out.quiet ((Fr.refl _ _).alloc _)).quiet hf3
  have BX3 : Hid (Box w3 w1.heap.size 0 (f3 0 0 0)) := (BX.out.quiet ((Fr.refl _ _).alloc _)).quiet hf3
  have BY3 : Hid (Box w3 w2.heap.size 0 (f3 0 0 0)) := (Box.new w2 0 (f3 0 0 0)).quiet hf3
  obtain ⟨q0, q1, q2, q3⟩ := B23.out.cells
  clear hf3
  go_wp2_with fail
  refine (P1.out _).mono ?_
  rintro e w4 ⟨rfl, hf4⟩
  have HF4 : Hid (Fr Nobody w w4) := HF3.out.trans hf4
  obtain ⟨p0, p1, p2, p3⟩ := (B13.out.quiet hf4).cells
  have B24 : Hid (Box w4 (w.heap.size + 1) k' G) := B23.out.quiet hf4
  have BX4 : Hid (Box w4 w1.heap.size 0 (f3 0 0 0)) := BX3.out.quiet hf4
  have BY4 : Hid (Box w4 w2.heap.size 0 (f3 0 0 0)) := BY3.out.quiet hf4
  clear hf4 q0 q1 q2 q3
  obtain ⟨q0, q1, q2, q3⟩ := B24.out.cells
  go_wp2_with fail
  refine (P2.out _).mono ?_
  rintro e w5 ⟨rfl, hf5⟩
  have HF5 : Hid (Fr Nobody w w5) := HF4.out.trans hf5
  obtain ⟨x0, x1, x2, x3⟩ := (BX4.out.quiet hf5).cells
  obtain ⟨y0, y1, y2, y3⟩ := (BY4.out.quiet hf5).cells
  clear hf5 q0 q1 q2 q3 p0 p1 p2 p3
  simp only [f3] at x1 x2 x3 y1 y2 y3
  have hA := eq_a3 9997 0 0 0 0 0 0
  go_wp2
  go_ret
  exact ⟨rfl, HF5.out⟩
theorem compNil_walk (w : World) (ht : Tab w) (k : Int) (wk : ok8 k) (a : Int) (wa : ok32 a) (b : Int) (wb : ok32 b) (c : Int) (wc : ok32 c) (k' : Int) (wk' : ok8 k') (a' : Int) (wa' : ok32 a') (b' : Int) (wb' : ok32 b') (c' : Int) (wc' : ok32 c') :
    Calls Tryd.prog 8 #[.agg #[.int .u8 k, .int .i32 a, .int .i32 b, .int .i32 c], .agg #[.int .u8 k', .int .i32 a', .int .i32 b', .int .i32 c']] w fun e w' => e = .returned (.bool true) ∧ Below w.heap.size w w' := by
  obtain ⟨n, rfl, hn⟩ := ok8_nat wk
  obtain ⟨n', rfl, hn'⟩ := ok8_nat wk'
  refine (compNil_main w ht n n' (f3 a b c) (f3 a' b' c')).mono ?_
  rintro e w' ⟨rfl, hf⟩
  exact ⟨rfl, hf.below (Nat.le_refl _) (fun _ _ => id)⟩
theorem compNil_lifted (os : Os) (started : os.Started) (H : Type) (enc : TypeId × Value → H) :
    ReturnsInHanded {} Tryd.checked os 8 .any (fun w args => (Rows.compNilSpec.pre enc Tryd.prog Tryd.f8 [] false w args ∧ laidMetH Tryd.prog laid1 w) ∧ sizedMet enc Tryd.prog Tryd.f8 (OpenSpec.ofChange Rows.compNilSpec) false w args) (Rows.compNilSpec.post enc Tryd.prog Tryd.f8 false true false false) := by
  refine returnsInHanded_of_change_and (C := Tryd.checked) (X := fun w _ => laidMetH Tryd.prog laid1 w) (fun _ _ _ hh h => h.of_heap hh) own started (by kernel_rfl) Tryd.func8
    (ChangeSpec.witness_shaped (enc := enc) (C := Tryd.checked) (os := os) (X := fun w _ => laidMetH Tryd.prog laid1 w) false (World.doorLaid Tryd.prog 400 os) #[.agg #[.int .u8 0, .int .i32 0, .int .i32 0, .int .i32 0], .agg #[.int .u8 0, .int .i32 0, .int .i32 0, .int .i32 0]] 8 rfl (World.shaped_of_RefB (by kernel_rfl) (by kernel_rfl)) (by kernel_rfl) (by kernel_rfl) (by kernel_rfl) (door_met os _)) ?_
  intro W base args ds gs before hval0 hW _ _ hL _
  have hval : ∀ (j : Nat) t v, Tryd.f8.params[j]? = some t → args[j]? = some v → Value.okWide Tryd.prog W .any base t v := hval0
  have hW' := hW
  obtain ⟨p, q, hA0, hV, rfl, hfz, hnd⟩ := hW
  have hA : DataW.TrodAll enc Tryd.prog W 0 (fun _ => true) true Tryd.f8.params.toList args.toList ds p := hA0
  rw [Tryd.params8] at hA hval
  obtain ⟨v0, vs0, d0, ds0, p0, q0, hargs, rfl, rfl, h0, r0⟩ := trodAll_cons hA
  obtain ⟨v1, vs1, d1, ds1, p1, q1, rfl, rfl, rfl, h1, r1⟩ := trodAll_cons r0
  obtain ⟨rfl, rfl, rfl⟩ := trodAll_nil r1
  obtain rfl : args = #[v0, v1] := by cases args; simp_all
  obtain ⟨rfl, rfl⟩ := trodVars_none hV
  obtain ⟨k0, x0, y0, z0, rfl, rfl, rfl, wk0, wx0, wy0, wz0⟩ := open_comp (hval 0 24 v0 rfl rfl) h0
  obtain ⟨k1, x1, y1, z1, rfl, rfl, rfl, wk1, wx1, wy1, wz1⟩ := open_comp (hval 1 24 v1 rfl rfl) h1
  clear hA0 hval0
  refine (compNil_walk W (of_laid hL) k0 wk0 x0 wx0 y0 wy0 z0 wz0 k1 wk1 x1 wx1 y1 wy1 z1 wz1).mono fun e W' ⟨he, bel⟩ => ?_
  subst he
  exact ⟨_, rfl, _, _, _, [], _, [], hW', trodAll_mk1 (shut_bool Tryd.underlying4 _), (trodAll_cons_mk (shut_comp wk0 wx0 wy0 wz0) (trodAll_cons_mk (shut_comp wk1 wx1 wy1 wz1) trodAll_mk0)), rfl, bel.frame _, fun h => by cases h⟩

theorem compNil_row : Rows.CompNilSaid :=
  OpenClaim.holds_of_wide 8 Tryd.f8 rfl rfl rfl rfl rfl rfl rfl ⟨rfl, rfl, rfl, rfl, rfl⟩ rfl rfl rfl rfl rfl (by kernel_rfl) Tryd.func8 (by kernel_rfl)
    (of_decide_eq_true (by kernel_rfl)) (by unfold Func.isWrapper; first | (rw [if_pos (by decide +kernel)]; kernel_rfl) | (rw [if_neg (by decide +kernel)]; exact ⟨rfl, rfl⟩))
    (fun os started H enc _ => compNil_lifted os started H enc)

theorem compNil_holds : Rows.CompNilCardSaid :=
  Claim7.holds_tied_plain_at .later [] [.data] true (true, "8ca0d6b8ccc34495e322e2d592ec33e163ccb62834ee7392b16817c4c942c2a4") false
    compNil_row (fun _ h => by cases h) (by kernel_rfl) (fun _ h => by cases h) compNil_row_tie rfl ⟨rfl, rfl⟩ (by kernel_rfl) rfl
    (fun f fn hf hfn => by
      obtain rfl : f = 8 := Option.some.inj ((show Tryd.prog.funcNamed "pinnace/pinnacelaw06.CompNil" = some 8 by kernel_rfl).symm.trans hf) |>.symm
      obtain rfl : fn = Tryd.f8 := (Option.some.inj (Tryd.func8.symm.trans hfn)).symm
      exact ⟨by kernel_rfl, fun j t ht => by
        rw [Tryd.params8] at ht
        have hm : t ∈ [24, 24] := by simpa using Array.mem_of_getElem? ht
        have hall : ([24, 24].all fun u => !Tryd.prog.wantsStandIn u) = true := by kernel_rfl
        exact (show Tryd.prog.wantsStandIn t = false by simpa using List.all_eq_true.1 hall t hm)⟩)
    (by kernel_rfl)

end Go.Proofs.YtpmolkomnnpepabDoor
