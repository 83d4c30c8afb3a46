/-
  What is bred of any spawn, at any place, may be: SystemsChild returns true, whatever its arguments, where the table of the components lies as the program's text lays it, and changes nothing that was there.
-/
import Derived.Test.YtakphfmblfdfnaaDoorJeg
import Derived.OpenShut
import Derived.SevenTiedAt
namespace Go.Proofs.YtakphfmblfdfnaaDoor
open Go.ChangeShapes Go.WideShapes Go.ChangeAt Go.RowKit
set_option linter.unusedVariables false
set_option maxRecDepth 100000

set_option maxHeartbeats 4000000 in
theorem systemsChild_fr (w : World) (ht : Tab w) (m : Nat) (hm : m < 256) (k a b c : Int) (odd : Bool) :
    Calls Tryd.prog 3 #[.int .u8 (m : Int), .agg #[.int .u8 k, .int .i32 a, .int .i32 b, .int .i32 c], .bool odd] w fun e w' => e = .returned (.bool true) ∧ Fr Nobody w w' := by
  have HA : Hid (Calls _ _ _ _ _) := awake14 (w.alloc (.cells #[.int .u8 k, .int .i32 a, .int .i32 b, .int .i32 c] 24)) (ht.quiet ((Fr.refl _ _).alloc _))
  have H0 : Hid (Own w _ _) := (Own.start w).allocC #[.int .u8 k, .int .i32 a, .int .i32 b, .int .i32 c] 24
  obtain ⟨s, hs⟩ : ∃ s, s = m % 16 := ⟨_, rfl⟩
  have hs16 : s < 16 := by omega
  have hms : (m : Int) % 16 = (s : Int) := by omega
  have HCO : Hid ((⟨0, a, b, c⟩ : Cp).chk = 0 → lst (-1) (chl (s : Int) ⟨0, a, b, c⟩ odd) = 0) := fun hc => chl_ok s hs16 ⟨0, a, b, c⟩ rfl hc odd
  clear hs
  go_enter Tryd.func3, Tryd.ntmps3
  go_wp2_with fail
  refine HA.out.mono ?_
  rintro e w1 ⟨rfl, hf1⟩
  have hO1 := H0.out.quiet hf1
  have q0 := hO1.cell 0
  have y0 := hO1.froz 0
  simp at q0
  have hO2 := hO1.setC 0 (.int .u8 0)
  have z0 := hO2.cell 0
  have z1 := hO2.cell 1
  have z2 := hO2.cell 2
  have z3 := hO2.cell 3
  simp at z0 z1 z2 z3
  have HCK : Hid (Calls _ _ _ _ _) := rcheck3 (w1.setCell ⟨w.heap.size, 0, none⟩ (.int .u8 0)) 0 (by decide) a b c
  have H2 : Hid (Own w _ _) := hO2
  clear hO1 hO2 hf1 HA H0
  obtain ⟨ck, hck⟩ : ∃ ck, chk 0 (f3 a b c) = ck := ⟨_, rfl⟩
  rw [hck] at HCK
  go_wp2_with fail
  refine HCK.out.mono ?_
  rintro e w2 ⟨rfl, hf2⟩
  have hO3 := H2.out.quiet hf2
  by_cases hc0 : ck = 0
  · subst hc0
    have hl := HCO.out hck
    have x0 := hO3.cell 0
    have x1 := hO3.cell 1
    have x2 := hO3.cell 2
    have x3 := hO3.cell 3
    simp at x0 x1 x2 x3
    have HC1 : Hid (Calls _ _ _ _ _) := child_ok w w2 _ hO3 5 1 0 (s : Int) (by omega) (by omega) 0 a b c odd
    have HL : Hid (lst (-1) (chl (s : Int) ⟨0, a, b, c⟩ odd) = 0) := hl
    clear hO3 hf2 H2 HCK HCO hl hck z0 z1 z2 z3 q0 y0
    go_wp2_with fail
    refine HC1.out.mono ?_
    rintro e w3 ⟨g3, rfl, hO4⟩
    have x0 := hO4.two.cell 0
    have x1 := hO4.two.cell 1
    have x2 := hO4.two.cell 2
    have x3 := hO4.two.cell 3
    simp at x0 x1 x2 x3
    have HC2 : Hid (Calls _ _ _ _ _) := rchild_ok w w3 _ hO4 (s : Int) (by omega) (by omega) 0 a b c odd
    clear hO4 HC1
    go_wp2_with fail
    refine HC2.out.mono ?_
    rintro e w4 ⟨g4, rfl, hO5⟩
    have HS : Hid (Calls _ _ _ _ _) := same_cs w4 _ _ 4 4 4 _ (c16_at hO5.two) (c16_at hO5) rfl (by decide)
    have HO5 : Hid (Own w w4 _) := hO5.two
    clear hO5 HC2
    go_wp2_with fail
    refine HS.out.mono ?_
    rintro e w5 ⟨rfl, hf5⟩
    have hO6 := HO5.out.quiet hf5
    have HLI : Hid (Calls _ _ _ _ _) := rlist_any w5 _ 4 4 _ rfl (c16_at hO6) (fun q hq => by
      have := chk_k ((lst_ok HL.out).2 q hq).2
      omega) (by decide)
    rw [HL.out] at HLI
    have HO6 : Hid (Own w w5 _) := hO6
    clear hO6 hf5 HS HO5
    go_wp2_with fail
    refine HLI.out.mono ?_
    rintro e w6 ⟨rfl, hf6⟩
    have H7 : Hid (Fr Nobody w w6) := (HO6.out.quiet hf6).fr
    clear hf6 HLI HO6
    go_wp2
    go_ret
    exact ⟨rfl, H7.out⟩
  · have hc1 : ¬ (ck : Int) = 0 := by omega
    have H7 : Hid (Fr Nobody w w2) := hO3.fr
    clear hO3 hf2 H2 HCK HCO hc0 hck z0 z1 z2 z3 q0 y0
    go_wp2
    go_ret
    exact ⟨rfl, H7.out⟩
theorem systemsChild_walk (w : World) (ht : Tab w) (a0 : Int) (w0 : ok8 a0) (k : Int) (wk : ok8 k) (a : Int) (wa : ok32 a) (b : Int) (wb : ok32 b) (c : Int) (wc : ok32 c) (odd : Bool) :
    Calls Tryd.prog 3 #[.int .u8 a0, .agg #[.int .u8 k, .int .i32 a, .int .i32 b, .int .i32 c], .bool odd] w fun e w' => e = .returned (.bool true) ∧ Below w.heap.size w w' := by
  obtain ⟨m, rfl, hm⟩ := ok8_nat w0
  refine (systemsChild_fr w ht m hm k a b c odd).mono ?_
  rintro e w' ⟨rfl, hf⟩
  exact ⟨rfl, hf.below (Nat.le_refl _) (fun _ _ h => h)⟩
theorem systemsChild_lifted (os : Os) (started : os.Started) (H : Type) (enc : TypeId × Value → H) :
    ReturnsInHanded {} Tryd.checked os 3 .any (fun w args => (Rows.systemsChildSpec.pre enc Tryd.prog Tryd.f3 [] false w args ∧ laidMetH Tryd.prog laid1 w) ∧ sizedMet enc Tryd.prog Tryd.f3 (OpenSpec.ofChange Rows.systemsChildSpec) false w args) (Rows.systemsChildSpec.post enc Tryd.prog Tryd.f3 false true false false) := by
  refine returnsInHanded_of_change_and (C := Tryd.checked) (X := fun w _ => laidMetH Tryd.prog laid1 w) (fun _ _ _ hh h => h.of_heap hh) own started (by kernel_rfl) Tryd.func3
    (ChangeSpec.witness_shaped (enc := enc) (C := Tryd.checked) (os := os) (X := fun w _ => laidMetH Tryd.prog laid1 w) false (World.doorLaid Tryd.prog 400 os) #[.int .u8 0, .agg #[.int .u8 0, .int .i32 0, .int .i32 0, .int .i32 0], .bool false] 8 rfl (World.shaped_of_RefB (by kernel_rfl) (by kernel_rfl)) (by kernel_rfl) (by kernel_rfl) (by kernel_rfl) (door_met os _)) ?_
  intro W base args ds gs before hval0 hW _ _ hL _
  have hval : ∀ (j : Nat) t v, Tryd.f3.params[j]? = some t → args[j]? = some v → Value.okWide Tryd.prog W .any base t v := hval0
  have hW' := hW
  obtain ⟨p, q, hA0, hV, rfl, hfz, hnd⟩ := hW
  have hA : DataW.TrodAll enc Tryd.prog W 0 (fun _ => true) true Tryd.f3.params.toList args.toList ds p := hA0
  rw [Tryd.params3] at hA hval
  obtain ⟨v0, vs0, d0, ds0, p0, q0, hargs, rfl, rfl, h0, r0⟩ := trodAll_cons hA
  obtain ⟨v1, vs1, d1, ds1, p1, q1, rfl, rfl, rfl, h1, r1⟩ := trodAll_cons r0
  obtain ⟨v2, vs2, d2, ds2, p2, q2, rfl, rfl, rfl, h2, r2⟩ := trodAll_cons r1
  obtain ⟨rfl, rfl, rfl⟩ := trodAll_nil r2
  obtain rfl : args = #[v0, v1, v2] := by cases args; simp_all
  obtain ⟨rfl, rfl⟩ := trodVars_none hV
  obtain ⟨a0, rfl, rfl, rfl, w0⟩ := open_int Tryd.underlying5 (hval 0 5 v0 rfl rfl) h0
  obtain ⟨k1, x1, y1, z1, rfl, rfl, rfl, wk1, wx1, wy1, wz1⟩ := open_comp (hval 1 24 v1 rfl rfl) h1
  obtain ⟨a2, rfl, rfl, rfl⟩ := open_bool Tryd.underlying4 (hval 2 4 v2 rfl rfl) h2
  clear hA0 hval0
  refine (systemsChild_walk W (of_laid hL) a0 w0 k1 wk1 x1 wx1 y1 wy1 z1 wz1 a2).mono fun e W' ⟨he, bel⟩ => ?_
  subst he
  exact ⟨_, rfl, _, _, _, [], _, [], hW', trodAll_mk1 (shut_bool Tryd.underlying4 _), (trodAll_cons_mk (shut_int Tryd.underlying5 w0) (trodAll_cons_mk (shut_comp wk1 wx1 wy1 wz1) (trodAll_cons_mk (shut_bool Tryd.underlying4 a2) trodAll_mk0))), rfl, bel.frame _, fun h => by cases h⟩

theorem systemsChild_row : Rows.SystemsChildSaid :=
  OpenClaim.holds_of_wide 3 Tryd.f3 rfl rfl rfl rfl rfl rfl rfl ⟨rfl, rfl, rfl, rfl, rfl⟩ rfl rfl rfl rfl rfl (by kernel_rfl) Tryd.func3 (by kernel_rfl)
    (of_decide_eq_true (by kernel_rfl)) (by unfold Func.isWrapper; first | (rw [if_pos (by decide +kernel)]; kernel_rfl) | (rw [if_neg (by decide +kernel)]; exact ⟨rfl, rfl⟩))
    (fun os started H enc _ => systemsChild_lifted os started H enc)

theorem systemsChild_holds : Rows.SystemsChildCardSaid :=
  Claim7.holds_tied_plain_at .later [] [.data] true (true, "9501a5d1d2d24a429054d28b95242be63770056e0f4abd8e7a2cafaa29c1c8f6") false
    systemsChild_row (fun _ h => by cases h) (by kernel_rfl) (fun _ h => by cases h) systemsChild_row_tie rfl ⟨rfl, rfl⟩ (by kernel_rfl) rfl
    (fun f fn hf hfn => by
      obtain rfl : f = 3 := Option.some.inj ((show Tryd.prog.funcNamed "pinnace/pinnacelaw14.SystemsChild" = some 3 by kernel_rfl).symm.trans hf) |>.symm
      obtain rfl : fn = Tryd.f3 := (Option.some.inj (Tryd.func3.symm.trans hfn)).symm
      exact ⟨by kernel_rfl, fun j t ht => by
        rw [Tryd.params3] at ht
        have hm : t ∈ [5, 24, 4] := by simpa using Array.mem_of_getElem? ht
        have hall : ([5, 24, 4].all fun u => !Tryd.prog.wantsStandIn u) = true := by kernel_rfl
        exact (show Tryd.prog.wantsStandIn t = false by simpa using List.all_eq_true.1 hall t hm)⟩)
    (by kernel_rfl)

end Go.Proofs.YtakphfmblfdfnaaDoor
