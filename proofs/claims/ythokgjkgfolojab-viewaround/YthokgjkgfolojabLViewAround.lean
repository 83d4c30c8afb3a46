/-
  About every place there is a region that sees it (if it is in the world), and its neighbours as far as the radius goes: ViewAround returns true, whatever its arguments, and changes nothing that was there.
-/
import Derived.Test.YthokgjkgfolojabVij
import Derived.Test.YthokgjkgfolojabVik
import Derived.Deep.RegionHeld3
import Derived.ProofKit
import Derived.OpenShut
namespace Go.Proofs.Ythokgjkgfolojab
open Go.ChangeShapes Go.WideShapes Go.ChangeAt Go.RowKit
set_option linter.unusedVariables false
set_option maxRecDepth 100000

theorem own : ownKnob Try.prog.godebug = none := by kernel_rfl
theorem sq_small {k : Int} (h1 : 0 ≤ k) (h2 : k ≤ 20) : 0 ≤ k * k ∧ k * k ≤ 400 := by
  constructor
  · exact Int.mul_nonneg h1 h1
  · exact Int.le_trans (Int.mul_le_mul_of_nonneg_right h2 h1) (by omega)
set_option maxHeartbeats 32000000 in
theorem viewAround_fr (w : World) (px py rd : Int) (hpx : I32 px) (hpy : I32 py) : Calls Try.prog 3 #[.int .i32 px, .int .i32 py, .int .i64 rd] w fun e w' => e = .returned (.bool true) ∧ Fr Nobody w w' := by
  obtain ⟨kx, hkx⟩ : ∃ k, k = kpc (cel px) := ⟨_, rfl⟩
  obtain ⟨ky, hky⟩ : ∃ k, k = kpc (cel py) := ⟨_, rfl⟩
  obtain ⟨kr, hkr⟩ : ∃ k, k = kpr rd := ⟨_, rfl⟩
  obtain ⟨bx1, bx2⟩ := kpc_in (cel px)
  obtain ⟨by1, by2⟩ := kpc_in (cel py)
  obtain ⟨br1, br2⟩ := kpr_in rd
  rw [← hkx] at bx1 bx2
  rw [← hky] at by1 by2
  rw [← hkr] at br1 br2
  have hin : inR kx ky kr = true := inR_iff.2 ⟨⟨bx1, bx2⟩, ⟨by1, by2⟩, br1, br2⟩
  have hR : hasR true kx ky kr = true := by unfold hasR; rw [hin]; rfl
  have A1 : Hid (∀ W, Calls Try.prog 4 #[.int .i32 px, .int .i32 py, .int .i64 rd] W fun e w' => e = .returned (.agg #[.bool true, .int .i64 kx, .int .i64 ky, .int .i64 kr]) ∧ Fr Nobody W w') := fun W => by rw [hkx, hky, hkr]; exact around_ok W px py rd hpx hpy
  have A2 : Hid (∀ W, Calls Try.prog 6 #[.int .i32 px, .int .i32 py, .int .i64 rd] W fun e w' => e = .returned (.agg #[.bool true, .int .i64 kx, .int .i64 ky, .int .i64 kr]) ∧ Fr Nobody W w') := fun W => by rw [hkx, hky, hkr]; exact raround_ok W px py rd hpx hpy
  have K1 : Hid (∀ W, Calls Try.prog 7 #[.agg #[.bool true, .int .i64 kx, .int .i64 ky, .int .i64 kr]] W fun e w' => e = .returned (.int .i64 0) ∧ Fr Nobody W w') := fun W => by
    have := check_ok W true kx ky kr
    unfold erR at this
    rw [hin, if_pos rfl] at this
    exact this
  have AW : Hid (∀ W, Calls Try.prog 5 #[] W fun e w' => e = .returned (.bool true) ∧ Fr Nobody W w') := fun W => awake17 W
  have HS : Hid (-524288 ≤ px → px < 524288 → -524288 ≤ py → py < 524288 → ∀ W, Calls Try.prog 8 #[.agg #[.bool true, .int .i64 kx, .int .i64 ky, .int .i64 kr], .int .i32 px, .int .i32 py] W fun e w' => e = .returned (.bool true) ∧ Fr Nobody W w') := fun h1 h2 h3 h4 W => by
    have := sees_ok W true kx ky kr px py hpx hpy
    have e : hasC true kx ky kr (cel px) (cel py) = true := by
      unfold hasC
      rw [hR, bw_iff.2 (by rw [hkx]; unfold kpc cel; omega), bw_iff.2 (by rw [hky]; unfold kpc cel; omega)]
      rfl
    rw [e] at this
    exact this
  obtain ⟨k1, hk1⟩ : ∃ k, k = kr + 1 := ⟨_, rfl⟩
  obtain ⟨m1, hm1⟩ : ∃ m, m = k1 * k1 := ⟨_, rfl⟩
  obtain ⟨k2, hk2⟩ : ∃ k, k = 2 * kr := ⟨_, rfl⟩
  obtain ⟨k3, hk3⟩ : ∃ k, k = k2 + 1 := ⟨_, rfl⟩
  obtain ⟨m2, hm2⟩ : ∃ m, m = k3 * k3 := ⟨_, rfl⟩
  have b1 := sq_small (k := k1) (by omega) (by omega)
  have b2 := sq_small (k := k3) (by omega) (by omega)
  rw [← hm1] at b1
  rw [← hm2] at b2
  have w1 : IntKind.i64.wrap (kr + 1) = k1 := by rw [hk1]; simp only [IntKind.wrap_i64]; omega
  have w2 : IntKind.i64.wrap (k1 * k1) = m1 := by rw [← hm1]; simp only [IntKind.wrap_i64]; omega
  have w3 : IntKind.i64.wrap (2 * kr) = k2 := by rw [hk2]; simp only [IntKind.wrap_i64]; omega
  have w4 : IntKind.i64.wrap (k2 + 1) = k3 := by rw [hk3]; simp only [IntKind.wrap_i64]; omega
  have w5 : IntKind.i64.wrap (k3 * k3) = m2 := by rw [← hm2]; simp only [IntKind.wrap_i64]; omega
  have HC : Hid (∀ W l, Own w W l → Calls Try.prog 9 #[.agg #[.bool true, .int .i64 kx, .int .i64 ky, .int .i64 kr]] W fun e w' => ∃ (n : Nat) (ao : Option Addr) (cap : Nat), e = .returned (.slice ao n cap) ∧ m1 ≤ (n : Int) ∧ (n : Int) ≤ m2 ∧ Own w w' l) := fun W l h => (cells_ok W true kx ky kr w l h).mono (by
    rintro e w' ⟨R, ao, cap, rfl, h1, h2⟩
    obtain ⟨c1, c2⟩ := h1.bounds hR
    exact ⟨_, ao, cap, rfl, by rw [hm1, hk1]; exact c1, by rw [hm2, hk3, hk2]; exact c2, h2.tail⟩)
  clear hkx hky hkr hin hR hpx hpy hk1 hk2 hk3 hm1 hm2 b1 b2 bx1 bx2 by1 by2 br1 br2
  go_enter Try.func3, Try.ntmps3
  go_wp2_with fail
  refine (A1.out _).mono ?_
  rintro e w1 ⟨rfl, hf⟩
  have hA := (Own.of_fr hf).allocC #[.bool true, .int .i64 kx, .int .i64 ky, .int .i64 kr] 23
  have HA : Hid (Own w _ _) := hA
  clear hA hf A1
  go_wp2
  generalize hWg : w1.alloc (.cells #[.bool true, .int .i64 kx, .int .i64 ky, .int .i64 kr] 23) = W1 at *
  generalize w1.heap.size = B at *
  clear hWg
  have q0 := fun f => HA.out.frCells f 0
  have q1 := fun f => HA.out.frCells f 1
  have q2 := fun f => HA.out.frCells f 2
  have q3 := fun f => HA.out.frCells f 3
  simp at q0 q1 q2 q3
  refine wp_region_fr (by kernel_rfl) (by kernel_rfl) ?_
  repeat (with_reducible refine wpQuiet_step (fun K hK => ?_)
          go_simp
          first
            | (refine hK _ ?_; clear hK K)
            | (apply Exists.intro
               refine ⟨fun _ => ?_, hK _ ?_⟩
               (first
                 | (go_at_call 5; with_reducible refine Calls.fr_of (AW.out _))
                 | (go_at_call 6; with_reducible refine Calls.fr_of (A2.out _))
                 | (go_at_call 7; with_reducible refine Calls.fr_of (K1.out _)))
               clear hK K))
  refine wpQuiet_nil ?_
  rintro w' ⟨f, rfl⟩
  have H2 : Hid (Own w f.val (Cells B #[.bool true, .int .i64 kx, .int .i64 ky, .int .i64 kr] 23 :: [])) := HA.out.quiet f.fr
  clear HA q0 q1 q2 q3 AW A2 K1
  generalize f.val = W2 at *
  by_cases h1 : -524288 ≤ px
  · by_cases h2 : px < 524288
    · by_cases h3 : -524288 ≤ py
      · by_cases h4 : py < 524288
        · have HS2 : Hid (∀ W, Calls Try.prog 8 #[.agg #[.bool true, .int .i64 kx, .int .i64 ky, .int .i64 kr], .int .i32 px, .int .i32 py] W fun e w' => e = .returned (.bool true) ∧ Fr Nobody W w') := HS.out h1 h2 h3 h4
          have p0 := H2.out.cell 0
          have p1 := H2.out.cell 1
          have p2 := H2.out.cell 2
          have p3 := H2.out.cell 3
          simp at p0 p1 p2 p3
          have H3 : Hid (Own w W2.drew _) := H2.out.drew
          clear HS H2
          go_wp2
          go_region_held3 (fun w' => w'.cell? ⟨B, 0, none⟩ = some (.bool true) ∧ w'.cell? ⟨B, 1, none⟩ = some (.int .i64 kx) ∧ w'.cell? ⟨B, 2, none⟩ = some (.int .i64 ky) ∧ w'.cell? ⟨B, 3, none⟩ = some (.int .i64 kr)) (go_keep)
            (first
              | (go_at_call 8; refine (HS2.out _).mono ?_; rintro e w5 ⟨rfl, hf5⟩
                 have hO5 := H3.out.quiet hf5
                 have b0 := hO5.cell 0
                 have b1 := hO5.cell 1
                 have b2 := hO5.cell 2
                 have b3 := hO5.cell 3
                 simp at b0 b1 b2 b3
                 have H5 : Hid (Own w w5 (Cells B #[.bool true, .int .i64 kx, .int .i64 ky, .int .i64 kr] 23 :: [])) := hO5
                 clear hO5 hf5)
              | (go_at_call 9; refine (HC.out _ _ H6.out).mono ?_; rintro e w7 ⟨n2, a2, c2, rfl, hl2, hh2, hO7⟩
                 have d0 := hO7.cell 0
                 have d1 := hO7.cell 1
                 have d2 := hO7.cell 2
                 have d3 := hO7.cell 3
                 simp at d0 d1 d2 d3
                 have H7 : Hid (Own w w7 (Cells B #[.bool true, .int .i64 kx, .int .i64 ky, .int .i64 kr] 23 :: [])) := hO7
                 clear hO7)
              | (go_at_call 9; refine (HC.out _ _ H5.out).mono ?_; rintro e w6 ⟨n1, a1, c1, rfl, hl1, hh1, hO6⟩
                 have e0 := hO6.cell 0
                 have e1 := hO6.cell 1
                 have e2 := hO6.cell 2
                 have e3 := hO6.cell 3
                 simp at e0 e1 e2 e3
                 have H6 : Hid (Own w w6 (Cells B #[.bool true, .int .i64 kx, .int .i64 ky, .int .i64 kr] 23 :: [])) := hO6
                 clear hO6))
          have HF : Hid (Fr Nobody w w7) := H7.out.fr
          clear H7 H6 H5 H3
          go_wp2
          go_ret
          exact ⟨by simp, HF.out⟩
        · clear HS HC
          go_wp2
          have q0 := fun f => H2.out.frCells f 0
          have q1 := fun f => H2.out.frCells f 1
          have q2 := fun f => H2.out.frCells f 2
          have q3 := fun f => H2.out.frCells f 3
          simp at q0 q1 q2 q3
          refine wp_region_fr (by kernel_rfl) (by kernel_rfl) ?_
          repeat (with_reducible refine wpQuiet_step (fun K hK => ?_)
                  go_simp
                  (refine hK _ ?_; clear hK K))
          refine wpQuiet_nil ?_
          rintro w' ⟨f, rfl⟩
          have HF : Hid (Fr Nobody w f.val) := H2.out.fr.trans f.fr
          clear H2 q0 q1 q2 q3
          go_wp2
          go_ret
          exact ⟨rfl, HF.out⟩
      · clear HS HC
        go_wp2
        have q0 := fun f => H2.out.frCells f 0
        have q1 := fun f => H2.out.frCells f 1
        have q2 := fun f => H2.out.frCells f 2
        have q3 := fun f => H2.out.frCells f 3
        simp at q0 q1 q2 q3
        refine wp_region_fr (by kernel_rfl) (by kernel_rfl) ?_
        repeat (with_reducible refine wpQuiet_step (fun K hK => ?_)
                go_simp
                (refine hK _ ?_; clear hK K))
        refine wpQuiet_nil ?_
        rintro w' ⟨f, rfl⟩
        have HF : Hid (Fr Nobody w f.val) := H2.out.fr.trans f.fr
        clear H2 q0 q1 q2 q3
        go_wp2
        go_ret
        exact ⟨rfl, HF.out⟩
    · clear HS HC
      go_wp2
      have q0 := fun f => H2.out.frCells f 0
      have q1 := fun f => H2.out.frCells f 1
      have q2 := fun f => H2.out.frCells f 2
      have q3 := fun f => H2.out.frCells f 3
      simp at q0 q1 q2 q3
      refine wp_region_fr (by kernel_rfl) (by kernel_rfl) ?_
      repeat (with_reducible refine wpQuiet_step (fun K hK => ?_)
              go_simp
              (refine hK _ ?_; clear hK K))
      refine wpQuiet_nil ?_
      rintro w' ⟨f, rfl⟩
      have HF : Hid (Fr Nobody w f.val) := H2.out.fr.trans f.fr
      clear H2 q0 q1 q2 q3
      go_wp2
      go_ret
      exact ⟨rfl, HF.out⟩
  · clear HS HC
    go_wp2
    have q0 := fun f => H2.out.frCells f 0
    have q1 := fun f => H2.out.frCells f 1
    have q2 := fun f => H2.out.frCells f 2
    have q3 := fun f => H2.out.frCells f 3
    simp at q0 q1 q2 q3
    refine wp_region_fr (by kernel_rfl) (by kernel_rfl) ?_
    repeat (with_reducible refine wpQuiet_step (fun K hK => ?_)
            go_simp
            (refine hK _ ?_; clear hK K))
    refine wpQuiet_nil ?_
    rintro w' ⟨f, rfl⟩
    have HF : Hid (Fr Nobody w f.val) := H2.out.fr.trans f.fr
    clear H2 q0 q1 q2 q3
    go_wp2
    go_ret
    exact ⟨rfl, HF.out⟩
theorem viewAround_walk (px : Int) (w1 : (Lit.int .i32 px).wf = true) (py : Int) (w2 : (Lit.int .i32 py).wf = true) (rd : Int) (w3 : (Lit.int .i64 rd).wf = true) (w : World) : Calls Try.prog 3 #[.int .i32 px, .int .i32 py, .int .i64 rd] w fun e w' => e = .returned (.bool true) ∧ Below w.heap.size w w' := by
  refine (viewAround_fr w px py rd (ok32_rngV w1) (ok32_rngV w2)).mono ?_
  rintro e w' ⟨rfl, hf⟩
  exact ⟨rfl, hf.below (Nat.le_refl _) (fun _ _ h => h)⟩
set_option maxRecDepth 100000 in
theorem viewAround_lifted (os : Os) (started : os.Started) (H : Type) (enc : TypeId × Value → H) :
    ReturnsInHanded {} Try.checked os 3 .any (Rows.viewAroundSpec.pre6 enc Try.prog Try.f3 Rows.viewAroundRow.domain false) (Rows.viewAroundSpec.post enc Try.prog Try.f3 false true false false) := by
  refine returnsInHanded_of_change (C := Try.checked) own started (by kernel_rfl) Try.func3
    (ChangeSpec.witness6 (enc := enc) (C := Try.checked) false ⟨#[], #[.int .i32 0, .int .i32 0, .int .i64 0], []⟩ 8 (by kernel_rfl) (by kernel_rfl) (by kernel_rfl) (by kernel_rfl)) ?_
  intro W base args ds gs before hval0 hW hcnd _
  have hval : ∀ (j : Nat) t v, Try.f3.params[j]? = some t → args[j]? = some v → Value.okWide Try.prog W .any base t v := hval0
  have hW' := hW
  obtain ⟨p, q, hA0, hV, rfl, hfz, hnd⟩ := hW
  have hA : DataW.TrodAll enc Try.prog W 0 (fun _ => true) true Try.f3.params.toList args.toList ds p := hA0
  rw [Try.params3] at hA hval
  obtain ⟨v0, vs0, d0, ds0, p0, q0, hargs, rfl, rfl, h0, r0⟩ := trodAll_cons hA
  obtain ⟨v1, vs1, d1, ds1, p1, q1, rfl, rfl, rfl, h1, r1⟩ := trodAll_cons r0
  obtain ⟨v2, vs2, d2, ds2, p2, q2, rfl, rfl, rfl, h2, r2⟩ := trodAll_cons r1
  obtain ⟨rfl, rfl, rfl⟩ := trodAll_nil r2
  obtain rfl : args = #[v0, v1, v2] := by cases args; simp_all
  obtain ⟨rfl, rfl⟩ := trodVars_none hV
  obtain ⟨a0, rfl, rfl, rfl, w0⟩ := open_int Try.underlying21 (hval 0 21 v0 rfl rfl) h0
  obtain ⟨a1, rfl, rfl, rfl, w1⟩ := open_int Try.underlying21 (hval 1 21 v1 rfl rfl) h1
  obtain ⟨a2, rfl, rfl, rfl, w2⟩ := open_int Try.underlying3 (hval 2 3 v2 rfl rfl) h2
  clear hA0 hval0
  refine (viewAround_walk a0 w0 a1 w1 a2 w2 W).mono fun e W' ⟨he, bel⟩ => ?_
  subst he
  exact ⟨_, rfl, _, _, _, [], _, [], hW', trodAll_mk1 (shut_bool Try.underlying4 _), (trodAll_cons_mk (shut_int Try.underlying21 w0) (trodAll_cons_mk (shut_int Try.underlying21 w1) (trodAll_cons_mk (shut_int Try.underlying3 w2) trodAll_mk0))), rfl, bel.frame _, fun h => by cases h⟩

theorem viewAround_holds : Rows.ViewAroundSaid :=
  OpenClaim.holds_of_wide 3 Try.f3 rfl rfl rfl rfl rfl rfl rfl ⟨rfl, rfl, rfl, rfl, rfl⟩ rfl rfl rfl rfl rfl (by kernel_rfl) Try.func3 (by kernel_rfl)
    (of_decide_eq_true (by kernel_rfl)) (by unfold Func.isWrapper; first | (rw [if_pos (by decide +kernel)]; kernel_rfl) | (rw [if_neg (by decide +kernel)]; exact ⟨rfl, rfl⟩))
    (fun os started H enc _ => viewAround_lifted os started H enc)

end Go.Proofs.Ythokgjkgfolojab
