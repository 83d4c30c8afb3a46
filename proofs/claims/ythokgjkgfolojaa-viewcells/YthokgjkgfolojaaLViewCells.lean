/-
  Of everything that may be a region it is told whether it is, and which cells it has; of every place whether it sees it: ViewCells returns true, whatever its arguments, and changes nothing that was there.
-/
import Derived.Test.YthokgjkgfolojaaVig
import Derived.Test.YthokgjkgfolojaaVih
import Derived.Test.YthokgjkgfolojaaVik
import Derived.Deep.RegionHeld3
import Derived.ProofKit
import Derived.OpenShut
namespace Go.Proofs.Ythokgjkgfolojaa
open Go.ChangeShapes Go.WideShapes Go.ChangeAt Go.RowKit
set_option linter.unusedVariables false
set_option maxRecDepth 100000

theorem own : ownKnob Try.prog.godebug = none := by kernel_rfl
theorem eq_c2 (d : Nat) (a b a' b' : Int) (w : World) : (Op.equalIn (d + 1 + 1) 31 (.agg #[.int .i64 a, .int .i64 b]) (.agg #[.int .i64 a', .int .i64 b'])).run Try.prog w = .ok ((a == a') && (b == b')) w := by
  have hi : ∃ i, Try.prog.info? 3 = some i := by
    have : (Try.prog.info? 3).isSome = true := by kernel_rfl
    exact Option.isSome_iff_exists.1 this
  obtain ⟨i, hi⟩ := hi
  have c1 : Try.prog.cellsOf 3 = 1 := by kernel_rfl
  have hz : (Try.prog.info? 3).map (·.size) = some 1 := by kernel_rfl
  have hu := Try.underlying3
  rw [run_equalIn_array w (d + 1) _ _ Try.underlying31 hi]
  simp only [Op.eqItems, show List.range 2 = [0, 1] from rfl, c1]
  cases ha : (a == a') <;> cases hb : (b == b') <;> go_simp
theorem Own.c2at {w0 w : World} {l : List Thing} {ao : Option Addr} {cap : Nat} {R : List Cl2} (h : Own w0 w (CRow ao cap R :: l)) {j : Nat} {c : Cl2} (hc : R[j]? = some c) : ∃ g, ao = some ⟨g, 0, none⟩ ∧ w.cell? ⟨g, j * 2, none⟩ = some (.int .i64 c.1) ∧ w.cell? ⟨g, j * 2 + 1, none⟩ = some (.int .i64 c.2) := by
  have hj := (List.getElem?_eq_some_iff.1 hc).1
  obtain ⟨g, cp, hv, _⟩ := row_shape h.row (by omega)
  have hva := (Value.slice.inj hv).1
  subst hva
  have hr := h.row
  refine ⟨g, rfl, ?_, ?_⟩
  · rw [hr.cellAt _ (by omega)]
    exact cat_at cl2 2 (fun _ => rfl) R j 0 c hc (by decide)
  · rw [hr.cellAt _ (by omega)]
    exact cat_at cl2 2 (fun _ => rfl) R j 1 c hc (by decide)
set_option maxHeartbeats 32000000 in
theorem viewCells_fr (w : World) (on : Bool) (x y r px py : Int) (hpx : I32 px) (hpy : I32 py) : Calls Try.prog 3 #[.agg #[.bool on, .int .i64 x, .int .i64 y, .int .i64 r], .int .i32 px, .int .i32 py] w fun e w' => e = .returned (.bool true) ∧ Fr Nobody w w' := by
  obtain ⟨bo, hbo⟩ : ∃ bo, bo = hasC on x y r (cel px) (cel py) := ⟨_, rfl⟩
  obtain ⟨er, her⟩ : ∃ er, er = erR x y r := ⟨_, rfl⟩
  have S1 : Hid (∀ W, Calls Try.prog 9 #[.agg #[.bool on, .int .i64 x, .int .i64 y, .int .i64 r], .int .i32 px, .int .i32 py] W fun e w' => e = .returned (.bool bo) ∧ Fr Nobody W w') := fun W => by rw [hbo]; exact sees_ok W on x y r px py hpx hpy
  have S2 : Hid (∀ W, Calls Try.prog 10 #[.agg #[.bool on, .int .i64 x, .int .i64 y, .int .i64 r], .int .i32 px, .int .i32 py] W fun e w' => e = .returned (.bool bo) ∧ Fr Nobody W w') := fun W => by rw [hbo]; exact rsees_ok W on x y r px py hpx hpy
  have K1 : Hid (∀ W, Calls Try.prog 7 #[.agg #[.bool on, .int .i64 x, .int .i64 y, .int .i64 r]] W fun e w' => e = .returned (.int .i64 er) ∧ Fr Nobody W w') := fun W => by rw [her]; exact check_ok W on x y r
  have K2 : Hid (∀ W, Calls Try.prog 8 #[.agg #[.bool on, .int .i64 x, .int .i64 y, .int .i64 r]] W fun e w' => e = .returned (.int .i64 er) ∧ Fr Nobody W w') := fun W => by rw [her]; exact rcheck_ok W on x y r
  have hA := (Own.start w).allocC #[.bool on, .int .i64 x, .int .i64 y, .int .i64 r] 23
  have HA : Hid (Own w _ _) := hA
  have HAW : Hid (Calls _ _ _ _ _) := awake17 (w.alloc (.cells #[.bool on, .int .i64 x, .int .i64 y, .int .i64 r] 23))
  clear hA hbo her hpx hpy
  go_enter Try.func3, Try.ntmps3
  go_wp2_with fail
  refine HAW.out.mono ?_
  rintro e w1 ⟨rfl, hf⟩
  have hB := HA.out.quiet hf
  generalize w.heap.size = B at *
  have H0 : Hid (Own w w1.drew (Cells B #[.bool on, .int .i64 x, .int .i64 y, .int .i64 r] 23 :: [])) := hB.drew
  have q0 := hB.cell 0
  have q1 := hB.cell 1
  have q2 := hB.cell 2
  have q3 := hB.cell 3
  simp at q0 q1 q2 q3
  have HC1 : Hid (∀ W l, Own w W l → Calls Try.prog 5 #[.agg #[.bool on, .int .i64 x, .int .i64 y, .int .i64 r]] W fun e w' => ∃ (R : List Cl2) (n : Nat) (ao : Option Addr) (cap : Nat), e = .returned (.slice ao n cap) ∧ n = R.length ∧ AllC on x y r R ∧ Own w w' (CRow ao cap R :: l)) := fun W l h => (cells_ok W on x y r w l h).mono (by
    rintro e w' ⟨R, ao, cap, rfl, h1, h2⟩
    exact ⟨R, _, ao, cap, rfl, rfl, h1, h2⟩)
  have HC2 : Hid (∀ W l, Own w W l → Calls Try.prog 6 #[.agg #[.bool on, .int .i64 x, .int .i64 y, .int .i64 r]] W fun e w' => ∃ (R : List Cl2) (n : Nat) (ao : Option Addr) (cap : Nat), e = .returned (.slice ao n cap) ∧ n = R.length ∧ AllC on x y r R ∧ Own w w' (CRow ao cap R :: l)) := fun W l h => (rcells_ok W on x y r w l h).mono (by
    rintro e w' ⟨R, ao, cap, rfl, h1, h2⟩
    exact ⟨R, _, ao, cap, rfl, rfl, h1, h2⟩)
  clear hf hB HA HAW
  go_wp2_with fail
  go_region_held3 (fun w' => w'.cell? ⟨B, 0, none⟩ = some (.bool on) ∧ w'.cell? ⟨B, 1, none⟩ = some (.int .i64 x) ∧ w'.cell? ⟨B, 2, none⟩ = some (.int .i64 y) ∧ w'.cell? ⟨B, 3, none⟩ = some (.int .i64 r)) (go_keep)
    (first
      | (go_at_call 5; refine (HC1.out _ _ H0.out).mono ?_; rintro e w5 ⟨R, n, a1, c1, rfl, hn1, hC1, hO5⟩
         have b0 := hO5.two.cell 0
         have b1 := hO5.two.cell 1
         have b2 := hO5.two.cell 2
         have b3 := hO5.two.cell 3
         simp at b0 b1 b2 b3
         have HN1 : Hid (n = R.length) := hn1
         have HL1 : Hid (AllC on x y r R) := hC1
         have H5 : Hid (Own w w5 (CRow a1 c1 R :: Cells B #[.bool on, .int .i64 x, .int .i64 y, .int .i64 r] 23 :: [])) := hO5
         clear hO5 hn1 hC1)
      | (go_at_call 6; refine (HC2.out _ _ H5.out).mono ?_; rintro e w6 ⟨R2, n2, a2, c2, rfl, hn2, hC2, hO6⟩
         have d0 := hO6.three.cell 0
         have d1 := hO6.three.cell 1
         have d2 := hO6.three.cell 2
         have d3 := hO6.three.cell 3
         simp at d0 d1 d2 d3
         have HN2 : Hid (n2 = R2.length) := hn2
         have HL2 : Hid (AllC on x y r R2) := hC2
         have H6 : Hid (Own w w6 (CRow a2 c2 R2 :: CRow a1 c1 R :: Cells B #[.bool on, .int .i64 x, .int .i64 y, .int .i64 r] 23 :: [])) := hO6
         clear hO6 hn2 hC2))
  have e1 : R2 = R := HL2.out.eq HL1.out
  subst e1
  have e2 : n2 = n := by rw [HN2.out, HN1.out]
  subst e2
  have hnl : n2 ≤ 289 := by rw [HN1.out]; exact HL1.out.small
  clear b0 b1 b2 b3 d0 d1 d2 d3 q0 q1 q2 q3 H5 H0 HC1 HC2 HL2 HN2
  have q0 := fun f => H6.out.three.frCells f 0
  have q1 := fun f => H6.out.three.frCells f 1
  have q2 := fun f => H6.out.three.frCells f 2
  have q3 := fun f => H6.out.three.frCells f 3
  simp at q0 q1 q2 q3
  go_wp2_with fail
  refine wp_region_fr (by kernel_rfl) (by kernel_rfl) ?_
  repeat (with_reducible refine wpQuiet_step (fun K hK => ?_)
          go_simp
          first
            | (refine hK _ ?_; clear hK K)
            | (apply Exists.intro
               refine ⟨fun _ => ?_, hK _ ?_⟩
               (first
                 | (go_at_call 7; with_reducible refine Calls.fr_of (K1.out _))
                 | (go_at_call 8; with_reducible refine Calls.fr_of (K2.out _))
                 | (go_at_call 9; with_reducible refine Calls.fr_of (S1.out _))
                 | (go_at_call 10; with_reducible refine Calls.fr_of (S2.out _)))
               clear hK K))
  refine wpQuiet_nil ?_
  rintro w' ⟨f, rfl⟩
  have H7 : Hid (Own w f.val (CRow a2 c2 R2 :: CRow a1 c1 R2 :: [])) := (H6.out.quiet f.fr).three.tail
  clear H6 q0 q1 q2 q3 S1 S2 K1 K2
  go_wp2
  go_loopw [41] (fun vi wr => ∃ j : Nat, j ≤ n2 ∧ vi = .int .i64 (j : Int) ∧ Own w wr (CRow a2 c2 R2 :: CRow a1 c1 R2 :: [])) (fun vi _ => n2 - (intOf vi).toNat)
  case atStart => exact ⟨0, Nat.zero_le _, rfl, H7.out⟩
  case round =>
    obtain ⟨j, hj, rfl, hO⟩ := hrel
    clear H7
    by_cases hlt : j < n2
    · have hlt' : (j : Int) < (n2 : Int) := by omega
      obtain ⟨c, hc⟩ : ∃ c, R2[j]? = some c := ⟨_, List.getElem?_eq_getElem (by rw [← HN1.out]; exact hlt)⟩
      obtain ⟨g2, hg2, k0, k1⟩ := hO.c2at hc
      obtain ⟨g1, hg1, k2, k3⟩ := hO.two.c2at hc
      obtain ⟨cx, cy⟩ := c
      simp only at k0 k1 k2 k3
      have HO : Hid (Own w wr _) := hO
      subst hg1 hg2
      clear hO hc
      have hE : ∀ W, (Op.equalIn 10000 31 (.agg #[.int .i64 cx, .int .i64 cy]) (.agg #[.int .i64 cx, .int .i64 cy])).run Try.prog W = .ok true W := fun W => by rw [eq_c2 9998]; simp
      go_wp2
      go_quiet (fail)
      have HO2 : Hid (Own w (wr.drewN nq) _) := HO.out.drewN nq
      clear HO k0 k1 k2 k3
      go_wp2
      go_roundw
      case rel => exact ⟨j + 1, by omega, by go_num, HO2.out⟩
      case measure => simp [intOf]; omega
    · have hlt' : ¬ (j : Int) < (n2 : Int) := by omega
      have HF : Hid (Fr Nobody w wr) := hO.fr
      clear hO
      go_wp2
      go_ret
      exact ⟨rfl, HF.out⟩
theorem viewCells_walk (on : Bool) (x y r : Int) (h1 : ok64 x) (h2 : ok64 y) (h3 : ok64 r) (px : Int) (w1 : (Lit.int .i32 px).wf = true) (py : Int) (w2 : (Lit.int .i32 py).wf = true) (w : World) : Calls Try.prog 3 #[.agg #[.bool on, .int .i64 x, .int .i64 y, .int .i64 r], .int .i32 px, .int .i32 py] w fun e w' => e = .returned (.bool true) ∧ Below w.heap.size w w' := by
  refine (viewCells_fr w on x y r px py (ok32_rngV w1) (ok32_rngV w2)).mono ?_
  rintro e w' ⟨rfl, hf⟩
  exact ⟨rfl, hf.below (Nat.le_refl _) (fun _ _ h => h)⟩
set_option maxRecDepth 100000 in
theorem viewCells_lifted (os : Os) (started : os.Started) (H : Type) (enc : TypeId × Value → H) :
    ReturnsInHanded {} Try.checked os 3 .any (Rows.viewCellsSpec.pre6 enc Try.prog Try.f3 Rows.viewCellsRow.domain false) (Rows.viewCellsSpec.post enc Try.prog Try.f3 false true false false) := by
  refine returnsInHanded_of_change (C := Try.checked) own started (by kernel_rfl) Try.func3
    (ChangeSpec.witness6 (enc := enc) (C := Try.checked) false ⟨#[], #[.agg #[.bool false, .int .i64 0, .int .i64 0, .int .i64 0], .int .i32 0, .int .i32 0], []⟩ 8 (by kernel_rfl) (by kernel_rfl) (by kernel_rfl) (by kernel_rfl)) ?_
  intro W base args ds gs before hval0 hW hcnd _
  have hval : ∀ (j : Nat) t v, Try.f3.params[j]? = some t → args[j]? = some v → Value.okWide Try.prog W .any base t v := hval0
  have hW' := hW
  obtain ⟨p, q, hA0, hV, rfl, hfz, hnd⟩ := hW
  have hA : DataW.TrodAll enc Try.prog W 0 (fun _ => true) true Try.f3.params.toList args.toList ds p := hA0
  rw [Try.params3] at hA hval
  obtain ⟨v0, vs0, d0, ds0, p0, q0, hargs, rfl, rfl, h0, r0⟩ := trodAll_cons hA
  obtain ⟨v1, vs1, d1, ds1, p1, q1, rfl, rfl, rfl, h1, r1⟩ := trodAll_cons r0
  obtain ⟨v2, vs2, d2, ds2, p2, q2, rfl, rfl, rfl, h2, r2⟩ := trodAll_cons r1
  obtain ⟨rfl, rfl, rfl⟩ := trodAll_nil r2
  obtain rfl : args = #[v0, v1, v2] := by cases args; simp_all
  obtain ⟨rfl, rfl⟩ := trodVars_none hV
  obtain ⟨on0, x0, y0, rr0, rfl, rfl, rfl, wx0, wy0, wr0⟩ := open_region (hval 0 23 v0 rfl rfl) h0
  obtain ⟨a1, rfl, rfl, rfl, w1⟩ := open_int Try.underlying21 (hval 1 21 v1 rfl rfl) h1
  obtain ⟨a2, rfl, rfl, rfl, w2⟩ := open_int Try.underlying21 (hval 2 21 v2 rfl rfl) h2
  clear hA0 hval0
  refine (viewCells_walk on0 x0 y0 rr0 wx0 wy0 wr0 a1 w1 a2 w2 W).mono fun e W' ⟨he, bel⟩ => ?_
  subst he
  exact ⟨_, rfl, _, _, _, [], _, [], hW', trodAll_mk1 (shut_bool Try.underlying4 _), (trodAll_cons_mk (shut_region wx0 wy0 wr0) (trodAll_cons_mk (shut_int Try.underlying21 w1) (trodAll_cons_mk (shut_int Try.underlying21 w2) trodAll_mk0))), rfl, bel.frame _, fun h => by cases h⟩

theorem viewCells_holds : Rows.ViewCellsSaid :=
  OpenClaim.holds_of_wide 3 Try.f3 rfl rfl rfl rfl rfl rfl rfl ⟨rfl, rfl, rfl, rfl, rfl⟩ rfl rfl rfl rfl rfl (by kernel_rfl) Try.func3 (by kernel_rfl)
    (of_decide_eq_true (by kernel_rfl)) (by unfold Func.isWrapper; first | (rw [if_pos (by decide +kernel)]; kernel_rfl) | (rw [if_neg (by decide +kernel)]; exact ⟨rfl, rfl⟩))
    (fun os started H enc _ => viewCells_lifted os started H enc)

end Go.Proofs.Ythokgjkgfolojaa
