/-
  Of all components together List and Mask tell what the document's tell, and they come back untouched: SchemaLists returns true, whatever its argument, where the table of the components lies as the program's text lays it, and changes nothing that was there.
-/
import Derived.Test.YtegpkchmhhafnaaDoorSi
import Derived.Test.YtegpkchmhhafnaaDoorSm
namespace Go.Proofs.YtegpkchmhhafnaaDoor
open Go.ChangeShapes Go.WideShapes Go.ChangeAt Go.RowKit
set_option linter.unusedVariables false
set_option maxRecDepth 100000

set_option maxHeartbeats 4000000 in
theorem schemaLists_fr (w : World) (ht : Tab w) (ao : Option Addr) (len cap : Nat) (Z : List Cp) (hZ : Z.length = len) (hlc : len ≤ cap) (hcm : cap ≤ maxLen) (hc : Cs w ao Z) (hk : ∀ q ∈ Z, q.k < 256) :
    Calls Tryd.prog 3 #[.slice ao len cap] w fun e w' => e = .returned (.bool true) ∧ Fr Nobody w w' := by
  unfold maxLen at hcm
  have HT : Hid (Tab w) := ht
  have HZ : Hid (Z.length = len ∧ Cs w ao Z ∧ ∀ q ∈ Z, q.k < 256) := ⟨hZ, hc, hk⟩
  clear ht hZ hc hk
  obtain ⟨n, hn⟩ : ∃ n, n = min len 100 := ⟨_, rfl⟩
  have hmin : min (len : Int) 100 = (n : Int) := by omega
  have hn1 : n ≤ 100 := by omega
  have hn2 : n ≤ len := by omega
  clear hn
  · skip
    obtain ⟨M, hM⟩ : ∃ M, M = Z.take n := ⟨_, rfl⟩
    have HM : Hid (M.length = n ∧ Cs w ao M ∧ ∀ q ∈ M, q.k < 256) := by
      rw [hM]; exact ⟨by rw [List.length_take, HZ.out.1]; omega, HZ.out.2.1.take n, fun q hq => HZ.out.2.2 q (List.mem_of_mem_take hq)⟩
    clear hM HZ
    obtain ⟨X, hX⟩ : ∃ X, X = lst (-1) M := ⟨_, rfl⟩
    obtain ⟨Y, hY⟩ : ∃ Y, Y = msk M := ⟨_, rfl⟩
    have HXY : Hid (X = lst (-1) M ∧ Y = msk M) := ⟨hX, hY⟩
    clear hX hY
    have hxx : ((X : Int) == (X : Int)) = true := by simp
    have hyy : ((Y : Int) == (Y : Int)) = true := by simp
    go_enter Tryd.func3, Tryd.ntmps3
    go_wp2_with fail
    refine (awake5 w HT.out).mono ?_
    rintro e w1 ⟨rfl, hf1⟩
    have H1 : Hid (Own w w1 []) := Own.of_fr hf1
    clear hf1
    go_wp2_with fail
    refine (twin_any w w1 [] H1.out ao n _ M HM.out.1 (HM.out.2.1.quiet H1.out.fr) (by omega)).mono ?_
    rintro e w2 ⟨a2, c2, rfl, hO2⟩
    have H2 : Hid (Own w w2 [View 4 (.slice a2 n c2) n (ccat M)]) := hO2.view (by decide)
    clear hO2 H1
    have HC2 : Hid (Cs w2 a2 M ∧ Cs w2 ao M) := ⟨H2.out.cs HM.out.1, HM.out.2.1.quiet H2.out.fr⟩
    go_wp2_with fail
    refine (list_any w2 (HT.out.quiet H2.out.fr) a2 n c2 M HM.out.1 HC2.out.1 HM.out.2.2 (by omega)).mono ?_
    rw [← HXY.out.1]
    rintro e w3 ⟨rfl, hf3⟩
    have HF3 : Hid (Fr Nobody w2 w3) := hf3
    clear hf3
    go_wp2_with fail
    refine (rlist_any w3 ao n _ M HM.out.1 (HC2.out.2.quiet HF3.out) HM.out.2.2 (by omega)).mono ?_
    rw [← HXY.out.1]
    rintro e w4 ⟨rfl, hf4⟩
    have HF4 : Hid (Fr Nobody w2 w4) := HF3.out.trans hf4
    clear hf4 HF3
    go_wp2_with fail
    refine (mask_any w4 a2 n c2 M HM.out.1 (HC2.out.1.quiet HF4.out) HM.out.2.2 (by omega)).mono ?_
    rw [← HXY.out.2]
    rintro e w5 ⟨rfl, hf5⟩
    have HF5 : Hid (Fr Nobody w2 w5) := HF4.out.trans hf5
    clear hf5 HF4
    go_wp2_with fail
    refine (rmask_any w5 ao n _ M HM.out.1 (HC2.out.2.quiet HF5.out) HM.out.2.2 (by omega)).mono ?_
    rw [← HXY.out.2]
    rintro e w6 ⟨rfl, hf6⟩
    have HF6 : Hid (Fr Nobody w2 w6) := HF5.out.trans hf6
    clear hf6 HF5
    go_wp2_with fail
    refine (same_cs w6 a2 ao n c2 _ M (HC2.out.1.quiet HF6.out) (HC2.out.2.quiet HF6.out) HM.out.1 (by omega)).mono ?_
    rintro e w7 ⟨rfl, hf7⟩
    have HF7 : Hid (Fr Nobody w w7) := H2.out.fr.trans (HF6.out.trans hf7)
    clear hf7 HF6
    go_wp2
    go_ret
    exact ⟨rfl, HF7.out⟩
theorem schemaLists_walk (w : World) (ht : Tab w) (a0 : Option Addr) (len0 cap0 : Nat) (z0 : List Cp) (w0 : IsComps w a0 len0 cap0 z0) :
    Calls Tryd.prog 3 #[.slice a0 len0 cap0] w fun e w' => e = .returned (.bool true) ∧ Below w.heap.size w w' := by
  refine (schemaLists_fr w ht a0 len0 cap0 z0 w0.1 w0.2.1 w0.2.2.1 w0.cs.1 w0.cs.2).mono ?_
  rintro e w' ⟨rfl, hf⟩
  exact ⟨rfl, hf.below (Nat.le_refl _) (fun _ _ => id)⟩
theorem laidOut : laidOutB Tryd.prog = true := by kernel_rfl

set_option maxRecDepth 100000 in
theorem schemaLists_lifted (os : Os) (started : os.Started) (H : Type) (enc : TypeId × Value → H) :
    ReturnsInHanded {} Tryd.checked os 3 .any (fun w args => (Rows.schemaListsSpec.pre enc Tryd.prog Tryd.f3 [] false w args ∧ laidMetH Tryd.prog laid1 w) ∧ sizedMet enc Tryd.prog Tryd.f3 (OpenSpec.ofChange Rows.schemaListsSpec) false w args) (Rows.schemaListsSpec.post enc Tryd.prog Tryd.f3 false true false false) := by
  refine returnsInHanded_of_change_and (C := Tryd.checked) (X := fun w _ => laidMetH Tryd.prog laid1 w) (fun _ _ _ hh h => h.of_heap hh) own started (by kernel_rfl) Tryd.func3
    (ChangeSpec.witness_shaped (enc := enc) (C := Tryd.checked) (os := os) (X := fun w _ => laidMetH Tryd.prog laid1 w) false (World.doorLaid Tryd.prog 400 os) #[.slice none 0 0] 8 rfl (World.shaped_of_RefB (by kernel_rfl) (by kernel_rfl)) (by kernel_rfl) (by kernel_rfl) (by kernel_rfl) (door_met os _)) ?_
  intro W base args ds gs before hval0 hW _ _ hL _
  have hval : ∀ (j : Nat) t v, Tryd.f3.params[j]? = some t → args[j]? = some v → Value.okWide Tryd.prog W .any base t v := hval0
  have hW' := hW
  obtain ⟨p, q, hA0, hV, rfl, hfz, hnd⟩ := hW
  have hA : DataW.TrodAll enc Tryd.prog W 0 (fun _ => true) true Tryd.f3.params.toList args.toList ds p := hA0
  rw [Tryd.params3] at hA hval
  obtain ⟨v0, vs0, d0, ds0, p0, q0, hargs, rfl, rfl, h0, r0⟩ := trodAll_cons hA
  obtain ⟨rfl, rfl, rfl⟩ := trodAll_nil r0
  obtain rfl : args = #[v0] := by cases args; simp_all
  obtain ⟨rfl, rfl⟩ := trodVars_none hV
  obtain ⟨a0, len0, cap0, rfl⟩ := okWide_slice Tryd.underlying22 (hval 0 22 v0 rfl rfl)
  have k0 := h0
  have lt0 : ∀ x ∈ p0, x.block < W.heap.size := by obtain ⟨m, hm⟩ := k0; exact DataW.trod_lt m _ _ _ hm
  obtain ⟨z0, w0⟩ := open_comps (hval 0 22 _ rfl rfl) h0
  clear hA0 hval0
  refine (schemaLists_walk W (of_laid hL) a0 len0 cap0 z0 w0).mono fun e W' ⟨he, bel⟩ => ?_
  subst he
  exact ⟨_, rfl, _, _, _, [], _, [], hW', trodAll_mk1 (shut_bool Tryd.underlying4 _), (trodAll_cons_mk (Below.trod laidOut (by kernel_rfl) (of_decide_eq_true (by kernel_rfl)) k0 bel lt0) trodAll_mk0), rfl, bel.frame _, fun h => by cases h⟩

theorem schemaLists_row : Rows.SchemaListsSaid :=
  OpenClaim.holds_of_wide 3 Tryd.f3 rfl rfl rfl rfl rfl rfl rfl ⟨rfl, rfl, rfl, rfl, rfl⟩ rfl rfl rfl rfl rfl (by kernel_rfl) Tryd.func3 (by kernel_rfl)
    (of_decide_eq_true (by kernel_rfl)) (by unfold Func.isWrapper; first | (rw [if_pos (by decide +kernel)]; kernel_rfl) | (rw [if_neg (by decide +kernel)]; exact ⟨rfl, rfl⟩))
    (fun os started H enc _ => schemaLists_lifted os started H enc)

theorem schemaLists_holds : Rows.SchemaListsCardSaid :=
  Claim7.holds_tied_plain_at .later [] [.data] true (true, "3ebda4bf7fb83e641793aa45a42008650d22d7132c5ff8cf223b0628d803d692") false
    schemaLists_row (fun _ h => by cases h) (by kernel_rfl) (fun _ h => by cases h) schemaLists_row_tie rfl ⟨rfl, rfl⟩ (by kernel_rfl) rfl
    (fun f fn hf hfn => by
      obtain rfl : f = 3 := Option.some.inj ((show Tryd.prog.funcNamed "pinnace/pinnacelaw05.SchemaLists" = some 3 by kernel_rfl).symm.trans hf) |>.symm
      obtain rfl : fn = Tryd.f3 := (Option.some.inj (Tryd.func3.symm.trans hfn)).symm
      exact ⟨by kernel_rfl, fun j t ht => by
        rw [Tryd.params3] at ht
        have hm : t ∈ [22] := by simpa using Array.mem_of_getElem? ht
        have hall : ([22].all fun u => !Tryd.prog.wantsStandIn u) = true := by kernel_rfl
        exact (show Tryd.prog.wantsStandIn t = false by simpa using List.all_eq_true.1 hall t hm)⟩)
    (by kernel_rfl)

end Go.Proofs.YtegpkchmhhafnaaDoor
