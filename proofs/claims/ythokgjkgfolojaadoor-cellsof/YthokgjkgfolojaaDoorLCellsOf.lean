/-
  Every place has its cell, and lies in it: CellsOf returns true, whatever its argument, where the table of the components lies as the program's text lays it, and changes nothing that was there.
-/
import Derived.Test.YthokgjkgfolojaaDoorCel
import Derived.OpenShut
import Derived.SevenTiedAt
namespace Go.Proofs.YthokgjkgfolojaaDoor
open Go.ChangeShapes Go.WideShapes Go.ChangeAt Go.RowKit
set_option linter.unusedVariables false
set_option maxRecDepth 100000

set_option maxHeartbeats 4000000 in
theorem cellsOf_fr (w : World) (ht : Tab w) (x : Int) (hx : I32 x) : Calls Tryd.prog 3 #[.int .i32 x] w fun e w' => e = .returned (.bool true) ∧ Fr Nobody w w' := by
  have HA : Hid (Calls _ _ _ _ _) := awake16 w ht
  obtain ⟨n, hn⟩ : ∃ n, n = cel x := ⟨_, rfl⟩
  have HO : Hid (Calls Tryd.prog 8 #[.int .i32 x] w fun e w' => e = .returned (.int .i64 n) ∧ w' = w) := by rw [hn]; exact of_ok w x hx
  have HR : Hid (∀ W, Calls Tryd.prog 10 #[.int .i32 x] W fun e w' => e = .returned (.int .i64 n) ∧ w' = W) := fun W => by rw [hn]; exact rof_ok W x hx
  have b := cel_lo hx
  rw [← hn] at b
  have c1 : n * 16384 ≤ x := by rw [hn]; unfold cel; omega
  have c2 : x < (n + 1) * 16384 := by rw [hn]; unfold cel; omega
  obtain ⟨b1, b2⟩ := b
  obtain ⟨x1, x2⟩ := hx
  clear hn ht
  go_enter Tryd.func3, Tryd.ntmps3
  go_wp2_with fail
  refine HO.out.mono ?_
  rintro e w1 ⟨rfl, rfl⟩
  go_wp2_with fail
  refine HA.out.mono ?_
  rintro e w2 ⟨rfl, hf⟩
  have HF : Hid (Fr Nobody w1 w2) := hf
  clear hf HA
  go_wp2_with fail
  refine (HR.out _).mono ?_
  rintro e w3 ⟨rfl, rfl⟩
  go_wp2
  all_goals
    go_ret
    exact ⟨rfl, HF.out⟩
theorem cellsOf_walk (w : World) (ht : Tab w) (a0 : Int) (w0 : (Lit.int .i32 a0).wf = true) : Calls Tryd.prog 3 #[.int .i32 a0] w fun e w' => e = .returned (.bool true) ∧ Below w.heap.size w w' := by
  have h : I32 a0 := by
    unfold I32
    simpa [Lit.wf, IntKind.min, IntKind.max, IntKind.signed, IntKind.bits] using w0
  refine (cellsOf_fr w ht a0 h).mono ?_
  rintro e w' ⟨rfl, hf⟩
  exact ⟨rfl, hf.below (Nat.le_refl _) (fun _ _ h => h)⟩
theorem cellsOf_lifted (os : Os) (started : os.Started) (H : Type) (enc : TypeId × Value → H) :
    ReturnsInHanded {} Tryd.checked os 3 .any (fun w args => (Rows.cellsOfSpec.pre enc Tryd.prog Tryd.f3 [] false w args ∧ laidMetH Tryd.prog laid1 w) ∧ sizedMet enc Tryd.prog Tryd.f3 (OpenSpec.ofChange Rows.cellsOfSpec) false w args) (Rows.cellsOfSpec.post enc Tryd.prog Tryd.f3 false true false false) := by
  refine returnsInHanded_of_change_and (C := Tryd.checked) (X := fun w _ => laidMetH Tryd.prog laid1 w) (fun _ _ _ hh h => h.of_heap hh) own started (by kernel_rfl) Tryd.func3
    (ChangeSpec.witness_shaped (enc := enc) (C := Tryd.checked) (os := os) (X := fun w _ => laidMetH Tryd.prog laid1 w) false (World.doorLaid Tryd.prog 400 os) #[.int .i32 0] 8 rfl (World.shaped_of_RefB (by kernel_rfl) (by kernel_rfl)) (by kernel_rfl) (by kernel_rfl) (by kernel_rfl) (door_met os _)) ?_
  intro W base args ds gs before hval0 hW _ _ hL _
  have hval : ∀ (j : Nat) t v, Tryd.f3.params[j]? = some t → args[j]? = some v → Value.okWide Tryd.prog W .any base t v := hval0
  have hW' := hW
  obtain ⟨p, q, hA0, hV, rfl, hfz, hnd⟩ := hW
  have hA : DataW.TrodAll enc Tryd.prog W 0 (fun _ => true) true Tryd.f3.params.toList args.toList ds p := hA0
  rw [Tryd.params3] at hA hval
  obtain ⟨v0, vs0, d0, ds0, p0, q0, hargs, rfl, rfl, h0, r0⟩ := trodAll_cons hA
  obtain ⟨rfl, rfl, rfl⟩ := trodAll_nil r0
  obtain rfl : args = #[v0] := by cases args; simp_all
  obtain ⟨rfl, rfl⟩ := trodVars_none hV
  obtain ⟨a0, rfl, rfl, rfl, w0⟩ := open_int Tryd.underlying21 (hval 0 21 v0 rfl rfl) h0
  clear hA0 hval0
  refine (cellsOf_walk W (of_laid hL) a0 w0).mono fun e W' ⟨he, bel⟩ => ?_
  subst he
  exact ⟨_, rfl, _, _, _, [], _, [], hW', trodAll_mk1 (shut_bool Tryd.underlying4 _), (trodAll_cons_mk (shut_int Tryd.underlying21 w0) trodAll_mk0), rfl, bel.frame _, fun h => by cases h⟩

theorem cellsOf_row : Rows.CellsOfSaid :=
  OpenClaim.holds_of_wide 3 Tryd.f3 rfl rfl rfl rfl rfl rfl rfl ⟨rfl, rfl, rfl, rfl, rfl⟩ rfl rfl rfl rfl rfl (by kernel_rfl) Tryd.func3 (by kernel_rfl)
    (of_decide_eq_true (by kernel_rfl)) (by unfold Func.isWrapper; first | (rw [if_pos (by decide +kernel)]; kernel_rfl) | (rw [if_neg (by decide +kernel)]; exact ⟨rfl, rfl⟩))
    (fun os started H enc _ => cellsOf_lifted os started H enc)

theorem cellsOf_holds : Rows.CellsOfCardSaid :=
  Claim7.holds_tied_plain_at .later [] [.data] true (true, "57f2681be1c13929572066f5f1e9bb9775a07279498cf8f2992ae601d68506ba") false
    cellsOf_row (fun _ h => by cases h) (by kernel_rfl) (fun _ h => by cases h) cellsOf_row_tie rfl ⟨rfl, rfl⟩ (by kernel_rfl) rfl
    (fun f fn hf hfn => by
      obtain rfl : f = 3 := Option.some.inj ((show Tryd.prog.funcNamed "pinnace/pinnacelaw16.CellsOf" = some 3 by kernel_rfl).symm.trans hf) |>.symm
      obtain rfl : fn = Tryd.f3 := (Option.some.inj (Tryd.func3.symm.trans hfn)).symm
      exact ⟨by kernel_rfl, fun j t ht => by
        rw [Tryd.params3] at ht
        have hm : t ∈ [21] := by simpa using Array.mem_of_getElem? ht
        have hall : ([21].all fun u => !Tryd.prog.wantsStandIn u) = true := by kernel_rfl
        exact (show Tryd.prog.wantsStandIn t = false by simpa using List.all_eq_true.1 hall t hm)⟩)
    (by kernel_rfl)

end Go.Proofs.YthokgjkgfolojaaDoor
