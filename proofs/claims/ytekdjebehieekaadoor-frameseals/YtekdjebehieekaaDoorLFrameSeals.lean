/-
  For every body (its first 600 bytes) Seal is its frame, Open reads it out of it again, and it comes back untouched: FrameSeals returns true, whatever its argument, where the table of the sum lies as the program's text lays it, and changes nothing that was there.
-/
import Derived.Test.YtekdjebehieekaaDoorGd
import Derived.Test.YtekdjebehieekaaDoorGk
namespace Go.Proofs.YtekdjebehieekaaDoor
open Go.ChangeShapes Go.WideShapes Go.ChangeAt Go.RowKit
set_option linter.unusedVariables false

set_option maxHeartbeats 2000000 in
set_option maxRecDepth 100000 in
theorem frameSeals_main (w : World) (ao : Option Addr) (len cap m : Nat) (P : List Nat) (h : In w ao len cap P) (hmax : len ≤ maxLen) (ht : Tab w) (hm : min (len : Int) 600 = (m : Int)) (hml : m ≤ len) (hm2 : m ≤ 600) :
    Calls Tryd.prog 4 #[.slice ao len cap] w fun e w' => e = .returned (.bool true) ∧ Fr Nobody w w' := by
  have HC := h.cut m hml
  have hle := h.le
  have HI : Hid (In w ao m cap (P.take m)) := HC
  have HT : Hid (Tab w) := ht
  unfold maxLen at hmax
  generalize P.take m = R at *
  clear h HC ht
  go_enter Tryd.func4, Tryd.ntmps4
  go_wp2_with fail
  refine (awake_any w HT.out).mono ?_
  rintro e w1 ⟨rfl, hf⟩
  have HF : Hid _ := hf
  clear hf
  go_wp2_with fail
  refine (spare_any w1 ao cap m R (HI.out.quiet HF.out) (by omega)).mono ?_
  rintro e w2 ⟨g, cp, rfl, ho2, hf2⟩
  have HS : Hid (Sp w2 w1.heap.size g m cp R) := ⟨ho2, HI.out.eqn, HI.out.byt⟩
  have HF2 : Hid (Fr Nobody w w2) := HF.out.trans hf2
  clear ho2 hf2
  go_wp2_with fail
  refine (seal_ok w2 _ cp m R HS.out.in' (by omega) (HT.out.quiet HF2.out)).mono ?_
  rintro e w3 ⟨g3, c3, rfl, ho3, hf3⟩
  have H3 : Hid (In w3 (some ⟨g3, 0, none⟩) (m + 4) c3 (frm R)) := In.of_row ho3 (by rw [length_frm, HI.out.eqn]) (frm_byte R HI.out.byt)
  have HF3 : Hid (Fr Nobody w w3) := HF2.out.trans hf3
  have HS3 : Hid _ := HS.out.quiet hf3
  clear ho3 hf3
  go_wp2_with fail
  refine (rseal_ok w3 ao cap m R (HI.out.quiet HF3.out) (by omega)).mono ?_
  rintro e w4 ⟨g4, c4, rfl, ho4, hf4⟩
  have H4 : Hid (In w4 (some ⟨g4, 0, none⟩) (m + 4) c4 (frm R)) := In.of_row ho4 (by rw [length_frm, HI.out.eqn]) (frm_byte R HI.out.byt)
  have HF4 : Hid (Fr Nobody w w4) := HF3.out.trans hf4
  have HS4 : Hid _ := HS3.out.quiet hf4
  have H34 : Hid _ := H3.out.quiet hf4
  clear ho4 hf4
  go_wp2_with fail
  refine (same_any w4 _ _ (frm R) H34.out.src H4.out.src).mono ?_
  rintro e w5 ⟨rfl, rfl⟩
  go_wp2_with fail
  refine (kept_any w5 _ g m cp ao cap R HS4.out (HI.out.quiet HF4.out) (by omega)).mono ?_
  rintro e w6 ⟨rfl, rfl⟩
  go_wp2_with fail
  obtain ⟨hop1, hop2⟩ := frm_opens R m HI.out.eqn
  refine (open_ok w6 _ c3 m _ H34.out (by omega) (HT.out.quiet HF4.out) hop1).mono ?_
  rintro e w7 ⟨v7, rfl, ho7, hf7, _⟩
  rw [hop2] at ho7
  have HF7 : Hid (Fr Nobody w w7) := HF4.out.trans hf7
  have HS7 : Hid (Src w7 v7 R.length (vrow R)) := by
    rw [HI.out.eqn]; exact Src.of_row ho7
  have HS8 : Hid _ := (HI.out.quiet HF7.out).src
  clear ho7 hf7 hop1 hop2
  go_wp2_with fail
  refine (same_any w7 _ _ R HS7.out HS8.out).mono ?_
  rintro e w8 ⟨rfl, rfl⟩
  go_wp2
  go_ret
  exact ⟨rfl, HF7.out⟩

theorem frameSeals_walk (w : World) (ht : Tab w) (a0 : Option Addr) (len0 cap0 : Nat) (z0 : List Int) (w0 : IsRow .u8 w a0 len0 cap0 z0) :
    Calls Tryd.prog 4 #[.slice a0 len0 cap0] w fun e w' => e = .returned (.bool true) ∧ Below w.heap.size w w' := by
  obtain ⟨hmax, P, hP⟩ := in_row w0
  have fin : Calls Tryd.prog 4 #[.slice a0 len0 cap0] w fun e w' => e = .returned (.bool true) ∧ Fr Nobody w w' := by
    exact frameSeals_main w a0 len0 cap0 (min len0 600) P hP hmax ht (by omega) (by omega) (by omega)
  refine fin.mono ?_
  rintro e w' ⟨rfl, hf⟩
  exact ⟨rfl, hf.below (Nat.le_refl _) (fun _ _ => id)⟩

theorem laidOut : laidOutB Tryd.prog = true := by kernel_rfl

set_option maxRecDepth 100000 in
theorem frameSeals_lifted (os : Os) (started : os.Started) (H : Type) (enc : TypeId × Value → H) :
    ReturnsInHanded {} Tryd.checked os 4 .any (fun w args => (Rows.frameSealsSpec.pre enc Tryd.prog Tryd.f4 [] false w args ∧ laidMetH Tryd.prog laid1 w) ∧ sizedMet enc Tryd.prog Tryd.f4 (OpenSpec.ofChange Rows.frameSealsSpec) false w args) (Rows.frameSealsSpec.post enc Tryd.prog Tryd.f4 false true false false) := by
  refine returnsInHanded_of_change_and (C := Tryd.checked) (X := fun w _ => laidMetH Tryd.prog laid1 w) (fun _ _ _ hh h => h.of_heap hh) own started (by kernel_rfl) Tryd.func4
    (ChangeSpec.witness_shaped (enc := enc) (C := Tryd.checked) (os := os) (X := fun w _ => laidMetH Tryd.prog laid1 w) false (World.doorLaid Tryd.prog 400 os) #[.slice none 0 0] 8 rfl (World.shaped_of_RefB (by kernel_rfl) (by kernel_rfl)) (by kernel_rfl) (by kernel_rfl) (by kernel_rfl) (door_met os _)) ?_
  intro W base args ds gs before hval0 hW _ _ hL _
  have hval : ∀ (j : Nat) t v, Tryd.f4.params[j]? = some t → args[j]? = some v → Value.okWide Tryd.prog W .any base t v := hval0
  have hW' := hW
  obtain ⟨p, q, hA0, hV, rfl, hfz, hnd⟩ := hW
  have hA : DataW.TrodAll enc Tryd.prog W 0 (fun _ => true) true Tryd.f4.params.toList args.toList ds p := hA0
  rw [Tryd.params4] at hA hval
  obtain ⟨v0, vs0, d0, ds0, p0, q0, hargs, rfl, rfl, h0, r0⟩ := trodAll_cons hA
  obtain ⟨rfl, rfl, rfl⟩ := trodAll_nil r0
  obtain rfl : args = #[v0] := by cases args; simp_all
  obtain ⟨rfl, rfl⟩ := trodVars_none hV
  obtain ⟨a0, len0, cap0, rfl⟩ := okWide_slice Tryd.underlying22 (hval 0 22 v0 rfl rfl)
  have k0 := h0
  have lt0 : ∀ x ∈ p0, x.block < W.heap.size := by obtain ⟨m, hm⟩ := k0; exact DataW.trod_lt m _ _ _ hm
  obtain ⟨z0, w0⟩ : ∃ zs, IsRow .u8 W a0 len0 cap0 zs := by
    obtain ⟨fuel, hf⟩ := h0
    rcases open_ints Tryd.underlying22 Tryd.underlying5 (by kernel_rfl) hf with ⟨hcs, _⟩ | ⟨x, l, c, zs, hcs, _, hl, hm, hz, _, hcell, hwz⟩
    · simp [Value.cells] at hcs
      obtain ⟨rfl, rfl, rfl⟩ := hcs
      exact ⟨[], .inl ⟨rfl, rfl, rfl, rfl⟩⟩
    · simp [Value.cells] at hcs
      obtain ⟨rfl, rfl, rfl⟩ := hcs
      exact ⟨zs, .inr ⟨_, rfl, hl, hm, by simpa using hz, hcell, hwz⟩⟩
  clear hA0 hval0
  refine (frameSeals_walk W (of_laid hL) a0 len0 cap0 z0 w0).mono fun e W' ⟨he, bel⟩ => ?_
  subst he
  exact ⟨_, rfl, _, _, _, [], _, [], hW', trodAll_mk1 (shut_bool Tryd.underlying4 _), (trodAll_cons_mk (Below.trod laidOut (by kernel_rfl) (of_decide_eq_true (by kernel_rfl)) k0 bel lt0) trodAll_mk0), rfl, bel.frame _, fun h => by cases h⟩

theorem frameSeals_row : Rows.FrameSealsSaid :=
  OpenClaim.holds_of_wide 4 Tryd.f4 rfl rfl rfl rfl rfl rfl rfl ⟨rfl, rfl, rfl, rfl, rfl⟩ rfl rfl rfl rfl rfl (by kernel_rfl) Tryd.func4 (by kernel_rfl)
    (of_decide_eq_true (by kernel_rfl)) (by unfold Func.isWrapper; first | (rw [if_pos (by decide +kernel)]; kernel_rfl) | (rw [if_neg (by decide +kernel)]; exact ⟨rfl, rfl⟩))
    (fun os started H enc _ => frameSeals_lifted os started H enc)

theorem frameSeals_holds : Rows.FrameSealsCardSaid :=
  Claim7.holds_tied_plain_at .later [] [.data] true (true, "dc3f316d42b1e05479d7fa2384e8bf57c16cf6ad2264c95d5d38ad7805788d4b") false
    frameSeals_row (fun _ h => by cases h) (by kernel_rfl) (fun _ h => by cases h) frameSeals_row_tie rfl ⟨rfl, rfl⟩ (by kernel_rfl) rfl
    (fun f fn hf hfn => by
      obtain rfl : f = 4 := Option.some.inj ((show Tryd.prog.funcNamed "pinnace/pinnacelaw03.FrameSeals" = some 4 by kernel_rfl).symm.trans hf) |>.symm
      obtain rfl : fn = Tryd.f4 := (Option.some.inj (Tryd.func4.symm.trans hfn)).symm
      exact ⟨by kernel_rfl, fun j t ht => by
        rw [Tryd.params4] at ht
        have hm : t ∈ [22] := by simpa using Array.mem_of_getElem? ht
        have hall : ([22].all fun u => !Tryd.prog.wantsStandIn u) = true := by kernel_rfl
        exact (show Tryd.prog.wantsStandIn t = false by simpa using List.all_eq_true.1 hall t hm)⟩)
    (by kernel_rfl)

end Go.Proofs.YtekdjebehieekaaDoor
