/-
  For all bytes (the first 600 of them) Open tells whether they are a frame, and its body, as the document does, and they come back untouched: FrameOpens returns true, whatever its argument, where the table of the sum lies as the program's text lays it, and changes nothing that was there.
-/
import Derived.Test.YtekdjebehieekaaDoorGd
import Derived.Test.YtekdjebehieekaaDoorGk
namespace Go.Proofs.YtekdjebehieekaaDoor
open Go.ChangeShapes Go.WideShapes Go.ChangeAt Go.RowKit
set_option linter.unusedVariables false

theorem src_nil (w : World) : Src w (.slice none 0 0) ([] : List Nat).length (vrow []) := .inl ⟨rfl, rfl, rfl⟩
set_option maxHeartbeats 2000000 in
set_option maxRecDepth 100000 in
theorem frameOpens_short (w : World) (ao : Option Addr) (len cap m : Nat) (P : List Nat) (h : In w ao len cap P) (hmax : len ≤ maxLen) (ht : Tab w) (hm : min (len : Int) 600 = (m : Int)) (hml : m ≤ len) (hm2 : m ≤ 600) (hs : m < 4) :
    Calls Tryd.prog 5 #[.slice ao len cap] w fun e w' => e = .returned (.bool true) ∧ Fr Nobody w w' := by
  have HC := h.cut m hml
  have hle := h.le
  have HI : Hid (In w ao m cap (P.take m)) := HC
  have HT : Hid (Tab w) := ht
  unfold maxLen at hmax
  generalize P.take m = R at *
  clear h HC ht
  go_enter Tryd.func5, Tryd.ntmps5
  go_wp2_with fail
  refine (awake_any w HT.out).mono ?_
  rintro e w1 ⟨rfl, hf⟩
  have HF : Hid _ := hf
  clear hf
  go_wp2_with fail
  refine (spare_any w1 ao cap m R (HI.out.quiet HF.out) (by omega)).mono ?_
  rintro e w2 ⟨g, cp, rfl, ho2, hf2⟩
  have HS : Hid (Sp w2 w1.heap.size g m cp R) := ⟨ho2, HI.out.eqn, HI.out.byt⟩
  have HF2 : Hid (Fr Nobody w w2) := HF.out.trans hf2
  clear ho2 hf2
  go_wp2_with fail
  refine (open_short w2 _ cp m hs).mono ?_
  rintro e w3 ⟨rfl, rfl⟩
  go_wp2_with fail
  refine (ropen_short w3 ao cap m hs).mono ?_
  rintro e w4 ⟨rfl, rfl⟩
  have HF4 : Hid _ := HF2.out
  have HS4 : Hid _ := HS.out
  go_wp2_with fail
  refine (same_any w4 _ _ [] (src_nil _) (src_nil _)).mono ?_
  rintro e w5 ⟨rfl, rfl⟩
  go_wp2_with fail
  refine (kept_any w5 _ g m cp ao cap R HS4.out (HI.out.quiet HF4.out) (by omega)).mono ?_
  rintro e w6 ⟨rfl, rfl⟩
  go_wp2
  go_ret
  exact ⟨rfl, HF4.out⟩

set_option maxHeartbeats 2000000 in
set_option maxRecDepth 100000 in
theorem frameOpens_sum (w : World) (ao : Option Addr) (len cap d : Nat) (P : List Nat) (h : In w ao len cap P) (hmax : len ≤ maxLen) (ht : Tab w) (hm : min (len : Int) 600 = (((d + 4 : Nat)) : Int)) (hml : d + 4 ≤ len) (hm2 : d + 4 ≤ 600) (hq : bnum ((P.take (d + 4)).drop d) ≠ crc ((P.take (d + 4)).take d)) :
    Calls Tryd.prog 5 #[.slice ao len cap] w fun e w' => e = .returned (.bool true) ∧ Fr Nobody w w' := by
  have HC := h.cut (d + 4) hml
  have hle := h.le
  have HI : Hid (In w ao (d + 4) cap (P.take (d + 4))) := HC
  have HT : Hid (Tab w) := ht
  unfold maxLen at hmax
  generalize P.take (d + 4) = R at *
  have HQ : Hid _ := hq
  clear h HC ht hq
  have hm0 : min (len : Int) 600 = (d : Int) + 4 := by omega
  clear hm
  go_enter Tryd.func5, Tryd.ntmps5
  go_wp2_with fail
  refine (awake_any w HT.out).mono ?_
  rintro e w1 ⟨rfl, hf⟩
  have HF : Hid _ := hf
  clear hf
  go_wp2_with fail
  refine (spare_any w1 ao cap (d + 4) R (HI.out.quiet HF.out) (by omega)).mono ?_
  rintro e w2 ⟨g, cp, rfl, ho2, hf2⟩
  have HS : Hid (Sp w2 w1.heap.size g (d + 4) cp R) := ⟨ho2, HI.out.eqn, HI.out.byt⟩
  have HF2 : Hid (Fr Nobody w w2) := HF.out.trans hf2
  clear ho2 hf2
  go_wp2_with fail
  refine (open_sum w2 _ cp d R HS.out.in' (by omega) (HT.out.quiet HF2.out) HQ.out).mono ?_
  rintro e w3 ⟨rfl, rfl⟩
  go_wp2_with fail
  refine (ropen_sum w3 ao cap d R (HI.out.quiet HF2.out) (by omega) HQ.out).mono ?_
  rintro e w4 ⟨rfl, hf4⟩
  have HF4 : Hid (Fr Nobody w w4) := HF2.out.trans hf4
  have HS4 : Hid _ := HS.out.quiet hf4
  clear hf4
  go_wp2_with fail
  refine (same_any w4 _ _ [] (src_nil _) (src_nil _)).mono ?_
  rintro e w5 ⟨rfl, rfl⟩
  go_wp2_with fail
  refine (kept_any w5 _ g (d + 4) cp ao cap R HS4.out (HI.out.quiet HF4.out) (by omega)).mono ?_
  rintro e w6 ⟨rfl, rfl⟩
  go_wp2
  go_ret
  exact ⟨rfl, HF4.out⟩

set_option maxHeartbeats 2000000 in
set_option maxRecDepth 100000 in
theorem frameOpens_ok (w : World) (ao : Option Addr) (len cap d : Nat) (P : List Nat) (h : In w ao len cap P) (hmax : len ≤ maxLen) (ht : Tab w) (hm : min (len : Int) 600 = (((d + 4 : Nat)) : Int)) (hml : d + 4 ≤ len) (hm2 : d + 4 ≤ 600) (hq : bnum ((P.take (d + 4)).drop d) = crc ((P.take (d + 4)).take d)) :
    Calls Tryd.prog 5 #[.slice ao len cap] w fun e w' => e = .returned (.bool true) ∧ Fr Nobody w w' := by
  have HC := h.cut (d + 4) hml
  have hle := h.le
  have HI : Hid (In w ao (d + 4) cap (P.take (d + 4))) := HC
  have HT : Hid (Tab w) := ht
  unfold maxLen at hmax
  generalize P.take (d + 4) = R at *
  have HQ : Hid _ := hq
  clear h HC ht hq
  have hm0 : min (len : Int) 600 = (d : Int) + 4 := by omega
  clear hm
  go_enter Tryd.func5, Tryd.ntmps5
  go_wp2_with fail
  refine (awake_any w HT.out).mono ?_
  rintro e w1 ⟨rfl, hf⟩
  have HF : Hid _ := hf
  clear hf
  go_wp2_with fail
  refine (spare_any w1 ao cap (d + 4) R (HI.out.quiet HF.out) (by omega)).mono ?_
  rintro e w2 ⟨g, cp, rfl, ho2, hf2⟩
  have HS : Hid (Sp w2 w1.heap.size g (d + 4) cp R) := ⟨ho2, HI.out.eqn, HI.out.byt⟩
  have HF2 : Hid (Fr Nobody w w2) := HF.out.trans hf2
  clear ho2 hf2
  go_wp2_with fail
  refine (open_ok w2 _ cp d R HS.out.in' (by omega) (HT.out.quiet HF2.out) HQ.out).mono ?_
  rintro e w3 ⟨v3, rfl, ho3, hf3, _⟩
  have hlR : (R.take d).length = d := by rw [List.length_take, HI.out.eqn]; omega
  have HV3 : Hid (Src w3 v3 (R.take d).length (vrow (R.take d)) ∧ ∃ ao' cap', v3 = .slice ao' d cap' ∧ In w3 ao' d cap' (R.take d)) := by
    refine ⟨?_, In.of_own ho3 hlR (fun x hx => HI.out.byt x (List.mem_of_mem_take hx))⟩
    rw [hlR]; exact Src.of_row ho3
  have HF3 : Hid (Fr Nobody w w3) := HF2.out.trans hf3
  have HS3 : Hid _ := HS.out.quiet hf3
  clear ho3 hf3
  go_wp2_with fail
  refine (ropen_ok w3 ao cap d R (HI.out.quiet HF3.out) (by omega) HQ.out).mono ?_
  rintro e w4 ⟨v4, rfl, ho4, hf4⟩
  have HV4 : Hid (Src w4 v4 (R.take d).length (vrow (R.take d))) := by
    rw [hlR]; exact Src.of_row (row_low ho4 (Nat.zero_le _))
  have HF4 : Hid (Fr Nobody w w4) := HF3.out.trans hf4
  have HS4 : Hid _ := HS3.out.quiet hf4
  obtain ⟨a3, c3, hv3, hi3⟩ := HV3.out.2
  have HV5 : Hid (Src w4 v3 (R.take d).length (vrow (R.take d))) := by
    rw [hv3]; exact (hi3.quiet hf4).src
  clear ho4 hf4 hv3 hi3
  go_wp2_with fail
  refine (same_any w4 _ _ (R.take d) HV5.out HV4.out).mono ?_
  rintro e w5 ⟨rfl, rfl⟩
  go_wp2_with fail
  refine (kept_any w5 _ g (d + 4) cp ao cap R HS4.out (HI.out.quiet HF4.out) (by omega)).mono ?_
  rintro e w6 ⟨rfl, rfl⟩
  go_wp2
  go_ret
  exact ⟨rfl, HF4.out⟩

theorem frameOpens_walk (w : World) (ht : Tab w) (a0 : Option Addr) (len0 cap0 : Nat) (z0 : List Int) (w0 : IsRow .u8 w a0 len0 cap0 z0) :
    Calls Tryd.prog 5 #[.slice a0 len0 cap0] w fun e w' => e = .returned (.bool true) ∧ Below w.heap.size w w' := by
  obtain ⟨hmax, P, hP⟩ := in_row w0
  have fin : Calls Tryd.prog 5 #[.slice a0 len0 cap0] w fun e w' => e = .returned (.bool true) ∧ Fr Nobody w w' := by
    by_cases hs : min len0 600 < 4
    · exact frameOpens_short w a0 len0 cap0 (min len0 600) P hP hmax ht (by omega) (by omega) (by omega) hs
    · obtain ⟨d, hd⟩ : ∃ d, min len0 600 = d + 4 := ⟨min len0 600 - 4, by omega⟩
      by_cases hq : bnum ((P.take (d + 4)).drop d) = crc ((P.take (d + 4)).take d)
      · exact frameOpens_ok w a0 len0 cap0 d P hP hmax ht (by omega) (by omega) (by omega) hq
      · exact frameOpens_sum w a0 len0 cap0 d P hP hmax ht (by omega) (by omega) (by omega) hq
  refine fin.mono ?_
  rintro e w' ⟨rfl, hf⟩
  exact ⟨rfl, hf.below (Nat.le_refl _) (fun _ _ => id)⟩

theorem laidOut : laidOutB Tryd.prog = true := by kernel_rfl

set_option maxRecDepth 100000 in
theorem frameOpens_lifted (os : Os) (started : os.Started) (H : Type) (enc : TypeId × Value → H) :
    ReturnsInHanded {} Tryd.checked os 5 .any (fun w args => (Rows.frameOpensSpec.pre enc Tryd.prog Tryd.f5 [] false w args ∧ laidMetH Tryd.prog laid1 w) ∧ sizedMet enc Tryd.prog Tryd.f5 (OpenSpec.ofChange Rows.frameOpensSpec) false w args) (Rows.frameOpensSpec.post enc Tryd.prog Tryd.f5 false true false false) := by
  refine returnsInHanded_of_change_and (C := Tryd.checked) (X := fun w _ => laidMetH Tryd.prog laid1 w) (fun _ _ _ hh h => h.of_heap hh) own started (by kernel_rfl) Tryd.func5
    (ChangeSpec.witness_shaped (enc := enc) (C := Tryd.checked) (os := os) (X := fun w _ => laidMetH Tryd.prog laid1 w) false (World.doorLaid Tryd.prog 400 os) #[.slice none 0 0] 8 rfl (World.shaped_of_RefB (by kernel_rfl) (by kernel_rfl)) (by kernel_rfl) (by kernel_rfl) (by kernel_rfl) (door_met os _)) ?_
  intro W base args ds gs before hval0 hW _ _ hL _
  have hval : ∀ (j : Nat) t v, Tryd.f5.params[j]? = some t → args[j]? = some v → Value.okWide Tryd.prog W .any base t v := hval0
  have hW' := hW
  obtain ⟨p, q, hA0, hV, rfl, hfz, hnd⟩ := hW
  have hA : DataW.TrodAll enc Tryd.prog W 0 (fun _ => true) true Tryd.f5.params.toList args.toList ds p := hA0
  rw [Tryd.params5] at hA hval
  obtain ⟨v0, vs0, d0, ds0, p0, q0, hargs, rfl, rfl, h0, r0⟩ := trodAll_cons hA
  obtain ⟨rfl, rfl, rfl⟩ := trodAll_nil r0
  obtain rfl : args = #[v0] := by cases args; simp_all
  obtain ⟨rfl, rfl⟩ := trodVars_none hV
  obtain ⟨a0, len0, cap0, rfl⟩ := okWide_slice Tryd.underlying22 (hval 0 22 v0 rfl rfl)
  have k0 := h0
  have lt0 : ∀ x ∈ p0, x.block < W.heap.size := by obtain ⟨m, hm⟩ := k0; exact DataW.trod_lt m _ _ _ hm
  obtain ⟨z0, w0⟩ : ∃ zs, IsRow .u8 W a0 len0 cap0 zs := by
    obtain ⟨fuel, hf⟩ := h0
    rcases open_ints Tryd.underlying22 Tryd.underlying5 (by kernel_rfl) hf with ⟨hcs, _⟩ | ⟨x, l, c, zs, hcs, _, hl, hm, hz, _, hcell, hwz⟩
    · simp [Value.cells] at hcs
      obtain ⟨rfl, rfl, rfl⟩ := hcs
      exact ⟨[], .inl ⟨rfl, rfl, rfl, rfl⟩⟩
    · simp [Value.cells] at hcs
      obtain ⟨rfl, rfl, rfl⟩ := hcs
      exact ⟨zs, .inr ⟨_, rfl, hl, hm, by simpa using hz, hcell, hwz⟩⟩
  clear hA0 hval0
  refine (frameOpens_walk W (of_laid hL) a0 len0 cap0 z0 w0).mono fun e W' ⟨he, bel⟩ => ?_
  subst he
  exact ⟨_, rfl, _, _, _, [], _, [], hW', trodAll_mk1 (shut_bool Tryd.underlying4 _), (trodAll_cons_mk (Below.trod laidOut (by kernel_rfl) (of_decide_eq_true (by kernel_rfl)) k0 bel lt0) trodAll_mk0), rfl, bel.frame _, fun h => by cases h⟩

theorem frameOpens_row : Rows.FrameOpensSaid :=
  OpenClaim.holds_of_wide 5 Tryd.f5 rfl rfl rfl rfl rfl rfl rfl ⟨rfl, rfl, rfl, rfl, rfl⟩ rfl rfl rfl rfl rfl (by kernel_rfl) Tryd.func5 (by kernel_rfl)
    (of_decide_eq_true (by kernel_rfl)) (by unfold Func.isWrapper; first | (rw [if_pos (by decide +kernel)]; kernel_rfl) | (rw [if_neg (by decide +kernel)]; exact ⟨rfl, rfl⟩))
    (fun os started H enc _ => frameOpens_lifted os started H enc)

theorem frameOpens_holds : Rows.FrameOpensCardSaid :=
  Claim7.holds_tied_plain_at .later [] [.data] true (true, "dc3f316d42b1e05479d7fa2384e8bf57c16cf6ad2264c95d5d38ad7805788d4b") false
    frameOpens_row (fun _ h => by cases h) (by kernel_rfl) (fun _ h => by cases h) frameOpens_row_tie rfl ⟨rfl, rfl⟩ (by kernel_rfl) rfl
    (fun f fn hf hfn => by
      obtain rfl : f = 5 := Option.some.inj ((show Tryd.prog.funcNamed "pinnace/pinnacelaw03.FrameOpens" = some 5 by kernel_rfl).symm.trans hf) |>.symm
      obtain rfl : fn = Tryd.f5 := (Option.some.inj (Tryd.func5.symm.trans hfn)).symm
      exact ⟨by kernel_rfl, fun j t ht => by
        rw [Tryd.params5] at ht
        have hm : t ∈ [22] := by simpa using Array.mem_of_getElem? ht
        have hall : ([22].all fun u => !Tryd.prog.wantsStandIn u) = true := by kernel_rfl
        exact (show Tryd.prog.wantsStandIn t = false by simpa using List.all_eq_true.1 hall t hm)⟩)
    (by kernel_rfl)

end Go.Proofs.YtekdjebehieekaaDoor
