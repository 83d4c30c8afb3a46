/-
  Of any components that may be one entity's the mask has as many bits as there are, and each kind's bit just if it is there: SchemaMasks returns true, whatever its argument, where the table of the components lies as the program's text lays it, and changes nothing that was there.
-/
import Derived.Test.YtegpkchmhhafnaaDoorSi
import Derived.Test.YtegpkchmhhafnaaDoorSn
namespace Go.Proofs.YtegpkchmhhafnaaDoor
open Go.ChangeShapes Go.WideShapes Go.ChangeAt Go.RowKit
set_option linter.unusedVariables false
set_option maxRecDepth 100000

set_option maxHeartbeats 4000000 in
theorem schemaMasks_fr (w : World) (ht : Tab w) (ao : Option Addr) (len cap : Nat) (Z : List Cp) (hZ : Z.length = len) (hlc : len ≤ cap) (hcm : cap ≤ maxLen) (hc : Cs w ao Z) (hk : ∀ q ∈ Z, q.k < 256) :
    Calls Tryd.prog 4 #[.slice ao len cap] w fun e w' => e = .returned (.bool true) ∧ Fr Nobody w w' := by
  unfold maxLen at hcm
  have HT : Hid (Tab w) := ht
  have HZ : Hid (Z.length = len ∧ Cs w ao Z ∧ ∀ q ∈ Z, q.k < 256) := ⟨hZ, hc, hk⟩
  clear ht hZ hc hk
  obtain ⟨n, hn⟩ : ∃ n, n = min len 20 := ⟨_, rfl⟩
  have hmin : min (len : Int) 20 = (n : Int) := by omega
  have hn1 : n ≤ 20 := by omega
  have hn2 : n ≤ len := by omega
  clear hn
  obtain ⟨M, hM⟩ : ∃ M, M = Z.take n := ⟨_, rfl⟩
  have HM : Hid (M.length = n ∧ Cs w ao M ∧ ∀ q ∈ M, q.k < 256) := by
    rw [hM]; exact ⟨by rw [List.length_take, HZ.out.1]; omega, HZ.out.2.1.take n, fun q hq => HZ.out.2.2 q (List.mem_of_mem_take hq)⟩
  clear hM HZ
  obtain ⟨X, hX⟩ : ∃ X, X = lst (-1) M := ⟨_, rfl⟩
  have HX : Hid (X = lst (-1) M) := hX
  clear hX
  go_enter Tryd.func4, Tryd.ntmps4
  go_wp2_with fail
  refine (awake5 w HT.out).mono ?_
  rintro e w1 ⟨rfl, hf1⟩
  have H1 : Hid (Own w w1 []) := Own.of_fr hf1
  clear hf1
  go_wp2_with fail
  refine (twin_any w w1 [] H1.out ao n _ M HM.out.1 (HM.out.2.1.quiet H1.out.fr) (by omega)).mono ?_
  rintro e w2 ⟨a2, c2, rfl, hO2⟩
  have H2 : Hid (Own w w2 [View 4 (.slice a2 n c2) n (ccat M)]) := hO2.view (by decide)
  clear hO2 H1
  have HC2 : Hid (Cs w2 a2 M ∧ Cs w2 ao M) := ⟨H2.out.cs HM.out.1, HM.out.2.1.quiet H2.out.fr⟩
  go_wp2_with fail
  refine (list_any w2 (HT.out.quiet H2.out.fr) a2 n c2 M HM.out.1 HC2.out.1 HM.out.2.2 (by omega)).mono ?_
  rw [← HX.out]
  rintro e w3 ⟨rfl, hf3⟩
  have HF3 : Hid (Fr Nobody w2 w3) := hf3
  clear hf3
  by_cases hx0 : X = 0
  · subst hx0
    have hok := lst_ok HX.out.symm
    have HK : Hid (∀ q ∈ M, q.k < 6) := fun q hq => chk_k (hok.2 q hq).2
    have HCN : Hid ((List.range 8).countP (hasK M) = n) := by rw [← HM.out.1]; exact kinds_len hok.1 HK.out
    have HB : Hid (∀ k, msk M / 2 ^ k % 2 = (hasK M k).toNat) := fun k => msk_bit M k HK.out
    clear hok
    obtain ⟨Y, hY⟩ : ∃ Y, Y = msk M := ⟨_, rfl⟩
    have hY64 : Y < 64 := by rw [hY]; exact msk_lt M
    have HY : Hid (Y = msk M) := hY
    clear hY
    go_wp2_with fail
    refine (mask_any w3 ao n _ M HM.out.1 (HC2.out.2.quiet HF3.out) HM.out.2.2 (by omega)).mono ?_
    rw [← HY.out]
    rintro e w4 ⟨rfl, hf4⟩
    have HF4 : Hid (Fr Nobody w2 w4) := HF3.out.trans hf4
    clear hf4 HF3
    go_wp2
    go_loopw [4, 22] (fun nv c wr => ∃ k : Nat, k ≤ 8 ∧ c = .int .u8 k ∧ Fr Nobody w2 wr ∧ nv = .int .i64 (((List.range k).countP (hasK M) : Nat) : Int)) (fun _ c _ => 8 - (intOf c).toNat)
    case atStart => exact ⟨0, by decide, rfl, HF4.out, rfl⟩
    case round =>
      obtain ⟨k, hk8, rfl, hf, rfl⟩ := hrel
      have HF : Hid (Fr Nobody w2 wr) := hf
      clear hf
      have hcle : (List.range k).countP (hasK M) ≤ k := by have := List.countP_le_length (p := hasK M) (l := List.range k); simpa using this
      by_cases hlt : k < 8
      · have hlt' : (k : Int) < 8 := by omega
        have HS : Hid ((List.range (k + 1)).countP (hasK M) = (List.range k).countP (hasK M) + (hasK M k).toNat) := by
          show _ = _
          rw [List.range_succ, List.countP_append, List.countP_singleton]
          cases hasK M k <;> rfl
        have HBk : Hid (Y / 2 ^ k % 2 = (hasK M k).toNat) := by rw [HY.out]; exact HB.out k
        generalize (List.range k).countP (hasK M) = cn at *
        have hbit : bits .and .u8 ((Y : Int) / 2 ^ k) 1 = (((hasK M k).toNat : Nat) : Int) := by
          rw [← HBk.out, show ((2 : Int) ^ k) = ((2 ^ k : Nat) : Int) by simp, ← Int.natCast_ediv, show (1 : Int) = ((1 : Nat) : Int) from rfl, u8_and_nat _ 1 (by have := Nat.div_le_self Y (2 ^ k); omega) (by decide), Nat.and_one_is_mod]
        have HFd : Hid (Calls _ _ _ _ _) := find_any wr ao n cap M HM.out.1 (HC2.out.2.quiet HF.out) HM.out.2.2 (by omega) k (by omega)
        clear HBk
        cases hh : hasK M k with
        | true =>
          rw [hh] at hbit HS
          have hbit1 : bits .and .u8 ((Y : Int) / 2 ^ k) 1 = 1 := hbit
          clear hbit
          go_wp2_with fail
          refine HFd.out.mono ?_
          rintro e w5 ⟨r, rfl, hf5, hr⟩
          have HF5 : Hid (Fr Nobody w2 w5) := HF.out.trans hf5
          have hr0 : 0 ≤ r := by
            rcases hr with ⟨_, h⟩ | ⟨i, h, _⟩
            · rw [hh] at h; cases h
            · omega
          clear hf5 hr HFd
          have HS2 : Hid (_ = cn + 1) := HS.out
          go_wp2
          go_roundw
          case rel => exact ⟨k + 1, by omega, by go_num, HF5.out, by rw [HS2.out]; go_num⟩
          case measure => simp [intOf]; omega
        | false =>
          rw [hh] at hbit HS
          have hbit1 : bits .and .u8 ((Y : Int) / 2 ^ k) 1 = 0 := hbit
          clear hbit
          go_wp2_with fail
          refine HFd.out.mono ?_
          rintro e w5 ⟨r, rfl, hf5, hr⟩
          have HF5 : Hid (Fr Nobody w2 w5) := HF.out.trans hf5
          have hr0 : r = -1 := by
            rcases hr with ⟨h, _⟩ | ⟨i, _, q, _, _, h⟩
            · exact h
            · rw [hh] at h; cases h
          subst hr0
          clear hf5 hr HFd
          have HS2 : Hid (_ = cn) := HS.out
          go_wp2
          go_roundw
          case rel => exact ⟨k + 1, by omega, by go_num, HF5.out, by rw [HS2.out]⟩
          case measure => simp [intOf]; omega
      · have hk8' : k = 8 := by omega
        subst hk8'
        rw [HCN.out]
        have hnn : ((n : Int) == (n : Int)) = true := by simp
        go_wp2
        go_ret
        exact ⟨rfl, H2.out.fr.trans HF.out⟩
  · have hx1 : ((X : Int) != 0) = true := by simpa using hx0
    go_wp2_with fail
    refine (rlist_any w3 ao n _ M HM.out.1 (HC2.out.2.quiet HF3.out) HM.out.2.2 (by omega)).mono ?_
    rw [← HX.out]
    rintro e w4 ⟨rfl, hf4⟩
    have HF4 : Hid (Fr Nobody w2 w4) := HF3.out.trans hf4
    clear hf4 HF3
    go_wp2
    go_ret
    exact ⟨rfl, H2.out.fr.trans HF4.out⟩
theorem schemaMasks_walk (w : World) (ht : Tab w) (a0 : Option Addr) (len0 cap0 : Nat) (z0 : List Cp) (w0 : IsComps w a0 len0 cap0 z0) :
    Calls Tryd.prog 4 #[.slice a0 len0 cap0] w fun e w' => e = .returned (.bool true) ∧ Below w.heap.size w w' := by
  refine (schemaMasks_fr w ht a0 len0 cap0 z0 w0.1 w0.2.1 w0.2.2.1 w0.cs.1 w0.cs.2).mono ?_
  rintro e w' ⟨rfl, hf⟩
  exact ⟨rfl, hf.below (Nat.le_refl _) (fun _ _ => id)⟩
theorem laidOut : laidOutB Tryd.prog = true := by kernel_rfl

set_option maxRecDepth 100000 in
theorem schemaMasks_lifted (os : Os) (started : os.Started) (H : Type) (enc : TypeId × Value → H) :
    ReturnsInHanded {} Tryd.checked os 4 .any (fun w args => (Rows.schemaMasksSpec.pre enc Tryd.prog Tryd.f4 [] false w args ∧ laidMetH Tryd.prog laid1 w) ∧ sizedMet enc Tryd.prog Tryd.f4 (OpenSpec.ofChange Rows.schemaMasksSpec) false w args) (Rows.schemaMasksSpec.post enc Tryd.prog Tryd.f4 false true false false) := by
  refine returnsInHanded_of_change_and (C := Tryd.checked) (X := fun w _ => laidMetH Tryd.prog laid1 w) (fun _ _ _ hh h => h.of_heap hh) own started (by kernel_rfl) Tryd.func4
    (ChangeSpec.witness_shaped (enc := enc) (C := Tryd.checked) (os := os) (X := fun w _ => laidMetH Tryd.prog laid1 w) false (World.doorLaid Tryd.prog 400 os) #[.slice none 0 0] 8 rfl (World.shaped_of_RefB (by kernel_rfl) (by kernel_rfl)) (by kernel_rfl) (by kernel_rfl) (by kernel_rfl) (door_met os _)) ?_
  intro W base args ds gs before hval0 hW _ _ hL _
  have hval : ∀ (j : Nat) t v, Tryd.f4.params[j]? = some t → args[j]? = some v → Value.okWide Tryd.prog W .any base t v := hval0
  have hW' := hW
  obtain ⟨p, q, hA0, hV, rfl, hfz, hnd⟩ := hW
  have hA : DataW.TrodAll enc Tryd.prog W 0 (fun _ => true) true Tryd.f4.params.toList args.toList ds p := hA0
  rw [Tryd.params4] at hA hval
  obtain ⟨v0, vs0, d0, ds0, p0, q0, hargs, rfl, rfl, h0, r0⟩ := trodAll_cons hA
  obtain ⟨rfl, rfl, rfl⟩ := trodAll_nil r0
  obtain rfl : args = #[v0] := by cases args; simp_all
  obtain ⟨rfl, rfl⟩ := trodVars_none hV
  obtain ⟨a0, len0, cap0, rfl⟩ := okWide_slice Tryd.underlying22 (hval 0 22 v0 rfl rfl)
  have k0 := h0
  have lt0 : ∀ x ∈ p0, x.block < W.heap.size := by obtain ⟨m, hm⟩ := k0; exact DataW.trod_lt m _ _ _ hm
  obtain ⟨z0, w0⟩ := open_comps (hval 0 22 _ rfl rfl) h0
  clear hA0 hval0
  refine (schemaMasks_walk W (of_laid hL) a0 len0 cap0 z0 w0).mono fun e W' ⟨he, bel⟩ => ?_
  subst he
  exact ⟨_, rfl, _, _, _, [], _, [], hW', trodAll_mk1 (shut_bool Tryd.underlying4 _), (trodAll_cons_mk (Below.trod laidOut (by kernel_rfl) (of_decide_eq_true (by kernel_rfl)) k0 bel lt0) trodAll_mk0), rfl, bel.frame _, fun h => by cases h⟩

theorem schemaMasks_row : Rows.SchemaMasksSaid :=
  OpenClaim.holds_of_wide 4 Tryd.f4 rfl rfl rfl rfl rfl rfl rfl ⟨rfl, rfl, rfl, rfl, rfl⟩ rfl rfl rfl rfl rfl (by kernel_rfl) Tryd.func4 (by kernel_rfl)
    (of_decide_eq_true (by kernel_rfl)) (by unfold Func.isWrapper; first | (rw [if_pos (by decide +kernel)]; kernel_rfl) | (rw [if_neg (by decide +kernel)]; exact ⟨rfl, rfl⟩))
    (fun os started H enc _ => schemaMasks_lifted os started H enc)

theorem schemaMasks_holds : Rows.SchemaMasksCardSaid :=
  Claim7.holds_tied_plain_at .later [] [.data] true (true, "3ebda4bf7fb83e641793aa45a42008650d22d7132c5ff8cf223b0628d803d692") false
    schemaMasks_row (fun _ h => by cases h) (by kernel_rfl) (fun _ h => by cases h) schemaMasks_row_tie rfl ⟨rfl, rfl⟩ (by kernel_rfl) rfl
    (fun f fn hf hfn => by
      obtain rfl : f = 4 := Option.some.inj ((show Tryd.prog.funcNamed "pinnace/pinnacelaw05.SchemaMasks" = some 4 by kernel_rfl).symm.trans hf) |>.symm
      obtain rfl : fn = Tryd.f4 := (Option.some.inj (Tryd.func4.symm.trans hfn)).symm
      exact ⟨by kernel_rfl, fun j t ht => by
        rw [Tryd.params4] at ht
        have hm : t ∈ [22] := by simpa using Array.mem_of_getElem? ht
        have hall : ([22].all fun u => !Tryd.prog.wantsStandIn u) = true := by kernel_rfl
        exact (show Tryd.prog.wantsStandIn t = false by simpa using List.all_eq_true.1 hall t hm)⟩)
    (by kernel_rfl)

end Go.Proofs.YtegpkchmhhafnaaDoor
