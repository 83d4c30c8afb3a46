/-
  A table of any make takes just what is of that make: TableMakes returns true, whatever its arguments, where the table of the components lies as the program's text lays it, and changes nothing that was there.
-/
import Derived.Test.YtbjnbohnhjcchaaDoorUi
namespace Go.Proofs.YtbjnbohnhjcchaaDoor
open Go.ChangeShapes Go.WideShapes Go.ChangeAt Go.RowKit
set_option linter.unusedVariables false
set_option maxRecDepth 100000

set_option maxHeartbeats 4000000 in
theorem tableMakes_fr (w : World) (ht : Tab w) (m : Nat) (hm : m < 256) (id : Nat) (hid : id < 4294967296) (ao : Option Addr) (len cap : Nat) (Z : List Cp) (hZ : Z.length = len) (hlc : len ≤ cap) (hcm : cap ≤ maxLen) (hc : Cs w ao Z) (hk : ∀ q ∈ Z, q.k < 256) :
    Calls Tryd.prog 5 #[.int .u8 (m : Int), .int .u32 (id : Int), .slice ao len cap] w fun e w' => e = .returned (.bool true) ∧ Fr Nobody w w' := by
  unfold maxLen at hcm
  have HT : Hid (Tab w) := ht
  have HZ : Hid (Z.length = len ∧ Cs w ao Z ∧ ∀ q ∈ Z, q.k < 256) := ⟨hZ, hc, hk⟩
  clear ht hZ hc hk
  by_cases hm6 : m < 64
  · obtain ⟨n, hn⟩ : ∃ n, n = min len 20 := ⟨_, rfl⟩
    have hmin : min (len : Int) 20 = (n : Int) := by omega
    have hn1 : n ≤ 20 := by omega
    have hn2 : n ≤ len := by omega
    clear hn
    obtain ⟨M, hM⟩ : ∃ M, M = Z.take n := ⟨_, rfl⟩
    have HM : Hid (M.length = n ∧ Cs w ao M ∧ ∀ q ∈ M, q.k < 256) := by
      rw [hM]; exact ⟨by rw [List.length_take, HZ.out.1]; omega, HZ.out.2.1.take n, fun q hq => HZ.out.2.2 q (List.mem_of_mem_take hq)⟩
    clear hM HZ
    obtain ⟨X, hX⟩ : ∃ X, X = lst (-1) M := ⟨_, rfl⟩
    obtain ⟨Y, hY⟩ : ∃ Y, Y = msk M := ⟨_, rfl⟩
    have HXY : Hid (X = lst (-1) M ∧ Y = msk M) := ⟨hX, hY⟩
    have HAD : Hid (∀ w' b L c a2 c2, Own w w' (Table b m L c :: [Row 47 4 (.slice a2 n c2) n (ccat M)]) → TOk m L → L.length ≤ 100 → c ≤ 100 → Calls Tryd.prog 11 #[.pointer (some ⟨b, 0, none⟩), .int .u32 (id : Int), .slice a2 n c2] w' fun e w'' => e = .returned (.int .i64 ((tadd m L id M).1 : Int)) ∧ Own w w'' (Table b m (tadd m L id M).2 (c + 1) :: [Row 47 4 (.slice a2 n c2) n (ccat M)])) := by
      intro w' b L c a2 c2 h1 h2 h3 h4
      exact taddC w w' _ b m L c HT.out h1 h2 id hid a2 n c2 M HM.out.1 (fun w'' h'' => Own.rcs h'' HM.out.1) HM.out.2.2 (by omega) (by omega) (by omega)
    have HLN : Hid (∀ w' b L c l, Own w w' (Table b m L c :: l) → Calls Tryd.prog 25 #[.pointer (some ⟨b, 0, none⟩)] w' fun e w'' => e = .returned (.int .i64 (L.length : Int)) ∧ w'' = w') := fun w' b L c l h' => by have := tlen w w' l b m _ _ _ c h'; rw [length_ids] at this; exact this
    clear hX hY
    go_enter Tryd.func5, Tryd.ntmps5
    go_wp2_with fail
    refine (awake10 w w [] HT.out (Own.start _)).mono ?_
    rintro e w1 ⟨rfl, hO1⟩
    have H1 : Hid (Own w w1 []) := hO1
    clear hO1
    go_wp2_with fail
    refine (tnew w w1 [] m H1.out hm6).mono ?_
    rintro e w2 ⟨b, rfl, hO2⟩
    have H2 : Hid (Own w w2 [Table b m [] 0]) := hO2
    clear hO2 H1
    go_wp2_with fail
    refine (twin_any w w2 _ H2.out ao n _ M HM.out.1 (HM.out.2.1.quiet H2.out.fr) (by omega)).mono ?_
    rintro e w3 ⟨a3, c3, rfl, hO3⟩
    have HC3 : Hid (Calls _ _ _ _ _) := HAD.out w3 b [] 0 a3 c3 hO3.two (TOk.nil hm6) (by decide) (by decide)
    clear hO3 H2
    by_cases hX0 : X = 0
    · subst hX0
      by_cases hY0 : Y = m
      · have e1 : tadd m [] id M = (0, [(id, M)]) := tadd_ok HXY.out.1.symm (by rw [← HXY.out.2]; exact hY0) rfl
        have e2 : tadd m [(id, M)] id M = (9, [(id, M)]) := by
          unfold tadd
          rw [if_neg (by simp [← HXY.out.1]), if_neg (by rw [← HXY.out.2]; simp [hY0]), if_pos (by simp [plc, List.findIdx?_cons])]
        have HOK : Hid (TOk m [(id, M)]) := (TOk.nil hm6).snoc (id, M) hid rfl HXY.out.1.symm (by rw [← HXY.out.2]; exact hY0)
        have E2 : Hid (tadd m [(id, M)] id M = (9, [(id, M)])) := e2
        rw [e1] at HC3
        clear e1 e2
        subst hY0
        go_wp2_with fail
        refine HC3.out.mono ?_
        rintro e w4 ⟨rfl, hO4⟩
        have H4 : Hid (Own w w4 [Table b Y [(id, M)] 1]) := hO4.two.tail
        clear hO4 HC3
        go_wp2_with fail
        refine (rlist_any w4 ao n _ M HM.out.1 (HM.out.2.1.quiet H4.out.fr) HM.out.2.2 (by omega)).mono ?_
        rw [← HXY.out.1]
        rintro e w5 ⟨rfl, hf5⟩
        have H5 : Hid (Own w w5 [Table b Y [(id, M)] 1]) := H4.out.quiet hf5
        clear hf5 H4
        go_wp2_with fail
        refine (rmask_any w5 ao n _ M HM.out.1 (HM.out.2.1.quiet H5.out.fr) HM.out.2.2 (by omega)).mono ?_
        rw [← HXY.out.2]
        rintro e w6 ⟨rfl, hf6⟩
        have H6 : Hid (Own w w6 [Table b Y [(id, M)] 1]) := H5.out.quiet hf6
        clear hf6 H5
        have hyy : ((Y : Int) != (Y : Int)) = false := by simp
        go_wp2_with fail
        refine (twin_any w w6 _ H6.out ao n _ M HM.out.1 (HM.out.2.1.quiet H6.out.fr) (by omega)).mono ?_
        rintro e w7 ⟨a7, c7, rfl, hO7⟩
        have HC7 : Hid (Calls _ _ _ _ _) := HAD.out w7 b [(id, M)] 1 a7 c7 hO7.two HOK.out (by simp) (by decide)
        clear hO7 H6
        rw [E2.out] at HC7
        go_wp2_with fail
        refine HC7.out.mono ?_
        rintro e w8 ⟨rfl, hO8⟩
        have H8 : Hid (Own w w8 _) := hO8
        have HL8 : Hid (Calls _ _ _ _ _) := HLN.out w8 b [(id, M)] 2 _ hO8
        clear hO8 HC7
        go_wp2_with fail
        refine HL8.out.mono ?_
        rintro e w9 ⟨rfl, rfl⟩
        go_wp2
        go_ret
        exact ⟨rfl, H8.out.fr⟩
      · have e1 : tadd m [] id M = (4, []) := by
          unfold tadd
          rw [if_neg (by simp [← HXY.out.1]), if_pos (by rw [← HXY.out.2]; exact hY0)]
        rw [e1] at HC3
        clear e1
        have hyy : ((Y : Int) != (m : Int)) = true := by simp; omega
        go_wp2_with fail
        refine HC3.out.mono ?_
        rintro e w4 ⟨rfl, hO4⟩
        have H4 : Hid (Own w w4 [Table b m [] 1]) := hO4.two.tail
        clear hO4 HC3
        go_wp2_with fail
        refine (rlist_any w4 ao n _ M HM.out.1 (HM.out.2.1.quiet H4.out.fr) HM.out.2.2 (by omega)).mono ?_
        rw [← HXY.out.1]
        rintro e w5 ⟨rfl, hf5⟩
        have H5 : Hid (Own w w5 [Table b m [] 1]) := H4.out.quiet hf5
        clear hf5 H4
        go_wp2_with fail
        refine (rmask_any w5 ao n _ M HM.out.1 (HM.out.2.1.quiet H5.out.fr) HM.out.2.2 (by omega)).mono ?_
        rw [← HXY.out.2]
        rintro e w6 ⟨rfl, hf6⟩
        have H6 : Hid (Own w w6 [Table b m [] 1]) := H5.out.quiet hf6
        have HL6 : Hid (Calls _ _ _ _ _) := HLN.out w6 b [] 1 _ H6.out
        clear hf6 H5
        go_wp2_with fail
        refine HL6.out.mono ?_
        rintro e w9 ⟨rfl, rfl⟩
        go_wp2
        go_ret
        exact ⟨rfl, H6.out.fr⟩
    · have e1 : tadd m [] id M = (X, []) := by
        unfold tadd
        rw [if_pos (by rw [← HXY.out.1]; exact hX0), ← HXY.out.1]
      rw [e1] at HC3
      clear e1
      have hx1 : ((X : Int) != 0) = true := by simpa using hX0
      have hxx : ((X : Int) == (X : Int)) = true := by simp
      have hx5 : Hid (X = lst (-1) M) := HXY.out.1
      go_wp2_with fail
      refine HC3.out.mono ?_
      rintro e w4 ⟨rfl, hO4⟩
      have H4 : Hid (Own w w4 [Table b m [] 1]) := hO4.two.tail
      clear hO4 HC3
      go_wp2_with fail
      refine (rlist_any w4 ao n _ M HM.out.1 (HM.out.2.1.quiet H4.out.fr) HM.out.2.2 (by omega)).mono ?_
      rw [← HXY.out.1]
      rintro e w5 ⟨rfl, hf5⟩
      have H5 : Hid (Own w w5 [Table b m [] 1]) := H4.out.quiet hf5
      have HL5 : Hid (Calls _ _ _ _ _) := HLN.out w5 b [] 1 _ H5.out
      clear hf5 H4
      go_wp2_with fail
      refine HL5.out.mono ?_
      rintro e w9 ⟨rfl, rfl⟩
      go_wp2
      go_ret
      exact ⟨rfl, H5.out.fr⟩
  · have hm7 : (63 : Int) < (m : Int) := by omega
    go_enter Tryd.func5, Tryd.ntmps5
    go_wp2_with fail
    refine (awake10 w w [] HT.out (Own.start _)).mono ?_
    rintro e w1 ⟨rfl, hO1⟩
    have H1 : Hid (Own w w1 []) := hO1
    clear hO1
    go_wp2_with fail
    refine (tnewno w1 m (by omega)).mono ?_
    rintro e w2 ⟨rfl, rfl⟩
    go_wp2
    go_ret
    exact ⟨rfl, H1.out.fr⟩
theorem tableMakes_walk (w : World) (ht : Tab w) (a0 : Int) (w0 : (Lit.int .u8 a0).wf = true) (a1 : Int) (w1 : (Lit.int .u32 a1).wf = true) (a2 : Option Addr) (len2 cap2 : Nat) (z2 : List Cp) (w2 : IsComps w a2 len2 cap2 z2) :
    Calls Tryd.prog 5 #[.int .u8 a0, .int .u32 a1, .slice a2 len2 cap2] w fun e w' => e = .returned (.bool true) ∧ Below w.heap.size w w' := by
  obtain ⟨m, rfl, hm⟩ := ok8_nat w0
  have hu : 0 ≤ a1 ∧ a1 ≤ 4294967295 := by simpa [Lit.wf, IntKind.min, IntKind.max, IntKind.signed, IntKind.bits] using w1
  obtain ⟨id, rfl⟩ := Int.eq_ofNat_of_zero_le hu.1
  refine (tableMakes_fr w ht m hm id (by omega) a2 len2 cap2 z2 w2.1 w2.2.1 w2.2.2.1 w2.cs.1 w2.cs.2).mono ?_
  rintro e w' ⟨rfl, hf⟩
  exact ⟨rfl, hf.below (Nat.le_refl _) (fun _ _ h => h)⟩
theorem laidOut : laidOutB Tryd.prog = true := by kernel_rfl

set_option maxRecDepth 100000 in
theorem tableMakes_lifted (os : Os) (started : os.Started) (H : Type) (enc : TypeId × Value → H) :
    ReturnsInHanded {} Tryd.checked os 5 .any (fun w args => (Rows.tableMakesSpec.pre enc Tryd.prog Tryd.f5 [] false w args ∧ laidMetH Tryd.prog laid1 w) ∧ sizedMet enc Tryd.prog Tryd.f5 (OpenSpec.ofChange Rows.tableMakesSpec) false w args) (Rows.tableMakesSpec.post enc Tryd.prog Tryd.f5 false true false false) := by
  refine returnsInHanded_of_change_and (C := Tryd.checked) (X := fun w _ => laidMetH Tryd.prog laid1 w) (fun _ _ _ hh h => h.of_heap hh) own started (by kernel_rfl) Tryd.func5
    (ChangeSpec.witness_shaped (enc := enc) (C := Tryd.checked) (os := os) (X := fun w _ => laidMetH Tryd.prog laid1 w) false (World.doorLaid Tryd.prog 400 os) #[.int .u8 0, .int .u32 0, .slice none 0 0] 8 rfl (World.shaped_of_RefB (by kernel_rfl) (by kernel_rfl)) (by kernel_rfl) (by kernel_rfl) (by kernel_rfl) (door_met os _)) ?_
  intro W base args ds gs before hval0 hW _ _ hL _
  have hval : ∀ (j : Nat) t v, Tryd.f5.params[j]? = some t → args[j]? = some v → Value.okWide Tryd.prog W .any base t v := hval0
  have hW' := hW
  obtain ⟨p, q, hA0, hV, rfl, hfz, hnd⟩ := hW
  have hA : DataW.TrodAll enc Tryd.prog W 0 (fun _ => true) true Tryd.f5.params.toList args.toList ds p := hA0
  rw [Tryd.params5] at hA hval
  obtain ⟨v0, vs0, d0, ds0, p0, q0, hargs, rfl, rfl, h0, r0⟩ := trodAll_cons hA
  obtain ⟨v1, vs1, d1, ds1, p1, q1, rfl, rfl, rfl, h1, r1⟩ := trodAll_cons r0
  obtain ⟨v2, vs2, d2, ds2, p2, q2, rfl, rfl, rfl, h2, r2⟩ := trodAll_cons r1
  obtain ⟨rfl, rfl, rfl⟩ := trodAll_nil r2
  obtain rfl : args = #[v0, v1, v2] := by cases args; simp_all
  obtain ⟨rfl, rfl⟩ := trodVars_none hV
  obtain ⟨a0, rfl, rfl, rfl, w0⟩ := open_int Tryd.underlying5 (hval 0 5 v0 rfl rfl) h0
  obtain ⟨a1, rfl, rfl, rfl, w1⟩ := open_int Tryd.underlying32 (hval 1 32 v1 rfl rfl) h1
  obtain ⟨a2, len2, cap2, rfl⟩ := okWide_slice Tryd.underlying33 (hval 2 33 v2 rfl rfl)
  have k2 := h2
  have lt2 : ∀ x ∈ p2, x.block < W.heap.size := by obtain ⟨m, hm⟩ := k2; exact DataW.trod_lt m _ _ _ hm
  obtain ⟨z2, w2⟩ := open_comps (hval 2 33 _ rfl rfl) h2
  clear hA0 hval0
  refine (tableMakes_walk W (of_laid hL) a0 w0 a1 w1 a2 len2 cap2 z2 w2).mono fun e W' ⟨he, bel⟩ => ?_
  subst he
  exact ⟨_, rfl, _, _, _, [], _, [], hW', trodAll_mk1 (shut_bool Tryd.underlying4 _), (trodAll_cons_mk (shut_int Tryd.underlying5 w0) (trodAll_cons_mk (shut_int Tryd.underlying32 w1) (trodAll_cons_mk (Below.trod laidOut (by kernel_rfl) (of_decide_eq_true (by kernel_rfl)) k2 bel lt2) trodAll_mk0))), rfl, bel.frame _, fun h => by cases h⟩

theorem tableMakes_row : Rows.TableMakesSaid :=
  OpenClaim.holds_of_wide 5 Tryd.f5 rfl rfl rfl rfl rfl rfl rfl ⟨rfl, rfl, rfl, rfl, rfl⟩ rfl rfl rfl rfl rfl (by kernel_rfl) Tryd.func5 (by kernel_rfl)
    (of_decide_eq_true (by kernel_rfl)) (by unfold Func.isWrapper; first | (rw [if_pos (by decide +kernel)]; kernel_rfl) | (rw [if_neg (by decide +kernel)]; exact ⟨rfl, rfl⟩))
    (fun os started H enc _ => tableMakes_lifted os started H enc)

theorem tableMakes_holds : Rows.TableMakesCardSaid :=
  Claim7.holds_tied_plain_at .later [] [.data] true (true, "baab6a04025cfc0458c5c408f8e797469d3242c3e09fe5a3ecbb22faa267c6a4") false
    tableMakes_row (fun _ h => by cases h) (by kernel_rfl) (fun _ h => by cases h) tableMakes_row_tie rfl ⟨rfl, rfl⟩ (by kernel_rfl) rfl
    (fun f fn hf hfn => by
      obtain rfl : f = 5 := Option.some.inj ((show Tryd.prog.funcNamed "pinnace/pinnacelaw10.TableMakes" = some 5 by kernel_rfl).symm.trans hf) |>.symm
      obtain rfl : fn = Tryd.f5 := (Option.some.inj (Tryd.func5.symm.trans hfn)).symm
      exact ⟨by kernel_rfl, fun j t ht => by
        rw [Tryd.params5] at ht
        have hm : t ∈ [5, 32, 33] := by simpa using Array.mem_of_getElem? ht
        have hall : ([5, 32, 33].all fun u => !Tryd.prog.wantsStandIn u) = true := by kernel_rfl
        exact (show Tryd.prog.wantsStandIn t = false by simpa using List.all_eq_true.1 hall t hm)⟩)
    (by kernel_rfl)

end Go.Proofs.YtbjnbohnhjcchaaDoor
