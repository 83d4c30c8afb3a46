/-
  Of any entities just those are found that fit any two masks, by rising slots, and as many are counted; a nil store has none: QueryFinds returns true, whatever its arguments, where the table of the components lies as the program's text lays it, and changes nothing that was there.
-/
import Derived.Test.YtcpknpgeiafkoaaDoorIkg
import Derived.OpenShut
import Derived.SevenTiedAt
namespace Go.Proofs.YtcpknpgeiafkoaaDoor
open Go.ChangeShapes Go.WideShapes Go.ChangeAt Go.RowKit
set_option linter.unusedVariables false
set_option maxRecDepth 100000

set_option maxHeartbeats 4000000 in
theorem queryFinds_fr (w : World) (ht : Tab w) (ao : Option Addr) (len cap : Nat) (Q : List MkE) (hQl : Q.length = len) (hlc : len ≤ cap) (hcm : cap ≤ maxLen) (hM : Mks w ao Q) (hw : ∀ x ∈ Q, x.C.length ≤ x.cap ∧ x.cap ≤ 9223372036854775807 ∧ ∀ q ∈ x.C, q.k < 256) (a : Nat) (ha : a < 256) (n : Nat) (hn : n < 256) :
    Calls Tryd.prog 3 #[.slice ao len cap, .int .u8 (a : Int), .int .u8 (n : Int)] w fun e w' => e = .returned (.bool true) ∧ Fr Nobody w w' := by
  unfold maxLen at hcm
  have HT : Hid (Tab w) := ht
  have HFL : Hid (∀ w', Fr Nobody w w' → Calls Tryd.prog 8 #[.slice ao len cap] w' fun e w'' => ∃ b bx, e = .returned (.tuple #[.pointer (some ⟨b, 0, none⟩), .pointer (some ⟨bx, 0, none⟩)]) ∧ Own w w'' [Store b (fillS Q) 120, RSto bx (fillS Q) 120]) := fun w' hf => fill_ok w w' [] (Own.of_fr hf) ht ao len cap Q hQl (by omega) (fun w'' h'' => hM.quiet h''.fr) hw
  have hfl := Sto.find_len (fillS_ok Q).s a n
  obtain ⟨F, hF⟩ : ∃ F, (fillS Q).find a n = F := ⟨_, rfl⟩
  have HWS : Hid (∀ w' b l', Own w w' (Store b (fillS Q) 120 :: l') → Calls Tryd.prog 9 #[.pointer (some ⟨b, 0, none⟩), .int .u8 (a : Int), .int .u8 (n : Int)] w' fun e w'' => ∃ ao cap, e = .returned (.slice ao F.length cap) ∧ Own w w'' (Row 44 1 (.slice ao F.length cap) F.length (irow .u32 F) :: Store b (fillS Q) 120 :: l')) := fun w' b l' h' => by
    have := with_g w w' l' (some ⟨b, 0, none⟩) (Store b (fillS Q) 120) _ h' a n (iter_s w b Q a n ha hn ht) hfl
    rw [hF] at this
    exact this
  have HCS : Hid (∀ w' b l', Own w w' (Store b (fillS Q) 120 :: l') → Calls Tryd.prog 13 #[.pointer (some ⟨b, 0, none⟩), .int .u8 (a : Int), .int .u8 (n : Int)] w' fun e w'' => e = .returned (.int .i64 (F.length : Int)) ∧ Own w w'' (Store b (fillS Q) 120 :: l')) := fun w' b l' h' => by
    have := count_g w w' l' (some ⟨b, 0, none⟩) (Store b (fillS Q) 120) _ h' a n (iter_s w b Q a n ha hn ht) hfl
    rw [hF] at this
    exact this
  have HWN : Hid (∀ w' l', Own w w' l' → Calls Tryd.prog 9 #[.pointer none, .int .u8 (a : Int), .int .u8 (n : Int)] w' fun e w'' => ∃ ao cap, e = .returned (.slice ao 0 cap) ∧ Own w w'' l') := fun w' l' h' => by
    refine (with_g w w' l' none Nil [] (Own.nil_iff.2 h') a n (iter_nil w a n) (by decide)).mono ?_
    rintro e w'' ⟨ao, cap, rfl, h2⟩
    exact ⟨ao, cap, rfl, Own.nil_iff.1 h2.tail⟩
  have HCN : Hid (∀ w' l', Own w w' l' → Calls Tryd.prog 13 #[.pointer none, .int .u8 (a : Int), .int .u8 (n : Int)] w' fun e w'' => e = .returned (.int .i64 0) ∧ Own w w'' l') := fun w' l' h' => by
    refine (count_g w w' l' none Nil [] (Own.nil_iff.2 h') a n (iter_nil w a n) (by decide)).mono ?_
    rintro e w'' ⟨rfl, h2⟩
    exact ⟨rfl, Own.nil_iff.1 h2⟩
  have HR12 : Hid (∀ w' bx x la lc l', RXok (fillS Q) x 120 → Own w w' (Row 51 2 (.slice la (fillS Q).S.list.length lc) (fillS Q).S.list.length (cat rcells ((fillS Q).S.list.map (x.at (fillS Q)))) :: RSX bx (fillS Q).S x :: l') → Calls Tryd.prog 11 #[.slice la (fillS Q).S.list.length lc, .int .u8 (a : Int), .int .u8 (n : Int), .int .i64 0] w' fun e w'' => ∃ ra rc, e = .returned (.slice ra F.length rc) ∧ Own w w'' (Row 44 1 (.slice ra F.length rc) F.length (irow .u32 F) :: RSX bx (fillS Q).S x :: l')) := fun w' bx x la lc l' hx h' => by
    have := rw12 w w' l' bx Q x hx la lc h' a n ha hn 0
    rw [find_zero, hF] at this
    exact this
  rw [hF] at hfl
  generalize hFn : F.length = fl at *
  have HFN : Hid (F.length = fl) := hFn
  have hff : ((fl : Int) == (fl : Int)) = true := by simp
  clear ht hM hw hQl hF hFn
  go_enter Tryd.func3, Tryd.ntmps3
  go_wp2_with fail
  refine (awake12 w HT.out).mono ?_
  rintro e w1 ⟨rfl, hf1⟩
  have HF1 : Hid (Calls _ _ _ _ _) := HFL.out w1 hf1
  clear hf1 HFL
  go_wp2_with fail
  refine HF1.out.mono ?_
  rintro e w2 ⟨b, bx, rfl, hO2⟩
  have H2 : Hid (Own w w2 _) := hO2
  clear hO2 HF1
  go_wp2_with fail
  refine (HWS.out _ _ _ H2.out).mono ?_
  rintro e w3 ⟨ga, gc, rfl, hO3⟩
  obtain ⟨x, hx, hO3x⟩ := RSto.opn hO3.three
  have HX : Hid (RXok (fillS Q) x 120) := hx
  have HL : Hid (Calls _ _ _ _ _) := rlist12 w w3 _ bx Q x hO3x hx
  clear hO3 hO3x hx H2 HWS
  go_wp2_with fail
  refine HL.out.mono ?_
  rintro e w4 ⟨la, lc, rfl, hO4⟩
  have HR : Hid (Calls _ _ _ _ _) := HR12.out _ _ _ _ _ _ HX.out hO4
  clear hO4 HL HR12
  go_wp2_with fail
  refine HR.out.mono ?_
  rintro e w5 ⟨ra, rc, rfl, hO5⟩
  have h51 := hO5
  have h52 := hO5.three
  rw [← HFN.out] at h51 h52
  have HSM : Hid (Calls _ _ _ _ _) := same_ok w5 (.slice ga F.length gc) (.slice ra F.length rc) F (Own.nums h52) (Own.nums h51) (by rw [HFN.out]; omega)
  rw [HFN.out] at HSM
  have H5 : Hid (Own w w5 _) := hO5.four
  clear hO5 h51 h52 HR
  go_wp2_with fail
  refine HSM.out.mono ?_
  rintro e w6 ⟨rfl, hf6⟩
  have HC1 : Hid (Calls _ _ _ _ _) := HCS.out _ _ _ (H5.out.quiet hf6)
  clear hf6 HSM H5 HCS
  go_wp2_with fail
  refine HC1.out.mono ?_
  rintro e w7 ⟨rfl, hO7⟩
  have HN1 : Hid (Calls _ _ _ _ _) := HWN.out _ _ hO7
  clear hO7 HC1 HWN
  go_wp2_with fail
  refine HN1.out.mono ?_
  rintro e w8 ⟨na, nc, rfl, hO8⟩
  have HN2 : Hid (Calls _ _ _ _ _) := HCN.out _ _ hO8
  clear hO8 HN1 HCN
  go_wp2_with fail
  refine HN2.out.mono ?_
  rintro e w9 ⟨rfl, hO9⟩
  have H9 : Hid (Own w w9 _) := hO9
  clear hO9 HN2
  go_wp2
  go_ret
  exact ⟨rfl, H9.out.fr⟩
theorem queryFinds_walk (w : World) (ht : Tab w) (a0 : Option Addr) (len0 cap0 : Nat) (z0 : List MkE) (w0 : IsMks w a0 len0 cap0 z0) (a1 : Int) (w1 : ok8 a1) (a2 : Int) (w2 : ok8 a2) :
    Calls Tryd.prog 3 #[.slice a0 len0 cap0, .int .u8 a1, .int .u8 a2] w fun e w' => e = .returned (.bool true) ∧ Below w.heap.size w w' := by
  obtain ⟨h1, h2⟩ := w0.mks
  obtain ⟨a, rfl, ha⟩ := ok8_nat w1
  obtain ⟨n, rfl, hn⟩ := ok8_nat w2
  refine (queryFinds_fr w ht a0 len0 cap0 z0 w0.1 w0.2.1 w0.2.2.1 h1 h2 a ha n hn).mono ?_
  rintro e w' ⟨rfl, hf⟩
  exact ⟨rfl, hf.below (Nat.le_refl _) (fun _ _ h => h)⟩
theorem laidOut : laidOutB Tryd.prog = true := by kernel_rfl

set_option maxRecDepth 100000 in
theorem queryFinds_lifted (os : Os) (started : os.Started) (H : Type) (enc : TypeId × Value → H) :
    ReturnsInHanded {} Tryd.checked os 3 .any (fun w args => (Rows.queryFindsSpec.pre enc Tryd.prog Tryd.f3 [] false w args ∧ laidMetH Tryd.prog laid1 w) ∧ sizedMet enc Tryd.prog Tryd.f3 (OpenSpec.ofChange Rows.queryFindsSpec) false w args) (Rows.queryFindsSpec.post enc Tryd.prog Tryd.f3 false true false false) := by
  refine returnsInHanded_of_change_and (C := Tryd.checked) (X := fun w _ => laidMetH Tryd.prog laid1 w) (fun _ _ _ hh h => h.of_heap hh) own started (by kernel_rfl) Tryd.func3
    (ChangeSpec.witness_shaped (enc := enc) (C := Tryd.checked) (os := os) (X := fun w _ => laidMetH Tryd.prog laid1 w) false (World.doorLaid Tryd.prog 400 os) #[.slice none 0 0, .int .u8 0, .int .u8 0] 8 rfl (World.shaped_of_RefB (by kernel_rfl) (by kernel_rfl)) (by kernel_rfl) (by kernel_rfl) (by kernel_rfl) (door_met os _)) ?_
  intro W base args ds gs before hval0 hW _ _ hL _
  have hval : ∀ (j : Nat) t v, Tryd.f3.params[j]? = some t → args[j]? = some v → Value.okWide Tryd.prog W .any base t v := hval0
  have hW' := hW
  obtain ⟨p, q, hA0, hV, rfl, hfz, hnd⟩ := hW
  have hA : DataW.TrodAll enc Tryd.prog W 0 (fun _ => true) true Tryd.f3.params.toList args.toList ds p := hA0
  rw [Tryd.params3] at hA hval
  obtain ⟨v0, vs0, d0, ds0, p0, q0, hargs, rfl, rfl, h0, r0⟩ := trodAll_cons hA
  obtain ⟨v1, vs1, d1, ds1, p1, q1, rfl, rfl, rfl, h1, r1⟩ := trodAll_cons r0
  obtain ⟨v2, vs2, d2, ds2, p2, q2, rfl, rfl, rfl, h2, r2⟩ := trodAll_cons r1
  obtain ⟨rfl, rfl, rfl⟩ := trodAll_nil r2
  obtain rfl : args = #[v0, v1, v2] := by cases args; simp_all
  obtain ⟨rfl, rfl⟩ := trodVars_none hV
  obtain ⟨a0, len0, cap0, rfl⟩ := okWide_slice Tryd.underlying22 (hval 0 22 v0 rfl rfl)
  have k0 := h0
  have lt0 : ∀ x ∈ p0, x.block < W.heap.size := by obtain ⟨m, hm⟩ := k0; exact DataW.trod_lt m _ _ _ hm
  obtain ⟨z0, w0⟩ := open_ops (hval 0 22 _ rfl rfl) h0
  obtain ⟨a1, rfl, rfl, rfl, w1⟩ := open_int Tryd.underlying5 (hval 1 5 v1 rfl rfl) h1
  obtain ⟨a2, rfl, rfl, rfl, w2⟩ := open_int Tryd.underlying5 (hval 2 5 v2 rfl rfl) h2
  clear hA0 hval0
  refine (queryFinds_walk W (of_laid hL) a0 len0 cap0 z0 w0 a1 w1 a2 w2).mono fun e W' ⟨he, bel⟩ => ?_
  subst he
  exact ⟨_, rfl, _, _, _, [], _, [], hW', trodAll_mk1 (shut_bool Tryd.underlying4 _), (trodAll_cons_mk (Below.trod laidOut (by kernel_rfl) (of_decide_eq_true (by kernel_rfl)) k0 bel lt0) (trodAll_cons_mk (shut_int Tryd.underlying5 w1) (trodAll_cons_mk (shut_int Tryd.underlying5 w2) trodAll_mk0))), rfl, bel.frame _, fun h => by cases h⟩

theorem queryFinds_row : Rows.QueryFindsSaid :=
  OpenClaim.holds_of_wide 3 Tryd.f3 rfl rfl rfl rfl rfl rfl rfl ⟨rfl, rfl, rfl, rfl, rfl⟩ rfl rfl rfl rfl rfl (by kernel_rfl) Tryd.func3 (by kernel_rfl)
    (of_decide_eq_true (by kernel_rfl)) (by unfold Func.isWrapper; first | (rw [if_pos (by decide +kernel)]; kernel_rfl) | (rw [if_neg (by decide +kernel)]; exact ⟨rfl, rfl⟩))
    (fun os started H enc _ => queryFinds_lifted os started H enc)

theorem queryFinds_holds : Rows.QueryFindsCardSaid :=
  Claim7.holds_tied_plain_at .later [] [.data] true (true, "04556a4b6792fb26c75233f38e14627ada0434a2715b058dc1340f8fbd7debb7") false
    queryFinds_row (fun _ h => by cases h) (by kernel_rfl) (fun _ h => by cases h) queryFinds_row_tie rfl ⟨rfl, rfl⟩ (by kernel_rfl) rfl
    (fun f fn hf hfn => by
      obtain rfl : f = 3 := Option.some.inj ((show Tryd.prog.funcNamed "pinnace/pinnacelaw12.QueryFinds" = some 3 by kernel_rfl).symm.trans hf) |>.symm
      obtain rfl : fn = Tryd.f3 := (Option.some.inj (Tryd.func3.symm.trans hfn)).symm
      exact ⟨by kernel_rfl, fun j t ht => by
        rw [Tryd.params3] at ht
        have hm : t ∈ [22, 5, 5] := by simpa using Array.mem_of_getElem? ht
        have hall : ([22, 5, 5].all fun u => !Tryd.prog.wantsStandIn u) = true := by kernel_rfl
        exact (show Tryd.prog.wantsStandIn t = false by simpa using List.all_eq_true.1 hall t hm)⟩)
    (by kernel_rfl)

end Go.Proofs.YtcpknpgeiafkoaaDoor
