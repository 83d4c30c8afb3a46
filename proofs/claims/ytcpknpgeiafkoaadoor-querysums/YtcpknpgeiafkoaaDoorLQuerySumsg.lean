/-
  The sum of any field of all, and who is the nearest to any place: QuerySums returns true, whatever its arguments, where the table of the components lies as the program's text lays it, and changes nothing that was there.
-/
import Derived.Test.YtcpknpgeiafkoaaDoorIrg
import Derived.OpenShut
import Derived.SevenTiedAt
namespace Go.Proofs.YtcpknpgeiafkoaaDoor
open Go.ChangeShapes Go.WideShapes Go.ChangeAt Go.RowKit
set_option linter.unusedVariables false
set_option maxRecDepth 100000

set_option maxHeartbeats 4000000 in
theorem querySums_fr (w : World) (ht : Tab w) (ao : Option Addr) (len cap : Nat) (Q : List MkE) (hQl : Q.length = len) (hlc : len ≤ cap) (hcm : cap ≤ maxLen) (hM : Mks w ao Q) (hw : ∀ x ∈ Q, x.C.length ≤ x.cap ∧ x.cap ≤ 9223372036854775807 ∧ ∀ q ∈ x.C, q.k < 256) (k : Nat) (hk : k < 256) (i px py : Int) (hpx : -2147483648 ≤ px ∧ px ≤ 2147483647) (hpy : -2147483648 ≤ py ∧ py ≤ 2147483647) :
    Calls Tryd.prog 5 #[.slice ao len cap, .int .u8 (k : Int), .int .i64 i, .int .i32 px, .int .i32 py] w fun e w' => e = .returned (.bool true) ∧ Fr Nobody w w' := by
  unfold maxLen at hcm
  have HT : Hid (Tab w) := ht
  have HFL : Hid (∀ w', Fr Nobody w w' → Calls Tryd.prog 8 #[.slice ao len cap] w' fun e w'' => ∃ b bx, e = .returned (.tuple #[.pointer (some ⟨b, 0, none⟩), .pointer (some ⟨bx, 0, none⟩)]) ∧ Own w w'' [Store b (fillS Q) 120, RSto bx (fillS Q) 120]) := fun w' hf => fill_ok w w' [] (Own.of_fr hf) ht ao len cap Q hQl (by omega) (fun w'' h'' => hM.quiet h''.fr) hw
  obtain ⟨S, E, hS1, hS2⟩ := sums_two w ht Q k hk i
  obtain ⟨N, F, hN1, hN2⟩ := near_two w ht Q px py hpx hpy
  have HS1 : Hid _ := hS1
  have HS2 : Hid _ := hS2
  have HN1 : Hid _ := hN1
  have HN2 : Hid _ := hN2
  have HN0 : Hid (∀ w' l', Own w w' l' → Calls Tryd.prog 17 #[.pointer none, .int .i32 px, .int .i32 py] w' fun e w'' => e = .returned (.tuple #[.int .u32 0, .bool false]) ∧ Own w w'' l') := fun w' l' h' => near_nil w w' l' h' px py hpx hpy
  clear ht hM hw hQl hS1 hS2 hN1 hN2
  go_enter Tryd.func5, Tryd.ntmps5
  go_wp2_with fail
  refine (awake12 w HT.out).mono ?_
  rintro e w1 ⟨rfl, hf1⟩
  have HF1 : Hid (Calls _ _ _ _ _) := HFL.out w1 hf1
  clear hf1 HFL
  go_wp2_with fail
  refine HF1.out.mono ?_
  rintro e w2 ⟨b, bx, rfl, hO2⟩
  have HA : Hid (Calls _ _ _ _ _) := HS1.out w2 b _ hO2
  clear hO2 HF1 HS1
  go_wp2_with fail
  refine HA.out.mono ?_
  rintro e w3 ⟨rfl, hO3⟩
  obtain ⟨x, hx, hO3x⟩ := RSto.opn hO3.two
  have HX : Hid (RXok (fillS Q) x 120) := hx
  have HL : Hid (Calls _ _ _ _ _) := rlist12 w w3 _ bx Q x hO3x hx
  clear hO3 hO3x hx HA
  go_wp2_with fail
  refine HL.out.mono ?_
  rintro e w4 ⟨la, lc, rfl, hO4⟩
  have HR : Hid (Calls _ _ _ _ _) := HS2.out w4 bx x la lc _ HX.out hO4
  clear hO4 HL HS2
  go_wp2_with fail
  refine HR.out.mono ?_
  rintro e w5 ⟨rfl, hO5⟩
  have HB : Hid (Calls _ _ _ _ _) := HN1.out w5 b _ hO5.two
  clear hO5 HR HN1
  go_wp2_with fail
  refine HB.out.mono ?_
  rintro e w6 ⟨rfl, hO6⟩
  have HL2 : Hid (Calls _ _ _ _ _) := rlist12 w w6 _ bx Q x hO6.two HX.out
  clear hO6 HB
  go_wp2_with fail
  refine HL2.out.mono ?_
  rintro e w7 ⟨la2, lc2, rfl, hO7⟩
  have HR2 : Hid (Calls _ _ _ _ _) := HN2.out w7 bx x la2 lc2 _ HX.out hO7
  clear hO7 HL2 HN2
  go_wp2_with fail
  refine HR2.out.mono ?_
  rintro e w8 ⟨rfl, hO8⟩
  have HN : Hid (Calls _ _ _ _ _) := HN0.out w8 _ hO8
  clear hO8 HR2 HN0
  go_wp2_with fail
  refine HN.out.mono ?_
  rintro e w9 ⟨rfl, hO9⟩
  have H9 : Hid (Own w w9 _) := hO9
  clear hO9 HN
  cases F
  · go_wp2
    go_ret
    exact ⟨rfl, H9.out.fr⟩
  · go_wp2
    go_ret
    exact ⟨rfl, H9.out.fr⟩
theorem wf32 {x : Int} (h : (Lit.int .i32 x).wf = true) : -2147483648 ≤ x ∧ x ≤ 2147483647 := by
  simp only [Lit.wf, IntKind.min, IntKind.max, IntKind.signed, IntKind.bits, Bool.and_eq_true, decide_eq_true_eq, if_true] at h
  omega
theorem querySums_walk (w : World) (ht : Tab w) (a0 : Option Addr) (len0 cap0 : Nat) (z0 : List MkE) (w0 : IsMks w a0 len0 cap0 z0) (a1 : Int) (w1 : ok8 a1) (a2 : Int) (w2 : (Lit.int .i64 a2).wf = true) (a3 : Int) (w3 : (Lit.int .i32 a3).wf = true) (a4 : Int) (w4 : (Lit.int .i32 a4).wf = true) :
    Calls Tryd.prog 5 #[.slice a0 len0 cap0, .int .u8 a1, .int .i64 a2, .int .i32 a3, .int .i32 a4] w fun e w' => e = .returned (.bool true) ∧ Below w.heap.size w w' := by
  obtain ⟨h1, h2⟩ := w0.mks
  obtain ⟨k, rfl, hk⟩ := ok8_nat w1
  refine (querySums_fr w ht a0 len0 cap0 z0 w0.1 w0.2.1 w0.2.2.1 h1 h2 k hk a2 a3 a4 (wf32 w3) (wf32 w4)).mono ?_
  rintro e w' ⟨rfl, hf⟩
  exact ⟨rfl, hf.below (Nat.le_refl _) (fun _ _ h => h)⟩
theorem laidOut : laidOutB Tryd.prog = true := by kernel_rfl

set_option maxRecDepth 100000 in
theorem querySums_lifted (os : Os) (started : os.Started) (H : Type) (enc : TypeId × Value → H) :
    ReturnsInHanded {} Tryd.checked os 5 .any (fun w args => (Rows.querySumsSpec.pre enc Tryd.prog Tryd.f5 [] false w args ∧ laidMetH Tryd.prog laid1 w) ∧ sizedMet enc Tryd.prog Tryd.f5 (OpenSpec.ofChange Rows.querySumsSpec) false w args) (Rows.querySumsSpec.post enc Tryd.prog Tryd.f5 false true false false) := by
  refine returnsInHanded_of_change_and (C := Tryd.checked) (X := fun w _ => laidMetH Tryd.prog laid1 w) (fun _ _ _ hh h => h.of_heap hh) own started (by kernel_rfl) Tryd.func5
    (ChangeSpec.witness_shaped (enc := enc) (C := Tryd.checked) (os := os) (X := fun w _ => laidMetH Tryd.prog laid1 w) false (World.doorLaid Tryd.prog 400 os) #[.slice none 0 0, .int .u8 0, .int .i64 0, .int .i32 0, .int .i32 0] 8 rfl (World.shaped_of_RefB (by kernel_rfl) (by kernel_rfl)) (by kernel_rfl) (by kernel_rfl) (by kernel_rfl) (door_met os _)) ?_
  intro W base args ds gs before hval0 hW _ _ hL _
  have hval : ∀ (j : Nat) t v, Tryd.f5.params[j]? = some t → args[j]? = some v → Value.okWide Tryd.prog W .any base t v := hval0
  have hW' := hW
  obtain ⟨p, q, hA0, hV, rfl, hfz, hnd⟩ := hW
  have hA : DataW.TrodAll enc Tryd.prog W 0 (fun _ => true) true Tryd.f5.params.toList args.toList ds p := hA0
  rw [Tryd.params5] at hA hval
  obtain ⟨v0, vs0, d0, ds0, p0, q0, hargs, rfl, rfl, h0, r0⟩ := trodAll_cons hA
  obtain ⟨v1, vs1, d1, ds1, p1, q1, rfl, rfl, rfl, h1, r1⟩ := trodAll_cons r0
  obtain ⟨v2, vs2, d2, ds2, p2, q2, rfl, rfl, rfl, h2, r2⟩ := trodAll_cons r1
  obtain ⟨v3, vs3, d3, ds3, p3, q3, rfl, rfl, rfl, h3, r3⟩ := trodAll_cons r2
  obtain ⟨v4, vs4, d4, ds4, p4, q4, rfl, rfl, rfl, h4, r4⟩ := trodAll_cons r3
  obtain ⟨rfl, rfl, rfl⟩ := trodAll_nil r4
  obtain rfl : args = #[v0, v1, v2, v3, v4] := by cases args; simp_all
  obtain ⟨rfl, rfl⟩ := trodVars_none hV
  obtain ⟨a0, len0, cap0, rfl⟩ := okWide_slice Tryd.underlying22 (hval 0 22 v0 rfl rfl)
  have k0 := h0
  have lt0 : ∀ x ∈ p0, x.block < W.heap.size := by obtain ⟨m, hm⟩ := k0; exact DataW.trod_lt m _ _ _ hm
  obtain ⟨z0, w0⟩ := open_ops (hval 0 22 _ rfl rfl) h0
  obtain ⟨a1, rfl, rfl, rfl, w1⟩ := open_int Tryd.underlying5 (hval 1 5 v1 rfl rfl) h1
  obtain ⟨a2, rfl, rfl, rfl, w2⟩ := open_int Tryd.underlying3 (hval 2 3 v2 rfl rfl) h2
  obtain ⟨a3, rfl, rfl, rfl, w3⟩ := open_int Tryd.underlying21 (hval 3 21 v3 rfl rfl) h3
  obtain ⟨a4, rfl, rfl, rfl, w4⟩ := open_int Tryd.underlying21 (hval 4 21 v4 rfl rfl) h4
  clear hA0 hval0
  refine (querySums_walk W (of_laid hL) a0 len0 cap0 z0 w0 a1 w1 a2 w2 a3 w3 a4 w4).mono fun e W' ⟨he, bel⟩ => ?_
  subst he
  exact ⟨_, rfl, _, _, _, [], _, [], hW', trodAll_mk1 (shut_bool Tryd.underlying4 _), (trodAll_cons_mk (Below.trod laidOut (by kernel_rfl) (of_decide_eq_true (by kernel_rfl)) k0 bel lt0) (trodAll_cons_mk (shut_int Tryd.underlying5 w1) (trodAll_cons_mk (shut_int Tryd.underlying3 w2) (trodAll_cons_mk (shut_int Tryd.underlying21 w3) (trodAll_cons_mk (shut_int Tryd.underlying21 w4) trodAll_mk0))))), rfl, bel.frame _, fun h => by cases h⟩

theorem querySums_row : Rows.QuerySumsSaid :=
  OpenClaim.holds_of_wide 5 Tryd.f5 rfl rfl rfl rfl rfl rfl rfl ⟨rfl, rfl, rfl, rfl, rfl⟩ rfl rfl rfl rfl rfl (by kernel_rfl) Tryd.func5 (by kernel_rfl)
    (of_decide_eq_true (by kernel_rfl)) (by unfold Func.isWrapper; first | (rw [if_pos (by decide +kernel)]; kernel_rfl) | (rw [if_neg (by decide +kernel)]; exact ⟨rfl, rfl⟩))
    (fun os started H enc _ => querySums_lifted os started H enc)

theorem querySums_holds : Rows.QuerySumsCardSaid :=
  Claim7.holds_tied_plain_at .later [] [.data] true (true, "04556a4b6792fb26c75233f38e14627ada0434a2715b058dc1340f8fbd7debb7") false
    querySums_row (fun _ h => by cases h) (by kernel_rfl) (fun _ h => by cases h) querySums_row_tie rfl ⟨rfl, rfl⟩ (by kernel_rfl) rfl
    (fun f fn hf hfn => by
      obtain rfl : f = 5 := Option.some.inj ((show Tryd.prog.funcNamed "pinnace/pinnacelaw12.QuerySums" = some 5 by kernel_rfl).symm.trans hf) |>.symm
      obtain rfl : fn = Tryd.f5 := (Option.some.inj (Tryd.func5.symm.trans hfn)).symm
      exact ⟨by kernel_rfl, fun j t ht => by
        rw [Tryd.params5] at ht
        have hm : t ∈ [22, 5, 3, 21, 21] := by simpa using Array.mem_of_getElem? ht
        have hall : ([22, 5, 3, 21, 21].all fun u => !Tryd.prog.wantsStandIn u) = true := by kernel_rfl
        exact (show Tryd.prog.wantsStandIn t = false by simpa using List.all_eq_true.1 hall t hm)⟩)
    (by kernel_rfl)

end Go.Proofs.YtcpknpgeiafkoaaDoor
