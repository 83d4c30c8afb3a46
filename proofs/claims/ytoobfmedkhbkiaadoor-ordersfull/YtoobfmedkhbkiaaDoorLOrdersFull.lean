/-
  So many orders wait and no more: OrdersFull returns true, whatever its argument, where the table of the components lies as the program's text lays it, and changes nothing that was there.
-/
import Derived.Test.YtoobfmedkhbkiaaDoorQf
import Derived.OpenShut
import Derived.SevenTiedAt
namespace Go.Proofs.YtoobfmedkhbkiaaDoor
open Go.ChangeShapes Go.WideShapes Go.ChangeAt Go.RowKit
set_option linter.unusedVariables false
set_option maxRecDepth 100000

set_option maxHeartbeats 2000000 in
theorem ordersFull_fr (w : World) (ht : Tab w) (m : Nat) (hm : m < 256) :
    Calls Tryd.prog 5 #[.int .u8 (m : Int)] w fun e w' => e = .returned (.bool true) ∧ Fr Nobody w w' := by
  have HT : Hid (Tab w) := ht
  have HPU : Hid (∀ w' b E, Own w w' [Buf b E] → E.length < 256 → Calls Tryd.prog 12 #[.pointer (some ⟨b, 0, none⟩), .agg #[.int .u8 1, .int .u32 0, .int .u8 0, .slice none 0 0]] w' fun e w'' => e = .returned (.int .i64 0) ∧ ∃ a c, Own w w'' [Buf b (E ++ [{ o1 with ao := a, cap := c }])]) := fun w' b E h' hE => push_ok w w' [] b E ht h' o1 o1_in (fun _ _ => .inl rfl) o1_ck hE
  have HPF : Hid (∀ w' b E, Own w w' [Buf b E] → 256 ≤ E.length → Calls Tryd.prog 12 #[.pointer (some ⟨b, 0, none⟩), .agg #[.int .u8 1, .int .u32 0, .int .u8 0, .slice none 0 0]] w' fun e w'' => e = .returned (.int .i64 8) ∧ Own w w'' [Buf b E]) := fun w' b E h' hE => push_full w w' [] b E ht h' o1 o1_in (fun _ _ => .inl rfl) o1_ck hE
  have HPL : Hid (∀ w' b l, Own w w' (Buf b [] :: l) → Calls Tryd.prog 12 #[.pointer (some ⟨b, 0, none⟩), .agg #[.int .u8 1, .int .u32 0, .int .u8 0, .slice none 0 0]] w' fun e w'' => e = .returned (.int .i64 0) ∧ ∃ a c, Own w w'' (Buf b ([] ++ [{ o1 with ao := a, cap := c }]) :: l)) := fun w' b l h' => push_ok w w' l b [] ht h' o1 o1_in (fun _ _ => .inl rfl) o1_ck (by decide)
  clear ht
  go_enter Tryd.func5, Tryd.ntmps5
  go_wp2_with fail
  refine (awake13 w w [] HT.out (Own.start _)).mono ?_
  rintro e w1 ⟨rfl, hO1⟩
  have H1 : Hid (Own w w1 []) := hO1
  clear hO1
  go_wp2_with fail
  refine (onew w w1 [] H1.out).mono ?_
  rintro e w2 ⟨b, rfl, hO2⟩
  have H2 : Hid (Own w w2 [Buf b []]) := hO2
  clear hO2 H1
  go_wp2
  go_loopw [7] (fun cc wr => ∃ (k : Nat) (E : List OrdE), k ≤ 256 ∧ cc = .int .i64 k ∧ E.length = k ∧ Own w wr [Buf b E]) (fun cc _ => 256 - (intOf cc).toNat)
  case atStart => exact ⟨0, [], by decide, rfl, rfl, H2.out⟩
  case round =>
    obtain ⟨k, E, hk, rfl, hE, hO⟩ := hrel
    have HO : Hid (Own w wr [Buf b E]) := hO
    clear hO H2
    by_cases hlt : k < 256
    · have hlt' : (k : Int) < 256 := by omega
      go_wp2_with fail
      refine (HPU.out _ _ _ HO.out (by omega)).mono ?_
      rintro e w3 ⟨rfl, a, c, hO3⟩
      have H3 : Hid (Own w w3 _) := hO3
      clear hO3 HO
      go_wp2
      go_roundw
      case rel => exact ⟨k + 1, _, by omega, by go_num, by rw [List.length_append, hE]; rfl, H3.out⟩
      case measure => simp [intOf]; omega
    · have hlt' : ¬ (k : Int) < 256 := by omega
      have hk2 : k = 256 := by omega
      obtain ⟨r, hr⟩ : ∃ r, r = m % 5 := ⟨_, rfl⟩
      have hr5 : r < 5 := by omega
      have hmr : (m : Int) % 5 = (r : Int) := by omega
      obtain ⟨q, hq⟩ : ∃ q, q = 1 + r := ⟨_, rfl⟩
      clear hr
      subst hk2
      go_wp2
      go_loopw [17] (fun cc wr => ∃ j : Nat, j ≤ q ∧ cc = .int .u8 j ∧ Own w wr [Buf b E]) (fun cc _ => q - (intOf cc).toNat)
      case atStart => exact ⟨0, Nat.zero_le _, rfl, HO.out⟩
      case round =>
        obtain ⟨j, hj, rfl, hO⟩ := hrel
        have HP : Hid (Own w wr [Buf b E]) := hO
        clear hO HO
        by_cases hjq : j < q
        · have hjq' : (j : Int) < 1 + (r : Int) := by omega
          go_wp2_with fail
          refine (HPF.out _ _ _ HP.out (by omega)).mono ?_
          rintro e w3 ⟨rfl, hO3⟩
          have H3 : Hid (Own w w3 [Buf b E]) := hO3
          have HL3 : Hid (Calls _ _ _ _ _) := olen w w3 [] b E hO3
          rw [hE] at HL3
          clear hO3 HP
          go_wp2_with fail
          refine HL3.out.mono ?_
          rintro e w4 ⟨rfl, rfl⟩
          go_wp2
          go_roundw
          case rel => exact ⟨j + 1, by omega, by go_num, H3.out⟩
          case measure => simp [intOf]; omega
        · have hjq' : ¬ (j : Int) < 1 + (r : Int) := by omega
          have HTK : Hid (Calls _ _ _ _ _) := otake w wr [] b E HP.out
          rw [hE] at HTK
          clear HP
          go_wp2_with fail
          refine HTK.out.mono ?_
          rintro e w3 ⟨a3, c3, rfl, hO3⟩
          have HP3 : Hid (Calls _ _ _ _ _) := HPL.out _ _ _ hO3
          clear hO3 HTK
          go_wp2_with fail
          refine HP3.out.mono ?_
          rintro e w4 ⟨rfl, a4, c4, hO4⟩
          have H4 : Hid (Own w w4 _) := hO4
          clear hO4 HP3
          go_wp2
          go_ret
          exact ⟨rfl, H4.out.fr⟩
theorem ordersFull_walk (w : World) (ht : Tab w) (a0 : Int) (w0 : (Lit.int .u8 a0).wf = true) :
    Calls Tryd.prog 5 #[.int .u8 a0] w fun e w' => e = .returned (.bool true) ∧ Below w.heap.size w w' := by
  obtain ⟨m, rfl, hm⟩ := ok8_nat w0
  refine (ordersFull_fr w ht m hm).mono ?_
  rintro e w' ⟨rfl, hf⟩
  exact ⟨rfl, hf.below (Nat.le_refl _) (fun _ _ h => h)⟩
theorem ordersFull_lifted (os : Os) (started : os.Started) (H : Type) (enc : TypeId × Value → H) :
    ReturnsInHanded {} Tryd.checked os 5 .any (fun w args => (Rows.ordersFullSpec.pre enc Tryd.prog Tryd.f5 [] false w args ∧ laidMetH Tryd.prog laid1 w) ∧ sizedMet enc Tryd.prog Tryd.f5 (OpenSpec.ofChange Rows.ordersFullSpec) false w args) (Rows.ordersFullSpec.post enc Tryd.prog Tryd.f5 false true false false) := by
  refine returnsInHanded_of_change_and (C := Tryd.checked) (X := fun w _ => laidMetH Tryd.prog laid1 w) (fun _ _ _ hh h => h.of_heap hh) own started (by kernel_rfl) Tryd.func5
    (ChangeSpec.witness_shaped (enc := enc) (C := Tryd.checked) (os := os) (X := fun w _ => laidMetH Tryd.prog laid1 w) false (World.doorLaid Tryd.prog 400 os) #[.int .u8 0] 8 rfl (World.shaped_of_RefB (by kernel_rfl) (by kernel_rfl)) (by kernel_rfl) (by kernel_rfl) (by kernel_rfl) (door_met os _)) ?_
  intro W base args ds gs before hval0 hW _ _ hL _
  have hval : ∀ (j : Nat) t v, Tryd.f5.params[j]? = some t → args[j]? = some v → Value.okWide Tryd.prog W .any base t v := hval0
  have hW' := hW
  obtain ⟨p, q, hA0, hV, rfl, hfz, hnd⟩ := hW
  have hA : DataW.TrodAll enc Tryd.prog W 0 (fun _ => true) true Tryd.f5.params.toList args.toList ds p := hA0
  rw [Tryd.params5] at hA hval
  obtain ⟨v0, vs0, d0, ds0, p0, q0, hargs, rfl, rfl, h0, r0⟩ := trodAll_cons hA
  obtain ⟨rfl, rfl, rfl⟩ := trodAll_nil r0
  obtain rfl : args = #[v0] := by cases args; simp_all
  obtain ⟨rfl, rfl⟩ := trodVars_none hV
  obtain ⟨a0, rfl, rfl, rfl, w0⟩ := open_int Tryd.underlying5 (hval 0 5 v0 rfl rfl) h0
  clear hA0 hval0
  refine (ordersFull_walk W (of_laid hL) a0 w0).mono fun e W' ⟨he, bel⟩ => ?_
  subst he
  exact ⟨_, rfl, _, _, _, [], _, [], hW', trodAll_mk1 (shut_bool Tryd.underlying4 _), (trodAll_cons_mk (shut_int Tryd.underlying5 w0) trodAll_mk0), rfl, bel.frame _, fun h => by cases h⟩

theorem ordersFull_row : Rows.OrdersFullSaid :=
  OpenClaim.holds_of_wide 5 Tryd.f5 rfl rfl rfl rfl rfl rfl rfl ⟨rfl, rfl, rfl, rfl, rfl⟩ rfl rfl rfl rfl rfl (by kernel_rfl) Tryd.func5 (by kernel_rfl)
    (of_decide_eq_true (by kernel_rfl)) (by unfold Func.isWrapper; first | (rw [if_pos (by decide +kernel)]; kernel_rfl) | (rw [if_neg (by decide +kernel)]; exact ⟨rfl, rfl⟩))
    (fun os started H enc _ => ordersFull_lifted os started H enc)

theorem ordersFull_holds : Rows.OrdersFullCardSaid :=
  Claim7.holds_tied_plain_at .later [] [.data] true (true, "4723d8cf68faffe3bf4e039719e53f5780cf732191568c6d7ac14a548bb269ec") false
    ordersFull_row (fun _ h => by cases h) (by kernel_rfl) (fun _ h => by cases h) ordersFull_row_tie rfl ⟨rfl, rfl⟩ (by kernel_rfl) rfl
    (fun f fn hf hfn => by
      obtain rfl : f = 5 := Option.some.inj ((show Tryd.prog.funcNamed "pinnace/pinnacelaw13.OrdersFull" = some 5 by kernel_rfl).symm.trans hf) |>.symm
      obtain rfl : fn = Tryd.f5 := (Option.some.inj (Tryd.func5.symm.trans hfn)).symm
      exact ⟨by kernel_rfl, fun j t ht => by
        rw [Tryd.params5] at ht
        have hm : t ∈ [5] := by simpa using Array.mem_of_getElem? ht
        have hall : ([5].all fun u => !Tryd.prog.wantsStandIn u) = true := by kernel_rfl
        exact (show Tryd.prog.wantsStandIn t = false by simpa using List.all_eq_true.1 hall t hm)⟩)
    (by kernel_rfl)

end Go.Proofs.YtoobfmedkhbkiaaDoor
