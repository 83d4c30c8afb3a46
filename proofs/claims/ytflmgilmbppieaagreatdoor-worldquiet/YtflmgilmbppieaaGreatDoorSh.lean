/-
  The document's Check.
-/
import Derived.Test.YtflmgilmbppieaaGreatDoorSg
namespace Go.Proofs.YtflmgilmbppieaaGreatDoor
open Go.RowKit
set_option linter.unusedVariables false
set_option maxRecDepth 100000

set_option maxHeartbeats 2000000 in
theorem rcheck_any (w : World) (k : Nat) (hk : k < 256) (F : Nat → Int) :
    Calls Tryz.prog 106 #[.agg (cmp k F)] w fun e w' => e = .returned (.int .i64 ((chk k F : Nat) : Int)) ∧ Fr Nobody w w' := by
  have hc := cnt_le k
  have HC : Hid (∀ w, Calls Tryz.prog 165 #[.int .u8 (k : Int)] w fun e w' => e = .returned (.int .i64 ((cnt k : Nat) : Int)) ∧ Fr Nobody w w') := fun w => rcount_any w k hk
  have HB : Hid (Box (w.alloc (.cells (cmp k F) 46)) w.heap.size k F) := Box.new w k F
  have HF : Hid (Fr Nobody w (w.alloc (.cells (cmp k F) 46))) := (Fr.refl _ _).alloc _
  by_cases h6 : 6 ≤ k
  · have e1 : chk k F = 1 := by unfold chk; rw [if_pos h6]
    rw [e1]
    rw [cnt_out k h6] at HC
    clear e1 hc
    unfold cmp at *
    go_enter Tryz.func106, Tryz.ntmps106
    go_wp2_with fail
    refine (HC.out _).mono ?_
    rintro e w1 ⟨rfl, hf1⟩
    have HF1 : Hid _ := HF.out.trans hf1
    clear hf1
    go_wp2
    go_ret
    exact ⟨rfl, HF1.out⟩
  · have h1 := cnt_pos k (by omega)
    obtain ⟨c, ec⟩ : ∃ c, cnt k = c := ⟨_, rfl⟩
    have EC : Hid (cnt k = c) := ec
    rw [ec] at hc HC h1
    clear ec
    have HS4 : Hid (stray k F = true → chk k F = 4) := fun h => by unfold chk; rw [if_neg h6, if_pos h]
    have HS5 : Hid (stray k F = false → outside k F = true → chk k F = 5) := fun h h' => by unfold chk; rw [if_neg h6, h, if_neg (by decide), if_pos h']
    have HS0 : Hid (stray k F = false → outside k F = false → chk k F = 0) := fun h h' => by unfold chk; rw [if_neg h6, h, h', if_neg (by decide), if_neg (by decide)]
    unfold cmp
    have hc0 : ((c : Int) == 0) = false := by rw [beq_eq_false_iff_ne]; omega
    clear h1
    go_enter Tryz.func106, Tryz.ntmps106
    go_wp2_with fail
    refine (HC.out _).mono ?_
    rintro e w1 ⟨rfl, hf1⟩
    have HF1 : Hid _ := HF.out.trans hf1
    have HB1 : Hid _ := HB.out.quiet hf1
    clear hf1
    go_wp2
    go_loopw [4] (fun a wr => ∃ j : Nat, c ≤ j ∧ j ≤ 3 ∧ a = .int .i64 j ∧ (∀ i, c ≤ i → i < j → F i = 0) ∧ Box wr w.heap.size k F ∧ Fr Nobody w wr) (fun b _ => 3 - (intOf b).toNat)
    case atStart => exact ⟨c, Nat.le_refl _, hc, rfl, fun i h1 h2 => by omega, HB1.out, HF1.out⟩
    case round =>
      obtain ⟨j, hcj, hj, rfl, hz, hb, hf⟩ := hrel
      have HZ : Hid (∀ i, c ≤ i → i < j → F i = 0) := hz
      have HG1 : Hid (Fr Nobody w wr) := hf
      have HB2 : Hid (Box wr w.heap.size k F) := hb
      clear hf hz hb
      by_cases hlt : j < 3
      · have hx := HB2.out.at j hlt
        by_cases h0 : F j = 0
        · have HZ2 : Hid (∀ i, c ≤ i → i < j + 1 → F i = 0) := by
            intro i h1 h2
            by_cases e : i = j
            · rw [e]; exact h0
            · exact HZ.out i h1 (by omega)
          rw [h0] at hx
          clear h0
          go_wp2
          go_roundw
          case rel => exact ⟨j + 1, by omega, by omega, by go_num, HZ2.out, HB2.out, HG1.out⟩
          case measure => simp [intOf]; omega
        · have HS : Hid (chk k F = 4) := HS4.out (stray_true k j F (by rw [EC.out]; exact hcj) hlt h0)
          have h1 : (F j != 0) = true := by simpa using h0
          generalize F j = x at *
          clear h0
          go_wp2
          go_ret
          exact ⟨by rw [HS.out]; rfl, HG1.out⟩
      · have HS : Hid (stray k F = false) := stray_false k F (fun i h1 h2 => HZ.out i (by rw [← EC.out]; exact h1) (by omega))
        clear HZ hcj
        go_wp2
        clear HB HB1 HF HF1 HC
        go_loopw [25] (fun a wq => ∃ i : Nat, i ≤ c ∧ a = .int .i64 i ∧ (∀ t, t < i → lo k t ≤ F t ∧ F t ≤ hi k t) ∧ Box wq w.heap.size k F ∧ Fr Nobody w wq) (fun b _ => c - (intOf b).toNat)
        case atStart => exact ⟨0, Nat.zero_le _, rfl, fun i h1 => by omega, HB2.out, HG1.out⟩
        case round =>
          obtain ⟨i, hi0, rfl, hz, hb, hf⟩ := hrel
          have HZ : Hid (∀ t, t < i → lo k t ≤ F t ∧ F t ≤ hi k t) := hz
          have HG : Hid (Fr Nobody w wr) := hf
          have HB3 : Hid (Box wr w.heap.size k F) := hb
          clear hf hz hb
          by_cases hlt2 : i < c
          · have hk0 := HB3.out.kind
            have HR : Hid (∀ w, Calls Tryz.prog 166 #[.int .u8 (k : Int), .int .i64 (i : Int)] w fun e w' => e = .returned (.tuple #[.int .i32 (lo k i), .int .i32 (hi k i), .int .i64 0]) ∧ Fr Nobody w w') := fun w => rrange_ok w k i (by rw [EC.out]; exact hlt2)
            by_cases h0 : F i < lo k i
            · have HO : Hid (chk k F = 5) := HS5.out HS.out (outside_true k i F (by rw [EC.out]; exact hlt2) (.inl h0))
              go_wp2_with fail
              refine (HR.out _).mono ?_
              rintro e w2 ⟨rfl, hf2⟩
              have HG2 : Hid _ := HG.out.trans hf2
              have hx := (HB3.out.quiet hf2).at i (by omega)
              clear hf2 HR
              generalize F i = x at *
              generalize lo k i = a at *
              generalize hi k i = b at *
              go_wp2
              go_ret
              exact ⟨by rw [HO.out]; rfl, HG2.out⟩
            · by_cases h1 : hi k i < F i
              · have HO : Hid (chk k F = 5) := HS5.out HS.out (outside_true k i F (by rw [EC.out]; exact hlt2) (.inr h1))
                go_wp2_with fail
                refine (HR.out _).mono ?_
                rintro e w2 ⟨rfl, hf2⟩
                have HG2 : Hid _ := HG.out.trans hf2
                have hx := (HB3.out.quiet hf2).at i (by omega)
                clear hf2 HR
                generalize F i = x at *
                generalize lo k i = a at *
                generalize hi k i = b at *
                have d0 : decide (x < a) = false := by simpa using h0
                have d1 : decide (b < x) = true := by simpa using h1
                clear h0 h1
                go_wp2
                go_ret
                exact ⟨by rw [HO.out]; rfl, HG2.out⟩
              · have HZ2 : Hid (∀ t, t < i + 1 → lo k t ≤ F t ∧ F t ≤ hi k t) := by
                  intro t h2
                  by_cases e : t = i
                  · rw [e]; omega
                  · exact HZ.out t (by omega)
                go_wp2_with fail
                refine (HR.out _).mono ?_
                rintro e w2 ⟨rfl, hf2⟩
                have HG2 : Hid _ := HG.out.trans hf2
                have HB4 : Hid (Box w2 w.heap.size k F) := HB3.out.quiet hf2
                have hx := HB4.out.at i (by omega)
                clear hf2 HR
                generalize F i = x at *
                generalize lo k i = a at *
                generalize hi k i = b at *
                have d0 : decide (x < a) = false := by simpa using h0
                have d1 : decide (b < x) = false := by simpa using h1
                clear h0 h1
                go_wp2
                go_roundw
                case rel => exact ⟨i + 1, by omega, by go_num, HZ2.out, HB4.out, HG2.out⟩
                case measure => simp [intOf]; omega
          · have HO : Hid (chk k F = 0) := HS0.out HS.out (outside_false k F (fun t h1 => HZ.out t (by rw [EC.out] at h1; omega)))
            go_wp2
            go_ret
            exact ⟨by rw [HO.out]; rfl, HG.out⟩

/-- three fields -/
def f3 (a b c : Int) : Nat → Int
  | 0 => a
  | 1 => b
  | 2 => c
  | _ => 0
theorem check3 (w : World) (ht : Tab w) (k : Nat) (hk : k < 256) (a b c : Int) :
    Calls Tryz.prog 93 #[.agg #[.int .u8 (k : Int), .int .i32 a, .int .i32 b, .int .i32 c]] w fun e w' => e = .returned (.int .i64 ((chk k (f3 a b c) : Nat) : Int)) ∧ Fr Nobody w w' := check_any w ht k hk (f3 a b c)
theorem rcheck3 (w : World) (k : Nat) (hk : k < 256) (a b c : Int) :
    Calls Tryz.prog 106 #[.agg #[.int .u8 (k : Int), .int .i32 a, .int .i32 b, .int .i32 c]] w fun e w' => e = .returned (.int .i64 ((chk k (f3 a b c) : Nat) : Int)) ∧ Fr Nobody w w' := rcheck_any w k hk (f3 a b c)
end Go.Proofs.YtflmgilmbppieaaGreatDoor
