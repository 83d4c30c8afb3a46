/-
  Orders: when one is right, in the program and in the document.
-/
import Derived.Test.YtplimgfimdchpaaGreatDoorSn
import Derived.Deep.RegionHeld3
namespace Go.Proofs.YtplimgfimdchpaaGreatDoor
open Go.RowKit
set_option linter.unusedVariables false
set_option maxRecDepth 100000

/-- the error of an order -/
def ock (d k : Nat) (C : List Cp) : Nat :=
  if d = 1 then lst (-1) C else if d = 2 then (if C.length = 0 then 0 else 4) else if d = 3 ∨ d = 4 then (if C.length = 1 then (C.headD ⟨0, 0, 0, 0⟩).chk else 4) else if d = 5 then (if 5 < k then 1 else if C.length = 0 then 0 else 4) else 1
theorem ock_bad (d k : Nat) (C : List Cp) (h : d < 1 ∨ 5 < d) : ock d k C = 1 := by
  unfold ock
  rw [if_neg (by omega), if_neg (by omega), if_neg (by omega), if_neg (by omega)]
theorem lst_le (C : List Cp) : ∀ p, lst p C ≤ 5 := by
  induction C with
  | nil => intro p; simp [lst]
  | cons q t ih =>
    intro p
    unfold lst
    split
    · exact chk_lt q
    · split
      · decide
      · exact ih _
theorem ock_le (d k : Nat) (C : List Cp) : ock d k C ≤ 5 := by
  unfold ock
  split
  · exact lst_le C _
  · split
    · split <;> decide
    · split
      · split
        · exact chk_lt _
        · decide
      · split
        · split
          · decide
          · split <;> decide
        · decide
set_option maxHeartbeats 400000 in
theorem onone (w : World) (ao : Option Addr) (len cap : Nat) : Calls Tryz.prog 46 #[.slice ao len cap] w fun e w' => e = .returned (.int .i64 (((if len = 0 then 0 else 4 : Nat)) : Int)) ∧ w' = w := by
  by_cases h : len = 0
  · subst h
    go_enter Tryz.func46, Tryz.ntmps46
    go_wp2
    go_ret
    exact ⟨rfl, rfl⟩
  · rw [if_neg h]
    have h' : (0 : Int) < (len : Int) := by omega
    go_enter Tryz.func46, Tryz.ntmps46
    go_wp2
    go_ret
    exact ⟨rfl, rfl⟩
set_option maxHeartbeats 400000 in
theorem oone (w : World) (ht : Tab w) (ao : Option Addr) (len cap : Nat) (C : List Cp) (hl : C.length = len) (hs : Cs w ao C) (hk : ∀ q ∈ C, q.k < 256) : Calls Tryz.prog 47 #[.slice ao len cap] w fun e w' => e = .returned (.int .i64 (((if C.length = 1 then (C.headD ⟨0, 0, 0, 0⟩).chk else 4 : Nat)) : Int)) ∧ Fr Nobody w w' := by
  by_cases h : len = 1
  · obtain ⟨q, rfl⟩ : ∃ q, C = [q] := List.length_eq_one_iff.1 (by omega)
    have hq := hk q (by simp)
    obtain ⟨g, o, rfl, _, c0, c1, c2, c3⟩ := hs.at 0 q rfl
    have HC : Hid (Calls _ _ _ _ _) := check3 w ht q.k hq q.a q.b q.c
    simp at c0 c1 c2 c3
    rw [show (if [q].length = 1 then ([q].headD ⟨0, 0, 0, 0⟩).chk else 4) = q.chk from rfl]
    subst h
    clear hl hs hk ht
    go_enter Tryz.func47, Tryz.ntmps47
    go_wp2_with fail
    refine HC.out.mono ?_
    rintro e w1 ⟨rfl, hf⟩
    go_wp2
    go_ret
    exact ⟨rfl, hf⟩
  · rw [if_neg (by omega)]
    have h' : ((len : Int) == (1 : Int)) = false := by simp; omega
    clear hs hk ht
    go_enter Tryz.func47, Tryz.ntmps47
    go_wp2
    go_ret
    exact ⟨rfl, Fr.refl _ _⟩

set_option maxHeartbeats 1000000 in
theorem ocheck (w : World) (ht : Tab w) (d id k : Nat) (hk : k < 256) (ao : Option Addr) (len cap : Nat) (C : List Cp) (hl : C.length = len) (hs : Cs w ao C) (hCk : ∀ q ∈ C, q.k < 256) (hm : len ≤ 1000000) :
    Calls Tryz.prog 27 #[.agg #[.int .u8 (d : Int), .int .u32 (id : Int), .int .u8 (k : Int), .slice ao len cap]] w fun e w' => e = .returned (.int .i64 ((ock d k C : Nat) : Int)) ∧ Fr Nobody w w' := by
  have HL : Hid (∀ w', Fr Nobody w w' → Calls Tryz.prog 45 #[.slice ao len cap] w' fun e w'' => e = .returned (.int .i64 ((lst (-1) C : Nat) : Int)) ∧ Fr Nobody w' w'') := fun w' hf => list_any w' (ht.quiet hf) ao len cap C hl (hs.quiet hf) hCk hm
  have HN : Hid (∀ w', Calls Tryz.prog 46 #[.slice ao len cap] w' fun e w'' => e = .returned (.int .i64 (((if C.length = 0 then 0 else 4 : Nat)) : Int)) ∧ w'' = w') := fun w' => by rw [hl]; exact onone w' ao len cap
  have HO : Hid (∀ w', Fr Nobody w w' → Calls Tryz.prog 47 #[.slice ao len cap] w' fun e w'' => e = .returned (.int .i64 (((if C.length = 1 then (C.headD ⟨0, 0, 0, 0⟩).chk else 4 : Nat)) : Int)) ∧ Fr Nobody w' w'') := fun w' hf => oone w' (ht.quiet hf) ao len cap C hl (hs.quiet hf) hCk
  have HC : Hid (∀ w', Fr Nobody w w' → Calls Tryz.prog 48 #[.int .u8 (k : Int)] w' fun e w'' => e = .returned (.int .i64 ((cnt k : Nat) : Int)) ∧ w'' = w') := fun w' hf => count_any w' (ht.quiet hf) k hk
  clear ht hs hCk hl
  by_cases hd : d < 1 ∨ 5 < d
  · rw [ock_bad d k C hd]
    have d1 : ¬ (d : Int) = 1 := by omega
    have d2 : ¬ (d : Int) = 2 := by omega
    have d3 : ¬ (d : Int) = 3 := by omega
    have d4 : ¬ (d : Int) = 4 := by omega
    have d5 : ¬ (d : Int) = 5 := by omega
    clear hd
    go_enter Tryz.func27, Tryz.ntmps27
    go_wp2
    go_ret
    exact ⟨rfl, (Fr.refl _ _).alloc _⟩
  · have : d = 1 ∨ d = 2 ∨ d = 3 ∨ d = 4 ∨ d = 5 := by omega
    clear hd
    rcases this with rfl | rfl | rfl | rfl | rfl
    · have hv : ock 1 k C = lst (-1) C := rfl
      rw [hv]
      clear hv
      generalize lst (-1) C = x at *
      go_enter Tryz.func27, Tryz.ntmps27
      go_wp2_with fail
      refine (HL.out _ ((Fr.refl _ _).alloc _)).mono ?_
      rintro e w1 ⟨rfl, hf⟩
      go_wp2
      go_ret
      exact ⟨rfl, ((Fr.refl _ _).alloc _).trans hf⟩
    · have hv : ock 2 k C = (if C.length = 0 then 0 else 4) := rfl
      rw [hv]
      clear hv
      generalize (if C.length = 0 then 0 else 4) = x at *
      go_enter Tryz.func27, Tryz.ntmps27
      go_wp2_with fail
      refine (HN.out _).mono ?_
      rintro e w1 ⟨rfl, rfl⟩
      go_wp2
      go_ret
      exact ⟨rfl, ((Fr.refl _ _).alloc _)⟩
    · have hv : ock 3 k C = (if C.length = 1 then (C.headD ⟨0, 0, 0, 0⟩).chk else 4) := rfl
      rw [hv]
      clear hv
      generalize (if C.length = 1 then (C.headD ⟨0, 0, 0, 0⟩).chk else 4) = x at *
      go_enter Tryz.func27, Tryz.ntmps27
      go_wp2_with fail
      refine (HO.out _ ((Fr.refl _ _).alloc _)).mono ?_
      rintro e w1 ⟨rfl, hf⟩
      go_wp2
      go_ret
      exact ⟨rfl, ((Fr.refl _ _).alloc _).trans hf⟩
    · have hv : ock 4 k C = (if C.length = 1 then (C.headD ⟨0, 0, 0, 0⟩).chk else 4) := rfl
      rw [hv]
      clear hv
      generalize (if C.length = 1 then (C.headD ⟨0, 0, 0, 0⟩).chk else 4) = x at *
      go_enter Tryz.func27, Tryz.ntmps27
      go_wp2_with fail
      refine (HO.out _ ((Fr.refl _ _).alloc _)).mono ?_
      rintro e w1 ⟨rfl, hf⟩
      go_wp2
      go_ret
      exact ⟨rfl, ((Fr.refl _ _).alloc _).trans hf⟩
    · by_cases h5 : 5 < k
      · have hv : ock 5 k C = 1 := by unfold ock; simp [h5]
        rw [hv]
        rw [cnt_out k h5] at HC
        clear hv
        go_enter Tryz.func27, Tryz.ntmps27
        go_wp2_with fail
        refine (HC.out _ ((Fr.refl _ _).alloc _)).mono ?_
        rintro e w1 ⟨rfl, rfl⟩
        go_wp2
        go_ret
        exact ⟨rfl, (Fr.refl _ _).alloc _⟩
      · have hv : ock 5 k C = (if C.length = 0 then 0 else 4) := by unfold ock; simp [h5]
        rw [hv]
        have hc := cnt_pos k (by omega)
        generalize cnt k = n at *
        have hc' : ¬ (n : Int) = 0 := by omega
        clear hv
        generalize (if C.length = 0 then 0 else 4) = x at *
        go_enter Tryz.func27, Tryz.ntmps27
        go_wp2_with fail
        refine (HC.out _ ((Fr.refl _ _).alloc _)).mono ?_
        rintro e w1 ⟨rfl, rfl⟩
        go_wp2_with fail
        refine (HN.out _).mono ?_
        rintro e w1 ⟨rfl, rfl⟩
        go_wp2
        go_ret
        exact ⟨rfl, (Fr.refl _ _).alloc _⟩

set_option maxHeartbeats 1000000 in
theorem rocheck (w : World) (d id k : Nat) (hk : k < 256) (ao : Option Addr) (len cap : Nat) (C : List Cp) (hl : C.length = len) (hs : Cs w ao C) (hCk : ∀ q ∈ C, q.k < 256) (hm : len ≤ 1000000) :
    Calls Tryz.prog 31 #[.agg #[.int .u8 (d : Int), .int .u32 (id : Int), .int .u8 (k : Int), .slice ao len cap]] w fun e w' => e = .returned (.int .i64 ((ock d k C : Nat) : Int)) ∧ Fr Nobody w w' := by
  have HL : Hid (∀ w', Fr Nobody w w' → Calls Tryz.prog 54 #[.slice ao len cap] w' fun e w'' => e = .returned (.int .i64 ((lst (-1) C : Nat) : Int)) ∧ Fr Nobody w' w'') := fun w' hf => rlist_any w' ao len cap C hl (hs.quiet hf) hCk hm
  by_cases hd : d < 1 ∨ 5 < d
  · rw [ock_bad d k C hd]
    by_cases h0 : d < 1
    · have d1 : (d : Int) < 1 := by omega
      clear hd
      go_enter Tryz.func31, Tryz.ntmps31
      go_wp2
      go_ret
      exact ⟨rfl, (Fr.refl _ _).alloc _⟩
    · have d1 : ¬ (d : Int) < 1 := by omega
      have d5 : (5 : Int) < (d : Int) := by omega
      clear hd
      go_enter Tryz.func31, Tryz.ntmps31
      go_wp2
      go_ret
      exact ⟨rfl, (Fr.refl _ _).alloc _⟩
  · have : d = 1 ∨ d = 2 ∨ d = 3 ∨ d = 4 ∨ d = 5 := by omega
    clear hd
    rcases this with rfl | rfl | rfl | rfl | rfl
    · have hv : ock 1 k C = lst (-1) C := rfl
      rw [hv]
      clear hv
      go_enter Tryz.func31, Tryz.ntmps31
      go_wp2_with fail
      refine (HL.out _ ((Fr.refl _ _).alloc _)).mono ?_
      rintro e w1 ⟨rfl, hf⟩
      go_wp2
      go_ret
      exact ⟨rfl, ((Fr.refl _ _).alloc _).trans hf⟩
    · have hv : ock 2 k C = (if C.length = 0 then 0 else 4) := by unfold ock; simp
      rw [hv]
      clear hv HL hs hCk
      by_cases h0 : len = 0
      · subst h0
        rw [hl, if_pos rfl]
        go_enter Tryz.func31, Tryz.ntmps31
        go_wp2
        go_ret
        exact ⟨rfl, (Fr.refl _ _).alloc _⟩
      · have h0' : ¬ (len : Int) = 0 := by omega
        rw [hl, if_neg h0]
        go_enter Tryz.func31, Tryz.ntmps31
        go_wp2
        go_ret
        exact ⟨rfl, (Fr.refl _ _).alloc _⟩
    · have hv : ock 3 k C = (if C.length = 1 then (C.headD ⟨0, 0, 0, 0⟩).chk else 4) := rfl
      rw [hv]
      clear hv HL
      by_cases h : len = 1
      · obtain ⟨q, rfl⟩ : ∃ q, C = [q] := List.length_eq_one_iff.1 (by omega)
        have hq := hCk q (by simp)
        obtain ⟨g, o, rfl, _, c0, c1, c2, c3⟩ := hs.at 0 q rfl
        have HC : Hid (∀ w', Calls Tryz.prog 55 #[.agg #[.int .u8 (q.k : Int), .int .i32 q.a, .int .i32 q.b, .int .i32 q.c]] w' fun e w'' => e = .returned (.int .i64 ((q.chk : Nat) : Int)) ∧ Fr Nobody w' w'') := fun w' => rcheck3 w' q.k hq q.a q.b q.c
        have c0 := c0
        simp at c0 c1 c2 c3
        have hg := World.block_lt_of_cell? w _ c0
        rw [show (if [q].length = 1 then ([q].headD ⟨0, 0, 0, 0⟩).chk else 4) = q.chk from rfl]
        subst h
        clear hl hs hCk
        go_enter Tryz.func31, Tryz.ntmps31
        go_wp2_with fail
        refine (HC.out _).mono ?_
        rintro e w1 ⟨rfl, hf⟩
        go_wp2
        go_ret
        exact ⟨rfl, ((Fr.refl _ _).alloc _).trans hf⟩
      · rw [if_neg (by omega)]
        have h' : ¬ (len : Int) = 1 := by omega
        clear hs hCk
        go_enter Tryz.func31, Tryz.ntmps31
        go_wp2
        go_ret
        exact ⟨rfl, (Fr.refl _ _).alloc _⟩
    · have hv : ock 4 k C = (if C.length = 1 then (C.headD ⟨0, 0, 0, 0⟩).chk else 4) := rfl
      rw [hv]
      clear hv HL
      by_cases h : len = 1
      · obtain ⟨q, rfl⟩ : ∃ q, C = [q] := List.length_eq_one_iff.1 (by omega)
        have hq := hCk q (by simp)
        obtain ⟨g, o, rfl, _, c0, c1, c2, c3⟩ := hs.at 0 q rfl
        have HC : Hid (∀ w', Calls Tryz.prog 55 #[.agg #[.int .u8 (q.k : Int), .int .i32 q.a, .int .i32 q.b, .int .i32 q.c]] w' fun e w'' => e = .returned (.int .i64 ((q.chk : Nat) : Int)) ∧ Fr Nobody w' w'') := fun w' => rcheck3 w' q.k hq q.a q.b q.c
        have c0 := c0
        simp at c0 c1 c2 c3
        have hg := World.block_lt_of_cell? w _ c0
        rw [show (if [q].length = 1 then ([q].headD ⟨0, 0, 0, 0⟩).chk else 4) = q.chk from rfl]
        subst h
        clear hl hs hCk
        go_enter Tryz.func31, Tryz.ntmps31
        go_wp2_with fail
        refine (HC.out _).mono ?_
        rintro e w1 ⟨rfl, hf⟩
        go_wp2
        go_ret
        exact ⟨rfl, ((Fr.refl _ _).alloc _).trans hf⟩
      · rw [if_neg (by omega)]
        have h' : ¬ (len : Int) = 1 := by omega
        clear hs hCk
        go_enter Tryz.func31, Tryz.ntmps31
        go_wp2
        go_ret
        exact ⟨rfl, (Fr.refl _ _).alloc _⟩
    · by_cases h5 : 5 < k
      · have hv : ock 5 k C = 1 := by unfold ock; simp [h5]
        rw [hv]
        have h5' : (5 : Int) < (k : Int) := by omega
        clear hv HL
        go_enter Tryz.func31, Tryz.ntmps31
        go_wp2
        go_ret
        exact ⟨rfl, (Fr.refl _ _).alloc _⟩
      · have h5' : ¬ (5 : Int) < (k : Int) := by omega
        have hv : ock 5 k C = (if C.length = 0 then 0 else 4) := by unfold ock; simp [h5]
        rw [hv]
        clear hv HL hs hCk
        by_cases h0 : len = 0
        · subst h0
          rw [hl, if_pos rfl]
          go_enter Tryz.func31, Tryz.ntmps31
          go_wp2
          go_ret
          exact ⟨rfl, (Fr.refl _ _).alloc _⟩
        · have h0' : ¬ (len : Int) = 0 := by omega
          rw [hl, if_neg h0]
          go_enter Tryz.func31, Tryz.ntmps31
          go_wp2
          go_ret
          exact ⟨rfl, (Fr.refl _ _).alloc _⟩
end Go.Proofs.YtplimgfimdchpaaGreatDoor
