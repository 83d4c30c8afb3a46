/-
  Orders: when one is right, in the program and in the document.
-/
import Derived.Test.YtflmgilmbppieaaGreatDoorSn
import Derived.Deep.RegionHeld3
import Derived.Test.YtflmgilmbppieaaGreatDoorOb
import Derived.Test.YtflmgilmbppieaaGreatDoorOg
namespace Go.Proofs.YtflmgilmbppieaaGreatDoor
open Go.RowKit
set_option linter.unusedVariables false
set_option maxRecDepth 100000

/-- the error of an order -/
def ock (d k : Nat) (C : List Cp) : Nat :=
  if d = 1 then lst (-1) C else if d = 2 then (if C.length = 0 then 0 else 4) else if d = 3 ∨ d = 4 then (if C.length = 1 then (C.headD ⟨0, 0, 0, 0⟩).chk else 4) else if d = 5 then (if 5 < k then 1 else if C.length = 0 then 0 else 4) else 1
theorem ock_bad (d k : Nat) (C : List Cp) (h : d < 1 ∨ 5 < d) : ock d k C = 1 := by
  unfold ock
  rw [if_neg (by omega), if_neg (by omega), if_neg (by omega), if_neg (by omega)]
theorem lst_le (C : List Cp) : ∀ p, lst p C ≤ 5 := by
  induction C with
  | nil => intro p; simp [lst]
  | cons q t ih =>
    intro p
    unfold lst
    split
    · exact chk_lt q
    · split
      · decide
      · exact ih _
theorem ock_le (d k : Nat) (C : List Cp) : ock d k C ≤ 5 := by
  unfold ock
  split
  · exact lst_le C _
  · split
    · split <;> decide
    · split
      · split
        · exact chk_lt _
        · decide
      · split
        · split
          · decide
          · split <;> decide
        · decide
set_option maxHeartbeats 400000 in
theorem onone (w : World) (ao : Option Addr) (len cap : Nat) : Calls Tryz.prog 162 #[.slice ao len cap] w fun e w' => e = .returned (.int .i64 (((if len = 0 then 0 else 4 : Nat)) : Int)) ∧ w' = w := by
  by_cases h : len = 0
  · subst h
    go_enter Tryz.func162, Tryz.ntmps162
    go_wp2
    go_ret
    exact ⟨rfl, rfl⟩
  · rw [if_neg h]
    have h' : (0 : Int) < (len : Int) := by omega
    go_enter Tryz.func162, Tryz.ntmps162
    go_wp2
    go_ret
    exact ⟨rfl, rfl⟩
set_option maxHeartbeats 400000 in
theorem oone (w : World) (ht : Tab w) (ao : Option Addr) (len cap : Nat) (C : List Cp) (hl : C.length = len) (hs : Cs w ao C) (hk : ∀ q ∈ C, q.k < 256) : Calls Tryz.prog 163 #[.slice ao len cap] w fun e w' => e = .returned (.int .i64 (((if C.length = 1 then (C.headD ⟨0, 0, 0, 0⟩).chk else 4 : Nat)) : Int)) ∧ Fr Nobody w w' := by
  by_cases h : len = 1
  · obtain ⟨q, rfl⟩ : ∃ q, C = [q] := List.length_eq_one_iff.1 (by omega)
    have hq := hk q (by simp)
    obtain ⟨g, o, rfl, _, c0, c1, c2, c3⟩ := hs.at 0 q rfl
    have HC : Hid (Calls _ _ _ _ _) := check3 w ht q.k hq q.a q.b q.c
    simp at c0 c1 c2 c3
    rw [show (if [q].length = 1 then ([q].headD ⟨0, 0, 0, 0⟩).chk else 4) = q.chk from rfl]
    subst h
    clear hl hs hk ht
    go_enter Tryz.func163, Tryz.ntmps163
    go_wp2_with fail
    refine HC.out.mono ?_
    rintro e w1 ⟨rfl, hf⟩
    go_wp2
    go_ret
    exact ⟨rfl, hf⟩
  · rw [if_neg (by omega)]
    have h' : ((len : Int) == (1 : Int)) = false := by simp; omega
    clear hs hk ht
    go_enter Tryz.func163, Tryz.ntmps163
    go_wp2
    go_ret
    exact ⟨rfl, Fr.refl _ _⟩

set_option maxHeartbeats 1000000 in
theorem ocheck (w : World) (ht : Tab w) (d id k : Nat) (hk : k < 256) (ao : Option Addr) (len cap : Nat) (C : List Cp) (hl : C.length = len) (hs : Cs w ao C) (hCk : ∀ q ∈ C, q.k < 256) (hm : len ≤ 1000000) :
    Calls Tryz.prog 104 #[.agg #[.int .u8 (d : Int), .int .u32 (id : Int), .int .u8 (k : Int), .slice ao len cap]] w fun e w' => e = .returned (.int .i64 ((ock d k C : Nat) : Int)) ∧ Fr Nobody w w' := by
  have HL : Hid (∀ w', Fr Nobody w w' → Calls Tryz.prog 90 #[.slice ao len cap] w' fun e w'' => e = .returned (.int .i64 ((lst (-1) C : Nat) : Int)) ∧ Fr Nobody w' w'') := fun w' hf => list_any w' (ht.quiet hf) ao len cap C hl (hs.quiet hf) hCk hm
  have HN : Hid (∀ w', Calls Tryz.prog 162 #[.slice ao len cap] w' fun e w'' => e = .returned (.int .i64 (((if C.length = 0 then 0 else 4 : Nat)) : Int)) ∧ w'' = w') := fun w' => by rw [hl]; exact onone w' ao len cap
  have HO : Hid (∀ w', Fr Nobody w w' → Calls Tryz.prog 163 #[.slice ao len cap] w' fun e w'' => e = .returned (.int .i64 (((if C.length = 1 then (C.headD ⟨0, 0, 0, 0⟩).chk else 4 : Nat)) : Int)) ∧ Fr Nobody w' w'') := fun w' hf => oone w' (ht.quiet hf) ao len cap C hl (hs.quiet hf) hCk
  have HC : Hid (∀ w', Fr Nobody w w' → Calls Tryz.prog 164 #[.int .u8 (k : Int)] w' fun e w'' => e = .returned (.int .i64 ((cnt k : Nat) : Int)) ∧ w'' = w') := fun w' hf => count_any w' (ht.quiet hf) k hk
  clear ht hs hCk hl
  by_cases hd : d < 1 ∨ 5 < d
  · rw [ock_bad d k C hd]
    have d1 : ¬ (d : Int) = 1 := by omega
    have d2 : ¬ (d : Int) = 2 := by omega
    have d3 : ¬ (d : Int) = 3 := by omega
    have d4 : ¬ (d : Int) = 4 := by omega
    have d5 : ¬ (d : Int) = 5 := by omega
    clear hd
    go_enter Tryz.func104, Tryz.ntmps104
    go_wp2
    go_ret
    exact ⟨rfl, (Fr.refl _ _).alloc _⟩
  · have : d = 1 ∨ d = 2 ∨ d = 3 ∨ d = 4 ∨ d = 5 := by omega
    clear hd
    rcases this with rfl | rfl | rfl | rfl | rfl
    · have hv : ock 1 k C = lst (-1) C := rfl
      rw [hv]
      clear hv
      generalize lst (-1) C = x at *
      go_enter Tryz.func104, Tryz.ntmps104
      go_wp2_with fail
      refine (HL.out _ ((Fr.refl _ _).alloc _)).mono ?_
      rintro e w1 ⟨rfl, hf⟩
      go_wp2
      go_ret
      exact ⟨rfl, ((Fr.refl _ _).alloc _).trans hf⟩
    · have hv : ock 2 k C = (if C.length = 0 then 0 else 4) := rfl
      rw [hv]
      clear hv
      generalize (if C.length = 0 then 0 else 4) = x at *
      go_enter Tryz.func104, Tryz.ntmps104
      go_wp2_with fail
      refine (HN.out _).mono ?_
      rintro e w1 ⟨rfl, rfl⟩
      go_wp2
      go_ret
      exact ⟨rfl, ((Fr.refl _ _).alloc _)⟩
    · have hv : ock 3 k C = (if C.length = 1 then (C.headD ⟨0, 0, 0, 0⟩).chk else 4) := rfl
      rw [hv]
      clear hv
      generalize (if C.length = 1 then (C.headD ⟨0, 0, 0, 0⟩).chk else 4) = x at *
      go_enter Tryz.func104, Tryz.ntmps104
      go_wp2_with fail
      refine (HO.out _ ((Fr.refl _ _).alloc _)).mono ?_
      rintro e w1 ⟨rfl, hf⟩
      go_wp2
      go_ret
      exact ⟨rfl, ((Fr.refl _ _).alloc _).trans hf⟩
    · have hv : ock 4 k C = (if C.length = 1 then (C.headD ⟨0, 0, 0, 0⟩).chk else 4) := rfl
      rw [hv]
      clear hv
      generalize (if C.length = 1 then (C.headD ⟨0, 0, 0, 0⟩).chk else 4) = x at *
      go_enter Tryz.func104, Tryz.ntmps104
      go_wp2_with fail
      refine (HO.out _ ((Fr.refl _ _).alloc _)).mono ?_
      rintro e w1 ⟨rfl, hf⟩
      go_wp2
      go_ret
      exact ⟨rfl, ((Fr.refl _ _).alloc _).trans hf⟩
    · by_cases h5 : 5 < k
      · have hv : ock 5 k C = 1 := by unfold ock; simp [h5]
        rw [hv]
        rw [cnt_out k h5] at HC
        clear hv
        go_enter Tryz.func104, Tryz.ntmps104
        go_wp2_with fail
        refine (HC.out _ ((Fr.refl _ _).alloc _)).mono ?_
        rintro e w1 ⟨rfl, rfl⟩
        go_wp2
        go_ret
        exact ⟨rfl, (Fr.refl _ _).alloc _⟩
      · have hv : ock 5 k C = (if C.length = 0 then 0 else 4) := by unfold ock; simp [h5]
        rw [hv]
        have hc := cnt_pos k (by omega)
        generalize cnt k = n at *
        have hc' : ¬ (n : Int) = 0 := by omega
        clear hv
        generalize (if C.length = 0 then 0 else 4) = x at *
        go_enter Tryz.func104, Tryz.ntmps104
        go_wp2_with fail
        refine (HC.out _ ((Fr.refl _ _).alloc _)).mono ?_
        rintro e w1 ⟨rfl, rfl⟩
        go_wp2_with fail
        refine (HN.out _).mono ?_
        rintro e w1 ⟨rfl, rfl⟩
        go_wp2
        go_ret
        exact ⟨rfl, (Fr.refl _ _).alloc _⟩

set_option maxHeartbeats 1000000 in
theorem rocheck (w : World) (d id k : Nat) (hk : k < 256) (ao : Option Addr) (len cap : Nat) (C : List Cp) (hl : C.length = len) (hs : Cs w ao C) (hCk : ∀ q ∈ C, q.k < 256) (hm : len ≤ 1000000) :
    Calls Tryz.prog 52 #[.agg #[.int .u8 (d : Int), .int .u32 (id : Int), .int .u8 (k : Int), .slice ao len cap]] w fun e w' => e = .returned (.int .i64 ((ock d k C : Nat) : Int)) ∧ Fr Nobody w w' := by
  have HL : Hid (∀ w', Fr Nobody w w' → Calls Tryz.prog 77 #[.slice ao len cap] w' fun e w'' => e = .returned (.int .i64 ((lst (-1) C : Nat) : Int)) ∧ Fr Nobody w' w'') := fun w' hf => rlist_any w' ao len cap C hl (hs.quiet hf) hCk hm
  by_cases hd : d < 1 ∨ 5 < d
  · rw [ock_bad d k C hd]
    by_cases h0 : d < 1
    · have d1 : (d : Int) < 1 := by omega
      clear hd
      go_enter Tryz.func52, Tryz.ntmps52
      go_wp2
      go_ret
      exact ⟨rfl, (Fr.refl _ _).alloc _⟩
    · have d1 : ¬ (d : Int) < 1 := by omega
      have d5 : (5 : Int) < (d : Int) := by omega
      clear hd
      go_enter Tryz.func52, Tryz.ntmps52
      go_wp2
      go_ret
      exact ⟨rfl, (Fr.refl _ _).alloc _⟩
  · have : d = 1 ∨ d = 2 ∨ d = 3 ∨ d = 4 ∨ d = 5 := by omega
    clear hd
    rcases this with rfl | rfl | rfl | rfl | rfl
    · have hv : ock 1 k C = lst (-1) C := rfl
      rw [hv]
      clear hv
      go_enter Tryz.func52, Tryz.ntmps52
      go_wp2_with fail
      refine (HL.out _ ((Fr.refl _ _).alloc _)).mono ?_
      rintro e w1 ⟨rfl, hf⟩
      go_wp2
      go_ret
      exact ⟨rfl, ((Fr.refl _ _).alloc _).trans hf⟩
    · have hv : ock 2 k C = (if C.length = 0 then 0 else 4) := by unfold ock; simp
      rw [hv]
      clear hv HL hs hCk
      by_cases h0 : len = 0
      · subst h0
        rw [hl, if_pos rfl]
        go_enter Tryz.func52, Tryz.ntmps52
        go_wp2
        go_ret
        exact ⟨rfl, (Fr.refl _ _).alloc _⟩
      · have h0' : ¬ (len : Int) = 0 := by omega
        rw [hl, if_neg h0]
        go_enter Tryz.func52, Tryz.ntmps52
        go_wp2
        go_ret
        exact ⟨rfl, (Fr.refl _ _).alloc _⟩
    · have hv : ock 3 k C = (if C.length = 1 then (C.headD ⟨0, 0, 0, 0⟩).chk else 4) := rfl
      rw [hv]
      clear hv HL
      by_cases h : len = 1
      · obtain ⟨q, rfl⟩ : ∃ q, C = [q] := List.length_eq_one_iff.1 (by omega)
        have hq := hCk q (by simp)
        obtain ⟨g, o, rfl, _, c0, c1, c2, c3⟩ := hs.at 0 q rfl
        have HC : Hid (∀ w', Calls Tryz.prog 106 #[.agg #[.int .u8 (q.k : Int), .int .i32 q.a, .int .i32 q.b, .int .i32 q.c]] w' fun e w'' => e = .returned (.int .i64 ((q.chk : Nat) : Int)) ∧ Fr Nobody w' w'') := fun w' => rcheck3 w' q.k hq q.a q.b q.c
        have c0 := c0
        simp at c0 c1 c2 c3
        have hg := World.block_lt_of_cell? w _ c0
        rw [show (if [q].length = 1 then ([q].headD ⟨0, 0, 0, 0⟩).chk else 4) = q.chk from rfl]
        subst h
        clear hl hs hCk
        go_enter Tryz.func52, Tryz.ntmps52
        go_wp2_with fail
        refine (HC.out _).mono ?_
        rintro e w1 ⟨rfl, hf⟩
        go_wp2
        go_ret
        exact ⟨rfl, ((Fr.refl _ _).alloc _).trans hf⟩
      · rw [if_neg (by omega)]
        have h' : ¬ (len : Int) = 1 := by omega
        clear hs hCk
        go_enter Tryz.func52, Tryz.ntmps52
        go_wp2
        go_ret
        exact ⟨rfl, (Fr.refl _ _).alloc _⟩
    · have hv : ock 4 k C = (if C.length = 1 then (C.headD ⟨0, 0, 0, 0⟩).chk else 4) := rfl
      rw [hv]
      clear hv HL
      by_cases h : len = 1
      · obtain ⟨q, rfl⟩ : ∃ q, C = [q] := List.length_eq_one_iff.1 (by omega)
        have hq := hCk q (by simp)
        obtain ⟨g, o, rfl, _, c0, c1, c2, c3⟩ := hs.at 0 q rfl
        have HC : Hid (∀ w', Calls Tryz.prog 106 #[.agg #[.int .u8 (q.k : Int), .int .i32 q.a, .int .i32 q.b, .int .i32 q.c]] w' fun e w'' => e = .returned (.int .i64 ((q.chk : Nat) : Int)) ∧ Fr Nobody w' w'') := fun w' => rcheck3 w' q.k hq q.a q.b q.c
        have c0 := c0
        simp at c0 c1 c2 c3
        have hg := World.block_lt_of_cell? w _ c0
        rw [show (if [q].length = 1 then ([q].headD ⟨0, 0, 0, 0⟩).chk else 4) = q.chk from rfl]
        subst h
        clear hl hs hCk
        go_enter Tryz.func52, Tryz.ntmps52
        go_wp2_with fail
        refine (HC.out _).mono ?_
        rintro e w1 ⟨rfl, hf⟩
        go_wp2
        go_ret
        exact ⟨rfl, ((Fr.refl _ _).alloc _).trans hf⟩
      · rw [if_neg (by omega)]
        have h' : ¬ (len : Int) = 1 := by omega
        clear hs hCk
        go_enter Tryz.func52, Tryz.ntmps52
        go_wp2
        go_ret
        exact ⟨rfl, (Fr.refl _ _).alloc _⟩
    · by_cases h5 : 5 < k
      · have hv : ock 5 k C = 1 := by unfold ock; simp [h5]
        rw [hv]
        have h5' : (5 : Int) < (k : Int) := by omega
        clear hv HL
        go_enter Tryz.func52, Tryz.ntmps52
        go_wp2
        go_ret
        exact ⟨rfl, (Fr.refl _ _).alloc _⟩
      · have h5' : ¬ (5 : Int) < (k : Int) := by omega
        have hv : ock 5 k C = (if C.length = 0 then 0 else 4) := by unfold ock; simp [h5]
        rw [hv]
        clear hv HL hs hCk
        by_cases h0 : len = 0
        · subst h0
          rw [hl, if_pos rfl]
          go_enter Tryz.func52, Tryz.ntmps52
          go_wp2
          go_ret
          exact ⟨rfl, (Fr.refl _ _).alloc _⟩
        · have h0' : ¬ (len : Int) = 0 := by omega
          rw [hl, if_neg h0]
          go_enter Tryz.func52, Tryz.ntmps52
          go_wp2
          go_ret
          exact ⟨rfl, (Fr.refl _ _).alloc _⟩
end Go.Proofs.YtflmgilmbppieaaGreatDoor

/-
  No store: what is answered then.
-/
namespace Go.Proofs.YtflmgilmbppieaaGreatDoor
open Go.RowKit Go.Maps
set_option linter.unusedVariables false

set_option maxHeartbeats 400000 in
theorem spawn_nil (w : World) (v : Value) : Calls Tryz.prog 176 #[.pointer none, v] w fun e w' => e = .returned (.tuple #[.int .u32 0, .int .i64 10]) ∧ Fr Nobody w w' := by
  go_enter Tryz.func176, Tryz.ntmps176
  go_wp2
  go_ret2
  exact ⟨rfl, Fr.refl _ _⟩
set_option maxHeartbeats 400000 in
theorem despawn_nil (w : World) (id : Int) : Calls Tryz.prog 111 #[.pointer none, .int .u32 id] w fun e w' => e = .returned (.int .i64 10) ∧ Fr Nobody w w' := by
  go_enter Tryz.func111, Tryz.ntmps111
  go_wp2_with (go_at_call 170; refine (home_nil _ _).mono ?_; rintro e w' ⟨rfl, rfl⟩)
  go_ret
  exact ⟨rfl, Fr.refl _ _⟩
set_option maxHeartbeats 400000 in
theorem homeFor_nil (w : World) (id : Int) (k a b c : Int) : Calls Tryz.prog 174 #[.pointer none, .int .u32 id, .agg #[.int .u8 k, .int .i32 a, .int .i32 b, .int .i32 c]] w fun e w' => e = .returned (.tuple #[.pointer none, .int .i64 10]) ∧ Fr Nobody w w' := by
  go_enter Tryz.func174, Tryz.ntmps174
  go_wp2
  go_ret2
  exact ⟨rfl, (Fr.refl _ _).alloc _⟩
set_option maxHeartbeats 400000 in
theorem set_nil (w : World) (id : Int) (k a b c : Int) : Calls Tryz.prog 112 #[.pointer none, .int .u32 id, .agg #[.int .u8 k, .int .i32 a, .int .i32 b, .int .i32 c]] w fun e w' => e = .returned (.int .i64 10) ∧ Fr Nobody w w' := by
  go_enter Tryz.func112, Tryz.ntmps112
  go_wp2_with fail
  refine (homeFor_nil _ _ _ _ _ _).mono ?_
  rintro e w1 ⟨rfl, hf⟩
  go_wp2
  go_ret
  exact ⟨rfl, ((Fr.refl _ _).alloc _).trans hf⟩
set_option maxHeartbeats 400000 in
theorem add_nil (w : World) (id : Int) (k a b c : Int) : Calls Tryz.prog 201 #[.pointer none, .int .u32 id, .agg #[.int .u8 k, .int .i32 a, .int .i32 b, .int .i32 c]] w fun e w' => e = .returned (.int .i64 10) ∧ Fr Nobody w w' := by
  go_enter Tryz.func201, Tryz.ntmps201
  go_wp2_with fail
  refine (homeFor_nil _ _ _ _ _ _).mono ?_
  rintro e w1 ⟨rfl, hf⟩
  go_wp2
  go_ret
  exact ⟨rfl, ((Fr.refl _ _).alloc _).trans hf⟩
set_option maxHeartbeats 400000 in
theorem remove_nil (w : World) (id k : Int) : Calls Tryz.prog 202 #[.pointer none, .int .u32 id, .int .u8 k] w fun e w' => e = .returned (.int .i64 10) ∧ Fr Nobody w w' := by
  go_enter Tryz.func202, Tryz.ntmps202
  go_wp2_with (go_at_call 170; refine (home_nil _ _).mono ?_; rintro e w' ⟨rfl, rfl⟩)
  go_ret
  exact ⟨rfl, Fr.refl _ _⟩
end Go.Proofs.YtflmgilmbppieaaGreatDoor

/-
  Orders: Do of an order that is wrong, and of one that is told to the store.
-/
namespace Go.Proofs.YtflmgilmbppieaaGreatDoor
open Go.RowKit
set_option linter.unusedVariables false
set_option maxRecDepth 100000

/-- an order: what to do, to whom, a kind, components and where they lie -/
structure OrdE where
  d : Nat
  id : Nat
  k : Nat
  C : List Cp
  ao : Option Addr
  cap : Nat
def OrdE.ag (o : OrdE) : Value := .agg #[.int .u8 (o.d : Int), .int .u32 (o.id : Int), .int .u8 (o.k : Int), .slice o.ao o.C.length o.cap]
def OrdE.cs (o : OrdE) : List Value := [.int .u8 (o.d : Int), .int .u32 (o.id : Int), .int .u8 (o.k : Int), .slice o.ao o.C.length o.cap]
structure OrdE.In (o : OrdE) : Prop where
  d : o.d < 256
  id : o.id < 4294967296
  k : o.k < 256
  C : ∀ q ∈ o.C, q.k < 256
  len : o.C.length ≤ 1000000
def OrdE.ck (o : OrdE) : Nat := ock o.d o.k o.C
theorem OrdE.check (o : OrdE) (w : World) (ht : Tab w) (hi : o.In) (hs : Cs w o.ao o.C) : Calls Tryz.prog 104 #[o.ag] w fun e w' => e = .returned (.int .i64 ((o.ck : Nat) : Int)) ∧ Fr Nobody w w' :=
  ocheck w ht o.d o.id o.k hi.k o.ao o.C.length o.cap o.C rfl hs hi.C hi.len
theorem OrdE.rcheck (o : OrdE) (w : World) (hi : o.In) (hs : Cs w o.ao o.C) : Calls Tryz.prog 52 #[o.ag] w fun e w' => e = .returned (.int .i64 ((o.ck : Nat) : Int)) ∧ Fr Nobody w w' :=
  rocheck w o.d o.id o.k hi.k o.ao o.C.length o.cap o.C rfl hs hi.C hi.len
/-- a result -/
def rag (r : Int × Nat) : Value := .agg #[.int .i64 r.1, .int .u32 (r.2 : Int)]
def rcel (r : Int × Nat) : List Value := [.int .i64 r.1, .int .u32 (r.2 : Int)]
def res (e : Int) (id : Nat) : Int × Nat := if e = 0 then (0, id) else (e, 0)

set_option maxHeartbeats 1000000 in
theorem do_bad (w0 w : World) (l : List Thing) (h : Own w0 w l) (ht : Tab w0) (p : Option Addr) (o : OrdE) (hi : o.In) (hCs : ∀ w', Own w0 w' l → Cs w' o.ao o.C) (hb : o.ck ≠ 0) :
    Calls Tryz.prog 107 #[.pointer p, o.ag] w fun e w' => e = .returned (rag ((o.ck : Int), 0)) ∧ Own w0 w' l := by
  have hA := (h.allocC #[.int .u8 (o.d : Int), .int .u32 (o.id : Int), .int .u8 (o.k : Int), .slice o.ao o.C.length o.cap] 41).allocC #[.int .i64 0, .int .u32 0] 78
  have e1 : (w.alloc (.cells #[.int .u8 (o.d : Int), .int .u32 (o.id : Int), .int .u8 (o.k : Int), .slice o.ao o.C.length o.cap] 41)).heap.size = w.heap.size + 1 := by simp
  rw [e1] at hA
  have HC : Hid (Calls _ _ _ _ _) := o.check _ (ht.quiet hA.fr) hi (hCs _ hA.tail.tail)
  have HA : Hid (Own w0 _ _) := hA
  have hx : ¬ ((o.ck : Nat) : Int) = 0 := by omega
  unfold OrdE.ag at HC ⊢
  unfold rag
  obtain ⟨d, id, k, C, ao, cap⟩ := o
  generalize OrdE.ck ⟨d, id, k, C, ao, cap⟩ = x at *
  simp only at HC HA ⊢
  clear h hA hb e1 hCs hi
  go_enter Tryz.func107, Tryz.ntmps107
  go_wp2_with fail
  refine HC.out.mono ?_
  rintro e w1 ⟨rfl, hf⟩
  have hB := HA.out.quiet hf
  have z0 := hB.cell 0
  have z1 := hB.cell 1
  simp at z0 z1
  have y0 := hB.froz 0
  have y1 := hB.froz 1
  have HF : Hid (Own w0 _ _) := (hB.setC 0 (.int .i64 (x : Int))).setC 1 (.int .u32 0)
  clear hB hf HC HA
  go_wp2
  (try simp only [Exit.inBlock, Exit.then])
  refine bodyPost_ret (v := .agg #[.int .i64 (x : Int), .int .u32 0]) ?_ rfl ⟨rfl, HF.out.tail.tail⟩
  have r0 := HF.out.cell 0
  have r1 := HF.out.cell 1
  simp at r0 r1
  simp only [results]
  go_simp

set_option maxHeartbeats 2000000 in
theorem do_of (w0 w : World) (P P' : Thing) (l : List Thing) (h : Own w0 w (P :: l)) (ht : Tab w0) (p : Option Addr) (o : OrdE) (hi : o.In) (hCs : ∀ w', Own w0 w' l → Cs w' o.ao o.C) (hb : o.ck = 0) (id : Nat) (er : Int)
    (HT : ∀ w' l', Own w0 w' (P :: l') → (∀ w'', Own w0 w'' l' → Cs w'' o.ao o.C) → Calls Tryz.prog 167 #[.pointer p, o.ag] w' fun e w'' => e = .returned (.tuple #[.int .u32 (id : Int), .int .i64 er]) ∧ Own w0 w'' (P' :: l')) :
    Calls Tryz.prog 107 #[.pointer p, o.ag] w fun e w' => e = .returned (rag (res er id)) ∧ Own w0 w' (P' :: l) := by
  have hA := (h.allocC #[.int .u8 (o.d : Int), .int .u32 (o.id : Int), .int .u8 (o.k : Int), .slice o.ao o.C.length o.cap] 41).allocC #[.int .i64 0, .int .u32 0] 78
  have e1 : (w.alloc (.cells #[.int .u8 (o.d : Int), .int .u32 (o.id : Int), .int .u8 (o.k : Int), .slice o.ao o.C.length o.cap] 41)).heap.size = w.heap.size + 1 := by simp
  rw [e1] at hA
  have HC : Hid (Calls _ _ _ _ _) := o.check _ (ht.quiet hA.fr) hi (hCs _ hA.tail.tail.tail)
  rw [hb] at HC
  have HA : Hid (Own w0 _ _) := hA
  have HTT : Hid (∀ w', Own w0 w' (Cells (w.heap.size + 1) #[.int .i64 0, .int .u32 0] 78 :: Cells w.heap.size #[.int .u8 (o.d : Int), .int .u32 (o.id : Int), .int .u8 (o.k : Int), .slice o.ao o.C.length o.cap] 41 :: P :: l) → Calls Tryz.prog 167 #[.pointer p, o.ag] w' fun e w'' => e = .returned (.tuple #[.int .u32 (id : Int), .int .i64 er]) ∧ Own w0 w'' (Cells (w.heap.size + 1) #[.int .i64 0, .int .u32 0] 78 :: P' :: l)) := by
    intro w' h'
    refine (HT w' _ h'.three (fun w'' h'' => hCs _ h''.tail.tail)).mono ?_
    rintro e w'' ⟨rfl, h2⟩
    exact ⟨rfl, h2.three.tail.two⟩
  unfold OrdE.ag at HC HTT ⊢
  obtain ⟨d, oid, k, C, ao, cap⟩ := o
  simp only at HC HA HTT ⊢
  clear h hA hb e1 hCs hi HT
  have hres : ∀ e id, rag (res e id) = if e = 0 then .agg #[.int .i64 0, .int .u32 (id : Int)] else .agg #[.int .i64 e, .int .u32 0] := by
    intro e id
    unfold rag res
    split <;> rfl
  rw [hres]
  clear hres
  by_cases hx : er = 0
  · subst hx
    rw [if_pos rfl]
    go_enter Tryz.func107, Tryz.ntmps107
    go_wp2_with fail
    refine HC.out.mono ?_
    rintro e w1 ⟨rfl, hf⟩
    have hB := HA.out.quiet hf
    have HB : Hid (Own w0 w1 _) := hB
    have q0 := hB.two.cell 0
    have q1 := hB.two.cell 1
    have q2 := hB.two.cell 2
    have q3 := hB.two.cell 3
    simp at q0 q1 q2 q3
    clear hB hf HC HA
    go_wp2_with fail
    refine (HTT.out _ HB.out).mono ?_
    rintro e w2 ⟨rfl, hB⟩
    have z0 := hB.cell 0
    have z1 := hB.cell 1
    simp at z0 z1
    have y0 := hB.froz 0
    have y1 := hB.froz 1
    have HF : Hid (Own w0 _ _) := (hB.setC 0 (.int .i64 0)).setC 1 (.int .u32 (id : Int))
    clear hB HTT q0 q1 q2 q3 HB
    go_wp2
    (try simp only [Exit.inBlock, Exit.then])
    refine bodyPost_ret (v := .agg #[.int .i64 0, .int .u32 (id : Int)]) ?_ rfl ⟨rfl, HF.out.tail⟩
    have r0 := HF.out.cell 0
    have r1 := HF.out.cell 1
    simp at r0 r1
    simp only [results]
    go_simp
  · rw [if_neg hx]
    go_enter Tryz.func107, Tryz.ntmps107
    go_wp2_with fail
    refine HC.out.mono ?_
    rintro e w1 ⟨rfl, hf⟩
    have hB := HA.out.quiet hf
    have HB : Hid (Own w0 w1 _) := hB
    have q0 := hB.two.cell 0
    have q1 := hB.two.cell 1
    have q2 := hB.two.cell 2
    have q3 := hB.two.cell 3
    simp at q0 q1 q2 q3
    clear hB hf HC HA
    go_wp2_with fail
    refine (HTT.out _ HB.out).mono ?_
    rintro e w2 ⟨rfl, hB⟩
    have z0 := hB.cell 0
    have z1 := hB.cell 1
    simp at z0 z1
    have y0 := hB.froz 0
    have y1 := hB.froz 1
    have HF : Hid (Own w0 _ _) := (hB.setC 0 (.int .i64 er)).setC 1 (.int .u32 0)
    clear hB HTT q0 q1 q2 q3 HB
    go_wp2
    (try simp only [Exit.inBlock, Exit.then])
    refine bodyPost_ret (v := .agg #[.int .i64 er, .int .u32 0]) ?_ rfl ⟨rfl, HF.out.tail⟩
    have r0 := HF.out.cell 0
    have r1 := HF.out.cell 1
    simp at r0 r1
    simp only [results]
    go_simp

set_option maxHeartbeats 1000000 in
theorem tell_spawn (w0 w : World) (l : List Thing) (b : Nat) (σ : Sto) (K : Nat) (ht : Tab w0) (h : Own w0 w (Store b σ K :: l)) (hσ : σ.Ok) (o : OrdE) (hi : o.In) (hd : o.d = 1) (hCs : ∀ w', Own w0 w' l → Cs w' o.ao o.C) (hK : K < 1000000) :
    Calls Tryz.prog 167 #[.pointer (some ⟨b, 0, none⟩), o.ag] w fun e w' => e = .returned (.tuple #[.int .u32 ((σ.spawn o.C).1 : Int), .int .i64 (σ.spawn o.C).2.1]) ∧ Own w0 w' (Store b (σ.spawn o.C).2.2 (K + 1) :: l) := by
  have HS : Hid (Calls _ _ _ _ _) := spawnC w0 _ l b σ K ht (h.alloc (.cells #[.int .u8 (o.d : Int), .int .u32 (o.id : Int), .int .u8 (o.k : Int), .slice o.ao o.C.length o.cap] 41)) hσ o.ao o.C.length o.cap o.C rfl hCs hi.C hi.len hK
  unfold OrdE.ag
  obtain ⟨d, oid, k, C, ao, cap⟩ := o
  simp only at HS hd ⊢
  subst hd
  generalize σ.spawn C = r at *
  clear h hσ hi hCs
  go_enter Tryz.func167, Tryz.ntmps167
  go_wp2_with fail
  refine HS.out.mono ?_
  rintro e w1 ⟨rfl, hO⟩
  have H1 : Hid (Own w0 w1 _) := hO
  clear hO HS
  go_wp2
  go_ret2
  exact ⟨rfl, H1.out⟩
set_option maxHeartbeats 1000000 in
theorem tell_despawn (w0 w : World) (l : List Thing) (b : Nat) (σ : Sto) (K : Nat) (h : Own w0 w (Store b σ K :: l)) (hσ : σ.Ok) (o : OrdE) (hi : o.In) (hd : o.d = 2) (hK : K < 1000000) :
    Calls Tryz.prog 167 #[.pointer (some ⟨b, 0, none⟩), o.ag] w fun e w' => e = .returned (.tuple #[.int .u32 (o.id : Int), .int .i64 (σ.despawn o.id).1]) ∧ Own w0 w' (Store b (σ.despawn o.id).2 (K + 1) :: l) := by
  have hA := (h.allocC #[.int .u8 (o.d : Int), .int .u32 (o.id : Int), .int .u8 (o.k : Int), .slice o.ao o.C.length o.cap] 41).two
  have HS : Hid (Calls _ _ _ _ _) := despawnC w0 _ _ b σ K hA.drew hσ o.id hi.id hK
  unfold OrdE.ag
  obtain ⟨d, oid, k, C, ao, cap⟩ := o
  simp only at HS hd hA ⊢
  subst hd
  generalize σ.despawn oid = r at *
  clear h hσ hi hA
  go_enter Tryz.func167, Tryz.ntmps167
  go_wp2_with fail
  go_region_with (
    go_at_call 111
    refine HS.out.mono ?_
    rintro e w1 ⟨rfl, hO⟩
    have q1 := hO.two.cell 1
    simp at q1
    have H1 : Hid (Own w0 w1 _) := hO
    clear hO)
  all_goals
    go_wp2
    go_ret2
    exact ⟨rfl, H1.out.two.tail⟩
end Go.Proofs.YtflmgilmbppieaaGreatDoor

/-
  Orders one by one; results that are alike.
-/
namespace Go.Proofs.YtflmgilmbppieaaGreatDoor
open Go.RowKit
set_option linter.unusedVariables false
set_option maxRecDepth 100000

def O4 (w : World) (g p : Nat) (x : OrdE) : Prop := w.cell? ⟨g, p, none⟩ = some (.int .u8 (x.d : Int)) ∧ w.cell? ⟨g, p + 1, none⟩ = some (.int .u32 (x.id : Int)) ∧ w.cell? ⟨g, p + 2, none⟩ = some (.int .u8 (x.k : Int)) ∧ w.cell? ⟨g, p + 3, none⟩ = some (.slice x.ao x.C.length x.cap)
/-- a list of orders that can be read -/
def Ords (w : World) (ao : Option Addr) (L : List OrdE) : Prop := (L = [] ∨ ∃ g o, ao = some ⟨g, o, none⟩ ∧ ∀ (j : Nat) x, L[j]? = some x → O4 w g (o + j * 4) x) ∧ ∀ x ∈ L, Cs w x.ao x.C
theorem Ords.at {w : World} {ao : Option Addr} {L : List OrdE} (h : Ords w ao L) (j : Nat) (x : OrdE) (hx : L[j]? = some x) : ∃ g o, ao = some ⟨g, o, none⟩ ∧ O4 w g (o + j * 4) x := by
  rcases h.1 with h | ⟨g, o, ha, hc⟩
  · subst h; simp at hx
  · exact ⟨g, o, ha, hc j x hx⟩
theorem O4.quiet {w w' : World} {g p : Nat} {x : OrdE} (h : O4 w g p x) (hf : Fr Nobody w w') : O4 w' g p x := by
  obtain ⟨h0, h1, h2, h3⟩ := h
  have hb := World.block_lt_of_cell? w _ h0
  exact ⟨(hf.cell (p := ⟨g, p, none⟩) hb id).trans h0, (hf.cell (p := ⟨g, p + 1, none⟩) hb id).trans h1, (hf.cell (p := ⟨g, p + 2, none⟩) hb id).trans h2, (hf.cell (p := ⟨g, p + 3, none⟩) hb id).trans h3⟩
theorem Ords.quiet {w w' : World} {ao : Option Addr} {L : List OrdE} (h : Ords w ao L) (hf : Fr Nobody w w') : Ords w' ao L := by
  refine ⟨?_, fun x hx => (h.2 x hx).quiet hf⟩
  rcases h.1 with h | ⟨g, o, ha, hc⟩
  · exact .inl h
  · exact .inr ⟨g, o, ha, fun j x hx => (hc j x hx).quiet hf⟩

def runs {α : Type} (step : α → OrdE → (Int × Nat) × α) : α → List OrdE → List (Int × Nat) × α
  | s, [] => ([], s)
  | s, o :: L => ((step s o).1 :: (runs step (step s o).2 L).1, (runs step (step s o).2 L).2)
theorem runs_snoc {α : Type} (step : α → OrdE → (Int × Nat) × α) (L : List OrdE) (o : OrdE) : ∀ s, runs step s (L ++ [o]) = ((runs step s L).1 ++ [(step (runs step s L).2 o).1], (step (runs step s L).2 o).2) := by
  induction L with
  | nil => intro s; rfl
  | cons x L ih => intro s; simp [runs, ih]
theorem Tryz.infoRes : (Tryz.prog.info? 78).map (fun i => (i.zero, i.size, i.bytes)) = some (some (.agg #[.int .i64 0, .int .u32 0]), 2, 16) := by kernel_rfl

set_option maxHeartbeats 2000000 in
theorem all_of {α : Type} (P : α → Thing) (Inv : Nat → α → Prop) (step : α → OrdE → (Int × Nat) × α) (w0 w : World) (l : List Thing) (p : Option Addr) (s0 : α) (h : Own w0 w (P s0 :: l)) (ao : Option Addr) (n cap : Nat) (L : List OrdE) (hn : L.length = n) (hL : n ≤ 100000) (hOrds : ∀ w', Own w0 w' l → Ords w' ao L) (hInv : Inv 0 s0)
    (HD : ∀ j s o w' l', L[j]? = some o → Inv j s → Own w0 w' (P s :: l') → (∀ w'', Own w0 w'' l' → Cs w'' o.ao o.C) → Calls Tryz.prog 107 #[.pointer p, o.ag] w' fun e w'' => e = .returned (rag (step s o).1) ∧ Own w0 w'' (P (step s o).2 :: l'))
    (HI : ∀ j s o, L[j]? = some o → Inv j s → Inv (j + 1) (step s o).2) :
    Calls Tryz.prog 54 #[.pointer p, .slice ao n cap] w fun e w' => ∃ ra rc, e = .returned (.slice ra n rc) ∧ Own w0 w' (Row 78 2 (.slice ra n rc) n (cat rcel (runs step s0 L).1) :: P (runs step s0 L).2 :: l) ∧ Inv n (runs step s0 L).2 := by
  obtain ⟨i0, hi, hz0, hz1, hz2⟩ := info_parts Tryz.infoRes
  obtain ⟨w1, hmk, hO, hf⟩ := make_own (P := Tryz.prog) h 47 78 i0 (.agg #[.int .i64 0, .int .u32 0]) 2 Tryz.underlying47 hi hz0 hz1 n (by rw [hz2]; omega) (by unfold maxLen; omega)
  have H1 : Hid (Own w0 w1 (Row 78 2 (.slice (some ⟨w.heap.size, 0, none⟩) 0 n) 0 (cat rcel (runs step s0 (L.take 0)).1) :: P (runs step s0 (L.take 0)).2 :: l)) := hO
  have HV : Hid (Inv 0 (runs step s0 (L.take 0)).2) := hInv
  have HN : Hid (L.length = n) := hn
  have HDD : Hid _ := HD
  have HII : Hid _ := HI
  have HOS : Hid _ := hOrds
  clear h hO hf hInv hn HD HI hOrds
  go_enter Tryz.func54, Tryz.ntmps54
  go_wp2
  go_loopw [5, 13] (fun rv cc wr => ∃ j : Nat, j ≤ n ∧ cc = .int .i64 j ∧ ∃ ra rc, rv = .slice ra j rc ∧ Own w0 wr (Row 78 2 (.slice ra j rc) j (cat rcel (runs step s0 (L.take j)).1) :: P (runs step s0 (L.take j)).2 :: l) ∧ Inv j (runs step s0 (L.take j)).2) (fun _ cc _ => n - (intOf cc).toNat)
  case atStart => exact ⟨0, Nat.zero_le _, rfl, _, _, rfl, H1.out, HV.out⟩
  case round =>
    obtain ⟨j, hj, rfl, ra, rc, rfl, hO, hI⟩ := hrel
    have HO : Hid (Own w0 wr _) := hO
    clear H1 HV
    by_cases hlt : j < n
    · obtain ⟨o, ho⟩ : ∃ o, L[j]? = some o := ⟨_, List.getElem?_eq_getElem (by rw [HN.out]; exact hlt)⟩
      obtain ⟨g, off, hao, c0, c1, c2, c3⟩ := (HOS.out wr hO.tail.tail).at j o ho
      have hlt' : (j : Int) < (n : Int) := by omega
      have hst : runs step s0 (L.take (j + 1)) = ((runs step s0 (L.take j)).1 ++ [(step (runs step s0 (L.take j)).2 o).1], (step (runs step s0 (L.take j)).2 o).2) := by
        rw [List.take_add_one, ho]; exact runs_snoc step _ _ _
      have HDO : Hid (∀ w', Own w0 w' (Row 78 2 (.slice ra j rc) j (cat rcel (runs step s0 (L.take j)).1) :: P (runs step s0 (L.take j)).2 :: l) → Calls Tryz.prog 107 #[.pointer p, o.ag] w' fun e w'' => e = .returned (rag (step (runs step s0 (L.take j)).2 o).1) ∧ Own w0 w'' (Row 78 2 (.slice ra j rc) j (cat rcel (runs step s0 (L.take j)).1) :: P (runs step s0 (L.take (j + 1))).2 :: l)) := by
        intro w' h'
        refine (HDD.out j _ o w' _ ho hI h'.two (fun w'' h'' => (HOS.out _ h''.tail).2 o (List.mem_of_getElem? ho))).mono ?_
        rintro e w'' ⟨rfl, h2⟩
        rw [hst]
        exact ⟨rfl, h2.two⟩
      have HI2 : Hid (Inv (j + 1) (runs step s0 (L.take (j + 1))).2) := by
        show Inv _ _
        rw [hst]; exact HII.out j _ o ho hI
      have HST : Hid (cat rcel (runs step s0 (L.take (j + 1))).1 = cat rcel (runs step s0 (L.take j)).1 ++ rcel (step (runs step s0 (L.take j)).2 o).1) := by
        show _ = _
        rw [hst, cat_append]; simp [cat]
      clear hst hO hI ho HDD HII
      subst hao
      unfold OrdE.ag at HDO
      obtain ⟨d, oid, k, C, oa, oc⟩ := o
      simp only at c0 c1 c2 c3 HDO
      generalize hr : (step (runs step s0 (L.take j)).2 ⟨d, oid, k, C, oa, oc⟩).1 = r at *
      obtain ⟨r1, r2⟩ := r
      unfold rag at HDO
      simp only at HDO
      clear hr
      go_wp2_with fail
      refine (HDO.out _ (HO.out.alloc _)).mono ?_
      rintro e w2 ⟨rfl, hO2⟩
      have H2 : Hid (Own w0 w2 _) := hO2
      clear hO2 HDO HO c0 c1 c2 c3
      go_wp2_with (at_builtin; refine append1_own rfl _ _ 47 rfl 78 i0 (.agg #[.int .i64 0, .int .u32 0]) 2 16 Tryz.underlying47 hi hz0 hz1 hz2 rfl (by decide) _ _ _ rfl H2.out _ #[.int .i64 r1, .int .u32 (r2 : Int)] (by simp) rfl rfl (by intro u hu; simp at hu; rcases hu with rfl | rfl <;> rfl) (by unfold maxLen; omega) (by omega) ?_)
      intro g3 cap3 w3 hO3 hsz3
      have H3 : Hid (Own w0 w3 (Row 78 2 (.slice (some ⟨g3, 0, none⟩) (j + 1) cap3) (j + 1) (cat rcel (runs step s0 (L.take (j + 1))).1) :: P (runs step s0 (L.take (j + 1))).2 :: l)) := by
        show Own _ _ _
        rw [HST.out]; exact hO3
      clear hO3 hsz3 H2
      go_wp2
      go_roundw
      case rel => exact ⟨j + 1, by omega, by go_num, _, _, rfl, H3.out, HI2.out⟩
      case measure => simp [intOf]; omega
    · have hlt' : ¬ (j : Int) < (n : Int) := by omega
      have hjn : j = n := by omega
      subst hjn
      have hT : L.take j = L := List.take_of_length_le (by rw [HN.out]; exact Nat.le_refl _)
      rw [hT] at hI
      have HI2 : Hid (Inv j _) := hI
      have H2 : Hid (Own w0 wr _) := hO
      rw [hT] at H2
      clear hT hO hI HO
      go_wp2
      go_ret
      exact ⟨_, _, rfl, H2.out, HI2.out⟩
end Go.Proofs.YtflmgilmbppieaaGreatDoor

/-
  Orders that wait: New, Push, Take, Len; results that are alike.
-/
namespace Go.Proofs.YtflmgilmbppieaaGreatDoor
open Go.RowKit
set_option linter.unusedVariables false
set_option maxRecDepth 100000

/-- a list of results that can be read -/
def Rs (w : World) (ao : Option Addr) (L : List (Int × Nat)) : Prop := L = [] ∨ ∃ g o, ao = some ⟨g, o, none⟩ ∧ ∀ (j : Nat) x, L[j]? = some x → w.cell? ⟨g, o + j * 2, none⟩ = some (.int .i64 x.1) ∧ w.cell? ⟨g, o + j * 2 + 1, none⟩ = some (.int .u32 (x.2 : Int))
theorem Rs.quiet {w w' : World} {ao : Option Addr} {L : List (Int × Nat)} (h : Rs w ao L) (hf : Fr Nobody w w') : Rs w' ao L := by
  rcases h with h | ⟨g, o, ha, hc⟩
  · exact .inl h
  · refine .inr ⟨g, o, ha, fun j x hx => ?_⟩
    obtain ⟨h0, h1⟩ := hc j x hx
    have hb := World.block_lt_of_cell? w _ h0
    exact ⟨(hf.cell (p := ⟨g, o + j * 2, none⟩) hb id).trans h0, (hf.cell (p := ⟨g, o + j * 2 + 1, none⟩) hb id).trans h1⟩
theorem rcel_len (x : Int × Nat) : (rcel x).length = 2 := rfl
theorem Own.rs {w0 w : World} {l : List Thing} {ao : Option Addr} {n cap : Nat} {L : List (Int × Nat)} (h : Own w0 w (Row 78 2 (.slice ao n cap) n (cat rcel L) :: l)) (hn : L.length = n) : Rs w ao L := by
  have r := h.row
  rcases Nat.eq_zero_or_pos n with h0 | h0
  · exact .inl (List.eq_nil_of_length_eq_zero (by omega))
  · obtain ⟨g, c, hv, _⟩ := row_shape r h0
    have ha := (Value.slice.inj hv).1
    subst ha
    refine .inr ⟨g, 0, rfl, fun j x hx => ?_⟩
    have hj := (List.getElem?_eq_some_iff.1 hx).1
    have e0 := cat_at rcel 2 rcel_len L j 0 x hx (by decide)
    have e1 := cat_at rcel 2 rcel_len L j 1 x hx (by decide)
    exact ⟨by rw [show 0 + j * 2 = j * 2 + 0 by omega, r.cellAt _ (by omega), e0]; rfl, by rw [show 0 + j * 2 + 1 = j * 2 + 1 by omega, r.cellAt _ (by omega), e1]; rfl⟩
set_option maxHeartbeats 2000000 in
theorem same_res (w : World) (a1 a2 : Option Addr) (n c1 c2 : Nat) (L : List (Int × Nat)) (h1 : Rs w a1 L) (h2 : Rs w a2 L) (hn : L.length = n) (hm : n ≤ 1000000) :
    Calls Tryz.prog 20 #[.slice a1 n c1, .slice a2 n c2] w fun e w' => e = .returned (.bool true) ∧ Fr Nobody w w' := by
  have H1 : Hid (Rs w a1 L ∧ Rs w a2 L ∧ L.length = n) := ⟨h1, h2, hn⟩
  clear h1 h2 hn
  have hne : ((n : Int) != (n : Int)) = false := by simp
  go_enter Tryz.func20, Tryz.ntmps20
  go_wp2
  clear hne
  go_loopw [13] (fun cc wr => ∃ k : Nat, k ≤ n ∧ cc = .int .i64 k ∧ Fr Nobody w wr) (fun cc _ => n - (intOf cc).toNat)
  case atStart => exact ⟨0, Nat.zero_le _, rfl, Fr.refl _ _⟩
  case round =>
    obtain ⟨k, hk, rfl, hf⟩ := hrel
    have HF : Hid (Fr Nobody w wr) := hf
    clear hf
    by_cases hlt : k < n
    · obtain ⟨x, hx⟩ : ∃ x, L[k]? = some x := ⟨_, List.getElem?_eq_getElem (by rw [H1.out.2.2]; exact hlt)⟩
      obtain ⟨g1, o1, rfl, p0, p1⟩ : ∃ g o, a1 = some ⟨g, o, none⟩ ∧ wr.cell? ⟨g, o + k * 2, none⟩ = some (.int .i64 x.1) ∧ wr.cell? ⟨g, o + k * 2 + 1, none⟩ = some (.int .u32 (x.2 : Int)) := by
        rcases H1.out.1.quiet HF.out with h | ⟨g, o, ha, hc⟩
        · subst h; simp at hx
        · exact ⟨g, o, ha, hc k x hx⟩
      obtain ⟨g2, o2, rfl, q0, q1⟩ : ∃ g o, a2 = some ⟨g, o, none⟩ ∧ wr.cell? ⟨g, o + k * 2, none⟩ = some (.int .i64 x.1) ∧ wr.cell? ⟨g, o + k * 2 + 1, none⟩ = some (.int .u32 (x.2 : Int)) := by
        rcases H1.out.2.1.quiet HF.out with h | ⟨g, o, ha, hc⟩
        · subst h; simp at hx
        · exact ⟨g, o, ha, hc k x hx⟩
      have hlt' : (k : Int) < (n : Int) := by omega
      clear hx
      obtain ⟨x0, x1⟩ := x
      simp only at p0 p1 q0 q1
      have e0 : (x0 == x0) = true := by simp
      have e1 : ((x1 : Int) == (x1 : Int)) = true := by simp
      go_wp2
      go_quiet (fail)
      go_wp2
      go_roundw
      case rel => exact ⟨k + 1, by omega, by go_num, HF.out.drewN _⟩
      case measure => simp [intOf]; omega
    · have hlt' : ¬ (k : Int) < (n : Int) := by omega
      go_wp2
      go_ret
      exact ⟨rfl, HF.out⟩

/-- where an order's components lie -/
def orow (x : OrdE) : Thing := Row 46 4 (.slice x.ao x.C.length x.cap) x.C.length (ccat x.C)
/-- orders that wait -/
def Buf (b : Nat) (E : List OrdE) : Thing := Ex (fun v : Value => Cells b #[v] 201 :: Row 41 4 v E.length (cat OrdE.cs E) :: E.map orow)
theorem Tryz.infoOrd : (Tryz.prog.info? 41).map (fun i => (i.zero, i.size, i.bytes)) = some (some (.agg #[.int .u8 0, .int .u32 0, .int .u8 0, .slice none 0 0]), 4, 40) := by kernel_rfl
set_option maxHeartbeats 400000 in
theorem onew (w0 w : World) (l : List Thing) (h : Own w0 w l) : Calls Tryz.prog 49 #[] w fun e w' => ∃ b, e = .returned (.pointer (some ⟨b, 0, none⟩)) ∧ Own w0 w' (Buf b [] :: l) := by
  have H : Hid (Own w0 w l) := h
  clear h
  go_enter Tryz.func49, Tryz.ntmps49
  go_wp2
  go_ret
  refine ⟨_, rfl, Own.ex_iff.2 ⟨.slice none 0 0, ?_⟩⟩
  exact ((H.out.nilRow 41 4).allocC #[.slice none 0 0] 201)
set_option maxHeartbeats 400000 in
theorem push_nil (w : World) (o : OrdE) : Calls Tryz.prog 51 #[.pointer none, o.ag] w fun e w' => e = .returned (.int .i64 10) ∧ Fr Nobody w w' := by
  unfold OrdE.ag
  go_enter Tryz.func51, Tryz.ntmps51
  go_wp2
  go_ret
  exact ⟨rfl, (Fr.refl _ _).alloc _⟩
set_option maxHeartbeats 1000000 in
theorem push_bad (w0 w : World) (l : List Thing) (b : Nat) (ht : Tab w0) (h : Own w0 w l) (o : OrdE) (hi : o.In) (hCs : ∀ w', Own w0 w' l → Cs w' o.ao o.C) (hb : o.ck ≠ 0) :
    Calls Tryz.prog 51 #[.pointer (some ⟨b, 0, none⟩), o.ag] w fun e w' => e = .returned (.int .i64 (o.ck : Int)) ∧ Own w0 w' l := by
  have hA := h.alloc (.cells #[.int .u8 (o.d : Int), .int .u32 (o.id : Int), .int .u8 (o.k : Int), .slice o.ao o.C.length o.cap] 41)
  have HC : Hid (Calls _ _ _ _ _) := o.check _ (ht.quiet hA.fr) hi (hCs _ hA)
  have HA : Hid (Own w0 _ _) := hA
  have hx : ¬ ((o.ck : Nat) : Int) = 0 := by omega
  unfold OrdE.ag at HC ⊢
  obtain ⟨d, id, k, C, ao, cap⟩ := o
  generalize OrdE.ck ⟨d, id, k, C, ao, cap⟩ = x at *
  simp only at HC HA ⊢
  clear h hA hb hCs hi
  go_enter Tryz.func51, Tryz.ntmps51
  go_wp2_with fail
  refine HC.out.mono ?_
  rintro e w1 ⟨rfl, hf⟩
  go_wp2
  go_ret
  exact ⟨rfl, HA.out.quiet hf⟩
set_option maxHeartbeats 1000000 in
theorem clone_cs (w0 w : World) (l : List Thing) (h : Own w0 w l) (ao : Option Addr) (len cap : Nat) (C : List Cp) (hl : C.length = len) (hs : Cs w ao C) (hm : len ≤ 1000000) :
    Calls Tryz.prog 105 #[.slice ao len cap] w fun e w' => ∃ ao' cap', e = .returned (.slice ao' len cap') ∧ Own w0 w' (Row 46 4 (.slice ao' len cap') len (ccat C) :: l) := by
  obtain ⟨i0, hi, hz0, hz1, hz2⟩ := info_parts Tryz.infoComp
  have qn : ∀ (w : World) (a : Option Addr) (n c n' c' : Nat), (binOp .eql 39 (.slice a n c) (.slice none n' c')).run Tryz.prog w = .ok (.bool a.isNone) w := fun w a n c n' c' => Lib.run_eql_slice_nil w _ _ a n c n' c' Tryz.underlying39
  have H : Hid (Own w0 w l) := h
  cases ao with
  | none =>
    have hC : C = [] := by
      rcases hs with hs | ⟨g, o, ha, _⟩
      · exact hs
      · cases ha
    subst hC
    simp at hl
    subst hl
    clear h hs
    go_enter Tryz.func105, Tryz.ntmps105
    go_wp2
    go_ret
    exact ⟨none, 0, rfl, H.out.nilRow _ _⟩
  | some a =>
    have HL : Hid (C.length = len ∧ Cs w (some a) C) := ⟨hl, hs⟩
    clear h hl hs
    go_enter Tryz.func105, Tryz.ntmps105
    go_wp2_with (at_builtin; refine append_cs rfl _ _ rfl i0 hi _ hz0 hz1 hz2 rfl _ 0 [] rfl (some a) len cap C rfl HL.out.1 (HL.out.2.quiet ((Fr.refl _ _).alloc _)) (H.out.litRow #[] 46 4 0 (by decide) rfl) (by unfold maxLen; omega) (by omega) ?_)
    intro a1 c1 w1 hO1 hsz1
    have H1 : Hid (Own w0 w1 (Row 46 4 (.slice a1 len c1) len (ccat C) :: l)) := by
      show Own _ _ _
      simpa using hO1
    clear hO1 H hsz1
    go_wp2
    go_ret
    exact ⟨_, _, rfl, H1.out⟩
end Go.Proofs.YtflmgilmbppieaaGreatDoor

/-
  Orders that wait: Push of a right one, Take, Len; the document's example of orders.
-/
namespace Go.Proofs.YtflmgilmbppieaaGreatDoor
open Go.RowKit
set_option linter.unusedVariables false
set_option maxRecDepth 100000

theorem ord_one (x : OrdE) : ∀ u ∈ x.cs, u.oneCell' = true := by
  intro u hu; simp [OrdE.cs] at hu; rcases hu with rfl | rfl | rfl | rfl <;> rfl
theorem Own.bufO {w0 w : World} {l : List Thing} {b : Nat} {E : List OrdE} (h : Own w0 w (Buf b E :: l)) : ∃ ao cap, Own w0 w (Cells b #[.slice ao E.length cap] 201 :: Row 41 4 (.slice ao E.length cap) E.length (cat OrdE.cs E) :: (E.map orow ++ l)) := by
  obtain ⟨v, h⟩ := Own.ex_iff.1 h
  obtain ⟨ao, cap, rfl⟩ := row_any h.two.row
  exact ⟨ao, cap, h⟩
theorem Own.bufS {w0 w : World} {l : List Thing} {b : Nat} {E : List OrdE} {v : Value} (h : Own w0 w (Cells b #[v] 201 :: Row 41 4 v E.length (cat OrdE.cs E) :: (E.map orow ++ l))) : Own w0 w (Buf b E :: l) := Own.ex_iff.2 ⟨v, h⟩
set_option maxHeartbeats 1000000 in
theorem push_full (w0 w : World) (l : List Thing) (b : Nat) (E : List OrdE) (ht : Tab w0) (h : Own w0 w (Buf b E :: l)) (o : OrdE) (hi : o.In) (hCs : ∀ w', Own w0 w' l → Cs w' o.ao o.C) (hb : o.ck = 0) (hE : 256 ≤ E.length) :
    Calls Tryz.prog 51 #[.pointer (some ⟨b, 0, none⟩), o.ag] w fun e w' => e = .returned (.int .i64 8) ∧ Own w0 w' (Buf b E :: l) := by
  have hA := h.alloc (.cells #[.int .u8 (o.d : Int), .int .u32 (o.id : Int), .int .u8 (o.k : Int), .slice o.ao o.C.length o.cap] 41)
  have HC : Hid (Calls _ _ _ _ _) := o.check _ (ht.quiet hA.fr) hi (hCs _ hA.tail)
  rw [hb] at HC
  have HA : Hid (Own w0 _ _) := hA
  have hE' : (256 : Int) ≤ (E.length : Int) := by omega
  unfold OrdE.ag at HC ⊢
  obtain ⟨d, id, k, C, ao, cap⟩ := o
  simp only at HC HA ⊢
  clear h hA hb hCs hi
  go_enter Tryz.func51, Tryz.ntmps51
  go_wp2_with fail
  refine HC.out.mono ?_
  rintro e w1 ⟨rfl, hf⟩
  have hB := HA.out.quiet hf
  have HB : Hid (Own w0 w1 _) := hB
  obtain ⟨ea, ec, hO⟩ := hB.bufO
  have q0 := hO.cell 0
  simp at q0
  clear hB hO hf HC HA
  go_wp2
  go_ret
  exact ⟨rfl, HB.out⟩
set_option maxHeartbeats 2000000 in
theorem push_ok (w0 w : World) (l : List Thing) (b : Nat) (E : List OrdE) (ht : Tab w0) (h : Own w0 w (Buf b E :: l)) (o : OrdE) (hi : o.In) (hCs : ∀ w', Own w0 w' l → Cs w' o.ao o.C) (hb : o.ck = 0) (hE : E.length < 256) :
    Calls Tryz.prog 51 #[.pointer (some ⟨b, 0, none⟩), o.ag] w fun e w' => e = .returned (.int .i64 0) ∧ ∃ a c, Own w0 w' (Buf b (E ++ [{ o with ao := a, cap := c }]) :: l) := by
  obtain ⟨i0, hi0, hz0, hz1, hz2⟩ := info_parts Tryz.infoOrd
  have hA := h.allocC #[.int .u8 (o.d : Int), .int .u32 (o.id : Int), .int .u8 (o.k : Int), .slice o.ao o.C.length o.cap] 41
  have HC : Hid (Calls _ _ _ _ _) := o.check _ (ht.quiet hA.fr) hi (hCs _ hA.tail.tail)
  rw [hb] at HC
  have HA : Hid (Own w0 _ _) := hA
  have hE' : (E.length : Int) < 256 := by omega
  have HCL : Hid (∀ w', Own w0 w' (Cells w.heap.size #[.int .u8 (o.d : Int), .int .u32 (o.id : Int), .int .u8 (o.k : Int), .slice o.ao o.C.length o.cap] 41 :: Buf b E :: l) → Calls Tryz.prog 105 #[.slice o.ao o.C.length o.cap] w' fun e w'' => ∃ a c, e = .returned (.slice a o.C.length c) ∧ Own w0 w'' (Row 46 4 (.slice a o.C.length c) o.C.length (ccat o.C) :: Cells w.heap.size #[.int .u8 (o.d : Int), .int .u32 (o.id : Int), .int .u8 (o.k : Int), .slice o.ao o.C.length o.cap] 41 :: Buf b E :: l)) := fun w' h' => clone_cs w0 w' _ h' o.ao o.C.length o.cap o.C rfl (hCs _ h'.tail.tail) hi.len
  have HEND : Hid (∀ w' a c v, Own w0 w' (Cells b #[v] 201 :: Row 41 4 v (E.length + 1) (cat OrdE.cs E ++ [.int .u8 (o.d : Int), .int .u32 (o.id : Int), .int .u8 (o.k : Int), .slice a o.C.length c]) :: Row 46 4 (.slice a o.C.length c) o.C.length (ccat o.C) :: (E.map orow ++ l)) → Own w0 w' (Buf b (E ++ [{ o with ao := a, cap := c }]) :: l)) := by
    intro w' a c v h'
    refine Own.bufS (v := v) ?_
    rw [List.length_append, List.length_singleton, cat_append, List.map_append]
    have hp : List.Perm (Cells b #[v] 201 :: Row 41 4 v (E.length + 1) (cat OrdE.cs E ++ [.int .u8 (o.d : Int), .int .u32 (o.id : Int), .int .u8 (o.k : Int), .slice a o.C.length c]) :: Row 46 4 (.slice a o.C.length c) o.C.length (ccat o.C) :: (E.map orow ++ l)) (Cells b #[v] 201 :: Row 41 4 v (E.length + 1) (cat OrdE.cs E ++ [.int .u8 (o.d : Int), .int .u32 (o.id : Int), .int .u8 (o.k : Int), .slice a o.C.length c]) :: ((E.map orow ++ [Row 46 4 (.slice a o.C.length c) o.C.length (ccat o.C)]) ++ l)) := by
      refine List.Perm.cons _ (List.Perm.cons _ ?_)
      rw [List.append_assoc]
      exact List.perm_middle.symm
    have := h'.perm hp
    simpa [cat, OrdE.cs, orow] using this
  unfold OrdE.ag at HC ⊢
  obtain ⟨d, id, k, C, ao, cap⟩ := o
  simp only at HC HA HCL HEND ⊢
  clear h hA hb hCs hi
  go_enter Tryz.func51, Tryz.ntmps51
  go_wp2_with fail
  refine HC.out.mono ?_
  rintro e w1 ⟨rfl, hf⟩
  have hB := HA.out.quiet hf
  have HB : Hid (Own w0 w1 _) := hB
  obtain ⟨ea, ec, hO⟩ := hB.two.bufO
  have q0 := hO.cell 0
  have p0 := hB.cell 3
  simp at q0 p0
  clear hB hO hf HC HA
  go_wp2_with fail
  refine (HCL.out _ HB.out).mono ?_
  rintro e w2 ⟨a, c, rfl, hO⟩
  clear HCL HB q0 p0
  have hO := hO.two
  have s3 := hO.cell 3
  have z3 := hO.froz 3
  simp at s3
  have HO2 : Hid (Own w0 w2 _) := hO
  clear hO
  go_wp2_with fail
  have hO3 := HO2.out.setC 3 (.slice a C.length c)
  generalize hw3 : w2.setCell ⟨w.heap.size, 3, none⟩ (.slice a C.length c) = w3 at *
  have c0 := hO3.cell 0
  have c1 := hO3.cell 1
  have c2 := hO3.cell 2
  have c3 := hO3.cell 3
  simp at c0 c1 c2 c3
  obtain ⟨ea, ec, hB⟩ := hO3.three.bufO
  have q0 := hB.cell 0
  simp at q0
  have hbw := hB.lt
  have hBw := hO3.lt
  have n1 : b ≠ w3.heap.size := by omega
  have n2 : w3.heap.size ≠ b := by omega
  have n3 : w.heap.size ≠ w3.heap.size := by omega
  have n4 : w3.heap.size ≠ w.heap.size := by omega
  obtain ⟨g', c', w4, hrun, hO4⟩ := run1_own (P := Tryz.prog) 32 32 41 i0 (.agg #[.int .u8 0, .int .u32 0, .int .u8 0, .slice none 0 0]) 4 40 Tryz.underlying32 hi0 hz0 hz1 hz2 rfl (by decide) _ E.length _ hB.two.drew #[.int .u8 (d : Int), .int .u32 (id : Int), .int .u8 (k : Int), .slice a C.length c] rfl (by intro u hu; simp at hu; rcases hu with rfl | rfl | rfl | rfl <;> rfl) (by unfold maxLen; omega) (by omega)
  have hszz : w3.drew.heap.size = w3.heap.size := rfl
  rw [hszz] at hrun
  have HRUN : Hid _ := hrun
  clear hrun hszz
  have k2 := hO4.two.cell 0
  have z2 := hO4.two.froz 0
  simp at k2
  have HF : Hid (Own w0 (w4.setCell ⟨b, 0, none⟩ (.slice (some ⟨g', 0, none⟩) (E.length + 1) c')) (Buf b (E ++ [⟨d, id, k, C, a, c⟩]) :: l)) := by
    refine HEND.out _ a c (.slice (some ⟨g', 0, none⟩) (E.length + 1) c') ?_
    have h5 := hO4.two.setC 0 (.slice (some ⟨g', 0, none⟩) (E.length + 1) c')
    have h6 := (h5.perm (List.Perm.cons _ (List.Perm.cons _ (List.perm_middle.trans (List.perm_middle.cons _))))).three.tail
    exact h6
  clear hO3 hB hO4 HEND s3 z3 hw3 HO2
  go_region_law (refine step_run rfl (.tmp 27) (.tmp 29) 32 32 32 rfl rfl (.slice ea E.length ec) (.slice (some ⟨w3.heap.size, 0, none⟩) 1 1) (.slice (some ⟨g', 0, none⟩) (E.length + 1) c') w4 (by simp [Act.eval]) (by simp [Act.eval]) HRUN.out ?_)
  all_goals
    go_wp2
    go_ret
    exact ⟨rfl, a, c, HF.out⟩
set_option maxHeartbeats 400000 in
theorem olen (w0 w : World) (l : List Thing) (b : Nat) (E : List OrdE) (h : Own w0 w (Buf b E :: l)) : Calls Tryz.prog 84 #[.pointer (some ⟨b, 0, none⟩)] w fun e w' => e = .returned (.int .i64 (E.length : Int)) ∧ w' = w := by
  obtain ⟨ea, ec, hO⟩ := h.bufO
  have q0 := hO.cell 0
  simp at q0
  clear h hO
  go_enter Tryz.func84, Tryz.ntmps84
  go_wp2
  go_ret
  exact ⟨rfl, rfl⟩
set_option maxHeartbeats 400000 in
theorem olen_nil (w : World) : Calls Tryz.prog 84 #[.pointer none] w fun e w' => e = .returned (.int .i64 0) ∧ w' = w := by
  go_enter Tryz.func84, Tryz.ntmps84
  go_wp2
  go_ret
  exact ⟨rfl, rfl⟩
set_option maxHeartbeats 400000 in
theorem otake (w0 w : World) (l : List Thing) (b : Nat) (E : List OrdE) (h : Own w0 w (Buf b E :: l)) : Calls Tryz.prog 55 #[.pointer (some ⟨b, 0, none⟩)] w fun e w' => ∃ ao cap, e = .returned (.slice ao E.length cap) ∧ Own w0 w' (Buf b [] :: Row 41 4 (.slice ao E.length cap) E.length (cat OrdE.cs E) :: (E.map orow ++ l)) := by
  obtain ⟨ea, ec, hO⟩ := h.bufO
  have q0 := hO.cell 0
  have z0 := hO.froz 0
  simp at q0
  have HF : Hid (Own w0 (w.setCell ⟨b, 0, none⟩ (.slice none 0 0)) (Buf b [] :: Row 41 4 (.slice ea E.length ec) E.length (cat OrdE.cs E) :: (E.map orow ++ l))) := Own.bufS (E := []) (((hO.setC 0 (.slice none 0 0)).nilRow 41 4).two)
  clear h hO
  go_enter Tryz.func55, Tryz.ntmps55
  go_wp2
  go_ret
  exact ⟨_, _, rfl, HF.out⟩
set_option maxHeartbeats 400000 in
theorem otake_nil (w : World) : Calls Tryz.prog 55 #[.pointer none] w fun e w' => e = .returned (.slice none 0 0) ∧ w' = w := by
  go_enter Tryz.func55, Tryz.ntmps55
  go_wp2
  go_ret
  exact ⟨rfl, rfl⟩
end Go.Proofs.YtflmgilmbppieaaGreatDoor

/-
  The document's example of orders.
-/
namespace Go.Proofs.YtflmgilmbppieaaGreatDoor
open Go.RowKit
set_option linter.unusedVariables false
set_option maxRecDepth 100000

/-- what becomes of a store by an order to spawn or to despawn -/
def stp (s : Sto × Nat) (o : OrdE) : (Int × Nat) × (Sto × Nat) :=
  if o.d = 1 then (res (s.1.spawn o.C).2.1 (s.1.spawn o.C).1, ((s.1.spawn o.C).2.2, s.2 + 1)) else (res (s.1.despawn o.id).1 o.id, ((s.1.despawn o.id).2, s.2 + 1))
theorem do12 (w0 w : World) (l : List Thing) (b : Nat) (s : Sto × Nat) (ht : Tab w0) (h : Own w0 w (Store b s.1 s.2 :: l)) (hσ : s.1.Ok) (hK : s.2 < 1000000) (o : OrdE) (hi : o.In) (hCs : ∀ w', Own w0 w' l → Cs w' o.ao o.C) (hb : o.ck = 0) (hd : o.d = 1 ∨ o.d = 2) :
    Calls Tryz.prog 107 #[.pointer (some ⟨b, 0, none⟩), o.ag] w fun e w' => e = .returned (rag (stp s o).1) ∧ Own w0 w' (Store b (stp s o).2.1 (stp s o).2.2 :: l) := by
  rcases hd with hd | hd
  · have e : stp s o = (res (s.1.spawn o.C).2.1 (s.1.spawn o.C).1, ((s.1.spawn o.C).2.2, s.2 + 1)) := by unfold stp; rw [if_pos hd]
    rw [e]
    exact do_of w0 w _ (Store b (s.1.spawn o.C).2.2 (s.2 + 1)) l h ht _ o hi hCs hb _ _ (fun w' l' h' hC => tell_spawn w0 w' l' b s.1 s.2 ht h' hσ o hi hd hC hK)
  · have e : stp s o = (res (s.1.despawn o.id).1 o.id, ((s.1.despawn o.id).2, s.2 + 1)) := by unfold stp; rw [if_neg (by omega)]
    rw [e]
    exact do_of w0 w _ (Store b (s.1.despawn o.id).2 (s.2 + 1)) l h ht _ o hi hCs hb _ _ (fun w' l' h' _ => tell_despawn w0 w' l' b s.1 s.2 h' hσ o hi hd hK)
def o1 : OrdE := ⟨1, 0, 0, [], none, 0⟩
def o2 : OrdE := ⟨2, 1024, 0, [], none, 0⟩
def o3 : OrdE := ⟨3, 0, 0, [], none, 0⟩
theorem o1_in : o1.In := ⟨by decide, by decide, by decide, by simp [o1], by decide⟩
theorem o2_in : o2.In := ⟨by decide, by decide, by decide, by simp [o2], by decide⟩
theorem o3_in : o3.In := ⟨by decide, by decide, by decide, by simp [o3], by decide⟩
theorem o1_ck : o1.ck = 0 := rfl
theorem o2_ck : o2.ck = 0 := rfl
theorem o3_ck : o3.ck = 4 := rfl
def ol : List OrdE := [o1, o2, o2]
def orr : List (Int × Nat) := [(0, 1024), (0, 1024), (7, 0)]
theorem ol_run : (runs stp (Sto.new 3 1, 0) ol).1 = orr := by kernel_rfl
theorem st_inv (s : Sto × Nat) (h : s.1.Ok) (o : OrdE) : (stp s o).2.1.Ok ∧ (stp s o).2.2 = s.2 + 1 := by
  unfold stp
  split
  · exact ⟨Sto.spawn_ok h _, rfl⟩
  · exact ⟨Sto.despawn_ok h _, rfl⟩
theorem ol_at {j : Nat} {o : OrdE} (h : ol[j]? = some o) : j < 3 ∧ o.In ∧ o.ck = 0 ∧ (o.d = 1 ∨ o.d = 2) ∧ o.C = [] := by
  match j, h with
  | 0, h => cases h; exact ⟨by decide, o1_in, o1_ck, .inl rfl, rfl⟩
  | 1, h => cases h; exact ⟨by decide, o2_in, o2_ck, .inr rfl, rfl⟩
  | 2, h => cases h; exact ⟨by decide, o2_in, o2_ck, .inr rfl, rfl⟩
  | n + 3, h => simp [ol] at h
def olc : Array Value := #[.int .u8 1, .int .u32 0, .int .u8 0, .slice none 0 0, .int .u8 2, .int .u32 1024, .int .u8 0, .slice none 0 0, .int .u8 2, .int .u32 1024, .int .u8 0, .slice none 0 0]
def orc : Array Value := #[.int .i64 0, .int .u32 1024, .int .i64 0, .int .u32 1024, .int .i64 7, .int .u32 0]
theorem ol_os {w0 w : World} {l : List Thing} {B : Nat} {t : TypeId} (h : Own w0 w (Cells B olc t :: l)) : Ords w (some ⟨B, 0, none⟩) ol := by
  refine ⟨.inr ⟨B, 0, rfl, fun j x hx => ?_⟩, fun x hx => ?_⟩
  · match j, hx with
    | 0, hx => cases hx; exact ⟨by rw [h.cell]; rfl, by rw [h.cell]; rfl, by rw [h.cell]; rfl, by rw [h.cell]; rfl⟩
    | 1, hx => cases hx; exact ⟨by rw [h.cell]; rfl, by rw [h.cell]; rfl, by rw [h.cell]; rfl, by rw [h.cell]; rfl⟩
    | 2, hx => cases hx; exact ⟨by rw [h.cell]; rfl, by rw [h.cell]; rfl, by rw [h.cell]; rfl, by rw [h.cell]; rfl⟩
    | n + 3, hx => simp [ol] at hx
  · obtain ⟨j, hj⟩ := List.getElem?_of_mem hx
    exact .inl (ol_at hj).2.2.2.2
theorem or_rs {w0 w : World} {l : List Thing} {B : Nat} {t : TypeId} (h : Own w0 w (Cells B orc t :: l)) : Rs w (some ⟨B, 0, none⟩) orr := by
  refine .inr ⟨B, 0, rfl, fun j x hx => ?_⟩
  match j, hx with
  | 0, hx => cases hx; exact ⟨by rw [h.cell]; rfl, by rw [h.cell]; rfl⟩
  | 1, hx => cases hx; exact ⟨by rw [h.cell]; rfl, by rw [h.cell]; rfl⟩
  | 2, hx => cases hx; exact ⟨by rw [h.cell]; rfl, by rw [h.cell]; rfl⟩
  | n + 3, hx => simp [orr] at hx

end Go.Proofs.YtflmgilmbppieaaGreatDoor

/-
  Orders that come in; orders on no store.
-/
namespace Go.Proofs.YtflmgilmbppieaaGreatDoor
open Go.ChangeShapes Go.WideShapes Go.ChangeAt Go.RowKit Go.Deep
set_option linter.unusedVariables false
set_option maxRecDepth 100000

theorem cellsOrd : Tryz.prog.cellsOf 41 = 4 := by kernel_rfl
theorem cellsOB : Tryz.prog.cellsOf 5 = 1 := by kernel_rfl
theorem cellsOU : Tryz.prog.cellsOf 38 = 1 := by kernel_rfl
theorem cellsOC : Tryz.prog.cellsOf 39 = 1 := by kernel_rfl
theorem lst4 {β : Type} {l : List β} (h : l.length = 4) : ∃ a b c d, l = [a, b, c, d] := by
  match l, h with
  | [a, b, c, d], _ => exact ⟨a, b, c, d, rfl⟩
/-- an order that comes in -/
def OrdT (W : World) (cs : List Value) (o : OrdE) : Prop := cs = o.cs ∧ o.d < 256 ∧ o.id < 4294967296 ∧ o.k < 256 ∧ IsComps W o.ao o.C.length o.cap o.C
theorem ord_is {H : Type} {enc : TypeId × Value → H} {W : World} (fuel : Nat) (cs : List Value) (x : DataW H × List MemPlace)
    (h : DataW.trod enc Tryz.prog W 0 (fun _ => true) true fuel 41 cs = some x) : ∃ o, OrdT W cs o := by
  obtain ⟨xs, n, _, hx, hl, hlen, hf⟩ := DataW.trod_struct Tryz.underlying41 h
  rw [cellsOrd] at hl
  obtain ⟨c0, c1, c2, c3, rfl⟩ := lst4 hl
  obtain ⟨y0, y1, y2, y3, rfl⟩ := lst4 hlen
  have h0 := hf 0 _ rfl
  have h1 := hf 1 _ rfl
  have h2 := hf 2 _ rfl
  have h3 := hf 3 _ rfl
  simp [cellsOB, cellsOU, cellsOC] at h0 h1 h2 h3
  obtain ⟨a, a0, _, wa⟩ := DataW.trod_int Tryz.underlying5 h0
  obtain ⟨b, b0, _, wb⟩ := DataW.trod_int Tryz.underlying38 h1
  obtain ⟨c, e0, _, wc⟩ := DataW.trod_int Tryz.underlying5 h2
  simp at a0 b0 e0
  subst a0 b0 e0
  have ha : 0 ≤ a ∧ a ≤ 255 := by simpa [Lit.wf, IntKind.min, IntKind.max, IntKind.signed, IntKind.bits] using wa
  have hb : 0 ≤ b ∧ b ≤ 4294967295 := by simpa [Lit.wf, IntKind.min, IntKind.max, IntKind.signed, IntKind.bits] using wb
  have hc : 0 ≤ c ∧ c ≤ 255 := by simpa [Lit.wf, IntKind.min, IntKind.max, IntKind.signed, IntKind.bits] using wc
  obtain ⟨an, rfl⟩ := Int.eq_ofNat_of_zero_le ha.1
  obtain ⟨bn, rfl⟩ := Int.eq_ofNat_of_zero_le hb.1
  obtain ⟨cn, rfl⟩ := Int.eq_ofNat_of_zero_le hc.1
  obtain ⟨ao, len, cap, hv⟩ : ∃ ao len cap, c3 = .slice ao len cap := by
    rcases open_slice Tryz.underlying39 h3 with ⟨hc, _⟩ | ⟨a, l, c, m, n, D, Pl, hc, _⟩
    · simp at hc; exact ⟨_, _, _, hc⟩
    · simp at hc; exact ⟨_, _, _, hc⟩
  subst hv
  obtain ⟨d, p⟩ := y3
  obtain ⟨Q, hQ⟩ : ∃ Q, IsComps W ao len cap Q := open_rows 4 Tryz.underlying39 cellsComp (by decide) CompIs (fun fuel cs x hx => by
    obtain ⟨k, a, b, c, h1, h2, h3, h4, hcs, _⟩ := comp_cells hx
    obtain ⟨n, rfl, hn⟩ := ok8_nat h1
    exact ⟨⟨n, a, b, c⟩, hcs, hn⟩) ⟨_, h3⟩
  have hql := hQ.1
  subst hql
  exact ⟨⟨an, bn, cn, Q, ao, cap⟩, rfl, by show an < _; omega, by show bn < _; omega, by show cn < _; omega, hQ⟩
theorem open_order {H : Type} {enc : TypeId × Value → H} {W : World} {base : Nat} {v : Value} {d : DataW H} {p : List MemPlace}
    (hv : Value.okWide Tryz.prog W .any base 41 v) (h : DataW.Trod enc Tryz.prog W 0 (fun _ => true) true 41 v d p) : ∃ o : OrdE, v = o.ag ∧ o.d < 256 ∧ o.id < 4294967296 ∧ o.k < 256 ∧ IsComps W o.ao o.C.length o.cap o.C := by
  obtain ⟨cs, rfl, hsz, _⟩ : ∃ cs, v = .agg cs ∧ cs.size = Tryz.prog.cellsOf 41 ∧ Row.okWide Tryz.prog W .any base 41 cs := by
    simpa [Value.okWide, Tryz.underlying41] using hv
  obtain ⟨fuel, hf⟩ := h
  obtain ⟨o, he, h1, h2, h3, h4⟩ := ord_is fuel _ _ hf
  refine ⟨o, ?_, h1, h2, h3, h4⟩
  have : cs.toList = o.cs := he
  unfold OrdE.ag
  congr 1
  apply Array.toList_inj.1
  rw [this]; rfl

theorem Own.emp {w0 w : World} {l : List Thing} (h : Own w0 w l) : Own w0 w (Emp :: l) := h.new Emp (fun _ => False) (fun _ h => h) (Fr.refl _ _) (fun _ h => h.elim)
set_option maxHeartbeats 1000000 in
theorem tell_nil1 (w0 w : World) (l : List Thing) (h : Own w0 w l) (id k : Nat) (C : List Cp) (ao : Option Addr) (len cap : Nat) (hl : C.length = len) (hCs : ∀ w', Own w0 w' l → Cs w' ao C) :
    Calls Tryz.prog 167 #[.pointer none, .agg #[.int .u8 1, .int .u32 (id : Int), .int .u8 (k : Int), .slice ao len cap]] w fun e w' => e = .returned (.tuple #[.int .u32 0, .int .i64 10]) ∧ Own w0 w' l := by
  have hA := h.allocC #[.int .u8 1, .int .u32 (id : Int), .int .u8 (k : Int), .slice ao len cap] 41
  have HA : Hid (Own w0 _ _) := hA
  have b1 := hA.cell 1
  have b2 := hA.cell 2
  have b3 := hA.cell 3
  simp at b1 b2 b3
  clear h hA hCs
  go_enter Tryz.func167, Tryz.ntmps167
  go_wp2_with fail
  refine (spawn_nil _ _).mono ?_
  rintro e w1 ⟨rfl, hf⟩
  go_wp2
  go_ret2
  exact ⟨rfl, HA.out.tail.quiet hf⟩
set_option maxHeartbeats 1000000 in
theorem tell_nil2 (w0 w : World) (l : List Thing) (h : Own w0 w l) (id k : Nat) (C : List Cp) (ao : Option Addr) (len cap : Nat) (hl : C.length = len) (hCs : ∀ w', Own w0 w' l → Cs w' ao C) :
    Calls Tryz.prog 167 #[.pointer none, .agg #[.int .u8 2, .int .u32 (id : Int), .int .u8 (k : Int), .slice ao len cap]] w fun e w' => e = .returned (.tuple #[.int .u32 (id : Int), .int .i64 10]) ∧ Own w0 w' l := by
  have hA := h.allocC #[.int .u8 2, .int .u32 (id : Int), .int .u8 (k : Int), .slice ao len cap] 41
  have HA : Hid (Own w0 _ _) := hA
  have b1 := hA.cell 1
  have b2 := hA.cell 2
  have b3 := hA.cell 3
  simp at b1 b2 b3
  clear h hA hCs
  go_enter Tryz.func167, Tryz.ntmps167
  go_wp2_with fail
  go_region_held3 (fun w' => w'.cell? ⟨w.heap.size, 1, none⟩ = some (.int .u32 (id : Int))) (go_keep)
    (first
     | (go_at_call 111; refine (despawn_nil _ _).mono ?_; rintro e w1 ⟨rfl, hf⟩
        have hB := HA.out.drew.quiet hf
        have t1 := hB.cell 1
        simp at t1
        have HB : Hid (Own w0 w1 _) := hB
        clear hB hf))
  all_goals
    go_wp2
    go_ret2
    exact ⟨rfl, HB.out.tail⟩
set_option maxHeartbeats 1000000 in
theorem tell_nil3 (w0 w : World) (l : List Thing) (h : Own w0 w l) (id k : Nat) (C : List Cp) (ao : Option Addr) (len cap : Nat) (hl : C.length = len) (hCs : ∀ w', Own w0 w' l → Cs w' ao C) (h1 : len = 1) :
    Calls Tryz.prog 167 #[.pointer none, .agg #[.int .u8 3, .int .u32 (id : Int), .int .u8 (k : Int), .slice ao len cap]] w fun e w' => e = .returned (.tuple #[.int .u32 (id : Int), .int .i64 10]) ∧ Own w0 w' l := by
  have hA := h.allocC #[.int .u8 3, .int .u32 (id : Int), .int .u8 (k : Int), .slice ao len cap] 41
  subst h1
  obtain ⟨q, rfl⟩ : ∃ q, C = [q] := List.length_eq_one_iff.1 (by omega)
  obtain ⟨g, o, rfl, _, c0, c1, c2, c3⟩ := (hCs _ hA.tail).at 0 q rfl
  simp only [Nat.zero_mul, Nat.add_zero] at c0 c1 c2 c3
  obtain ⟨qk, qa, qb, qc⟩ := q
  have HCE : Hid (∀ w', Own w0 w' l → At4 w' g o ⟨qk, qa, qb, qc⟩) := by
    intro w' h'
    obtain ⟨g', o', he, _, hat⟩ := (hCs _ h').at 0 _ rfl
    cases he
    simpa using hat
  simp only at c0 c1 c2 c3
  have HA : Hid (Own w0 _ _) := hA
  have b1 := hA.cell 1
  have b2 := hA.cell 2
  have b3 := hA.cell 3
  simp at b1 b2 b3
  clear h hA hCs
  go_enter Tryz.func167, Tryz.ntmps167
  go_wp2_with fail
  go_region_held3 (fun w' => w'.cell? ⟨w.heap.size, 1, none⟩ = some (.int .u32 (id : Int)) ∧ w'.cell? ⟨w.heap.size, 3, none⟩ = some (.slice (some ⟨g, o, none⟩) 1 cap) ∧ w'.cell? ⟨g, o, none⟩ = some (.int .u8 (qk : Int)) ∧ w'.cell? ⟨g, o + 1, none⟩ = some (.int .i32 qa) ∧ w'.cell? ⟨g, o + 2, none⟩ = some (.int .i32 qb) ∧ w'.cell? ⟨g, o + 3, none⟩ = some (.int .i32 qc)) (go_keep)
    (first
     | (go_at_call 112; refine (set_nil _ _ _ _ _ _).mono ?_; rintro e w1 ⟨rfl, hf⟩
        have hB := HA.out.drew.quiet hf
        have t1 := hB.cell 1
        simp at t1
        have t3 := hB.cell 3
        simp at t3
        obtain ⟨s0, s1, s2, s3⟩ := HCE.out _ hB.tail
        have HB : Hid (Own w0 w1 _) := hB
        clear hB hf))
  all_goals
    go_wp2
    go_ret2
    exact ⟨rfl, HB.out.tail⟩
set_option maxHeartbeats 1000000 in
theorem tell_nil4 (w0 w : World) (l : List Thing) (h : Own w0 w l) (id k : Nat) (C : List Cp) (ao : Option Addr) (len cap : Nat) (hl : C.length = len) (hCs : ∀ w', Own w0 w' l → Cs w' ao C) (h1 : len = 1) :
    Calls Tryz.prog 167 #[.pointer none, .agg #[.int .u8 4, .int .u32 (id : Int), .int .u8 (k : Int), .slice ao len cap]] w fun e w' => e = .returned (.tuple #[.int .u32 (id : Int), .int .i64 10]) ∧ Own w0 w' l := by
  have hA := h.allocC #[.int .u8 4, .int .u32 (id : Int), .int .u8 (k : Int), .slice ao len cap] 41
  subst h1
  obtain ⟨q, rfl⟩ : ∃ q, C = [q] := List.length_eq_one_iff.1 (by omega)
  obtain ⟨g, o, rfl, _, c0, c1, c2, c3⟩ := (hCs _ hA.tail).at 0 q rfl
  simp only [Nat.zero_mul, Nat.add_zero] at c0 c1 c2 c3
  obtain ⟨qk, qa, qb, qc⟩ := q
  have HCE : Hid (∀ w', Own w0 w' l → At4 w' g o ⟨qk, qa, qb, qc⟩) := by
    intro w' h'
    obtain ⟨g', o', he, _, hat⟩ := (hCs _ h').at 0 _ rfl
    cases he
    simpa using hat
  simp only at c0 c1 c2 c3
  have HA : Hid (Own w0 _ _) := hA
  have b1 := hA.cell 1
  have b2 := hA.cell 2
  have b3 := hA.cell 3
  simp at b1 b2 b3
  clear h hA hCs
  go_enter Tryz.func167, Tryz.ntmps167
  go_wp2_with fail
  go_region_held3 (fun w' => w'.cell? ⟨w.heap.size, 1, none⟩ = some (.int .u32 (id : Int)) ∧ w'.cell? ⟨w.heap.size, 3, none⟩ = some (.slice (some ⟨g, o, none⟩) 1 cap) ∧ w'.cell? ⟨g, o, none⟩ = some (.int .u8 (qk : Int)) ∧ w'.cell? ⟨g, o + 1, none⟩ = some (.int .i32 qa) ∧ w'.cell? ⟨g, o + 2, none⟩ = some (.int .i32 qb) ∧ w'.cell? ⟨g, o + 3, none⟩ = some (.int .i32 qc)) (go_keep)
    (first
     | (go_at_call 201; refine (add_nil _ _ _ _ _ _).mono ?_; rintro e w1 ⟨rfl, hf⟩
        have hB := HA.out.drew.quiet hf
        have t1 := hB.cell 1
        simp at t1
        have t3 := hB.cell 3
        simp at t3
        obtain ⟨s0, s1, s2, s3⟩ := HCE.out _ hB.tail
        have HB : Hid (Own w0 w1 _) := hB
        clear hB hf))
  all_goals
    go_wp2
    go_ret2
    exact ⟨rfl, HB.out.tail⟩
set_option maxHeartbeats 1000000 in
theorem tell_nil5 (w0 w : World) (l : List Thing) (h : Own w0 w l) (id k : Nat) (C : List Cp) (ao : Option Addr) (len cap : Nat) (hl : C.length = len) (hCs : ∀ w', Own w0 w' l → Cs w' ao C) :
    Calls Tryz.prog 167 #[.pointer none, .agg #[.int .u8 5, .int .u32 (id : Int), .int .u8 (k : Int), .slice ao len cap]] w fun e w' => e = .returned (.tuple #[.int .u32 (id : Int), .int .i64 10]) ∧ Own w0 w' l := by
  have hA := h.allocC #[.int .u8 5, .int .u32 (id : Int), .int .u8 (k : Int), .slice ao len cap] 41
  have HA : Hid (Own w0 _ _) := hA
  have b1 := hA.cell 1
  have b2 := hA.cell 2
  have b3 := hA.cell 3
  simp at b1 b2 b3
  clear h hA hCs
  go_enter Tryz.func167, Tryz.ntmps167
  go_wp2_with fail
  go_region_held3 (fun w' => w'.cell? ⟨w.heap.size, 1, none⟩ = some (.int .u32 (id : Int)) ∧ w'.cell? ⟨w.heap.size, 2, none⟩ = some (.int .u8 (k : Int))) (go_keep)
    (first
     | (go_at_call 202; refine (remove_nil _ _ _).mono ?_; rintro e w1 ⟨rfl, hf⟩
        have hB := HA.out.drew.quiet hf
        have t1 := hB.cell 1
        simp at t1
        have t2 := hB.cell 2
        simp at t2
        have HB : Hid (Own w0 w1 _) := hB
        clear hB hf))
  all_goals
    go_wp2
    go_ret2
    exact ⟨rfl, HB.out.tail⟩
theorem ock_one {d k : Nat} {C : List Cp} (hd : d = 3 ∨ d = 4) (h : ock d k C = 0) : C.length = 1 := by
  unfold ock at h
  rw [if_neg (by omega), if_neg (by omega), if_pos hd] at h
  split at h
  · assumption
  · cases h
theorem ock_ways {d k : Nat} {C : List Cp} (h : ock d k C = 0) : d = 1 ∨ d = 2 ∨ d = 3 ∨ d = 4 ∨ d = 5 := by
  rcases Nat.lt_or_ge d 1 with c | c
  · rw [ock_bad d k C (.inl c)] at h; cases h
  · rcases Nat.lt_or_ge 5 d with e | e
    · rw [ock_bad d k C (.inr e)] at h; cases h
    · omega
theorem do_none (w0 w : World) (l : List Thing) (ht : Tab w0) (h : Own w0 w l) (o : OrdE) (hi : o.In) (hCs : ∀ w', Own w0 w' l → Cs w' o.ao o.C) :
    Calls Tryz.prog 107 #[.pointer none, o.ag] w fun e w' => e = .returned (rag (if o.ck = 0 then (10, 0) else ((o.ck : Int), 0))) ∧ Own w0 w' l := by
  by_cases hb : o.ck = 0
  · rw [if_pos hb]
    have key : ∀ id : Nat, (∀ w' l', Own w0 w' (Emp :: l') → (∀ w'', Own w0 w'' l' → Cs w'' o.ao o.C) → Calls Tryz.prog 167 #[.pointer none, o.ag] w' fun e w'' => e = .returned (.tuple #[.int .u32 (id : Int), .int .i64 10]) ∧ Own w0 w'' (Emp :: l')) → Calls Tryz.prog 107 #[.pointer none, o.ag] w fun e w' => e = .returned (rag (10, 0)) ∧ Own w0 w' l := by
      intro id HT
      refine (do_of w0 w Emp Emp l h.emp ht none o hi hCs hb id 10 HT).mono ?_
      rintro e w' ⟨rfl, h'⟩
      exact ⟨rfl, h'.tail⟩
    obtain ⟨d, id, k, C, ao, cap⟩ := o
    have hw := ock_ways hb
    simp only at hw key
    rcases hw with rfl | rfl | rfl | rfl | rfl
    · exact key 0 (fun w' l' h' hC => (tell_nil1 w0 w' l' h'.tail id k C ao C.length cap rfl hC).mono fun e w'' ⟨he, h2⟩ => ⟨he, h2.emp⟩)
    · exact key id (fun w' l' h' hC => (tell_nil2 w0 w' l' h'.tail id k C ao C.length cap rfl hC).mono fun e w'' ⟨he, h2⟩ => ⟨he, h2.emp⟩)
    · exact key id (fun w' l' h' hC => (tell_nil3 w0 w' l' h'.tail id k C ao C.length cap rfl hC (ock_one (.inl rfl) hb)).mono fun e w'' ⟨he, h2⟩ => ⟨he, h2.emp⟩)
    · exact key id (fun w' l' h' hC => (tell_nil4 w0 w' l' h'.tail id k C ao C.length cap rfl hC (ock_one (.inr rfl) hb)).mono fun e w'' ⟨he, h2⟩ => ⟨he, h2.emp⟩)
    · exact key id (fun w' l' h' hC => (tell_nil5 w0 w' l' h'.tail id k C ao C.length cap rfl hC).mono fun e w'' ⟨he, h2⟩ => ⟨he, h2.emp⟩)
  · rw [if_neg hb]
    exact do_bad w0 w l h ht none o hi hCs hb
end Go.Proofs.YtflmgilmbppieaaGreatDoor

/-
  The document's Few, Twins and SameOrder.
-/
namespace Go.Proofs.YtflmgilmbppieaaGreatDoor
open Go.RowKit
set_option linter.unusedVariables false
set_option maxRecDepth 100000

def OrdE.is (o : OrdE) : Nat × Nat × Nat × List Cp := (o.d, o.id, o.k, o.C)
def OrdE.cut (o : OrdE) : OrdE := { o with C := o.C.take 20 }
def few (Q : List OrdE) : List OrdE := (Q.take 60).map OrdE.cut
theorem few_len (Q : List OrdE) : (few Q).length ≤ 60 := by simp [few]; omega
theorem few_succ (Q : List OrdE) (j : Nat) (o : OrdE) (ho : Q[j]? = some o) : few (Q.take (j + 1)) = if j < 60 then few (Q.take j) ++ [o.cut] else few (Q.take j) := by
  unfold few
  rw [List.take_take, List.take_take]
  split
  · rename_i h
    rw [Nat.min_eq_right (by omega), Nat.min_eq_right (by omega), List.take_add_one, ho]
    simp
  · rw [Nat.min_eq_left (by omega), Nat.min_eq_left (by omega)]
theorem cat_one (o : OrdE) : cat OrdE.cs [o] = o.cs := by simp [cat]
set_option maxHeartbeats 2000000 in
theorem few_ok (w0 w : World) (l : List Thing) (h : Own w0 w l) (ao : Option Addr) (n cap : Nat) (Q : List OrdE) (hn : Q.length = n) (hn6 : n ≤ 9223372036854775807) (hQ : ∀ w', Own w0 w' l → Ords w' ao Q) (hw : ∀ o ∈ Q, o.C.length ≤ o.cap ∧ o.cap ≤ 9223372036854775807) :
    Calls Tryz.prog 13 #[.slice ao n cap, .int .i64 60] w fun e w' => ∃ ra rc, e = .returned (.slice ra (few Q).length rc) ∧ Own w0 w' (Row 41 4 (.slice ra (few Q).length rc) (few Q).length (cat OrdE.cs (few Q)) :: l) := by
  obtain ⟨i0, hi0, hz0, hz1, hz2⟩ := info_parts Tryz.infoOrd
  have H : Hid (Own w0 w l) := h
  have HN : Hid (Q.length = n) := hn
  have HQ : Hid (∀ w', Own w0 w' l → Ords w' ao Q) := hQ
  have HW : Hid (∀ o ∈ Q, o.C.length ≤ o.cap ∧ o.cap ≤ 9223372036854775807) := hw
  clear h hn hQ hw
  go_enter Tryz.func13, Tryz.ntmps13
  go_wp2
  go_loopw [5, 10] (fun ov jv wr => ∃ (j : Nat) (ra : Option Addr) (rc : Nat), j ≤ n ∧ jv = .int .i64 j ∧ ov = .slice ra (few (Q.take j)).length rc ∧ Own w0 wr (Row 41 4 (.slice ra (few (Q.take j)).length rc) (few (Q.take j)).length (cat OrdE.cs (few (Q.take j))) :: l)) (fun _ jv _ => n - (intOf jv).toNat)
  case atStart => exact ⟨0, none, 0, Nat.zero_le _, rfl, rfl, H.out.nilRow 41 4⟩
  case round =>
    obtain ⟨j, ra, rc, hj, rfl, rfl, hO⟩ := hrel
    have HO : Hid (Own w0 wr _) := hO
    clear H
    by_cases hlt : j < n
    · obtain ⟨o, ho⟩ : ∃ o, Q[j]? = some o := ⟨_, List.getElem?_eq_getElem (by rw [HN.out]; exact hlt)⟩
      obtain ⟨g, off, hao, c0, c1, c2, c3⟩ := (HQ.out wr hO.tail).at j o ho
      have hlt' : (j : Int) < (n : Int) := by omega
      obtain ⟨hw1, hw2⟩ := HW.out o (List.mem_of_getElem? ho)
      have HS : Hid (few (Q.take (j + 1)) = if j < 60 then few (Q.take j) ++ [o.cut] else few (Q.take j)) := few_succ Q j o ho
      have hfl := few_len (Q.take j)
      subst hao
      by_cases h60 : j < 60
      · have h60' : (j : Int) < 60 := by omega
        obtain ⟨k, hk⟩ : ∃ k, k = min o.C.length 20 := ⟨_, rfl⟩
        have hmin : min (o.C.length : Int) 20 = (k : Int) := by omega
        have hk1 : k ≤ o.C.length := by omega
        have hk2 : k ≤ o.cap := by omega
        have H5 : Hid (Own w0 _ _) := hO.alloc (.cells #[.int .u8 (o.d : Int), .int .u32 (o.id : Int), .int .u8 (o.k : Int), .slice o.ao k o.cap] 41)
        have HCS : Hid (o.cut.cs = [.int .u8 (o.d : Int), .int .u32 (o.id : Int), .int .u8 (o.k : Int), .slice o.ao k o.cap]) := by
          show _ = _
          unfold OrdE.cut OrdE.cs
          simp only [List.length_take, hk, Nat.min_comm]
        have HS2 : Hid (few (Q.take (j + 1)) = few (Q.take j) ++ [o.cut]) := by have := HS.out; rw [if_pos h60] at this; exact this
        obtain ⟨d, oid, ok, C, oa, oc⟩ := o
        simp only at c0 c1 c2 c3 hmin hk1 hk2 hw1 hw2 H5 HCS
        clear hO HO ho hk HS
        go_wp2_with (at_builtin; refine append1_own rfl _ _ 32 rfl 41 i0 (.agg #[.int .u8 0, .int .u32 0, .int .u8 0, .slice none 0 0]) 4 40 Tryz.underlying32 hi0 hz0 hz1 hz2 rfl (by decide) _ (few (Q.take j)).length (cat OrdE.cs (few (Q.take j))) rfl H5.out _ #[.int .u8 (d : Int), .int .u32 (oid : Int), .int .u8 (ok : Int), .slice oa k oc] (by simp) rfl rfl (by intro u hu; simp at hu; rcases hu with rfl | rfl | rfl | rfl <;> rfl) (by unfold maxLen; omega) (by omega) ?_)
        intro g6 c6 w6 hO6 hsz6
        have H6 : Hid (Own w0 w6 (Row 41 4 (.slice (some ⟨g6, 0, none⟩) (few (Q.take (j + 1))).length c6) (few (Q.take (j + 1))).length (cat OrdE.cs (few (Q.take (j + 1)))) :: l)) := by
          show Own _ _ _
          rw [HS2.out, List.length_append, cat_append, cat_one, HCS.out]; exact hO6
        have HL6 : Hid ((few (Q.take j)).length + 1 = (few (Q.take (j + 1))).length) := by show _ = _; rw [HS2.out, List.length_append]; rfl
        clear hO6 hsz6 H5 c0 c1 c2 c3
        go_wp2
        go_roundw
        case rel => exact ⟨j + 1, _, _, by omega, by go_num, by rw [HL6.out], H6.out⟩
        case measure => simp [intOf]; omega
      · have h60' : ¬ (j : Int) < 60 := by omega
        have HS2 : Hid (few (Q.take (j + 1)) = few (Q.take j)) := by have := HS.out; rw [if_neg h60] at this; exact this
        have HA : Hid (Own w0 _ _) := hO.alloc (.cells #[.int .u8 (o.d : Int), .int .u32 (o.id : Int), .int .u8 (o.k : Int), .slice o.ao o.C.length o.cap] 41)
        obtain ⟨d, oid, ok, C, oa, oc⟩ := o
        simp only at c0 c1 c2 c3 HA
        clear hO HO ho HS
        go_wp2
        go_roundw
        case rel =>
          refine ⟨j + 1, ra, rc, by omega, by go_num, by rw [HS2.out], ?_⟩
          rw [HS2.out]; exact HA.out
        case measure => simp [intOf]; omega
    · have hlt' : ¬ (j : Int) < (n : Int) := by omega
      have hT : Q.take j = Q := List.take_of_length_le (by rw [HN.out]; omega)
      rw [hT] at HO ⊢
      clear hO hT
      go_wp2
      go_ret
      exact ⟨_, _, rfl, HO.out⟩
set_option maxHeartbeats 1000000 in
theorem sameOrder_any (w : World) (x y : OrdE) (hxy : x.is = y.is) (h1 : Cs w x.ao x.C) (h2 : Cs w y.ao y.C) (hm : x.C.length ≤ 1000000) :
    Calls Tryz.prog 17 #[x.ag, y.ag] w fun e w' => e = .returned (.bool true) ∧ Fr Nobody w w' := by
  obtain ⟨d, id, k, C, a1, c1⟩ := x
  obtain ⟨d', id', k', C', a2, c2⟩ := y
  simp only [OrdE.is, Prod.mk.injEq] at hxy
  obtain ⟨rfl, rfl, rfl, rfl⟩ := hxy
  have HF : Hid (Fr Nobody w ((w.alloc (.cells #[.int .u8 (d : Int), .int .u32 (id : Int), .int .u8 (k : Int), .slice a1 C.length c1] 41)).alloc (.cells #[.int .u8 (d : Int), .int .u32 (id : Int), .int .u8 (k : Int), .slice a2 C.length c2] 41))) := ((Fr.refl _ _).alloc _).alloc _
  have HS : Hid (Calls _ _ _ _ _) := same_cs _ a1 a2 C.length c1 c2 C (h1.quiet HF.out) (h2.quiet HF.out) rfl hm
  have e0 : ((d : Int) == (d : Int)) = true := by simp
  have e1 : ((id : Int) == (id : Int)) = true := by simp
  have e2 : ((k : Int) == (k : Int)) = true := by simp
  unfold OrdE.ag
  simp only
  clear h1 h2
  go_enter Tryz.func17, Tryz.ntmps17
  go_wp2_with fail
  refine HS.out.mono ?_
  rintro e w1 ⟨rfl, hf⟩
  go_wp2
  go_ret
  exact ⟨rfl, HF.out.trans hf⟩
end Go.Proofs.YtflmgilmbppieaaGreatDoor

/-
  The document's Twins: orders of their own.
-/
namespace Go.Proofs.YtflmgilmbppieaaGreatDoor
open Go.RowKit
set_option linter.unusedVariables false
set_option maxRecDepth 100000

theorem Own.dropl {w0 w : World} {l : List Thing} (L : List Thing) (h : Own w0 w (L ++ l)) : Own w0 w l := by
  induction L with
  | nil => exact h
  | cons P L ih => exact ih h.tail
set_option maxHeartbeats 2000000 in
theorem twins_ok (w0 w : World) (l : List Thing) (h : Own w0 w l) (ao : Option Addr) (n cap : Nat) (Q : List OrdE) (hn : Q.length = n) (hn6 : n ≤ 1000) (hQ : ∀ w', Own w0 w' l → Ords w' ao Q) (hw : ∀ o ∈ Q, o.C.length ≤ 1000) :
    Calls Tryz.prog 14 #[.slice ao n cap] w fun e w' => ∃ E ra rc, e = .returned (.slice ra n rc) ∧ E.map OrdE.is = Q.map OrdE.is ∧ E.length = n ∧ Own w0 w' (Row 41 4 (.slice ra n rc) n (cat OrdE.cs E) :: (E.map orow ++ l)) := by
  obtain ⟨i0, hi0, hz0, hz1, hz2⟩ := info_parts Tryz.infoOrd
  have H : Hid (Own w0 w l) := h
  have HN : Hid (Q.length = n) := hn
  have HQ : Hid (∀ w', Own w0 w' l → Ords w' ao Q) := hQ
  have HW : Hid (∀ o ∈ Q, o.C.length ≤ 1000) := hw
  clear h hn hQ hw
  go_enter Tryz.func14, Tryz.ntmps14
  go_wp2
  go_loopw [3, 8] (fun ov jv wr => ∃ (j : Nat) (E : List OrdE) (ra : Option Addr) (rc : Nat), j ≤ n ∧ jv = .int .i64 j ∧ ov = .slice ra j rc ∧ E.map OrdE.is = (Q.take j).map OrdE.is ∧ E.length = j ∧ Own w0 wr (Row 41 4 (.slice ra j rc) j (cat OrdE.cs E) :: (E.map orow ++ l))) (fun _ jv _ => n - (intOf jv).toNat)
  case atStart => exact ⟨0, [], none, 0, Nat.zero_le _, rfl, rfl, rfl, rfl, H.out.nilRow 41 4⟩
  case round =>
    obtain ⟨j, E, ra, rc, hj, rfl, rfl, hE, hEl, hO⟩ := hrel
    have HE : Hid (E.map OrdE.is = (Q.take j).map OrdE.is ∧ E.length = j) := ⟨hE, hEl⟩
    clear H
    by_cases hlt : j < n
    · obtain ⟨o, ho⟩ : ∃ o, Q[j]? = some o := ⟨_, List.getElem?_eq_getElem (by rw [HN.out]; exact hlt)⟩
      obtain ⟨g, off, hao, c0, c1, c2, c3⟩ := (HQ.out wr (hO.tail.dropl _)).at j o ho
      have hlt' : (j : Int) < (n : Int) := by omega
      have hB := hO.allocC #[.int .u8 (o.d : Int), .int .u32 (o.id : Int), .int .u8 (o.k : Int), .slice o.ao o.C.length o.cap] 41
      have HTW : Hid (Calls _ _ _ _ _) := twin_any w0 _ _ hB o.ao o.C.length o.cap o.C rfl ((HQ.out _ (hB.tail.tail.dropl _)).2 o (List.mem_of_getElem? ho)) (by have := HW.out o (List.mem_of_getElem? ho); omega)
      have HE2 : Hid (∀ a c, (E ++ [{ o with ao := a, cap := c }]).map OrdE.is = (Q.take (j + 1)).map OrdE.is) := by
        intro a c
        rw [List.map_append, HE.out.1, List.take_add_one, ho]
        simp [OrdE.is]
      subst hao
      obtain ⟨d, oid, ok, C, oa, oc⟩ := o
      simp only at c0 c1 c2 c3 HTW HE2
      clear hO hB ho hE hEl
      go_wp2_with fail
      refine HTW.out.mono ?_
      rintro e w2 ⟨a2, c2', rfl, hO2⟩
      have hO2 := hO2.two
      have p3 := hO2.cell 3
      have z3 := hO2.froz 3
      simp at p3
      have hO3 := hO2.setC 3 (.slice a2 C.length c2')
      have s0 := hO3.cell 0
      have s1 := hO3.cell 1
      have s2 := hO3.cell 2
      have s3 := hO3.cell 3
      simp at s0 s1 s2 s3
      have H3 : Hid (Own w0 _ _) := hO3.three
      clear hO2 hO3 HTW c0 c1 c2 c3
      go_wp2_with (at_builtin; refine append1_own rfl _ _ 32 rfl 41 i0 (.agg #[.int .u8 0, .int .u32 0, .int .u8 0, .slice none 0 0]) 4 40 Tryz.underlying32 hi0 hz0 hz1 hz2 rfl (by decide) _ j (cat OrdE.cs E) rfl H3.out _ #[.int .u8 (d : Int), .int .u32 (oid : Int), .int .u8 (ok : Int), .slice a2 C.length c2'] (by simp) rfl rfl (by intro u hu; simp at hu; rcases hu with rfl | rfl | rfl | rfl <;> rfl) (by unfold maxLen; omega) (by omega) ?_)
      intro g6 c6 w6 hO6 hsz6
      have H6 : Hid (Own w0 w6 (Row 41 4 (.slice (some ⟨g6, 0, none⟩) (j + 1) c6) (j + 1) (cat OrdE.cs (E ++ [OrdE.mk d oid ok C a2 c2'])) :: ((E ++ [OrdE.mk d oid ok C a2 c2']).map orow ++ l))) := by
        show Own _ _ _
        rw [cat_append, cat_one, List.map_append]
        have h7 := hO6.two.tail
        refine h7.perm (List.Perm.cons _ ?_)
        rw [List.append_assoc]
        exact List.perm_middle.symm
      clear hO6 hsz6 H3 p3 z3 s0 s1 s2 s3
      go_wp2
      go_roundw
      case rel => exact ⟨j + 1, _, _, _, by omega, by go_num, rfl, HE2.out _ _, by rw [List.length_append, HE.out.2]; rfl, H6.out⟩
      case measure => simp [intOf]; omega
    · have hlt' : ¬ (j : Int) < (n : Int) := by omega
      have hjn : j = n := by omega
      subst hjn
      have hT : Q.take j = Q := List.take_of_length_le (by rw [HN.out]; exact Nat.le_refl _)
      rw [hT] at HE
      have HO : Hid (Own w0 wr _) := hO
      clear hO hT hE hEl
      go_wp2
      go_ret
      exact ⟨E, _, _, rfl, HE.out.1, HE.out.2, HO.out⟩
end Go.Proofs.YtflmgilmbppieaaGreatDoor
