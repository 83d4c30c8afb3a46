/-
  Tables that are nil; the first component; entities that are alike.
-/
import Derived.Test.YtmfdeaaemngbpaaDoorUo
namespace Go.Proofs.YtmfdeaaemngbpaaDoor
open Go.RowKit Go.Maps
set_option linter.unusedVariables false
set_option maxRecDepth 100000

section
variable (w : World)
set_option maxHeartbeats 400000 in
theorem tlenN : Calls Tryd.prog 24 #[.pointer none] w fun e w' => e = .returned (.int .i64 0) ∧ w' = w := by
  go_enter Tryd.func24, Tryd.ntmps24
  go_wp2
  go_ret
  exact ⟨rfl, rfl⟩
set_option maxHeartbeats 400000 in
theorem tmaskN : Calls Tryd.prog 40 #[.pointer none] w fun e w' => e = .returned (.int .u8 0) ∧ w' = w := by
  go_enter Tryd.func40, Tryd.ntmps40
  go_wp2
  go_ret
  exact ⟨rfl, rfl⟩
set_option maxHeartbeats 400000 in
theorem tidsN : Calls Tryd.prog 20 #[.pointer none] w fun e w' => e = .returned (.slice none 0 0) ∧ w' = w := by
  go_enter Tryd.func20, Tryd.ntmps20
  go_wp2
  go_ret
  exact ⟨rfl, rfl⟩
set_option maxHeartbeats 400000 in
theorem trowN (id : Nat) : Calls Tryd.prog 22 #[.pointer none, .int .u32 (id : Int)] w fun e w' => e = .returned (.tuple #[.int .i64 0, .bool false]) ∧ w' = w := by
  go_enter Tryd.func22, Tryd.ntmps22
  go_wp2
  go_ret2
  exact ⟨rfl, rfl⟩
set_option maxHeartbeats 400000 in
theorem taddN (id : Nat) (ao : Option Addr) (len cap : Nat) : Calls Tryd.prog 8 #[.pointer none, .int .u32 (id : Int), .slice ao len cap] w fun e w' => e = .returned (.int .i64 10) ∧ w' = w := by
  go_enter Tryd.func8, Tryd.ntmps8
  go_wp2
  go_ret
  exact ⟨rfl, rfl⟩
set_option maxHeartbeats 400000 in
theorem rtaddN (id : Nat) (ao : Option Addr) (len cap : Nat) : Calls Tryd.prog 9 #[.pointer none, .int .u32 (id : Int), .slice ao len cap] w fun e w' => e = .returned (.int .i64 10) ∧ w' = w := by
  go_enter Tryd.func9, Tryd.ntmps9
  go_wp2
  go_ret
  exact ⟨rfl, rfl⟩
set_option maxHeartbeats 400000 in
theorem tremN (id : Nat) : Calls Tryd.prog 10 #[.pointer none, .int .u32 (id : Int)] w fun e w' => e = .returned (.tuple #[.slice none 0 0, .int .i64 10]) ∧ w' = w := by
  have HR : Hid (Calls _ _ _ _ _) := trowN w id
  go_enter Tryd.func10, Tryd.ntmps10
  go_wp2_with fail
  refine HR.out.mono ?_
  rintro e w1 ⟨rfl, rfl⟩
  clear HR
  go_wp2
  go_ret2
  exact ⟨rfl, rfl⟩
set_option maxHeartbeats 400000 in
theorem rtremN (id : Nat) : Calls Tryd.prog 11 #[.pointer none, .int .u32 (id : Int)] w fun e w' => e = .returned (.tuple #[.slice none 0 0, .int .i64 10]) ∧ w' = w := by
  go_enter Tryd.func11, Tryd.ntmps11
  go_wp2
  go_ret2
  exact ⟨rfl, rfl⟩
set_option maxHeartbeats 400000 in
theorem tsetN (id : Nat) (q : Cp) : Calls Tryd.prog 13 #[.pointer none, .int .u32 (id : Int), q.ag] w fun e w' => e = .returned (.int .i64 10) ∧ Fr Nobody w w' := by
  obtain ⟨qk, qa, qb, qc⟩ := q
  show Calls _ _ #[_, _, .agg #[.int .u8 (qk : Int), .int .i32 qa, .int .i32 qb, .int .i32 qc]] _ _
  go_enter Tryd.func13, Tryd.ntmps13
  go_wp2
  go_ret
  exact ⟨rfl, (Fr.refl _ _).alloc _⟩
set_option maxHeartbeats 400000 in
theorem rtsetN (id : Nat) (q : Cp) : Calls Tryd.prog 15 #[.pointer none, .int .u32 (id : Int), q.ag] w fun e w' => e = .returned (.int .i64 10) ∧ Fr Nobody w w' := by
  obtain ⟨qk, qa, qb, qc⟩ := q
  show Calls _ _ #[_, _, .agg #[.int .u8 (qk : Int), .int .i32 qa, .int .i32 qb, .int .i32 qc]] _ _
  go_enter Tryd.func15, Tryd.ntmps15
  go_wp2
  go_ret
  exact ⟨rfl, (Fr.refl _ _).alloc _⟩
set_option maxHeartbeats 400000 in
theorem tgetN (id k : Nat) : Calls Tryd.prog 16 #[.pointer none, .int .u32 (id : Int), .int .u8 (k : Int)] w fun e w' => e = .returned (.tuple #[.agg #[.int .u8 0, .int .i32 0, .int .i32 0, .int .i32 0], .int .i64 10]) ∧ Fr Nobody w w' := by
  have HR : Hid (Calls _ _ _ _ _) := trowN (w.alloc (.cells #[.int .u8 0, .int .i32 0, .int .i32 0, .int .i32 0] 47)) id
  go_enter Tryd.func16, Tryd.ntmps16
  go_wp2_with fail
  refine HR.out.mono ?_
  rintro e w1 ⟨rfl, rfl⟩
  clear HR
  go_wp2
  (try simp only [Exit.inBlock, Exit.then])
  refine bodyPost_ret (v := .tuple #[.agg #[.int .u8 0, .int .i32 0, .int .i32 0, .int .i32 0], .int .i64 10]) ?_ rfl ⟨rfl, (Fr.refl _ _).alloc _⟩
  rw [results_cell_tmp rfl]
  go_simp
set_option maxHeartbeats 400000 in
theorem rtgetN (id k : Nat) : Calls Tryd.prog 17 #[.pointer none, .int .u32 (id : Int), .int .u8 (k : Int)] w fun e w' => e = .returned (.tuple #[.agg #[.int .u8 0, .int .i32 0, .int .i32 0, .int .i32 0], .int .i64 10]) ∧ Fr Nobody w w' := by
  go_enter Tryd.func17, Tryd.ntmps17
  go_wp2
  (try simp only [Exit.inBlock, Exit.then])
  refine bodyPost_ret (v := .tuple #[.agg #[.int .u8 0, .int .i32 0, .int .i32 0, .int .i32 0], .int .i64 10]) ?_ rfl ⟨rfl, (Fr.refl _ _).alloc _⟩
  rw [results_cell_tmp rfl]
  go_simp
set_option maxHeartbeats 400000 in
theorem tatN : Calls Tryd.prog 39 #[.pointer none, .int .i64 0] w fun e w' => e = .returned (.tuple #[.agg #[.int .u32 0, .slice none 0 0], .bool false]) ∧ Fr Nobody w w' := by
  have HR : Hid (Calls _ _ _ _ _) := tlenN (w.alloc (.cells #[.int .u32 0, .slice none 0 0] 81))
  go_enter Tryd.func39, Tryd.ntmps39
  go_wp2_with fail
  refine HR.out.mono ?_
  rintro e w1 ⟨rfl, rfl⟩
  clear HR
  go_wp2
  (try simp only [Exit.inBlock, Exit.then])
  refine bodyPost_ret (v := .tuple #[.agg #[.int .u32 0, .slice none 0 0], .bool false]) ?_ rfl ⟨rfl, (Fr.refl _ _).alloc _⟩
  rw [results_cell_tmp rfl]
  go_simp
/-- the first one, or none -/
def fst1 (C : List Cp) : Cp := match C with
  | [] => ⟨0, 0, 0, 0⟩
  | q :: _ => q
set_option maxHeartbeats 400000 in
theorem first_any (ao : Option Addr) (len cap : Nat) (C : List Cp) (hl : C.length = len) (hs : Cs w ao C) :
    Calls Tryd.prog 14 #[.slice ao len cap] w fun e w' => e = .returned (fst1 C).ag ∧ Fr Nobody w w' := by
  cases C with
  | nil =>
    have h0 : len = 0 := by rw [← hl]; rfl
    subst h0
    go_enter Tryd.func14, Tryd.ntmps14
    go_wp2
    (try simp only [Exit.inBlock, Exit.then])
    refine bodyPost_ret (v := .agg #[.int .u8 0, .int .i32 0, .int .i32 0, .int .i32 0]) ?_ rfl ⟨rfl, (Fr.refl _ _).alloc _⟩
    simp only [results]
    go_simp
  | cons q C =>
    obtain ⟨g, o, hao, _, c0, c1, c2, c3⟩ := hs.at 0 q rfl
    subst hao
    have hlen : ¬ len = 0 := by rw [← hl]; simp
    have hlen' : ((len : Int) == 0) = false := by rw [beq_eq_false_iff_ne]; omega
    have hlen2 : (0 : Int) < (len : Int) := by omega
    have hlen3 : 0 < len := by omega
    have hgw := World.block_lt_of_cell? w _ c0
    have hgn : w.heap.size ≠ g := by have := hgw; simp only at this; omega
    have hgn2 : g ≠ w.heap.size := fun e => hgn e.symm
    obtain ⟨qk, qa, qb, qc⟩ := q
    simp only [Nat.zero_mul, Nat.add_zero] at c0 c1 c2 c3
    clear hl hs
    go_enter Tryd.func14, Tryd.ntmps14
    go_wp2
    (try simp only [Exit.inBlock, Exit.then])
    refine bodyPost_ret (v := .agg #[.int .u8 (qk : Int), .int .i32 qa, .int .i32 qb, .int .i32 qc]) ?_ rfl ⟨rfl, (Fr.refl _ _).alloc _⟩
    simp only [results]
    go_simp
set_option maxHeartbeats 1000000 in
theorem sameEnt_any (id : Nat) (a1 a2 : Option Addr) (n c1 c2 : Nat) (C : List Cp) (h1 : Cs w a1 C) (h2 : Cs w a2 C) (hn : C.length = n) (hm : n ≤ 1000000) :
    Calls Tryd.prog 41 #[.agg #[.int .u32 (id : Int), .slice a1 n c1], .agg #[.int .u32 (id : Int), .slice a2 n c2]] w fun e w' => e = .returned (.bool true) ∧ Fr Nobody w w' := by
  have HF : Hid (Fr Nobody w ((w.alloc (.cells #[.int .u32 (id : Int), .slice a1 n c1] 81)).alloc (.cells #[.int .u32 (id : Int), .slice a2 n c2] 81))) := ((Fr.refl _ _).alloc _).alloc _
  have HS : Hid (Calls _ _ _ _ _) := same_cs _ a1 a2 n c1 c2 C (h1.quiet HF.out) (h2.quiet HF.out) hn hm
  have hii : ((id : Int) == (id : Int)) = true := by simp
  clear h1 h2 hn
  go_enter Tryd.func41, Tryd.ntmps41
  go_wp2_with fail
  refine HS.out.mono ?_
  rintro e w1 ⟨rfl, hf⟩
  have H1 : Hid (Fr Nobody w w1) := HF.out.trans hf
  clear hf HS
  go_wp2
  go_ret
  exact ⟨rfl, H1.out⟩
end
end Go.Proofs.YtmfdeaaemngbpaaDoor
