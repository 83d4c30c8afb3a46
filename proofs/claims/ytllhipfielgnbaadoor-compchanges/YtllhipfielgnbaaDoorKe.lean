/-
  Nil writers and readers of package comp.
-/
import Derived.Test.YtllhipfielgnbaaDoorKd
namespace Go.Proofs.YtllhipfielgnbaaDoor
open Go.RowKit
set_option linter.unusedVariables false
set_option maxRecDepth 100000

def c0v : Value := .agg #[.int .u8 0, .int .i32 0, .int .i32 0, .int .i32 0]
set_option maxHeartbeats 1000000 in
theorem tryC_nil (w : World) (f : Value) : Calls Tryd.prog 37 #[.pointer none, f] w fun e w' => e = .returned (.tuple #[.agg #[.int .u8 0, .int .i32 0, .int .i32 0, .int .i32 0], .int .i64 10]) ∧ Fr Nobody w w' := by
  go_enter Tryd.func37, Tryd.ntmps37
  go_wp2
  (try simp only [Exit.inBlock, Exit.then])
  refine bodyPost_ret (v := .tuple #[.agg #[.int .u8 0, .int .i32 0, .int .i32 0, .int .i32 0], .int .i64 10]) ?_ rfl ⟨rfl, ?_⟩
  · rw [results_cell_tmp rfl]
    go_simp
  · exact ((Fr.refl _ _).alloc _).alloc _

theorem Box.new' (w : World) (b k : Nat) (F : Nat → Int) (h : b = w.heap.size) : Box (w.alloc (.cells (cmp k F) 24)) b k F := by subst h; exact Box.new w k F
theorem Box.frozen {w : World} {b k : Nat} {F : Nat → Int} (h : Box w b k F) (o : Nat) : w.frozen? ⟨b, o, none⟩ = false := by
  unfold Box at h; simp [World.frozen?, h]
/-- a component is laid over another one -/
def put4 (w : World) (b k : Nat) (F : Nat → Int) : World := (((w.setCell ⟨b, 0, none⟩ (.int .u8 (k : Int))).setCell ⟨b, 1, none⟩ (.int .i32 (F 0))).setCell ⟨b, 2, none⟩ (.int .i32 (F 1))).setCell ⟨b, 3, none⟩ (.int .i32 (F 2))
theorem put4_box {w : World} {b k0 k : Nat} {F0 F : Nat → Int} (h : Box w b k0 F0) : Box (put4 w b k F) b k F := by
  unfold Box cmp at *
  have h1 := setCell_heap w b 0 _ _ (.int .u8 (k : Int)) h
  have h2 := setCell_heap _ b 1 _ _ (.int .i32 (F 0)) h1
  have h3 := setCell_heap _ b 2 _ _ (.int .i32 (F 1)) h2
  have h4 := setCell_heap _ b 3 _ _ (.int .i32 (F 2)) h3
  unfold put4
  rw [h4]
  rfl
theorem put4_fr {S : Nat → Prop} {w0 w : World} {b k : Nat} {F : Nat → Int} (h : Fr S w0 w) (hb : S b ∨ w0.heap.size ≤ b) : Fr S w0 (put4 w b k F) :=
  (((h.setCell (p := ⟨b, 0, none⟩) hb _).setCell (p := ⟨b, 1, none⟩) hb _).setCell (p := ⟨b, 2, none⟩) hb _).setCell (p := ⟨b, 3, none⟩) hb _

set_option maxHeartbeats 1000000 in
theorem getStep_nil (w : World) (k : Nat) (F : Nat → Int) : Calls Tryd.prog 16 #[.pointer none, .agg (cmp k F)] w fun e w' => e = .returned (.tuple #[.agg #[.int .u8 0, .int .i32 0, .int .i32 0, .int .i32 0], .int .i64 10]) ∧ Fr Nobody w w' := by
  have HB : Hid (Box (((w.alloc (.cells #[.pointer none] 40)).alloc (.cells (cmp k F) 24)).alloc (.cells #[.int .u8 0, .int .i32 0, .int .i32 0, .int .i32 0] 24)) (w.heap.size + 1 + 1) 0 (f3 0 0 0)) := by
    exact Box.new' _ _ 0 (f3 0 0 0) (by simp)
  unfold cmp at *
  go_enter Tryd.func16, Tryd.ntmps16
  go_wp2_with fail
  refine (tryC_nil _ _).mono ?_
  rintro e w1 ⟨rfl, hf1⟩
  have HF1 : Hid (Fr Nobody w w1) := ((((Fr.refl _ w).alloc _).alloc _).alloc _).trans hf1
  have hb1 := Box.quiet HB.out hf1
  have HB1 : Hid (Box w1 (w.heap.size + 1 + 1) 0 (f3 0 0 0)) := hb1
  obtain ⟨p0, p1, p2, p3⟩ := hb1.cells
  have z0 := hb1.frozen 0
  have z1 := hb1.frozen 1
  have z2 := hb1.frozen 2
  have z3 := hb1.frozen 3
  clear hf1 hb1
  go_wp2
  (try simp only [Exit.inBlock, Exit.then])
  refine bodyPost_ret (v := .tuple #[.agg #[.int .u8 0, .int .i32 0, .int .i32 0, .int .i32 0], .int .i64 10]) ?_ rfl ⟨rfl, put4_fr (k := 0) (F := f3 0 0 0) HF1.out (.inr (by omega))⟩
  rw [results_cell_tmp rfl]
  obtain ⟨r0, r1, r2, r3⟩ := (put4_box (k := 0) (F := f3 0 0 0) HB1.out).cells
  simp only [put4, f3] at r0 r1 r2 r3
  go_simp

set_option maxHeartbeats 1000000 in
theorem putStep_nil (w : World) (k k' : Nat) (F G : Nat → Int) : Calls Tryd.prog 8 #[.pointer none, .agg (cmp k F), .agg (cmp k' G)] w fun e w' => e = .returned (.int .i64 10) ∧ Fr Nobody w w' := by
  unfold cmp
  go_enter Tryd.func8, Tryd.ntmps8
  go_wp2
  go_ret
  exact ⟨rfl, ((Fr.refl _ _).alloc _).alloc _⟩
end Go.Proofs.YtllhipfielgnbaaDoor
