/-
  The document's examples of layer 6.
-/
import Derived.Test.YtllhipfielgnbaaDoorKcg
import Derived.Laws.StructEq
import Derived.ChangeKeysEq
namespace Go.Proofs.YtllhipfielgnbaaDoor
open Go.RowKit
set_option linter.unusedVariables false
set_option maxRecDepth 100000

set_option maxHeartbeats 2000000 in
theorem awake6 (w : World) (ht : Tab w) : Calls Tryd.prog 5 #[] w fun e w' => e = .returned (.bool true) ∧ Fr Nobody w w' := by
  have H : Hid (Tab w) := ht
  have h1 : Hid (∀ w, Tab w → Calls Tryd.prog 21 #[.agg #[.int .u8 2, .int .i32 5, .int .i32 0, .int .i32 0]] w fun e w' => e = .returned (.int .i64 12) ∧ Fr Nobody w w') := fun w h => by have := size_any w h 2 (by decide) (f3 5 0 0); rw [sz_a] at this; exact this
  have h2 : Hid (∀ w, Tab w → Calls Tryd.prog 13 #[.agg #[.int .u8 2, .int .i32 6, .int .i32 0, .int .i32 0], .agg #[.int .u8 2, .int .i32 5, .int .i32 0, .int .i32 0]] w fun e w' => e = .returned (.int .i64 6) ∧ Fr Nobody w w') := fun w h => by have := sizeStep_any w h 2 2 (by decide) (by decide) (f3 6 0 0) (f3 5 0 0) (i32_life 6 (by decide)) (i32_life 5 (by decide)); rw [sz_b] at this; exact this
  have h3 : Hid (∀ w, Tab w → Calls Tryd.prog 13 #[.agg #[.int .u8 2, .int .i32 5, .int .i32 0, .int .i32 0], .agg #[.int .u8 2, .int .i32 5, .int .i32 0, .int .i32 0]] w fun e w' => e = .returned (.int .i64 1) ∧ Fr Nobody w w') := fun w h => by have := sizeStep_any w h 2 2 (by decide) (by decide) (f3 5 0 0) (f3 5 0 0) (i32_life 5 (by decide)) (i32_life 5 (by decide)); rw [sz_c] at this; exact this
  have h4 : Hid (∀ w, Tab w → Calls Tryd.prog 13 #[.agg #[.int .u8 2, .int .i32 500, .int .i32 0, .int .i32 0], .agg #[.int .u8 2, .int .i32 5, .int .i32 0, .int .i32 0]] w fun e w' => e = .returned (.int .i64 14) ∧ Fr Nobody w w') := fun w h => by have := sizeStep_any w h 2 2 (by decide) (by decide) (f3 500 0 0) (f3 5 0 0) (i32_life 500 (by decide)) (i32_life 5 (by decide)); rw [sz_d] at this; exact this
  have hl : Hid (∀ w n, _) := fun w n => life_any w n
  clear ht
  go_enter Tryd.func5, Tryd.ntmps5
  go_wp2_with fail
  refine (hl.out _ _).mono ?_
  rintro e w1 ⟨rfl, hf1⟩
  have HF1 : Hid (Fr Nobody w w1) := hf1
  clear hf1
  go_wp2_with fail
  refine (h1.out _ (H.out.quiet HF1.out)).mono ?_
  rintro e w2 ⟨rfl, hf2⟩
  have HF2 : Hid (Fr Nobody w w2) := HF1.out.trans hf2
  clear hf2
  go_wp2_with fail
  refine (hl.out _ _).mono ?_
  rintro e w3 ⟨rfl, hf3⟩
  have HF3 : Hid (Fr Nobody w w3) := HF2.out.trans hf3
  clear hf3
  go_wp2_with fail
  refine (hl.out _ _).mono ?_
  rintro e w4 ⟨rfl, hf4⟩
  have HF4 : Hid (Fr Nobody w w4) := HF3.out.trans hf4
  clear hf4
  go_wp2_with fail
  refine (h2.out _ (H.out.quiet HF4.out)).mono ?_
  rintro e w5 ⟨rfl, hf5⟩
  have HF5 : Hid (Fr Nobody w w5) := HF4.out.trans hf5
  clear hf5
  go_wp2_with fail
  refine (hl.out _ _).mono ?_
  rintro e w6 ⟨rfl, hf6⟩
  have HF6 : Hid (Fr Nobody w w6) := HF5.out.trans hf6
  clear hf6
  go_wp2_with fail
  refine (hl.out _ _).mono ?_
  rintro e w7 ⟨rfl, hf7⟩
  have HF7 : Hid (Fr Nobody w w7) := HF6.out.trans hf7
  clear hf7
  go_wp2_with fail
  refine (h3.out _ (H.out.quiet HF7.out)).mono ?_
  rintro e w8 ⟨rfl, hf8⟩
  have HF8 : Hid (Fr Nobody w w8) := HF7.out.trans hf8
  clear hf8
  go_wp2_with fail
  refine (hl.out _ _).mono ?_
  rintro e w9 ⟨rfl, hf9⟩
  have HF9 : Hid (Fr Nobody w w9) := HF8.out.trans hf9
  clear hf9
  go_wp2_with fail
  refine (hl.out _ _).mono ?_
  rintro e w10 ⟨rfl, hf10⟩
  have HF10 : Hid (Fr Nobody w w10) := HF9.out.trans hf10
  clear hf10
  go_wp2_with fail
  refine (h4.out _ (H.out.quiet HF10.out)).mono ?_
  rintro e w11 ⟨rfl, hf11⟩
  have HF11 : Hid (Fr Nobody w w11) := HF10.out.trans hf11
  clear hf11
  go_wp2
  go_ret
  exact ⟨rfl, HF11.out⟩
end Go.Proofs.YtllhipfielgnbaaDoor

/-
  Nil writers and readers of package comp.
-/
namespace Go.Proofs.YtllhipfielgnbaaDoor
open Go.RowKit
set_option linter.unusedVariables false
set_option maxRecDepth 100000

def c0v : Value := .agg #[.int .u8 0, .int .i32 0, .int .i32 0, .int .i32 0]
set_option maxHeartbeats 1000000 in
theorem tryC_nil (w : World) (f : Value) : Calls Tryd.prog 37 #[.pointer none, f] w fun e w' => e = .returned (.tuple #[.agg #[.int .u8 0, .int .i32 0, .int .i32 0, .int .i32 0], .int .i64 10]) ∧ Fr Nobody w w' := by
  go_enter Tryd.func37, Tryd.ntmps37
  go_wp2
  (try simp only [Exit.inBlock, Exit.then])
  refine bodyPost_ret (v := .tuple #[.agg #[.int .u8 0, .int .i32 0, .int .i32 0, .int .i32 0], .int .i64 10]) ?_ rfl ⟨rfl, ?_⟩
  · rw [results_cell_tmp rfl]
    go_simp
  · exact ((Fr.refl _ _).alloc _).alloc _

theorem Box.new' (w : World) (b k : Nat) (F : Nat → Int) (h : b = w.heap.size) : Box (w.alloc (.cells (cmp k F) 24)) b k F := by subst h; exact Box.new w k F
theorem Box.frozen {w : World} {b k : Nat} {F : Nat → Int} (h : Box w b k F) (o : Nat) : w.frozen? ⟨b, o, none⟩ = false := by
  unfold Box at h; simp [World.frozen?, h]
/-- a component is laid over another one -/
def put4 (w : World) (b k : Nat) (F : Nat → Int) : World := (((w.setCell ⟨b, 0, none⟩ (.int .u8 (k : Int))).setCell ⟨b, 1, none⟩ (.int .i32 (F 0))).setCell ⟨b, 2, none⟩ (.int .i32 (F 1))).setCell ⟨b, 3, none⟩ (.int .i32 (F 2))
theorem put4_box {w : World} {b k0 k : Nat} {F0 F : Nat → Int} (h : Box w b k0 F0) : Box (put4 w b k F) b k F := by
  unfold Box cmp at *
  have h1 := setCell_heap w b 0 _ _ (.int .u8 (k : Int)) h
  have h2 := setCell_heap _ b 1 _ _ (.int .i32 (F 0)) h1
  have h3 := setCell_heap _ b 2 _ _ (.int .i32 (F 1)) h2
  have h4 := setCell_heap _ b 3 _ _ (.int .i32 (F 2)) h3
  unfold put4
  rw [h4]
  rfl
theorem put4_fr {S : Nat → Prop} {w0 w : World} {b k : Nat} {F : Nat → Int} (h : Fr S w0 w) (hb : S b ∨ w0.heap.size ≤ b) : Fr S w0 (put4 w b k F) :=
  (((h.setCell (p := ⟨b, 0, none⟩) hb _).setCell (p := ⟨b, 1, none⟩) hb _).setCell (p := ⟨b, 2, none⟩) hb _).setCell (p := ⟨b, 3, none⟩) hb _

set_option maxHeartbeats 1000000 in
theorem getStep_nil (w : World) (k : Nat) (F : Nat → Int) : Calls Tryd.prog 16 #[.pointer none, .agg (cmp k F)] w fun e w' => e = .returned (.tuple #[.agg #[.int .u8 0, .int .i32 0, .int .i32 0, .int .i32 0], .int .i64 10]) ∧ Fr Nobody w w' := by
  have HB : Hid (Box (((w.alloc (.cells #[.pointer none] 40)).alloc (.cells (cmp k F) 24)).alloc (.cells #[.int .u8 0, .int .i32 0, .int .i32 0, .int .i32 0] 24)) (w.heap.size + 1 + 1) 0 (f3 0 0 0)) := by
    exact Box.new' _ _ 0 (f3 0 0 0) (by simp)
  unfold cmp at *
  go_enter Tryd.func16, Tryd.ntmps16
  go_wp2_with fail
  refine (tryC_nil _ _).mono ?_
  rintro e w1 ⟨rfl, hf1⟩
  have HF1 : Hid (Fr Nobody w w1) := ((((Fr.refl _ w).alloc _).alloc _).alloc _).trans hf1
  have hb1 := Box.quiet HB.out hf1
  have HB1 : Hid (Box w1 (w.heap.size + 1 + 1) 0 (f3 0 0 0)) := hb1
  obtain ⟨p0, p1, p2, p3⟩ := hb1.cells
  have z0 := hb1.frozen 0
  have z1 := hb1.frozen 1
  have z2 := hb1.frozen 2
  have z3 := hb1.frozen 3
  clear hf1 hb1
  go_wp2
  (try simp only [Exit.inBlock, Exit.then])
  refine bodyPost_ret (v := .tuple #[.agg #[.int .u8 0, .int .i32 0, .int .i32 0, .int .i32 0], .int .i64 10]) ?_ rfl ⟨rfl, put4_fr (k := 0) (F := f3 0 0 0) HF1.out (.inr (by omega))⟩
  rw [results_cell_tmp rfl]
  obtain ⟨r0, r1, r2, r3⟩ := (put4_box (k := 0) (F := f3 0 0 0) HB1.out).cells
  simp only [put4, f3] at r0 r1 r2 r3
  go_simp

set_option maxHeartbeats 1000000 in
theorem putStep_nil (w : World) (k k' : Nat) (F G : Nat → Int) : Calls Tryd.prog 8 #[.pointer none, .agg (cmp k F), .agg (cmp k' G)] w fun e w' => e = .returned (.int .i64 10) ∧ Fr Nobody w w' := by
  unfold cmp
  go_enter Tryd.func8, Tryd.ntmps8
  go_wp2
  go_ret
  exact ⟨rfl, ((Fr.refl _ _).alloc _).alloc _⟩
end Go.Proofs.YtllhipfielgnbaaDoor

/-
  Components that are alike: '==' on them.
-/
namespace Go.Proofs.YtllhipfielgnbaaDoor
open Go.RowKit
set_option linter.unusedVariables false
set_option maxRecDepth 100000

theorem eq_a3 (d : Nat) (a b c a' b' c' : Int) (w : World) : (Op.equalIn (d + 1 + 1) 22 (.agg #[.int .i32 a, .int .i32 b, .int .i32 c]) (.agg #[.int .i32 a', .int .i32 b', .int .i32 c'])).run Tryd.prog w = .ok ((a == a') && (b == b') && (c == c')) w := by
  have hi : ∃ i, Tryd.prog.info? 21 = some i := by
    have : (Tryd.prog.info? 21).isSome = true := by kernel_rfl
    exact Option.isSome_iff_exists.1 this
  obtain ⟨i, hi⟩ := hi
  have c1 : Tryd.prog.cellsOf 21 = 1 := by kernel_rfl
  have hz : (Tryd.prog.info? 21).map (·.size) = some 1 := by kernel_rfl
  have hu := Tryd.underlying21
  rw [run_equalIn_array w (d + 1) _ _ Tryd.underlying22 hi]
  simp only [Op.eqItems, show List.range 3 = [0, 1, 2] from rfl, c1]
  cases ha : (a == a') <;> cases hb : (b == b') <;> cases hc : (c == c') <;> go_simp
end Go.Proofs.YtllhipfielgnbaaDoor
