/-
  How many bits a component has, whole and behind another one: Size and SizeStep of package comp.
-/
import Derived.Test.YtllhipfielgnbaaDoorSj
import Derived.Test.YtllhipfielgnbaaDoorVi
import Derived.Laws.ResultCell
namespace Go.Proofs.YtllhipfielgnbaaDoor
open Go.RowKit
set_option linter.unusedVariables false
set_option maxRecDepth 100000

/-- a field's value is within int32 -/
def I32 (F : Nat → Int) : Prop := ∀ j, j < 3 → -2147483648 ≤ F j ∧ F j ≤ 2147483647
theorem i32_f3 {a b c : Int} (h1 : ok32 a) (h2 : ok32 b) (h3 : ok32 c) : I32 (f3 a b c) := by
  intro j hj
  have : j = 0 ∨ j = 1 ∨ j = 2 := by omega
  rcases this with rfl | rfl | rfl
  · exact ok32_rng h1
  · exact ok32_rng h2
  · exact ok32_rng h3

theorem boxes (w : World) (k k' : Nat) (F G : Nat → Int) :
    Box ((w.alloc (.cells (cmp k F) 24)).alloc (.cells (cmp k' G) 24)) w.heap.size k F ∧ Box ((w.alloc (.cells (cmp k F) 24)).alloc (.cells (cmp k' G) 24)) (w.heap.size + 1) k' G ∧ Fr Nobody w ((w.alloc (.cells (cmp k F) 24)).alloc (.cells (cmp k' G) 24)) := by
  refine ⟨(Box.new w k F).quiet ((Fr.refl _ _).alloc _), ?_, ((Fr.refl _ _).alloc _).alloc _⟩
  have := Box.new (w.alloc (.cells (cmp k F) 24)) k' G
  simpa using this

set_option maxHeartbeats 400000 in
theorem life_any (w : World) (n : Int) : Calls Tryd.prog 22 #[.int .i32 n] w fun e w' => e = .returned (.agg #[.int .u8 2, .int .i32 n, .int .i32 0, .int .i32 0]) ∧ Fr Nobody w w' := by
  have hres : Tryd.f22.results = #[.cell 2 24] := by kernel_rfl
  go_enter Tryd.func22, Tryd.ntmps22
  go_wp2
  refine bodyPost_ret (v := .agg #[.int .u8 2, .int .i32 n, .int .i32 0, .int .i32 0]) ?_ rfl ⟨rfl, ?_⟩
  · simp only [results, hres]
    go_simp
  · exact (Fr.refl _ _).alloc _

set_option maxHeartbeats 400000 in
theorem more_any (w : World) (x y : Int) (hx : -2147483648 ≤ x ∧ x ≤ 2147483647) (hy : -2147483648 ≤ y ∧ y ≤ 2147483647) :
    Calls Tryd.prog 47 #[.int .i32 x, .int .i32 y] w fun e w' => e = .returned (.int .u64 ((zig (y - x) : Nat) : Int)) ∧ w' = w := by
  have HZ : Hid (∀ w, _) := fun w => zig_any (y - x) w (by omega) (by omega)
  generalize zig (y - x) = z at *
  go_enter Tryd.func47, Tryd.ntmps47
  go_wp2_with fail
  refine (HZ.out _).mono ?_
  rintro e w1 ⟨rfl, rfl⟩
  go_wp2
  go_ret
  exact ⟨rfl, rfl⟩

def ckS (k k' : Nat) (F G : Nat → Int) : Nat := if chk k F = 0 then (if chk k' G = 0 then (if k = k' then 0 else 4) else chk k' G) else chk k F

set_option maxHeartbeats 1000000 in
theorem checkStep_any (w : World) (ht : Tab w) (k k' : Nat) (hk : k < 256) (hk' : k' < 256) (F G : Nat → Int) :
    Calls Tryd.prog 29 #[.agg (cmp k F), .agg (cmp k' G)] w fun e w' => e = .returned (.int .i64 ((ckS k k' F G : Nat) : Int)) ∧ Fr Nobody w w' := by
  obtain ⟨b1, b2, hf⟩ := boxes w k k' F G
  have H : Hid (Tab w) := ht
  have HB1 : Hid _ := b1
  have HB2 : Hid _ := b2
  have HF : Hid _ := hf
  have C1 : Hid (∀ w, Tab w → Calls Tryd.prog 39 #[.agg (cmp k F)] w fun e w' => e = .returned (.int .i64 ((chk k F : Nat) : Int)) ∧ Fr Nobody w w') := fun w h => check_any w h k hk F
  have C2 : Hid (∀ w, Tab w → Calls Tryd.prog 39 #[.agg (cmp k' G)] w fun e w' => e = .returned (.int .i64 ((chk k' G : Nat) : Int)) ∧ Fr Nobody w w') := fun w h => check_any w h k' hk' G
  clear b1 b2 hf ht
  unfold ckS
  generalize chk k F = x at *
  generalize chk k' G = y at *
  by_cases hx : x = 0
  · rw [if_pos hx]
    subst hx
    by_cases hy : y = 0
    · rw [if_pos hy]
      subst hy
      by_cases e : k = k'
      · rw [if_pos e]
        subst e
        unfold cmp at *
        go_enter Tryd.func29, Tryd.ntmps29
        go_wp2_with fail
        refine (C1.out _ (H.out.quiet HF.out)).mono ?_
        rintro e w1 ⟨rfl, hf1⟩
        have HF1 : Hid (Fr Nobody w w1) := HF.out.trans hf1
        have B2 : Hid (Box w1 (w.heap.size + 1) k G) := Box.quiet HB2.out hf1
        have B1 : Hid (Box w1 w.heap.size k F) := Box.quiet HB1.out hf1
        obtain ⟨c0, c1, c2, c3⟩ := B2.out.cells
        clear hf1
        go_wp2_with fail
        refine (C2.out _ (H.out.quiet HF1.out)).mono ?_
        rintro e w2 ⟨rfl, hf2⟩
        have HF2 : Hid (Fr Nobody w w2) := HF1.out.trans hf2
        have d0 := (B2.out.quiet hf2).kind
        have e0 := (B1.out.quiet hf2).kind
        clear hf2 c0 c1 c2 c3
        go_wp2
        go_ret
        exact ⟨rfl, HF2.out⟩
      · rw [if_neg e]
        have hne : ((k : Int) != (k' : Int)) = true := by rw [bne_iff_ne]; omega
        unfold cmp at *
        go_enter Tryd.func29, Tryd.ntmps29
        go_wp2_with fail
        refine (C1.out _ (H.out.quiet HF.out)).mono ?_
        rintro e w1 ⟨rfl, hf1⟩
        have HF1 : Hid (Fr Nobody w w1) := HF.out.trans hf1
        have B2 : Hid (Box w1 (w.heap.size + 1) k' G) := Box.quiet HB2.out hf1
        have B1 : Hid (Box w1 w.heap.size k F) := Box.quiet HB1.out hf1
        obtain ⟨c0, c1, c2, c3⟩ := B2.out.cells
        clear hf1
        go_wp2_with fail
        refine (C2.out _ (H.out.quiet HF1.out)).mono ?_
        rintro e w2 ⟨rfl, hf2⟩
        have HF2 : Hid (Fr Nobody w w2) := HF1.out.trans hf2
        have d0 := (B2.out.quiet hf2).kind
        have e0 := (B1.out.quiet hf2).kind
        clear hf2 c0 c1 c2 c3
        go_wp2
        go_ret
        exact ⟨rfl, HF2.out⟩
    · rw [if_neg hy]
      have hne : ((y : Int) != 0) = true := by rw [bne_iff_ne]; omega
      unfold cmp at *
      go_enter Tryd.func29, Tryd.ntmps29
      go_wp2_with fail
      refine (C1.out _ (H.out.quiet HF.out)).mono ?_
      rintro e w1 ⟨rfl, hf1⟩
      have HF1 : Hid (Fr Nobody w w1) := HF.out.trans hf1
      have B2 : Hid (Box w1 (w.heap.size + 1) k' G) := Box.quiet HB2.out hf1
      obtain ⟨c0, c1, c2, c3⟩ := B2.out.cells
      clear hf1
      go_wp2_with fail
      refine (C2.out _ (H.out.quiet HF1.out)).mono ?_
      rintro e w2 ⟨rfl, hf2⟩
      have HF2 : Hid (Fr Nobody w w2) := HF1.out.trans hf2
      clear hf2
      go_wp2
      go_ret
      exact ⟨rfl, HF2.out⟩
  · rw [if_neg hx]
    have hne : ((x : Int) != 0) = true := by rw [bne_iff_ne]; omega
    unfold cmp at *
    go_enter Tryd.func29, Tryd.ntmps29
    go_wp2_with fail
    refine (C1.out _ (H.out.quiet HF.out)).mono ?_
    rintro e w1 ⟨rfl, hf1⟩
    have HF1 : Hid (Fr Nobody w w1) := HF.out.trans hf1
    clear hf1
    go_wp2
    go_ret
    exact ⟨rfl, HF1.out⟩
end Go.Proofs.YtllhipfielgnbaaDoor
