/-
  The region about a place; the document's examples.
-/
import Derived.Test.YthokgjkgfolojabDoorVif
import Derived.Laws.Rows
namespace Go.Proofs.YthokgjkgfolojabDoor
open Go.RowKit
set_option linter.unusedVariables false
set_option maxRecDepth 100000

/-- a number kept within the world's cells -/
def kpc (v : Int) : Int := min (max v (-32)) 31
def kpr (v : Int) : Int := min (max v 0) 8
theorem kpc_in (v : Int) : -32 ≤ kpc v ∧ kpc v ≤ 31 := by unfold kpc; omega
theorem kpr_in (v : Int) : 0 ≤ kpr v ∧ kpr v ≤ 8 := by unfold kpr; omega
set_option maxHeartbeats 4000000 in
theorem around_ok (w : World) (px py rd : Int) (hpx : I32 px) (hpy : I32 py) : Calls Tryd.prog 15 #[.int .i32 px, .int .i32 py, .int .i64 rd] w fun e w' => e = .returned (rgv true (kpc (cel px)) (kpc (cel py)) (kpr rd)) ∧ Fr Nobody w w' := by
  obtain ⟨cx, hcx⟩ : ∃ cx, cx = cel px := ⟨_, rfl⟩
  obtain ⟨cy, hcy⟩ : ∃ cy, cy = cel py := ⟨_, rfl⟩
  have CX : Hid (∀ W, Calls Tryd.prog 19 #[.int .i32 px] W fun e w' => e = .returned (.int .i64 cx) ∧ w' = W) := fun W => by rw [hcx]; exact of_ok W px hpx
  have CY : Hid (∀ W, Calls Tryd.prog 19 #[.int .i32 py] W fun e w' => e = .returned (.int .i64 cy) ∧ w' = W) := fun W => by rw [hcy]; exact of_ok W py hpy
  rw [← hcx, ← hcy]
  obtain ⟨kx, hkx⟩ : ∃ k, k = kpc cx := ⟨_, rfl⟩
  obtain ⟨ky, hky⟩ : ∃ k, k = kpc cy := ⟨_, rfl⟩
  obtain ⟨kr, hkr⟩ : ∃ k, k = kpr rd := ⟨_, rfl⟩
  have K1 : Hid (∀ W, Calls Tryd.prog 25 #[.int .i64 cx, .int .i64 (-32), .int .i64 31] W fun e w' => e = .returned (.int .i64 kx) ∧ w' = W) := fun W => by rw [hkx]; exact keep_ok W cx (-32) 31 (by decide)
  have K2 : Hid (∀ W, Calls Tryd.prog 25 #[.int .i64 cy, .int .i64 (-32), .int .i64 31] W fun e w' => e = .returned (.int .i64 ky) ∧ w' = W) := fun W => by rw [hky]; exact keep_ok W cy (-32) 31 (by decide)
  have K3 : Hid (∀ W, Calls Tryd.prog 25 #[.int .i64 rd, .int .i64 0, .int .i64 8] W fun e w' => e = .returned (.int .i64 kr) ∧ w' = W) := fun W => by rw [hkr]; exact keep_ok W rd 0 8 (by decide)
  rw [← hkx, ← hky, ← hkr]
  have hA := (Own.start w).allocC #[.bool false, .int .i64 0, .int .i64 0, .int .i64 0] 24
  have HA : Hid (Own w _ _) := hA
  clear hA hcx hcy hpx hpy hkx hky hkr
  unfold rgv
  go_enter Tryd.func15, Tryd.ntmps15
  go_wp2_with fail
  refine (CX.out _).mono ?_
  rintro e w1 ⟨rfl, rfl⟩
  go_wp2_with fail
  refine (K1.out _).mono ?_
  rintro e w1 ⟨rfl, rfl⟩
  go_wp2_with fail
  refine (CY.out _).mono ?_
  rintro e w1 ⟨rfl, rfl⟩
  go_wp2_with fail
  refine (K2.out _).mono ?_
  rintro e w1 ⟨rfl, rfl⟩
  go_wp2_with fail
  refine (K3.out _).mono ?_
  rintro e w1 ⟨rfl, rfl⟩
  have HF : Hid (Fr Nobody w _) := HA.out.fr
  go_wp2
  (try simp only [Exit.inBlock, Exit.then])
  refine bodyPost_ret (results_cell_row rfl _ _ w.heap.size 24 #[.bool true, .int .i64 kx, .int .i64 ky, .int .i64 kr] _ _ rfl (heap_alloc_new w _) Tryd.underlying24 rfl (by kernel_rfl)) rfl ?_
  exact ⟨rfl, (Fr.refl _ w).alloc _⟩
theorem AllC.len9 {R : List Cl2} (h : AllC true 0 0 1 R) : R.length = 9 := by rw [h.len (by decide)]; decide
theorem AllC.len4 {R : List Cl2} (h : AllC true (-32) (-32) 1 R) : R.length = 4 := by rw [h.len (by decide)]; decide
set_option maxHeartbeats 16000000 in
theorem awake17 (w : World) : Calls Tryd.prog 6 #[] w fun e w' => e = .returned (.bool true) ∧ Fr Nobody w w' := by
  have HA1 : Hid (∀ W, Calls Tryd.prog 15 #[.int .i32 0, .int .i32 0, .int .i64 1] W fun e w' => e = .returned (.agg #[.bool true, .int .i64 0, .int .i64 0, .int .i64 1]) ∧ Fr Nobody W w') := fun W => around_ok W 0 0 1 (by unfold I32; omega) (by unfold I32; omega)
  have HA2 : Hid (∀ W, Calls Tryd.prog 15 #[.int .i32 (-524288), .int .i32 (-524288), .int .i64 1] W fun e w' => e = .returned (.agg #[.bool true, .int .i64 (-32), .int .i64 (-32), .int .i64 1]) ∧ Fr Nobody W w') := fun W => around_ok W (-524288) (-524288) 1 (by unfold I32; omega) (by unfold I32; omega)
  have HC1 : Hid (∀ W l, Own w W l → Calls Tryd.prog 16 #[.agg #[.bool true, .int .i64 0, .int .i64 0, .int .i64 1]] W fun e w' => ∃ ao cap, e = .returned (.slice ao 9 cap) ∧ Own w w' l) := fun W l h => (cells_ok W true 0 0 1 w l h).mono (by
    rintro e w' ⟨R, ao, cap, rfl, hC, hO⟩
    exact ⟨ao, cap, by rw [hC.len9], hO.tail⟩)
  have HC2 : Hid (∀ W l, Own w W l → Calls Tryd.prog 16 #[.agg #[.bool true, .int .i64 (-32), .int .i64 (-32), .int .i64 1]] W fun e w' => ∃ ao cap, e = .returned (.slice ao 4 cap) ∧ Own w w' l) := fun W l h => (cells_ok W true (-32) (-32) 1 w l h).mono (by
    rintro e w' ⟨R, ao, cap, rfl, hC, hO⟩
    exact ⟨ao, cap, by rw [hC.len4], hO.tail⟩)
  have HS1 : Hid (∀ W, Calls Tryd.prog 14 #[.agg #[.bool true, .int .i64 0, .int .i64 0, .int .i64 1], .int .i32 (-1), .int .i32 16384] W fun e w' => e = .returned (.bool true) ∧ Fr Nobody W w') := fun W => sees_ok W true 0 0 1 (-1) 16384 (by unfold I32; omega) (by unfold I32; omega)
  have HS2 : Hid (∀ W, Calls Tryd.prog 14 #[.agg #[.bool true, .int .i64 0, .int .i64 0, .int .i64 1], .int .i32 32768, .int .i32 0] W fun e w' => e = .returned (.bool false) ∧ Fr Nobody W w') := fun W => sees_ok W true 0 0 1 32768 0 (by unfold I32; omega) (by unfold I32; omega)
  go_enter Tryd.func6, Tryd.ntmps6
  go_wp2_with fail
  refine (HA1.out _).mono ?_
  rintro e w1 ⟨rfl, hf⟩
  have hA := (Own.of_fr hf).allocC #[.bool true, .int .i64 0, .int .i64 0, .int .i64 1] 24
  have H1 : Hid (Calls _ _ _ _ _) := HC1.out _ _ hA
  clear hA hf HA1
  go_wp2_with fail
  refine H1.out.mono ?_
  rintro e w2 ⟨a1, c1, rfl, h2⟩
  have H2 : Hid (Own w w2 _) := h2
  clear h2 H1
  generalize w1.heap.size = B at *
  go_wp2_with fail
  refine (HA2.out _).mono ?_
  rintro e w3 ⟨rfl, hf⟩
  have H3 : Hid (Calls _ _ _ _ _) := HC2.out _ _ (H2.out.quiet hf)
  clear H2 hf HA2
  go_wp2_with fail
  refine H3.out.mono ?_
  rintro e w4 ⟨a2, c2, rfl, h4⟩
  have q0 := h4.cell 0
  have q1 := h4.cell 1
  have q2 := h4.cell 2
  have q3 := h4.cell 3
  simp at q0 q1 q2 q3
  have H4 : Hid (Own w w4 _) := h4
  clear h4 H3
  go_wp2_with fail
  refine (HS1.out _).mono ?_
  rintro e w5 ⟨rfl, hf⟩
  clear q0 q1 q2 q3
  have h5 := H4.out.quiet hf
  have q0 := h5.cell 0
  have q1 := h5.cell 1
  have q2 := h5.cell 2
  have q3 := h5.cell 3
  simp at q0 q1 q2 q3
  have H5 : Hid (Own w w5 _) := h5
  clear h5 H4 hf
  go_wp2_with fail
  refine (HS2.out _).mono ?_
  rintro e w6 ⟨rfl, hf⟩
  have HF : Hid (Fr Nobody w w6) := H5.out.fr.trans hf
  clear q0 q1 q2 q3 H5 hf
  go_wp2
  go_ret
  exact ⟨rfl, HF.out⟩
end Go.Proofs.YthokgjkgfolojabDoor
