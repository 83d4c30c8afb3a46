/-
  The region about a place in the document.
-/
import Derived.Test.YthokgjkgfolojabVig
namespace Go.Proofs.Ythokgjkgfolojab
open Go.RowKit
set_option linter.unusedVariables false
set_option maxRecDepth 100000

set_option maxHeartbeats 4000000 in
theorem raround_ok (w : World) (px py rd : Int) (hpx : I32 px) (hpy : I32 py) : Calls Try.prog 6 #[.int .i32 px, .int .i32 py, .int .i64 rd] w fun e w' => e = .returned (rgv true (kpc (cel px)) (kpc (cel py)) (kpr rd)) ∧ Fr Nobody w w' := by
  obtain ⟨cx, hcx⟩ : ∃ cx, cx = cel px := ⟨_, rfl⟩
  obtain ⟨cy, hcy⟩ : ∃ cy, cy = cel py := ⟨_, rfl⟩
  have CX : Hid (∀ W, Calls Try.prog 12 #[.int .i32 px] W fun e w' => e = .returned (.int .i64 cx) ∧ w' = W) := fun W => by rw [hcx]; exact rof_ok W px hpx
  have CY : Hid (∀ W, Calls Try.prog 12 #[.int .i32 py] W fun e w' => e = .returned (.int .i64 cy) ∧ w' = W) := fun W => by rw [hcy]; exact rof_ok W py hpy
  rw [← hcx, ← hcy]
  obtain ⟨kx, hkx⟩ : ∃ k, k = kpc cx := ⟨_, rfl⟩
  obtain ⟨ky, hky⟩ : ∃ k, k = kpc cy := ⟨_, rfl⟩
  obtain ⟨kr, hkr⟩ : ∃ k, k = kpr rd := ⟨_, rfl⟩
  have m1 : max (-32) (min 31 cx) = kx := by rw [hkx]; unfold kpc; omega
  have m2 : max (-32) (min 31 cy) = ky := by rw [hky]; unfold kpc; omega
  have m3 : max 0 (min 8 rd) = kr := by rw [hkr]; unfold kpr; omega
  rw [← hkx, ← hky, ← hkr]
  clear hcx hcy hpx hpy hkx hky hkr
  unfold rgv
  go_enter Try.func6, Try.ntmps6
  go_wp2_with fail
  refine (CX.out _).mono ?_
  rintro e w1 ⟨rfl, rfl⟩
  go_wp2_with fail
  refine (CY.out _).mono ?_
  rintro e w1 ⟨rfl, rfl⟩
  go_wp2
  (try simp only [Exit.inBlock, Exit.then])
  refine bodyPost_ret (results_cell_row rfl _ _ w.heap.size 23 #[.bool true, .int .i64 kx, .int .i64 ky, .int .i64 kr] _ _ rfl (heap_alloc_new w _) Try.underlying23 rfl (by kernel_rfl)) rfl ?_
  exact ⟨rfl, (Fr.refl _ w).alloc _⟩
end Go.Proofs.Ythokgjkgfolojab
