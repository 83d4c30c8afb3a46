/-
  Regions in the document: Check, Has, Sees.
-/
import Derived.Test.YthokgjkgfolojabDoorVid
namespace Go.Proofs.YthokgjkgfolojabDoor
open Go.RowKit
set_option linter.unusedVariables false
set_option maxRecDepth 100000

set_option maxHeartbeats 4000000 in
theorem rcheck_ok (w : World) (on : Bool) (x y r : Int) : Calls Tryd.prog 37 #[rgv on x y r] w fun e w' => e = .returned (.int .i64 (erR x y r)) ∧ Fr Nobody w w' := by
  have HF : Hid (Fr Nobody w (w.alloc (.cells #[.bool on, .int .i64 x, .int .i64 y, .int .i64 r] 24))) := (Fr.refl _ _).alloc _
  unfold rgv
  go_enter Tryd.func37, Tryd.ntmps37
  by_cases h1 : x < -32
  · go_wp2
    go_ret
    exact ⟨by rw [erR, if_neg (by rw [inR_iff]; omega)]; rfl, HF.out⟩
  by_cases h2 : 31 < x
  · go_wp2
    go_ret
    exact ⟨by rw [erR, if_neg (by rw [inR_iff]; omega)]; rfl, HF.out⟩
  by_cases h3 : y < -32
  · go_wp2
    go_ret
    exact ⟨by rw [erR, if_neg (by rw [inR_iff]; omega)]; rfl, HF.out⟩
  by_cases h4 : 31 < y
  · go_wp2
    go_ret
    exact ⟨by rw [erR, if_neg (by rw [inR_iff]; omega)]; rfl, HF.out⟩
  by_cases h5 : r < 0
  · go_wp2
    go_ret
    exact ⟨by rw [erR, if_neg (by rw [inR_iff]; omega)]; rfl, HF.out⟩
  by_cases h6 : 8 < r
  · go_wp2
    go_ret
    exact ⟨by rw [erR, if_neg (by rw [inR_iff]; omega)]; rfl, HF.out⟩
  go_wp2
  go_ret
  exact ⟨by rw [erR, if_pos (by rw [inR_iff]; omega)]; rfl, HF.out⟩
set_option maxHeartbeats 8000000 in
theorem rhas_ok (w : World) (on : Bool) (x y r cx cy : Int) (hcx : -1000000 ≤ cx ∧ cx ≤ 1000000) (hcy : -1000000 ≤ cy ∧ cy ≤ 1000000) : Calls Tryd.prog 31 #[rgv on x y r, .int .i64 cx, .int .i64 cy] w fun e w' => e = .returned (.bool (hasC on x y r cx cy)) ∧ Fr Nobody w w' := by
  have hA := (Own.start w).allocC #[.bool on, .int .i64 x, .int .i64 y, .int .i64 r] 24
  have HA : Hid (Own w _ _) := hA
  have CH : Hid (∀ W, Calls Tryd.prog 37 #[.agg #[.bool on, .int .i64 x, .int .i64 y, .int .i64 r]] W fun e w' => e = .returned (.int .i64 (erR x y r)) ∧ Fr Nobody W w') := fun W => rcheck_ok W on x y r
  clear hA
  unfold rgv
  cases on with
  | false =>
    go_enter Tryd.func31, Tryd.ntmps31
    have HF : Hid (Fr Nobody w _) := HA.out.fr
    go_wp2
    go_ret
    exact ⟨by simp [hasC, hasR], HF.out⟩
  | true =>
    cases hi : inR x y r with
    | false =>
      have he : erR x y r = 1 := by unfold erR; rw [hi]; rfl
      rw [he] at CH
      have HI : Hid (inR x y r = false) := hi
      clear hi he
      go_enter Tryd.func31, Tryd.ntmps31
      go_wp2_with fail
      refine (CH.out _).mono ?_
      rintro e w1 ⟨rfl, hf⟩
      have HF : Hid (Fr Nobody w w1) := HA.out.fr.trans hf
      clear HA hf
      go_wp2
      go_ret
      exact ⟨by simp [hasC, hasR, HI.out], HF.out⟩
    | true =>
      have he : erR x y r = 0 := by unfold erR; rw [hi]; rfl
      rw [he] at CH
      have HI : Hid (inR x y r = true) := hi
      obtain ⟨⟨bx1, bx2⟩, ⟨by1, by2⟩, br1, br2⟩ := inR_iff.1 hi
      obtain ⟨hcx1, hcx2⟩ := hcx
      obtain ⟨hcy1, hcy2⟩ := hcy
      have hw1 : IntKind.i64.wrap (cx - x) = cx - x := by simp only [IntKind.wrap_i64]; omega
      have hw2 : IntKind.i64.wrap (cy - y) = cy - y := by simp only [IntKind.wrap_i64]; omega
      have hw3 : IntKind.i64.wrap (-r) = -r := by simp only [IntKind.wrap_i64]; omega
      clear hi he
      go_enter Tryd.func31, Tryd.ntmps31
      go_wp2_with fail
      refine (CH.out _).mono ?_
      rintro e w1 ⟨rfl, hf⟩
      have hA := HA.out.quiet hf
      have HB : Hid (Own w w1 _) := hA
      generalize w.heap.size = B at *
      have q1 := hA.cell 1
      have q2 := hA.cell 2
      have q3 := hA.cell 3
      simp at q1 q2 q3
      clear HA hf hA CH
      go_wp2
      go_quiet (fail)
      have HF : Hid (Fr Nobody w (w1.drewN nq)) := HB.out.fr.drewN nq
      clear HB
      by_cases d1 : cx - x ≤ r
      · by_cases d2 : -r ≤ cx - x
        · by_cases d3 : cy - y ≤ r
          · by_cases d4 : -r ≤ cy - y
            · go_wp2
              go_ret
              exact ⟨by simp [hasC, hasR, HI.out, bw]; omega, HF.out⟩
            · go_wp2
              go_ret
              exact ⟨by simp [hasC, hasR, HI.out, bw]; omega, HF.out⟩
          · go_wp2
            go_ret
            exact ⟨by simp [hasC, hasR, HI.out, bw]; omega, HF.out⟩
        · go_wp2
          go_ret
          exact ⟨by simp [hasC, hasR, HI.out, bw]; omega, HF.out⟩
      · go_wp2
        go_ret
        exact ⟨by simp [hasC, hasR, HI.out, bw]; omega, HF.out⟩
set_option maxHeartbeats 16000000 in
theorem rsees_ok (w : World) (on : Bool) (x y r px py : Int) (hpx : I32 px) (hpy : I32 py) : Calls Tryd.prog 23 #[rgv on x y r, .int .i32 px, .int .i32 py] w fun e w' => e = .returned (.bool (hasC on x y r (cel px) (cel py))) ∧ Fr Nobody w w' := by
  have bx := cel_lo hpx
  have bY := cel_lo hpy
  obtain ⟨cx, hcx⟩ : ∃ cx, cx = cel px := ⟨_, rfl⟩
  obtain ⟨cy, hcy⟩ : ∃ cy, cy = cel py := ⟨_, rfl⟩
  have CX : Hid (∀ W, Calls Tryd.prog 32 #[.int .i32 px] W fun e w' => e = .returned (.int .i64 cx) ∧ w' = W) := fun W => by rw [hcx]; exact rof_ok W px hpx
  have CY : Hid (∀ W, Calls Tryd.prog 32 #[.int .i32 py] W fun e w' => e = .returned (.int .i64 cy) ∧ w' = W) := fun W => by rw [hcy]; exact rof_ok W py hpy
  rw [← hcx, ← hcy]
  rw [← hcx] at bx
  rw [← hcy] at bY
  obtain ⟨bo, hbo⟩ : ∃ bo, bo = hasC on x y r cx cy := ⟨_, rfl⟩
  have CH : Hid (∀ W, Calls Tryd.prog 31 #[.agg #[.bool on, .int .i64 x, .int .i64 y, .int .i64 r], .int .i64 cx, .int .i64 cy] W fun e w' => e = .returned (.bool bo) ∧ Fr Nobody W w') := fun W => by rw [hbo]; exact rhas_ok W on x y r cx cy (by omega) (by omega)
  rw [← hbo]
  have hA := (Own.start w).allocC #[.bool on, .int .i64 x, .int .i64 y, .int .i64 r] 24
  have HA : Hid (Own w _ _) := hA
  clear hA hcx hcy hpx hpy bx bY hbo
  unfold rgv
  go_enter Tryd.func23, Tryd.ntmps23
  go_wp2
  generalize hWg : w.alloc (.cells #[.bool on, .int .i64 x, .int .i64 y, .int .i64 r] 24) = W1 at *
  generalize w.heap.size = B at *
  clear hWg
  have q0 := fun f => HA.out.frCells f 0
  have q1 := fun f => HA.out.frCells f 1
  have q2 := fun f => HA.out.frCells f 2
  have q3 := fun f => HA.out.frCells f 3
  simp at q0 q1 q2 q3
  refine wp_region_fr (by kernel_rfl) (by kernel_rfl) ?_
  repeat (with_reducible refine wpQuiet_step (fun K hK => ?_)
          go_simp
          first
            | (refine hK _ ?_; clear hK K)
            | (apply Exists.intro
               refine ⟨fun _ => ?_, hK _ ?_⟩
               (first
                 | (go_at_call 31; with_reducible refine Calls.fr_of (CH.out _))
                 | (go_at_call 32; with_reducible refine Calls.fr_same (CX.out _))
                 | (go_at_call 32; with_reducible refine Calls.fr_same (CY.out _)))
               clear hK K))
  refine wpQuiet_nil ?_
  rintro w' ⟨f, rfl⟩
  have HF : Hid (Fr Nobody w f.val) := HA.out.fr.trans f.fr
  clear HA q0 q1 q2 q3
  go_wp2
  go_ret
  exact ⟨rfl, HF.out⟩
end Go.Proofs.YthokgjkgfolojabDoor
