/-
  Sorting IDs: the partition about another one.
-/
import Derived.Test.YthokgjkgfolojabDoorSoc
namespace Go.Proofs.YthokgjkgfolojabDoor
open Go.RowKit Go.Sort
set_option linter.unusedVariables false
set_option maxRecDepth 100000

set_option maxHeartbeats 16000000 in
theorem part_ne (w0 w : World) (l : List Thing) (g n cap : Nat) (d : Array Int) (a b b1 : Nat) (pv : Nat) (h : Own w0 w (SR g n cap d :: l)) (HB : Hid (b = b1 + 1)) (hb1 : (b : Int) - 1 = (b1 : Int)) (hab1 : a ≤ b1) (hbn : b1 < n) (han : a < n) (hpn : pv < n) (hpa : ¬ pv = a) (hap : ¬ a = pv) (hn : n < 1000000) :
    Calls Tryd.prog 46 #[.slice (some ⟨g, 0, none⟩) n cap, .int .i64 (a : Int), .int .i64 (b : Int), .int .i64 (pv : Int)] w fun e w' => ∃ (bb : Bool) (mid : Nat), e = .returned (.tuple #[.int .i64 (mid : Int), .bool bb]) ∧ ∃ d', Own w0 w' (SR g n cap d' :: l) ∧ ((mid : Int) = ((partition ltInt d a b pv).1 : Int) ∧ d' = (partition ltInt d a b pv).2.2) := by
  have ca := h.srAt a han
  have fa := h.srFz a
  have cpv := h.srAt pv hpn
  have fpv := h.srFz pv
  obtain ⟨xa0, hxa0⟩ : ∃ x, x = d[a]! := ⟨_, rfl⟩
  obtain ⟨xp0, hxp0⟩ : ∃ x, x = d[pv]! := ⟨_, rfl⟩
  rw [← hxa0] at ca
  rw [← hxp0] at cpv
  have H : Hid (Own w0 w (SR g n cap d :: l)) := h
  clear h
  go_enter Tryd.func46, Tryd.ntmps46
  go_wp2_with fail
  go_region
  obtain ⟨D, hD⟩ : ∃ D, D = swp d a pv := ⟨_, rfl⟩
  generalize hWg : World.drew _ = W1
  have hO1 : Own w0 W1 (SR g n cap D :: l) := by
    rw [hD]
    rw [← hWg]
    exact (H.out.srSwp a pv han hpn).drew
  have HO1 : Hid (Own w0 W1 (SR g n cap D :: l)) := hO1
  have HD : Hid (D = swp d a pv) := hD
  clear hWg hO1 hD ca fa cpv fpv hxa0 hxp0 H
  obtain ⟨xa, hxa⟩ : ∃ x, x = D[a]! := ⟨_, rfl⟩
  have HXa : Hid (xa = D[a]!) := hxa
  clear hxa
  go_wp2
  go_loopw [10] (fun vi wr => ∃ i : Nat, vi = .int .i64 (i : Int) ∧ (a + 1) ≤ i ∧ i ≤ b1 + 1 ∧ Own w0 wr (SR g n cap D :: l) ∧ scanUp (fun x => ltInt x D[a]!) D b1 i = scanUp (fun x => ltInt x D[a]!) D b1 (a + 1)) (fun vi _ => b1 + 1 - (iOf vi).toNat)
  case atStart => exact ⟨(a + 1), by go_num, Nat.le_refl _, by omega, HO1.out, rfl⟩
  case round =>
    obtain ⟨i, rfl, hi0, hij, hO, hE⟩ := hrel
    have HOi : Hid (Own w0 wr (SR g n cap D :: l)) := hO
    have HEi : Hid (scanUp (fun x => ltInt x D[a]!) D b1 i = scanUp (fun x => ltInt x D[a]!) D b1 (a + 1)) := hE
    clear hE HO1
    by_cases hle : i ≤ b1
    · have hle' : (i : Int) ≤ (b1 : Int) := by omega
      have hin : i < n := by omega
      obtain ⟨xi, hxi⟩ : ∃ x, x = D[i]! := ⟨_, rfl⟩
      have HXi : Hid (xi = D[i]!) := hxi
      clear hxi
      have ci := hO.srAt i hin
      have fi := hO.srFz i
      have ca := hO.srAt a han
      have fa := hO.srFz a
      rw [← HXi.out] at ci
      rw [← HXa.out] at ca
      clear hO
      go_wp2
      go_quiet (first | (go_at_call 44; refine Calls.quiet_of_same (less_ok _ _ _)))
      go_wp2
      · have hl : ltInt xi xa = true := by assumption
        go_roundw
        case rel =>
          refine ⟨i + 1, by go_num, by omega, by omega, HOi.out.drewN _, ?_⟩
          rw [← HEi.out, up_go (fun x => ltInt x D[a]!) D b1 i hle (by simp only [← HXi.out, ← HXa.out]; exact hl)]
        case measure => simp [iOf]; omega
      · have hl : ltInt xi xa = false := by assumption
        have HI2 : Hid (scanUp (fun x => ltInt x D[a]!) D b1 (a + 1) = i) := by
          show _ = _
          rw [← HEi.out, up_end2 (fun x => ltInt x D[a]!) D b1 i (by simp only [← HXi.out, ← HXa.out]; exact hl)]
        generalize hWg : wr.drewN nq = W2
        have hO2 : Own w0 W2 (SR g n cap D :: l) := by rw [← hWg]; exact HOi.out.drewN nq
        have HO2 : Hid (Own w0 W2 (SR g n cap D :: l)) := hO2
        clear hWg hO2 ci fi ca fa HOi HEi
        go_wp2
        go_loopw [11] (fun vj wr => ∃ j : Nat, vj = .int .i64 (j : Int) ∧ i ≤ j + 1 ∧ j ≤ b1 ∧ Own w0 wr (SR g n cap D :: l) ∧ scanDown (fun x => !ltInt x D[a]!) D i j = scanDown (fun x => !ltInt x D[a]!) D i b1) (fun vj _ => (iOf vj).toNat)
        case atStart => exact ⟨b1, rfl, by omega, Nat.le_refl _, HO2.out, rfl⟩
        case round =>
          obtain ⟨j, rfl, hji, hjb, hO, hE⟩ := hrel
          have HOj : Hid (Own w0 wr (SR g n cap D :: l)) := hO
          have HEj : Hid (scanDown (fun x => !ltInt x D[a]!) D i j = scanDown (fun x => !ltInt x D[a]!) D i b1) := hE
          clear hE HO2
          by_cases hle2 : i ≤ j
          · have hle2' : (i : Int) ≤ (j : Int) := by omega
            have hjn : j < n := by omega
            obtain ⟨xj, hxj⟩ : ∃ x, x = D[j]! := ⟨_, rfl⟩
            have HXj : Hid (xj = D[j]!) := hxj
            clear hxj
            have cj := hO.srAt j hjn
            have fj := hO.srFz j
            have ca := hO.srAt a han
            have fa := hO.srFz a
            rw [← HXj.out] at cj
            rw [← HXa.out] at ca
            clear hO
            go_wp2
            go_quiet (first | (go_at_call 44; refine Calls.quiet_of_same (less_ok _ _ _)))
            go_wp2
            · have hl2 : ltInt xj xa = false := not_t (by assumption)
              go_roundw
              case rel =>
                obtain ⟨k, hk⟩ : ∃ k, j = k + 1 := ⟨j - 1, by omega⟩
                refine ⟨k, by congr 1; omega, by omega, by omega, HOj.out.drewN _, ?_⟩
                rw [← HEj.out, dn_go (fun x => !ltInt x D[a]!) D i j k hk hle2 (by simp only [← HXj.out, ← HXa.out]; rw [hl2]; rfl)]
              case measure => simp [iOf]; omega
            · have hl2 : ltInt xj xa = true := not_f (by assumption)
              have HJ2 : Hid (scanDown (fun x => !ltInt x D[a]!) D i b1 = j) := by
                show _ = _
                rw [← HEj.out, dn_end2 (fun x => !ltInt x D[a]!) D i j (by simp only [← HXj.out, ← HXa.out]; rw [hl2]; rfl)]
              have hne : i ≠ j := by
                rintro rfl
                have e : xi = xj := by rw [HXi.out, HXj.out]
                rw [e] at hl
                rw [hl] at hl2
                cases hl2
              generalize hWg : wr.drewN nq = W3
              have hO3 : Own w0 W3 (SR g n cap D :: l) := by rw [← hWg]; exact HOj.out.drewN nq
              have HO3 : Hid (Own w0 W3 (SR g n cap D :: l)) := hO3
              clear hWg cj fj ca fa HOj HEj
              have hgt : ¬ (j : Int) < (i : Int) := by omega
              go_wp2_with fail
              have hin3 : i < n := by omega
              have hjn3 : j < n := by omega
              have ci3 := hO3.srAt i hin3
              have fi3 := hO3.srFz i
              have cj3 := hO3.srAt j hjn3
              have fj3 := hO3.srFz j
              rw [← HXi.out] at ci3
              rw [← HXj.out] at cj3
              have hne2 : ¬ j = i := fun q => hne q.symm
              clear hO3
              go_wp2_with fail
              go_region
              obtain ⟨E, hEE⟩ : ∃ E, E = swp D i j := ⟨_, rfl⟩
              have HEE : Hid (E = swp D i j) := hEE
              generalize hWg : World.drew _ = W4
              have hO4 : Own w0 W4 (SR g n cap E :: l) := by
                rw [← hWg, hEE, HXi.out, HXj.out]
                exact (HO3.out.srSwp i j hin3 hjn3).drew
              have HO4 : Hid (Own w0 W4 (SR g n cap E :: l)) := hO4
              clear hWg hO4 hEE ci3 cj3 fi3 fj3
              have HPL0 : Hid (partLoop ltInt a (i + 1) (j - 1) E = partLoop ltInt a (a + 1) b1 D) := by
                show _ = _
                rw [HEE.out, ← loop_go a (a + 1) b1 i j D HI2.out HJ2.out (by omega)]
              have hj1 : (j : Int) - 1 = ((j - 1 : Nat) : Int) := by omega
              have hij9 : i < j := by omega
              have hjb9 : j ≤ b1 := by omega
              have hai9 : a < i := by omega
              clear HI2 HJ2 HXi HXj HXa hl hl2
              go_wp2
              go_loopw [10, 11] (fun vi vj wr => ∃ (i j : Nat) (dk : Array Int), vi = .int .i64 (i : Int) ∧ vj = .int .i64 (j : Int) ∧ a < i ∧ i ≤ j + 1 ∧ j ≤ b1 ∧ Own w0 wr (SR g n cap dk :: l) ∧ partLoop ltInt a i j dk = partLoop ltInt a (a + 1) b1 D) (fun vi vj _ => (iOf vj + 1 - iOf vi).toNat)
              case atStart => exact ⟨i + 1, j - 1, E, by go_num, by congr 1, by omega, by omega, by omega, HO4.out, HPL0.out⟩
              case round =>
                obtain ⟨i0, j0, dk, rfl, rfl, hai0, hij0, hjb0, hO, hE⟩ := hrel
                have HO5 : Hid (Own w0 wr (SR g n cap dk :: l)) := hO
                have HPL : Hid (partLoop ltInt a i0 j0 dk = partLoop ltInt a (a + 1) b1 D) := hE
                obtain ⟨xa, hxa⟩ : ∃ x, x = dk[a]! := ⟨_, rfl⟩
                have HXa : Hid (xa = dk[a]!) := hxa
                clear hO hE hxa HO4 HPL0 HEE hij9 hjb9 hai9 hj1 hgt hle hle' hle2 hle2' hji hjb hi0 hij hne
                go_wp2
                go_loopw [10] (fun vi wr => ∃ i : Nat, vi = .int .i64 (i : Int) ∧ i0 ≤ i ∧ i ≤ j0 + 1 ∧ Own w0 wr (SR g n cap dk :: l) ∧ scanUp (fun x => ltInt x dk[a]!) dk j0 i = scanUp (fun x => ltInt x dk[a]!) dk j0 i0) (fun vi _ => j0 + 1 - (iOf vi).toNat)
                case atStart => exact ⟨i0, rfl, Nat.le_refl _, by omega, HO5.out, rfl⟩
                case round =>
                  obtain ⟨i, rfl, hi0, hij, hO, hE⟩ := hrel
                  have HOi : Hid (Own w0 wr (SR g n cap dk :: l)) := hO
                  have HEi : Hid (scanUp (fun x => ltInt x dk[a]!) dk j0 i = scanUp (fun x => ltInt x dk[a]!) dk j0 i0) := hE
                  clear hE HO5
                  by_cases hle : i ≤ j0
                  · have hle' : (i : Int) ≤ (j0 : Int) := by omega
                    have hin : i < n := by omega
                    obtain ⟨xi, hxi⟩ : ∃ x, x = dk[i]! := ⟨_, rfl⟩
                    have HXi : Hid (xi = dk[i]!) := hxi
                    clear hxi
                    have ci := hO.srAt i hin
                    have fi := hO.srFz i
                    have ca := hO.srAt a han
                    have fa := hO.srFz a
                    rw [← HXi.out] at ci
                    rw [← HXa.out] at ca
                    clear hO
                    go_wp2
                    go_quiet (first | (go_at_call 44; refine Calls.quiet_of_same (less_ok _ _ _)))
                    go_wp2
                    · have hl : ltInt xi xa = true := by assumption
                      go_roundw
                      case rel =>
                        refine ⟨i + 1, by go_num, by omega, by omega, HOi.out.drewN _, ?_⟩
                        rw [← HEi.out, up_go (fun x => ltInt x dk[a]!) dk j0 i hle (by simp only [← HXi.out, ← HXa.out]; exact hl)]
                      case measure => simp [iOf]; omega
                    · have hl : ltInt xi xa = false := by assumption
                      have HI2 : Hid (scanUp (fun x => ltInt x dk[a]!) dk j0 i0 = i) := by
                        show _ = _
                        rw [← HEi.out, up_end2 (fun x => ltInt x dk[a]!) dk j0 i (by simp only [← HXi.out, ← HXa.out]; exact hl)]
                      generalize hWg : wr.drewN nq = W2
                      have hO2 : Own w0 W2 (SR g n cap dk :: l) := by rw [← hWg]; exact HOi.out.drewN nq
                      have HO2 : Hid (Own w0 W2 (SR g n cap dk :: l)) := hO2
                      clear hWg hO2 ci fi ca fa HOi HEi
                      go_wp2
                      go_loopw [11] (fun vj wr => ∃ j : Nat, vj = .int .i64 (j : Int) ∧ i ≤ j + 1 ∧ j ≤ j0 ∧ Own w0 wr (SR g n cap dk :: l) ∧ scanDown (fun x => !ltInt x dk[a]!) dk i j = scanDown (fun x => !ltInt x dk[a]!) dk i j0) (fun vj _ => (iOf vj).toNat)
                      case atStart => exact ⟨j0, rfl, by omega, Nat.le_refl _, HO2.out, rfl⟩
                      case round =>
                        obtain ⟨j, rfl, hji, hjb, hO, hE⟩ := hrel
                        have HOj : Hid (Own w0 wr (SR g n cap dk :: l)) := hO
                        have HEj : Hid (scanDown (fun x => !ltInt x dk[a]!) dk i j = scanDown (fun x => !ltInt x dk[a]!) dk i j0) := hE
                        clear hE HO2
                        by_cases hle2 : i ≤ j
                        · have hle2' : (i : Int) ≤ (j : Int) := by omega
                          have hjn : j < n := by omega
                          obtain ⟨xj, hxj⟩ : ∃ x, x = dk[j]! := ⟨_, rfl⟩
                          have HXj : Hid (xj = dk[j]!) := hxj
                          clear hxj
                          have cj := hO.srAt j hjn
                          have fj := hO.srFz j
                          have ca := hO.srAt a han
                          have fa := hO.srFz a
                          rw [← HXj.out] at cj
                          rw [← HXa.out] at ca
                          clear hO
                          go_wp2
                          go_quiet (first | (go_at_call 44; refine Calls.quiet_of_same (less_ok _ _ _)))
                          go_wp2
                          · have hl2 : ltInt xj xa = false := not_t (by assumption)
                            go_roundw
                            case rel =>
                              obtain ⟨k, hk⟩ : ∃ k, j = k + 1 := ⟨j - 1, by omega⟩
                              refine ⟨k, by congr 1; omega, by omega, by omega, HOj.out.drewN _, ?_⟩
                              rw [← HEj.out, dn_go (fun x => !ltInt x dk[a]!) dk i j k hk hle2 (by simp only [← HXj.out, ← HXa.out]; rw [hl2]; rfl)]
                            case measure => simp [iOf]; omega
                          · have hl2 : ltInt xj xa = true := not_f (by assumption)
                            have HJ2 : Hid (scanDown (fun x => !ltInt x dk[a]!) dk i j0 = j) := by
                              show _ = _
                              rw [← HEj.out, dn_end2 (fun x => !ltInt x dk[a]!) dk i j (by simp only [← HXj.out, ← HXa.out]; rw [hl2]; rfl)]
                            have hne : i ≠ j := by
                              rintro rfl
                              have e : xi = xj := by rw [HXi.out, HXj.out]
                              rw [e] at hl
                              rw [hl] at hl2
                              cases hl2
                            generalize hWg : wr.drewN nq = W3
                            have hO3 : Own w0 W3 (SR g n cap dk :: l) := by rw [← hWg]; exact HOj.out.drewN nq
                            have HO3 : Hid (Own w0 W3 (SR g n cap dk :: l)) := hO3
                            clear hWg cj fj ca fa HOj HEj
                            have hgt : ¬ (j : Int) < (i : Int) := by omega
                            go_wp2_with fail
                            have hin3 : i < n := by omega
                            have hjn3 : j < n := by omega
                            have ci3 := hO3.srAt i hin3
                            have fi3 := hO3.srFz i
                            have cj3 := hO3.srAt j hjn3
                            have fj3 := hO3.srFz j
                            rw [← HXi.out] at ci3
                            rw [← HXj.out] at cj3
                            have hne2 : ¬ j = i := fun q => hne q.symm
                            clear hO3
                            go_wp2_with fail
                            go_region
                            obtain ⟨E, hEE⟩ : ∃ E, E = swp dk i j := ⟨_, rfl⟩
                            have HEE : Hid (E = swp dk i j) := hEE
                            generalize hWg : World.drew _ = W4
                            have hO4 : Own w0 W4 (SR g n cap E :: l) := by
                              rw [← hWg, hEE, HXi.out, HXj.out]
                              exact (HO3.out.srSwp i j hin3 hjn3).drew
                            have HO4 : Hid (Own w0 W4 (SR g n cap E :: l)) := hO4
                            clear hWg hO4 hEE ci3 cj3 fi3 fj3
                            go_wp2
                            go_roundw
                            case rel =>
                              refine ⟨i + 1, j - 1, E, by go_num, by congr 1; omega, by omega, by omega, by omega, HO4.out, ?_⟩
                              rw [HEE.out, ← loop_go a i0 j0 i j dk HI2.out HJ2.out (by omega), HPL.out]
                            case measure => simp [iOf]; omega
                        · have hle2' : decide ((i : Int) ≤ (j : Int)) = false := by simp; omega
                          have hle3 : ¬ (i : Int) ≤ (j : Int) := by omega
                          have HJ2 : Hid (scanDown (fun x => !ltInt x dk[a]!) dk i j0 = j) := by
                            show _ = _
                            rw [← HEj.out, dn_end1 (fun x => !ltInt x dk[a]!) dk i j (by omega)]
                          clear hO
                          go_wp2
                          go_quiet (first | (go_at_call 44; refine Calls.quiet_of_same (less_ok _ _ _)))
                          go_wp2
                          generalize hWg : wr.drewN nq = W3
                          have hO3 : Own w0 W3 (SR g n cap dk :: l) := by rw [← hWg]; exact HOj.out.drewN nq
                          have HO3 : Hid (Own w0 W3 (SR g n cap dk :: l)) := hO3
                          clear hWg HOj HEj
                          have hgt : (j : Int) < (i : Int) := by omega
                          go_wp2
                          rcases Decidable.em (j = a) with hja | hja
                          · have ca2 := hO3.srAt a han
                            have fa2 := hO3.srFz a
                            rw [← HXa.out] at ca2
                            have HJA : Hid (j = a) := hja
                            have eja : (j : Int) = (a : Int) := by omega
                            clear hO3 hja
                            rw [eja]
                            go_wp2_with fail
                            go_region
                            generalize hWg : World.drew _ = W4
                            have HO4 : Hid (Own w0 W4 (SR g n cap (swp dk a a) :: l)) := by
                              show Own _ _ _
                              rw [← hWg, HXa.out]
                              exact (HO3.out.srSwp a a han han).drew
                            clear hWg ca2 fa2 eja
                            go_wp2
                            go_ret2
                            refine ⟨false, a, rfl, _, HO4.out, ?_⟩
                            have e := HJA.out
                            have hd := by have q := HPL.out; rw [loop_end a i0 j0 i j dk HI2.out HJ2.out (by omega)] at q; exact part_done HD.out HB.out q.symm
                            rw [e] at hd
                            exact hd
                          · have hjn2 : j < n := by omega
                            have cj2 := hO3.srAt j hjn2
                            have fj2 := hO3.srFz j
                            have ca2 := hO3.srAt a han
                            have fa2 := hO3.srFz a
                            obtain ⟨y, hy⟩ : ∃ y, y = dk[j]! := ⟨_, rfl⟩
                            rw [← hy] at cj2
                            rw [← HXa.out] at ca2
                            have HY : Hid (y = dk[j]!) := hy
                            have hja2 : ¬ a = j := fun q => hja q.symm
                            clear hO3 hy
                            go_wp2_with fail
                            go_region
                            generalize hWg : World.drew _ = W4
                            have HO4 : Hid (Own w0 W4 (SR g n cap (swp dk j a) :: l)) := by
                              show Own _ _ _
                              rw [← hWg, HXa.out, HY.out]
                              exact (HO3.out.srSwp j a hjn2 han).drew
                            clear hWg ca2 fa2 cj2 fj2
                            go_wp2
                            go_ret2
                            exact ⟨false, j, rfl, _, HO4.out, by have q := HPL.out; rw [loop_end a i0 j0 i j dk HI2.out HJ2.out (by omega)] at q; exact part_done HD.out HB.out q.symm⟩
                  · have hle' : decide ((i : Int) ≤ (j0 : Int)) = false := by simp; omega
                    have hle2 : ¬ (i : Int) ≤ (j0 : Int) := by omega
                    have HI2 : Hid (scanUp (fun x => ltInt x dk[a]!) dk j0 i0 = i) := by
                      show _ = _
                      rw [← HEi.out, up_end1 (fun x => ltInt x dk[a]!) dk j0 i (by omega)]
                    clear hO
                    go_wp2
                    go_quiet (first | (go_at_call 44; refine Calls.quiet_of_same (less_ok _ _ _)))
                    go_wp2
                    generalize hWg : wr.drewN nq = W2
                    have hO2 : Own w0 W2 (SR g n cap dk :: l) := by rw [← hWg]; exact HOi.out.drewN nq
                    have HO2 : Hid (Own w0 W2 (SR g n cap dk :: l)) := hO2
                    clear hWg hO2 HOi HEi
                    go_wp2
                    go_loopw [11] (fun vj wr => vj = .int .i64 (j0 : Int) ∧ Own w0 wr (SR g n cap dk :: l)) (fun _ _ => 0)
                    case atStart => exact ⟨rfl, HO2.out⟩
                    case round =>
                      obtain ⟨rfl, hO⟩ := hrel
                      have HOj : Hid (Own w0 wr (SR g n cap dk :: l)) := hO
                      have HJ2 : Hid (scanDown (fun x => !ltInt x dk[a]!) dk i j0 = j0) := dn_end1 (fun x => !ltInt x dk[a]!) dk i j0 (by omega)
                      clear hO HO2
                      go_wp2
                      go_quiet (first | (go_at_call 44; refine Calls.quiet_of_same (less_ok _ _ _)))
                      go_wp2
                      generalize hWg : wr.drewN nq = W3
                      have hO3 : Own w0 W3 (SR g n cap dk :: l) := by rw [← hWg]; exact HOj.out.drewN nq
                      have HO3 : Hid (Own w0 W3 (SR g n cap dk :: l)) := hO3
                      clear hWg HOj
                      have hgt : (j0 : Int) < (i : Int) := by omega
                      go_wp2
                      rcases Decidable.em (j0 = a) with hja | hja
                      · have ca2 := hO3.srAt a han
                        have fa2 := hO3.srFz a
                        rw [← HXa.out] at ca2
                        have HJA : Hid (j0 = a) := hja
                        have eja : (j0 : Int) = (a : Int) := by omega
                        clear hO3 hja
                        rw [eja]
                        go_wp2_with fail
                        go_region
                        generalize hWg : World.drew _ = W4
                        have HO4 : Hid (Own w0 W4 (SR g n cap (swp dk a a) :: l)) := by
                          show Own _ _ _
                          rw [← hWg, HXa.out]
                          exact (HO3.out.srSwp a a han han).drew
                        clear hWg ca2 fa2 eja
                        go_wp2
                        go_ret2
                        refine ⟨false, a, rfl, _, HO4.out, ?_⟩
                        have e := HJA.out
                        have hd := by have q := HPL.out; rw [loop_end a i0 j0 i j0 dk HI2.out HJ2.out (by omega)] at q; exact part_done HD.out HB.out q.symm
                        rw [e] at hd
                        exact hd
                      · have hjn2 : j0 < n := by omega
                        have cj2 := hO3.srAt j0 hjn2
                        have fj2 := hO3.srFz j0
                        have ca2 := hO3.srAt a han
                        have fa2 := hO3.srFz a
                        obtain ⟨y, hy⟩ : ∃ y, y = dk[j0]! := ⟨_, rfl⟩
                        rw [← hy] at cj2
                        rw [← HXa.out] at ca2
                        have HY : Hid (y = dk[j0]!) := hy
                        have hja2 : ¬ a = j0 := fun q => hja q.symm
                        clear hO3 hy
                        go_wp2_with fail
                        go_region
                        generalize hWg : World.drew _ = W4
                        have HO4 : Hid (Own w0 W4 (SR g n cap (swp dk j0 a) :: l)) := by
                          show Own _ _ _
                          rw [← hWg, HXa.out, HY.out]
                          exact (HO3.out.srSwp j0 a hjn2 han).drew
                        clear hWg ca2 fa2 cj2 fj2
                        go_wp2
                        go_ret2
                        exact ⟨false, j0, rfl, _, HO4.out, by have q := HPL.out; rw [loop_end a i0 j0 i j0 dk HI2.out HJ2.out (by omega)] at q; exact part_done HD.out HB.out q.symm⟩
          · have hle2' : decide ((i : Int) ≤ (j : Int)) = false := by simp; omega
            have hle3 : ¬ (i : Int) ≤ (j : Int) := by omega
            have HJ2 : Hid (scanDown (fun x => !ltInt x D[a]!) D i b1 = j) := by
              show _ = _
              rw [← HEj.out, dn_end1 (fun x => !ltInt x D[a]!) D i j (by omega)]
            clear hO
            go_wp2
            go_quiet (first | (go_at_call 44; refine Calls.quiet_of_same (less_ok _ _ _)))
            go_wp2
            generalize hWg : wr.drewN nq = W3
            have hO3 : Own w0 W3 (SR g n cap D :: l) := by rw [← hWg]; exact HOj.out.drewN nq
            have HO3 : Hid (Own w0 W3 (SR g n cap D :: l)) := hO3
            clear hWg HOj HEj
            have hgt : (j : Int) < (i : Int) := by omega
            go_wp2
            rcases Decidable.em (j = a) with hja | hja
            · have ca2 := hO3.srAt a han
              have fa2 := hO3.srFz a
              rw [← HXa.out] at ca2
              have HJA : Hid (j = a) := hja
              have eja : (j : Int) = (a : Int) := by omega
              clear hO3 hja
              rw [eja]
              go_wp2_with fail
              go_region
              generalize hWg : World.drew _ = W4
              have HO4 : Hid (Own w0 W4 (SR g n cap (swp D a a) :: l)) := by
                show Own _ _ _
                rw [← hWg, HXa.out]
                exact (HO3.out.srSwp a a han han).drew
              clear hWg ca2 fa2 eja
              go_wp2
              go_ret2
              refine ⟨true, a, rfl, _, HO4.out, ?_⟩
              have e := HJA.out
              have hd := by have q := loop_end a (a + 1) b1 i j D HI2.out HJ2.out (by omega); exact part_done HD.out HB.out q
              rw [e] at hd
              exact hd
            · have hjn2 : j < n := by omega
              have cj2 := hO3.srAt j hjn2
              have fj2 := hO3.srFz j
              have ca2 := hO3.srAt a han
              have fa2 := hO3.srFz a
              obtain ⟨y, hy⟩ : ∃ y, y = D[j]! := ⟨_, rfl⟩
              rw [← hy] at cj2
              rw [← HXa.out] at ca2
              have HY : Hid (y = D[j]!) := hy
              have hja2 : ¬ a = j := fun q => hja q.symm
              clear hO3 hy
              go_wp2_with fail
              go_region
              generalize hWg : World.drew _ = W4
              have HO4 : Hid (Own w0 W4 (SR g n cap (swp D j a) :: l)) := by
                show Own _ _ _
                rw [← hWg, HXa.out, HY.out]
                exact (HO3.out.srSwp j a hjn2 han).drew
              clear hWg ca2 fa2 cj2 fj2
              go_wp2
              go_ret2
              exact ⟨true, j, rfl, _, HO4.out, by have q := loop_end a (a + 1) b1 i j D HI2.out HJ2.out (by omega); exact part_done HD.out HB.out q⟩
    · have hle' : decide ((i : Int) ≤ (b1 : Int)) = false := by simp; omega
      have hle2 : ¬ (i : Int) ≤ (b1 : Int) := by omega
      have HI2 : Hid (scanUp (fun x => ltInt x D[a]!) D b1 (a + 1) = i) := by
        show _ = _
        rw [← HEi.out, up_end1 (fun x => ltInt x D[a]!) D b1 i (by omega)]
      clear hO
      go_wp2
      go_quiet (first | (go_at_call 44; refine Calls.quiet_of_same (less_ok _ _ _)))
      go_wp2
      generalize hWg : wr.drewN nq = W2
      have hO2 : Own w0 W2 (SR g n cap D :: l) := by rw [← hWg]; exact HOi.out.drewN nq
      have HO2 : Hid (Own w0 W2 (SR g n cap D :: l)) := hO2
      clear hWg hO2 HOi HEi
      go_wp2
      go_loopw [11] (fun vj wr => vj = .int .i64 (b1 : Int) ∧ Own w0 wr (SR g n cap D :: l)) (fun _ _ => 0)
      case atStart => exact ⟨rfl, HO2.out⟩
      case round =>
        obtain ⟨rfl, hO⟩ := hrel
        have HOj : Hid (Own w0 wr (SR g n cap D :: l)) := hO
        have HJ2 : Hid (scanDown (fun x => !ltInt x D[a]!) D i b1 = b1) := dn_end1 (fun x => !ltInt x D[a]!) D i b1 (by omega)
        clear hO HO2
        go_wp2
        go_quiet (first | (go_at_call 44; refine Calls.quiet_of_same (less_ok _ _ _)))
        go_wp2
        generalize hWg : wr.drewN nq = W3
        have hO3 : Own w0 W3 (SR g n cap D :: l) := by rw [← hWg]; exact HOj.out.drewN nq
        have HO3 : Hid (Own w0 W3 (SR g n cap D :: l)) := hO3
        clear hWg HOj
        have hgt : (b1 : Int) < (i : Int) := by omega
        go_wp2
        rcases Decidable.em (b1 = a) with hja | hja
        · have ca2 := hO3.srAt a han
          have fa2 := hO3.srFz a
          rw [← HXa.out] at ca2
          have HJA : Hid (b1 = a) := hja
          have eja : (b1 : Int) = (a : Int) := by omega
          clear hO3 hja
          rw [eja]
          go_wp2_with fail
          go_region
          generalize hWg : World.drew _ = W4
          have HO4 : Hid (Own w0 W4 (SR g n cap (swp D a a) :: l)) := by
            show Own _ _ _
            rw [← hWg, HXa.out]
            exact (HO3.out.srSwp a a han han).drew
          clear hWg ca2 fa2 eja
          go_wp2
          go_ret2
          refine ⟨true, a, rfl, _, HO4.out, ?_⟩
          have e := HJA.out
          have hd := by have q := loop_end a (a + 1) b1 i b1 D HI2.out HJ2.out (by omega); exact part_done HD.out HB.out q
          rw [e] at hd
          exact hd
        · have hjn2 : b1 < n := by omega
          have cj2 := hO3.srAt b1 hjn2
          have fj2 := hO3.srFz b1
          have ca2 := hO3.srAt a han
          have fa2 := hO3.srFz a
          obtain ⟨y, hy⟩ : ∃ y, y = D[b1]! := ⟨_, rfl⟩
          rw [← hy] at cj2
          rw [← HXa.out] at ca2
          have HY : Hid (y = D[b1]!) := hy
          have hja2 : ¬ a = b1 := fun q => hja q.symm
          clear hO3 hy
          go_wp2_with fail
          go_region
          generalize hWg : World.drew _ = W4
          have HO4 : Hid (Own w0 W4 (SR g n cap (swp D b1 a) :: l)) := by
            show Own _ _ _
            rw [← hWg, HXa.out, HY.out]
            exact (HO3.out.srSwp b1 a hjn2 han).drew
          clear hWg ca2 fa2 cj2 fj2
          go_wp2
          go_ret2
          exact ⟨true, b1, rfl, _, HO4.out, by have q := loop_end a (a + 1) b1 i b1 D HI2.out HJ2.out (by omega); exact part_done HD.out HB.out q⟩
end Go.Proofs.YthokgjkgfolojabDoor
