/-
  Sorting IDs: what is nearly sorted.
-/
import Derived.Test.YthokgjkgfolojabDoorSoc
namespace Go.Proofs.YthokgjkgfolojabDoor
open Go.RowKit Go.Sort
set_option linter.unusedVariables false
set_option maxRecDepth 100000

section
variable {α : Type} [Inhabited α] (lt : α → α → Bool)
theorem ss_go (d : Array α) (b i k : Nat) (hk : i = k + 1) (h : i < b) (hl : lt d[i]! d[k]! = false) : scanSorted lt d b i = scanSorted lt d b (i + 1) := by
  subst hk
  conv => lhs; rw [scanSorted]
  simp [h, hl]
theorem ss_end1 (d : Array α) (b i : Nat) (h : ¬ i < b) : scanSorted lt d b i = i := by
  rw [scanSorted]; simp [h]
theorem ss_end2 (d : Array α) (b i k : Nat) (hk : i = k + 1) (hl : lt d[i]! d[k]! = true) : scanSorted lt d b i = i := by
  subst hk
  rw [scanSorted]; simp [hl]
theorem sd_go (d : Array α) (j k : Nat) (hk : j = k + 1) (hl : lt d[j]! d[k]! = true) : shiftDown lt j d = shiftDown lt k (swp d j k) := by
  subst hk
  conv => lhs; rw [shiftDown]
  simp [hl]
theorem sd_end (d : Array α) (j k : Nat) (hk : j = k + 1) (hl : lt d[j]! d[k]! = false) : shiftDown lt j d = d := by
  subst hk
  rw [shiftDown]; simp [hl]
theorem su_go (d : Array α) (b j k : Nat) (hk : j = k + 1) (h : j < b) (hl : lt d[j]! d[k]! = true) : shiftUp lt b j d = shiftUp lt b (j + 1) (swp d j k) := by
  subst hk
  conv => lhs; rw [shiftUp]
  simp [h, hl]
theorem su_end1 (d : Array α) (b j : Nat) (h : ¬ j < b) : shiftUp lt b j d = d := by
  rw [shiftUp]; simp [h]
theorem su_end2 (d : Array α) (b j k : Nat) (hk : j = k + 1) (hl : lt d[j]! d[k]! = false) : shiftUp lt b j d = d := by
  subst hk
  rw [shiftUp]; simp [hl]
theorem pi_true (a b t i : Nat) (d : Array α) (h : scanSorted lt d b i = b) : partialIns lt a b (t + 1) i d = (d, true) := by
  rw [partialIns]; simp [h]
theorem pi_false (a b t i i2 : Nat) (d : Array α) (h : scanSorted lt d b i = i2) (hne : ¬ i2 = b) (hs : b - a < 50) : partialIns lt a b (t + 1) i d = (d, false) := by
  rw [partialIns]; simp [h, hne, hs]
theorem pi_go (a b t i i2 k : Nat) (d d2 d3 : Array α) (h : scanSorted lt d b i = i2) (hk : i2 = k + 1) (hne : ¬ i2 = b) (hs : ¬ b - a < 50) (h2 : d2 = if 2 ≤ i2 - a then shiftDown lt k (swp d i2 k) else swp d i2 k) (h3 : d3 = if 2 ≤ b - i2 then shiftUp lt b (i2 + 1) d2 else d2) : partialIns lt a b (t + 1) i d = partialIns lt a b t i2 d3 := by
  subst h3 h2 hk
  conv => lhs; rw [partialIns]
  simp only [h, hne, hs, if_false, Nat.add_sub_cancel, ge_iff_le]
end
set_option maxHeartbeats 16000000 in
theorem pins_fn (w0 w : World) (l : List Thing) (g n cap : Nat) (d : Array Int) (a b : Nat) (h : Own w0 w (SR g n cap d :: l)) (hab : a < b) (hb : b ≤ n) (hn : n < 1000000) :
    Calls Tryd.prog 43 #[.slice (some ⟨g, 0, none⟩) n cap, .int .i64 (a : Int), .int .i64 (b : Int)] w fun e w' => e = .returned (.bool (partialInsertionSort ltInt d a b).2) ∧ Own w0 w' (SR g n cap (partialInsertionSort ltInt d a b).1 :: l) := by
  have H : Hid (Own w0 w (SR g n cap d :: l)) := h
  obtain ⟨ba, hba⟩ : ∃ ba, ba = b - a := ⟨_, rfl⟩
  have e0 : (b : Int) - (a : Int) = (ba : Int) := by omega
  have HBA : Hid (ba = b - a) := hba
  have hban : ba ≤ n := by omega
  clear h hba
  go_enter Tryd.func43, Tryd.ntmps43
  go_wp2
  go_loopw [7, 8] (fun vi vs wr => ∃ (i0 t : Nat) (dk : Array Int), vi = .int .i64 (i0 : Int) ∧ vs = .int .i64 (5 - (t : Int)) ∧ t ≤ 5 ∧ a < i0 ∧ i0 ≤ b ∧ Own w0 wr (SR g n cap dk :: l) ∧ partialIns ltInt a b t i0 dk = partialIns ltInt a b 5 (a + 1) d) (fun _ vs _ => (5 - iOf vs).toNat)
  case atStart => exact ⟨a + 1, 5, d, by go_num, rfl, Nat.le_refl _, by omega, by omega, H.out, rfl⟩
  case round =>
    obtain ⟨i0, t, dk, rfl, rfl, ht5, hai0, hi0b, hO0, hE⟩ := hrel
    have HO0 : Hid (Own w0 wr (SR g n cap dk :: l)) := hO0
    have HE : Hid (partialIns ltInt a b t i0 dk = partialIns ltInt a b 5 (a + 1) d) := hE
    clear hO0 hE H
    cases t with
    | zero =>
      have z0 : (5 : Int) - ((0 : Nat) : Int) = 5 := by omega
      rw [z0]
      clear z0
      go_wp2
      go_ret
      unfold partialInsertionSort
      rw [← HE.out, partialIns]
      exact ⟨rfl, HO0.out⟩
    | succ t =>
      obtain ⟨sv, hsv⟩ : ∃ sv : Int, sv = 5 - ((t + 1 : Nat) : Int) := ⟨_, rfl⟩
      rw [← hsv]
      have hs5 : sv < 5 := by omega
      have hs1 : sv + 1 = 5 - (t : Int) := by omega
      have HS1 : Hid (sv + 1 = 5 - (t : Int)) := hs1
      have HSV : Hid (sv = 5 - ((t + 1 : Nat) : Int)) := hsv
      have hs0 : 0 ≤ sv := by omega
      clear hsv hs1
      have ht4 : t ≤ 4 := by omega
      clear ht5
      go_wp2
      go_loopw [7] (fun vi wr => ∃ i : Nat, vi = .int .i64 (i : Int) ∧ i0 ≤ i ∧ i ≤ b ∧ Own w0 wr (SR g n cap dk :: l) ∧ scanSorted ltInt dk b i = scanSorted ltInt dk b i0) (fun vi _ => b - (iOf vi).toNat)
      case atStart => exact ⟨i0, rfl, Nat.le_refl _, hi0b, HO0.out, rfl⟩
      case round =>
        obtain ⟨i, rfl, hi0i, hib, hO, hEi⟩ := hrel
        have HO : Hid (Own w0 wr (SR g n cap dk :: l)) := hO
        have HEi : Hid (scanSorted ltInt dk b i = scanSorted ltInt dk b i0) := hEi
        clear hEi HO0
        by_cases hlt : i < b
        · have hlt' : (i : Int) < (b : Int) := by omega
          obtain ⟨k, hk⟩ : ∃ k, i = k + 1 := ⟨i - 1, by omega⟩
          have e1 : (i : Int) - 1 = (k : Int) := by omega
          have HKE : Hid (i = k + 1) := hk
          have hki : ¬ k = i := by omega
          have hik : ¬ i = k := by omega
          have c1 := hO.srAt i (by omega)
          have c2 := hO.srAt k (by omega)
          have f1 := hO.srFz i
          have f2 := hO.srFz k
          obtain ⟨x1, hx1⟩ : ∃ x, x = dk[i]! := ⟨_, rfl⟩
          obtain ⟨x2, hx2⟩ : ∃ x, x = dk[k]! := ⟨_, rfl⟩
          rw [← hx1] at c1
          rw [← hx2] at c2
          have HX1 : Hid (x1 = dk[i]!) := hx1
          have HX2 : Hid (x2 = dk[k]!) := hx2
          have hvn : i < n := by omega
          have hkn : k < n := by omega
          clear hx1 hx2
          clear hO hk
          go_wp2
          go_quiet (first | (go_at_call 44; refine Calls.quiet_of_same (less_ok _ _ _)))
          by_cases hl : ltInt x1 x2 = true
          · rw [hl, Bool.not_true]
            have HI : Hid (scanSorted ltInt dk b i0 = i) := by
              show _ = _
              rw [← HEi.out, ss_end2 ltInt dk b i k HKE.out (by rw [← HX1.out, ← HX2.out]; exact hl)]
            have hib' : ((i : Int) == (b : Int)) = false := by rw [beq_eq_false_iff_ne]; omega
            generalize hWg : wr.drewN nq = W2
            have hO2 : Own w0 W2 (SR g n cap dk :: l) := by rw [← hWg]; exact HO.out.drewN nq
            have HO2 : Hid (Own w0 W2 (SR g n cap dk :: l)) := hO2
            clear hWg c1 c2 f1 f2 HO HEi
            by_cases h50 : ba < 50
            · have h50' : (ba : Int) < 50 := by omega
              clear hO2
              go_wp2
              go_ret
              unfold partialInsertionSort
              rw [← HE.out, pi_false ltInt a b t i0 i dk HI.out (by omega) (by rw [← HBA.out]; exact h50)]
              exact ⟨rfl, HO2.out⟩
            · have h50' : ¬ (ba : Int) < 50 := by omega
              have c1 := hO2.srAt i (by omega)
              have c2 := hO2.srAt k (by omega)
              have f1 := hO2.srFz i
              have f2 := hO2.srFz k
              rw [← HX1.out] at c1
              rw [← HX2.out] at c2
              clear hO2
              go_wp2
              go_region
              obtain ⟨D1, hD1⟩ : ∃ D1, D1 = swp dk i k := ⟨_, rfl⟩
              have HD1 : Hid (D1 = swp dk i k) := hD1
              generalize hWg : World.drew _ = W1
              have hO1 : Own w0 W1 (SR g n cap D1 :: l) := by
                rw [← hWg, hD1, HX1.out, HX2.out]
                exact (HO2.out.srSwp i k (by omega) (by omega)).drew
              have HO1 : Hid (Own w0 W1 (SR g n cap D1 :: l)) := hO1
              obtain ⟨ia, hia⟩ : ∃ ia, ia = i - a := ⟨_, rfl⟩
              obtain ⟨bi, hbi⟩ : ∃ bi, bi = b - i := ⟨_, rfl⟩
              have e2 : (i : Int) - (a : Int) = (ia : Int) := by omega
              have e3 : (b : Int) - (i : Int) = (bi : Int) := by omega
              have HIA : Hid (ia = i - a) := hia
              have hian : ia ≤ n := by omega
              have hbin : bi ≤ n := by omega
              have hbie : bi + i = b := by omega
              clear hWg hO1 hD1 c1 c2 f1 f2 HO2 hia hbi hl
              by_cases hia2 : 2 ≤ ia
              · have hia2' : (2 : Int) ≤ (ia : Int) := by omega
                have hia2n : ¬ (ia : Int) < 2 := by omega
                go_wp2
                go_loopw [9] (fun vj wr => ∃ (m : Nat) (dm : Array Int), vj = .int .i64 (m : Int) ∧ m ≤ k ∧ Own w0 wr (SR g n cap dm :: l) ∧ shiftDown ltInt m dm = shiftDown ltInt k D1) (fun vj _ => (iOf vj).toNat)
                case atStart => exact ⟨k, D1, rfl, Nat.le_refl _, HO1.out, rfl⟩
                case round =>
                  obtain ⟨m, D2, rfl, hmk, hOd, hD⟩ := hrel
                  have HOd : Hid (Own w0 wr (SR g n cap D2 :: l)) := hOd
                  have HDD : Hid (shiftDown ltInt m D2 = shiftDown ltInt k D1) := hD
                  clear hD HO1
                  rcases Nat.eq_zero_or_pos m with rfl | hm0
                  · have z0 : ((0 : Nat) : Int) = 0 := rfl
                    have HD2 : Hid (D2 = if 2 ≤ i - a then shiftDown ltInt k (swp dk i k) else swp dk i k) := by
                      show _ = _
                      rw [if_pos (by have := HIA.out; omega), ← HD1.out, ← HDD.out, shiftDown]
                    rw [z0]
                    clear hOd z0 HDD HD1
                    by_cases hbi2 : 2 ≤ bi
                    · have hbi2' : (2 : Int) ≤ (bi : Int) := by omega
                      have hbi2n : ¬ (bi : Int) < 2 := by omega
                      go_wp2
                      go_loopw [10] (fun vj wr => ∃ (j : Nat) (dj : Array Int), vj = .int .i64 (j : Int) ∧ i + 1 ≤ j ∧ j ≤ b ∧ Own w0 wr (SR g n cap dj :: l) ∧ shiftUp ltInt b j dj = shiftUp ltInt b (i + 1) D2) (fun vj _ => b - (iOf vj).toNat)
                      case atStart => exact ⟨i + 1, D2, by go_num, Nat.le_refl _, by omega, HOd.out, rfl⟩
                      case round =>
                        obtain ⟨j, dj, rfl, hij, hjb, hOu, hU⟩ := hrel
                        have HOu : Hid (Own w0 wr (SR g n cap dj :: l)) := hOu
                        have HU : Hid (shiftUp ltInt b j dj = shiftUp ltInt b (i + 1) D2) := hU
                        clear hU HOd
                        by_cases hjlt : j < b
                        · have hjlt' : (j : Int) < (b : Int) := by omega
                          obtain ⟨kk, hkk⟩ : ∃ kk, j = kk + 1 := ⟨j - 1, by omega⟩
                          have ek : (j : Int) - 1 = (kk : Int) := by omega
                          have HKK : Hid (j = kk + 1) := hkk
                          have hkj : ¬ kk = j := by omega
                          have hjk : ¬ j = kk := by omega
                          have c1 := hOu.srAt j (by omega)
                          have c2 := hOu.srAt kk (by omega)
                          have f1 := hOu.srFz j
                          have f2 := hOu.srFz kk
                          obtain ⟨x1u, hx1⟩ : ∃ x, x = dj[j]! := ⟨_, rfl⟩
                          obtain ⟨x2u, hx2⟩ : ∃ x, x = dj[kk]! := ⟨_, rfl⟩
                          rw [← hx1] at c1
                          rw [← hx2] at c2
                          have HX1u : Hid (x1u = dj[j]!) := hx1
                          have HX2u : Hid (x2u = dj[kk]!) := hx2
                          have hvn : j < n := by omega
                          have hkn : kk < n := by omega
                          clear hx1 hx2
                          clear hOu hkk
                          go_wp2
                          go_quiet (first | (go_at_call 44; refine Calls.quiet_of_same (less_ok _ _ _)))
                          go_wp2
                          · have hlu : ltInt x1u x2u = false := not_t (by assumption)
                            go_roundw
                            case rel =>
                              refine ⟨i, t, dj, rfl, by rw [HS1.out], by omega, by omega, by omega, HOu.out.drewN _, ?_⟩
                              rw [← HE.out, pi_go ltInt a b t i0 i k dk D2 dj HI.out HKE.out (by omega) (by rw [← HBA.out]; omega) HD2.out (by rw [if_pos (by omega), ← HU.out, su_end2 ltInt dj b j kk HKK.out (by rw [← HX1u.out, ← HX2u.out]; exact hlu)])]
                            case measure => have := HSV.out; simp [iOf]; omega
                          · have hlu : ltInt x1u x2u = true := not_f (by assumption)
                            go_region
                            all_goals go_wp2
                            go_roundw
                            case rel =>
                              refine ⟨j + 1, swp dj j kk, by go_num, by omega, by omega, ?_, ?_⟩
                              · rw [HX1u.out, HX2u.out]
                                exact (HOu.out.drewN _).srSwp j kk (by omega) (by omega)
                              · rw [← HU.out, su_go ltInt dj b j kk HKK.out hjlt (by rw [← HX1u.out, ← HX2u.out]; exact hlu)]
                            case measure => simp [iOf]; omega
                        · have hjlt' : ¬ (j : Int) < (b : Int) := by omega
                          clear hOu
                          go_wp2
                          go_roundw
                          case rel =>
                            refine ⟨i, t, dj, rfl, by rw [HS1.out], by omega, by omega, by omega, HOu.out, ?_⟩
                            rw [← HE.out, pi_go ltInt a b t i0 i k dk D2 dj HI.out HKE.out (by omega) (by rw [← HBA.out]; omega) HD2.out (by rw [if_pos (by omega), ← HU.out, su_end1 ltInt dj b j (by omega)])]
                          case measure => have := HSV.out; simp [iOf]; omega
                    · have hbi2' : ¬ (2 : Int) ≤ (bi : Int) := by omega
                      have hbi2n : (bi : Int) < 2 := by omega
                      go_wp2
                      go_roundw
                      case rel =>
                        refine ⟨i, t, D2, rfl, by rw [HS1.out], by omega, by omega, by omega, HOd.out, ?_⟩
                        rw [← HE.out, pi_go ltInt a b t i0 i k dk D2 D2 HI.out HKE.out (by omega) (by rw [← HBA.out]; omega) HD2.out (by rw [if_neg (by omega)])]
                      case measure => have := HSV.out; simp [iOf]; omega
                  · obtain ⟨mm, hmm⟩ : ∃ mm, m = mm + 1 := ⟨m - 1, by omega⟩
                    have em : (m : Int) - 1 = (mm : Int) := by omega
                    have hm1 : (1 : Int) ≤ (m : Int) := by omega
                    have HMM : Hid (m = mm + 1) := hmm
                    have hmmj : ¬ mm = m := by omega
                    have hjmm : ¬ m = mm := by omega
                    have c1 := hOd.srAt m (by omega)
                    have c2 := hOd.srAt mm (by omega)
                    have f1 := hOd.srFz m
                    have f2 := hOd.srFz mm
                    obtain ⟨x1d, hx1⟩ : ∃ x, x = D2[m]! := ⟨_, rfl⟩
                    obtain ⟨x2d, hx2⟩ : ∃ x, x = D2[mm]! := ⟨_, rfl⟩
                    rw [← hx1] at c1
                    rw [← hx2] at c2
                    have HX1d : Hid (x1d = D2[m]!) := hx1
                    have HX2d : Hid (x2d = D2[mm]!) := hx2
                    have hvn : m < n := by omega
                    have hkn : mm < n := by omega
                    clear hx1 hx2
                    clear hOd hmm
                    go_wp2
                    go_quiet (first | (go_at_call 44; refine Calls.quiet_of_same (less_ok _ _ _)))
                    by_cases hld : ltInt x1d x2d = true
                    · rw [hld, Bool.not_true]
                      go_wp2
                      go_region
                      all_goals go_wp2
                      go_roundw
                      case rel =>
                        have hmm := HMM.out
                        refine ⟨mm, swp D2 m mm, rfl, by omega, ?_, ?_⟩
                        · rw [HX1d.out, HX2d.out]
                          exact (HOd.out.drewN _).srSwp m mm (by omega) (by omega)
                        · rw [← HDD.out, sd_go ltInt D2 m mm HMM.out (by rw [← HX1d.out, ← HX2d.out]; exact hld)]
                      case measure => have := HMM.out; simp [iOf]; omega
                    · rw [Bool.not_eq_true] at hld
                      rw [hld, Bool.not_false]
                      have HD2 : Hid (D2 = if 2 ≤ i - a then shiftDown ltInt k (swp dk i k) else swp dk i k) := by
                        show _ = _
                        rw [if_pos (by have := HIA.out; omega), ← HD1.out, ← HDD.out, sd_end ltInt D2 m mm HMM.out (by rw [← HX1d.out, ← HX2d.out]; exact hld)]
                      generalize hWg : wr.drewN nq = W3
                      have hO3 : Own w0 W3 (SR g n cap D2 :: l) := by rw [← hWg]; exact HOd.out.drewN nq
                      have HOe : Hid (Own w0 W3 (SR g n cap D2 :: l)) := hO3
                      clear hWg hO3 HOd HDD HD1 c1 c2 f1 f2
                      by_cases hbi2 : 2 ≤ bi
                      · have hbi2' : (2 : Int) ≤ (bi : Int) := by omega
                        have hbi2n : ¬ (bi : Int) < 2 := by omega
                        go_wp2
                        go_loopw [10] (fun vj wr => ∃ (j : Nat) (dj : Array Int), vj = .int .i64 (j : Int) ∧ i + 1 ≤ j ∧ j ≤ b ∧ Own w0 wr (SR g n cap dj :: l) ∧ shiftUp ltInt b j dj = shiftUp ltInt b (i + 1) D2) (fun vj _ => b - (iOf vj).toNat)
                        case atStart => exact ⟨i + 1, D2, by go_num, Nat.le_refl _, by omega, HOe.out, rfl⟩
                        case round =>
                          obtain ⟨j, dj, rfl, hij, hjb, hOu, hU⟩ := hrel
                          have HOu : Hid (Own w0 wr (SR g n cap dj :: l)) := hOu
                          have HU : Hid (shiftUp ltInt b j dj = shiftUp ltInt b (i + 1) D2) := hU
                          clear hU HOe
                          by_cases hjlt : j < b
                          · have hjlt' : (j : Int) < (b : Int) := by omega
                            obtain ⟨kk, hkk⟩ : ∃ kk, j = kk + 1 := ⟨j - 1, by omega⟩
                            have ek : (j : Int) - 1 = (kk : Int) := by omega
                            have HKK : Hid (j = kk + 1) := hkk
                            have hkj : ¬ kk = j := by omega
                            have hjk : ¬ j = kk := by omega
                            have c1 := hOu.srAt j (by omega)
                            have c2 := hOu.srAt kk (by omega)
                            have f1 := hOu.srFz j
                            have f2 := hOu.srFz kk
                            obtain ⟨x1u, hx1⟩ : ∃ x, x = dj[j]! := ⟨_, rfl⟩
                            obtain ⟨x2u, hx2⟩ : ∃ x, x = dj[kk]! := ⟨_, rfl⟩
                            rw [← hx1] at c1
                            rw [← hx2] at c2
                            have HX1u : Hid (x1u = dj[j]!) := hx1
                            have HX2u : Hid (x2u = dj[kk]!) := hx2
                            have hvn : j < n := by omega
                            have hkn : kk < n := by omega
                            clear hx1 hx2
                            clear hOu hkk
                            go_wp2
                            go_quiet (first | (go_at_call 44; refine Calls.quiet_of_same (less_ok _ _ _)))
                            go_wp2
                            · have hlu : ltInt x1u x2u = false := not_t (by assumption)
                              go_roundw
                              case rel =>
                                refine ⟨i, t, dj, rfl, by rw [HS1.out], by omega, by omega, by omega, HOu.out.drewN _, ?_⟩
                                rw [← HE.out, pi_go ltInt a b t i0 i k dk D2 dj HI.out HKE.out (by omega) (by rw [← HBA.out]; omega) HD2.out (by rw [if_pos (by omega), ← HU.out, su_end2 ltInt dj b j kk HKK.out (by rw [← HX1u.out, ← HX2u.out]; exact hlu)])]
                              case measure => have := HSV.out; simp [iOf]; omega
                            · have hlu : ltInt x1u x2u = true := not_f (by assumption)
                              go_region
                              all_goals go_wp2
                              go_roundw
                              case rel =>
                                refine ⟨j + 1, swp dj j kk, by go_num, by omega, by omega, ?_, ?_⟩
                                · rw [HX1u.out, HX2u.out]
                                  exact (HOu.out.drewN _).srSwp j kk (by omega) (by omega)
                                · rw [← HU.out, su_go ltInt dj b j kk HKK.out hjlt (by rw [← HX1u.out, ← HX2u.out]; exact hlu)]
                              case measure => simp [iOf]; omega
                          · have hjlt' : ¬ (j : Int) < (b : Int) := by omega
                            clear hOu
                            go_wp2
                            go_roundw
                            case rel =>
                              refine ⟨i, t, dj, rfl, by rw [HS1.out], by omega, by omega, by omega, HOu.out, ?_⟩
                              rw [← HE.out, pi_go ltInt a b t i0 i k dk D2 dj HI.out HKE.out (by omega) (by rw [← HBA.out]; omega) HD2.out (by rw [if_pos (by omega), ← HU.out, su_end1 ltInt dj b j (by omega)])]
                            case measure => have := HSV.out; simp [iOf]; omega
                      · have hbi2' : ¬ (2 : Int) ≤ (bi : Int) := by omega
                        have hbi2n : (bi : Int) < 2 := by omega
                        go_wp2
                        go_roundw
                        case rel =>
                          refine ⟨i, t, D2, rfl, by rw [HS1.out], by omega, by omega, by omega, HOe.out, ?_⟩
                          rw [← HE.out, pi_go ltInt a b t i0 i k dk D2 D2 HI.out HKE.out (by omega) (by rw [← HBA.out]; omega) HD2.out (by rw [if_neg (by omega)])]
                        case measure => have := HSV.out; simp [iOf]; omega
              · have hia2' : ¬ (2 : Int) ≤ (ia : Int) := by omega
                have hia2n : (ia : Int) < 2 := by omega
                obtain ⟨D2, hD2⟩ : ∃ D2, D2 = D1 := ⟨_, rfl⟩
                have HD2 : Hid (D2 = if 2 ≤ i - a then shiftDown ltInt k (swp dk i k) else swp dk i k) := by
                  show _ = _
                  rw [if_neg (by have := HIA.out; omega), hD2, HD1.out]
                have HOf : Hid (Own w0 W1 (SR g n cap D2 :: l)) := by show Own _ _ _; rw [hD2]; exact HO1.out
                clear hD2 HD1 HO1
                by_cases hbi2 : 2 ≤ bi
                · have hbi2' : (2 : Int) ≤ (bi : Int) := by omega
                  have hbi2n : ¬ (bi : Int) < 2 := by omega
                  go_wp2
                  go_loopw [10] (fun vj wr => ∃ (j : Nat) (dj : Array Int), vj = .int .i64 (j : Int) ∧ i + 1 ≤ j ∧ j ≤ b ∧ Own w0 wr (SR g n cap dj :: l) ∧ shiftUp ltInt b j dj = shiftUp ltInt b (i + 1) D2) (fun vj _ => b - (iOf vj).toNat)
                  case atStart => exact ⟨i + 1, D2, by go_num, Nat.le_refl _, by omega, HOf.out, rfl⟩
                  case round =>
                    obtain ⟨j, dj, rfl, hij, hjb, hOu, hU⟩ := hrel
                    have HOu : Hid (Own w0 wr (SR g n cap dj :: l)) := hOu
                    have HU : Hid (shiftUp ltInt b j dj = shiftUp ltInt b (i + 1) D2) := hU
                    clear hU HOf
                    by_cases hjlt : j < b
                    · have hjlt' : (j : Int) < (b : Int) := by omega
                      obtain ⟨kk, hkk⟩ : ∃ kk, j = kk + 1 := ⟨j - 1, by omega⟩
                      have ek : (j : Int) - 1 = (kk : Int) := by omega
                      have HKK : Hid (j = kk + 1) := hkk
                      have hkj : ¬ kk = j := by omega
                      have hjk : ¬ j = kk := by omega
                      have c1 := hOu.srAt j (by omega)
                      have c2 := hOu.srAt kk (by omega)
                      have f1 := hOu.srFz j
                      have f2 := hOu.srFz kk
                      obtain ⟨x1u, hx1⟩ : ∃ x, x = dj[j]! := ⟨_, rfl⟩
                      obtain ⟨x2u, hx2⟩ : ∃ x, x = dj[kk]! := ⟨_, rfl⟩
                      rw [← hx1] at c1
                      rw [← hx2] at c2
                      have HX1u : Hid (x1u = dj[j]!) := hx1
                      have HX2u : Hid (x2u = dj[kk]!) := hx2
                      have hvn : j < n := by omega
                      have hkn : kk < n := by omega
                      clear hx1 hx2
                      clear hOu hkk
                      go_wp2
                      go_quiet (first | (go_at_call 44; refine Calls.quiet_of_same (less_ok _ _ _)))
                      go_wp2
                      · have hlu : ltInt x1u x2u = false := not_t (by assumption)
                        go_roundw
                        case rel =>
                          refine ⟨i, t, dj, rfl, by rw [HS1.out], by omega, by omega, by omega, HOu.out.drewN _, ?_⟩
                          rw [← HE.out, pi_go ltInt a b t i0 i k dk D2 dj HI.out HKE.out (by omega) (by rw [← HBA.out]; omega) HD2.out (by rw [if_pos (by omega), ← HU.out, su_end2 ltInt dj b j kk HKK.out (by rw [← HX1u.out, ← HX2u.out]; exact hlu)])]
                        case measure => have := HSV.out; simp [iOf]; omega
                      · have hlu : ltInt x1u x2u = true := not_f (by assumption)
                        go_region
                        all_goals go_wp2
                        go_roundw
                        case rel =>
                          refine ⟨j + 1, swp dj j kk, by go_num, by omega, by omega, ?_, ?_⟩
                          · rw [HX1u.out, HX2u.out]
                            exact (HOu.out.drewN _).srSwp j kk (by omega) (by omega)
                          · rw [← HU.out, su_go ltInt dj b j kk HKK.out hjlt (by rw [← HX1u.out, ← HX2u.out]; exact hlu)]
                        case measure => simp [iOf]; omega
                    · have hjlt' : ¬ (j : Int) < (b : Int) := by omega
                      clear hOu
                      go_wp2
                      go_roundw
                      case rel =>
                        refine ⟨i, t, dj, rfl, by rw [HS1.out], by omega, by omega, by omega, HOu.out, ?_⟩
                        rw [← HE.out, pi_go ltInt a b t i0 i k dk D2 dj HI.out HKE.out (by omega) (by rw [← HBA.out]; omega) HD2.out (by rw [if_pos (by omega), ← HU.out, su_end1 ltInt dj b j (by omega)])]
                      case measure => have := HSV.out; simp [iOf]; omega
                · have hbi2' : ¬ (2 : Int) ≤ (bi : Int) := by omega
                  have hbi2n : (bi : Int) < 2 := by omega
                  go_wp2
                  go_roundw
                  case rel =>
                    refine ⟨i, t, D2, rfl, by rw [HS1.out], by omega, by omega, by omega, HOf.out, ?_⟩
                    rw [← HE.out, pi_go ltInt a b t i0 i k dk D2 D2 HI.out HKE.out (by omega) (by rw [← HBA.out]; omega) HD2.out (by rw [if_neg (by omega)])]
                  case measure => have := HSV.out; simp [iOf]; omega
          · rw [Bool.not_eq_true] at hl
            rw [hl, Bool.not_false]
            go_wp2
            go_roundw
            case rel =>
              refine ⟨i + 1, by go_num, by omega, by omega, HO.out.drewN _, ?_⟩
              rw [← HEi.out, ss_go ltInt dk b i k HKE.out hlt (by rw [← HX1.out, ← HX2.out]; exact hl)]
            case measure => simp [iOf]; omega
        · have hlt' : ¬ (i : Int) < (b : Int) := by omega
          have hib' : i = b := by omega
          have HI : Hid (scanSorted ltInt dk b i0 = b) := by
            show _ = _
            rw [← HEi.out, ss_end1 ltInt dk b i hlt, hib']
          have hd : decide ((i : Int) < (b : Int)) = false := by simp; omega
          subst hib'
          clear hO
          go_wp2
          go_quiet (first | (go_at_call 44; refine Calls.quiet_of_same (less_ok _ _ _)))
          go_wp2
          go_ret
          unfold partialInsertionSort
          rw [← HE.out, pi_true ltInt a i t i0 dk HI.out]
          exact ⟨rfl, HO.out.drewN _⟩
end Go.Proofs.YthokgjkgfolojabDoor
