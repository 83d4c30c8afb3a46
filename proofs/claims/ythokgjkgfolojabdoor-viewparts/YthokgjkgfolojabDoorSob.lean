/-
  Sorting IDs: a part turned round; the heap.
-/
import Derived.Test.YthokgjkgfolojabDoorSoa
namespace Go.Proofs.YthokgjkgfolojabDoor
open Go.RowKit Go.Sort
set_option linter.unusedVariables false
set_option maxRecDepth 100000

set_option maxHeartbeats 4000000 in
theorem revRange_ok (w0 w : World) (l : List Thing) (g n cap : Nat) (d : Array Int) (a b : Nat) (h : Own w0 w (SR g n cap d :: l)) (hab : a ≤ b) (hb : b ≤ n) (hn : n < 1000000) :
    Calls Tryd.prog 42 #[.slice (some ⟨g, 0, none⟩) n cap, .int .i64 (a : Int), .int .i64 (b : Int)] w fun e w' => e = .returned (.tuple #[]) ∧ ∃ d', PermIn a b d d' ∧ Own w0 w' (SR g n cap d' :: l) := by
  have H : Hid (Own w0 w (SR g n cap d :: l)) := h
  clear h
  go_enter Tryd.func42, Tryd.ntmps42
  go_wp2
  go_loopw [6, 7] (fun vi vj wr => ∃ (i : Nat) (j : Int) (dk : Array Int), vi = .int .i64 (i : Int) ∧ vj = .int .i64 j ∧ a ≤ i ∧ i ≤ b ∧ j < b ∧ -1 ≤ j ∧ PermIn a b d dk ∧ Own w0 wr (SR g n cap dk :: l)) (fun vi vj _ => (iOf vj - iOf vi).toNat)
  case atStart => exact ⟨a, (b : Int) - 1, d, rfl, rfl, Nat.le_refl _, hab, by omega, by omega, permIn_refl d a b, H.out⟩
  case round =>
    obtain ⟨i, j, dk, rfl, rfl, hai, hib, hjb, hj1, hP, hO⟩ := hrel
    have HO : Hid (Own w0 wr (SR g n cap dk :: l)) := hO
    have HP : Hid (PermIn a b d dk) := hP
    clear hP H
    by_cases hlt : (i : Int) < j
    · obtain ⟨k, rfl⟩ : ∃ k : Nat, j = (k : Int) := ⟨j.toNat, by omega⟩
      have hin : i < n := by omega
      have hkn : k < n := by omega
      have c1 := hO.srAt i hin
      have c2 := hO.srAt k hkn
      have f1 := hO.srFz i
      have f2 := hO.srFz k
      obtain ⟨x1, hx1⟩ : ∃ x, x = dk[i]! := ⟨_, rfl⟩
      obtain ⟨x2, hx2⟩ : ∃ x, x = dk[k]! := ⟨_, rfl⟩
      rw [← hx1] at c1
      rw [← hx2] at c2
      have HX1 : Hid (x1 = dk[i]!) := hx1
      have HX2 : Hid (x2 = dk[k]!) := hx2
      have hsz := hO.srSize
      have HS : Hid (dk.size = n) := hsz
      clear hO hx1 hx2 hsz
      go_wp2_with fail
      go_region
      all_goals go_wp2
      go_roundw
      case rel =>
        refine ⟨i + 1, (k : Int) - 1, swp dk i k, by go_num, rfl, by omega, by omega, by omega, by omega, permIn_trans _ _ _ _ _ HP.out (swp_permIn dk a b i k hai (by omega) (by omega) (by omega) (by rw [HS.out]; exact hb)), ?_⟩
        rw [HX1.out, HX2.out]
        exact (HO.out.srSwp i k (by omega) (by omega)).drew
      case measure => simp [iOf]; omega
    · clear hO
      go_wp2
      go_end0
      exact ⟨rfl, dk, HP.out, HO.out⟩

theorem not_t {b : Bool} (h : (!b) = true) : b = false := by cases b <;> simp_all
theorem not_f {b : Bool} (h : (!b) = false) : b = true := by cases b <;> simp_all
section
variable {α : Type} [Inhabited α] (lt : α → α → Bool)
theorem sift_end (hi first rt : Nat) (d : Array α) (h : hi ≤ 2 * rt + 1) : siftDown lt hi first rt d = d := by
  rw [siftDown]; simp [h]
theorem sift_stop1 (hi first rt c p q r : Nat) (d : Array α) (hc : c = 2 * rt + 1) (hp : p = first + c) (hq : q = p + 1) (hr : r = first + rt) (h : c < hi) (h2 : ¬ c + 1 < hi ∨ lt d[p]! d[q]! = false) (h3 : lt d[r]! d[p]! = false) : siftDown lt hi first rt d = d := by
  subst hq hp hc hr
  rw [siftDown]
  rcases h2 with h2 | h2 <;> simp [show ¬ hi ≤ 2 * rt + 1 by omega, h2, h3]
theorem sift_stop2 (hi first rt c p q r : Nat) (d : Array α) (hc : c = 2 * rt + 1) (hp : p = first + c) (hq : q = p + 1) (hr : r = first + rt) (h2 : c + 1 < hi) (h4 : lt d[p]! d[q]! = true) (h3 : lt d[r]! d[q]! = false) : siftDown lt hi first rt d = d := by
  subst hq hp hc hr
  rw [siftDown]
  have e : first + (2 * rt + 2) = first + (2 * rt + 1) + 1 := by omega
  simp [show ¬ hi ≤ 2 * rt + 1 by omega, h2, h4, e, h3]
theorem sift_go1 (hi first rt c p q r : Nat) (d : Array α) (hc : c = 2 * rt + 1) (hp : p = first + c) (hq : q = p + 1) (hr : r = first + rt) (h : c < hi) (h2 : ¬ c + 1 < hi ∨ lt d[p]! d[q]! = false) (h3 : lt d[r]! d[p]! = true) : siftDown lt hi first rt d = siftDown lt hi first c (swp d r p) := by
  subst hq hp hc hr
  conv => lhs; rw [siftDown]
  rcases h2 with h2 | h2 <;> simp [show ¬ hi ≤ 2 * rt + 1 by omega, h2, h3]
theorem sift_go2 (hi first rt c p q r : Nat) (d : Array α) (hc : c = 2 * rt + 1) (hp : p = first + c) (hq : q = p + 1) (hr : r = first + rt) (h2 : c + 1 < hi) (h4 : lt d[p]! d[q]! = true) (h3 : lt d[r]! d[q]! = true) : siftDown lt hi first rt d = siftDown lt hi first (c + 1) (swp d r q) := by
  subst hq hp hc hr
  conv => lhs; rw [siftDown]
  have e : first + (2 * rt + 2) = first + (2 * rt + 1) + 1 := by omega
  simp [show ¬ hi ≤ 2 * rt + 1 by omega, h2, h4, e, h3]
end
set_option maxHeartbeats 8000000 in
theorem sift_fn (w0 w : World) (l : List Thing) (g n cap : Nat) (d : Array Int) (lo hi first : Nat) (h : Own w0 w (SR g n cap d :: l)) (hlo : lo < n) (hhi : first + hi ≤ n) (hn : n < 1000000) :
    Calls Tryd.prog 49 #[.slice (some ⟨g, 0, none⟩) n cap, .int .i64 (lo : Int), .int .i64 (hi : Int), .int .i64 (first : Int)] w fun e w' => e = .returned (.tuple #[]) ∧ Own w0 w' (SR g n cap (siftDown ltInt hi first lo d) :: l) := by
  have H : Hid (Own w0 w (SR g n cap d :: l)) := h
  clear h
  go_enter Tryd.func49, Tryd.ntmps49
  go_wp2
  go_loopw [8] (fun vi wr => ∃ (rt : Nat) (dk : Array Int), vi = .int .i64 (rt : Int) ∧ rt < n ∧ Own w0 wr (SR g n cap dk :: l) ∧ siftDown ltInt hi first rt dk = siftDown ltInt hi first lo d) (fun vi _ => n - (iOf vi).toNat)
  case atStart => exact ⟨lo, d, rfl, hlo, H.out, rfl⟩
  case round =>
    obtain ⟨rt, dk, rfl, hrn, hO, hE⟩ := hrel
    have HO : Hid (Own w0 wr (SR g n cap dk :: l)) := hO
    have HE : Hid (siftDown ltInt hi first rt dk = siftDown ltInt hi first lo d) := hE
    clear hE H
    obtain ⟨c, hc⟩ : ∃ c, c = 2 * rt + 1 := ⟨_, rfl⟩
    have e1 : 2 * (rt : Int) + 1 = (c : Int) := by omega
    have HC : Hid (c = 2 * rt + 1) := hc
    by_cases hch : c < hi
    · have hch' : ¬ (hi : Int) ≤ (c : Int) := by omega
      obtain ⟨p, hp⟩ : ∃ p, p = first + c := ⟨_, rfl⟩
      obtain ⟨r, hr⟩ : ∃ r, r = first + rt := ⟨_, rfl⟩
      have e2 : (first : Int) + (c : Int) = (p : Int) := by omega
      have e3 : (first : Int) + (rt : Int) = (r : Int) := by omega
      have hpn : p < n := by omega
      have hrn2 : r < n := by omega
      have HPE : Hid (p = first + c) := hp
      have HRE : Hid (r = first + rt) := hr
      have cp := hO.srAt p hpn
      have cr := hO.srAt r hrn2
      have fp := hO.srFz p
      have fr := hO.srFz r
      obtain ⟨xp, hxp⟩ : ∃ x, x = dk[p]! := ⟨_, rfl⟩
      obtain ⟨xr, hxr⟩ : ∃ x, x = dk[r]! := ⟨_, rfl⟩
      rw [← hxp] at cp
      rw [← hxr] at cr
      have HXP : Hid (xp = dk[p]!) := hxp
      have HXR : Hid (xr = dk[r]!) := hxr
      by_cases hq2 : c + 1 < hi
      · have hq2' : (c : Int) + 1 < (hi : Int) := by omega
        have hpq : p + 1 < n := by omega
        have e4 : (p : Int) + 1 = ((p + 1 : Nat) : Int) := by omega
        have cq := hO.srAt (p + 1) (by omega)
        have fq := hO.srFz (p + 1)
        obtain ⟨q, hq⟩ : ∃ q, q = p + 1 := ⟨_, rfl⟩
        rw [← hq] at cq fq e4
        have hqn : q < n := by omega
        have HQE : Hid (q = p + 1) := hq
        obtain ⟨xq, hxq⟩ : ∃ x, x = dk[q]! := ⟨_, rfl⟩
        rw [← hxq] at cq
        have HXQ : Hid (xq = dk[q]!) := hxq
        have e5 : (c : Int) + 1 = ((c + 1 : Nat) : Int) := by omega
        have e6 : (first : Int) + ((c : Int) + 1) = (q : Int) := by omega
        clear hO hxp hxr hxq hp hr hq hc e5
        go_wp2
        go_quiet (first | (go_at_call 44; refine Calls.quiet_of_same (less_ok _ _ _)))
        go_wp2
        · have hl : ltInt xp xq = true := by assumption
          generalize hWg : wr.drewN nq = W1
          have hO1 : Own w0 W1 (SR g n cap dk :: l) := by rw [← hWg]; exact HO.out.drewN nq
          clear hWg cp cr fp fr cq fq
          have cp := hO1.srAt p hpn
          have cr := hO1.srAt r hrn2
          have fp := hO1.srFz p
          have fr := hO1.srFz r
          rw [← HXP.out] at cp
          rw [← HXR.out] at cr
          have cq := hO1.srAt q hqn
          have fq := hO1.srFz q
          rw [← HXQ.out] at cq
          have HO1 : Hid (Own w0 W1 (SR g n cap dk :: l)) := hO1
          clear hO1
          go_quiet (first | (go_at_call 44; refine Calls.quiet_of_same (less_ok _ _ _)))
          go_wp2
          · have hl2 : ltInt xr xq = false := not_t (by assumption)
            refine bodyPost_ret (results_none rfl _ _ _) rfl ?_
            refine ⟨rfl, ?_⟩
            rw [← HE.out, sift_stop2 ltInt hi first rt c p q r dk HC.out HPE.out HQE.out HRE.out hq2 (by rw [← HXP.out, ← HXQ.out]; exact hl) (by rw [← HXR.out, ← HXQ.out]; exact hl2)]
            exact HO1.out.drewN _
          · have hl2 : ltInt xr xq = true := not_f (by assumption)
            go_region
            all_goals go_wp2
            go_roundw
            case rel =>
              have hc := HC.out
              refine ⟨c + 1, swp dk r q, by congr 1, by omega, ?_, ?_⟩
              · rw [HXR.out, HXQ.out]
                exact (HO1.out.drewN _).srSwp r q (by omega) (by omega)
              · rw [← HE.out, sift_go2 ltInt hi first rt c p q r dk HC.out HPE.out HQE.out HRE.out hq2 (by rw [← HXP.out, ← HXQ.out]; exact hl) (by rw [← HXR.out, ← HXQ.out]; exact hl2)]
            case measure => have := HC.out; simp [iOf]; omega
        · have hl : ltInt xp xq = false := by assumption
          generalize hWg : wr.drewN nq = W1
          have hO1 : Own w0 W1 (SR g n cap dk :: l) := by rw [← hWg]; exact HO.out.drewN nq
          clear hWg cp cr fp fr cq fq
          have cp := hO1.srAt p hpn
          have cr := hO1.srAt r hrn2
          have fp := hO1.srFz p
          have fr := hO1.srFz r
          rw [← HXP.out] at cp
          rw [← HXR.out] at cr
          have cq := hO1.srAt q hqn
          have fq := hO1.srFz q
          rw [← HXQ.out] at cq
          have HO1 : Hid (Own w0 W1 (SR g n cap dk :: l)) := hO1
          clear hO1
          go_quiet (first | (go_at_call 44; refine Calls.quiet_of_same (less_ok _ _ _)))
          go_wp2
          · have hl2 : ltInt xr xp = false := not_t (by assumption)
            refine bodyPost_ret (results_none rfl _ _ _) rfl ?_
            refine ⟨rfl, ?_⟩
            rw [← HE.out, sift_stop1 ltInt hi first rt c p q r dk HC.out HPE.out HQE.out HRE.out hch (.inr (by rw [← HXP.out, ← HXQ.out]; exact hl)) (by rw [← HXR.out, ← HXP.out]; exact hl2)]
            exact HO1.out.drewN _
          · have hl2 : ltInt xr xp = true := not_f (by assumption)
            go_region
            all_goals go_wp2
            go_roundw
            case rel =>
              have hc := HC.out
              refine ⟨c, swp dk r p, by congr 1, by omega, ?_, ?_⟩
              · rw [HXR.out, HXP.out]
                exact (HO1.out.drewN _).srSwp r p (by omega) (by omega)
              · rw [← HE.out, sift_go1 ltInt hi first rt c p q r dk HC.out HPE.out HQE.out HRE.out hch (.inr (by rw [← HXP.out, ← HXQ.out]; exact hl)) (by rw [← HXR.out, ← HXP.out]; exact hl2)]
            case measure => have := HC.out; simp [iOf]; omega
      · have hq2' : ¬ (c : Int) + 1 < (hi : Int) := by omega
        have hqd : decide ((c : Int) + 1 < (hi : Int)) = false := by simp; omega
        clear hO hxp hxr hp hr hc
        go_wp2
        go_quiet (first | (go_at_call 44; refine Calls.quiet_of_same (less_ok _ _ _)))
        go_wp2
        generalize hWg : wr.drewN nq = W1
        have hO1 : Own w0 W1 (SR g n cap dk :: l) := by rw [← hWg]; exact HO.out.drewN nq
        clear hWg cp cr fp fr
        have cp := hO1.srAt p hpn
        have cr := hO1.srAt r hrn2
        have fp := hO1.srFz p
        have fr := hO1.srFz r
        rw [← HXP.out] at cp
        rw [← HXR.out] at cr
        have HO1 : Hid (Own w0 W1 (SR g n cap dk :: l)) := hO1
        clear hO1
        go_quiet (first | (go_at_call 44; refine Calls.quiet_of_same (less_ok _ _ _)))
        go_wp2
        · have hl2 : ltInt xr xp = false := not_t (by assumption)
          refine bodyPost_ret (results_none rfl _ _ _) rfl ?_
          refine ⟨rfl, ?_⟩
          rw [← HE.out, sift_stop1 ltInt hi first rt c p (p + 1) r dk HC.out HPE.out rfl HRE.out hch (.inl hq2) (by rw [← HXR.out, ← HXP.out]; exact hl2)]
          exact HO1.out.drewN _
        · have hl2 : ltInt xr xp = true := not_f (by assumption)
          go_region
          all_goals go_wp2
          go_roundw
          case rel =>
            have hc := HC.out
            refine ⟨c, swp dk r p, by congr 1, by omega, ?_, ?_⟩
            · rw [HXR.out, HXP.out]
              exact (HO1.out.drewN _).srSwp r p (by omega) (by omega)
            · rw [← HE.out, sift_go1 ltInt hi first rt c p (p + 1) r dk HC.out HPE.out rfl HRE.out hch (.inl hq2) (by rw [← HXR.out, ← HXP.out]; exact hl2)]
          case measure => have := HC.out; simp [iOf]; omega
    · have hch' : (hi : Int) ≤ (c : Int) := by omega
      clear hO hc
      go_wp2
      go_end0
      refine ⟨rfl, ?_⟩
      have hc := HC.out
      rw [← HE.out, sift_end ltInt hi first rt dk (by omega)]
      exact HO.out
theorem size_sift (hi first rt : Nat) (d : Array Int) : (siftDown ltInt hi first rt d).size = d.size := by
  fun_induction siftDown ltInt hi first rt d <;> simp_all [size_swp]
set_option maxHeartbeats 8000000 in
theorem heapSort_fn (w0 w : World) (l : List Thing) (g n cap : Nat) (d : Array Int) (a b : Nat) (h : Own w0 w (SR g n cap d :: l)) (hab : a < b) (hb : b ≤ n) (hn : n < 1000000) :
    Calls Tryd.prog 39 #[.slice (some ⟨g, 0, none⟩) n cap, .int .i64 (a : Int), .int .i64 (b : Int)] w fun e w' => e = .returned (.tuple #[]) ∧ Own w0 w' (SR g n cap (heapSort ltInt d a b) :: l) := by
  obtain ⟨hh, hhe⟩ : ∃ hh, hh = b - a := ⟨_, rfl⟩
  have e1 : (b : Int) - (a : Int) = (hh : Int) := by omega
  have e2 : ((hh : Int) - 1).tdiv 2 = (((hh - 1) / 2 : Nat) : Int) := by
    have : (hh : Int) - 1 = ((hh - 1 : Nat) : Int) := by omega
    rw [this]; exact (Int.ofNat_tdiv _ _).symm
  have hhn : hh ≤ n := by omega
  have hh0 : 0 < hh := by omega
  have hah : a + hh ≤ n := by omega
  have HH : Hid (hh = b - a) := hhe
  have H : Hid (Own w0 w (SR g n cap d :: l)) := h
  clear h hhe hab hb
  obtain ⟨t0, ht0⟩ : ∃ t, t = (hh - 1) / 2 := ⟨_, rfl⟩
  rw [← ht0] at e2
  have htn : t0 < n := by omega
  have HT : Hid (t0 = (hh - 1) / 2) := ht0
  clear ht0
  go_enter Tryd.func39, Tryd.ntmps39
  go_wp2
  go_loopw [9] (fun vi wr => ∃ (k : Nat) (dk : Array Int), vi = .int .i64 ((k : Int) - 1) ∧ k ≤ n ∧ Own w0 wr (SR g n cap dk :: l) ∧ heapBuild ltInt hh a k dk = heapBuild ltInt hh a (t0 + 1) d) (fun vi _ => (iOf vi + 1).toNat)
  case atStart => exact ⟨t0 + 1, d, by congr 1; omega, by omega, H.out, rfl⟩
  case round =>
    obtain ⟨k, dk, rfl, hkn, hO, hE⟩ := hrel
    have HO : Hid (Own w0 wr (SR g n cap dk :: l)) := hO
    have HE : Hid (heapBuild ltInt hh a k dk = heapBuild ltInt hh a (t0 + 1) d) := hE
    clear hE H
    cases k with
    | zero =>
      have HD : Hid (dk = heapBuild ltInt hh a (t0 + 1) d) := by show _ = _; rw [← HE.out]; rfl
      have z0 : ((0 : Nat) : Int) - 1 = -1 := by omega
      rw [z0]
      clear hO HE z0
      go_wp2
      go_loopw [10] (fun vi wr => ∃ (k : Nat) (dj : Array Int), vi = .int .i64 ((k : Int) - 1) ∧ k ≤ hh ∧ Own w0 wr (SR g n cap dj :: l) ∧ heapPop ltInt a k dj = heapPop ltInt a hh dk) (fun vi _ => (iOf vi + 1).toNat)
      case atStart => exact ⟨hh, dk, rfl, Nat.le_refl _, HO.out, rfl⟩
      case round =>
        obtain ⟨k, dj, rfl, hkh, hO, hE⟩ := hrel
        have HE : Hid (heapPop ltInt a k dj = heapPop ltInt a hh dk) := hE
        have HO2 : Hid (Own w0 wr (SR g n cap dj :: l)) := hO
        clear hE HO
        cases k with
        | zero =>
          clear hO
          go_wp2
          go_end0
          refine ⟨rfl, ?_⟩
          unfold heapSort
          rw [← HH.out, ← HT.out, ← HD.out, ← HE.out]
          exact HO2.out
        | succ k =>
          rcases Nat.eq_zero_or_pos k with rfl | hk0
          · have z1 : ((0 + 1 : Nat) : Int) - 1 = 0 := by omega
            rw [z1]
            have han : a < n := by omega
            have ca := hO.srAt a han
            have fa := hO.srFz a
            obtain ⟨xa, hxa⟩ : ∃ x, x = dj[a]! := ⟨_, rfl⟩
            rw [← hxa] at ca
            have HXA : Hid (xa = dj[a]!) := hxa
            clear hO hxa z1 hkh
            go_wp2_with fail
            go_region
            all_goals
              generalize hWg : World.drew _ = W1
              have hO1 : Own w0 W1 (SR g n cap (swp dj a a) :: l) := by
                rw [← hWg, HXA.out]
                exact (HO2.out.srSwp a a han han).drew
              have HS : Hid (Calls _ _ _ _ _) := sift_fn w0 W1 l g n cap (swp dj a a) 0 0 a hO1 (by omega) (by omega) hn
              clear hWg hO1 ca fa
              go_wp2_with (go_at_call 49; refine HS.out.mono ?_)
              rintro e W2 ⟨rfl, hO3⟩
              have HO3 : Hid (Own w0 W2 _) := hO3
              clear hO3 HS
              go_wp2
              go_roundw
            case rel =>
              refine ⟨0, _, rfl, by omega, HO3.out, ?_⟩
              rw [← HE.out, heapPop]
              rfl
            case measure => simp [iOf]
          · have z1 : ((k + 1 : Nat) : Int) - 1 = (k : Int) := by omega
            rw [z1]
            obtain ⟨p, hp⟩ : ∃ p, p = a + k := ⟨_, rfl⟩
            have z2 : (a : Int) + (k : Int) = (p : Int) := by omega
            have hpn : p < n := by omega
            have hpa : ¬ p = a := by omega
            have hap : ¬ a = p := by omega
            have han : a < n := by omega
            have HPE : Hid (p = a + k) := hp
            have hkh' : k < hh := by omega
            have cp := hO.srAt p hpn
            have ca := hO.srAt a han
            have fp := hO.srFz p
            have fa := hO.srFz a
            obtain ⟨xp, hxp⟩ : ∃ x, x = dj[p]! := ⟨_, rfl⟩
            obtain ⟨xa, hxa⟩ : ∃ x, x = dj[a]! := ⟨_, rfl⟩
            rw [← hxp] at cp
            rw [← hxa] at ca
            have HXP : Hid (xp = dj[p]!) := hxp
            have HXA : Hid (xa = dj[a]!) := hxa
            clear hO hxp hxa hp z1 hkh
            go_wp2_with fail
            go_region
            all_goals
              generalize hWg : World.drew _ = W1
              have hO1 : Own w0 W1 (SR g n cap (swp dj a p) :: l) := by
                rw [← hWg, HXP.out, HXA.out]
                exact (HO2.out.srSwp a p han hpn).drew
              have HS : Hid (Calls _ _ _ _ _) := sift_fn w0 W1 l g n cap (swp dj a p) 0 k a hO1 (by omega) (by omega) hn
              clear hWg hO1 cp ca fp fa
              go_wp2_with (go_at_call 49; refine HS.out.mono ?_)
              rintro e W2 ⟨rfl, hO3⟩
              have HO3 : Hid (Own w0 W2 _) := hO3
              clear hO3 HS
              go_wp2
              go_roundw
            case rel =>
              refine ⟨k, _, rfl, by omega, HO3.out, ?_⟩
              rw [← HE.out, heapPop, HPE.out]
            case measure => simp [iOf]
    | succ k =>
      have z1 : ((k + 1 : Nat) : Int) - 1 = (k : Int) := by omega
      rw [z1]
      have HS : Hid (Calls _ _ _ _ _) := sift_fn w0 wr l g n cap dk k hh a hO (by omega) (by omega) hn
      clear hO z1
      have hkn' : k < n := by omega
      clear hkn
      go_wp2_with (go_at_call 49; refine HS.out.mono ?_)
      rintro e W2 ⟨rfl, hO3⟩
      have HO3 : Hid (Own w0 W2 _) := hO3
      clear hO3 HS
      go_wp2
      go_roundw
      case rel =>
        refine ⟨k, _, rfl, by omega, HO3.out, ?_⟩
        rw [← HE.out, heapBuild]
      case measure => simp [iOf]
end Go.Proofs.YthokgjkgfolojabDoor
