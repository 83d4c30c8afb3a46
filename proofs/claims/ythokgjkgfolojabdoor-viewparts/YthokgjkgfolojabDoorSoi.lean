/-
  Sorting IDs: patterns broken.
-/
import Derived.Test.YthokgjkgfolojabDoorSoh
import Derived.OpenShut
import Derived.Laws.BitsAllLaws
namespace Go.Proofs.YthokgjkgfolojabDoor
open Go.RowKit Go.Sort
set_option linter.unusedVariables false
set_option maxRecDepth 100000

theorem shl_pow (v : Nat) (hv : v ≤ 8) : ∃ m : Nat, m = 2 ^ v ∧ m ≤ 256 ∧ 0 < m := by
  refine ⟨_, rfl, ?_, Nat.pow_pos (by decide)⟩
  have := Nat.pow_le_pow_right (show 0 < 2 by decide) hv
  simpa using this
theorem pow_wrap : ∀ v : Nat, v ≤ 8 → IntKind.u64.wrap ((2 : Int) ^ v) = ((2 ^ v : Nat) : Int) := by decide
set_option maxHeartbeats 4000000 in
theorem npow_ok (w : World) (x : Nat) (hx : x < 256) (hx0 : 0 < x) : Calls Tryd.prog 50 #[.int .i64 (x : Int)] w fun e w' => ∃ m : Nat, e = .returned (.int .u64 (m : Int)) ∧ w' = w ∧ 0 < m ∧ m ≤ 2 * x := by
  have H : Hid (Calls _ _ _ _ _) := blen_ok w x hx
  go_enter Tryd.func50, Tryd.ntmps50
  go_wp2_with fail
  refine H.out.mono ?_
  rintro e w' ⟨v, rfl, rfl, hv, hp⟩
  obtain ⟨m, hm, hm2, hm0⟩ := shl_pow v hv
  have hp2 := hp hx0
  rw [← hm] at hp2
  have hw : IntKind.u64.wrap ((2 : Int) ^ v) = (m : Int) := by rw [pow_wrap v hv, hm]
  clear hp H hm
  go_wp2
  go_ret
  exact ⟨m, rfl, rfl, hm0, hp2⟩
theorem xor_nat (x y : Int) : ∃ v : Nat, bits .xor .u64 x y = (v : Int) ∧ v < 18446744073709551616 := by
  have h := wf_bits .xor .u64 x y
  generalize bits BinOp.xor IntKind.u64 x y = z at h
  have h2 : 0 ≤ z ∧ z ≤ 18446744073709551615 := by simpa [Lit.wf, IntKind.min, IntKind.max, IntKind.signed, IntKind.bits] using h
  exact ⟨z.toNat, by omega, by omega⟩
set_option maxHeartbeats 4000000 in
theorem next_ok (w0 w : World) (l : List Thing) (R r : Nat) (h : Own w0 w (Cells R #[.int .u64 (r : Int)] 101 :: l)) : Calls Tryd.prog 51 #[.pointer (some ⟨R, 0, none⟩)] w fun e w' => ∃ v : Nat, e = .returned (.int .u64 (v : Int)) ∧ v < 18446744073709551616 ∧ Own w0 w' (Cells R #[.int .u64 (v : Int)] 101 :: l) := by
  have q0 := h.cell 0
  have z0 := h.froz 0
  simp at q0
  have H : Hid (Own w0 w _) := h
  clear h
  go_enter Tryd.func51, Tryd.ntmps51
  go_wp2_with fail
  go_region
  obtain ⟨v1, hv1, hb1⟩ := xor_nat (r : Int) (IntKind.u64.wrap ((r : Int) * 8192))
  rw [hv1]
  generalize hWg : World.drew _ = W1
  have hO1 : Own w0 W1 (Cells R #[.int .u64 (v1 : Int)] 101 :: l) := by rw [← hWg]; exact (H.out.setC 0 (.int .u64 (v1 : Int))).drew
  have q1 := hO1.cell 0
  have z1 := hO1.froz 0
  simp at q1
  have H1 : Hid (Own w0 W1 _) := hO1
  clear hO1 hWg hb1 hv1 q0 z0 H
  go_wp2_with fail
  go_region
  generalize hxx : bits BinOp.xor IntKind.u64 _ _ = X2
  have hx2 : ∃ v : Nat, X2 = (v : Int) ∧ v < 18446744073709551616 := by rw [← hxx]; exact xor_nat _ _
  clear hxx
  obtain ⟨v2, rfl, hb2⟩ := hx2
  generalize hWg : World.drew _ = W2
  have hO2 : Own w0 W2 (Cells R #[.int .u64 (v2 : Int)] 101 :: l) := by rw [← hWg]; exact (H1.out.setC 0 (.int .u64 (v2 : Int))).drew
  have q2 := hO2.cell 0
  have z2 := hO2.froz 0
  simp at q2
  have H2 : Hid (Own w0 W2 _) := hO2
  clear hO2 hWg hb2 q1 z1 H1
  go_wp2_with fail
  go_region
  generalize hxx : bits BinOp.xor IntKind.u64 _ _ = X3
  have hx3 : ∃ v : Nat, X3 = (v : Int) ∧ v < 18446744073709551616 := by rw [← hxx]; exact xor_nat _ _
  clear hxx
  obtain ⟨v3, rfl, hb3⟩ := hx3
  generalize hWg : World.drew _ = W3
  have hO3 : Own w0 W3 (Cells R #[.int .u64 (v3 : Int)] 101 :: l) := by rw [← hWg]; exact (H2.out.setC 0 (.int .u64 (v3 : Int))).drew
  have q3 := hO3.cell 0
  simp at q3
  have H3 : Hid (Own w0 W3 _) := hO3
  have HB3 : Hid (v3 < 18446744073709551616) := hb3
  clear hO3 hWg hb3 q2 z2 H2
  go_wp2
  go_ret
  exact ⟨v3, rfl, HB3.out, H3.out⟩
set_option maxHeartbeats 8000000 in
theorem break_ok (w0 w : World) (l : List Thing) (g n cap : Nat) (d : Array Int) (a b : Nat) (h : Own w0 w (SR g n cap d :: l)) (hab : a + 8 ≤ b) (hb : b ≤ n) (hn : n < 256) :
    Calls Tryd.prog 40 #[.slice (some ⟨g, 0, none⟩) n cap, .int .i64 (a : Int), .int .i64 (b : Int)] w fun e w' => e = .returned (.tuple #[]) ∧ ∃ d', PermIn a b d d' ∧ Own w0 w' (SR g n cap d' :: l) := by
  obtain ⟨L, hL⟩ : ∃ L, L = b - a := ⟨_, rfl⟩
  obtain ⟨q, hq⟩ : ∃ q, q = a + L / 4 * 2 := ⟨_, rfl⟩
  obtain ⟨t, ht⟩ : ∃ t, t = L / 4 := ⟨_, rfl⟩
  have e1 : (b : Int) - (a : Int) = (L : Int) := by omega
  have e2 : (L : Int).tdiv 4 = (t : Int) := by rw [ht]; exact (Int.ofNat_tdiv _ _).symm
  have e3 : (a : Int) + (t : Int) * 2 = (q : Int) := by omega
  have hL8 : (8 : Int) ≤ (L : Int) := by omega
  have hL8n : ¬ (L : Int) < 8 := by omega
  have hq1 : a + 2 ≤ q ∧ q + 2 ≤ b := by omega
  have hLn : L ≤ n ∧ t ≤ n ∧ q ≤ n ∧ a + L ≤ b := by omega
  have e4 : IntKind.u64.wrap (L : Int) = (L : Int) := by simp [IntKind.wrap, IntKind.signed, IntKind.bits]; omega
  have HQ : Hid (a + 2 ≤ q ∧ q + 2 ≤ b) := hq1
  have HL : Hid (L ≤ n ∧ t ≤ n ∧ q ≤ n ∧ a + L ≤ b) := hLn
  have H : Hid (Own w0 (w.alloc (.cells #[.int .u64 (L : Int)] 101)) (Cells w.heap.size #[.int .u64 (L : Int)] 101 :: SR g n cap d :: l)) := h.allocC _ _
  have HN : Hid (Calls _ _ _ _ _) := npow_ok (w.alloc (.cells #[.int .u64 (L : Int)] 101)) L (by omega) (by omega)
  have hLs : L < 256 := by omega
  have hts : t < 256 := by omega
  have hqs : q < 256 := by omega
  have has : a < 256 := by omega
  clear h hL hq ht hq1 hLn
  go_enter Tryd.func40, Tryd.ntmps40
  go_wp2_with fail
  refine HN.out.mono ?_
  rintro e W0 ⟨m, rfl, hW0, hm0, hm2⟩
  have hO0 : Own w0 W0 (Cells w.heap.size #[.int .u64 (L : Int)] 101 :: SR g n cap d :: l) := by rw [hW0]; exact H.out
  have HO0 : Hid (Own w0 W0 _) := hO0
  obtain ⟨m1, hm1⟩ : ∃ m1, m = m1 + 1 := ⟨m - 1, by omega⟩
  have e5 : (m : Int) - 1 = (m1 : Int) := by omega
  have hm1s : m1 < 512 := by omega
  have hm1L : m1 < 2 * L := by omega
  generalize w.heap.size = R at *
  clear hW0 hO0 H HN hm1 hm0 hm2
  go_wp2
  go_loopw [9] (fun vi wr => ∃ (k r : Nat) (dk : Array Int), vi = .int .i64 (k : Int) ∧ q ≤ k + 1 ∧ k ≤ q + 2 ∧ PermIn a b d dk ∧ Own w0 wr (Cells R #[.int .u64 (r : Int)] 101 :: SR g n cap dk :: l)) (fun vi _ => q + 2 - (iOf vi).toNat)
  case atStart =>
    have hq := HQ.out
    exact ⟨q - 1, L, d, by congr 1; omega, by omega, by omega, permIn_refl d a b, HO0.out⟩
  case round =>
    obtain ⟨k, r, dk, rfl, hk1, hk2, hP, hO⟩ := hrel
    have HP : Hid (PermIn a b d dk) := hP
    clear hP HO0
    by_cases hk : k ≤ q + 1
    · have hk' : (k : Int) ≤ (q : Int) + 1 := by omega
      have HX : Hid (Calls _ _ _ _ _) := next_ok w0 wr _ R r hO
      clear hO
      go_wp2_with fail
      refine HX.out.mono ?_
      rintro e W1 ⟨v, rfl, hv, hO1⟩
      obtain ⟨o, ho⟩ : ∃ o, o = v &&& m1 := ⟨_, rfl⟩
      have hand : bits .and .u64 (v : Int) (m1 : Int) = (o : Int) := by rw [u64_and_nat v m1 hv (by omega), ho]
      have hom : o ≤ m1 := by rw [ho]; exact Nat.and_le_right
      have hos : o < 512 := by omega
      have hkn : k < n := by have := HQ.out; omega
      have HO1 : Hid (Own w0 W1 _) := hO1
      obtain ⟨p, hp⟩ : ∃ p : Nat, p = (if L ≤ o then o - L else o) := ⟨_, rfl⟩
      have hpL : p < L := by rw [hp]; split <;> omega
      obtain ⟨u, hu⟩ : ∃ u, u = a + p := ⟨_, rfl⟩
      have hun : u < n := by have := HL.out; omega
      have e7 : (a : Int) + (p : Int) = (u : Int) := by omega
      have FIN : Hid (∀ W, Own w0 W (SR g n cap (swp dk k u) :: Cells R #[.int .u64 (v : Int)] 101 :: l) → ∃ (k' r' : Nat) (dk' : Array Int), Value.int .i64 ((k : Int) + 1) = .int .i64 (k' : Int) ∧ q ≤ k' + 1 ∧ k' ≤ q + 2 ∧ PermIn a b d dk' ∧ Own w0 W (Cells R #[.int .u64 (r' : Int)] 101 :: SR g n cap dk' :: l)) := by
        intro W hW
        have hsz := hO1.two.srSize
        have hq := HQ.out
        have hl := HL.out
        exact ⟨k + 1, v, swp dk k u, by go_num, by omega, by omega, permIn_trans _ _ _ _ _ HP.out (swp_permIn dk a b k u (by omega) (by omega) (by omega) (by omega) (by omega)), hW.two⟩
      have ck := hO1.two.srAt k hkn
      have fk := hO1.two.srFz k
      have cu := hO1.two.srAt u hun
      have fu := hO1.two.srFz u
      obtain ⟨xk, hxk⟩ : ∃ x, x = dk[k]! := ⟨_, rfl⟩
      obtain ⟨xu, hxu⟩ : ∃ x, x = dk[u]! := ⟨_, rfl⟩
      rw [← hxk] at ck
      rw [← hxu] at cu
      have HXK : Hid (xk = dk[k]!) := hxk
      have HXU : Hid (xu = dk[u]!) := hxu
      clear hO1 HX hv ho hxk hxu hu
      have HPE : Hid (p = (if L ≤ o then o - L else o)) := hp
      by_cases hoL : L ≤ o
      · have hoL' : (L : Int) ≤ (o : Int) := by omega
        rw [if_pos hoL] at hp
        have e6 : (o : Int) - (L : Int) = (p : Int) := by omega
        clear hp HPE
        by_cases hku : k = u
        · have HKU : Hid (k = u) := hku
          subst hku
          clear cu fu
          go_wp2
          go_region
          all_goals go_wp2
          go_roundw
          case rel =>
            refine FIN.out _ ?_
            have := (HO1.out.two.srSwp k k hkn hkn).drew
            rw [HXK.out]
            exact this
          case measure => simp [iOf]; omega
        · have hku' : ¬ u = k := fun q => hku q.symm
          go_wp2
          go_region
          all_goals go_wp2
          go_roundw
          case rel =>
            refine FIN.out _ ?_
            have := (HO1.out.two.srSwp k u hkn hun).drew
            rw [HXK.out, HXU.out]
            exact this
          case measure => simp [iOf]; omega
      · have hoL' : ¬ (L : Int) ≤ (o : Int) := by omega
        rw [if_neg hoL] at hp
        subst hp
        clear HPE
        by_cases hku : k = u
        · have HKU : Hid (k = u) := hku
          subst hku
          clear cu fu
          go_wp2
          go_region
          all_goals go_wp2
          go_roundw
          case rel =>
            refine FIN.out _ ?_
            have := (HO1.out.two.srSwp k k hkn hkn).drew
            rw [HXK.out]
            exact this
          case measure => simp [iOf]; omega
        · have hku' : ¬ u = k := fun q => hku q.symm
          go_wp2
          go_region
          all_goals go_wp2
          go_roundw
          case rel =>
            refine FIN.out _ ?_
            have := (HO1.out.two.srSwp k u hkn hun).drew
            rw [HXK.out, HXU.out]
            exact this
          case measure => simp [iOf]; omega
    · have hk' : ¬ (k : Int) ≤ (q : Int) + 1 := by omega
      have hk'd : decide ((k : Int) ≤ (q : Int) + 1) = false := by simp; omega
      have HO2 : Hid (Own w0 wr _) := hO
      clear hO
      go_wp2
      go_end0
      exact ⟨rfl, dk, HP.out, HO2.out.tail⟩
end Go.Proofs.YthokgjkgfolojabDoor
