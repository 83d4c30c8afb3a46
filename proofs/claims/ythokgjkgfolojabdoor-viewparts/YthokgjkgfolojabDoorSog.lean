/-
  Sorting IDs: where a pivot stands.
-/
import Derived.Test.YthokgjkgfolojabDoorSoc
namespace Go.Proofs.YthokgjkgfolojabDoor
open Go.RowKit Go.Sort
set_option linter.unusedVariables false
set_option maxRecDepth 100000

/-- a number in a box -/
abbrev Cnt (B s : Nat) : Thing := Cells B #[.int .i64 (s : Int)] 3
set_option maxHeartbeats 4000000 in
theorem order2_ok (w0 w : World) (l : List Thing) (g n cap B s : Nat) (d : Array Int) (a b : Nat) (h : Own w0 w (SR g n cap d :: Cnt B s :: l)) (ha : a < n) (hb : b < n) (hn : n < 1000000) (hs : s ≤ 1000) :
    Calls Tryd.prog 55 #[.slice (some ⟨g, 0, none⟩) n cap, .int .i64 (a : Int), .int .i64 (b : Int), .pointer (some ⟨B, 0, none⟩)] w fun e w' => ∃ x y t : Nat, e = .returned (.tuple #[.int .i64 (x : Int), .int .i64 (y : Int)]) ∧ ((x = a ∧ y = b) ∨ (x = b ∧ y = a)) ∧ t ≤ s + 1 ∧ Own w0 w' (SR g n cap d :: Cnt B t :: l) := by
  have ca := h.srAt a ha
  have cb := h.srAt b hb
  generalize d[a]! = xa at ca
  generalize d[b]! = xb at cb
  have H : Hid (Own w0 w (SR g n cap d :: Cnt B s :: l)) := h
  clear h
  go_enter Tryd.func55, Tryd.ntmps55
  go_wp2
  go_quiet (first | (go_at_call 44; refine Calls.quiet_of_same (less_ok _ _ _)))
  generalize hWg : w.drewN nq = W1
  have hO1 : Own w0 W1 (SR g n cap d :: Cnt B s :: l) := by rw [← hWg]; exact H.out.drewN nq
  have HO1 : Hid (Own w0 W1 (SR g n cap d :: Cnt B s :: l)) := hO1
  have q0 := hO1.two.cell 0
  have z0 := hO1.two.froz 0
  simp at q0
  clear hWg hO1 ca cb H
  go_wp2
  · go_ret2
    refine ⟨b, a, s + 1, rfl, .inr ⟨rfl, rfl⟩, Nat.le_refl _, ?_⟩
    have h2 := (HO1.out.two.setC 0 (.int .i64 ((s : Int) + 1))).two
    exact h2
  · go_ret2
    exact ⟨a, b, s, rfl, .inl ⟨rfl, rfl⟩, by omega, HO1.out⟩
set_option maxHeartbeats 4000000 in
theorem median_ok (w0 w : World) (l : List Thing) (g n cap B s : Nat) (d : Array Int) (a b c : Nat) (h : Own w0 w (SR g n cap d :: Cnt B s :: l)) (ha : a < n) (hb : b < n) (hc : c < n) (hn : n < 1000000) (hs : s ≤ 900) :
    Calls Tryd.prog 53 #[.slice (some ⟨g, 0, none⟩) n cap, .int .i64 (a : Int), .int .i64 (b : Int), .int .i64 (c : Int), .pointer (some ⟨B, 0, none⟩)] w fun e w' => ∃ x t : Nat, e = .returned (.int .i64 (x : Int)) ∧ (x = a ∨ x = b ∨ x = c) ∧ t ≤ s + 3 ∧ Own w0 w' (SR g n cap d :: Cnt B t :: l) := by
  have H1 : Hid (Calls _ _ _ _ _) := order2_ok w0 w l g n cap B s d a b h ha hb hn (by omega)
  clear h
  go_enter Tryd.func53, Tryd.ntmps53
  go_wp2_with fail
  refine H1.out.mono ?_
  rintro e W1 ⟨x1, y1, t1, rfl, hx1, ht1, hO1⟩
  have hx1' : x1 < n ∧ y1 < n := by rcases hx1 with ⟨rfl, rfl⟩ | ⟨rfl, rfl⟩ <;> exact ⟨by omega, by omega⟩
  have H2 : Hid (Calls _ _ _ _ _) := order2_ok w0 W1 l g n cap B t1 d y1 c hO1 hx1'.2 hc hn (by omega)
  have HX1 : Hid ((x1 = a ∧ y1 = b) ∨ (x1 = b ∧ y1 = a)) := hx1
  clear hO1 H1 hx1
  go_wp2_with fail
  refine H2.out.mono ?_
  rintro e W2 ⟨x2, y2, t2, rfl, hx2, ht2, hO2⟩
  have hx2' : x2 < n ∧ y2 < n := by rcases hx2 with ⟨rfl, rfl⟩ | ⟨rfl, rfl⟩ <;> exact ⟨by omega, by omega⟩
  have H3 : Hid (Calls _ _ _ _ _) := order2_ok w0 W2 l g n cap B t2 d x1 x2 hO2 hx1'.1 hx2'.1 hn (by omega)
  have HX2 : Hid ((x2 = y1 ∧ y2 = c) ∨ (x2 = c ∧ y2 = y1)) := hx2
  clear hO2 H2 hx2
  go_wp2_with fail
  refine H3.out.mono ?_
  rintro e W3 ⟨x3, y3, t3, rfl, hx3, ht3, hO3⟩
  have HX3 : Hid ((x3 = x1 ∧ y3 = x2) ∨ (x3 = x2 ∧ y3 = x1)) := hx3
  have HO3 : Hid (Own w0 W3 _) := hO3
  clear hO3 H3 hx3
  go_wp2
  go_ret
  refine ⟨y3, t3, rfl, ?_, by omega, HO3.out⟩
  have h1 := HX1.out
  have h2 := HX2.out
  have h3 := HX3.out
  omega
set_option maxHeartbeats 4000000 in
theorem medAdj_ok (w0 w : World) (l : List Thing) (g n cap B s : Nat) (d : Array Int) (a : Nat) (h : Own w0 w (SR g n cap d :: Cnt B s :: l)) (ha : 0 < a) (hb : a + 1 < n) (hn : n < 1000000) (hs : s ≤ 900) :
    Calls Tryd.prog 52 #[.slice (some ⟨g, 0, none⟩) n cap, .int .i64 (a : Int), .pointer (some ⟨B, 0, none⟩)] w fun e w' => ∃ x t : Nat, e = .returned (.int .i64 (x : Int)) ∧ (a ≤ x + 1 ∧ x ≤ a + 1) ∧ t ≤ s + 3 ∧ Own w0 w' (SR g n cap d :: Cnt B t :: l) := by
  obtain ⟨k, hk⟩ : ∃ k, a = k + 1 := ⟨a - 1, by omega⟩
  have e1 : (a : Int) - 1 = (k : Int) := by omega
  have H1 : Hid (Calls _ _ _ _ _) := median_ok w0 w l g n cap B s d k a (a + 1) h (by omega) (by omega) hb hn hs
  have HK : Hid (a = k + 1) := hk
  clear h hk
  go_enter Tryd.func52, Tryd.ntmps52
  go_wp2_with fail
  refine H1.out.mono ?_
  rintro e W1 ⟨x1, t1, rfl, hx1, ht1, hO1⟩
  have HX1 : Hid (x1 = k ∨ x1 = a ∨ x1 = a + 1) := hx1
  have HO1 : Hid (Own w0 W1 _) := hO1
  clear hO1 hx1 H1
  go_wp2
  go_ret
  refine ⟨x1, t1, rfl, ?_, ht1, HO1.out⟩
  have h1 := HX1.out
  have h2 := HK.out
  omega
set_option maxHeartbeats 8000000 in
theorem choose_ok (w0 w : World) (l : List Thing) (g n cap : Nat) (d : Array Int) (a b : Nat) (h : Own w0 w (SR g n cap d :: l)) (hab : a + 8 ≤ b) (hb : b ≤ n) (hn : n < 1000000) :
    Calls Tryd.prog 41 #[.slice (some ⟨g, 0, none⟩) n cap, .int .i64 (a : Int), .int .i64 (b : Int)] w fun e w' => ∃ (x : Nat) (t : Int), e = .returned (.tuple #[.int .i64 (x : Int), .int .i64 t]) ∧ a ≤ x ∧ x < b ∧ (t = 0 ∨ t = 1 ∨ t = 2) ∧ Own w0 w' (SR g n cap d :: l) := by
  obtain ⟨L, hL⟩ : ∃ L, L = b - a := ⟨_, rfl⟩
  obtain ⟨q, hq⟩ : ∃ q, q = L / 4 := ⟨_, rfl⟩
  have e1 : (b : Int) - (a : Int) = (L : Int) := by omega
  have e2 : (L : Int).tdiv 4 = (q : Int) := by rw [hq]; exact (Int.ofNat_tdiv _ _).symm
  obtain ⟨i, hi⟩ : ∃ i, i = a + q := ⟨_, rfl⟩
  obtain ⟨j, hj⟩ : ∃ j, j = a + q * 2 := ⟨_, rfl⟩
  obtain ⟨k, hk⟩ : ∃ k, k = a + q * 3 := ⟨_, rfl⟩
  have e3 : (a : Int) + (q : Int) = (i : Int) := by omega
  have e4 : (a : Int) + (q : Int) * 2 = (j : Int) := by omega
  have e5 : (a : Int) + (q : Int) * 3 = (k : Int) := by omega
  have hL8 : ¬ (L : Int) < 8 := by omega
  have hL8' : (8 : Int) ≤ (L : Int) := by omega
  have b1 : a < i ∧ i + 1 < b ∧ a < j ∧ j + 1 < b ∧ a < k ∧ k + 1 < b := by omega
  have b2 : i < n ∧ j < n ∧ k < n ∧ q < n ∧ L ≤ n := by omega
  have H : Hid (Own w0 (w.alloc (.cells #[.int .i64 ((0 : Nat) : Int)] 3)) (SR g n cap d :: Cnt w.heap.size 0 :: l)) := (h.allocC _ _).two
  have HB : Hid (a < i ∧ i + 1 < b ∧ a < j ∧ j + 1 < b ∧ a < k ∧ k + 1 < b) := b1
  obtain ⟨b2a, b2b, b2c, b2d, b2e⟩ := b2
  clear h hL hq hi hj hk b1
  have HG : Hid (∀ (W : World) (B s p1 p2 p3 : Nat), Own w0 W (SR g n cap d :: Cnt B s :: l) → s ≤ 900 → a ≤ p1 → p1 < b → a ≤ p2 → p2 < b → a ≤ p3 → p3 < b → Calls Tryd.prog 53 #[.slice (some ⟨g, 0, none⟩) n cap, .int .i64 (p1 : Int), .int .i64 (p2 : Int), .int .i64 (p3 : Int), .pointer (some ⟨B, 0, none⟩)] W fun e w' => ∃ x t : Nat, e = .returned (.int .i64 (x : Int)) ∧ (a ≤ x ∧ x < b) ∧ t ≤ s + 3 ∧ Own w0 w' (SR g n cap d :: Cnt B t :: l)) := by
    intro W B s p1 p2 p3 hO hs h1 h2 h3 h4 h5 h6
    refine (median_ok w0 W l g n cap B s d p1 p2 p3 hO (by omega) (by omega) (by omega) hn hs).mono ?_
    rintro e w' ⟨x, t, rfl, hx, ht, hO'⟩
    exact ⟨x, t, rfl, by omega, ht, hO'⟩
  go_enter Tryd.func41, Tryd.ntmps41
  by_cases hL50 : 50 ≤ L
  · have hL50' : (50 : Int) ≤ (L : Int) := by omega
    have hL50n : ¬ (L : Int) < 50 := by omega
    obtain ⟨b1a, b1b, b1c, b1d, b1e, b1f⟩ := HB.out
    have H1 : Hid (Calls _ _ _ _ _) := medAdj_ok w0 _ l g n cap _ 0 d i H.out (by omega) (by omega) hn (by omega)
    clear H HB
    go_wp2_with fail
    refine H1.out.mono ?_
    rintro e W1 ⟨x1, t1, rfl, hx1, ht1, hO1⟩
    have H2 : Hid (Calls _ _ _ _ _) := medAdj_ok w0 _ l g n cap _ t1 d j hO1 (by omega) (by omega) hn (by omega)
    clear hO1 H1
    go_wp2_with fail
    refine H2.out.mono ?_
    rintro e W2 ⟨x2, t2, rfl, hx2, ht2, hO2⟩
    have H3 : Hid (Calls _ _ _ _ _) := medAdj_ok w0 _ l g n cap _ t2 d k hO2 (by omega) (by omega) hn (by omega)
    clear hO2 H2
    go_wp2_with fail
    refine H3.out.mono ?_
    rintro e W3 ⟨x3, t3, rfl, hx3, ht3, hO3⟩
    have H4 : Hid (Calls _ _ _ _ _) := HG.out _ _ t3 x1 x2 x3 hO3 (by omega) (by omega) (by omega) (by omega) (by omega) (by omega) (by omega)
    clear hO3 H3
    go_wp2_with fail
    refine H4.out.mono ?_
    rintro e W4 ⟨x4, t4, rfl, ⟨hx4a, hx4b⟩, ht4, hO4⟩
    have q0 := hO4.two.cell 0
    simp at q0
    have HO4 : Hid (Own w0 W4 (SR g n cap d :: l)) := hO4.two.tail
    clear hO4 H4
    go_wp2
    · go_ret2
      exact ⟨x4, _, rfl, hx4a, hx4b, by omega, HO4.out⟩
    · go_ret2
      exact ⟨x4, _, rfl, hx4a, hx4b, by omega, HO4.out⟩
    · go_ret2
      exact ⟨x4, _, rfl, hx4a, hx4b, by omega, HO4.out⟩
  · have hL50' : ¬ (50 : Int) ≤ (L : Int) := by omega
    obtain ⟨b1a, b1b, b1c, b1d, b1e, b1f⟩ := HB.out
    have H4 : Hid (Calls _ _ _ _ _) := HG.out _ _ 0 i j k H.out (by omega) (by omega) (by omega) (by omega) (by omega) (by omega) (by omega)
    clear H HB
    go_wp2_with fail
    refine H4.out.mono ?_
    rintro e W4 ⟨x4, t4, rfl, ⟨hx4a, hx4b⟩, ht4, hO4⟩
    have q0 := hO4.two.cell 0
    simp at q0
    have HO4 : Hid (Own w0 W4 (SR g n cap d :: l)) := hO4.two.tail
    clear hO4 H4
    go_wp2
    · go_ret2
      exact ⟨x4, _, rfl, hx4a, hx4b, by omega, HO4.out⟩
    · go_ret2
      exact ⟨x4, _, rfl, hx4a, hx4b, by omega, HO4.out⟩
end Go.Proofs.YthokgjkgfolojabDoor
