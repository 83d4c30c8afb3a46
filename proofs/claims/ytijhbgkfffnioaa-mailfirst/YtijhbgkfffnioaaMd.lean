/-
  The document's boxes; Same of two lists; the document's example of boxes.
-/
import Derived.Test.YtijhbgkfffnioaaMc
namespace Go.Proofs.Ytijhbgkfffnioaa
open Go.RowKit Go.Conc
set_option linter.unusedVariables false

/-- a slice that can be read: these numbers -/
def NumsI (w : World) (v : Value) (X : List Int) : Prop := ∃ ao cap, v = .slice ao X.length cap ∧ (X = [] ∨ ∃ g o, ao = some ⟨g, o, none⟩ ∧ ∀ (j : Nat) x, X[j]? = some x → w.cell? ⟨g, o + j, none⟩ = some (.int .i64 x))
theorem Own.numsI {w0 w : World} {l : List Thing} {e : TypeId} {v : Value} {X : List Int} (h : Own w0 w (Row e 1 v X.length (lrow X) :: l)) : NumsI w v X := by
  have r := h.row
  obtain ⟨ao, cap, rfl⟩ := row_any r
  refine ⟨ao, cap, rfl, ?_⟩
  by_cases h0 : X.length = 0
  · exact .inl (List.eq_nil_of_length_eq_zero h0)
  · right
    obtain ⟨g, c, he, _⟩ := row_shape r (by omega)
    cases he
    refine ⟨g, 0, rfl, fun j x hx => ?_⟩
    have hj := (List.getElem?_eq_some_iff.1 hx).1
    rw [Nat.zero_add, r.cellAt _ (by omega), getElem?_lrow, hx]; rfl
theorem Own.vnumsI {w0 w : World} {l : List Thing} {v : Value} {X : List Int} (h : Own w0 w (View 1 v X.length (lrow X) :: l)) : NumsI w v X := by
  by_cases h0 : X.length = 0
  · obtain ⟨ao, cap, rfl, _⟩ := h.vshape
    exact ⟨ao, cap, rfl, .inl (List.eq_nil_of_length_eq_zero h0)⟩
  · obtain ⟨g, o, cap, rfl, _, _, hc⟩ := h.vcell (by omega)
    exact ⟨_, cap, rfl, .inr ⟨g, o, rfl, fun j x hx => hc j _ (by rw [getElem?_lrow, hx]; rfl)⟩⟩
set_option maxHeartbeats 1000000 in
set_option maxRecDepth 100000 in
theorem same_I (w : World) (v1 v2 : Value) (X : List Int) (h1 : NumsI w v1 X) (h2 : NumsI w v2 X) (hX : X.length ≤ 100000000) :
    Calls Try.prog 20 #[v1, v2] w fun e w' => e = .returned (.bool true) ∧ Fr Nobody w w' := by
  obtain ⟨a1, c1, rfl, h1⟩ := h1
  obtain ⟨a2, c2, rfl, h2⟩ := h2
  obtain ⟨n, hn⟩ : ∃ n, n = X.length := ⟨_, rfl⟩
  rw [← hn] at hX ⊢
  have HN : Hid (n = X.length) := hn
  have H1 : Hid (X = [] ∨ ∃ g o, a1 = some ⟨g, o, none⟩ ∧ ∀ (j : Nat) x, X[j]? = some x → w.cell? ⟨g, o + j, none⟩ = some (.int .i64 x)) := h1
  have H2 : Hid (X = [] ∨ ∃ g o, a2 = some ⟨g, o, none⟩ ∧ ∀ (j : Nat) x, X[j]? = some x → w.cell? ⟨g, o + j, none⟩ = some (.int .i64 x)) := h2
  clear h1 h2 hn
  have hne : ((n : Int) != (n : Int)) = false := by simp
  go_enter Try.func20, Try.ntmps20
  go_wp2
  clear hne
  go_loopw [13] (fun cc wr => ∃ k : Nat, k ≤ n ∧ cc = .int .i64 k ∧ Fr Nobody w wr) (fun cc _ => n - (intOf cc).toNat)
  case atStart => exact ⟨0, Nat.zero_le _, rfl, Fr.refl _ _⟩
  case round =>
    obtain ⟨k, hk, rfl, hf⟩ := hrel
    have HF : Hid (Fr Nobody w wr) := hf
    clear hf
    by_cases hlt : k < n
    · obtain ⟨x, hx⟩ : ∃ x, X[k]? = some x := ⟨_, List.getElem?_eq_getElem (by rw [← HN.out]; exact hlt)⟩
      obtain ⟨g1, o1, rfl, d1⟩ : ∃ g o, a1 = some ⟨g, o, none⟩ ∧ wr.cell? ⟨g, o + k, none⟩ = some (.int .i64 x) := by
        rcases H1.out with h | ⟨g, o, ha, hc⟩
        · rw [h] at hx; simp at hx
        · have h1 := hc k x hx
          exact ⟨g, o, ha, (HF.out.cell (p := ⟨g, o + k, none⟩) (World.block_lt_of_cell? w _ h1) id).trans h1⟩
      obtain ⟨g2, o2, rfl, d2⟩ : ∃ g o, a2 = some ⟨g, o, none⟩ ∧ wr.cell? ⟨g, o + k, none⟩ = some (.int .i64 x) := by
        rcases H2.out with h | ⟨g, o, ha, hc⟩
        · rw [h] at hx; simp at hx
        · have h1 := hc k x hx
          exact ⟨g, o, ha, (HF.out.cell (p := ⟨g, o + k, none⟩) (World.block_lt_of_cell? w _ h1) id).trans h1⟩
      clear hx
      have hxx : (x != x) = false := by simp
      go_wp2
      go_quiet (fail)
      go_wp2
      go_roundw
      case rel => exact ⟨k + 1, by omega, by go_num, HF.out.drewN _⟩
      case measure => simp [intOf]; omega
    · go_wp2
      go_ret
      exact ⟨rfl, HF.out⟩

/-- the document's box at block c -/
def RBx (c n : Nat) (L : List Int) : Thing := Ex (fun v : Value => [Cells c #[.int .i64 (n : Int), v] 56, View 1 v L.length (lrow L)])
set_option maxHeartbeats 400000 in
theorem rbnew (w0 w : World) (l : List Thing) (k : Nat) (h : Own w0 w l) (h1 : 1 ≤ k) (h2 : k ≤ 256) :
    Calls Try.prog 16 #[.int .i64 (k : Int)] w fun e w' => ∃ c, e = .returned (.tuple #[.pointer (some ⟨c, 0, none⟩), .int .i64 0]) ∧ Own w0 w' (RBx c k [] :: l) := by
  have H : Hid (Own w0 w l) := h
  clear h
  go_enter Try.func16, Try.ntmps16
  go_wp2
  go_ret2
  refine ⟨_, rfl, Own.ex_iff.2 ⟨.slice none 0 0, ?_⟩⟩
  exact (((H.out.allocC #[.int .i64 (k : Int), .slice none 0 0] 56).nilRow 2 1).view (by decide)).two
set_option maxHeartbeats 400000 in
theorem rbnew_no (w : World) (k : Int) (h : k < 1 ∨ 256 < k) : Calls Try.prog 16 #[.int .i64 k] w fun e w' => e = .returned (.tuple #[.pointer none, .int .i64 1]) ∧ w' = w := by
  by_cases c : k < 1
  · go_enter Try.func16, Try.ntmps16
    go_wp2
    go_ret2
    exact ⟨rfl, rfl⟩
  · have c2 : 256 < k := by omega
    go_enter Try.func16, Try.ntmps16
    go_wp2
    go_ret2
    exact ⟨rfl, rfl⟩
set_option maxHeartbeats 2000000 in
set_option maxRecDepth 100000 in
theorem rbput_room (w0 w : World) (l : List Thing) (c n : Nat) (L : List Int) (x : Int) (h : Own w0 w (RBx c n L :: l)) (hr : L.length < n) (hn : n ≤ 256) :
    Calls Try.prog 18 #[.pointer (some ⟨c, 0, none⟩), .int .i64 x] w fun e w' => e = .returned (.int .i64 0) ∧ Own w0 w' (RBx c n (L ++ [x]) :: l) := by
  obtain ⟨v, h⟩ := Own.ex_iff.1 h
  obtain ⟨ao, cap, rfl, hlc, hcm⟩ := h.two.vshape
  have q1 := h.cell 1
  have q0 := h.cell 0
  have hcl := h.lt
  simp at q1 q0
  obtain ⟨i0, hi, hz0, hz1, hz2⟩ := info_parts Try.infoI64
  have H : Hid (Own w0 w (Cells c #[.int .i64 (n : Int), .slice ao L.length cap] 56 :: View 1 (.slice ao L.length cap) L.length (lrow L) :: l)) := h
  have HM : Hid ((L ++ [x]).length = L.length + 1 ∧ lrow (L ++ [x]) = lrow L ++ [.int .i64 x]) := ⟨by simp, by simp [lrow]⟩
  have HC1 : Hid (∀ u ∈ lrow L, u.oneCell' = true) := one_lrow L
  clear h
  generalize L ++ [x] = M at *
  have hne : ((L.length : Int) == (n : Int)) = false := by rw [beq_eq_false_iff_ne]; omega
  go_enter Try.func18, Try.ntmps18
  go_wp2
  go_quiet (fail)
  have H0 : Hid (Own w0 (w.drewN nq) _) := H.out.drewN nq
  clear q1 q0 hcl H
  generalize w.drewN nq = wq at *
  have q1 := H0.out.cell 1
  have hcl := H0.out.lt
  simp at q1
  go_wp2_with (at_builtin; refine append_view rfl _ _ 52 rfl 2 i0 (.int .i64 0) 1 8 Try.underlying52 hi hz0 hz1 hz2 rfl (by decide) _ _ _ rfl _ L.length (lrow L) rfl (H0.out.litRow #[] 2 1 0 (by decide) rfl).in23 HC1.out (by unfold maxLen; omega) (by omega) ?_)
  intro a1 c1 w1 hO1 hsz1
  have H1 : Hid (Own w0 w1 (Row 2 1 (.slice a1 L.length c1) L.length (lrow L) :: View 1 (.slice ao L.length cap) L.length (lrow L) :: Cells c #[.int .i64 (n : Int), .slice ao L.length cap] 56 :: l)) := hO1
  clear hO1 q1 hcl hne
  go_wp2_with (at_builtin; refine append1_own rfl _ _ 52 rfl 2 i0 (.int .i64 0) 1 8 Try.underlying52 hi hz0 hz1 hz2 rfl (by decide) _ _ _ rfl H1.out _ #[.int .i64 x] (by simp) rfl rfl (by intro u hu; simp at hu; subst hu; rfl) (by unfold maxLen; omega) (by omega) ?_)
  intro g2 c2 w2 hO2 hsz2
  have k0 := hO2.three.cell 0
  have k1 := hO2.three.cell 1
  have z1 := hO2.three.froz 1
  simp at k0 k1
  have H2 : Hid (Own w0 w2 (Cells c #[.int .i64 (n : Int), .slice ao L.length cap] 56 :: Row 2 1 (.slice (some ⟨g2, 0, none⟩) (L.length + 1) c2) (L.length + 1) (lrow M) :: l)) := by
    rw [HM.out.2]; exact hO2.two.tail.two
  clear hO2 H1 hsz1 hsz2
  go_wp2
  go_ret
  refine ⟨rfl, ?_⟩
  refine Own.ex_iff.2 ⟨.slice (some ⟨g2, 0, none⟩) (L.length + 1) c2, ?_⟩
  rw [HM.out.1]
  exact ((H2.out.setC 1 (.slice (some ⟨g2, 0, none⟩) (L.length + 1) c2)).two.view (by decide)).two
set_option maxHeartbeats 400000 in
theorem rbput_full (w0 w : World) (l : List Thing) (c n : Nat) (L : List Int) (x : Int) (h : Own w0 w (RBx c n L :: l)) (hr : L.length = n) :
    Calls Try.prog 18 #[.pointer (some ⟨c, 0, none⟩), .int .i64 x] w fun e w' => e = .returned (.int .i64 8) ∧ Own w0 w' (RBx c n L :: l) := by
  obtain ⟨v, h⟩ := Own.ex_iff.1 h
  obtain ⟨ao, cap, rfl, hlc, hcm⟩ := h.two.vshape
  have q1 := h.cell 1
  have q0 := h.cell 0
  simp at q1 q0
  have H : Hid (Own w0 w (RBx c n L :: l)) := Own.ex_iff.2 ⟨_, h⟩
  clear h
  have hne : ((L.length : Int) == (n : Int)) = true := by rw [hr]; simp
  clear hr
  generalize L.length = m at *
  go_enter Try.func18, Try.ntmps18
  go_wp2
  go_quiet (fail)
  go_wp2
  go_ret
  exact ⟨rfl, H.out.drewN _⟩
theorem rbput_nil (w : World) (x : Int) : Calls Try.prog 18 #[.pointer none, .int .i64 x] w fun e w' => e = .returned (.int .i64 10) ∧ w' = w := by
  go_enter Try.func18, Try.ntmps18
  go_wp2
  go_ret
  exact ⟨rfl, rfl⟩
set_option maxHeartbeats 1000000 in
set_option maxRecDepth 100000 in
theorem rbtake (w0 w : World) (l : List Thing) (c n : Nat) (L : List Int) (h : Own w0 w (RBx c n L :: l)) (hL : L.length ≤ 256) :
    Calls Try.prog 22 #[.pointer (some ⟨c, 0, none⟩)] w fun e w' => e = .returned (.tuple #[.int .i64 (L.headD 0), .bool (!L.isEmpty)]) ∧ Own w0 w' (RBx c n L.tail :: l) := by
  obtain ⟨v, h⟩ := Own.ex_iff.1 h
  obtain ⟨ao, cap, rfl, hlc, hcm⟩ := h.two.vshape
  have q1 := h.cell 1
  have q0 := h.cell 0
  have z1 := h.froz 1
  simp at q1 q0
  cases L with
  | nil =>
    have H : Hid (Own w0 w (RBx c n [] :: l)) := Own.ex_iff.2 ⟨_, h⟩
    clear h
    have hl0 : ([] : List Int).length = 0 := rfl
    rw [hl0] at q1
    clear hl0 hL hlc hcm z1
    go_enter Try.func22, Try.ntmps22
    go_wp2
    go_ret2
    exact ⟨rfl, H.out⟩
  | cons x M =>
    have hl1 : (x :: M).length = M.length + 1 := rfl
    rw [hl1] at q1 h hlc hL
    obtain ⟨g, o, cap', hv, _, _, hc⟩ := h.two.vcell (by omega)
    obtain ⟨rfl, _, rfl⟩ := Value.slice.inj hv
    have d0 : w.cell? ⟨g, o, none⟩ = some (.int .i64 x) := hc 0 _ rfl
    have H : Hid (Own w0 w (Cells c #[.int .i64 (n : Int), .slice (some ⟨g, o, none⟩) (M.length + 1) cap] 56 :: View 1 (.slice (some ⟨g, o, none⟩) (M.length + 1) cap) (M.length + 1) (lrow (x :: M)) :: l)) := h
    have HL : Hid (lrow M = (lrow (x :: M)).drop 1) := by show _ = _; simp [lrow]
    clear h hv hc hl1
    unfold maxLen at hcm
    show Calls _ _ _ _ fun e w' => e = .returned (.tuple #[.int .i64 x, .bool true]) ∧ Own w0 w' (RBx c n M :: l)
    have hnz : ((M.length : Int) + 1 == 0) = false := by rw [beq_eq_false_iff_ne]; omega
    by_cases hc1 : cap = 1
    · subst hc1
      obtain rfl : M = [] := List.eq_nil_of_length_eq_zero (by omega)
      have hl0 : ([] : List Int).length = 0 := rfl
      rw [hl0] at q1 hnz
      clear hl0
      go_enter Try.func22, Try.ntmps22
      go_wp2
      go_ret2
      refine ⟨rfl, Own.ex_iff.2 ⟨.slice (some ⟨g, o, none⟩) 0 0, ?_⟩⟩
      exact (((H.out.setC 1 (.slice (some ⟨g, o, none⟩) 0 0)).two).vtail (by decide) ⟨g, o, none⟩ (by rw [if_pos rfl]) (by decide)).two
    · go_enter Try.func22, Try.ntmps22
      go_wp2
      go_ret2
      refine ⟨rfl, Own.ex_iff.2 ⟨.slice (some ⟨g, o + 1, none⟩) M.length (cap - 1), ?_⟩⟩
      have kv := ((H.out.setC 1 (.slice (some ⟨g, o + 1, none⟩) M.length (cap - 1))).two).vtail (by omega) ⟨g, o + 1, none⟩ (by rw [if_neg hc1]) (by decide)
      rw [HL.out]
      exact kv.two
theorem rbtake_nil (w : World) : Calls Try.prog 22 #[.pointer none] w fun e w' => e = .returned (.tuple #[.int .i64 0, .bool false]) ∧ w' = w := by
  go_enter Try.func22, Try.ntmps22
  go_wp2
  go_ret2
  exact ⟨rfl, rfl⟩

set_option maxHeartbeats 2000000 in
set_option maxRecDepth 100000 in
theorem awake9 (w0 w : World) (l : List Thing) (h : Own w0 w l) : Calls Try.prog 14 #[] w fun e w' => e = .returned (.bool true) ∧ Own w0 w' l := by
  have H : Hid (Own w0 w l) := h
  clear h
  go_enter Try.func14, Try.ntmps14
  go_wp2_with fail
  refine (mnew w0 w l 2 H.out (by decide) (by decide)).mono ?_
  rintro e w1 ⟨b, rfl, hO⟩
  have H1 : Hid (Own w0 w1 (Bx b 2 [] :: l)) := hO
  clear hO H
  go_wp2_with fail
  refine (mput_room w0 w1 l b 2 [] 1 H1.out (by decide)).mono ?_
  rintro e w2 ⟨rfl, hO⟩
  have H2 : Hid (Own w0 w2 (Bx b 2 [1] :: l)) := hO
  clear hO H1
  go_wp2_with fail
  refine (mput_room w0 w2 l b 2 [1] 2 H2.out (by decide)).mono ?_
  rintro e w3 ⟨rfl, hO⟩
  have H3 : Hid (Own w0 w3 (Bx b 2 [1, 2] :: l)) := hO
  clear hO H2
  go_wp2_with fail
  refine (mput_full w0 w3 l b 2 [1, 2] 3 H3.out (by decide)).mono ?_
  rintro e w4 ⟨rfl, hO⟩
  have H4 : Hid (Own w0 w4 (Bx b 2 [1, 2] :: l)) := hO
  clear hO H3
  go_wp2_with fail
  refine (mtake_some w0 w4 l b 2 [2] 1 H4.out).mono ?_
  rintro e w5 ⟨rfl, hO⟩
  have H5 : Hid (Own w0 w5 (Bx b 2 [2] :: l)) := hO
  clear hO H4
  go_wp2_with fail
  refine (mput_room w0 w5 l b 2 [2] 3 H5.out (by decide)).mono ?_
  rintro e w6 ⟨rfl, hO⟩
  have H6 : Hid (Own w0 w6 (Bx b 2 [2, 3] :: l)) := hO
  clear hO H5
  go_wp2_with fail
  refine (mall w0 w6 l b 2 [2, 3] H6.out (by decide)).mono ?_
  rintro e w7 ⟨ao, cap, rfl, hO⟩
  have H7 : Hid (Own w0 w7 (Row 2 1 (.slice ao 2 cap) 2 (lrow [2, 3]) :: Bx b 2 [] :: l)) := hO
  have hl2 : ([2, 3] : List Int).length = 2 := rfl
  rw [hl2]
  clear hO H6 hl2
  have K : Hid (Own w0 (w7.alloc (.cells #[.int .i64 2, .int .i64 3] 2)) _) := H7.out.litRow #[.int .i64 2, .int .i64 3] 2 1 2 (by decide) rfl
  go_wp2_with fail
  refine (same_I _ _ _ [2, 3] (Own.numsI K.out.two) (Own.numsI K.out) (by decide)).mono ?_
  rintro e w8 ⟨rfl, hf⟩
  have H8 : Hid (Own w0 w8 (Bx b 2 [] :: l)) := (K.out.quiet hf).tail.tail
  clear hf K H7
  go_wp2_with fail
  refine (mlen w0 w8 l b 2 [] H8.out).mono ?_
  rintro e w9 ⟨rfl, rfl⟩
  go_wp2
  go_ret
  exact ⟨rfl, H8.out.tail⟩
end Go.Proofs.Ytijhbgkfffnioaa
