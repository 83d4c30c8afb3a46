/-
  Who is visible, in the program and in the document.
-/
import Derived.Test.YthokgjkgfolojabDoorCeq
import Derived.Test.YthokgjkgfolojabDoorVie
import Derived.Test.YthokgjkgfolojabDoorVig
namespace Go.Proofs.YthokgjkgfolojabDoor
open Go.ChangeShapes Go.WideShapes Go.ChangeAt Go.RowKit
set_option linter.unusedVariables false
set_option maxRecDepth 100000

theorem rput_any (w0 w : World) (l : List Thing) (ao : Option Addr) (cap : Nat) (L : List Spt) (h : Own w0 w (SRow ao cap L :: l)) (hL : Rise L) (hl : L.length ≤ 10000) (id : Nat) (x y : Int) :
    Calls Tryd.prog 9 #[.slice ao L.length cap, .int .u32 (id : Int), .int .i32 x, .int .i32 y] w fun e w' => ∃ (ao' : Option Addr) (cap' : Nat), e = .returned (.tuple #[.slice ao' (rputL id x y L).length cap', .int .i64 (putE id x y)]) ∧ Own w0 w' (SRow ao' cap' (rputL id x y L) :: l) := by
  by_cases hc : putE id x y = 0
  · obtain ⟨h0, hW⟩ := putE_zero hc
    have e : rputL id x y L = putL L (id, x, y) := by unfold rputL; rw [if_pos hc]
    rw [e, hc]
    exact rputC w0 w l ao cap L h hL hl id x y h0 hW
  · have hn : id = 0 ∨ inW x y = false := by
      by_cases h0 : id = 0
      · exact Or.inl h0
      · right
        cases hw : inW x y with
        | false => rfl
        | true =>
          exfalso
          apply hc
          unfold putE
          rw [if_neg h0, if_pos hw]
    have e : rputL id x y L = L := by unfold rputL; rw [if_neg hc]
    rw [e]
    refine (rputE w ao L.length cap id x y hn).mono ?_
    rintro e w' ⟨rfl, rfl⟩
    exact ⟨ao, cap, rfl, h⟩
/-- who is in one of a region's cells -/
def visP (on : Bool) (x y r : Int) (s : Spt) : Bool := hasC on x y r (cel s.2.1) (cel s.2.2)
def visL (L : List Spt) (on : Bool) (x y r : Int) : List Nat := (L.filter (visP on x y r)).map (·.1)
theorem vis_none {on : Bool} {x y r : Int} (h : hasR on x y r = false) (L : List Spt) : visL L on x y r = [] := by
  unfold visL
  rw [List.map_eq_nil_iff, List.filter_eq_nil_iff]
  intro s _
  unfold visP hasC
  rw [h]
  simp
theorem vis_box {on : Bool} {x y r : Int} (h : hasR on x y r = true) (L : List Spt) : boxL L (x - r) (y - r) (x + r) (y + r) = visL L on x y r := by
  unfold visL boxL
  congr 1
  apply List.filter_congr
  intro s _
  unfold visP hasC inB scl bw
  rw [h]
  simp [Bool.and_assoc]
theorem vis_take {L : List Spt} {j : Nat} {s : Spt} (hs : L[j]? = some s) (on : Bool) (x y r : Int) : visL (L.take (j + 1)) on x y r = visL (L.take j) on x y r ++ (if visP on x y r s then [s.1] else []) := by
  unfold visL
  rw [List.take_add_one, hs, List.filter_append, List.map_append]
  cases h : visP on x y r s <;> simp [h]
theorem vis_short {L : List Spt} {n : Nat} (h : L.length ≤ n) (on : Bool) (x y r : Int) : (visL L on x y r).length ≤ n := by
  unfold visL; rw [List.length_map]
  exact Nat.le_trans (List.length_filter_le _ _) h
abbrev IRow (ao : Option Addr) (cap : Nat) (X : List Nat) : Thing := Row 29 1 (.slice ao X.length cap) X.length (irow .u32 X)
set_option maxHeartbeats 8000000 in
theorem visible_ok (w0 w : World) (l : List Thing) (g K : Nat) (L : List Spt) (h : Own w0 w (Grid g L K :: l)) (hL : GOk L) (hI : GIn L) (hn : L.length < 256) (on : Bool) (x y r : Int) :
    Calls Tryd.prog 11 #[.pointer (some ⟨g, 0, none⟩), .agg #[.bool on, .int .i64 x, .int .i64 y, .int .i64 r]] w fun e w' => ∃ (ao : Option Addr) (cap : Nat), e = .returned (.slice ao (visL L on x y r).length cap) ∧ Own w0 w' (IRow ao cap (visL L on x y r) :: Grid g L K :: l) := by
  have hA := h.allocC #[.bool on, .int .i64 x, .int .i64 y, .int .i64 r] 24
  have HA : Hid (Own w0 _ _) := hA
  have CH : Hid (∀ W, Calls Tryd.prog 21 #[.agg #[.bool on, .int .i64 x, .int .i64 y, .int .i64 r]] W fun e w' => e = .returned (.bool (hasR on x y r)) ∧ Fr Nobody W w') := fun W => hasCells_ok W on x y r
  have HB : Hid (hasR on x y r = true → ∀ W l, Own w0 W (Grid g L K :: l) → Calls Tryd.prog 22 #[.pointer (some ⟨g, 0, none⟩), .int .i64 (x - r), .int .i64 (y - r), .int .i64 (x + r), .int .i64 (y + r)] W fun e w' => ∃ (ao : Option Addr) (cap : Nat), e = .returned (.slice ao (visL L on x y r).length cap) ∧ Own w0 w' (IRow ao cap (visL L on x y r) :: Grid g L K :: l)) := fun hR W l h2 => by
    have := gbox w0 W l g K L h2 hL hI hn (x - r) (y - r) (x + r) (y + r)
    rw [vis_box hR] at this
    exact this
  clear hA h hL hI hn
  cases hR : hasR on x y r with
  | false =>
    rw [hR] at CH
    rw [vis_none hR]
    clear hR HB
    go_enter Tryd.func11, Tryd.ntmps11
    go_wp2_with fail
    refine (CH.out _).mono ?_
    rintro e w1 ⟨rfl, hf⟩
    have HO : Hid (Own w0 w1 (Grid g L K :: l)) := (HA.out.quiet hf).tail
    clear HA hf CH
    go_wp2
    go_ret
    exact ⟨none, 0, rfl, HO.out.nilRow _ _⟩
  | true =>
    rw [hR] at CH
    have HB2 : Hid (∀ W l, Own w0 W (Grid g L K :: l) → Calls Tryd.prog 22 #[.pointer (some ⟨g, 0, none⟩), .int .i64 (x - r), .int .i64 (y - r), .int .i64 (x + r), .int .i64 (y + r)] W fun e w' => ∃ (ao : Option Addr) (cap : Nat), e = .returned (.slice ao (visL L on x y r).length cap) ∧ Own w0 w' (IRow ao cap (visL L on x y r) :: Grid g L K :: l)) := HB.out hR
    obtain ⟨⟨bx1, bx2⟩, ⟨by1, by2⟩, br1, br2⟩ := inR_iff.1 (by unfold hasR at hR; exact (Bool.and_eq_true .. ▸ hR).2 : inR x y r = true)
    obtain ⟨a, ha⟩ : ∃ a, a = x - r := ⟨_, rfl⟩
    obtain ⟨b, hb⟩ : ∃ b, b = x + r := ⟨_, rfl⟩
    obtain ⟨c, hc⟩ : ∃ c, c = y - r := ⟨_, rfl⟩
    obtain ⟨d, hd⟩ : ∃ d, d = y + r := ⟨_, rfl⟩
    have hw1 : IntKind.i64.wrap (x - r) = a := by rw [ha]; exact wr64 bx1 bx2 br1 br2
    have hw2 : IntKind.i64.wrap (x + r) = b := by rw [hb]; exact wr64' bx1 bx2 br1 br2
    have hw3 : IntKind.i64.wrap (y - r) = c := by rw [hc]; exact wr64 by1 by2 br1 br2
    have hw4 : IntKind.i64.wrap (y + r) = d := by rw [hd]; exact wr64' by1 by2 br1 br2
    rw [← ha, ← hb, ← hc, ← hd] at HB2
    obtain ⟨X, hX⟩ : ∃ X, X = visL L on x y r := ⟨_, rfl⟩
    rw [← hX] at HB2 ⊢
    clear hR HB ha hb hc hd hX bx1 bx2 by1 by2 br1 br2
    go_enter Tryd.func11, Tryd.ntmps11
    go_wp2_with fail
    refine (CH.out _).mono ?_
    rintro e w1 ⟨rfl, hf⟩
    have hB := HA.out.quiet hf
    generalize w.heap.size = B at *
    have q1 := hB.cell 1
    have q2 := hB.cell 2
    have q3 := hB.cell 3
    simp at q1 q2 q3
    have H1 : Hid (Calls _ _ _ _ _) := HB2.out w1 _ hB.two
    clear HA hf CH hB HB2
    go_wp2_with fail
    refine H1.out.mono ?_
    rintro e w2 ⟨ao, cap, rfl, h2⟩
    have H2 : Hid (Own w0 w2 (IRow ao cap X :: Grid g L K :: l)) := h2.three.tail
    clear h2 H1 q1 q2 q3
    go_wp2
    go_ret
    exact ⟨ao, cap, rfl, H2.out⟩
set_option maxHeartbeats 8000000 in
theorem visible_nil (w : World) (on : Bool) (x y r : Int) : Calls Tryd.prog 11 #[.pointer none, .agg #[.bool on, .int .i64 x, .int .i64 y, .int .i64 r]] w fun e w' => e = .returned (.slice none 0 0) ∧ Fr Nobody w w' := by
  have hA := (Own.start w).allocC #[.bool on, .int .i64 x, .int .i64 y, .int .i64 r] 24
  have HA : Hid (Own w _ _) := hA
  have CH : Hid (∀ W, Calls Tryd.prog 21 #[.agg #[.bool on, .int .i64 x, .int .i64 y, .int .i64 r]] W fun e w' => e = .returned (.bool (hasR on x y r)) ∧ Fr Nobody W w') := fun W => hasCells_ok W on x y r
  have HB : Hid (∀ W (a b c d : Int), Calls Tryd.prog 22 #[.pointer none, .int .i64 a, .int .i64 b, .int .i64 c, .int .i64 d] W fun e w' => e = .returned (.slice none 0 0) ∧ w' = W) := fun W a b c d => gbox_nil W a b c d
  clear hA
  cases hR : hasR on x y r with
  | false =>
    rw [hR] at CH
    clear hR HB
    go_enter Tryd.func11, Tryd.ntmps11
    go_wp2_with fail
    refine (CH.out _).mono ?_
    rintro e w1 ⟨rfl, hf⟩
    have HF : Hid (Fr Nobody w w1) := (HA.out.quiet hf).fr
    clear HA hf CH
    go_wp2
    go_ret
    exact ⟨rfl, HF.out⟩
  | true =>
    rw [hR] at CH
    clear hR
    go_enter Tryd.func11, Tryd.ntmps11
    go_wp2_with fail
    refine (CH.out _).mono ?_
    rintro e w1 ⟨rfl, hf⟩
    have hB := HA.out.quiet hf
    have HF : Hid (Fr Nobody w w1) := hB.fr
    generalize w.heap.size = B at *
    have q1 := hB.cell 1
    have q2 := hB.cell 2
    have q3 := hB.cell 3
    simp at q1 q2 q3
    clear HA hf CH hB
    go_wp2_with fail
    refine (HB.out _ _ _ _ _).mono ?_
    rintro e w2 ⟨rfl, rfl⟩
    go_wp2
    go_ret
    exact ⟨rfl, HF.out⟩
set_option maxHeartbeats 8000000 in
theorem rvisible_ok (w0 w : World) (l : List Thing) (ao : Option Addr) (cap : Nat) (L : List Spt) (h : Own w0 w (SRow ao cap L :: l)) (hl : L.length ≤ 10000) (hI : ∀ s ∈ L, I32 s.2.1 ∧ I32 s.2.2) (on : Bool) (x y r : Int) :
    Calls Tryd.prog 12 #[.slice ao L.length cap, .agg #[.bool on, .int .i64 x, .int .i64 y, .int .i64 r]] w fun e w' => ∃ (ao' : Option Addr) (cap' : Nat), e = .returned (.slice ao' (visL L on x y r).length cap') ∧ Own w0 w' (IRow ao' cap' (visL L on x y r) :: SRow ao cap L :: l) := by
  obtain ⟨i0, hi, hz0, hz1, hz2⟩ := info3 Tryd.infoIDc
  have hA := h.allocC #[.bool on, .int .i64 x, .int .i64 y, .int .i64 r] 24
  have H : Hid (Own w0 _ (SRow ao cap L :: Cells w.heap.size #[.bool on, .int .i64 x, .int .i64 y, .int .i64 r] 24 :: l)) := hA.two
  have HI : Hid (∀ s ∈ L, I32 s.2.1 ∧ I32 s.2.2) := hI
  obtain ⟨n, hn⟩ : ∃ n, n = L.length := ⟨_, rfl⟩
  have HN : Hid (n = L.length) := hn
  rw [← hn] at hl ⊢
  clear h hn hI hA
  go_enter Tryd.func12, Tryd.ntmps12
  go_wp2
  generalize hWg : w.alloc (.cells #[.bool on, .int .i64 x, .int .i64 y, .int .i64 r] 24) = W1 at *
  generalize w.heap.size = B at *
  clear hWg
  go_loopw [5, 10] (fun vo vi wr => ∃ (j : Nat) (O : List Nat) (a1 : Option Addr) (c1 : Nat), vo = .slice a1 O.length c1 ∧ vi = .int .i64 (j : Int) ∧ j ≤ n ∧ O = visL (L.take j) on x y r ∧ Own w0 wr (IRow a1 c1 O :: SRow ao cap L :: Cells B #[.bool on, .int .i64 x, .int .i64 y, .int .i64 r] 24 :: l)) (fun _ vi _ => n - (iOf vi).toNat)
  case atStart => exact ⟨0, [], none, 0, rfl, rfl, Nat.zero_le _, rfl, H.out.nilRow _ _⟩
  case round =>
    obtain ⟨j, O, a1, c1, rfl, rfl, hj, hO, hOw⟩ := hrel
    have HOE : Hid (O = visL (L.take j) on x y r) := hO
    have hOl : O.length ≤ j := by
      rw [hO]; exact vis_short (by rw [List.length_take]; omega) _ _ _ _
    clear hO H
    by_cases hlt : j < n
    · have hlt' : (j : Int) < (n : Int) := by omega
      obtain ⟨s, hs⟩ : ∃ s, L[j]? = some s := ⟨_, List.getElem?_eq_getElem (by rw [← HN.out]; exact hlt)⟩
      obtain ⟨g, hg, c0, c1', c2⟩ := hOw.two.spt hs
      have HDT : Hid (visL (L.take (j + 1)) on x y r = visL (L.take j) on x y r ++ (if visP on x y r s then [s.1] else [])) := vis_take hs on x y r
      rw [← HOE.out] at HDT
      obtain ⟨hx32, hy32⟩ := HI.out s (List.mem_of_getElem? hs)
      obtain ⟨si, sx, sy⟩ := s
      simp only at c0 c1' c2 hx32 hy32
      have CS1 : Hid (∀ W, Calls Tryd.prog 23 #[.agg #[.bool on, .int .i64 x, .int .i64 y, .int .i64 r], .int .i32 sx, .int .i32 sy] W fun e w' => e = .returned (.bool (visP on x y r (si, sx, sy))) ∧ Fr Nobody W w') := fun W => rsees_ok W on x y r sx sy hx32 hy32
      obtain ⟨on2, hon⟩ : ∃ on, on = O.length := ⟨_, rfl⟩
      have HON : Hid (O.length = on2) := hon.symm
      have hW : Own w0 wr (Row 29 1 (.slice a1 on2 c1) on2 (irow .u32 O) :: SRow ao cap L :: Cells B #[.bool on, .int .i64 x, .int .i64 y, .int .i64 r] 24 :: l) := by rw [hon]; exact hOw
      rw [← hon] at hOl ⊢
      have hA := hW.allocC #[.int .u32 (si : Int), .int .i32 sx, .int .i32 sy] 31
      have HA : Hid (Own w0 _ _) := hA
      have q0 := hA.four.cell 0
      have q1 := hA.four.cell 1
      have q2 := hA.four.cell 2
      have q3 := hA.four.cell 3
      simp at q0 q1 q2 q3
      subst hg
      clear hA hW hOw hs hx32 hy32 hon
      cases hv : visP on x y r (si, sx, sy) with
      | true =>
        rw [hv] at CS1 HDT
        have HD2 : Hid (visL (L.take (j + 1)) on x y r = O ++ [si]) := by show _ = _; rw [HDT.out]; rfl
        clear HDT hv
        go_wp2_with fail
        refine (CS1.out _).mono ?_
        rintro e w2 ⟨rfl, hf⟩
        have hB := HA.out.quiet hf
        generalize wr.heap.size = B2 at *
        have k0 := hB.cell 0
        simp at k0
        have HB : Hid (Own w0 w2 _) := hB.two
        clear hB hf HA q0 q1 q2 q3 c0 c1' c2 CS1
        go_wp2_with (at_builtin; refine append1_own rfl _ _ 37 rfl 29 i0 (.int .u32 0) 1 4 Tryd.underlying37 hi hz0 hz1 hz2 rfl (by decide) _ _ _ rfl HB.out _ #[.int .u32 (si : Int)] (by simp) rfl rfl (one_int _ _) (by unfold maxLen; omega) (by omega) ?_)
        intro g2 cap2 w3 hO2 hsz
        have HO2 : Hid (Own w0 w3 (Row 29 1 (.slice (some ⟨g2, 0, none⟩) (on2 + 1) cap2) (on2 + 1) (irow .u32 (O ++ [si])) :: SRow (some ⟨g, 0, none⟩) cap L :: Cells B #[.bool on, .int .i64 x, .int .i64 y, .int .i64 r] 24 :: l)) := by
          show Own _ _ _
          rw [irow_append]
          exact hO2.two.tail
        clear hO2 hsz HB k0
        go_wp2
        go_roundw
        case rel =>
          have e : (O ++ [si]).length = on2 + 1 := by rw [List.length_append, HON.out]; rfl
          refine ⟨j + 1, O ++ [si], some ⟨g2, 0, none⟩, cap2, by rw [e], by go_num, by omega, HD2.out.symm, ?_⟩
          unfold IRow
          rw [e]
          exact HO2.out
        case measure => simp [iOf]; omega
      | false =>
        rw [hv] at CS1 HDT
        have HD2 : Hid (visL (L.take (j + 1)) on x y r = O) := by show _ = _; rw [HDT.out]; simp
        clear HDT hv
        go_wp2_with fail
        refine (CS1.out _).mono ?_
        rintro e w2 ⟨rfl, hf⟩
        have HB : Hid (Own w0 w2 (IRow a1 c1 O :: SRow (some ⟨g, 0, none⟩) cap L :: Cells B #[.bool on, .int .i64 x, .int .i64 y, .int .i64 r] 24 :: l)) := by
          have := (HA.out.quiet hf).tail
          rw [← HON.out] at this
          exact this
        clear hf HA q0 q1 q2 q3 c0 c1' c2 CS1
        go_wp2
        go_roundw
        case rel => exact ⟨j + 1, O, a1, c1, by rw [HON.out], by go_num, by omega, HD2.out.symm, HB.out⟩
        case measure => simp [iOf]; omega
    · have hlt' : ¬ (j : Int) < (n : Int) := by omega
      have hjn : j = n := by omega
      have HOL : Hid (O = visL L on x y r) := by show _ = _; rw [HOE.out, hjn, HN.out, List.take_length]
      have HW : Hid (Own w0 wr (IRow a1 c1 O :: SRow ao cap L :: l)) := hOw.three.tail
      clear hOw hjn HOE
      go_wp2
      go_ret
      exact ⟨a1, c1, by rw [← HOL.out]; rfl, by rw [← HOL.out]; exact HW.out⟩
end Go.Proofs.YthokgjkgfolojabDoor
