/-
  The document's list of who is where: Put.
-/
import Derived.Test.YthokgjkgfolojabDoorCep
namespace Go.Proofs.YthokgjkgfolojabDoor
open Go.RowKit
set_option linter.unusedVariables false
set_option maxRecDepth 100000

/-- what Put has put together behind so many, and whether the new one stands there -/
def dn (D : List Spt) (id j : Nat) : Bool := (D.take j).any (fun t => decide (id < t.1))
def ob (D : List Spt) (s : Spt) (j : Nat) : List Spt := if dn D s.1 j then putL (D.take j) s else D.take j
theorem ob_zero (D : List Spt) (s : Spt) : ob D s 0 = [] ∧ dn D s.1 0 = false := by simp [ob, dn]
theorem not_dn {D : List Spt} {id j : Nat} (h : dn D id j = false) (hn : ∀ t ∈ D, t.1 ≠ id) : ∀ t ∈ D.take j, t.1 < id := by
  intro t ht
  unfold dn at h
  rw [List.any_eq_false] at h
  have h1 := h t ht
  have h2 := hn t (List.mem_of_mem_take ht)
  simp at h1
  omega
theorem put_low {M : List Spt} {s : Spt} (h : ∀ t ∈ M, t.1 < s.1) : putL M s = M ++ [s] := by
  unfold putL
  have e1 : M.filter (fun t => decide (t.1 < s.1)) = M := List.filter_eq_self.2 (fun t ht => by simpa using h t ht)
  have e2 : M.filter (fun t => decide (s.1 < t.1)) = [] := List.filter_eq_nil_iff.2 (fun t ht => by have := h t ht; simp; omega)
  rw [e1, e2]
theorem take_one {D : List Spt} {j : Nat} {t : Spt} (h : D[j]? = some t) : D.take (j + 1) = D.take j ++ [t] := by rw [List.take_add_one, h]; rfl
theorem dn_succ {D : List Spt} {id j : Nat} {t : Spt} (h : D[j]? = some t) : dn D id (j + 1) = (dn D id j || decide (id < t.1)) := by
  unfold dn; rw [take_one h, List.any_append]; simp
theorem ob_new {D : List Spt} {s t : Spt} {j : Nat} (h : D[j]? = some t) (hd : dn D s.1 j = false) (hn : ∀ t ∈ D, t.1 ≠ s.1) (ht : s.1 < t.1) : ob D s (j + 1) = ob D s j ++ [s] ++ [t] := by
  have h1 := not_dn hd hn
  unfold ob
  rw [dn_succ h, hd]
  simp only [ht, decide_true, Bool.false_or, if_true, Bool.false_eq_true, if_false]
  rw [take_one h]
  have e := put_low h1
  unfold putL at e ⊢
  rw [List.filter_append, List.filter_append]
  have n1 : ¬ t.1 < s.1 := by omega
  simp only [List.filter_cons, List.filter_nil, n1, ht, decide_true, decide_false, if_true, Bool.false_eq_true, if_false, List.append_nil]
  rw [← List.cons_append, ← List.append_assoc, e]
theorem ob_low {D : List Spt} {s t : Spt} {j : Nat} (h : D[j]? = some t) (hd : dn D s.1 j = false) (ht : ¬ s.1 < t.1) : ob D s (j + 1) = ob D s j ++ [t] ∧ dn D s.1 (j + 1) = false := by
  have e : dn D s.1 (j + 1) = false := by rw [dn_succ h, hd]; simp [ht]
  refine ⟨?_, e⟩
  unfold ob
  rw [e, hd]
  simp only [Bool.false_eq_true, if_false]
  exact take_one h
theorem ob_high {D : List Spt} (hr : Rise D) {s t : Spt} {j : Nat} (h : D[j]? = some t) (hd : dn D s.1 j = true) : ob D s (j + 1) = ob D s j ++ [t] ∧ dn D s.1 (j + 1) = true := by
  have e : dn D s.1 (j + 1) = true := by rw [dn_succ h, hd]; rfl
  refine ⟨?_, e⟩
  have ht : s.1 < t.1 := by
    unfold dn at hd
    obtain ⟨u, hu, hu2⟩ := List.any_eq_true.1 hd
    simp at hu2
    have hp : (D.take j ++ [t]).Pairwise (fun a b => a.1 < b.1) := by rw [← take_one h]; exact List.Pairwise.take hr
    have := (List.pairwise_append.1 hp).2.2 u hu t (by simp)
    omega
  unfold ob
  rw [e, hd]
  simp only [if_true]
  rw [take_one h]
  unfold putL
  have n1 : ¬ t.1 < s.1 := by omega
  rw [List.filter_append, List.filter_append]
  simp [n1, ht]
theorem ob_end {D : List Spt} {s : Spt} (hn : ∀ t ∈ D, t.1 ≠ s.1) : putL D s = if dn D s.1 D.length then ob D s D.length else ob D s D.length ++ [s] := by
  unfold ob
  cases hd : dn D s.1 D.length with
  | true => simp [List.take_length]
  | false =>
    have h1 := not_dn hd hn
    rw [List.take_length] at h1
    simp only [Bool.false_eq_true, if_false, List.take_length]
    exact put_low h1
def rputL (id : Nat) (x y : Int) (L : List Spt) : List Spt := if putE id x y = 0 then putL L (id, x, y) else L
set_option maxHeartbeats 2000000 in
theorem rputE (w : World) (v : Option Addr) (n cap : Nat) (id : Nat) (x y : Int) (hn : id = 0 ∨ inW x y = false) :
    Calls Tryd.prog 9 #[.slice v n cap, .int .u32 (id : Int), .int .i32 x, .int .i32 y] w fun e w' => e = .returned (.tuple #[.slice v n cap, .int .i64 (putE id x y)]) ∧ w' = w := by
  rcases Nat.eq_zero_or_pos id with h0 | h0
  · subst h0
    have HE : Hid (putE 0 x y = 1) := rfl
    go_enter Tryd.func9, Tryd.ntmps9
    go_wp2
    go_ret2
    exact ⟨by rw [HE.out]; rfl, rfl⟩
  · have hb : inW x y = false := by rcases hn with e | e; omega; exact e
    have hid0 : ((id : Int) == 0) = false := by rw [beq_eq_false_iff_ne]; omega
    have HE : Hid (putE id x y = 5) := by show _ = _; unfold putE; rw [if_neg (by omega), hb]; rfl
    have hw : x < -524288 ∨ (¬ x < -524288 ∧ 524287 < x) ∨ (¬ x < -524288 ∧ ¬ 524287 < x ∧ y < -524288) ∨ (¬ x < -524288 ∧ ¬ 524287 < x ∧ ¬ y < -524288 ∧ 524287 < y) := by
      have h1 : ¬ inW x y = true := by rw [hb]; simp
      rw [inW_iff] at h1
      omega
    clear hn hb h0
    rcases hw with h1 | ⟨h1, h2⟩ | ⟨h1, h2, h3⟩ | ⟨h1, h2, h3, h4⟩
    all_goals
      go_enter Tryd.func9, Tryd.ntmps9
      go_wp2
      go_ret2
      exact ⟨by rw [HE.out]; rfl, rfl⟩
set_option maxHeartbeats 16000000 in
theorem rputC (w0 w : World) (l : List Thing) (ao : Option Addr) (cap : Nat) (L : List Spt) (h : Own w0 w (SRow ao cap L :: l)) (hL : Rise L) (hl : L.length ≤ 10000) (si : Nat) (sx sy : Int) (hs0 : si ≠ 0) (hW : inW sx sy = true) :
    Calls Tryd.prog 9 #[.slice ao L.length cap, .int .u32 (si : Int), .int .i32 sx, .int .i32 sy] w fun e w' => ∃ (ao' : Option Addr) (cap' : Nat), e = .returned (.tuple #[.slice ao' (putL L (si, sx, sy)).length cap', .int .i64 0]) ∧ Own w0 w' (SRow ao' cap' (putL L (si, sx, sy)) :: l) := by
  obtain ⟨i0, hi, hz0, hz1, hz2⟩ := info3 Tryd.infoSpot
  have HD : Hid (Calls _ _ _ _ _) := rdrop w0 w l ao cap L h hl si
  obtain ⟨D, hD⟩ : ∃ D, D = dropL L si := ⟨_, rfl⟩
  have hDr : Rise D := by rw [hD]; exact hL.drop si
  have hDn : ∀ t ∈ D, t.1 ≠ si := by rw [hD]; intro t ht; exact (mem_drop.1 ht).2
  have hDl : D.length ≤ 10000 := by rw [hD]; exact Nat.le_trans (List.length_filter_le _ _) hl
  have hput : putL L (si, sx, sy) = putL D (si, sx, sy) := by rw [hD]; exact (put_drop (si, sx, sy)).symm
  rw [← hD] at HD
  rw [hput]
  obtain ⟨de, hde⟩ : ∃ de, de = dropE L si := ⟨_, rfl⟩
  rw [← hde] at HD
  obtain ⟨w1, w2, w3, w4⟩ := inW_iff.1 hW
  have hid0 : ((si : Int) == 0) = false := by rw [beq_eq_false_iff_ne]; omega
  have HDR : Hid (Rise D ∧ ∀ t ∈ D, t.1 ≠ (si, sx, sy).1) := ⟨hDr, hDn⟩
  obtain ⟨nL, hnL⟩ : ∃ nL, nL = L.length := ⟨_, rfl⟩
  rw [← hnL] at HD ⊢
  obtain ⟨nd, hnd⟩ : ∃ nd, nd = D.length := ⟨_, rfl⟩
  have HND : Hid (nd = D.length) := hnd
  rw [← hnd] at hDl
  clear h hL hl hD hput hde hDr hDn hW hs0 hnL hnd
  have e1 : ¬ sx < -524288 := by omega
  have e2 : ¬ 524287 < sx := by omega
  have e3 : ¬ sy < -524288 := by omega
  have e4 : ¬ 524287 < sy := by omega
  clear w1 w2 w3 w4
  go_enter Tryd.func9, Tryd.ntmps9
  go_wp2_with fail
  refine HD.out.mono ?_
  rintro e v1 ⟨aD, cD, rfl, h1⟩
  have H1 : Hid (Own w0 v1 (SRow aD cD D :: l)) := h1
  clear h1 HD
  rw [← HND.out]
  go_wp2
  go_loopw [12, 13, 42] (fun vo vd vi wr => ∃ (j : Nat) (a1 : Option Addr) (c1 : Nat), vo = .slice a1 (ob D (si, sx, sy) j).length c1 ∧ vd = .bool (dn D si j) ∧ vi = .int .i64 (j : Int) ∧ j ≤ nd ∧ (ob D (si, sx, sy) j).length ≤ j + 1 ∧ Own w0 wr (SRow a1 c1 (ob D (si, sx, sy) j) :: SRow aD cD D :: l)) (fun _ _ vi _ => nd - (iOf vi).toNat)
  case atStart =>
    obtain ⟨z1, z2⟩ := ob_zero D (si, sx, sy)
    refine ⟨0, none, 0, by rw [z1]; rfl, by rw [z2], rfl, Nat.zero_le _, by rw [z1]; decide, ?_⟩
    rw [z1]
    exact H1.out.nilRow _ _
  case round =>
    obtain ⟨j, a1, c1, rfl, rfl, rfl, hj, hOl, hOw⟩ := hrel
    clear H1
    have HDN : Hid (dn D si j = dn D (si, sx, sy).1 j) := rfl
    by_cases hlt : j < nd
    · have hlt' : (j : Int) < (nd : Int) := by omega
      obtain ⟨t, ht⟩ : ∃ t, D[j]? = some t := ⟨_, List.getElem?_eq_getElem (by rw [← HND.out]; exact hlt)⟩
      obtain ⟨g, rfl, c0, c1', c2⟩ := hOw.two.spt ht
      have HT : Hid (D[j]? = some t) := ht
      obtain ⟨O, hO⟩ : ∃ O, O = ob D (si, sx, sy) j := ⟨_, rfl⟩
      rw [← hO] at hOw hOl ⊢
      have HOO : Hid (O = ob D (si, sx, sy) j) := hO
      obtain ⟨on, hon⟩ : ∃ on, on = O.length := ⟨_, rfl⟩
      have HON : Hid (O.length = on) := hon.symm
      have HW : Hid (Own w0 wr (Row 31 3 (.slice a1 on c1) on (cat spc O) :: SRow (some ⟨g, 0, none⟩) cD D :: l)) := by rw [hon]; exact hOw
      rw [← hon] at hOl ⊢
      obtain ⟨ti, tx, ty⟩ := t
      simp only at c0 c1' c2
      cases hd : dn D si j with
      | true =>
        have HOB : Hid (ob D (si, sx, sy) (j + 1) = O ++ [(ti, tx, ty)] ∧ dn D si (j + 1) = true) := by rw [hO]; exact ob_high HDR.out.1 ht hd
        clear hOw hO hon ht hd HDN
        have HA : Hid (Own w0 (wr.alloc (.cells #[.int .u32 (ti : Int), .int .i32 tx, .int .i32 ty] 31)) (Row 31 3 (.slice a1 on c1) on (cat spc O) :: SRow (some ⟨g, 0, none⟩) cD D :: l)) := HW.out.alloc _
        go_wp2_with (at_builtin; refine append1_own rfl _ _ 22 rfl 31 i0 (.agg #[.int .u32 0, .int .i32 0, .int .i32 0]) 3 12 Tryd.underlying22 hi hz0 hz1 hz2 rfl (by decide) _ _ _ rfl HA.out _ #[.int .u32 (ti : Int), .int .i32 tx, .int .i32 ty] (by simp) rfl rfl (one_spc (ti, tx, ty)) (by unfold maxLen; omega) (by omega) ?_)
        intro g2 cap2 w2 hO2 hsz
        have HO2 : Hid (Own w0 w2 (SRow (some ⟨g2, 0, none⟩) cap2 (O ++ [(ti, tx, ty)]) :: SRow (some ⟨g, 0, none⟩) cD D :: l)) := by
          have e : (O ++ [(ti, tx, ty)]).length = on + 1 := by rw [List.length_append, HON.out]; rfl
          show Own _ _ _
          unfold SRow
          rw [e, cat_append]
          exact hO2
        clear hO2 hsz HA
        go_wp2
        go_roundw
        case rel =>
          refine ⟨j + 1, some ⟨g2, 0, none⟩, cap2, by rw [HOB.out.1, List.length_append, HON.out]; rfl, by rw [HOB.out.2], by go_num, by omega, by rw [HOB.out.1, List.length_append, HON.out]; simp; omega, ?_⟩
          rw [HOB.out.1]
          exact HO2.out
        case measure => simp [iOf]; omega
      | false =>
        by_cases hgt : si < ti
        · have hgt' : (si : Int) < (ti : Int) := by omega
          have hol : on ≤ j := by
            rw [hon, hO]
            unfold ob
            rw [show dn D (si, sx, sy).1 j = false from hd]
            simp only [Bool.false_eq_true, if_false, List.length_take]
            omega
          have HOB : Hid (ob D (si, sx, sy) (j + 1) = O ++ [(si, sx, sy)] ++ [(ti, tx, ty)] ∧ dn D si (j + 1) = true) := by
            refine ⟨by rw [hO]; exact ob_new ht hd HDR.out.2 hgt, ?_⟩
            rw [dn_succ ht, hd]
            simp [hgt]
          clear hOw hO hon ht hd HDN
          have HA : Hid (Own w0 (wr.alloc (.cells #[.int .u32 (ti : Int), .int .i32 tx, .int .i32 ty] 31)) (Row 31 3 (.slice a1 on c1) on (cat spc O) :: Cells wr.heap.size #[.int .u32 (ti : Int), .int .i32 tx, .int .i32 ty] 31 :: SRow (some ⟨g, 0, none⟩) cD D :: l)) := (HW.out.allocC _ _).two
          go_wp2_with (at_builtin; refine append1_own rfl _ _ 22 rfl 31 i0 (.agg #[.int .u32 0, .int .i32 0, .int .i32 0]) 3 12 Tryd.underlying22 hi hz0 hz1 hz2 rfl (by decide) _ _ _ rfl HA.out _ #[.int .u32 (si : Int), .int .i32 sx, .int .i32 sy] (by simp) rfl rfl (one_spc (si, sx, sy)) (by unfold maxLen; omega) (by omega) ?_)
          intro g2 cap2 w2 hO2 hsz
          have q0 := hO2.two.cell 0
          have q1 := hO2.two.cell 1
          have q2 := hO2.two.cell 2
          simp at q0 q1 q2
          have HO2 : Hid (Own w0 w2 (Row 31 3 (.slice (some ⟨g2, 0, none⟩) (on + 1) cap2) (on + 1) (cat spc O ++ spc (si, sx, sy)) :: SRow (some ⟨g, 0, none⟩) cD D :: l)) := hO2.two.tail
          clear hO2 hsz HA c0 c1' c2
          go_wp2_with (at_builtin; refine append1_own rfl _ _ 22 rfl 31 i0 (.agg #[.int .u32 0, .int .i32 0, .int .i32 0]) 3 12 Tryd.underlying22 hi hz0 hz1 hz2 rfl (by decide) _ _ _ rfl HO2.out _ #[.int .u32 (ti : Int), .int .i32 tx, .int .i32 ty] (by simp) rfl rfl (one_spc (ti, tx, ty)) (by unfold maxLen; omega) (by omega) ?_)
          intro g3 cap3 w3 hO3 hsz3
          have HO3 : Hid (Own w0 w3 (SRow (some ⟨g3, 0, none⟩) cap3 (O ++ [(si, sx, sy)] ++ [(ti, tx, ty)]) :: SRow (some ⟨g, 0, none⟩) cD D :: l)) := by
            have e : (O ++ [(si, sx, sy)] ++ [(ti, tx, ty)]).length = on + 1 + 1 := by rw [List.length_append, List.length_append, HON.out]; rfl
            show Own _ _ _
            unfold SRow
            rw [e, cat_append, cat_append, List.append_assoc]
            exact hO3
          clear hO3 hsz3 HO2
          go_wp2
          go_roundw
          case rel =>
            refine ⟨j + 1, some ⟨g3, 0, none⟩, cap3, by rw [HOB.out.1, List.length_append, List.length_append, HON.out]; rfl, by rw [HOB.out.2], by go_num, by omega, by rw [HOB.out.1, List.length_append, List.length_append, HON.out]; simp; omega, ?_⟩
            rw [HOB.out.1]
            exact HO3.out
          case measure => simp [iOf]; omega
        · have hgt' : ¬ (si : Int) < (ti : Int) := by omega
          have HOB : Hid (ob D (si, sx, sy) (j + 1) = O ++ [(ti, tx, ty)] ∧ dn D si (j + 1) = false) := by rw [hO]; exact ob_low ht hd hgt
          clear hOw hO hon ht hd HDN
          have HA : Hid (Own w0 (wr.alloc (.cells #[.int .u32 (ti : Int), .int .i32 tx, .int .i32 ty] 31)) (Row 31 3 (.slice a1 on c1) on (cat spc O) :: SRow (some ⟨g, 0, none⟩) cD D :: l)) := HW.out.alloc _
          go_wp2_with (at_builtin; refine append1_own rfl _ _ 22 rfl 31 i0 (.agg #[.int .u32 0, .int .i32 0, .int .i32 0]) 3 12 Tryd.underlying22 hi hz0 hz1 hz2 rfl (by decide) _ _ _ rfl HA.out _ #[.int .u32 (ti : Int), .int .i32 tx, .int .i32 ty] (by simp) rfl rfl (one_spc (ti, tx, ty)) (by unfold maxLen; omega) (by omega) ?_)
          intro g2 cap2 w2 hO2 hsz
          have HO2 : Hid (Own w0 w2 (SRow (some ⟨g2, 0, none⟩) cap2 (O ++ [(ti, tx, ty)]) :: SRow (some ⟨g, 0, none⟩) cD D :: l)) := by
            have e : (O ++ [(ti, tx, ty)]).length = on + 1 := by rw [List.length_append, HON.out]; rfl
            show Own _ _ _
            unfold SRow
            rw [e, cat_append]
            exact hO2
          clear hO2 hsz HA
          go_wp2
          go_roundw
          case rel =>
            refine ⟨j + 1, some ⟨g2, 0, none⟩, cap2, by rw [HOB.out.1, List.length_append, HON.out]; rfl, by rw [HOB.out.2], by go_num, by omega, by rw [HOB.out.1, List.length_append, HON.out]; simp; omega, ?_⟩
            rw [HOB.out.1]
            exact HO2.out
          case measure => simp [iOf]; omega
    · have hlt' : ¬ (j : Int) < (nd : Int) := by omega
      have hjn : j = D.length := by rw [← HND.out]; omega
      have hend := ob_end (s := (si, sx, sy)) HDR.out.2
      obtain ⟨O, hO⟩ : ∃ O, O = ob D (si, sx, sy) j := ⟨_, rfl⟩
      rw [← hO] at hOw hOl ⊢
      rw [← hjn, ← hO] at hend
      obtain ⟨on, hon⟩ : ∃ on, on = O.length := ⟨_, rfl⟩
      have HON : Hid (O.length = on) := hon.symm
      have HW : Hid (Own w0 wr (Row 31 3 (.slice a1 on c1) on (cat spc O) :: SRow aD cD D :: l)) := by rw [hon]; exact hOw
      rw [← hon] at hOl ⊢
      cases hd : dn D si j with
      | true =>
        have HE : Hid (putL D (si, sx, sy) = O) := by
          show _ = _
          rw [hend, show dn D (si, sx, sy).1 j = true from hd]
          rfl
        clear hend hOw hO hon hd hjn HDN
        go_wp2
        go_ret2
        refine ⟨a1, c1, by rw [HE.out, HON.out]; rfl, ?_⟩
        rw [HE.out]
        unfold SRow
        rw [HON.out]
        exact HW.out.two.tail
      | false =>
        have HE : Hid (putL D (si, sx, sy) = O ++ [(si, sx, sy)]) := by
          show _ = _
          rw [hend, show dn D (si, sx, sy).1 j = false from hd]
          rfl
        clear hend hOw hO hon hd hjn HDN
        go_wp2_with (at_builtin; refine append1_own rfl _ _ 22 rfl 31 i0 (.agg #[.int .u32 0, .int .i32 0, .int .i32 0]) 3 12 Tryd.underlying22 hi hz0 hz1 hz2 rfl (by decide) _ _ _ rfl HW.out _ #[.int .u32 (si : Int), .int .i32 sx, .int .i32 sy] (by simp) rfl rfl (one_spc (si, sx, sy)) (by unfold maxLen; omega) (by omega) ?_)
        intro g2 cap2 w2 hO2 hsz
        have HO2 : Hid (Own w0 w2 (SRow (some ⟨g2, 0, none⟩) cap2 (O ++ [(si, sx, sy)]) :: l)) := by
          have e : (O ++ [(si, sx, sy)]).length = on + 1 := by rw [List.length_append, HON.out]; rfl
          show Own _ _ _
          unfold SRow
          rw [e, cat_append]
          exact hO2.two.tail
        clear hO2 hsz
        go_wp2
        go_ret2
        refine ⟨some ⟨g2, 0, none⟩, cap2, by rw [HE.out, List.length_append, HON.out]; rfl, ?_⟩
        rw [HE.out]
        exact HO2.out
end Go.Proofs.YthokgjkgfolojabDoor
