/-
  The document's With: components with one more, or with another one of its kind.
-/
import Derived.Test.YtibdgdbkdnifbaaGreatDoorUf
namespace Go.Proofs.YtibdgdbkdnifbaaGreatDoor
open Go.RowKit Go.Maps
set_option linter.unusedVariables false
set_option maxRecDepth 100000

def insc (C : List Cp) (c : Cp) : List Cp := C.takeWhile (fun q => decide (q.k < c.k)) ++ c :: (C.dropWhile (fun q => decide (q.k < c.k))).filter (fun q => decide (q.k ≠ c.k))
/-- one step of With -/
def wstep (c : Cp) (st : List Cp × Bool) (q : Cp) : List Cp × Bool :=
  let s1 := if st.2 = false ∧ c.k ≤ q.k then (st.1 ++ [c], true) else st
  if q.k ≠ c.k then (s1.1 ++ [q], s1.2) else s1
def wfold (c : Cp) (C : List Cp) : List Cp × Bool := C.foldl (wstep c) ([], false)
theorem wfold_snoc (c : Cp) (C : List Cp) (q : Cp) : wfold c (C ++ [q]) = wstep c (wfold c C) q := by simp [wfold]
theorem fold_done (c : Cp) (C out : List Cp) : C.foldl (wstep c) (out, true) = (out ++ C.filter (fun q => decide (q.k ≠ c.k)), true) := by
  induction C generalizing out with
  | nil => simp
  | cons q t ih =>
    rw [List.foldl_cons]
    by_cases h : q.k = c.k
    · have e : wstep c (out, true) q = (out, true) := by simp [wstep, h]
      rw [e, ih]; simp [h]
    · have e : wstep c (out, true) q = (out ++ [q], true) := by simp [wstep, h]
      rw [e, ih]; simp [h]
theorem fold_not (c : Cp) (C out : List Cp) : C.foldl (wstep c) (out, false) = if C.any (fun q => decide (c.k ≤ q.k)) then (out ++ insc C c, true) else (out ++ C, false) := by
  induction C generalizing out with
  | nil => simp
  | cons q t ih =>
    rw [List.foldl_cons]
    by_cases h : c.k ≤ q.k
    · have hn : ¬ q.k < c.k := by omega
      by_cases h2 : q.k = c.k
      · have e : wstep c (out, false) q = (out ++ [c], true) := by simp [wstep, h2]
        rw [e, fold_done]
        simp [insc, h2]
      · have e : wstep c (out, false) q = (out ++ [c] ++ [q], true) := by simp [wstep, h, h2]
        rw [e, fold_done]
        simp [insc, h, h2, hn]
    · have hn : q.k < c.k := by omega
      have e : wstep c (out, false) q = (out ++ [q], false) := by simp [wstep, h]; omega
      rw [e, ih]
      simp only [List.any_cons, decide_eq_false h, Bool.false_or]
      split
      · simp [insc, hn]
      · simp
theorem dw_nil {α : Type} {p : α → Bool} {C : List α} (h : ∀ q ∈ C, p q = true) : C.dropWhile p = [] := by
  induction C with
  | nil => rfl
  | cons q t ih => rw [List.dropWhile_cons, h q List.mem_cons_self]; exact ih (fun x hx => h x (List.mem_cons_of_mem _ hx))
theorem wfold_end (c : Cp) (C : List Cp) : (if (wfold c C).2 then (wfold c C).1 else (wfold c C).1 ++ [c]) = insc C c := by
  unfold wfold
  rw [fold_not]
  by_cases h : C.any (fun q => decide (c.k ≤ q.k)) = true
  · rw [if_pos h]; simp
  · rw [if_neg h]
    have hall : ∀ q ∈ C, decide (q.k < c.k) = true := by
      intro q hq
      rw [Bool.not_eq_true, List.any_eq_false] at h
      have := h q hq
      simp at this ⊢; omega
    simp only [List.nil_append]
    unfold insc
    have hd : C.dropWhile (fun q => decide (q.k < c.k)) = [] := dw_nil hall
    have ht := List.takeWhile_append_dropWhile (p := fun q : Cp => decide (q.k < c.k)) (l := C)
    rw [hd, List.append_nil] at ht
    rw [hd, ht]
    simp
theorem insc_len (C : List Cp) (c : Cp) : (insc C c).length ≤ C.length + 1 := by
  unfold insc
  rw [List.length_append, List.length_cons]
  have h1 := List.length_filter_le (fun q : Cp => decide (q.k ≠ c.k)) (C.dropWhile (fun q => decide (q.k < c.k)))
  have h2 := congrArg List.length (List.takeWhile_append_dropWhile (p := fun q : Cp => decide (q.k < c.k)) (l := C))
  rw [List.length_append] at h2
  omega
theorem insc_set {C : List Cp} (h : C.Pairwise (fun x y => x.k < y.k)) (c : Cp) (hk : hasK C c.k = true) : insc C c = setc C c := by
  induction C with
  | nil => simp [hasK] at hk
  | cons q t ih =>
    obtain ⟨a1, a2⟩ := List.pairwise_cons.1 h
    by_cases h2 : q.k = c.k
    · have e1 : insc (q :: t) c = c :: t := by
        unfold insc
        rw [List.takeWhile_cons, List.dropWhile_cons, decide_eq_false (by omega)]
        simp only [Bool.false_eq_true, if_false, List.nil_append, List.filter_cons, h2]
        simp only [ne_eq, not_true_eq_false, decide_false, Bool.false_eq_true, if_false]
        rw [List.filter_eq_self.2]
        intro x hx
        have := a1 x hx
        simp; omega
      have e2 : setc (q :: t) c = c :: t := by
        unfold setc
        rw [List.map_cons, if_pos h2]
        congr 1
        conv => rhs; rw [← List.map_id t]
        apply List.map_congr_left
        intro x hx
        have := a1 x hx
        rw [if_neg (by omega)]; rfl
      rw [e1, e2]
    · rw [hasK_cons, decide_eq_false h2, Bool.false_or] at hk
      obtain ⟨x, hx, hxk⟩ := (hasK_iff _ _).1 hk
      have hlt : q.k < c.k := by have := a1 x hx; omega
      have e1 : insc (q :: t) c = q :: insc t c := by
        unfold insc
        rw [List.takeWhile_cons, List.dropWhile_cons, decide_eq_true hlt]
        simp
      rw [e1, ih a2 hk]
      unfold setc
      rw [List.map_cons, if_neg h2]
theorem ccat_snoc (C : List Cp) (q : Cp) : ccat (C ++ [q]) = ccat C ++ [.int .u8 (q.k : Int), .int .i32 q.a, .int .i32 q.b, .int .i32 q.c] := by
  unfold ccat; rw [cat_append]; rfl

set_option maxHeartbeats 4000000 in
theorem rwith_any (w0 w : World) (l : List Thing) (h : Own w0 w l) (ao : Option Addr) (len cap : Nat) (C : List Cp) (hCl : C.length = len) (hCs : ∀ w', Own w0 w' l → Cs w' ao C) (hCk : ∀ q ∈ C, q.k < 256) (hlen : len ≤ 100000) (c : Cp) (hck : c.k < 256) :
    Calls Tryz.prog 48 #[.slice ao len cap, c.ag] w fun e w' => ∃ ao' cap', e = .returned (.slice ao' (insc C c).length cap') ∧ Own w0 w' (Row 48 4 (.slice ao' (insc C c).length cap') (insc C c).length (ccat (insc C c)) :: l) := by
  obtain ⟨i0, hi, hz0, hz1, hz2⟩ := info_parts Tryz.infoComp
  have HCS : Hid (C.length = len ∧ (∀ w', Own w0 w' l → Cs w' ao C) ∧ ∀ q ∈ C, q.k < 256) := ⟨hCl, hCs, hCk⟩
  obtain ⟨ck, ca, cb, cc⟩ := c
  show Calls _ _ #[_, .agg #[.int .u8 (ck : Int), .int .i32 ca, .int .i32 cb, .int .i32 cc]] _ _
  have H : Hid (Own w0 (w.alloc (.cells #[.int .u8 (ck : Int), .int .i32 ca, .int .i32 cb, .int .i32 cc] 48)) (Cells w.heap.size #[.int .u8 (ck : Int), .int .i32 ca, .int .i32 cb, .int .i32 cc] 48 :: l)) := by
    exact h.allocC _ _
  have HEND : Hid ((if (wfold ⟨ck, ca, cb, cc⟩ C).2 then (wfold ⟨ck, ca, cb, cc⟩ C).1 else (wfold ⟨ck, ca, cb, cc⟩ C).1 ++ [⟨ck, ca, cb, cc⟩]) = insc C ⟨ck, ca, cb, cc⟩) := wfold_end _ _
  simp only at hck
  clear h hCl hCs hCk
  go_enter Tryz.func48, Tryz.ntmps48
  go_wp2
  go_loopw [5, 6, 11] (fun v5 v6 v11 wr => ∃ j : Nat, j ≤ len ∧ v11 = .int .i64 j ∧ ∃ (S : List Cp) (d : Bool) (a1 : Option Addr) (c1 n : Nat), wfold ⟨ck, ca, cb, cc⟩ (C.take j) = (S, d) ∧ n = S.length ∧ n ≤ 2 * j ∧ v6 = .bool d ∧ v5 = .slice a1 n c1 ∧ Own w0 wr (Row 48 4 (.slice a1 n c1) n (ccat S) :: Cells w.heap.size #[.int .u8 (ck : Int), .int .i32 ca, .int .i32 cb, .int .i32 cc] 48 :: l)) (fun _ _ v11 _ => len - (intOf v11).toNat)
  case atStart => exact ⟨0, Nat.zero_le _, rfl, [], false, none, 0, 0, rfl, rfl, Nat.le_refl _, rfl, rfl, H.out.nilRow _ _⟩
  case round =>
    obtain ⟨j, hj, rfl, S, d, a1, c1, n, hS, hn, hnj, rfl, rfl, hO⟩ := hrel
    have HO : Hid (Own w0 wr (Row 48 4 (.slice a1 n c1) n (ccat S) :: Cells w.heap.size #[.int .u8 (ck : Int), .int .i32 ca, .int .i32 cb, .int .i32 cc] 48 :: l)) := hO
    have HS : Hid (wfold ⟨ck, ca, cb, cc⟩ (C.take j) = (S, d) ∧ n = S.length) := ⟨hS, hn⟩
    clear H hS hn
    by_cases hlt : j < len
    · obtain ⟨q, hq⟩ : ∃ q, C[j]? = some q := ⟨_, List.getElem?_eq_getElem (by rw [HCS.out.1]; exact hlt)⟩
      obtain ⟨gg, o0, hao, _, y0, y1, y2, y3⟩ := (HCS.out.2.1 wr hO.tail.tail).at j q hq
      subst hao
      have hq8 := HCS.out.2.2 q (List.mem_of_getElem? hq)
      have HST : Hid (wfold ⟨ck, ca, cb, cc⟩ (C.take (j + 1)) = wstep ⟨ck, ca, cb, cc⟩ (S, d) q) := by show _ = _; rw [take_snoc C j q hq, wfold_snoc, HS.out.1]
      have hlt' : (j : Int) < (len : Int) := by omega
      clear hq
      obtain ⟨qk, qa, qb, qc⟩ := q
      simp only at y0 y1 y2 y3 hq8
      have hA : Own w0 (wr.alloc (.cells #[.int .u8 (qk : Int), .int .i32 qa, .int .i32 qb, .int .i32 qc] 48)) (Cells wr.heap.size #[.int .u8 (qk : Int), .int .i32 qa, .int .i32 qb, .int .i32 qc] 48 :: Row 48 4 (.slice a1 n c1) n (ccat S) :: Cells w.heap.size #[.int .u8 (ck : Int), .int .i32 ca, .int .i32 cb, .int .i32 cc] 48 :: l) := hO.allocC _ _
      have HA : Hid (Own w0 (wr.alloc (.cells #[.int .u8 (qk : Int), .int .i32 qa, .int .i32 qb, .int .i32 qc] 48)) (Cells wr.heap.size #[.int .u8 (qk : Int), .int .i32 qa, .int .i32 qb, .int .i32 qc] 48 :: Row 48 4 (.slice a1 n c1) n (ccat S) :: Cells w.heap.size #[.int .u8 (ck : Int), .int .i32 ca, .int .i32 cb, .int .i32 cc] 48 :: l)) := hA
      have u0 := hO.two.cell 0
      have u1 := hO.two.cell 1
      have u2 := hO.two.cell 2
      have u3 := hO.two.cell 3
      have t0 := hA.cell 0
      have t1 := hA.cell 1
      have t2 := hA.cell 2
      have t3 := hA.cell 3
      simp at u0 u1 u2 u3 t0 t1 t2 t3
      have hBD : w.heap.size < wr.heap.size := hO.two.lt
      clear hA hO HO
      cases d with
      | false =>
        by_cases hle : ck ≤ qk
        · have hle' : (ck : Int) ≤ (qk : Int) := by omega
          by_cases heq : qk = ck
          · have HST2 : Hid (wfold ⟨ck, ca, cb, cc⟩ (C.take (j + 1)) = (S ++ [⟨ck, ca, cb, cc⟩], true)) := by show _ = _; rw [HST.out]; simp [wstep, heq]
            subst heq
            have hne : ((qk : Int) != (qk : Int)) = false := by simp
            go_wp2_with (at_builtin; refine append1_own rfl _ _ 34 rfl 48 i0 _ 4 16 Tryz.underlying34 hi hz0 hz1 hz2 rfl (by decide) _ _ _ rfl HA.out.two _ #[.int .u8 (qk : Int), .int .i32 ca, .int .i32 cb, .int .i32 cc] (by simp) rfl rfl (by intro u hu; simp at hu; rcases hu with rfl | rfl | rfl | rfl <;> rfl) (by unfold maxLen; omega) (by omega) ?_)
            intro g4 c4 w4 hO4 hsz
            have v0 := hO4.two.cell 0
            have v1 := hO4.three.cell 0
            simp at v0 v1
            have H4 : Hid (Own w0 w4 (Row 48 4 (.slice (some ⟨g4, 0, none⟩) (n + 1) c4) (n + 1) (ccat (S ++ [⟨qk, ca, cb, cc⟩])) :: Cells w.heap.size #[.int .u8 (qk : Int), .int .i32 ca, .int .i32 cb, .int .i32 cc] 48 :: l)) := by show Own _ _ _; rw [ccat_snoc]; exact hO4.two.tail
            clear hO4 hsz u0 u1 u2 u3 t0 t1 t2 t3 y0 y1 y2 y3
            go_wp2
            go_roundw
            case rel => exact ⟨j + 1, by omega, by go_num, _, true, _, _, n + 1, HST2.out, by rw [List.length_append, ← HS.out.2]; rfl, by omega, rfl, rfl, H4.out⟩
            case measure => simp [intOf]; omega
          · have hne : ((qk : Int) != (ck : Int)) = true := by simp; omega
            have HST2 : Hid (wfold ⟨ck, ca, cb, cc⟩ (C.take (j + 1)) = (S ++ [⟨ck, ca, cb, cc⟩] ++ [⟨qk, qa, qb, qc⟩], true)) := by show _ = _; rw [HST.out]; simp [wstep, hle, heq]
            go_wp2_with (at_builtin; refine append1_own rfl _ _ 34 rfl 48 i0 _ 4 16 Tryz.underlying34 hi hz0 hz1 hz2 rfl (by decide) _ _ _ rfl HA.out.two _ #[.int .u8 (ck : Int), .int .i32 ca, .int .i32 cb, .int .i32 cc] (by simp) rfl rfl (by intro u hu; simp at hu; rcases hu with rfl | rfl | rfl | rfl <;> rfl) (by unfold maxLen; omega) (by omega) ?_)
            intro g4 c4 w4 hO4 hsz
            have v0 := hO4.two.cell 0
            have v1 := hO4.three.cell 0
            have x1 := hO4.two.cell 1
            have x2 := hO4.two.cell 2
            have x3 := hO4.two.cell 3
            simp at v0 v1 x1 x2 x3
            have H4 : Hid (Own w0 w4 (Row 48 4 (.slice (some ⟨g4, 0, none⟩) (n + 1) c4) (n + 1) (ccat (S ++ [⟨ck, ca, cb, cc⟩])) :: Cells w.heap.size #[.int .u8 (ck : Int), .int .i32 ca, .int .i32 cb, .int .i32 cc] 48 :: l)) := by show Own _ _ _; rw [ccat_snoc]; exact hO4.two.tail
            clear hO4 hsz u0 u1 u2 u3 t0 t1 t2 t3 y0 y1 y2 y3
            go_wp2_with (at_builtin; refine append1_own rfl _ _ 34 rfl 48 i0 _ 4 16 Tryz.underlying34 hi hz0 hz1 hz2 rfl (by decide) _ _ _ rfl H4.out _ #[.int .u8 (qk : Int), .int .i32 qa, .int .i32 qb, .int .i32 qc] (by simp) rfl rfl (by intro u hu; simp at hu; rcases hu with rfl | rfl | rfl | rfl <;> rfl) (by unfold maxLen; omega) (by omega) ?_)
            intro g5 c5 w5 hO5 hsz
            have H5 : Hid (Own w0 w5 (Row 48 4 (.slice (some ⟨g5, 0, none⟩) (n + 1 + 1) c5) (n + 1 + 1) (ccat (S ++ [⟨ck, ca, cb, cc⟩] ++ [⟨qk, qa, qb, qc⟩])) :: Cells w.heap.size #[.int .u8 (ck : Int), .int .i32 ca, .int .i32 cb, .int .i32 cc] 48 :: l)) := by show Own _ _ _; rw [ccat_snoc]; exact hO5
            clear hO5 hsz v0 v1 x1 x2 x3 H4
            go_wp2
            go_roundw
            case rel => exact ⟨j + 1, by omega, by go_num, _, true, _, _, n + 1 + 1, HST2.out, by rw [List.length_append, List.length_append, ← HS.out.2]; rfl, by omega, rfl, rfl, H5.out⟩
            case measure => simp [intOf]; omega
        · have hle' : ¬ (ck : Int) ≤ (qk : Int) := by omega
          have hne : ((qk : Int) != (ck : Int)) = true := by simp; omega
          have HST2 : Hid (wfold ⟨ck, ca, cb, cc⟩ (C.take (j + 1)) = (S ++ [⟨qk, qa, qb, qc⟩], false)) := by show _ = _; rw [HST.out]; simp [wstep, hle]; omega
          go_wp2_with (at_builtin; refine append1_own rfl _ _ 34 rfl 48 i0 _ 4 16 Tryz.underlying34 hi hz0 hz1 hz2 rfl (by decide) _ _ _ rfl HA.out.two _ #[.int .u8 (qk : Int), .int .i32 qa, .int .i32 qb, .int .i32 qc] (by simp) rfl rfl (by intro u hu; simp at hu; rcases hu with rfl | rfl | rfl | rfl <;> rfl) (by unfold maxLen; omega) (by omega) ?_)
          intro g4 c4 w4 hO4 hsz
          have H4 : Hid (Own w0 w4 (Row 48 4 (.slice (some ⟨g4, 0, none⟩) (n + 1) c4) (n + 1) (ccat (S ++ [⟨qk, qa, qb, qc⟩])) :: Cells w.heap.size #[.int .u8 (ck : Int), .int .i32 ca, .int .i32 cb, .int .i32 cc] 48 :: l)) := by show Own _ _ _; rw [ccat_snoc]; exact hO4.two.tail
          clear hO4 hsz u0 u1 u2 u3 t0 t1 t2 t3 y0 y1 y2 y3
          go_wp2
          go_roundw
          case rel => exact ⟨j + 1, by omega, by go_num, _, false, _, _, n + 1, HST2.out, by rw [List.length_append, ← HS.out.2]; rfl, by omega, rfl, rfl, H4.out⟩
          case measure => simp [intOf]; omega
      | true =>
        by_cases heq : qk = ck
        · have HST2 : Hid (wfold ⟨ck, ca, cb, cc⟩ (C.take (j + 1)) = (S, true)) := by show _ = _; rw [HST.out]; simp [wstep, heq]
          subst heq
          have hne : ((qk : Int) != (qk : Int)) = false := by simp
          have H4 : Hid (Own w0 (wr.alloc (.cells #[.int .u8 (qk : Int), .int .i32 qa, .int .i32 qb, .int .i32 qc] 48)) (Row 48 4 (.slice a1 n c1) n (ccat S) :: Cells w.heap.size #[.int .u8 (qk : Int), .int .i32 ca, .int .i32 cb, .int .i32 cc] 48 :: l)) := HA.out.tail
          go_wp2
          go_roundw
          case rel => exact ⟨j + 1, by omega, by go_num, _, true, _, _, n, HST2.out, HS.out.2, by omega, rfl, rfl, H4.out⟩
          case measure => simp [intOf]; omega
        · have hne : ((qk : Int) != (ck : Int)) = true := by simp; omega
          have HST2 : Hid (wfold ⟨ck, ca, cb, cc⟩ (C.take (j + 1)) = (S ++ [⟨qk, qa, qb, qc⟩], true)) := by show _ = _; rw [HST.out]; simp [wstep, heq]
          go_wp2_with (at_builtin; refine append1_own rfl _ _ 34 rfl 48 i0 _ 4 16 Tryz.underlying34 hi hz0 hz1 hz2 rfl (by decide) _ _ _ rfl HA.out.two _ #[.int .u8 (qk : Int), .int .i32 qa, .int .i32 qb, .int .i32 qc] (by simp) rfl rfl (by intro u hu; simp at hu; rcases hu with rfl | rfl | rfl | rfl <;> rfl) (by unfold maxLen; omega) (by omega) ?_)
          intro g4 c4 w4 hO4 hsz
          have H4 : Hid (Own w0 w4 (Row 48 4 (.slice (some ⟨g4, 0, none⟩) (n + 1) c4) (n + 1) (ccat (S ++ [⟨qk, qa, qb, qc⟩])) :: Cells w.heap.size #[.int .u8 (ck : Int), .int .i32 ca, .int .i32 cb, .int .i32 cc] 48 :: l)) := by show Own _ _ _; rw [ccat_snoc]; exact hO4.two.tail
          clear hO4 hsz u0 u1 u2 u3 t0 t1 t2 t3 y0 y1 y2 y3
          go_wp2
          go_roundw
          case rel => exact ⟨j + 1, by omega, by go_num, _, true, _, _, n + 1, HST2.out, by rw [List.length_append, ← HS.out.2]; rfl, by omega, rfl, rfl, H4.out⟩
          case measure => simp [intOf]; omega
    · have hlt' : ¬ (j : Int) < (len : Int) := by omega
      have hW : wfold ⟨ck, ca, cb, cc⟩ C = (S, d) := by rw [← HS.out.1, List.take_of_length_le (by rw [HCS.out.1]; omega)]
      have u0 := hO.two.cell 0
      have u1 := hO.two.cell 1
      have u2 := hO.two.cell 2
      have u3 := hO.two.cell 3
      simp at u0 u1 u2 u3
      cases d with
      | true =>
        have HE2 : Hid (S = insc C ⟨ck, ca, cb, cc⟩) := by have := HEND.out; rw [hW] at this; exact this
        clear hO hW
        go_wp2
        go_ret
        rw [← HE2.out, ← HS.out.2]
        exact ⟨_, _, rfl, HO.out.two.tail⟩
      | false =>
        have HE2 : Hid (S ++ [⟨ck, ca, cb, cc⟩] = insc C ⟨ck, ca, cb, cc⟩) := by have := HEND.out; rw [hW] at this; exact this
        clear hO hW
        go_wp2_with (at_builtin; refine append1_own rfl _ _ 34 rfl 48 i0 _ 4 16 Tryz.underlying34 hi hz0 hz1 hz2 rfl (by decide) _ _ _ rfl HO.out _ #[.int .u8 (ck : Int), .int .i32 ca, .int .i32 cb, .int .i32 cc] (by simp) rfl rfl (by intro u hu; simp at hu; rcases hu with rfl | rfl | rfl | rfl <;> rfl) (by unfold maxLen; omega) (by omega) ?_)
        intro g4 c4 w4 hO4 hsz
        have H4 : Hid (Own w0 w4 (Row 48 4 (.slice (some ⟨g4, 0, none⟩) (n + 1) c4) (n + 1) (ccat (S ++ [⟨ck, ca, cb, cc⟩])) :: l)) := by show Own _ _ _; rw [ccat_snoc]; exact hO4.two.tail
        clear hO4 hsz
        go_wp2
        go_ret
        rw [← HE2.out, List.length_append, ← HS.out.2]
        exact ⟨_, _, rfl, H4.out⟩
end Go.Proofs.YtibdgdbkdnifbaaGreatDoor
