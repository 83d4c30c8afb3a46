/-
  The document's With: components with one more, or with another one of its kind.
-/
import Derived.Test.YtflmgilmbppieaaGreatDoorUf
import Derived.Test.YtflmgilmbppieaaGreatDoorJrh
import Derived.Test.YtflmgilmbppieaaGreatDoorXg
import Derived.Test.YtflmgilmbppieaaGreatDoorYa
import Derived.Test.YtflmgilmbppieaaGreatDoorYx
import Derived.Test.YtflmgilmbppieaaGreatDoorUh
import Derived.Test.YtflmgilmbppieaaGreatDoorOd
import Derived.Test.YtflmgilmbppieaaGreatDoorUg
import Derived.Deep.RegionLaw
import Derived.Test.YtflmgilmbppieaaGreatDoorOf
namespace Go.Proofs.YtflmgilmbppieaaGreatDoor
open Go.RowKit Go.Maps
set_option linter.unusedVariables false
set_option maxRecDepth 100000

def insc (C : List Cp) (c : Cp) : List Cp := C.takeWhile (fun q => decide (q.k < c.k)) ++ c :: (C.dropWhile (fun q => decide (q.k < c.k))).filter (fun q => decide (q.k ≠ c.k))
/-- one step of With -/
def wstepU (c : Cp) (st : List Cp × Bool) (q : Cp) : List Cp × Bool :=
  let s1 := if st.2 = false ∧ c.k ≤ q.k then (st.1 ++ [c], true) else st
  if q.k ≠ c.k then (s1.1 ++ [q], s1.2) else s1
def wfold (c : Cp) (C : List Cp) : List Cp × Bool := C.foldl (wstepU c) ([], false)
theorem wfold_snoc (c : Cp) (C : List Cp) (q : Cp) : wfold c (C ++ [q]) = wstepU c (wfold c C) q := by simp [wfold]
theorem fold_done (c : Cp) (C out : List Cp) : C.foldl (wstepU c) (out, true) = (out ++ C.filter (fun q => decide (q.k ≠ c.k)), true) := by
  induction C generalizing out with
  | nil => simp
  | cons q t ih =>
    rw [List.foldl_cons]
    by_cases h : q.k = c.k
    · have e : wstepU c (out, true) q = (out, true) := by simp [wstepU, h]
      rw [e, ih]; simp [h]
    · have e : wstepU c (out, true) q = (out ++ [q], true) := by simp [wstepU, h]
      rw [e, ih]; simp [h]
theorem fold_not (c : Cp) (C out : List Cp) : C.foldl (wstepU c) (out, false) = if C.any (fun q => decide (c.k ≤ q.k)) then (out ++ insc C c, true) else (out ++ C, false) := by
  induction C generalizing out with
  | nil => simp
  | cons q t ih =>
    rw [List.foldl_cons]
    by_cases h : c.k ≤ q.k
    · have hn : ¬ q.k < c.k := by omega
      by_cases h2 : q.k = c.k
      · have e : wstepU c (out, false) q = (out ++ [c], true) := by simp [wstepU, h2]
        rw [e, fold_done]
        simp [insc, h2]
      · have e : wstepU c (out, false) q = (out ++ [c] ++ [q], true) := by simp [wstepU, h, h2]
        rw [e, fold_done]
        simp [insc, h, h2, hn]
    · have hn : q.k < c.k := by omega
      have e : wstepU c (out, false) q = (out ++ [q], false) := by simp [wstepU, h]; omega
      rw [e, ih]
      simp only [List.any_cons, decide_eq_false h, Bool.false_or]
      split
      · simp [insc, hn]
      · simp
theorem dw_nil {α : Type} {p : α → Bool} {C : List α} (h : ∀ q ∈ C, p q = true) : C.dropWhile p = [] := by
  induction C with
  | nil => rfl
  | cons q t ih => rw [List.dropWhile_cons, h q List.mem_cons_self]; exact ih (fun x hx => h x (List.mem_cons_of_mem _ hx))
theorem wfold_end (c : Cp) (C : List Cp) : (if (wfold c C).2 then (wfold c C).1 else (wfold c C).1 ++ [c]) = insc C c := by
  unfold wfold
  rw [fold_not]
  by_cases h : C.any (fun q => decide (c.k ≤ q.k)) = true
  · rw [if_pos h]; simp
  · rw [if_neg h]
    have hall : ∀ q ∈ C, decide (q.k < c.k) = true := by
      intro q hq
      rw [Bool.not_eq_true, List.any_eq_false] at h
      have := h q hq
      simp at this ⊢; omega
    simp only [List.nil_append]
    unfold insc
    have hd : C.dropWhile (fun q => decide (q.k < c.k)) = [] := dw_nil hall
    have ht := List.takeWhile_append_dropWhile (p := fun q : Cp => decide (q.k < c.k)) (l := C)
    rw [hd, List.append_nil] at ht
    rw [hd, ht]
    simp
theorem insc_len (C : List Cp) (c : Cp) : (insc C c).length ≤ C.length + 1 := by
  unfold insc
  rw [List.length_append, List.length_cons]
  have h1 := List.length_filter_le (fun q : Cp => decide (q.k ≠ c.k)) (C.dropWhile (fun q => decide (q.k < c.k)))
  have h2 := congrArg List.length (List.takeWhile_append_dropWhile (p := fun q : Cp => decide (q.k < c.k)) (l := C))
  rw [List.length_append] at h2
  omega
theorem insc_set {C : List Cp} (h : C.Pairwise (fun x y => x.k < y.k)) (c : Cp) (hk : hasK C c.k = true) : insc C c = setc C c := by
  induction C with
  | nil => simp [hasK] at hk
  | cons q t ih =>
    obtain ⟨a1, a2⟩ := List.pairwise_cons.1 h
    by_cases h2 : q.k = c.k
    · have e1 : insc (q :: t) c = c :: t := by
        unfold insc
        rw [List.takeWhile_cons, List.dropWhile_cons, decide_eq_false (by omega)]
        simp only [Bool.false_eq_true, if_false, List.nil_append, List.filter_cons, h2]
        simp only [ne_eq, not_true_eq_false, decide_false, Bool.false_eq_true, if_false]
        rw [List.filter_eq_self.2]
        intro x hx
        have := a1 x hx
        simp; omega
      have e2 : setc (q :: t) c = c :: t := by
        unfold setc
        rw [List.map_cons, if_pos h2]
        congr 1
        conv => rhs; rw [← List.map_id t]
        apply List.map_congr_left
        intro x hx
        have := a1 x hx
        rw [if_neg (by omega)]; rfl
      rw [e1, e2]
    · rw [hasK_cons, decide_eq_false h2, Bool.false_or] at hk
      obtain ⟨x, hx, hxk⟩ := (hasK_iff _ _).1 hk
      have hlt : q.k < c.k := by have := a1 x hx; omega
      have e1 : insc (q :: t) c = q :: insc t c := by
        unfold insc
        rw [List.takeWhile_cons, List.dropWhile_cons, decide_eq_true hlt]
        simp
      rw [e1, ih a2 hk]
      unfold setc
      rw [List.map_cons, if_neg h2]
theorem ccat_snoc (C : List Cp) (q : Cp) : ccat (C ++ [q]) = ccat C ++ [.int .u8 (q.k : Int), .int .i32 q.a, .int .i32 q.b, .int .i32 q.c] := by
  unfold ccat; rw [cat_append]; rfl

set_option maxHeartbeats 4000000 in
theorem rwith_any (w0 w : World) (l : List Thing) (h : Own w0 w l) (ao : Option Addr) (len cap : Nat) (C : List Cp) (hCl : C.length = len) (hCs : ∀ w', Own w0 w' l → Cs w' ao C) (hCk : ∀ q ∈ C, q.k < 256) (hlen : len ≤ 100000) (c : Cp) (hck : c.k < 256) :
    Calls Tryz.prog 139 #[.slice ao len cap, c.ag] w fun e w' => ∃ ao' cap', e = .returned (.slice ao' (insc C c).length cap') ∧ Own w0 w' (Row 46 4 (.slice ao' (insc C c).length cap') (insc C c).length (ccat (insc C c)) :: l) := by
  obtain ⟨i0, hi, hz0, hz1, hz2⟩ := info_parts Tryz.infoComp
  have HCS : Hid (C.length = len ∧ (∀ w', Own w0 w' l → Cs w' ao C) ∧ ∀ q ∈ C, q.k < 256) := ⟨hCl, hCs, hCk⟩
  obtain ⟨ck, ca, cb, cc⟩ := c
  show Calls _ _ #[_, .agg #[.int .u8 (ck : Int), .int .i32 ca, .int .i32 cb, .int .i32 cc]] _ _
  have H : Hid (Own w0 (w.alloc (.cells #[.int .u8 (ck : Int), .int .i32 ca, .int .i32 cb, .int .i32 cc] 46)) (Cells w.heap.size #[.int .u8 (ck : Int), .int .i32 ca, .int .i32 cb, .int .i32 cc] 46 :: l)) := by
    exact h.allocC _ _
  have HEND : Hid ((if (wfold ⟨ck, ca, cb, cc⟩ C).2 then (wfold ⟨ck, ca, cb, cc⟩ C).1 else (wfold ⟨ck, ca, cb, cc⟩ C).1 ++ [⟨ck, ca, cb, cc⟩]) = insc C ⟨ck, ca, cb, cc⟩) := wfold_end _ _
  simp only at hck
  clear h hCl hCs hCk
  go_enter Tryz.func139, Tryz.ntmps139
  go_wp2
  go_loopw [5, 6, 11] (fun v5 v6 v11 wr => ∃ j : Nat, j ≤ len ∧ v11 = .int .i64 j ∧ ∃ (S : List Cp) (d : Bool) (a1 : Option Addr) (c1 n : Nat), wfold ⟨ck, ca, cb, cc⟩ (C.take j) = (S, d) ∧ n = S.length ∧ n ≤ 2 * j ∧ v6 = .bool d ∧ v5 = .slice a1 n c1 ∧ Own w0 wr (Row 46 4 (.slice a1 n c1) n (ccat S) :: Cells w.heap.size #[.int .u8 (ck : Int), .int .i32 ca, .int .i32 cb, .int .i32 cc] 46 :: l)) (fun _ _ v11 _ => len - (intOf v11).toNat)
  case atStart => exact ⟨0, Nat.zero_le _, rfl, [], false, none, 0, 0, rfl, rfl, Nat.le_refl _, rfl, rfl, H.out.nilRow _ _⟩
  case round =>
    obtain ⟨j, hj, rfl, S, d, a1, c1, n, hS, hn, hnj, rfl, rfl, hO⟩ := hrel
    have HO : Hid (Own w0 wr (Row 46 4 (.slice a1 n c1) n (ccat S) :: Cells w.heap.size #[.int .u8 (ck : Int), .int .i32 ca, .int .i32 cb, .int .i32 cc] 46 :: l)) := hO
    have HS : Hid (wfold ⟨ck, ca, cb, cc⟩ (C.take j) = (S, d) ∧ n = S.length) := ⟨hS, hn⟩
    clear H hS hn
    by_cases hlt : j < len
    · obtain ⟨q, hq⟩ : ∃ q, C[j]? = some q := ⟨_, List.getElem?_eq_getElem (by rw [HCS.out.1]; exact hlt)⟩
      obtain ⟨gg, o0, hao, _, y0, y1, y2, y3⟩ := (HCS.out.2.1 wr hO.tail.tail).at j q hq
      subst hao
      have hq8 := HCS.out.2.2 q (List.mem_of_getElem? hq)
      have HST : Hid (wfold ⟨ck, ca, cb, cc⟩ (C.take (j + 1)) = wstepU ⟨ck, ca, cb, cc⟩ (S, d) q) := by show _ = _; rw [take_snoc C j q hq, wfold_snoc, HS.out.1]
      have hlt' : (j : Int) < (len : Int) := by omega
      clear hq
      obtain ⟨qk, qa, qb, qc⟩ := q
      simp only at y0 y1 y2 y3 hq8
      have hA : Own w0 (wr.alloc (.cells #[.int .u8 (qk : Int), .int .i32 qa, .int .i32 qb, .int .i32 qc] 46)) (Cells wr.heap.size #[.int .u8 (qk : Int), .int .i32 qa, .int .i32 qb, .int .i32 qc] 46 :: Row 46 4 (.slice a1 n c1) n (ccat S) :: Cells w.heap.size #[.int .u8 (ck : Int), .int .i32 ca, .int .i32 cb, .int .i32 cc] 46 :: l) := hO.allocC _ _
      have HA : Hid (Own w0 (wr.alloc (.cells #[.int .u8 (qk : Int), .int .i32 qa, .int .i32 qb, .int .i32 qc] 46)) (Cells wr.heap.size #[.int .u8 (qk : Int), .int .i32 qa, .int .i32 qb, .int .i32 qc] 46 :: Row 46 4 (.slice a1 n c1) n (ccat S) :: Cells w.heap.size #[.int .u8 (ck : Int), .int .i32 ca, .int .i32 cb, .int .i32 cc] 46 :: l)) := hA
      have u0 := hO.two.cell 0
      have u1 := hO.two.cell 1
      have u2 := hO.two.cell 2
      have u3 := hO.two.cell 3
      have t0 := hA.cell 0
      have t1 := hA.cell 1
      have t2 := hA.cell 2
      have t3 := hA.cell 3
      simp at u0 u1 u2 u3 t0 t1 t2 t3
      have hBD : w.heap.size < wr.heap.size := hO.two.lt
      clear hA hO HO
      cases d with
      | false =>
        by_cases hle : ck ≤ qk
        · have hle' : (ck : Int) ≤ (qk : Int) := by omega
          by_cases heq : qk = ck
          · have HST2 : Hid (wfold ⟨ck, ca, cb, cc⟩ (C.take (j + 1)) = (S ++ [⟨ck, ca, cb, cc⟩], true)) := by show _ = _; rw [HST.out]; simp [wstepU, heq]
            subst heq
            have hne : ((qk : Int) != (qk : Int)) = false := by simp
            go_wp2_with (at_builtin; refine append1_own rfl _ _ 39 rfl 46 i0 _ 4 16 Tryz.underlying39 hi hz0 hz1 hz2 rfl (by decide) _ _ _ rfl HA.out.two _ #[.int .u8 (qk : Int), .int .i32 ca, .int .i32 cb, .int .i32 cc] (by simp) rfl rfl (by intro u hu; simp at hu; rcases hu with rfl | rfl | rfl | rfl <;> rfl) (by unfold maxLen; omega) (by omega) ?_)
            intro g4 c4 w4 hO4 hsz
            have v0 := hO4.two.cell 0
            have v1 := hO4.three.cell 0
            simp at v0 v1
            have H4 : Hid (Own w0 w4 (Row 46 4 (.slice (some ⟨g4, 0, none⟩) (n + 1) c4) (n + 1) (ccat (S ++ [⟨qk, ca, cb, cc⟩])) :: Cells w.heap.size #[.int .u8 (qk : Int), .int .i32 ca, .int .i32 cb, .int .i32 cc] 46 :: l)) := by show Own _ _ _; rw [ccat_snoc]; exact hO4.two.tail
            clear hO4 hsz u0 u1 u2 u3 t0 t1 t2 t3 y0 y1 y2 y3
            go_wp2
            go_roundw
            case rel => exact ⟨j + 1, by omega, by go_num, _, true, _, _, n + 1, HST2.out, by rw [List.length_append, ← HS.out.2]; rfl, by omega, rfl, rfl, H4.out⟩
            case measure => simp [intOf]; omega
          · have hne : ((qk : Int) != (ck : Int)) = true := by simp; omega
            have HST2 : Hid (wfold ⟨ck, ca, cb, cc⟩ (C.take (j + 1)) = (S ++ [⟨ck, ca, cb, cc⟩] ++ [⟨qk, qa, qb, qc⟩], true)) := by show _ = _; rw [HST.out]; simp [wstepU, hle, heq]
            go_wp2_with (at_builtin; refine append1_own rfl _ _ 39 rfl 46 i0 _ 4 16 Tryz.underlying39 hi hz0 hz1 hz2 rfl (by decide) _ _ _ rfl HA.out.two _ #[.int .u8 (ck : Int), .int .i32 ca, .int .i32 cb, .int .i32 cc] (by simp) rfl rfl (by intro u hu; simp at hu; rcases hu with rfl | rfl | rfl | rfl <;> rfl) (by unfold maxLen; omega) (by omega) ?_)
            intro g4 c4 w4 hO4 hsz
            have v0 := hO4.two.cell 0
            have v1 := hO4.three.cell 0
            have x1 := hO4.two.cell 1
            have x2 := hO4.two.cell 2
            have x3 := hO4.two.cell 3
            simp at v0 v1 x1 x2 x3
            have H4 : Hid (Own w0 w4 (Row 46 4 (.slice (some ⟨g4, 0, none⟩) (n + 1) c4) (n + 1) (ccat (S ++ [⟨ck, ca, cb, cc⟩])) :: Cells w.heap.size #[.int .u8 (ck : Int), .int .i32 ca, .int .i32 cb, .int .i32 cc] 46 :: l)) := by show Own _ _ _; rw [ccat_snoc]; exact hO4.two.tail
            clear hO4 hsz u0 u1 u2 u3 t0 t1 t2 t3 y0 y1 y2 y3
            go_wp2_with (at_builtin; refine append1_own rfl _ _ 39 rfl 46 i0 _ 4 16 Tryz.underlying39 hi hz0 hz1 hz2 rfl (by decide) _ _ _ rfl H4.out _ #[.int .u8 (qk : Int), .int .i32 qa, .int .i32 qb, .int .i32 qc] (by simp) rfl rfl (by intro u hu; simp at hu; rcases hu with rfl | rfl | rfl | rfl <;> rfl) (by unfold maxLen; omega) (by omega) ?_)
            intro g5 c5 w5 hO5 hsz
            have H5 : Hid (Own w0 w5 (Row 46 4 (.slice (some ⟨g5, 0, none⟩) (n + 1 + 1) c5) (n + 1 + 1) (ccat (S ++ [⟨ck, ca, cb, cc⟩] ++ [⟨qk, qa, qb, qc⟩])) :: Cells w.heap.size #[.int .u8 (ck : Int), .int .i32 ca, .int .i32 cb, .int .i32 cc] 46 :: l)) := by show Own _ _ _; rw [ccat_snoc]; exact hO5
            clear hO5 hsz v0 v1 x1 x2 x3 H4
            go_wp2
            go_roundw
            case rel => exact ⟨j + 1, by omega, by go_num, _, true, _, _, n + 1 + 1, HST2.out, by rw [List.length_append, List.length_append, ← HS.out.2]; rfl, by omega, rfl, rfl, H5.out⟩
            case measure => simp [intOf]; omega
        · have hle' : ¬ (ck : Int) ≤ (qk : Int) := by omega
          have hne : ((qk : Int) != (ck : Int)) = true := by simp; omega
          have HST2 : Hid (wfold ⟨ck, ca, cb, cc⟩ (C.take (j + 1)) = (S ++ [⟨qk, qa, qb, qc⟩], false)) := by show _ = _; rw [HST.out]; simp [wstepU, hle]; omega
          go_wp2_with (at_builtin; refine append1_own rfl _ _ 39 rfl 46 i0 _ 4 16 Tryz.underlying39 hi hz0 hz1 hz2 rfl (by decide) _ _ _ rfl HA.out.two _ #[.int .u8 (qk : Int), .int .i32 qa, .int .i32 qb, .int .i32 qc] (by simp) rfl rfl (by intro u hu; simp at hu; rcases hu with rfl | rfl | rfl | rfl <;> rfl) (by unfold maxLen; omega) (by omega) ?_)
          intro g4 c4 w4 hO4 hsz
          have H4 : Hid (Own w0 w4 (Row 46 4 (.slice (some ⟨g4, 0, none⟩) (n + 1) c4) (n + 1) (ccat (S ++ [⟨qk, qa, qb, qc⟩])) :: Cells w.heap.size #[.int .u8 (ck : Int), .int .i32 ca, .int .i32 cb, .int .i32 cc] 46 :: l)) := by show Own _ _ _; rw [ccat_snoc]; exact hO4.two.tail
          clear hO4 hsz u0 u1 u2 u3 t0 t1 t2 t3 y0 y1 y2 y3
          go_wp2
          go_roundw
          case rel => exact ⟨j + 1, by omega, by go_num, _, false, _, _, n + 1, HST2.out, by rw [List.length_append, ← HS.out.2]; rfl, by omega, rfl, rfl, H4.out⟩
          case measure => simp [intOf]; omega
      | true =>
        by_cases heq : qk = ck
        · have HST2 : Hid (wfold ⟨ck, ca, cb, cc⟩ (C.take (j + 1)) = (S, true)) := by show _ = _; rw [HST.out]; simp [wstepU, heq]
          subst heq
          have hne : ((qk : Int) != (qk : Int)) = false := by simp
          have H4 : Hid (Own w0 (wr.alloc (.cells #[.int .u8 (qk : Int), .int .i32 qa, .int .i32 qb, .int .i32 qc] 46)) (Row 46 4 (.slice a1 n c1) n (ccat S) :: Cells w.heap.size #[.int .u8 (qk : Int), .int .i32 ca, .int .i32 cb, .int .i32 cc] 46 :: l)) := HA.out.tail
          go_wp2
          go_roundw
          case rel => exact ⟨j + 1, by omega, by go_num, _, true, _, _, n, HST2.out, HS.out.2, by omega, rfl, rfl, H4.out⟩
          case measure => simp [intOf]; omega
        · have hne : ((qk : Int) != (ck : Int)) = true := by simp; omega
          have HST2 : Hid (wfold ⟨ck, ca, cb, cc⟩ (C.take (j + 1)) = (S ++ [⟨qk, qa, qb, qc⟩], true)) := by show _ = _; rw [HST.out]; simp [wstepU, heq]
          go_wp2_with (at_builtin; refine append1_own rfl _ _ 39 rfl 46 i0 _ 4 16 Tryz.underlying39 hi hz0 hz1 hz2 rfl (by decide) _ _ _ rfl HA.out.two _ #[.int .u8 (qk : Int), .int .i32 qa, .int .i32 qb, .int .i32 qc] (by simp) rfl rfl (by intro u hu; simp at hu; rcases hu with rfl | rfl | rfl | rfl <;> rfl) (by unfold maxLen; omega) (by omega) ?_)
          intro g4 c4 w4 hO4 hsz
          have H4 : Hid (Own w0 w4 (Row 46 4 (.slice (some ⟨g4, 0, none⟩) (n + 1) c4) (n + 1) (ccat (S ++ [⟨qk, qa, qb, qc⟩])) :: Cells w.heap.size #[.int .u8 (ck : Int), .int .i32 ca, .int .i32 cb, .int .i32 cc] 46 :: l)) := by show Own _ _ _; rw [ccat_snoc]; exact hO4.two.tail
          clear hO4 hsz u0 u1 u2 u3 t0 t1 t2 t3 y0 y1 y2 y3
          go_wp2
          go_roundw
          case rel => exact ⟨j + 1, by omega, by go_num, _, true, _, _, n + 1, HST2.out, by rw [List.length_append, ← HS.out.2]; rfl, by omega, rfl, rfl, H4.out⟩
          case measure => simp [intOf]; omega
    · have hlt' : ¬ (j : Int) < (len : Int) := by omega
      have hW : wfold ⟨ck, ca, cb, cc⟩ C = (S, d) := by rw [← HS.out.1, List.take_of_length_le (by rw [HCS.out.1]; omega)]
      have u0 := hO.two.cell 0
      have u1 := hO.two.cell 1
      have u2 := hO.two.cell 2
      have u3 := hO.two.cell 3
      simp at u0 u1 u2 u3
      cases d with
      | true =>
        have HE2 : Hid (S = insc C ⟨ck, ca, cb, cc⟩) := by have := HEND.out; rw [hW] at this; exact this
        clear hO hW
        go_wp2
        go_ret
        rw [← HE2.out, ← HS.out.2]
        exact ⟨_, _, rfl, HO.out.two.tail⟩
      | false =>
        have HE2 : Hid (S ++ [⟨ck, ca, cb, cc⟩] = insc C ⟨ck, ca, cb, cc⟩) := by have := HEND.out; rw [hW] at this; exact this
        clear hO hW
        go_wp2_with (at_builtin; refine append1_own rfl _ _ 39 rfl 46 i0 _ 4 16 Tryz.underlying39 hi hz0 hz1 hz2 rfl (by decide) _ _ _ rfl HO.out _ #[.int .u8 (ck : Int), .int .i32 ca, .int .i32 cb, .int .i32 cc] (by simp) rfl rfl (by intro u hu; simp at hu; rcases hu with rfl | rfl | rfl | rfl <;> rfl) (by unfold maxLen; omega) (by omega) ?_)
        intro g4 c4 w4 hO4 hsz
        have H4 : Hid (Own w0 w4 (Row 46 4 (.slice (some ⟨g4, 0, none⟩) (n + 1) c4) (n + 1) (ccat (S ++ [⟨ck, ca, cb, cc⟩])) :: l)) := by show Own _ _ _; rw [ccat_snoc]; exact hO4.two.tail
        clear hO4 hsz
        go_wp2
        go_ret
        rw [← HE2.out, List.length_append, ← HS.out.2]
        exact ⟨_, _, rfl, H4.out⟩
end Go.Proofs.YtflmgilmbppieaaGreatDoor

/-
  The document's store: Get, Set, Add, Remove.
-/
namespace Go.Proofs.YtflmgilmbppieaaGreatDoor
open Go.RowKit Go.Maps
set_option linter.unusedVariables false
set_option maxRecDepth 100000

theorem outk_snoc (C : List Cp) (q : Cp) (k : Nat) : outk (C ++ [q]) k = outk C k ++ (if q.k = k then [] else [q]) := by
  unfold outk
  rw [List.filter_append, List.filter_cons]
  by_cases h : q.k = k <;> simp [h]
set_option maxHeartbeats 2000000 in
theorem rwithout_any (w0 w : World) (l : List Thing) (h : Own w0 w l) (ao : Option Addr) (len cap : Nat) (C : List Cp) (hCl : C.length = len) (hCs : ∀ w', Own w0 w' l → Cs w' ao C) (hCk : ∀ q ∈ C, q.k < 256) (hlen : len ≤ 100000) (k : Nat) (hk : k < 256) :
    Calls Tryz.prog 140 #[.slice ao len cap, .int .u8 (k : Int)] w fun e w' => ∃ ao' cap', e = .returned (.slice ao' (outk C k).length cap') ∧ Own w0 w' (Row 46 4 (.slice ao' (outk C k).length cap') (outk C k).length (ccat (outk C k)) :: l) := by
  obtain ⟨i0, hi, hz0, hz1, hz2⟩ := info_parts Tryz.infoComp
  have HCS : Hid (C.length = len ∧ (∀ w', Own w0 w' l → Cs w' ao C) ∧ ∀ q ∈ C, q.k < 256) := ⟨hCl, hCs, hCk⟩
  have H : Hid (Own w0 w l) := h
  clear h hCl hCs hCk
  go_enter Tryz.func140, Tryz.ntmps140
  go_wp2
  go_loopw [5, 10] (fun v5 v10 wr => ∃ j : Nat, j ≤ len ∧ v10 = .int .i64 j ∧ ∃ (S : List Cp) (a1 : Option Addr) (c1 n : Nat), outk (C.take j) k = S ∧ n = S.length ∧ n ≤ j ∧ v5 = .slice a1 n c1 ∧ Own w0 wr (Row 46 4 (.slice a1 n c1) n (ccat S) :: l)) (fun _ v10 _ => len - (intOf v10).toNat)
  case atStart => exact ⟨0, Nat.zero_le _, rfl, [], none, 0, 0, rfl, rfl, Nat.le_refl _, rfl, H.out.nilRow _ _⟩
  case round =>
    obtain ⟨j, hj, rfl, S, a1, c1, n, hS, hn, hnj, rfl, hO⟩ := hrel
    have HO : Hid (Own w0 wr (Row 46 4 (.slice a1 n c1) n (ccat S) :: l)) := hO
    have HS : Hid (outk (C.take j) k = S ∧ n = S.length) := ⟨hS, hn⟩
    clear H hS hn
    by_cases hlt : j < len
    · obtain ⟨q, hq⟩ : ∃ q, C[j]? = some q := ⟨_, List.getElem?_eq_getElem (by rw [HCS.out.1]; exact hlt)⟩
      obtain ⟨gg, o0, hao, _, y0, y1, y2, y3⟩ := (HCS.out.2.1 wr hO.tail).at j q hq
      subst hao
      have hq8 := HCS.out.2.2 q (List.mem_of_getElem? hq)
      have HST : Hid (outk (C.take (j + 1)) k = S ++ (if q.k = k then [] else [q])) := by show _ = _; rw [take_snoc C j q hq, outk_snoc, HS.out.1]
      have hlt' : (j : Int) < (len : Int) := by omega
      clear hq
      obtain ⟨qk, qa, qb, qc⟩ := q
      simp only at y0 y1 y2 y3 hq8 HST
      have hA : Own w0 (wr.alloc (.cells #[.int .u8 (qk : Int), .int .i32 qa, .int .i32 qb, .int .i32 qc] 46)) (Cells wr.heap.size #[.int .u8 (qk : Int), .int .i32 qa, .int .i32 qb, .int .i32 qc] 46 :: Row 46 4 (.slice a1 n c1) n (ccat S) :: l) := hO.allocC _ _
      have HA : Hid (Own w0 (wr.alloc (.cells #[.int .u8 (qk : Int), .int .i32 qa, .int .i32 qb, .int .i32 qc] 46)) (Cells wr.heap.size #[.int .u8 (qk : Int), .int .i32 qa, .int .i32 qb, .int .i32 qc] 46 :: Row 46 4 (.slice a1 n c1) n (ccat S) :: l)) := hA
      have t0 := hA.cell 0
      have t1 := hA.cell 1
      have t2 := hA.cell 2
      have t3 := hA.cell 3
      simp at t0 t1 t2 t3
      clear hA hO HO
      by_cases heq : qk = k
      · rw [if_pos heq] at HST
        have hne : ((qk : Int) != (k : Int)) = false := by simp [heq]
        clear heq
        go_wp2
        go_roundw
        case rel => exact ⟨j + 1, by omega, by go_num, S, _, _, n, by rw [HST.out]; simp, HS.out.2, by omega, rfl, HA.out.tail⟩
        case measure => simp [intOf]; omega
      · rw [if_neg heq] at HST
        have hne : ((qk : Int) != (k : Int)) = true := by rw [bne_iff_ne]; omega
        clear heq
        go_wp2_with (at_builtin; refine append1_own rfl _ _ 39 rfl 46 i0 _ 4 16 Tryz.underlying39 hi hz0 hz1 hz2 rfl (by decide) _ _ _ rfl HA.out.two _ #[.int .u8 (qk : Int), .int .i32 qa, .int .i32 qb, .int .i32 qc] (by simp) rfl rfl (by intro u hu; simp at hu; rcases hu with rfl | rfl | rfl | rfl <;> rfl) (by unfold maxLen; omega) (by omega) ?_)
        intro g4 c4 w4 hO4 hsz
        have H4 : Hid (Own w0 w4 (Row 46 4 (.slice (some ⟨g4, 0, none⟩) (n + 1) c4) (n + 1) (ccat (S ++ [⟨qk, qa, qb, qc⟩])) :: l)) := by show Own _ _ _; rw [ccat_snoc]; exact hO4.two.tail
        clear hO4 hsz t0 t1 t2 t3 y0 y1 y2 y3
        go_wp2
        go_roundw
        case rel => exact ⟨j + 1, by omega, by go_num, S ++ [⟨qk, qa, qb, qc⟩], _, _, n + 1, HST.out, by rw [List.length_append, ← HS.out.2]; rfl, by omega, rfl, H4.out⟩
        case measure => simp [intOf]; omega
    · have hjn : j = len := by omega
      subst hjn
      have hlt' : ¬ (j : Int) < (j : Int) := by omega
      have HE : Hid (outk C k = S ∧ n = S.length) := by
        refine ⟨?_, HS.out.2⟩
        have := HS.out.1
        rw [List.take_of_length_le (by rw [HCS.out.1]; exact Nat.le_refl _)] at this
        exact this
      clear hO
      go_wp2
      go_ret
      refine ⟨a1, c1, ?_, ?_⟩
      · rw [HE.out.1, ← HE.out.2]; rfl
      · rw [HE.out.1, ← HE.out.2]; exact HO.out
end Go.Proofs.YtflmgilmbppieaaGreatDoor

/-
  The document's table: a list of entities, each with components of its own; New, Row, Add.
-/
namespace Go.Proofs.YtflmgilmbppieaaGreatDoor
open Go.RowKit Go.Maps
set_option linter.unusedVariables false
set_option maxRecDepth 100000

/-- something that is so -/
def Fact (p : Prop) : Thing := ⟨fun _ A => p ∧ ∀ k, ¬ A k, fun h a => (h.2 _ a).elim, fun h _ _ => h⟩
theorem Own.fact {w0 w : World} {p : Prop} {l : List Thing} : Own w0 w (Fact p :: l) ↔ p ∧ Own w0 w l := by
  constructor
  · intro h
    refine ⟨?_, h.tail⟩
    obtain ⟨A, ⟨B, C, hB, _⟩, _⟩ := h
    exact hB.1
  · rintro ⟨hp, h⟩
    exact h.new (Fact p) (fun _ => False) ⟨hp, fun _ h => h⟩ (Fr.refl _ _) (fun _ h => h.elim)
/-- an entity with the slice that holds its components -/
abbrev REnt := Nat × List Cp × Option Addr × Nat
def REnt.v (e : REnt) : Value := .slice e.2.2.1 e.2.1.length e.2.2.2
def REnt.e (e : REnt) : Ent := (e.1, e.2.1)
def rcells (e : REnt) : List Value := [.int .u32 (e.1 : Int), e.v]
theorem rcells_len (e : REnt) : (rcells e).length = 2 := rfl
theorem rcells_one (e : REnt) : ∀ u ∈ rcells e, u.oneCell' = true := by
  intro u hu; simp [rcells, REnt.v] at hu; rcases hu with rfl | rfl <;> rfl
def rrow (e : REnt) : Thing := Row 46 4 e.v e.2.1.length (ccat e.2.1)
def RT (v : Value) (L : List Ent) : Thing := Ex (fun E : List REnt => Fact (E.map REnt.e = L) :: Row 67 2 v E.length (cat rcells E) :: E.map rrow)
/-- a table within a block: its make at o, its rows at o + 1 -/
def RTab (b o : Nat) (cur : Array Value) (m : Nat) (L : List Ent) : Thing :=
  Ex (fun v : Value => [Fact (cur[o]? = some (.int .u8 (m : Int)) ∧ o + 1 < cur.size), Cells b (cur.setIfInBounds (o + 1) v) 153, RT v L])
section
variable {w0 w : World} {l : List Thing} {b o m : Nat} {cur : Array Value} {L : List Ent}
theorem RT.open {v : Value} (h : Own w0 w (RT v L :: l)) : ∃ E, E.map REnt.e = L ∧ Own w0 w (Row 67 2 v E.length (cat rcells E) :: (E.map rrow ++ l)) := by
  obtain ⟨E, h⟩ := Own.ex_iff.1 h
  have h' : Own w0 w (Fact (E.map REnt.e = L) :: Row 67 2 v E.length (cat rcells E) :: (E.map rrow ++ l)) := h
  exact ⟨E, (Own.fact.1 h').1, (Own.fact.1 h').2⟩
theorem RT.shut {v : Value} {E : List REnt} (hE : E.map REnt.e = L) (h : Own w0 w (Row 67 2 v E.length (cat rcells E) :: (E.map rrow ++ l))) : Own w0 w (RT v L :: l) :=
  Own.ex_iff.2 ⟨E, Own.fact.2 ⟨hE, h⟩⟩
theorem RTab.open (h : Own w0 w (RTab b o cur m L :: l)) : ∃ v E, E.map REnt.e = L ∧ Own w0 w (Cells b (cur.setIfInBounds (o + 1) v) 153 :: Row 67 2 v E.length (cat rcells E) :: (E.map rrow ++ l)) := by
  obtain ⟨v, h⟩ := Own.ex_iff.1 h
  have h' : Own w0 w (Fact (cur[o]? = some (.int .u8 (m : Int)) ∧ o + 1 < cur.size) :: Cells b (cur.setIfInBounds (o + 1) v) 153 :: RT v L :: l) := h
  obtain ⟨E, hE, h2⟩ := RT.open (Own.fact.1 h').2.two
  refine ⟨v, E, hE, h2.perm ?_⟩
  exact (List.perm_middle (l₁ := Row 67 2 v E.length (cat rcells E) :: E.map rrow)).trans (List.Perm.refl _)
theorem RTab.facts (h : Own w0 w (RTab b o cur m L :: l)) : cur[o]? = some (.int .u8 (m : Int)) ∧ o + 1 < cur.size := by
  obtain ⟨v, h⟩ := Own.ex_iff.1 h
  have h' : Own w0 w (Fact (cur[o]? = some (.int .u8 (m : Int)) ∧ o + 1 < cur.size) :: Cells b (cur.setIfInBounds (o + 1) v) 153 :: RT v L :: l) := h
  exact (Own.fact.1 h').1
theorem RTab.shut {v : Value} {E : List REnt} (hE : E.map REnt.e = L) (hc : cur[o]? = some (.int .u8 (m : Int)) ∧ o + 1 < cur.size) (h : Own w0 w (Cells b (cur.setIfInBounds (o + 1) v) 153 :: Row 67 2 v E.length (cat rcells E) :: (E.map rrow ++ l))) : Own w0 w (RTab b o cur m L :: l) := by
  refine Own.ex_iff.2 ⟨v, Own.fact.2 ⟨hc, ?_⟩⟩
  have h2 : Own w0 w (RT v L :: Cells b (cur.setIfInBounds (o + 1) v) 153 :: l) := by
    refine RT.shut hE (h.perm ?_)
    exact (List.perm_middle (l₁ := Row 67 2 v E.length (cat rcells E) :: E.map rrow)).symm
  exact h2.two
theorem tcur_at {cur : Array Value} {o : Nat} (ho : o + 1 < cur.size) (v : Value) : (cur.setIfInBounds (o + 1) v)[o + 1]? = some v := by simp [ho]
theorem tcur_m {cur : Array Value} {o : Nat} (v : Value) : (cur.setIfInBounds (o + 1) v)[o]? = cur[o]? := by rw [Array.getElem?_setIfInBounds, if_neg (by omega)]
theorem map_pick {α : Type} (f : α → Thing) (E : List α) (i : Nat) (e : α) (he : E[i]? = some e) : (E.map f).Perm (f e :: (E.eraseIdx i).map f) := by
  induction E generalizing i with
  | nil => simp at he
  | cons a E ih =>
    cases i with
    | zero => simp at he; subst he; exact List.Perm.refl _
    | succ i =>
      have := ih i (by simpa using he)
      exact (this.cons (f a)).trans (List.Perm.swap _ _ _)
theorem Own.pick {P Q : Thing} {E : List REnt} (i : Nat) (e : REnt) (he : E[i]? = some e) (h : Own w0 w (P :: Q :: (E.map rrow ++ l))) : Own w0 w (rrow e :: P :: Q :: ((E.eraseIdx i).map rrow ++ l)) := by
  refine h.perm ?_
  have := (((map_pick rrow E i e he).append_right l).cons Q).cons P
  exact this.trans (List.perm_middle (l₁ := [P, Q]))
theorem Own.unpick {P Q : Thing} {E E' : List REnt} (i : Nat) (e : REnt) (he : E'[i]? = some e) (hee : E'.eraseIdx i = E.eraseIdx i) (h : Own w0 w (rrow e :: P :: Q :: ((E.eraseIdx i).map rrow ++ l))) : Own w0 w (P :: Q :: (E'.map rrow ++ l)) := by
  rw [← hee] at h
  refine h.perm ?_
  have := (((map_pick rrow E' i e he).append_right l).cons Q).cons P
  exact (this.trans (List.perm_middle (l₁ := [P, Q]))).symm
/-- the cells of entity i -/
theorem ecell {g n cap : Nat} {E : List REnt} (h : Own w0 w (Row 67 2 (.slice (some ⟨g, 0, none⟩) n cap) E.length (cat rcells E) :: l)) (i : Nat) (e : REnt) (he : E[i]? = some e) :
    w.cell? ⟨g, i * 2, none⟩ = some (.int .u32 (e.1 : Int)) ∧ w.cell? ⟨g, i * 2 + 1, none⟩ = some (.slice e.2.2.1 e.2.1.length e.2.2.2) := by
  have hn := (row_cap h.row).1
  subst hn
  have hi := (List.getElem?_eq_some_iff.1 he).1
  refine ⟨?_, ?_⟩
  · rw [h.row.cellAt _ (by omega)]
    exact (cat_at rcells 2 rcells_len E i 0 e he (by decide)).trans rfl
  · rw [h.row.cellAt _ (by omega)]
    exact (cat_at rcells 2 rcells_len E i 1 e he (by decide)).trans rfl
end

section
variable (w0 w : World) (l : List Thing) (b o : Nat) (cur : Array Value) (m : Nat) (L : List Ent)
/-- a place, or -1 -/
def pl1 (p : Option Nat) : Int := match p with
  | none => -1
  | some r => r
set_option maxHeartbeats 1000000 in
theorem rtrow (h : Own w0 w (RTab b o cur m L :: l)) (hA : Apart L) (hL : L.length ≤ 1000000) (id : Nat) :
    Calls Tryz.prog 180 #[.pointer (some ⟨b, o, none⟩), .int .u32 (id : Int)] w fun e w' => e = .returned (.int .i64 (pl1 (plc L id))) ∧ Fr Nobody w w' := by
  have HCU : Hid (cur[o]? = some (.int .u8 (m : Int)) ∧ o + 1 < cur.size) := RTab.facts h
  obtain ⟨v, E, hE, h⟩ := RTab.open h
  obtain ⟨ao, cap, rfl⟩ := row_any h.two.row
  have hlen : E.length = L.length := by rw [← hE, List.length_map]
  have q1 := h.cell (o + 1)
  rw [tcur_at HCU.out.2] at q1
  have H : Hid (Own w0 w (Cells b (cur.setIfInBounds (o + 1) (.slice ao E.length cap)) 153 :: Row 67 2 (.slice ao E.length cap) E.length (cat rcells E) :: (E.map rrow ++ l))) := h
  have HE : Hid (E.map REnt.e = L ∧ Apart L) := ⟨hE, hA⟩
  generalize hn : E.length = n at *
  have HN : Hid (E.length = n ∧ L.length = n) := ⟨hn, hlen.symm⟩
  rw [← hlen] at hL
  clear h hE hA hlen hn
  go_enter Tryz.func180, Tryz.ntmps180
  go_wp2
  go_loopw [14] (fun cv wr => ∃ j : Nat, j ≤ n ∧ cv = .int .i64 j ∧ Fr Nobody w wr ∧ ∀ i e, i < j → L[i]? = some e → e.1 ≠ id) (fun cv _ => n - (intOf cv).toNat)
  case atStart => exact ⟨0, Nat.zero_le _, rfl, Fr.refl _ _, fun i e hi => by omega⟩
  case round =>
    obtain ⟨j, hj, rfl, hf, hno⟩ := hrel
    have HF : Hid (Fr Nobody w wr) := hf
    have HNO : Hid (∀ i e, i < j → L[i]? = some e → e.1 ≠ id) := hno
    clear hno
    by_cases hlt : j < n
    · have hlt' : (j : Int) < (n : Int) := by omega
      obtain ⟨e, he⟩ : ∃ e, E[j]? = some e := ⟨_, List.getElem?_eq_getElem (by rw [HN.out.1]; exact hlt)⟩
      obtain ⟨g, cap', hv, _⟩ := row_shape H.out.two.row (by omega)
      have hg := (Value.slice.inj hv).1
      subst hg
      have hh := (H.out.quiet hf).two
      rw [← HN.out.1] at hh
      obtain ⟨c0, c1⟩ := ecell hh j e he
      have heL : L[j]? = some e.e := by rw [← HE.out.1, List.getElem?_map, he]; rfl
      by_cases hid : e.1 = id
      · have HV : Hid (plc L id = some j) := (plc_some HE.out.2 id j).2 ⟨e.e, heL, hid⟩
        rw [hid] at c0
        have hii : ((id : Int) == (id : Int)) = true := by simp
        clear he hv hh heL hid hf
        go_wp2
        go_ret
        rw [HV.out]
        exact ⟨rfl, HF.out.alloc _⟩
      · have hii : ((e.1 : Int) == (id : Int)) = false := by rw [beq_eq_false_iff_ne]; omega
        have HN2 : Hid (∀ i e, i < j + 1 → L[i]? = some e → e.1 ≠ id) := by
          intro i d hi hd
          by_cases hij : i = j
          · subst hij; rw [heL] at hd; cases hd; exact hid
          · exact HNO.out i d (by omega) hd
        clear he hv hh heL hid hf
        go_wp2
        go_roundw
        case rel => exact ⟨j + 1, by omega, by go_num, HF.out.alloc _, HN2.out⟩
        case measure => simp [intOf]; omega
    · have hlt' : ¬ (j : Int) < (n : Int) := by omega
      have HV : Hid (plc L id = none) := by
        show _ = _
        rw [plc_none]
        intro e he
        obtain ⟨i, hi⟩ := List.getElem?_of_mem he
        exact HNO.out i e (by have := (List.getElem?_eq_some_iff.1 hi).1; rw [HN.out.2] at this; omega) hi
      clear hf
      go_wp2
      go_ret
      rw [HV.out]
      exact ⟨rfl, HF.out⟩
end
end Go.Proofs.YtflmgilmbppieaaGreatDoor

/-
  The document's example of slots; the document's Make, Slot and Gen.
-/
namespace Go.Proofs.YtflmgilmbppieaaGreatDoor
open Go.RowKit
set_option linter.unusedVariables false

theorem take_is {S S' : St} {id : Nat} {r : Int} (w0 w : World) (l : List Thing) (b : Nat) (h : Own w0 w (Slots b S :: l)) (hS : S.Ok) (ht : S.take = (id, r, S')) :
    Calls Tryz.prog 212 #[.pointer (some ⟨b, 0, none⟩)] w fun e w' => e = .returned (.tuple #[.int .u32 (id : Int), .int .i64 r]) ∧ Own w0 w' (Slots b S' :: l) := by
  have := take_ok w0 w l b S h hS
  rw [ht] at this
  exact this
theorem free_is {S S' : St} {id : Nat} {r : Int} (w0 w : World) (l : List Thing) (b : Nat) (h : Own w0 w (Slots b S :: l)) (hS : S.Ok) (hid : id < 4294967296) (ht : S.free id = (r, S')) :
    Calls Tryz.prog 173 #[.pointer (some ⟨b, 0, none⟩), .int .u32 (id : Int)] w fun e w' => e = .returned (.int .i64 r) ∧ Own w0 w' (Slots b S' :: l) := by
  have := free_ok w0 w l b S id h hS hid
  rw [ht] at this
  exact this
theorem live_is {S : St} {id : Nat} {r : Bool} (w0 w : World) (l : List Thing) (b : Nat) (h : Own w0 w (Slots b S :: l)) (hS : S.Ok) (hid : id < 4294967296) (ht : S.isLive id = r) :
    Calls Tryz.prog 183 #[.pointer (some ⟨b, 0, none⟩), .int .u32 (id : Int)] w fun e w' => e = .returned (.bool r) ∧ Own w0 w' (Slots b S :: l) := by
  have := live_ok w0 w l b S id h hS hid
  rw [ht] at this
  refine this.mono ?_
  rintro e w' ⟨rfl, rfl⟩
  exact ⟨rfl, h⟩

set_option maxHeartbeats 400000 in
theorem rslot_any (id : Nat) (w : World) (h : id < 4294967296) : Calls Tryz.prog 125 #[.int .u32 (id : Int)] w fun e w' => e = .returned (.int .i64 ((id % 1024 : Nat) : Int)) ∧ w' = w := by
  go_enter Tryz.func125, Tryz.ntmps125
  go_wp2
  go_ret
  exact ⟨ret_int (by omega), rfl⟩
set_option maxHeartbeats 400000 in
theorem rgen_any (id : Nat) (w : World) (h : id < 4294967296) : Calls Tryz.prog 223 #[.int .u32 (id : Int)] w fun e w' => e = .returned (.int .i64 ((id / 1024 : Nat) : Int)) ∧ w' = w := by
  go_enter Tryz.func223, Tryz.ntmps223
  go_wp2
  go_ret
  exact ⟨ret_int (by omega), rfl⟩
set_option maxHeartbeats 400000 in
set_option maxRecDepth 100000 in
theorem rmake_yes (s g : Nat) (w : World) (h1 : s < 1024) (h2 : 1 ≤ g) (h3 : (g : Int) ≤ 4194303) : Calls Tryz.prog 130 #[.int .i64 (s : Int), .int .i64 (g : Int)] w fun e w' => e = .returned (.tuple #[.int .u32 ((g * 1024 + s : Nat) : Int), .int .i64 0]) ∧ w' = w := by
  go_enter Tryz.func130, Tryz.ntmps130
  go_wp2
  go_ret2
  exact ⟨rfl, rfl⟩
set_option maxHeartbeats 400000 in
theorem rmake_no (s g : Int) (w : World) (h : s < 0 ∨ 1024 ≤ s ∨ g < 1 ∨ 4194303 < g) : Calls Tryz.prog 130 #[.int .i64 s, .int .i64 g] w fun e w' => e = .returned (.tuple #[.int .u32 0, .int .i64 1]) ∧ w' = w := by
  by_cases c1 : s < 0
  · go_enter Tryz.func130, Tryz.ntmps130
    go_wp2
    go_ret2
    exact ⟨rfl, rfl⟩
  · by_cases c2 : 1024 ≤ s
    · go_enter Tryz.func130, Tryz.ntmps130
      go_wp2
      go_ret2
      exact ⟨rfl, rfl⟩
    · by_cases c3 : g < 1
      · go_enter Tryz.func130, Tryz.ntmps130
        go_wp2
        go_ret2
        exact ⟨rfl, rfl⟩
      · have c4 : 4194303 < g := by omega
        go_enter Tryz.func130, Tryz.ntmps130
        go_wp2
        go_ret2
        exact ⟨rfl, rfl⟩
end Go.Proofs.YtflmgilmbppieaaGreatDoor

/-
  Slots whose generations are used up, as plain lists.
-/
namespace Go.Proofs.YtflmgilmbppieaaGreatDoor
open Go.RowKit
set_option linter.unusedVariables false

theorem St.take_new {S : St} (h : S.freed = []) (hl : S.last.length < S.n) : S.take = (S.first * 1024 + S.last.length, 0, S.more) := by
  unfold St.take; rw [h]; simp [hl]
theorem St.take_full {S : St} (h : S.freed = []) (hl : ¬ S.last.length < S.n) : S.take = (0, 8, S) := by
  unfold St.take; rw [h]; simp [hl]
theorem St.take_again {S : St} {f x : Nat} (h : S.freed.getLast? = some f) (hx : S.last[f]? = some x) : S.take = (x + 1024, 0, S.again f) := by
  unfold St.take; rw [h]; simp [List.getD_eq_getElem?_getD, hx]

structure Worn (S : St) (k m F j : Nat) : Prop where
  ok : S.Ok
  n : S.n = k
  first : S.first = F
  live : S.live = 0
  at' : ∃ q r, j = q * m + r ∧ r < m ∧ (r = 0 → S.freed = [] ∧ S.last.length = q) ∧ (0 < r → S.freed = [q] ∧ S.last.length = q + 1 ∧ S.last[q]? = some ((F + r - 1) * 1024 + q))

theorem less_of (S : St) (id q : Nat) (h : id % 1024 = q) : S.less id = { S with used := S.used.set q false, live := S.live - 1, freed := if id / 1024 < 4194303 then S.freed ++ [q] else S.freed } := by unfold St.less; rw [h]

theorem Worn.step {S : St} {k m F j : Nat} (h : Worn S k m F j) (hm : 1 ≤ m) (hF : F + m = 4194304) (hj : j < k * m) (hk : k ≤ 6) :
    ∃ id S1 S2, S.take = (id, 0, S1) ∧ S1.Ok ∧ id < 4294967296 ∧ S1.free id = (0, S2) ∧ Worn S2 k m F (j + 1) := by
  obtain ⟨q, r, hq, hr, h0, h1⟩ := h.at'
  have hqk : q < k := by
    have : q * m < k * m := by omega
    exact Nat.lt_of_mul_lt_mul_right this
  have hn := h.n
  have hf := h.first
  have hlv := h.live
  have hul := h.ok.ul
  have hsm : (q + 1) * m = q * m + m := Nat.succ_mul q m
  rcases Nat.eq_zero_or_pos r with hz | hz
  · obtain ⟨hfr, hll⟩ := h0 hz
    have ht := S.take_new hfr (by omega)
    have hok1 : S.more.Ok := St.more_ok h.ok hfr (by omega)
    have hid : (S.first * 1024 + S.last.length) % 1024 = q := by omega
    have hgn : (S.first * 1024 + S.last.length) / 1024 = F := by omega
    have hlast : S.more.last[q]? = some (S.first * 1024 + S.last.length) := by
      simp only [St.more]; rw [← hll, List.getElem?_append_right (Nat.le_refl _)]; simp
    have hlive : S.more.isLive (S.first * 1024 + S.last.length) = true := by
      rw [St.isLive_iff hok1, hid]
      refine ⟨?_, hlast⟩
      simp only [St.more]; rw [← hll, ← hul, List.getElem?_append_right (Nat.le_refl _)]; simp
    refine ⟨_, _, S.more.less (S.first * 1024 + S.last.length), ht, hok1, by omega, by unfold St.free; rw [if_pos hlive], ⟨St.less_ok hok1 hlive, hn, hf, by simp [St.less, St.more, hlv], ?_⟩⟩
    rw [less_of _ _ q hid, hgn]
    by_cases hm1 : m = 1
    · refine ⟨q + 1, 0, by rw [hsm]; omega, by omega, fun _ => ⟨?_, ?_⟩, fun h => by omega⟩
      · rw [if_neg (by omega)]; exact hfr
      · show (S.last ++ [_]).length = _; rw [List.length_append, List.length_singleton]; omega
    · refine ⟨q, 1, by omega, by omega, fun h => by omega, fun _ => ⟨?_, ?_, ?_⟩⟩
      · rw [if_pos (by omega)]; show S.freed ++ [q] = _; rw [hfr]; rfl
      · show (S.last ++ [_]).length = _; rw [List.length_append, List.length_singleton]; omega
      · show S.more.last[q]? = _; rw [hlast, hf, hll]; simp
  · obtain ⟨hfr, hll, hlq⟩ := h1 hz
    have hgl : S.freed.getLast? = some q := by rw [hfr]; rfl
    have ht := S.take_again hgl hlq
    have hok1 : (S.again q).Ok := St.again_ok h.ok hgl
    have hid : ((F + r - 1) * 1024 + q + 1024) % 1024 = q := by omega
    have hgn : ((F + r - 1) * 1024 + q + 1024) / 1024 = F + r := by omega
    have hlast : (S.again q).last[q]? = some ((F + r - 1) * 1024 + q + 1024) := by
      simp only [St.again]; rw [List.getElem?_set_self (by omega), List.getD_eq_getElem?_getD, hlq]; rfl
    have hlive : (S.again q).isLive ((F + r - 1) * 1024 + q + 1024) = true := by
      rw [St.isLive_iff hok1, hid]
      exact ⟨by simp only [St.again]; rw [List.getElem?_set_self (by omega)], hlast⟩
    refine ⟨_, _, (S.again q).less ((F + r - 1) * 1024 + q + 1024), ht, hok1, by omega, by unfold St.free; rw [if_pos hlive], ⟨St.less_ok hok1 hlive, hn, hf, by simp [St.less, St.again, hlv], ?_⟩⟩
    rw [less_of _ _ q hid, hgn]
    by_cases hm1 : r + 1 = m
    · refine ⟨q + 1, 0, by rw [hsm]; omega, by omega, fun _ => ⟨?_, ?_⟩, fun h => by omega⟩
      · rw [if_neg (by omega)]; show S.freed.dropLast = _; rw [hfr]; rfl
      · show (S.last.set _ _).length = _; rw [List.length_set]; omega
    · refine ⟨q, r + 1, by omega, by omega, fun h => by omega, fun _ => ⟨?_, ?_, ?_⟩⟩
      · rw [if_pos (by omega)]; show S.freed.dropLast ++ [q] = _; rw [hfr]; rfl
      · show (S.last.set _ _).length = _; rw [List.length_set]; omega
      · show (S.again q).last[q]? = _; rw [hlast, show (F + r - 1) * 1024 + q + 1024 = (F + (r + 1) - 1) * 1024 + q by omega]
theorem Worn.start (k m F : Nat) (hm : 1 ≤ m) (hF : F + m = 4194304) (hF1 : 1 ≤ F) (hk : 1 ≤ k) (hk6 : k ≤ 6) : Worn (St.new k F) k m F 0 :=
  ⟨St.new_ok k F hk (by omega) hF1 (by omega), rfl, rfl, rfl, 0, 0, by omega, by omega, fun _ => ⟨rfl, rfl⟩, fun h => by omega⟩
theorem Worn.done {S : St} {k m F : Nat} (h : Worn S k m F (k * m)) (hm : 1 ≤ m) : S.take = (0, 8, S) ∧ S.room = 0 ∧ S.live = 0 := by
  obtain ⟨q, r, hq, hr, h0, h1⟩ := h.at'
  have hqk : q = k := by
    rcases Nat.lt_trichotomy q k with c | c | c
    · have : (q + 1) * m ≤ k * m := Nat.mul_le_mul_right _ c
      rw [Nat.succ_mul] at this; omega
    · exact c
    · have : (k + 1) * m ≤ q * m := Nat.mul_le_mul_right _ c
      rw [Nat.succ_mul] at this; omega
  subst hqk
  obtain ⟨hfr, hll⟩ := h0 (by omega)
  have hn := h.n
  exact ⟨S.take_full hfr (by omega), by unfold St.room; rw [hfr]; simp; omega, h.live⟩
end Go.Proofs.YtflmgilmbppieaaGreatDoor

/-
  Rows of elements of several cells; the document's slots in memory; New and Live of the document.
-/
namespace Go.Proofs.YtflmgilmbppieaaGreatDoor
open Go.RowKit
set_option linter.unusedVariables false

/-- n elements of s cells each -/
def flat (s n : Nat) (g : Nat → Nat → Value) : List Value := (List.range (n * s)).map (fun k => g (k / s) (k % s))
theorem length_flat (s n : Nat) (g : Nat → Nat → Value) : (flat s n g).length = n * s := by simp [flat]
theorem getElem?_flat (s n : Nat) (g : Nat → Nat → Value) (k : Nat) : (flat s n g)[k]? = if k < n * s then some (g (k / s) (k % s)) else none := by
  unfold flat
  by_cases h : k < n * s
  · rw [if_pos h, List.getElem?_map, List.getElem?_range h]; rfl
  · rw [if_neg h, List.getElem?_eq_none (by simp; omega)]
theorem flat_lt {s n i r : Nat} (hi : i < n) (hr : r < s) : i * s + r < n * s := by
  have : (i + 1) * s ≤ n * s := Nat.mul_le_mul_right _ hi
  rw [Nat.succ_mul] at this; omega
theorem flat_at (s n : Nat) (g : Nat → Nat → Value) (i r : Nat) (hi : i < n) (hr : r < s) : (flat s n g)[i * s + r]? = some (g i r) := by
  rw [getElem?_flat, if_pos (flat_lt hi hr)]
  have h1 : (i * s + r) / s = i := by rw [Nat.mul_comm, Nat.mul_add_div (by omega), Nat.div_eq_of_lt hr]; rfl
  have h2 : (i * s + r) % s = r := by rw [Nat.mul_comm, Nat.mul_add_mod, Nat.mod_eq_of_lt hr]
  rw [h1, h2]
theorem Own.fcell {w0 w : World} {l : List Thing} {e : TypeId} {s n g cap : Nat} {gg : Nat → Nat → Value} (h : Own w0 w (Row e s (.slice (some ⟨g, 0, none⟩) n cap) n (flat s n gg) :: l)) (i r : Nat) (hi : i < n) (hr : r < s) (o : Nat) (ho : o = i * s + r) : w.cell? ⟨g, o, none⟩ = some (gg i r) := by
  subst ho
  rw [h.row.cellAt _ (flat_lt hi hr)]; exact flat_at s n gg i r hi hr
theorem Own.ffroz {w0 w : World} {l : List Thing} {e : TypeId} {s n g cap : Nat} {xs : List Value} (h : Own w0 w (Row e s (.slice (some ⟨g, 0, none⟩) n cap) n xs :: l)) (o : Nat) : w.frozen? ⟨g, o, none⟩ = false := h.row.frozenAt o
theorem flat_congr (s n : Nat) (g g' : Nat → Nat → Value) (hs : 0 < s) (h : ∀ i r, i < n → r < s → g i r = g' i r) : flat s n g = flat s n g' := by
  apply List.ext_getElem?
  intro k
  rw [getElem?_flat, getElem?_flat]
  by_cases hk : k < n * s
  · rw [if_pos hk, if_pos hk, h _ _ ((Nat.div_lt_iff_lt_mul hs).2 hk) (Nat.mod_lt _ hs)]
  · rw [if_neg hk, if_neg hk]
theorem flat_set (s n : Nat) (g g' : Nat → Nat → Value) (i r : Nat) (hs : 0 < s) (hr : r < s) (h : ∀ a b, a < n → b < s → ¬ (a = i ∧ b = r) → g' a b = g a b) : flat s n g' = (flat s n g).set (i * s + r) (g' i r) := by
  apply List.ext_getElem?
  intro k
  rw [getElem?_flat, List.getElem?_set, getElem?_flat, length_flat]
  by_cases hk : k < n * s
  · by_cases e : i * s + r = k
    · subst e
      rw [if_pos hk, if_pos rfl, if_pos hk]
      have h1 : (i * s + r) / s = i := by rw [Nat.mul_comm, Nat.mul_add_div hs, Nat.div_eq_of_lt hr]; rfl
      have h2 : (i * s + r) % s = r := by rw [Nat.mul_comm, Nat.mul_add_mod, Nat.mod_eq_of_lt hr]
      rw [h1, h2]
    · rw [if_pos hk, if_neg e, if_pos hk]
      rw [h _ _ ((Nat.div_lt_iff_lt_mul hs).2 hk) (Nat.mod_lt _ hs)]
      rintro ⟨rfl, rfl⟩
      apply e
      rw [Nat.mul_comm]; exact Nat.div_add_mod k s
  · rw [if_neg hk]
    split
    · rename_i e; rw [if_neg (by omega)]
    · rfl
theorem flat_take (s n m : Nat) (g : Nat → Nat → Value) (h : m ≤ n) : (flat s n g).take (m * s) = flat s m g := by
  unfold flat
  rw [← List.map_take, List.take_range, Nat.min_eq_left (Nat.mul_le_mul_right _ h)]

theorem Own.madeRow {P : Program} {w0 w : World} {l : List Thing} (h : Own w0 w l) (t e : TypeId) (i : TypeInfo) (z : Value) (size : Nat) (ht : P.underlying t = some (.slice e)) (hi : P.info? e = some i) (hz : i.zero = some z) (hsize : i.size = size)
    (n : Nat) (hbytes : i.bytes * n ≤ 281474976710656) (h63 : n ≤ maxLen) :
    ∃ w', (Instr.makeSlice t (.int .i64 (n : Int)) (.int .i64 (n : Int))).run P w = .ok (.slice (some ⟨w.heap.size, 0, none⟩) n n) w' ∧ Own w0 w' (Row e size (.slice (some ⟨w.heap.size, 0, none⟩) n n) n (madeCells z.cells (n * size)).toList :: l) ∧ Fr Nobody w w' ∧ w.heap.size < w'.heap.size := by
  obtain ⟨w', h1, h2, h3⟩ := run_make_full (P := P) w 0 t e i z size ht hi hz hsize .i64 .i64 n hbytes h63 (Nat.zero_le _)
  have hf : Fr Nobody w w' := (Fr.refl _ _).grown h3 (by simp)
  exact ⟨w', h1, h.new (Row e size (.slice (some ⟨w.heap.size, 0, none⟩) n n) n _) (fun k => k = w.heap.size) ⟨h2, fun k => by simp [Value.ownBlock]; exact eq_comm⟩ hf (fun k hk => by omega), hf, (h2.lt _ rfl).2⟩

/-- the document's slots: of slot i its generation, whether it is in use, when it was freed -/
def one (S : St) (f : Nat → Nat) (i r : Nat) : Value := if r = 0 then .int .i64 ((S.last.getD i 0 / 1024 : Nat) : Int) else if r = 1 then .bool (S.used.getD i false) else .int .i64 (f i : Int)
def RSlots (c : Nat) (S : St) (f : Nat → Nat) (clock : Nat) : Thing := Ex (fun v : Nat × Nat =>
  [Cells c #[.int .i64 (S.first : Int), .slice (some ⟨v.1, 0, none⟩) S.n v.2, .int .i64 (clock : Int)] 228, Row 230 3 (.slice (some ⟨v.1, 0, none⟩) S.n v.2) S.n (flat 3 S.n (one S f))])
/-- could slot i be taken? -/
def frb (u : Bool) (x : Nat) : Bool := !u && decide (x / 1024 < 4194303)
def free1 (S : St) (i : Nat) : Bool := frb (S.used.getD i false) (S.last.getD i 0)
/-- what is so of the stamps -/
structure Stamp (S : St) (f : Nat → Nat) (clock : Nat) : Prop where
  pos : ∀ i, 0 < f i ↔ i ∈ S.freed
  le : ∀ i, f i ≤ clock
  inc : S.freed.Pairwise (fun a b => f a < f b)
  room : (List.range S.n).countP (free1 S) = S.room
def updn (f : Nat → Nat) (j x : Nat) (i : Nat) : Nat := if i = j then x else f i
theorem updn_same (f : Nat → Nat) (j x : Nat) : updn f j x j = x := by simp [updn]
theorem updn_other (f : Nat → Nat) (j x i : Nat) (h : i ≠ j) : updn f j x i = f i := by simp [updn, h]
theorem countP_upd (p q : Nat → Bool) (n j : Nat) (hj : j < n) (h : ∀ i, i ≠ j → q i = p i) : (List.range n).countP q + (p j).toNat = (List.range n).countP p + (q j).toNat := by
  induction n with
  | zero => omega
  | succ n ih =>
    rw [List.range_succ, List.countP_append, List.countP_append]
    simp only [List.countP_singleton]
    by_cases e : j = n
    · subst e
      have : (List.range j).countP q = (List.range j).countP p := by
        apply List.countP_congr
        intro x hx
        have hx' : x < j := by simpa using hx
        rw [h x (by omega)]
      rw [this]
      cases p j <;> cases q j <;> simp
    · have := ih (by omega)
      rw [h n (fun q => e q.symm)]
      omega
theorem getD_set_same {α : Type} (l : List α) (i : Nat) (x d : α) (h : i < l.length) : (l.set i x).getD i d = x := by rw [List.getD_eq_getElem?_getD, List.getElem?_set_self h]; rfl
theorem getD_set_other {α : Type} (l : List α) (i k : Nat) (x d : α) (h : k ≠ i) : (l.set i x).getD k d = l.getD k d := by rw [List.getD_eq_getElem?_getD, List.getElem?_set_ne (fun q => h q.symm), List.getD_eq_getElem?_getD]
theorem getD_snoc_same {α : Type} (l : List α) (x d : α) : (l ++ [x]).getD l.length d = x := by rw [List.getD_eq_getElem?_getD, List.getElem?_append_right (Nat.le_refl _)]; simp
theorem getD_snoc_other {α : Type} (l : List α) (x d : α) (k : Nat) (h : k ≠ l.length) : (l ++ [x]).getD k d = l.getD k d := by
  rw [List.getD_eq_getElem?_getD, List.getD_eq_getElem?_getD]
  rcases Nat.lt_or_gt_of_ne h with c | c
  · rw [List.getElem?_append_left c]
  · rw [List.getElem?_eq_none (by simp; omega), List.getElem?_eq_none (by omega)]
theorem getD_some {α : Type} {l : List α} {i : Nat} {d x : α} (h : l[i]? = some x) : l.getD i d = x := by rw [List.getD_eq_getElem?_getD, h]; rfl
theorem getD_none {α : Type} {l : List α} {i : Nat} {d : α} (h : l.length ≤ i) : l.getD i d = d := by rw [List.getD_eq_getElem?_getD, List.getElem?_eq_none h]; rfl

theorem Stamp.new (n F : Nat) (h : 1 ≤ n) : Stamp (St.new n F) (fun _ => 0) 0 := by
  refine ⟨fun i => by simp [St.new], fun i => Nat.le_refl _, by simp [St.new], ?_⟩
  have : (List.range n).countP (free1 (St.new n F)) = n := by
    have h2 : (List.range n).countP (free1 (St.new n F)) = (List.range n).length := List.countP_eq_length.2 (fun a _ => by simp [free1, frb, St.new])
    rw [h2, List.length_range]
  show (List.range n).countP _ = _
  rw [this]; simp [St.room, St.new]
theorem Stamp.last {S : St} {f : Nat → Nat} {ck j : Nat} (h : Stamp S f ck) (hS : S.Ok) (hj : S.freed.getLast? = some j) : 0 < f j ∧ (∀ i, f i ≤ f j) ∧ (∀ i, f i = f j → i = j) := by
  have e := dropLast_of _ _ hj
  have hjm : j ∈ S.freed := by rw [e]; simp
  have hp := (h.pos j).2 hjm
  have hinc := h.inc
  rw [e, List.pairwise_append] at hinc
  have hlt : ∀ i, i ∈ S.freed.dropLast → f i < f j := fun i hi => hinc.2.2 i hi j (by simp)
  have hcase : ∀ i, i = j ∨ f i = 0 ∨ i ∈ S.freed.dropLast := by
    intro i
    by_cases hi : i ∈ S.freed
    · rw [e] at hi
      rcases List.mem_append.1 hi with hi | hi
      · exact .inr (.inr hi)
      · left; simpa using hi
    · right; left
      have := h.pos i
      rcases Nat.eq_zero_or_pos (f i) with z | z
      · exact z
      · exact absurd (this.1 z) hi
  refine ⟨hp, fun i => ?_, fun i hi => ?_⟩
  · rcases hcase i with rfl | c | c
    · exact Nat.le_refl _
    · omega
    · have := hlt i c; omega
  · rcases hcase i with rfl | c | c
    · rfl
    · omega
    · have := hlt i c; omega
theorem Stamp.none {S : St} {f : Nat → Nat} {ck : Nat} (h : Stamp S f ck) (hj : S.freed = []) (i : Nat) : f i = 0 := by
  have := h.pos i
  rw [hj] at this
  rcases Nat.eq_zero_or_pos (f i) with z | z
  · exact z
  · exact absurd (this.1 z) (by simp)
theorem Stamp.again {S : St} {f : Nat → Nat} {ck j : Nat} (h : Stamp S f ck) (hS : S.Ok) (hj : S.freed.getLast? = some j) : Stamp (S.again j) (updn f j 0) ck := by
  have e := dropLast_of _ _ hj
  have hm : j ∈ S.freed := by rw [e]; simp
  have hn := hS.nodup
  rw [e, List.nodup_append] at hn
  have hnj : j ∉ S.freed.dropLast := fun hc => hn.2.2 j hc j (by simp) rfl
  have hinc := h.inc
  rw [e, List.pairwise_append] at hinc
  obtain ⟨hu, x, hx, hg⟩ := hS.fr j hm
  have hlt := hS.lt hm
  have hle := hS.le
  have hlen : S.freed.length = S.freed.dropLast.length + 1 := by
    have := congrArg List.length e
    rw [List.length_append, List.length_singleton] at this; exact this
  refine ⟨fun i => ?_, fun i => ?_, ?_, ?_⟩
  · show 0 < updn f j 0 i ↔ i ∈ S.freed.dropLast
    by_cases c : i = j
    · subst c; rw [updn_same]; exact ⟨fun h => by omega, fun h => absurd h hnj⟩
    · rw [updn_other _ _ _ _ c, h.pos i]
      conv => lhs; rw [e]
      simp [c]
  · by_cases c : i = j
    · subst c; rw [updn_same]; exact Nat.zero_le _
    · rw [updn_other _ _ _ _ c]; exact h.le i
  · show S.freed.dropLast.Pairwise _
    refine List.Pairwise.imp_of_mem ?_ hinc.1
    intro a b ha hb hab
    rw [updn_other _ _ _ _ (fun q => hnj (by rw [← q]; exact ha)), updn_other _ _ _ _ (fun q => hnj (by rw [← q]; exact hb))]
    exact hab
  · have hc := countP_upd (free1 S) (free1 (S.again j)) S.n j (by omega) (fun i hi => by
      simp only [free1, St.again]; rw [getD_set_other _ _ _ _ _ hi, getD_set_other _ _ _ _ _ hi])
    have h1 : free1 S j = true := by simp only [free1]; rw [getD_some hu, getD_some hx]; simp [frb, hg]
    have h2 : free1 (S.again j) j = false := by simp only [free1, St.again]; rw [getD_set_same _ _ _ _ (by rw [hS.ul]; exact hlt)]; simp [frb]
    rw [h1, h2, h.room] at hc
    show (List.range S.n).countP _ = _
    simp [St.room, St.again] at hc ⊢
    omega
theorem Stamp.more {S : St} {f : Nat → Nat} {ck : Nat} (h : Stamp S f ck) (hS : S.Ok) (hl : S.last.length < S.n) : Stamp S.more f ck := by
  refine ⟨h.pos, h.le, h.inc, ?_⟩
  have hc := countP_upd (free1 S) (free1 S.more) S.n S.last.length hl (fun i hi => by
      simp only [free1, St.more]; rw [getD_snoc_other _ _ _ _ hi, getD_snoc_other _ _ _ _ (by rw [hS.ul]; exact hi)])
  have h1 : free1 S S.last.length = true := by simp only [free1]; rw [getD_none (Nat.le_refl _), getD_none (by rw [hS.ul]; exact Nat.le_refl _)]; simp [frb]
  have h2 : free1 S.more S.last.length = false := by
    simp only [free1, St.more]
    have : (S.used ++ [true]).getD S.last.length false = true := by rw [← hS.ul]; exact getD_snoc_same _ _ _
    rw [this]; simp [frb]
  rw [h1, h2, h.room] at hc
  show (List.range S.n).countP _ = _
  simp [St.room, St.more] at hc ⊢
  omega
theorem Stamp.less {S : St} {f : Nat → Nat} {ck id : Nat} (h : Stamp S f ck) (hS : S.Ok) (hl : S.isLive id = true) :
    (id / 1024 < 4194303 → Stamp (S.less id) (updn f (id % 1024) (ck + 1)) (ck + 1)) ∧ (¬ id / 1024 < 4194303 → Stamp (S.less id) f ck) := by
  obtain ⟨hu, hx⟩ := (S.isLive_iff hS id).1 hl
  have hlu : id % 1024 < S.used.length := (List.getElem?_eq_some_iff.1 hu).1
  have hul := hS.ul
  have hle := hS.le
  have hnf : id % 1024 ∉ S.freed := by
    intro hm
    have := (hS.fr _ hm).1
    rw [hu] at this; cases this
  have hc := countP_upd (free1 S) (free1 (S.less id)) S.n (id % 1024) (by omega) (fun i hi => by
      simp only [free1, St.less]; rw [getD_set_other _ _ _ _ _ hi])
  have h1 : free1 S (id % 1024) = false := by simp only [free1]; rw [getD_some hu]; simp [frb]
  have h2 : free1 (S.less id) (id % 1024) = decide (id / 1024 < 4194303) := by
    simp only [free1, St.less]; rw [getD_set_same _ _ _ _ hlu, getD_some hx]; simp [frb]
  have hcnt := hS.cnt
  rw [h1, h2, h.room] at hc
  constructor
  · intro hg
    have hfr : (S.less id).freed = S.freed ++ [id % 1024] := by simp only [St.less]; rw [if_pos hg]
    refine ⟨fun i => ?_, fun i => ?_, ?_, ?_⟩
    · rw [hfr]
      by_cases c : i = id % 1024
      · subst c; rw [updn_same]; simp
      · rw [updn_other _ _ _ _ c, h.pos i]; simp [c]
    · by_cases c : i = id % 1024
      · subst c; rw [updn_same]; exact Nat.le_refl _
      · rw [updn_other _ _ _ _ c]; exact Nat.le_succ_of_le (h.le i)
    · rw [hfr, List.pairwise_append]
      refine ⟨?_, by simp, ?_⟩
      · refine List.Pairwise.imp_of_mem ?_ h.inc
        intro a b ha hb hab
        rw [updn_other _ _ _ _ (fun q => hnf (by rw [← q]; exact ha)), updn_other _ _ _ _ (fun q => hnf (by rw [← q]; exact hb))]
        exact hab
      · intro a ha b hb
        simp at hb
        subst hb
        rw [updn_same, updn_other _ _ _ _ (fun q => hnf (by rw [← q]; exact ha))]
        exact Nat.lt_succ_of_le (h.le a)
    · show (List.range S.n).countP _ = _
      unfold St.room at hc ⊢
      rw [hfr]
      simp [hg] at hc
      show _ = (S.freed ++ [id % 1024]).length + S.n - S.last.length
      rw [List.length_append, List.length_singleton]
      omega
  · intro hg
    have hfr : (S.less id).freed = S.freed := by simp only [St.less]; rw [if_neg hg]
    refine ⟨fun i => by rw [hfr]; exact h.pos i, h.le, by rw [hfr]; exact h.inc, ?_⟩
    show (List.range S.n).countP _ = _
    unfold St.room at hc ⊢
    rw [hfr]
    simp [hg] at hc
    show _ = S.freed.length + S.n - S.last.length
    omega

theorem Tryz.infoOne : (Tryz.prog.info? 230).map (fun i => (i.zero, i.size, i.bytes)) = some (some (.agg #[.int .i64 0, .bool false, .int .i64 0]), 3, 24) := by kernel_rfl

theorem made_one (n F : Nat) : (madeCells #[.int .i64 0, .bool false, .int .i64 0] (n * 3)).toList = flat 3 n (one (St.new n F) (fun _ => 0)) := by
  apply List.ext_getElem?
  intro k
  rw [getElem?_flat]
  by_cases hk : k < n * 3
  · rw [if_pos hk]
    have c : k % 3 = 0 ∨ k % 3 = 1 ∨ k % 3 = 2 := by omega
    rcases c with c | c | c <;> simp [madeCells, hk, one, St.new, c]
  · rw [if_neg hk]; simp [madeCells]; omega

set_option maxHeartbeats 400000 in
set_option maxRecDepth 100000 in
theorem rnew_ok (w0 w : World) (l : List Thing) (n F : Nat) (h : Own w0 w l) (h1 : 1 ≤ n) (h2 : n ≤ 1024) (h3 : 1 ≤ F) (h4 : (F : Int) ≤ 4194303) :
    Calls Tryz.prog 76 #[.int .i64 (n : Int), .int .i64 (F : Int)] w fun e w' => ∃ c, e = .returned (.tuple #[.pointer (some ⟨c, 0, none⟩), .int .i64 0]) ∧ Own w0 w' (RSlots c (St.new n F) (fun _ => 0) 0 :: l) := by
  obtain ⟨i0, hi, hz0, hz1, hz2⟩ := info_parts Tryz.infoOne
  obtain ⟨w1, hmk, hO, hf, hlt⟩ := h.madeRow (P := Tryz.prog) 226 230 i0 (.agg #[.int .i64 0, .bool false, .int .i64 0]) 3 Tryz.underlying226 hi hz0 hz1 n (by rw [hz2]; omega) (by unfold maxLen; omega)
  have H : Hid (Own w0 w1 _) := hO
  clear hO hf h
  go_enter Tryz.func76, Tryz.ntmps76
  go_wp2
  go_ret2
  refine ⟨_, rfl, Own.ex_iff.2 ⟨(w.heap.size, n), ?_⟩⟩
  have k := H.out.allocC #[.int .i64 (F : Int), .slice (some ⟨w.heap.size, 0, none⟩) n n, .int .i64 0] 228
  have e1 := made_one n F
  have e2 : Value.cells (.agg #[.int .i64 0, .bool false, .int .i64 0]) = #[.int .i64 0, .bool false, .int .i64 0] := by rfl
  rw [e2, e1] at k
  exact k
set_option maxHeartbeats 400000 in
theorem rnew_no (w : World) (n f : Int) (h : n < 1 ∨ 1024 < n ∨ f < 1 ∨ 4194303 < f) : Calls Tryz.prog 76 #[.int .i64 n, .int .i64 f] w fun e w' => e = .returned (.tuple #[.pointer none, .int .i64 1]) ∧ w' = w := by
  by_cases c1 : n < 1
  · go_enter Tryz.func76, Tryz.ntmps76
    go_wp2
    go_ret2
    exact ⟨rfl, rfl⟩
  · by_cases c2 : 1024 < n
    · go_enter Tryz.func76, Tryz.ntmps76
      go_wp2
      go_ret2
      exact ⟨rfl, rfl⟩
    · by_cases c3 : f < 1
      · go_enter Tryz.func76, Tryz.ntmps76
        go_wp2
        go_ret2
        exact ⟨rfl, rfl⟩
      · have c4 : 4194303 < f := by omega
        go_enter Tryz.func76, Tryz.ntmps76
        go_wp2
        go_ret2
        exact ⟨rfl, rfl⟩
end Go.Proofs.YtflmgilmbppieaaGreatDoor

/-
  The document's Live and List of slots, and Same.
-/
namespace Go.Proofs.YtflmgilmbppieaaGreatDoor
open Go.RowKit
set_option linter.unusedVariables false

def tst (S : St) (id k : Nat) : Bool := S.used.getD k false && (decide (k = id % 1024) && decide (S.last.getD k 0 / 1024 = id / 1024))
theorem tst_live {S : St} (hS : S.Ok) (id k : Nat) (h : tst S id k = true) : S.isLive id = true := by
  unfold tst at h
  simp only [Bool.and_eq_true, decide_eq_true_eq] at h
  obtain ⟨hu, rfl, hg⟩ := h
  have hlt : id % 1024 < S.used.length := by
    rcases Nat.lt_or_ge (id % 1024) S.used.length with c | c
    · exact c
    · rw [getD_none c] at hu; cases hu
  obtain ⟨x, hx⟩ : ∃ x, S.last[id % 1024]? = some x := ⟨_, List.getElem?_eq_getElem (by rw [← hS.ul]; exact hlt)⟩
  obtain ⟨u, hu'⟩ : ∃ u, S.used[id % 1024]? = some u := ⟨_, List.getElem?_eq_getElem hlt⟩
  rw [getD_some hu'] at hu
  rw [getD_some hx] at hg
  have := hS.id _ _ hx
  rw [St.isLive_iff hS]
  exact ⟨by rw [hu', hu], by rw [hx]; congr 1; omega⟩
theorem live_tst {S : St} (hS : S.Ok) (id : Nat) (h : S.isLive id = true) : tst S id (id % 1024) = true ∧ id % 1024 < S.n := by
  obtain ⟨a, b⟩ := (S.isLive_iff hS id).1 h
  refine ⟨?_, ?_⟩
  · unfold tst; rw [getD_some a, getD_some b]; simp
  · have := (List.getElem?_eq_some_iff.1 b).1; have := hS.le; omega

set_option maxHeartbeats 1000000 in
set_option maxRecDepth 100000 in
theorem rlive_ok (w0 w : World) (l : List Thing) (c : Nat) (S : St) (f : Nat → Nat) (ck id : Nat) (h : Own w0 w (RSlots c S f ck :: l)) (hS : S.Ok) (hid : id < 4294967296) :
    Calls Tryz.prog 184 #[.pointer (some ⟨c, 0, none⟩), .int .u32 (id : Int)] w fun e w' => e = .returned (.bool (S.isLive id)) ∧ Own w0 w' (RSlots c S f ck :: l) := by
  obtain ⟨⟨g, cp⟩, h⟩ := Own.ex_iff.1 h
  have q1 := h.cell 1
  have hn := hS.n2
  simp at q1
  have H : Hid (Own w0 w (Cells c #[.int .i64 (S.first : Int), .slice (some ⟨g, 0, none⟩) S.n cp, .int .i64 (ck : Int)] 228 :: Row 230 3 (.slice (some ⟨g, 0, none⟩) S.n cp) S.n (flat 3 S.n (one S f)) :: l)) := h
  have HS : Hid S.Ok := hS
  clear h hS
  go_enter Tryz.func184, Tryz.ntmps184
  go_wp2
  go_loopw [14] (fun cc wr => ∃ k : Nat, k ≤ S.n ∧ cc = .int .i64 k ∧ (∀ i, i < k → tst S id i = false) ∧ Own w0 wr (Cells c #[.int .i64 (S.first : Int), .slice (some ⟨g, 0, none⟩) S.n cp, .int .i64 (ck : Int)] 228 :: Row 230 3 (.slice (some ⟨g, 0, none⟩) S.n cp) S.n (flat 3 S.n (one S f)) :: l)) (fun cc _ => S.n - (intOf cc).toNat)
  case atStart => exact ⟨0, Nat.zero_le _, rfl, fun i hi => by omega, H.out⟩
  case round =>
    obtain ⟨k, hk, rfl, hno, hO⟩ := hrel
    have HN : Hid (∀ i, i < k → tst S id i = false) := hno
    clear hno H q1
    by_cases hlt : k < S.n
    · have c0 : wr.cell? ⟨g, k * 3, none⟩ = some (.int .i64 ((S.last.getD k 0 / 1024 : Nat) : Int)) := hO.two.fcell k 0 hlt (by decide) _ (by omega)
      have c1 : wr.cell? ⟨g, k * 3 + 1, none⟩ = some (.bool (S.used.getD k false)) := hO.two.fcell k 1 hlt (by decide) _ (by omega)
      have c2 : wr.cell? ⟨g, k * 3 + 2, none⟩ = some (.int .i64 (f k : Int)) := hO.two.fcell k 2 hlt (by decide) _ (by omega)
      have HO : Hid (Own w0 wr _) := hO
      have HT : Hid (tst S id k = (S.used.getD k false && (decide (k = id % 1024) && decide (S.last.getD k 0 / 1024 = id / 1024)))) := rfl
      have HR : Hid (tst S id k = false → ∀ i, i < k + 1 → tst S id i = false) := by
        intro ht i hi
        by_cases e : i = k
        · rw [e]; exact ht
        · exact HN.out i (by omega)
      clear hO HN
      have HSl : Hid (∀ w', Calls Tryz.prog 125 #[.int .u32 (id : Int)] w' fun e w'' => e = .returned (.int .i64 ((id % 1024 : Nat) : Int)) ∧ w'' = w') := fun w' => rslot_any id w' hid
      have HGn : Hid (∀ w', Calls Tryz.prog 223 #[.int .u32 (id : Int)] w' fun e w'' => e = .returned (.int .i64 ((id / 1024 : Nat) : Int)) ∧ w'' = w') := fun w' => rgen_any id w' hid
      have HL : Hid (tst S id k = true → S.isLive id = true) := fun h => tst_live HS.out id k h
      generalize S.used.getD k false = u at *
      generalize S.last.getD k 0 / 1024 = gn at *
      generalize id % 1024 = m at *
      generalize id / 1024 = gi at *
      cases u
      · go_wp2
        go_quiet (fail)
        go_wp2
        go_roundw
        case rel => exact ⟨k + 1, by omega, by go_num, HR.out (by rw [HT.out]; rfl), (HO.out.alloc _).drewN _⟩
        case measure => simp [intOf]; omega
      · by_cases hm : k = m
        · subst hm
          by_cases hg : gn = gi
          · subst hg
            have HE : Hid (S.isLive id = true) := HL.out (by rw [HT.out]; simp)
            go_wp2
            go_quiet ((first | (go_at_call 125; exact Calls.quiet_of_same (HSl.out _)) | (go_at_call 223; exact Calls.quiet_of_same (HGn.out _))))
            go_wp2
            go_ret
            exact ⟨by rw [HE.out]; rfl, Own.ex_iff.2 ⟨(g, cp), (HO.out.alloc _).drewN _⟩⟩
          · have hgb : ((gn : Int) == (gi : Int)) = false := by simp; omega
            go_wp2
            go_quiet ((first | (go_at_call 125; exact Calls.quiet_of_same (HSl.out _)) | (go_at_call 223; exact Calls.quiet_of_same (HGn.out _))))
            go_wp2
            go_roundw
            case rel => exact ⟨k + 1, by omega, by go_num, HR.out (by rw [HT.out]; simp [hg]), (HO.out.alloc _).drewN _⟩
            case measure => simp [intOf]; omega
        · have hmb : ((k : Int) == (m : Int)) = false := by simp; omega
          go_wp2
          go_quiet ((first | (go_at_call 125; exact Calls.quiet_of_same (HSl.out _)) | (go_at_call 223; exact Calls.quiet_of_same (HGn.out _))))
          go_wp2
          go_roundw
          case rel => exact ⟨k + 1, by omega, by go_num, HR.out (by rw [HT.out]; simp [hm]), (HO.out.alloc _).drewN _⟩
          case measure => simp [intOf]; omega
    · have ek : k = S.n := by omega
      have HE : Hid (S.isLive id = false) := by
        show _ = _
        cases hc : S.isLive id with
        | false => rfl
        | true =>
          obtain ⟨a, b⟩ := live_tst HS.out id hc
          rw [HN.out _ (by omega)] at a; cases a
      have HO : Hid (Own w0 wr _) := hO
      clear hO ek
      go_wp2
      go_ret
      exact ⟨by rw [HE.out]; rfl, Own.ex_iff.2 ⟨(g, cp), HO.out⟩⟩
set_option maxHeartbeats 400000 in
theorem rlive_nil (w : World) (id : Int) : Calls Tryz.prog 184 #[.pointer none, .int .u32 id] w fun e w' => e = .returned (.bool false) ∧ w' = w := by
  go_enter Tryz.func184, Tryz.ntmps184
  go_wp2
  go_ret
  exact ⟨rfl, rfl⟩
end Go.Proofs.YtflmgilmbppieaaGreatDoor

/-
  The document's List of slots, and Same.
-/
namespace Go.Proofs.YtflmgilmbppieaaGreatDoor
open Go.RowKit
set_option linter.unusedVariables false

def rl (S : St) (k : Nat) : List Nat := pick (S.last.take k) (S.used.take k)
theorem rl_all {S : St} (hS : S.Ok) : rl S S.n = S.list := by
  have h1 := hS.le
  have h2 := hS.ul
  unfold rl St.list; rw [List.take_of_length_le h1, List.take_of_length_le (by omega)]
theorem rl_le (S : St) (k : Nat) : (rl S k).length ≤ k := by
  have := pick_le (S.last.take k) (S.used.take k)
  rw [List.length_take] at this
  unfold rl; omega
theorem rl_yes {S : St} (hS : S.Ok) (k : Nat) (h : S.used.getD k false = true) : rl S (k + 1) = rl S k ++ [S.last.getD k 0] ∧ S.last.getD k 0 / 1024 * 1024 + k = S.last.getD k 0 ∧ 1 ≤ S.last.getD k 0 / 1024 ∧ S.last.getD k 0 < 4294967296 := by
  have hlt : k < S.used.length := by
    rcases Nat.lt_or_ge k S.used.length with c | c
    · exact c
    · rw [getD_none c] at h; cases h
  obtain ⟨x, hx⟩ : ∃ x, S.last[k]? = some x := ⟨_, List.getElem?_eq_getElem (by rw [← hS.ul]; exact hlt)⟩
  obtain ⟨u, hu⟩ : ∃ u, S.used[k]? = some u := ⟨_, List.getElem?_eq_getElem hlt⟩
  rw [getD_some hu] at h
  subst h
  have := hS.id k x hx
  rw [getD_some hx]
  refine ⟨?_, by omega, by omega, by omega⟩
  unfold rl; rw [pick_step S hS k x true hx hu]; rfl
theorem rl_no {S : St} (hS : S.Ok) (k : Nat) (h : S.used.getD k false = false) : rl S (k + 1) = rl S k := by
  unfold rl
  rcases Nat.lt_or_ge k S.used.length with c | c
  · obtain ⟨x, hx⟩ : ∃ x, S.last[k]? = some x := ⟨_, List.getElem?_eq_getElem (by rw [← hS.ul]; exact c)⟩
    obtain ⟨u, hu⟩ : ∃ u, S.used[k]? = some u := ⟨_, List.getElem?_eq_getElem c⟩
    rw [getD_some hu] at h
    subst h
    rw [pick_step S hS k x false hx hu]; simp
  · have := hS.ul
    rw [List.take_of_length_le (by omega), List.take_of_length_le (by omega), List.take_of_length_le (by omega), List.take_of_length_le c]
def rr (S : St) (k : Nat) : Nat := (List.range k).countP (free1 S)
theorem rr_succ (S : St) (k : Nat) : rr S (k + 1) = rr S k + (free1 S k).toNat := by
  unfold rr; rw [List.range_succ, List.countP_append]; simp only [List.countP_singleton]; cases free1 S k <;> rfl
theorem rr_le (S : St) (k : Nat) : rr S k ≤ k := by
  unfold rr
  have : (List.range k).countP (free1 S) ≤ (List.range k).length := List.countP_le_length
  rw [List.length_range] at this; exact this

theorem free1_t (S : St) (k : Nat) (hu : S.used.getD k false = false) (hg : S.last.getD k 0 / 1024 < 4194303) : free1 S k = true := by unfold free1; rw [hu]; unfold frb; rw [decide_eq_true hg]; rfl
theorem free1_f (S : St) (k : Nat) (hu : S.used.getD k false = false) (hg : ¬ S.last.getD k 0 / 1024 < 4194303) : free1 S k = false := by unfold free1; rw [hu]; unfold frb; rw [decide_eq_false hg]; rfl
theorem free1_u (S : St) (k : Nat) (hu : S.used.getD k false = true) : free1 S k = false := by unfold free1; rw [hu]; rfl

set_option maxHeartbeats 2000000 in
set_option maxRecDepth 100000 in
theorem rlist_ok (w0 w : World) (l : List Thing) (c : Nat) (S : St) (f : Nat → Nat) (ck : Nat) (h : Own w0 w (RSlots c S f ck :: l)) (hS : S.Ok) :
    Calls Tryz.prog 120 #[.pointer (some ⟨c, 0, none⟩)] w fun e w' => ∃ v, e = .returned (.tuple #[v, .int .i64 (rr S S.n : Int)]) ∧ Own w0 w' (Row 38 1 v S.list.length (irow .u32 S.list) :: RSlots c S f ck :: l) := by
  obtain ⟨⟨g, cp⟩, h⟩ := Own.ex_iff.1 h
  have q1 := h.cell 1
  have hn := hS.n2
  simp at q1
  obtain ⟨i0, hi, hz0, hz1, hz2⟩ := info_parts Tryz.infoID
  have H : Hid (Own w0 w (Row 38 1 (.slice none 0 0) 0 [] :: Cells c #[.int .i64 (S.first : Int), .slice (some ⟨g, 0, none⟩) S.n cp, .int .i64 (ck : Int)] 228 :: Row 230 3 (.slice (some ⟨g, 0, none⟩) S.n cp) S.n (flat 3 S.n (one S f)) :: l)) := h.nilRow _ _
  have HS : Hid S.Ok := hS
  clear h hS
  go_enter Tryz.func120, Tryz.ntmps120
  go_wp2
  go_loopw [4, 5, 17] (fun lv rm cc wr => ∃ k : Nat, k ≤ S.n ∧ cc = .int .i64 k ∧ rm = .int .i64 (rr S k : Int) ∧ ∃ ao cap, lv = .slice ao (rl S k).length cap ∧ Own w0 wr (Row 38 1 (.slice ao (rl S k).length cap) (rl S k).length (irow .u32 (rl S k)) :: Cells c #[.int .i64 (S.first : Int), .slice (some ⟨g, 0, none⟩) S.n cp, .int .i64 (ck : Int)] 228 :: Row 230 3 (.slice (some ⟨g, 0, none⟩) S.n cp) S.n (flat 3 S.n (one S f)) :: l)) (fun _ _ cc _ => S.n - (intOf cc).toNat)
  case atStart => exact ⟨0, Nat.zero_le _, rfl, rfl, none, 0, rfl, H.out⟩
  case round =>
    obtain ⟨k, hk, rfl, rfl, ao, cap, rfl, hO⟩ := hrel
    have hrr := rr_le S k
    have hrl := rl_le S k
    clear H q1
    by_cases hlt : k < S.n
    · have c0 : wr.cell? ⟨g, k * 3, none⟩ = some (.int .i64 ((S.last.getD k 0 / 1024 : Nat) : Int)) := hO.three.fcell k 0 hlt (by decide) _ (by omega)
      have c1 : wr.cell? ⟨g, k * 3 + 1, none⟩ = some (.bool (S.used.getD k false)) := hO.three.fcell k 1 hlt (by decide) _ (by omega)
      have c2 : wr.cell? ⟨g, k * 3 + 2, none⟩ = some (.int .i64 (f k : Int)) := hO.three.fcell k 2 hlt (by decide) _ (by omega)
      have HO : Hid (Own w0 wr _) := hO
      clear hO
      cases hu : S.used.getD k false with
      | false =>
        have HL : Hid (rl S (k + 1) = rl S k) := rl_no HS.out k hu
        rw [hu] at c1
        by_cases hg : S.last.getD k 0 / 1024 < 4194303
        · have HR : Hid (rr S (k + 1) = rr S k + 1) := by rw [rr_succ, free1_t S k hu hg]; rfl
          obtain ⟨gn, hgn⟩ : ∃ gn : Int, gn = ((S.last.getD k 0 / 1024 : Nat) : Int) := ⟨_, rfl⟩
          have hg' : gn < 4194303 := by omega
          rw [← hgn] at c0
          clear hg hgn hu
          generalize rr S k = rk at *
          generalize rl S k = lk at *
          go_wp2
          go_roundw
          case rel => exact ⟨k + 1, by omega, by go_num, by rw [HR.out]; go_num, ao, cap, by rw [HL.out], by rw [HL.out]; exact HO.out.alloc _⟩
          case measure => simp [intOf]; omega
        · have HR : Hid (rr S (k + 1) = rr S k) := by rw [rr_succ, free1_f S k hu hg]; rfl
          obtain ⟨gn, hgn⟩ : ∃ gn : Int, gn = ((S.last.getD k 0 / 1024 : Nat) : Int) := ⟨_, rfl⟩
          have hg' : ¬ gn < 4194303 := by omega
          rw [← hgn] at c0
          clear hg hgn hu
          generalize rr S k = rk at *
          generalize rl S k = lk at *
          go_wp2
          go_roundw
          case rel => exact ⟨k + 1, by omega, by go_num, by rw [HR.out], ao, cap, by rw [HL.out], by rw [HL.out]; exact HO.out.alloc _⟩
          case measure => simp [intOf]; omega
      | true =>
        obtain ⟨e1, e2, e3, e4⟩ := rl_yes HS.out k hu
        have HL : Hid (rl S (k + 1) = rl S k ++ [S.last.getD k 0]) := e1
        have HR : Hid (rr S (k + 1) = rr S k) := by rw [rr_succ, free1_u S k hu]; rfl
        rw [hu] at c1
        have HM : Hid (∀ w', Calls Tryz.prog 130 #[.int .i64 (k : Int), .int .i64 ((S.last.getD k 0 / 1024 : Nat) : Int)] w' fun e w'' => e = .returned (.tuple #[.int .u32 (S.last.getD k 0 : Int), .int .i64 0]) ∧ w'' = w') := by
          intro w'
          have := rmake_yes k (S.last.getD k 0 / 1024) w' (by omega) e3 (by omega)
          rw [e2] at this; exact this
        clear e1 e2 e3 e4 hu
        generalize rr S k = rk at *
        generalize rl S k = lk at *
        generalize S.last.getD k 0 / 1024 = gn at *
        generalize S.last.getD k 0 = x at *
        go_wp2_with (first | (go_at_call 130; refine (HM.out _).mono ?_; rintro e w' ⟨rfl, hw⟩; subst hw) | (at_builtin; refine append1_own rfl _ _ 55 rfl 38 i0 (.int .u32 0) 1 4 Tryz.underlying55 hi hz0 hz1 hz2 rfl (by decide) _ _ _ rfl (HO.out.alloc _) _ _ (by simp) rfl rfl (one_int _ _) (by unfold maxLen; omega) (by omega) ?_))
        intro g' cap' w2 hO2 hsz
        have H2 : Hid (Own w0 w2 _) := hO2
        clear hO2 HO
        go_wp2
        go_roundw
        case rel => exact ⟨k + 1, by omega, by go_num, by rw [HR.out], _, cap', by rw [HL.out]; simp; rfl, by rw [HL.out]; simpa [irow] using H2.out⟩
        case measure => simp [intOf]; omega
    · have ek : k = S.n := by omega
      subst ek
      have HL : Hid (rl S S.n = S.list) := rl_all HS.out
      have HO : Hid (Own w0 wr _) := hO
      clear hO
      go_wp2
      go_ret2
      refine ⟨_, rfl, ?_⟩
      have := HO.out
      rw [HL.out] at this ⊢
      exact Own.ex2.2 ⟨(g, cp), this⟩
set_option maxHeartbeats 400000 in
theorem rlist_nil (w : World) : Calls Tryz.prog 120 #[.pointer none] w fun e w' => e = .returned (.tuple #[.slice none 0 0, .int .i64 0]) ∧ w' = w := by
  go_enter Tryz.func120, Tryz.ntmps120
  go_wp2
  go_ret2
  exact ⟨rfl, rfl⟩
end Go.Proofs.YtflmgilmbppieaaGreatDoor

/-
  Slices of numbers that can be read; Same of two lists of IDs.
-/
namespace Go.Proofs.YtflmgilmbppieaaGreatDoor
open Go.RowKit
set_option linter.unusedVariables false

/-- a slice that can be read: these numbers -/
def Nums (k : IntKind) (w : World) (v : Value) (X : List Nat) : Prop := ∃ ao cap, v = .slice ao X.length cap ∧ (X = [] ∨ ∃ g o, ao = some ⟨g, o, none⟩ ∧ ∀ (j x : Nat), X[j]? = some x → w.cell? ⟨g, o + j, none⟩ = some (.int k (x : Int)))
theorem Own.nums {w0 w : World} {l : List Thing} {e : TypeId} {k : IntKind} {v : Value} {X : List Nat} (h : Own w0 w (Row e 1 v X.length (irow k X) :: l)) : Nums k w v X := by
  have r := h.row
  obtain ⟨ao, cap, rfl⟩ := row_any r
  refine ⟨ao, cap, rfl, ?_⟩
  by_cases h0 : X.length = 0
  · exact .inl (List.eq_nil_of_length_eq_zero h0)
  · right
    obtain ⟨g, c, he, _⟩ := row_shape r (by omega)
    cases he
    refine ⟨g, 0, rfl, fun j x hx => ?_⟩
    have hj := (List.getElem?_eq_some_iff.1 hx).1
    rw [Nat.zero_add, r.cellAt _ (by omega), getElem?_irow, hx]; rfl
theorem Nums.quiet {k : IntKind} {w w' : World} {v : Value} {X : List Nat} (h : Nums k w v X) (hf : Fr Nobody w w') : Nums k w' v X := by
  obtain ⟨ao, cap, rfl, h⟩ := h
  refine ⟨ao, cap, rfl, ?_⟩
  rcases h with h | ⟨g, o, ha, hc⟩
  · exact .inl h
  · refine .inr ⟨g, o, ha, fun j x hx => ?_⟩
    have h1 := hc j x hx
    exact (hf.cell (p := ⟨g, o + j, none⟩) (World.block_lt_of_cell? w _ h1) id).trans h1

set_option maxHeartbeats 1000000 in
set_option maxRecDepth 100000 in
theorem same_ok (w : World) (v1 v2 : Value) (X : List Nat) (h1 : Nums .u32 w v1 X) (h2 : Nums .u32 w v2 X) (hX : X.length ≤ 100000000) :
    Calls Tryz.prog 22 #[v1, v2] w fun e w' => e = .returned (.bool true) ∧ Fr Nobody w w' := by
  obtain ⟨a1, c1, rfl, h1⟩ := h1
  obtain ⟨a2, c2, rfl, h2⟩ := h2
  obtain ⟨n, hn⟩ : ∃ n, n = X.length := ⟨_, rfl⟩
  rw [← hn] at hX ⊢
  have HN : Hid (n = X.length) := hn
  have H1 : Hid (X = [] ∨ ∃ g o, a1 = some ⟨g, o, none⟩ ∧ ∀ (j x : Nat), X[j]? = some x → w.cell? ⟨g, o + j, none⟩ = some (.int .u32 (x : Int))) := h1
  have H2 : Hid (X = [] ∨ ∃ g o, a2 = some ⟨g, o, none⟩ ∧ ∀ (j x : Nat), X[j]? = some x → w.cell? ⟨g, o + j, none⟩ = some (.int .u32 (x : Int))) := h2
  clear h1 h2 hn
  have hne : ((n : Int) != (n : Int)) = false := by simp
  go_enter Tryz.func22, Tryz.ntmps22
  go_wp2
  clear hne
  go_loopw [13] (fun cc wr => ∃ k : Nat, k ≤ n ∧ cc = .int .i64 k ∧ Fr Nobody w wr) (fun cc _ => n - (intOf cc).toNat)
  case atStart => exact ⟨0, Nat.zero_le _, rfl, Fr.refl _ _⟩
  case round =>
    obtain ⟨k, hk, rfl, hf⟩ := hrel
    have HF : Hid (Fr Nobody w wr) := hf
    clear hf
    by_cases hlt : k < n
    · obtain ⟨x, hx⟩ : ∃ x, X[k]? = some x := ⟨_, List.getElem?_eq_getElem (by rw [← HN.out]; exact hlt)⟩
      obtain ⟨g1, o1, rfl, d1⟩ : ∃ g o, a1 = some ⟨g, o, none⟩ ∧ wr.cell? ⟨g, o + k, none⟩ = some (.int .u32 (x : Int)) := by
        rcases H1.out with h | ⟨g, o, ha, hc⟩
        · rw [h] at hx; simp at hx
        · have h1 := hc k x hx
          exact ⟨g, o, ha, (HF.out.cell (p := ⟨g, o + k, none⟩) (World.block_lt_of_cell? w _ h1) id).trans h1⟩
      obtain ⟨g2, o2, rfl, d2⟩ : ∃ g o, a2 = some ⟨g, o, none⟩ ∧ wr.cell? ⟨g, o + k, none⟩ = some (.int .u32 (x : Int)) := by
        rcases H2.out with h | ⟨g, o, ha, hc⟩
        · rw [h] at hx; simp at hx
        · have h1 := hc k x hx
          exact ⟨g, o, ha, (HF.out.cell (p := ⟨g, o + k, none⟩) (World.block_lt_of_cell? w _ h1) id).trans h1⟩
      clear hx
      have hxx : ((x : Int) != (x : Int)) = false := by simp
      go_wp2
      go_quiet (fail)
      go_wp2
      go_roundw
      case rel => exact ⟨k + 1, by omega, by go_num, HF.out.drewN _⟩
      case measure => simp [intOf]; omega
    · go_wp2
      go_ret
      exact ⟨rfl, HF.out⟩

end Go.Proofs.YtflmgilmbppieaaGreatDoor

/-
  Same of two lists of IDs; the document's Free and Take of slots.
-/
namespace Go.Proofs.YtflmgilmbppieaaGreatDoor
open Go.RowKit
set_option linter.unusedVariables false

/-- a slice that can be read: these numbers -/
theorem flat_set3 (n : Nat) (g g' : Nat → Nat → Value) (j : Nat) (h : ∀ a b, a ≠ j → g' a b = g a b) : flat 3 n g' = (((flat 3 n g).set (j * 3) (g' j 0)).set (j * 3 + 1) (g' j 1)).set (j * 3 + 2) (g' j 2) := by
  have e1 := flat_set 3 n g (fun a b => if a = j ∧ b = 0 then g' j 0 else g a b) j 0 (by decide) (by decide) (fun a b _ _ hn => by simp only [if_neg hn])
  have e2 := flat_set 3 n (fun a b => if a = j ∧ b = 0 then g' j 0 else g a b) (fun a b => if a = j ∧ b ≤ 1 then g' j b else g a b) j 1 (by decide) (by decide) (fun a b _ _ hn => by
    by_cases c : a = j
    · subst c
      by_cases c0 : b = 0
      · subst c0; simp
      · simp only [true_and] at hn ⊢; rw [if_neg (by omega), if_neg c0]
    · simp [c])
  have e3 := flat_set 3 n (fun a b => if a = j ∧ b ≤ 1 then g' j b else g a b) g' j 2 (by decide) (by decide) (fun a b _ hb hn => by
    by_cases c : a = j
    · subst c
      simp only [true_and] at hn ⊢; rw [if_pos (by omega)]
    · simp [c, h a b c])
  rw [e3, e2, e1]
  simp

theorem one_less (S : St) (f : Nat → Nat) (id m : Nat) (hm : m = id % 1024) (hus : m < S.used.length) : flat 3 S.n (one (S.less id) f) = (flat 3 S.n (one S f)).set (m * 3 + 1) (.bool false) := by
  have e1 : one (S.less id) f m 1 = .bool false := by simp only [one, St.less]; rw [← hm, getD_set_same _ _ _ _ hus]; rfl
  rw [← e1]
  refine flat_set 3 S.n (one S f) (one (S.less id) f) m 1 (by decide) (by decide) ?_
  intro a b _ _ hn
  unfold one
  by_cases c0 : b = 0
  · subst c0; rfl
  · by_cases c1 : b = 1
    · subst c1; simp only [St.less]; rw [getD_set_other _ _ _ _ _ (by rw [← hm]; exact fun q => hn ⟨q, rfl⟩)]
    · rw [if_neg c0, if_neg c1, if_neg c0, if_neg c1]
theorem one_upd (S : St) (n : Nat) (f : Nat → Nat) (m x : Nat) : flat 3 n (one S (updn f m x)) = (flat 3 n (one S f)).set (m * 3 + 2) (.int .i64 (x : Int)) := by
  have e1 : one S (updn f m x) m 2 = .int .i64 (x : Int) := by unfold one; rw [if_neg (by decide), if_neg (by decide), updn_same]
  rw [← e1]
  refine flat_set 3 n (one S f) (one S (updn f m x)) m 2 (by decide) (by decide) ?_
  intro a b _ hb hn
  unfold one
  by_cases c0 : b = 0
  · rw [if_pos c0, if_pos c0]
  · by_cases c1 : b = 1
    · rw [if_neg c0, if_pos c1, if_neg c0, if_pos c1]
    · rw [if_neg c0, if_neg c1, if_neg c0, if_neg c1, updn_other _ _ _ _ (fun q => hn ⟨q, by omega⟩)]

set_option maxHeartbeats 2000000 in
set_option maxRecDepth 100000 in
theorem rfree_ok (w0 w : World) (l : List Thing) (c : Nat) (S : St) (f : Nat → Nat) (ck id : Nat) (h : Own w0 w (RSlots c S f ck :: l)) (hS : S.Ok) (hT : Stamp S f ck) (hid : id < 4294967296) (hck : ck ≤ 1000000) :
    Calls Tryz.prog 135 #[.pointer (some ⟨c, 0, none⟩), .int .u32 (id : Int)] w fun e w' => e = .returned (.int .i64 (S.free id).1) ∧ ∃ f' ck', ck' ≤ ck + 1 ∧ Stamp (S.free id).2 f' ck' ∧ Own w0 w' (RSlots c (S.free id).2 f' ck' :: l) := by
  have HL := rlive_ok w0 w l c S f ck id h hS hid
  have hn := hS.n2
  unfold St.free
  by_cases hlive : S.isLive id = true
  · rw [if_pos hlive]
    rw [hlive] at HL
    have hle := hT.less hS hlive
    obtain ⟨hu, hx⟩ := (S.isLive_iff hS id).1 hlive
    have hlu : id % 1024 < S.n := by have := (List.getElem?_eq_some_iff.1 hx).1; have := hS.le; omega
    have hus : id % 1024 < S.used.length := (List.getElem?_eq_some_iff.1 hu).1
    obtain ⟨m, hm⟩ : ∃ m, m = id % 1024 := ⟨_, rfl⟩
    obtain ⟨gg, hgg⟩ : ∃ gg : Int, gg = ((id / 1024 : Nat) : Int) := ⟨_, rfl⟩
    rw [← hm] at hlu hus hle
    have HLV : Hid (Calls _ _ _ _ _) := HL
    have HX : Hid (S.last.getD m 0 = id) := by rw [hm]; exact getD_some hx
    have HU : Hid (S.used.getD m false = true) := by rw [hm]; exact getD_some hu
    have H1 : Hid (flat 3 S.n (one (S.less id) f) = (flat 3 S.n (one S f)).set (m * 3 + 1) (.bool false)) := one_less S f id m hm hus
    have HSl : Hid (∀ w', Calls Tryz.prog 125 #[.int .u32 (id : Int)] w' fun e w'' => e = .returned (.int .i64 (m : Int)) ∧ w'' = w') := by intro w'; have := rslot_any id w' hid; rw [← hm] at this; exact this
    have hlu' : (m : Int) < (S.n : Int) := by omega
    by_cases hg : id / 1024 < 4194303
    · have hg' : gg < 4194303 := by omega
      have HST : Hid (Stamp (S.less id) (updn f m (ck + 1)) (ck + 1)) := hle.1 hg
      have HGG : Hid (gg = ((id / 1024 : Nat) : Int)) := hgg
      clear HL hle hlive hT h hu hx hS hg hgg hm hus
      go_enter Tryz.func135, Tryz.ntmps135
      go_wp2_with fail
      refine HLV.out.mono ?_
      rintro e w1 ⟨rfl, hO⟩
      obtain ⟨⟨g, cp⟩, hO⟩ := Own.ex_iff.1 hO
      have q1 := hO.cell 1
      have q2 := hO.cell 2
      have z2 := hO.froz 2
      have d := hO.ne
      have hgc : g ≠ c := fun q => d (by rw [q]; rfl)
      have p0 : w1.cell? ⟨g, m * 3, none⟩ = some (.int .i64 gg) := by
        have := hO.two.fcell m 0 hlu (by decide) (m * 3) (by omega)
        rw [this, HGG.out]; unfold one; rw [if_pos rfl, HX.out]
      have p1 : w1.cell? ⟨g, m * 3 + 1, none⟩ = some (.bool (S.used.getD m false)) := hO.two.fcell m 1 hlu (by decide) (m * 3 + 1) (by omega)
      have p2 : w1.cell? ⟨g, m * 3 + 2, none⟩ = some (.int .i64 (f m : Int)) := hO.two.fcell m 2 hlu (by decide) (m * 3 + 2) (by omega)
      have y1 : w1.frozen? ⟨g, m * 3 + 1, none⟩ = false := hO.two.ffroz _
      have y2 : w1.frozen? ⟨g, m * 3 + 2, none⟩ = false := hO.two.ffroz _
      simp at q1 q2
      rw [HU.out] at p1
      have HO : Hid (Own w0 w1 _) := hO
      clear hO d HLV
      go_wp2_with (first | (go_at_call 125; refine (HSl.out _).mono ?_; rintro e w' ⟨rfl, hw⟩; subst hw))
      go_region
      go_wp2
      go_ret
      refine ⟨rfl, updn f m (ck + 1), ck + 1, Nat.le_refl _, HST.out, Own.ex_iff.2 ⟨(g, cp), ?_⟩⟩
      have k := ((((HO.out.two.setR (m * 3 + 1) (.bool false)).two.setC 2 (.int .i64 ((ck : Int) + 1))).two.setR (m * 3 + 2) (.int .i64 ((ck : Int) + 1))).two)
      have e2 := one_upd (S.less id) S.n f m (ck + 1)
      rw [H1.out] at e2
      show Own w0 _ (Cells c #[.int .i64 (S.first : Int), .slice (some ⟨g, 0, none⟩) S.n cp, .int .i64 ((ck + 1 : Nat) : Int)] 228 :: Row 230 3 (.slice (some ⟨g, 0, none⟩) S.n cp) S.n (flat 3 S.n (one (S.less id) (updn f m (ck + 1)))) :: l)
      rw [e2]
      first | exact k.drew | exact k
    · have hg' : ¬ gg < 4194303 := by omega
      have HST : Hid (Stamp (S.less id) f ck) := hle.2 hg
      have HGG : Hid (gg = ((id / 1024 : Nat) : Int)) := hgg
      clear HL hle hlive hT h hu hx hS hg hgg hm hus
      go_enter Tryz.func135, Tryz.ntmps135
      go_wp2_with fail
      refine HLV.out.mono ?_
      rintro e w1 ⟨rfl, hO⟩
      obtain ⟨⟨g, cp⟩, hO⟩ := Own.ex_iff.1 hO
      have q1 := hO.cell 1
      have d := hO.ne
      have hgc : g ≠ c := fun q => d (by rw [q]; rfl)
      have p0 : w1.cell? ⟨g, m * 3, none⟩ = some (.int .i64 gg) := by
        have := hO.two.fcell m 0 hlu (by decide) (m * 3) (by omega)
        rw [this, HGG.out]; unfold one; rw [if_pos rfl, HX.out]
      have p1 : w1.cell? ⟨g, m * 3 + 1, none⟩ = some (.bool (S.used.getD m false)) := hO.two.fcell m 1 hlu (by decide) (m * 3 + 1) (by omega)
      have y1 : w1.frozen? ⟨g, m * 3 + 1, none⟩ = false := hO.two.ffroz _
      simp at q1
      rw [HU.out] at p1
      have HO : Hid (Own w0 w1 _) := hO
      clear hO d HLV
      go_wp2_with (first | (go_at_call 125; refine (HSl.out _).mono ?_; rintro e w' ⟨rfl, hw⟩; subst hw))
      go_ret
      refine ⟨rfl, f, ck, Nat.le_succ _, HST.out, Own.ex_iff.2 ⟨(g, cp), ?_⟩⟩
      have k := (HO.out.two.setR (m * 3 + 1) (.bool false)).two
      show Own w0 _ (Cells c #[.int .i64 (S.first : Int), .slice (some ⟨g, 0, none⟩) S.n cp, .int .i64 (ck : Int)] 228 :: Row 230 3 (.slice (some ⟨g, 0, none⟩) S.n cp) S.n (flat 3 S.n (one (S.less id) f)) :: l)
      rw [H1.out]
      exact k
  · rw [if_neg hlive]
    have hlive' : S.isLive id = false := by simpa using hlive
    rw [hlive'] at HL
    have HLV : Hid (Calls _ _ _ _ _) := HL
    have HT : Hid (Stamp S f ck) := hT
    clear HL hlive hlive' h hT hS
    go_enter Tryz.func135, Tryz.ntmps135
    go_wp2_with fail
    refine HLV.out.mono ?_
    rintro e w1 ⟨rfl, hO⟩
    have HO : Hid (Own w0 w1 _) := hO
    clear hO HLV
    go_wp2
    go_ret
    exact ⟨rfl, f, ck, Nat.le_succ _, HT.out, HO.out⟩
set_option maxHeartbeats 400000 in
theorem rfree_nil (w : World) (id : Int) : Calls Tryz.prog 135 #[.pointer none, .int .u32 id] w fun e w' => e = .returned (.int .i64 10) ∧ w' = w := by
  go_enter Tryz.func135, Tryz.ntmps135
  go_wp2
  go_ret
  exact ⟨rfl, rfl⟩
end Go.Proofs.YtflmgilmbppieaaGreatDoor

/-
  The document's Take of slots.
-/
namespace Go.Proofs.YtflmgilmbppieaaGreatDoor
open Go.RowKit
set_option linter.unusedVariables false

theorem one_again (S : St) (f : Nat → Nat) (j x : Nat) (hx : S.last[j]? = some x) (hu : j < S.used.length) : flat 3 S.n (one (S.again j) (updn f j 0)) = (((flat 3 S.n (one S f)).set (j * 3) (.int .i64 ((x / 1024 + 1 : Nat) : Int))).set (j * 3 + 1) (.bool true)).set (j * 3 + 2) (.int .i64 0) := by
  have hl := (List.getElem?_eq_some_iff.1 hx).1
  rw [flat_set3 S.n (one S f) (one (S.again j) (updn f j 0)) j ?_]
  · have e0 : one (S.again j) (updn f j 0) j 0 = .int .i64 ((x / 1024 + 1 : Nat) : Int) := by
      simp only [one, St.again]; rw [getD_set_same _ _ _ _ hl, getD_some hx, if_pos trivial]
      rw [Nat.add_div_right x (by decide)]
    have e1 : one (S.again j) (updn f j 0) j 1 = .bool true := by simp only [one, St.again]; rw [getD_set_same _ _ _ _ hu]; rfl
    have e2 : one (S.again j) (updn f j 0) j 2 = .int .i64 0 := by unfold one; rw [if_neg (by decide), if_neg (by decide), updn_same]; rfl
    rw [e0, e1, e2]
  · intro a b hab
    simp only [one, St.again]
    rw [getD_set_other _ _ _ _ _ hab, getD_set_other _ _ _ _ _ hab, updn_other _ _ _ _ hab]
theorem one_more (S : St) (f : Nat → Nat) (hul : S.used.length = S.last.length) (hf1 : S.last.length < 1024) (hf : f S.last.length = 0) : flat 3 S.n (one S.more f) = (((flat 3 S.n (one S f)).set (S.last.length * 3) (.int .i64 (S.first : Int))).set (S.last.length * 3 + 1) (.bool true)).set (S.last.length * 3 + 2) (.int .i64 0) := by
  rw [flat_set3 S.n (one S f) (one S.more f) S.last.length ?_]
  · have e0 : one S.more f S.last.length 0 = .int .i64 (S.first : Int) := by
      simp only [one, St.more]; rw [getD_snoc_same, if_pos trivial]
      rw [show (S.first * 1024 + S.last.length) / 1024 = S.first by omega]
    have e1 : one S.more f S.last.length 1 = .bool true := by
      simp only [one, St.more]
      have : (S.used ++ [true]).getD S.last.length false = true := by rw [← hul]; exact getD_snoc_same _ _ _
      rw [this]; rfl
    have e2 : one S.more f S.last.length 2 = .int .i64 0 := by unfold one; rw [if_neg (by decide), if_neg (by decide), hf]; rfl
    rw [e0, e1, e2]
  · intro a b hab
    simp only [one, St.more]
    rw [getD_snoc_other _ _ _ _ hab, getD_snoc_other _ _ _ _ (by rw [hul]; exact hab)]

/-- which slot was freed last, as far as k -/
def Best (f : Nat → Nat) (k : Nat) (b : Int) : Prop := (b = -1 ∧ ∀ i, i < k → f i = 0) ∨ ∃ j : Nat, j < k ∧ b = (j : Int) ∧ 0 < f j ∧ ∀ i, i < k → f i ≤ f j

set_option maxHeartbeats 4000000 in
set_option maxRecDepth 100000 in
theorem rtake_ok (w0 w : World) (l : List Thing) (c : Nat) (S : St) (f : Nat → Nat) (ck : Nat) (h : Own w0 w (RSlots c S f ck :: l)) (hS : S.Ok) (hT : Stamp S f ck) (hck : ck ≤ 1000000) :
    Calls Tryz.prog 78 #[.pointer (some ⟨c, 0, none⟩)] w fun e w' => e = .returned (.tuple #[.int .u32 (S.take.1 : Int), .int .i64 S.take.2.1]) ∧ ∃ f', Stamp S.take.2.2 f' ck ∧ Own w0 w' (RSlots c S.take.2.2 f' ck :: l) := by
  obtain ⟨⟨g, cp⟩, h⟩ := Own.ex_iff.1 h
  have q1 := h.cell 1
  have hn := hS.n2
  have hd := h.ne
  have hgc : g ≠ c := fun q => hd (by rw [q]; rfl)
  simp at q1
  have H : Hid (Own w0 w (Cells c #[.int .i64 (S.first : Int), .slice (some ⟨g, 0, none⟩) S.n cp, .int .i64 (ck : Int)] 228 :: Row 230 3 (.slice (some ⟨g, 0, none⟩) S.n cp) S.n (flat 3 S.n (one S f)) :: l)) := h
  have HS : Hid (S.Ok ∧ Stamp S f ck) := ⟨hS, hT⟩
  have HLE : Hid (∀ i, (f i : Int) ≤ 1000000) := fun i => by have := hT.le i; omega
  clear h hS hT hd
  go_enter Tryz.func78, Tryz.ntmps78
  go_wp2
  go_loopw [4, 16] (fun bv cc wr => ∃ (k : Nat) (b : Int), k ≤ S.n ∧ cc = .int .i64 k ∧ bv = .int .i64 b ∧ Best f k b ∧ Own w0 wr (Cells c #[.int .i64 (S.first : Int), .slice (some ⟨g, 0, none⟩) S.n cp, .int .i64 (ck : Int)] 228 :: Row 230 3 (.slice (some ⟨g, 0, none⟩) S.n cp) S.n (flat 3 S.n (one S f)) :: l)) (fun _ cc _ => S.n - (intOf cc).toNat)
  case atStart => exact ⟨0, -1, Nat.zero_le _, rfl, rfl, .inl ⟨rfl, fun i hi => by omega⟩, H.out⟩
  case round =>
    obtain ⟨k, b, hk, rfl, rfl, hB, hO⟩ := hrel
    clear H q1
    by_cases hlt : k < S.n
    · have q1 := hO.cell 1
      simp at q1
      have c0 : wr.cell? ⟨g, k * 3, none⟩ = some (.int .i64 ((S.last.getD k 0 / 1024 : Nat) : Int)) := hO.two.fcell k 0 hlt (by decide) _ (by omega)
      have c1 : wr.cell? ⟨g, k * 3 + 1, none⟩ = some (.bool (S.used.getD k false)) := hO.two.fcell k 1 hlt (by decide) _ (by omega)
      have c2 : wr.cell? ⟨g, k * 3 + 2, none⟩ = some (.int .i64 (f k : Int)) := hO.two.fcell k 2 hlt (by decide) _ (by omega)
      have hcl := hO.lt
      have hgl := World.block_lt_of_cell? wr _ c0
      have HO : Hid (Own w0 wr _) := hO
      rcases hB with ⟨rfl, hz⟩ | ⟨j, hj, rfl, hp, hm⟩
      · by_cases hfk : f k = 0
        · have HB : Hid (Best f (k + 1) (-1)) := .inl ⟨rfl, fun i hi => by by_cases e : i = k; rw [e]; exact hfk; exact hz i (by omega)⟩
          rw [hfk] at c2
          clear hO hz hfk
          generalize S.used.getD k false = u at *
          generalize S.last.getD k 0 / 1024 = gn at *
          go_wp2
          go_quiet (fail)
          go_wp2
          go_roundw
          case rel => exact ⟨k + 1, -1, by omega, by go_num, rfl, HB.out, (HO.out.alloc _).drewN _⟩
          case measure => simp [intOf]; omega
        · have HB : Hid (Best f (k + 1) (k : Int)) := .inr ⟨k, by omega, rfl, by omega, fun i hi => by by_cases e : i = k; rw [e]; exact Nat.le_refl _; rw [hz i (by omega)]; omega⟩
          have hfk' : (0 : Int) < (f k : Int) := by omega
          have hdd : 0 < f k := by omega
          clear hO hz hfk
          generalize f k = fk at *
          generalize S.used.getD k false = u at *
          generalize S.last.getD k 0 / 1024 = gn at *
          go_wp2
          go_quiet (fail)
          go_wp2
          go_roundw
          case rel => exact ⟨k + 1, k, by omega, by go_num, rfl, HB.out, (HO.out.alloc _).drewN _⟩
          case measure => simp [intOf]; omega
      · have d2 : wr.cell? ⟨g, j * 3 + 2, none⟩ = some (.int .i64 (f j : Int)) := hO.two.fcell j 2 (by omega) (by decide) _ (by omega)
        by_cases hfk : f k = 0
        · have HB : Hid (Best f (k + 1) (j : Int)) := .inr ⟨j, by omega, rfl, hp, fun i hi => by by_cases e : i = k; rw [e, hfk]; exact Nat.zero_le _; exact hm i (by omega)⟩
          rw [hfk] at c2
          clear hO hm hfk
          generalize S.used.getD k false = u at *
          generalize S.last.getD k 0 / 1024 = gn at *
          go_wp2
          go_quiet (fail)
          go_wp2
          go_roundw
          case rel => exact ⟨k + 1, j, by omega, by go_num, rfl, HB.out, (HO.out.alloc _).drewN _⟩
          case measure => simp [intOf]; omega
        · have hfk' : (0 : Int) < (f k : Int) := by omega
          have hdd : 0 < f k := by omega
          by_cases hgt : f j < f k
          · have HB : Hid (Best f (k + 1) (k : Int)) := .inr ⟨k, by omega, rfl, by omega, fun i hi => by by_cases e : i = k; rw [e]; exact Nat.le_refl _; have := hm i (by omega); omega⟩
            have hgt' : (f j : Int) < (f k : Int) := by omega
            have hjn : (j : Int) < (S.n : Int) := by omega
            clear hO hm hfk hp
            generalize f k = fk at *
            generalize f j = fj at *
            generalize S.used.getD k false = u at *
            generalize S.last.getD k 0 / 1024 = gn at *
            go_wp2
            go_quiet (fail)
            go_wp2
            go_roundw
            case rel => exact ⟨k + 1, k, by omega, by go_num, rfl, HB.out, (HO.out.alloc _).drewN _⟩
            case measure => simp [intOf]; omega
          · have HB : Hid (Best f (k + 1) (j : Int)) := .inr ⟨j, by omega, rfl, hp, fun i hi => by by_cases e : i = k; rw [e]; omega; exact hm i (by omega)⟩
            have hgt' : decide ((f j : Int) < (f k : Int)) = false := by simp; omega
            have hjn : (j : Int) < (S.n : Int) := by omega
            clear hO hm hfk hp
            generalize f k = fk at *
            generalize f j = fj at *
            generalize S.used.getD k false = u at *
            generalize S.last.getD k 0 / 1024 = gn at *
            go_wp2
            go_quiet (fail)
            go_wp2
            go_roundw
            case rel => exact ⟨k + 1, j, by omega, by go_num, rfl, HB.out, (HO.out.alloc _).drewN _⟩
            case measure => simp [intOf]; omega
    · have ek : k = S.n := by omega
      subst ek
      have q0 := hO.cell 0
      have q1 := hO.cell 1
      simp at q0 q1
      have hcl := hO.lt
      have HO : Hid (Own w0 wr _) := hO
      clear hO
      cases hf : S.freed.getLast? with
      | some j =>
        obtain ⟨hp, hmx, hinj⟩ := HS.out.2.last HS.out.1 hf
        have e := dropLast_of _ _ hf
        have hjm : j ∈ S.freed := by rw [e]; simp
        obtain ⟨hu, x, hx, hgx⟩ := HS.out.1.fr j hjm
        have HTK : Hid (S.take = (x + 1024, 0, S.again j)) := S.take_again hf hx
        have hid := HS.out.1.id j x hx
        have hjn : j < S.n := by have := HS.out.1.lt hjm; have := HS.out.1.le; omega
        have hb : b = (j : Int) := by
          rcases hB with ⟨_, hz⟩ | ⟨i, hi, hb, _, hm⟩
          · have := hz j hjn; omega
          · have h1 := hm j hjn
            have h2 := hmx i
            rw [hb, hinj i (by omega)]
        subst hb
        have HST : Hid (Stamp (S.again j) (updn f j 0) ck) := HS.out.2.again HS.out.1 hf
        have HON : Hid (flat 3 S.n (one (S.again j) (updn f j 0)) = (((flat 3 S.n (one S f)).set (j * 3) (.int .i64 ((x / 1024 + 1 : Nat) : Int))).set (j * 3 + 1) (.bool true)).set (j * 3 + 2) (.int .i64 0)) := one_again S f j x hx (by rw [HS.out.1.ul]; exact HS.out.1.lt hjm)
        have HX : Hid (S.last.getD j 0 = x) := getD_some hx
        have c0 : wr.cell? ⟨g, j * 3, none⟩ = some (.int .i64 ((x / 1024 : Nat) : Int)) := by
          have := HO.out.two.fcell j 0 hjn (by decide) (j * 3) (by omega)
          rw [this]; unfold one; rw [if_pos rfl, HX.out]
        have c1 : wr.cell? ⟨g, j * 3 + 1, none⟩ = some (.bool (S.used.getD j false)) := HO.out.two.fcell j 1 hjn (by decide) _ (by omega)
        have c2 : wr.cell? ⟨g, j * 3 + 2, none⟩ = some (.int .i64 (f j : Int)) := HO.out.two.fcell j 2 hjn (by decide) _ (by omega)
        have y0 : wr.frozen? ⟨g, j * 3, none⟩ = false := HO.out.two.ffroz _
        have y1 : wr.frozen? ⟨g, j * 3 + 1, none⟩ = false := HO.out.two.ffroz _
        have y2 : wr.frozen? ⟨g, j * 3 + 2, none⟩ = false := HO.out.two.ffroz _
        have hjn' : (j : Int) < (S.n : Int) := by omega
        obtain ⟨gn, hgn⟩ : ∃ gn, gn = x / 1024 := ⟨_, rfl⟩
        have hg1 : 1 ≤ gn := by omega
        have HM : Hid (∀ w', Calls Tryz.prog 130 #[.int .i64 (j : Int), .int .i64 ((gn + 1 : Nat) : Int)] w' fun e w'' => e = .returned (.tuple #[.int .u32 ((x + 1024 : Nat) : Int), .int .i64 0]) ∧ w'' = w') := by
          intro w'
          have := rmake_yes j (gn + 1) w' (by omega) (by omega) (by omega)
          rw [show (gn + 1) * 1024 + j = x + 1024 by omega] at this; exact this
        have hne1 : (((gn : Int) + 1) == 1) = false := by simp; omega
        have hgm : (gn : Int) < 4194303 := by omega
        rw [← hgn] at c0 HON
        clear hp hmx hinj e hjm hu hx hgx hid hB hf hgn hg1
        go_wp2
        go_loopw [4, 7] (fun bv iv wr2 => bv = .int .i64 (j : Int) ∧ iv = .int .i64 0 ∧ wr2 = wr) (fun _ _ _ => 0)
        case atStart => exact ⟨rfl, rfl, rfl⟩
        case round =>
          obtain ⟨rfl, rfl, hw⟩ := hrel
          subst hw
          have hjb : decide ((j : Int) < 0) = false := by simp
          go_wp2_with (first | (go_at_call 130; refine (HM.out _).mono ?_; rintro e w' ⟨rfl, hw⟩; subst hw))
          go_ret2
          rw [HTK.out]
          refine ⟨rfl, updn f j 0, HST.out, Own.ex_iff.2 ⟨(g, cp), ?_⟩⟩
          have k := ((((HO.out.two.setR (j * 3) (.int .i64 ((gn : Int) + 1))).setR (j * 3 + 1) (.bool true)).setR (j * 3 + 2) (.int .i64 0)).two)
          show Own w0 _ (Cells c #[.int .i64 (S.first : Int), .slice (some ⟨g, 0, none⟩) S.n cp, .int .i64 (ck : Int)] 228 :: Row 230 3 (.slice (some ⟨g, 0, none⟩) S.n cp) S.n (flat 3 S.n (one (S.again j) (updn f j 0))) :: l)
          rw [HON.out]
          exact k
      | none =>
        have hf' : S.freed = [] := List.getLast?_eq_none_iff.1 hf
        have hz0 := HS.out.2.none hf'
        have hb : b = -1 := by
          rcases hB with ⟨hb, _⟩ | ⟨i, hi, hb, hp, _⟩
          · exact hb
          · have := hz0 i; omega
        subst hb
        have hle := HS.out.1.le
        obtain ⟨ll, hll⟩ : ∃ ll, ll = S.last.length := ⟨_, rfl⟩
        have HLL : Hid (ll = S.last.length) := hll
        rw [← hll] at hle
        have HF : Hid (S.freed = [] ∧ ∀ i, f i = 0) := ⟨hf', hz0⟩
        clear hB hf hf' hz0 hll
        go_wp2
        go_loopw [4, 7] (fun bv iv wr2 => wr2 = wr ∧ ∃ i : Nat, iv = .int .i64 i ∧ i ≤ S.n ∧ ((bv = .int .i64 (-1) ∧ i ≤ ll) ∨ (bv = .int .i64 ll ∧ i = ll + 1))) (fun _ iv _ => S.n - (intOf iv).toNat)
        case atStart => exact ⟨rfl, 0, rfl, Nat.zero_le _, .inl ⟨rfl, Nat.zero_le _⟩⟩
        case round =>
          obtain ⟨hw, i, rfl, hin, hcase⟩ := hrel
          subst hw
          rcases hcase with ⟨rfl, hil⟩ | ⟨rfl, rfl⟩
          · by_cases hlt : i < S.n
            · have c0 : World.cell? _ ⟨g, i * 3, none⟩ = some (.int .i64 ((S.last.getD i 0 / 1024 : Nat) : Int)) := HO.out.two.fcell i 0 hlt (by decide) _ (by omega)
              have hlt' : (i : Int) < (S.n : Int) := by omega
              by_cases hi2 : i < ll
              · obtain ⟨x, hx⟩ : ∃ x, S.last[i]? = some x := ⟨_, List.getElem?_eq_getElem (by rw [← HLL.out]; exact hi2)⟩
                have hid := HS.out.1.id i x hx
                rw [getD_some hx] at c0
                obtain ⟨gn, hgn⟩ : ∃ gn, gn = x / 1024 := ⟨_, rfl⟩
                rw [← hgn] at c0
                have hgz : ((gn : Int) == 0) = false := by simp; omega
                have hgz2 : ¬ gn = 0 := by omega
                clear hx hid hgn
                go_wp2
                go_roundw
                case rel => exact ⟨by first | rfl | trivial, i + 1, by go_num, by omega, .inl ⟨rfl, by omega⟩⟩
                case measure => simp [intOf]; omega
              · have EI : Hid (i = ll) := by show i = ll; omega
                rw [getD_none (by rw [← HLL.out]; omega), Nat.zero_div, Int.natCast_zero] at c0
                go_wp2
                go_roundw
                case rel => exact ⟨by first | rfl | trivial, i + 1, by go_num, by omega, .inr ⟨by rw [EI.out], by rw [EI.out]⟩⟩
                case measure => simp [intOf]; omega
            · have HTK : Hid (S.take = (0, 8, S)) := S.take_full HF.out.1 (by rw [← HLL.out]; omega)
              have hd : decide ((i : Int) < (S.n : Int)) = false := by simp; omega
              go_wp2
              go_ret2
              rw [HTK.out]
              exact ⟨rfl, f, HS.out.2, Own.ex_iff.2 ⟨(g, cp), HO.out⟩⟩
          · have hl : S.last.length < S.n := by rw [← HLL.out]; omega
            have hll : ll < S.n := by omega
            have HTK : Hid (S.take = (S.first * 1024 + ll, 0, S.more)) := by rw [HLL.out]; exact S.take_new HF.out.1 hl
            have HST : Hid (Stamp S.more f ck) := HS.out.2.more HS.out.1 hl
            have hf1 := HS.out.1.f1
            have hf2 : (S.first : Int) ≤ 4194303 := by have := HS.out.1.f2; omega
            have HON : Hid (flat 3 S.n (one S.more f) = (((flat 3 S.n (one S f)).set (ll * 3) (.int .i64 (S.first : Int))).set (ll * 3 + 1) (.bool true)).set (ll * 3 + 2) (.int .i64 0)) := by
              rw [HLL.out]; exact one_more S f HS.out.1.ul (by omega) (HF.out.2 _)
            have c0 : World.cell? _ ⟨g, ll * 3, none⟩ = some (.int .i64 ((S.last.getD ll 0 / 1024 : Nat) : Int)) := HO.out.two.fcell ll 0 hll (by decide) _ (by omega)
            rw [getD_none (by rw [← HLL.out]; omega), Nat.zero_div, Int.natCast_zero] at c0
            have c1 : World.cell? _ ⟨g, ll * 3 + 1, none⟩ = some (.bool (S.used.getD ll false)) := HO.out.two.fcell ll 1 hll (by decide) _ (by omega)
            have c2 : World.cell? _ ⟨g, ll * 3 + 2, none⟩ = some (.int .i64 (f ll : Int)) := HO.out.two.fcell ll 2 hll (by decide) _ (by omega)
            have y0 := HO.out.two.ffroz (ll * 3)
            have y1 := HO.out.two.ffroz (ll * 3 + 1)
            have y2 := HO.out.two.ffroz (ll * 3 + 2)
            have hll' : (ll : Int) < (S.n : Int) := by omega
            have hlb : decide ((ll : Int) < 0) = false := by simp
            have HM : Hid (∀ w', Calls Tryz.prog 130 #[.int .i64 (ll : Int), .int .i64 (S.first : Int)] w' fun e w'' => e = .returned (.tuple #[.int .u32 ((S.first * 1024 + ll : Nat) : Int), .int .i64 0]) ∧ w'' = w') := fun w' => rmake_yes ll S.first w' (by omega) hf1 hf2
            go_wp2_with (first | (go_at_call 130; refine (HM.out _).mono ?_; rintro e w' ⟨rfl, hw⟩; subst hw))
            go_ret2
            rw [HTK.out]
            refine ⟨rfl, f, HST.out, Own.ex_iff.2 ⟨(g, cp), ?_⟩⟩
            have k := ((((HO.out.two.setR (ll * 3) (.int .i64 (S.first : Int))).setR (ll * 3 + 1) (.bool true)).setR (ll * 3 + 2) (.int .i64 0)).two)
            show Own w0 _ (Cells c #[.int .i64 (S.first : Int), .slice (some ⟨g, 0, none⟩) S.n cp, .int .i64 (ck : Int)] 228 :: Row 230 3 (.slice (some ⟨g, 0, none⟩) S.n cp) S.n (flat 3 S.n (one S.more f)) :: l)
            rw [HON.out]
            exact k
set_option maxHeartbeats 400000 in
theorem rtake_nil (w : World) : Calls Tryz.prog 78 #[.pointer none] w fun e w' => e = .returned (.tuple #[.int .u32 0, .int .i64 10]) ∧ w' = w := by
  go_enter Tryz.func78, Tryz.ntmps78
  go_wp2
  go_ret2
  exact ⟨rfl, rfl⟩
end Go.Proofs.YtflmgilmbppieaaGreatDoor

/-
  The document's store in memory: its numbers, and its 64 tables within one block.
-/
namespace Go.Proofs.YtflmgilmbppieaaGreatDoor
open Go.RowKit Go.Maps
set_option linter.unusedVariables false
set_option maxRecDepth 100000

def rpair (v : Nat → Value) (k : Nat) : Value := if k % 2 = 0 then .int .u8 ((k / 2 : Nat) : Int) else v (k / 2)
def rscells (bs : Nat) (v : Nat → Value) : Array Value := (Value.pointer (some ⟨bs, 0, none⟩) :: (List.range 128).map (rpair v)).toArray
theorem rscells_size (bs : Nat) (v : Nat → Value) : (rscells bs v).size = 129 := by simp [rscells]
theorem rscells_ids (bs : Nat) (v : Nat → Value) : (rscells bs v)[0]? = some (.pointer (some ⟨bs, 0, none⟩)) := by simp [rscells]
theorem rscells_at (bs : Nat) (v : Nat → Value) (k : Nat) (hk : k < 128) : (rscells bs v)[k + 1]? = some (rpair v k) := by simp [rscells, hk]
theorem rscells_m (bs : Nat) (v : Nat → Value) (k : Nat) (hk : k < 64) : (rscells bs v)[1 + k * 2]? = some (.int .u8 (k : Int)) := by
  rw [Nat.add_comm, rscells_at _ _ _ (by omega)]
  unfold rpair
  rw [if_pos (by omega), show k * 2 / 2 = k by omega]
theorem rscells_v (bs : Nat) (v : Nat → Value) (k : Nat) (hk : k < 64) : (rscells bs v)[1 + k * 2 + 1]? = some (v k) := by
  rw [show 1 + k * 2 + 1 = (k * 2 + 1) + 1 by omega, rscells_at _ _ _ (by omega)]
  unfold rpair
  rw [if_neg (by omega), show (k * 2 + 1) / 2 = k by omega]
theorem rscells_set (bs : Nat) (v : Nat → Value) (k : Nat) (hk : k < 64) (u : Value) : (rscells bs v).setIfInBounds (1 + k * 2 + 1) u = rscells bs (upd v k u) := by
  rw [show 1 + k * 2 + 1 = (k * 2 + 1) + 1 by omega]
  unfold rscells
  rw [List.setIfInBounds_toArray, List.set_cons_succ]
  have : ((List.range 128).map (rpair v)).set (k * 2 + 1) u = (List.range 128).map (rpair (upd v k u)) := by
    apply List.ext_getElem?
    intro i
    rw [List.getElem?_set]
    simp only [List.length_map, List.length_range, List.getElem?_map]
    by_cases c : k * 2 + 1 = i
    · subst c
      rw [if_pos rfl, if_pos (by omega), List.getElem?_range (by omega)]
      show some u = some (rpair _ _)
      unfold rpair
      rw [if_neg (by omega), show (k * 2 + 1) / 2 = k by omega, upd_same]
    · rw [if_neg c]
      by_cases d : i < 128
      · rw [List.getElem?_range d]
        show some (rpair _ _) = some (rpair _ _)
        unfold rpair
        by_cases e : i % 2 = 0
        · rw [if_pos e, if_pos e]
        · rw [if_neg e, if_neg e, upd_other _ _ _ (by omega)]
      · rw [List.getElem?_eq_none (by simp; omega)]; rfl
  rw [this]

/-- a table's rows, each named -/
def RTE (v : Value) (E : List REnt) : Thing := Ex (fun _ : Unit => Row 67 2 v E.length (cat rcells E) :: E.map rrow)
structure RX where
  bs : Nat
  v : Nat → Value
  f : Nat → Nat
  ck : Nat
  E : Nat → List REnt
def RTabsOn (is : List Nat) (v : Nat → Value) (E : Nat → List REnt) : Thing := Ex (fun _ : Unit => is.map (fun m => RTE (v m) (E m)))
def RSX (b : Nat) (S : St) (x : RX) : Thing := Ex (fun _ : Unit => [Cells b (rscells x.bs x.v) 153, RSlots x.bs S x.f x.ck, RTabsOn (List.range 64) x.v x.E])
structure RXok (σ : Sto) (x : RX) (K : Nat) : Prop where
  st : Stamp σ.S x.f x.ck
  ck : x.ck ≤ K
  E : ∀ m, m < 64 → (x.E m).map REnt.e = σ.T m
  len : ∀ m, m < 64 → (σ.T m).length ≤ K
def RSto (b : Nat) (σ : Sto) (K : Nat) : Thing := Ex (fun x : RX => [Fact (RXok σ x K), RSX b σ.S x])
section
variable {w0 w : World} {l : List Thing} {b k K : Nat} {v : Value} {E : List REnt} {L : List Ent} {S : St} {x : RX} {σ : Sto} {is : List Nat} {vv vv' : Nat → Value} {EE EE' : Nat → List REnt}
theorem RTE.iff : Own w0 w (RTE v E :: l) ↔ Own w0 w (Row 67 2 v E.length (cat rcells E) :: (E.map rrow ++ l)) :=
  ⟨fun h => by obtain ⟨_, h⟩ := Own.ex_iff.1 h; exact h, fun h => Own.ex_iff.2 ⟨(), h⟩⟩
theorem RTabsOn.pull (hk : k ∈ is) : Own w0 w (RTabsOn is vv EE :: l) ↔ Own w0 w (RTE (vv k) (EE k) :: RTabsOn (is.erase k) vv EE :: l) := by
  have hp : (is.map (fun m => RTE (vv m) (EE m))).Perm (RTE (vv k) (EE k) :: (is.erase k).map (fun m => RTE (vv m) (EE m))) := (List.perm_cons_erase hk).map (fun m => RTE (vv m) (EE m))
  constructor
  · intro h
    obtain ⟨_, h⟩ := Own.ex_iff.1 h
    exact Own.ex2.2 ⟨(), h.perm (hp.append_right l)⟩
  · intro h
    obtain ⟨_, h⟩ := Own.ex2.1 h
    exact Own.ex_iff.2 ⟨(), h.perm (hp.append_right l).symm⟩
theorem RTabsOn.congr (h : ∀ m ∈ is, vv m = vv' m ∧ EE m = EE' m) : RTabsOn is vv EE = RTabsOn is vv' EE' := by
  unfold RTabsOn
  have : is.map (fun m => RTE (vv m) (EE m)) = is.map (fun m => RTE (vv' m) (EE' m)) := List.map_congr_left (fun m hm => by rw [(h m hm).1, (h m hm).2])
  rw [this]
theorem RSX.iff : Own w0 w (RSX b S x :: l) ↔ Own w0 w (Cells b (rscells x.bs x.v) 153 :: RSlots x.bs S x.f x.ck :: RTabsOn (List.range 64) x.v x.E :: l) :=
  ⟨fun h => by obtain ⟨_, h⟩ := Own.ex_iff.1 h; exact h, fun h => Own.ex_iff.2 ⟨(), h⟩⟩
theorem RSto.opn (h : Own w0 w (RSto b σ K :: l)) : ∃ x, RXok σ x K ∧ Own w0 w (RSX b σ.S x :: l) := by
  obtain ⟨x, h⟩ := Own.ex_iff.1 h
  have h' : Own w0 w (Fact (RXok σ x K) :: RSX b σ.S x :: l) := h
  exact ⟨x, (Own.fact.1 h').1, (Own.fact.1 h').2⟩
theorem RSto.mk (hx : RXok σ x K) (h : Own w0 w (RSX b σ.S x :: l)) : Own w0 w (RSto b σ K :: l) := Own.ex_iff.2 ⟨x, Own.fact.2 ⟨hx, h⟩⟩
/-- one table out of the store -/
theorem RSX.out (h : Own w0 w (RSX b S x :: l)) (hk : k < 64) : Own w0 w (RTab b (1 + k * 2) (rscells x.bs x.v) k ((x.E k).map REnt.e) :: RSlots x.bs S x.f x.ck :: RTabsOn ((List.range 64).erase k) x.v x.E :: l) := by
  have h3 := RSX.iff.1 h
  have h4 := (RTabsOn.pull (k := k) (by simpa using hk)).1 h3.three
  have h5 := RTE.iff.1 h4
  have e : (rscells x.bs x.v).setIfInBounds (1 + k * 2 + 1) (x.v k) = rscells x.bs x.v := by
    rw [rscells_set _ _ _ hk]
    congr 1
    funext i
    by_cases c : i = k
    · subst c; exact upd_same _ _ _
    · exact upd_other _ _ _ c
  refine RTab.shut (v := x.v k) (E := x.E k) rfl ⟨rscells_m _ _ _ hk, by rw [rscells_size]; omega⟩ ?_
  rw [e]
  refine h5.perm ?_
  refine List.Perm.trans ?_ (List.Perm.swap _ _ _)
  refine List.Perm.cons _ ?_
  have : ((x.E k).map rrow ++ RTabsOn ((List.range 64).erase k) x.v x.E :: Cells b (rscells x.bs x.v) 153 :: RSlots x.bs S x.f x.ck :: l).Perm (Cells b (rscells x.bs x.v) 153 :: ((x.E k).map rrow ++ RTabsOn ((List.range 64).erase k) x.v x.E :: RSlots x.bs S x.f x.ck :: l)) := by
    have := List.perm_middle (a := Cells b (rscells x.bs x.v) 153) (l₁ := (x.E k).map rrow ++ [RTabsOn ((List.range 64).erase k) x.v x.E]) (l₂ := RSlots x.bs S x.f x.ck :: l)
    simpa using this
  refine this.trans (List.Perm.cons _ ((List.Perm.swap _ _ _).append_left _))
theorem RSX.into {bs ck : Nat} {f : Nat → Nat} (hk : k < 64) (h : Own w0 w (RTab b (1 + k * 2) (rscells bs vv) k L :: RSlots bs S f ck :: RTabsOn ((List.range 64).erase k) vv EE :: l)) :
    ∃ v' E', E'.map REnt.e = L ∧ Own w0 w (RSX b S ⟨bs, upd vv k v', f, ck, upd EE k E'⟩ :: l) := by
  obtain ⟨v', E', hE, h1⟩ := RTab.open h
  refine ⟨v', E', hE, RSX.iff.2 ?_⟩
  rw [rscells_set _ _ _ hk] at h1
  have h2 : Own w0 w (RTE v' E' :: RTabsOn ((List.range 64).erase k) vv EE :: Cells b (rscells bs (upd vv k v')) 153 :: RSlots bs S f ck :: l) := by
    refine RTE.iff.2 (h1.perm ?_)
    refine (List.Perm.swap _ _ _).trans ?_
    refine List.Perm.cons _ ?_
    have := List.perm_middle (a := Cells b (rscells bs (upd vv k v')) 153) (l₁ := E'.map rrow ++ [RTabsOn ((List.range 64).erase k) vv EE]) (l₂ := RSlots bs S f ck :: l)
    have h3 : (E'.map rrow ++ RTabsOn ((List.range 64).erase k) vv EE :: Cells b (rscells bs (upd vv k v')) 153 :: RSlots bs S f ck :: l).Perm (Cells b (rscells bs (upd vv k v')) 153 :: (E'.map rrow ++ RTabsOn ((List.range 64).erase k) vv EE :: RSlots bs S f ck :: l)) := by simpa using this
    refine List.Perm.trans (List.Perm.cons _ ((List.Perm.swap _ _ _).append_left _)) h3.symm
  have e1 : RTabsOn ((List.range 64).erase k) vv EE = RTabsOn ((List.range 64).erase k) (upd vv k v') (upd EE k E') := RTabsOn.congr (fun m hm => ⟨(upd_other _ _ _ (but_mem hm)).symm, (upd_other _ _ _ (but_mem hm)).symm⟩)
  rw [e1] at h2
  have h4 : Own w0 w (RTE (upd vv k v' k) (upd EE k E' k) :: RTabsOn ((List.range 64).erase k) (upd vv k v') (upd EE k E') :: Cells b (rscells bs (upd vv k v')) 153 :: RSlots bs S f ck :: l) := by rw [upd_same, upd_same]; exact h2
  have h5 := (RTabsOn.pull (k := k) (by simpa using hk)).2 h4
  refine h5.perm ?_
  exact (List.Perm.swap _ _ _).trans ((List.Perm.swap _ _ _).cons _)
/-- one table is another one -/
theorem RXok.upd {v' : Value} {E' : List REnt} {mks : List Nat} (hx : RXok σ x K) (hk : k < 64) (hE : E'.map REnt.e = L) (hL : L.length ≤ K) : RXok ⟨σ.S, mks, Go.Proofs.YtflmgilmbppieaaGreatDoor.upd σ.T k L⟩ ⟨x.bs, Go.Proofs.YtflmgilmbppieaaGreatDoor.upd x.v k v', x.f, x.ck, Go.Proofs.YtflmgilmbppieaaGreatDoor.upd x.E k E'⟩ K := by
  refine ⟨hx.st, hx.ck, fun m hm => ?_, fun m hm => ?_⟩
  · by_cases c : m = k
    · subst c; simp only [upd_same]; exact hE
    · simp only [upd_other _ _ _ c]; exact hx.E m hm
  · by_cases c : m = k
    · subst c; simp only [upd_same]; exact hL
    · simp only [upd_other _ _ _ c]; exact hx.len m hm
theorem RXok.mono {K' : Nat} (hx : RXok σ x K) (h : K ≤ K') : RXok σ x K' := ⟨hx.st, Nat.le_trans hx.ck h, hx.E, fun m hm => Nat.le_trans (hx.len m hm) h⟩
theorem Own.rstoK {K' : Nat} (h : K ≤ K') (hO : Own w0 w (RSto b σ K :: l)) : Own w0 w (RSto b σ K' :: l) := by
  obtain ⟨x, hx, hO⟩ := RSto.opn hO
  exact RSto.mk (hx.mono h) hO
end
/-- which table has this one -/
def Whr (σ : Sto) (id m0 : Nat) : Prop := m0 ≤ 64 ∧ (∀ j, j < m0 → plc (σ.T j) id = none) ∧ (m0 < 64 → ∃ r, plc (σ.T m0) id = some r)
theorem whr_dead {σ : Sto} (h : σ.Ok) {id : Nat} (hl : σ.S.isLive id = false) : Whr σ id 64 := by
  refine ⟨Nat.le_refl _, fun j hj => (plc_none _ _).2 (fun e he q => ?_), fun h => by omega⟩
  have := (h.lv j hj e he).1
  rw [q, hl] at this
  cases this
theorem whr_live {σ : Sto} (h : σ.Ok) {id : Nat} (hl : σ.S.isLive id = true) : Whr σ id (σ.hom id) ∧ σ.hom id < 64 := by
  obtain ⟨m, hm, h1, r, h2⟩ := h.hm id hl
  have e : σ.hom id = m := gd_some h1
  rw [e]
  refine ⟨⟨by omega, fun j hj => (plc_none _ _).2 (fun d hd q => ?_), fun _ => ⟨r, h2⟩⟩, hm⟩
  have := (h.lv j (by omega) d hd).2
  rw [q, h1] at this
  have := Option.some.inj this
  omega
end Go.Proofs.YtflmgilmbppieaaGreatDoor

/-
  The document's store: find, Ent.
-/
namespace Go.Proofs.YtflmgilmbppieaaGreatDoor
open Go.RowKit Go.Maps
set_option linter.unusedVariables false
set_option maxRecDepth 100000

section
variable (w0 w : World) (l : List Thing) (b : Nat) (σ : Sto) (x : RX) (K : Nat)
theorem RSX.row (h : Own w0 w (RSX b σ.S x :: l)) (hx : RXok σ x K) (hT : ∀ m, m < 64 → TOk m (σ.T m)) (hK : K ≤ 1000000) (id j : Nat) (hj : j < 64) :
    Calls Tryz.prog 180 #[.pointer (some ⟨b, 1 + j * 2, none⟩), .int .u32 (id : Int)] w fun e w' => e = .returned (.int .i64 (pl1 (plc (σ.T j) id))) ∧ Fr Nobody w w' := by
  have h' := RSX.out h hj
  rw [hx.E j hj] at h'
  exact rtrow w0 w _ b _ _ j _ h' (hT j hj).ap (Nat.le_trans (hx.len j hj) hK) id
theorem RSX.ids (h : Own w0 w (RSX b σ.S x :: l)) : w.cell? ⟨b, 0, none⟩ = some (.pointer (some ⟨x.bs, 0, none⟩)) := by
  have := (RSX.iff.1 h).cell 0
  rw [rscells_ids] at this
  exact this
theorem RSX.ent (h : Own w0 w (RSX b σ.S x :: l)) (m r : Nat) (hm : m < 64) (d : REnt) (hd : (x.E m)[r]? = some d) :
    ∃ g cap, r < (x.E m).length ∧ w.cell? ⟨b, 1 + m * 2 + 1, none⟩ = some (.slice (some ⟨g, 0, none⟩) (x.E m).length cap) ∧ w.cell? ⟨g, r * 2, none⟩ = some (.int .u32 (d.1 : Int)) ∧ w.cell? ⟨g, r * 2 + 1, none⟩ = some (.slice d.2.2.1 d.2.1.length d.2.2.2) ∧ Cs w d.2.2.1 d.2.1 := by
  have h3 := RSX.iff.1 h
  have q := h3.cell (1 + m * 2 + 1)
  rw [rscells_v _ _ _ hm] at q
  have h4 := RTE.iff.1 ((RTabsOn.pull (k := m) (by simpa using hm)).1 h3.three)
  have hr := (List.getElem?_eq_some_iff.1 hd).1
  obtain ⟨g, cap, hv, _⟩ := row_shape h4.row (by omega)
  rw [hv] at q h4
  obtain ⟨c0, c1⟩ := ecell h4 r d hd
  have h5 : Own w0 w (rrow d :: (Row 67 2 (.slice (some ⟨g, 0, none⟩) (x.E m).length cap) (x.E m).length (cat rcells (x.E m)) :: (((x.E m).eraseIdx r).map rrow ++ RTabsOn ((List.range 64).erase m) x.v x.E :: Cells b (rscells x.bs x.v) 153 :: RSlots x.bs σ.S x.f x.ck :: l))) := by
    refine h4.perm ?_
    have := ((map_pick rrow (x.E m) r d hd).append_right (RTabsOn ((List.range 64).erase m) x.v x.E :: Cells b (rscells x.bs x.v) 153 :: RSlots x.bs σ.S x.f x.ck :: l)).cons (Row 67 2 (.slice (some ⟨g, 0, none⟩) (x.E m).length cap) (x.E m).length (cat rcells (x.E m)))
    exact this.trans (List.Perm.swap _ _ _)
  exact ⟨g, cap, hr, q, c0, c1, Own.rcs h5 rfl⟩
set_option maxHeartbeats 1000000 in
theorem rfind (h : Own w0 w (RSX b σ.S x :: l)) (hx : RXok σ x K) (hT : ∀ m, m < 64 → TOk m (σ.T m)) (hK : K ≤ 1000000) (id m0 : Nat) (hm : Whr σ id m0) :
    Calls Tryz.prog 134 #[.pointer (some ⟨b, 0, none⟩), .int .u32 (id : Int)] w fun e w' => e = .returned (.pointer (if m0 < 64 then some ⟨b, 1 + m0 * 2, none⟩ else none)) ∧ Fr Nobody w w' := by
  have HR : Hid (∀ w' j, j < 64 → Fr Nobody w w' → Calls Tryz.prog 180 #[.pointer (some ⟨b, 1 + j * 2, none⟩), .int .u32 (id : Int)] w' fun e w'' => e = .returned (.int .i64 (pl1 (plc (σ.T j) id))) ∧ Fr Nobody w' w'') := fun w' j hj hf => RSX.row w0 w' l b σ x K (h.quiet hf) hx hT hK id j hj
  obtain ⟨hm6, hno, hyes⟩ := hm
  have HNO : Hid (∀ j, j < m0 → plc (σ.T j) id = none) := hno
  have HYES : Hid (m0 < 64 → ∃ r, plc (σ.T m0) id = some r) := hyes
  clear h hx hT hK hno hyes
  go_enter Tryz.func134, Tryz.ntmps134
  go_wp2
  go_loopw [6] (fun cv wr => ∃ j : Nat, j ≤ m0 ∧ cv = .int .i64 j ∧ Fr Nobody w wr) (fun cv _ => 64 - (intOf cv).toNat)
  case atStart => exact ⟨0, Nat.zero_le _, rfl, Fr.refl _ _⟩
  case round =>
    obtain ⟨j, hj, rfl, hf⟩ := hrel
    have HF : Hid (Fr Nobody w wr) := hf
    by_cases hlt : j < 64
    · have hlt' : (j : Int) < 64 := by omega
      have HC : Hid (Calls _ _ _ _ _) := HR.out wr j hlt hf
      clear hf
      by_cases hjm : j < m0
      · rw [HNO.out j hjm] at HC
        simp only [pl1] at HC
        go_wp2_with fail
        refine HC.out.mono ?_
        rintro e w1 ⟨rfl, hf1⟩
        have H1 : Hid (Fr Nobody w w1) := HF.out.trans hf1
        clear hf1
        go_wp2
        go_roundw
        case rel => exact ⟨j + 1, by omega, by go_num, H1.out⟩
        case measure => simp [intOf]; omega
      · have hjm' : j = m0 := by omega
        subst hjm'
        obtain ⟨r, hr⟩ := HYES.out hlt
        rw [hr] at HC
        simp only [pl1] at HC
        have hr0 : (0 : Int) ≤ (r : Int) := by omega
        go_wp2_with fail
        refine HC.out.mono ?_
        rintro e w1 ⟨rfl, hf1⟩
        have H1 : Hid (Fr Nobody w w1) := HF.out.trans hf1
        clear hf1
        go_wp2
        go_ret
        exact ⟨rfl, H1.out⟩
    · have hlt' : ¬ (j : Int) < 64 := by omega
      have hm64 : ¬ m0 < 64 := by omega
      clear hf
      go_wp2
      go_ret
      exact ⟨rfl, HF.out⟩
set_option maxHeartbeats 2000000 in
theorem rentNo (h : Own w0 w (RSX b σ.S x :: l)) (hx : RXok σ x K) (hσ : σ.Ok) (hK : K ≤ 1000000) (id : Nat) (hl : σ.S.isLive id = false) :
    Calls Tryz.prog 121 #[.pointer (some ⟨b, 0, none⟩), .int .u32 (id : Int)] w fun e w' => e = .returned (.tuple #[.agg #[.int .u32 0, .slice none 0 0], .int .i64 7]) ∧ Own w0 w' (RSX b σ.S x :: l) := by
  have hA := h.allocC #[.int .u32 0, .slice none 0 0] 67
  have HFD : Hid (Calls _ _ _ _ _) := rfind w0 _ _ b σ x K hA.two hx hσ.t hK id 64 (whr_dead hσ hl)
  rw [if_neg (by decide)] at HFD
  have HA : Hid (Own w0 _ _) := hA
  clear h hA hx hσ hl
  go_enter Tryz.func121, Tryz.ntmps121
  go_wp2_with fail
  refine HFD.out.mono ?_
  rintro e w1 ⟨rfl, hf⟩
  have hO := HA.out.quiet hf
  have z0 := hO.cell 0
  have z1 := hO.cell 1
  simp at z0 z1
  have y0 := hO.froz 0
  have y1 := hO.froz 1
  have HF : Hid (Own w0 _ _) := (hO.setC 0 (.int .u32 0)).setC 1 (.slice none 0 0)
  clear hO hf HFD HA
  go_wp2
  (try simp only [Exit.inBlock, Exit.then])
  refine bodyPost_ret (v := .tuple #[.agg #[.int .u32 0, .slice none 0 0], .int .i64 7]) ?_ rfl ⟨rfl, HF.out.tail⟩
  rw [results_cell_tmp rfl]
  have r0 := HF.out.cell 0
  have r1 := HF.out.cell 1
  simp at r0 r1
  go_simp
set_option maxHeartbeats 2000000 in
theorem rent (h : Own w0 w (RSX b σ.S x :: l)) (hx : RXok σ x K) (hσ : σ.Ok) (hK : K ≤ 1000000) (id : Nat) (hl : σ.S.isLive id = true) (r : Nat) (hp : plc (σ.T (σ.hom id)) id = some r) (d : REnt) (hd : (x.E (σ.hom id))[r]? = some d) :
    Calls Tryz.prog 121 #[.pointer (some ⟨b, 0, none⟩), .int .u32 (id : Int)] w fun e w' => e = .returned (.tuple #[.agg #[.int .u32 (d.1 : Int), .slice d.2.2.1 d.2.1.length d.2.2.2], .int .i64 0]) ∧ Own w0 w' (RSX b σ.S x :: l) := by
  have hA := h.allocC #[.int .u32 0, .slice none 0 0] 67
  obtain ⟨hw, h6⟩ := whr_live hσ hl
  have HFD : Hid (Calls _ _ _ _ _) := rfind w0 _ _ b σ x K hA.two hx hσ.t hK id _ hw
  rw [if_pos h6] at HFD
  have HRW : Hid (∀ w' l', Own w0 w' (RSX b σ.S x :: l') → Calls Tryz.prog 180 #[.pointer (some ⟨b, 1 + σ.hom id * 2, none⟩), .int .u32 (id : Int)] w' fun e w'' => e = .returned (.int .i64 (r : Int)) ∧ Fr Nobody w' w'') := by
    intro w' l' h'
    have := RSX.row w0 w' l' b σ x K h' hx hσ.t hK id _ h6
    rw [hp] at this
    exact this
  have HEN : Hid (∀ w' l', Own w0 w' (RSX b σ.S x :: l') → ∃ g cap, r < (x.E (σ.hom id)).length ∧ w'.cell? ⟨b, 1 + σ.hom id * 2 + 1, none⟩ = some (.slice (some ⟨g, 0, none⟩) (x.E (σ.hom id)).length cap) ∧ w'.cell? ⟨g, r * 2, none⟩ = some (.int .u32 (d.1 : Int)) ∧ w'.cell? ⟨g, r * 2 + 1, none⟩ = some (.slice d.2.2.1 d.2.1.length d.2.2.2) ∧ Cs w' d.2.2.1 d.2.1) := fun w' l' h' => RSX.ent w0 w' l' b σ x h' _ r h6 d hd
  have HA : Hid (Own w0 _ _) := hA
  clear h hA hx hσ hl hw hp hd h6
  generalize σ.hom id = m at *
  generalize (x.E m).length = en at *
  obtain ⟨d1, d2, d3, d4⟩ := d
  simp only at HEN ⊢
  generalize d2.length = dl at *
  go_enter Tryz.func121, Tryz.ntmps121
  go_wp2_with fail
  refine HFD.out.mono ?_
  rintro e w1 ⟨rfl, hf⟩
  have hO := (HA.out.quiet hf).drew
  obtain ⟨g, cap, hrn, q1, q2, q3, _⟩ := HEN.out _ _ hO.two
  have hrn' : (r : Int) < (en : Int) := by omega
  have hr0 : ¬ (r : Int) < 0 := by omega
  have HO : Hid (Own w0 w1.drew _) := hO
  clear hf HFD HA hO
  go_wp2_with fail
  go_region_with (
    go_at_call 180
    refine (HRW.out _ _ HO.out.two).mono ?_
    rintro e w3 ⟨rfl, hf3⟩
    have hO3 := HO.out.quiet hf3
    have hb1 := World.block_lt_of_cell? w1.drew _ q1
    have hb2 := World.block_lt_of_cell? w1.drew _ q2
    have p1 := (hf3.cell (p := ⟨b, 1 + m * 2 + 1, none⟩) hb1 (fun h => h)).trans q1
    have p2 := (hf3.cell (p := ⟨g, r * 2, none⟩) hb2 (fun h => h)).trans q2
    have p3 := (hf3.cell (p := ⟨g, r * 2 + 1, none⟩) hb2 (fun h => h)).trans q3
    have z0 := hO3.cell 0
    have z1 := hO3.cell 1
    simp at z0 z1
    have y0 := hO3.froz 0
    have y1 := hO3.froz 1
    have HF : Hid (Own w0 _ _) := (hO3.setC 0 (.int .u32 (d1 : Int))).setC 1 (.slice d3 dl d4)
    clear hO3 hf3 hb1 hb2)
  all_goals
    go_wp2
    (try simp only [Exit.inBlock, Exit.then])
    refine bodyPost_ret (v := .tuple #[.agg #[.int .u32 (d1 : Int), .slice d3 dl d4], .int .i64 0]) ?_ rfl ⟨rfl, HF.out.tail⟩
    rw [results_cell_tmp rfl]
    have r0 := HF.out.cell 0
    have r1 := HF.out.cell 1
    simp at r0 r1
    go_simp
end
end Go.Proofs.YtflmgilmbppieaaGreatDoor

/-
  The document's table: Add, Get.
-/
namespace Go.Proofs.YtflmgilmbppieaaGreatDoor
open Go.RowKit Go.Maps
set_option linter.unusedVariables false
set_option maxRecDepth 100000

theorem step_twin {ops : Array Oper} {o : Oper} {a : Act} {w : World} {K : Act → World → Prop} {Q : Exit → Act → World → Prop} {E : Prop}
    (hg : o.guard = none) (x : Operand) (t : TypeId) (hop : o.op = Op.call { callee := Callee.value (Operand.func 50), args := #[x], argTypes := #[t] })
    (vx : Value) (hx : a.eval x = vx) (G : Value → World → Prop) (hcall : Calls Tryz.prog 50 #[vx] w fun e w' => ∃ v', e = .returned v' ∧ G v' w')
    (hK : ∀ v' w', G v' w' → K (a.put o.dst v') w') :
    if Region.wanted o (yielded ops a.tmps) = true then Oper.wp Tryz.prog o a w K Q else E := by
  have hw : Region.wanted o (yielded ops a.tmps) = true := by simp [Region.wanted, hg]
  rw [if_pos hw]
  unfold Oper.wp
  have hfn : a.eval (Operand.func 50) = .func (.func 50) #[] #[] := rfl
  simp [execOp, hop, resolve, invoke, hx, hfn, Deferred.ofValue]
  go_simp
  refine hcall.mono ?_
  rintro e w' ⟨v', rfl, h⟩
  exact hK v' w' h

set_option maxHeartbeats 4000000 in
theorem rtaddC (w0 w : World) (l : List Thing) (b o : Nat) (cur : Array Value) (m : Nat) (L : List Ent) (h : Own w0 w (RTab b o cur m L :: l)) (hT : TOk m L) (id : Nat) (hid : id < 4294967296) (ao : Option Addr) (len cap : Nat) (C : List Cp) (hCl : C.length = len) (hCs : ∀ w', Own w0 w' l → Cs w' ao C) (hCk : ∀ q ∈ C, q.k < 256) (hlen : len ≤ 1000000) (hL : L.length ≤ 1000000) :
    Calls Tryz.prog 131 #[.pointer (some ⟨b, o, none⟩), .int .u32 (id : Int), .slice ao len cap] w fun e w' => e = .returned (.int .i64 ((tadd m L id C).1 : Int)) ∧ Own w0 w' (RTab b o cur m (tadd m L id C).2 :: l) := by
  have HCU : Hid (cur[o]? = some (.int .u8 (m : Int)) ∧ o + 1 < cur.size) := RTab.facts h
  obtain ⟨i0, hi, hz0, hz1, hz2⟩ := info_parts Tryz.infoEnt
  have hm := hT.m64
  have H : Hid (Own w0 w (RTab b o cur m L :: l)) := h
  have HT : Hid (TOk m L) := hT
  have HCS : Hid (C.length = len ∧ (∀ w', Own w0 w' l → Cs w' ao C) ∧ ∀ q ∈ C, q.k < 256) := ⟨hCl, hCs, hCk⟩
  have HLS : Hid (Calls _ _ _ _ _) := rlist_any w ao len cap C hCl (hCs w h.tail) hCk hlen
  clear h hT hCl hCs hCk
  obtain ⟨x, hx⟩ : ∃ x, lst (-1) C = x := ⟨_, rfl⟩
  rw [hx] at HLS
  by_cases hx0 : x = 0
  · subst hx0
    have HLST : Hid (lst (-1) C = 0) := hx
    have HR : Hid (∀ w', Own w0 w' (RTab b o cur m L :: l) → Calls Tryz.prog 180 #[.pointer (some ⟨b, o, none⟩), .int .u32 (id : Int)] w' fun e w'' => e = .returned (.int .i64 (pl1 (plc L id))) ∧ Fr Nobody w' w'') := fun w' h' => rtrow w0 w' _ b o cur m L h' HT.out.ap hL id
    have HMK : Hid (∀ w', Own w0 w' (RTab b o cur m L :: l) → Calls Tryz.prog 132 #[.slice ao len cap] w' fun e w'' => e = .returned (.int .u8 ((msk C : Nat) : Int)) ∧ Fr Nobody w' w'') := fun w' h' => rmask_any w' ao len cap C HCS.out.1 (HCS.out.2.1 w' h'.tail) HCS.out.2.2 hlen
    have HMC : Hid (∀ w', Own w0 w' (RTab b o cur m L :: l) → w'.cell? ⟨b, o, none⟩ = some (.int .u8 (m : Int))) := by
      intro w' h'
      obtain ⟨v, E, _, h'⟩ := RTab.open h'
      have q := h'.cell o
      rw [tcur_m, HCU.out.1] at q
      exact q
    have hm64 := msk_lt C
    by_cases hmk : msk C = m
    · rw [hmk] at HMK hm64
      cases hp : plc L id with
      | some r =>
        have HV : Hid (tadd m L id C = (9, L)) := by show _ = _; unfold tadd; rw [if_neg (by simp [hx]), if_neg (by simp [hmk]), if_pos (by rw [hp]; rfl)]
        rw [hp] at HR
        simp only [pl1] at HR
        have hr0 : ¬ (r : Int) < 0 := by omega
        have hr1 : (0 : Int) ≤ (r : Int) := by omega
        clear hp hx hmk
        go_enter Tryz.func131, Tryz.ntmps131
        go_wp2_with fail
        refine HLS.out.mono ?_
        rintro e w1 ⟨rfl, hf⟩
        have H1 : Hid (Own w0 w1 (RTab b o cur m L :: l)) := H.out.quiet hf
        clear hf HLS H
        have q0 := HMC.out _ H1.out
        go_wp2_with fail
        go_region_with (
          go_at_call 132
          refine (HMK.out _ H1.out.drew).mono ?_
          rintro e w3 ⟨rfl, hf3⟩
          have H3 : Hid (Own w0 w3 (RTab b o cur m L :: l)) := H1.out.drew.quiet hf3
          have q3 := HMC.out _ H3.out
          clear hf3)
        all_goals
          go_wp2_with fail
          refine (HR.out _ H3.out).mono ?_
          rintro e w4 ⟨rfl, hf4⟩
          have H4 : Hid (Own w0 w4 (RTab b o cur m L :: l)) := H3.out.quiet hf4
          clear hf4
          go_wp2
          go_ret
          rw [HV.out]
          exact ⟨rfl, H4.out⟩
      | none =>
        have HV : Hid (tadd m L id C = (0, L ++ [(id, C)])) := by show _ = _; unfold tadd; rw [if_neg (by simp [hx]), if_neg (by simp [hmk]), if_neg (by rw [hp]; simp)]
        rw [hp] at HR
        simp only [pl1] at HR
        clear hp hx hmk
        go_enter Tryz.func131, Tryz.ntmps131
        go_wp2_with fail
        refine HLS.out.mono ?_
        rintro e w1 ⟨rfl, hf⟩
        have H1 : Hid (Own w0 w1 (RTab b o cur m L :: l)) := H.out.quiet hf
        clear hf HLS H
        have q0 := HMC.out _ H1.out
        go_wp2_with fail
        go_region_with (
          go_at_call 132
          refine (HMK.out _ H1.out.drew).mono ?_
          rintro e w3 ⟨rfl, hf3⟩
          have H3 : Hid (Own w0 w3 (RTab b o cur m L :: l)) := H1.out.drew.quiet hf3
          have q3 := HMC.out _ H3.out
          clear hf3)
        all_goals
          clear q0 q3 HMK H1
          go_wp2_with fail
          refine (HR.out _ H3.out).mono ?_
          rintro e w4 ⟨rfl, hf4⟩
          obtain ⟨v, E, hE, hO4⟩ := RTab.open (H3.out.quiet hf4)
          obtain ⟨ae, ce, rfl⟩ := row_any hO4.two.row
          have q1 := hO4.cell (o + 1)
          rw [tcur_at HCU.out.2] at q1
          have HEL : Hid (E.map REnt.e = L ∧ E.length = L.length) := ⟨hE, by rw [← hE, List.length_map]⟩
          have hen : E.length ≤ 1000000 := by rw [HEL.out.2]; exact hL
          have HTW : Hid (Calls _ _ _ _ _) := twin_any w0 w4.drew _ hO4.drew ao len cap C HCS.out.1 (HCS.out.2.1 _ ((H3.out.quiet hf4).drew.tail)) hlen
          clear hf4 hE HR H3
          generalize hEn : E.length = en at *
          have HEN : Hid (E.length = en) := hEn
          clear hEn hO4
          go_wp2_with fail
          go_region_law (first
            | (refine step_twin rfl (.tmp 32) 39 rfl _ (by first | (simp [Act.eval]; done) | simp [Act.eval, Act.put]) (fun v' w' => ∃ a2 c2, v' = .slice a2 len c2 ∧ Own w0 w' (Row 46 4 (.slice a2 len c2) len (ccat C) :: Cells b (cur.setIfInBounds (o + 1) (.slice ae en ce)) 153 :: Row 67 2 (.slice ae en ce) en (cat rcells E) :: (E.map rrow ++ l))) (HTW.out.mono fun e w' ⟨a2, c2, h1, h2⟩ => ⟨_, h1, a2, c2, rfl, h2⟩) ?_
               rintro v5 w5 ⟨a2, c2, rfl, hO5⟩
               have q5 := hO5.two.cell (o + 1)
               rw [tcur_at HCU.out.2] at q5
               obtain ⟨g6, c6, w6, hrun, hO6⟩ := run1_own (P := Tryz.prog) 64 64 67 i0 (.agg #[.int .u32 0, .slice none 0 0]) 2 32 Tryz.underlying64 hi hz0 hz1 hz2 rfl (by decide) _ en _ hO5.three #[.int .u32 (id : Int), .slice a2 len c2] rfl (by intro u hu; simp at hu; rcases hu with rfl | rfl <;> rfl) (by unfold maxLen; omega) (by omega)
               have hbw := hO5.two.lt
               have hbn : b ≠ w5.heap.size := by omega
               have hbn' : w5.heap.size ≠ b := by omega
               have HRUN : Hid _ := hrun
               have q6 := hO6.three.cell (o + 1)
               have z6 := hO6.three.froz (o + 1)
               rw [tcur_at HCU.out.2] at q6
               have HO6 : Hid (Own w0 w6 _) := hO6
               clear hO5 hO6 hrun)
            | (refine step_run rfl (.tmp 30) (.tmp 35) 64 64 64 rfl rfl (.slice ae en ce) (.slice (some ⟨w5.heap.size, 0, none⟩) 1 1) (.slice (some ⟨g6, 0, none⟩) (en + 1) c6) w6 (by first | (simp [Act.eval]; done) | simp [Act.eval, Act.put]) (by first | (simp [Act.eval]; done) | simp [Act.eval, Act.put]) HRUN.out ?_))
          all_goals
            have HFIN : Hid (Own w0 (w6.setCell ⟨b, o + 1, none⟩ (.slice (some ⟨g6, 0, none⟩) (en + 1) c6)) (RTab b o cur m (L ++ [(id, C)]) :: l)) := by
              have h7 := HO6.out.three.setC (o + 1) (.slice (some ⟨g6, 0, none⟩) (en + 1) c6)
              rw [Array.setIfInBounds_setIfInBounds] at h7
              refine RTab.shut (v := .slice (some ⟨g6, 0, none⟩) (en + 1) c6) (E := E ++ [(id, C, a2, c2)]) (by rw [List.map_append, HEL.out.1]; rfl) HCU.out ?_
              rw [List.length_append, HEN.out, cat_append, List.map_append, List.append_assoc]
              have hcl := HCS.out.1
              have e2 : cat rcells [(id, C, a2, c2)] = [.int .u32 (id : Int), .slice a2 len c2] := by
                show [Value.int .u32 (id : Int), Value.slice a2 C.length c2] = _
                rw [hcl]
              rw [e2]
              refine h7.perm (List.Perm.cons _ (List.Perm.cons _ ?_))
              have e1 : rrow (id, C, a2, c2) = Row 46 4 (.slice a2 len c2) len (ccat C) := by unfold rrow REnt.v; simp only; rw [hcl]
              show (_ :: (E.map rrow ++ l)).Perm (E.map rrow ++ (rrow (id, C, a2, c2) :: l))
              rw [e1]
              exact List.perm_middle.symm
            clear HO6
            go_wp2
            go_ret
            rw [HV.out]
            exact ⟨rfl, HFIN.out⟩
    · have HV : Hid (tadd m L id C = (4, L)) := by show _ = _; unfold tadd; rw [if_neg (by simp [hx]), if_pos hmk]
      have hne : ((msk C : Int) != (m : Int)) = true := by simp; omega
      clear hx
      generalize msk C = mc at *
      go_enter Tryz.func131, Tryz.ntmps131
      go_wp2_with fail
      refine HLS.out.mono ?_
      rintro e w1 ⟨rfl, hf⟩
      have H1 : Hid (Own w0 w1 (RTab b o cur m L :: l)) := H.out.quiet hf
      clear hf HLS H
      have q0 := HMC.out _ H1.out
      go_wp2_with fail
      go_region_with (
        go_at_call 132
        refine (HMK.out _ H1.out.drew).mono ?_
        rintro e w3 ⟨rfl, hf3⟩
        have H3 : Hid (Own w0 w3 (RTab b o cur m L :: l)) := H1.out.drew.quiet hf3
        have q3 := HMC.out _ H3.out
        clear hf3)
      all_goals
        go_wp2
        go_ret
        rw [HV.out]
        exact ⟨rfl, H3.out⟩
  · have HV : Hid (tadd m L id C = (x, L)) := by show _ = _; unfold tadd; rw [if_pos (by rw [hx]; exact hx0), hx]
    have hx1 : ((x : Int) != 0) = true := by simpa using hx0
    clear hx
    go_enter Tryz.func131, Tryz.ntmps131
    go_wp2_with fail
    refine HLS.out.mono ?_
    rintro e w1 ⟨rfl, hf⟩
    have H1 : Hid (Own w0 w1 (RTab b o cur m L :: l)) := H.out.quiet hf
    clear hf HLS H
    go_wp2
    go_ret
    rw [HV.out]
    exact ⟨rfl, H1.out⟩
end Go.Proofs.YtflmgilmbppieaaGreatDoor

/-
  The document's table: Get, Set.
-/
namespace Go.Proofs.YtflmgilmbppieaaGreatDoor
open Go.RowKit Go.Maps
set_option linter.unusedVariables false
set_option maxRecDepth 100000

theorem TOk.c6 {m : Nat} {L : List Ent} (hT : TOk m L) {r : Nat} {e : Ent} (he : L[r]? = some e) : e.2.length ≤ 6 := by
  have := hT.ok e (List.mem_of_getElem? he)
  rw [← comps_of this.1 this.2, List.length_map]
  exact Nat.le_trans (List.length_filter_le _ _) (by simp)
theorem tget_has {m : Nat} {L : List Ent} (hT : TOk m L) {id r : Nat} {C : List Cp} (hp : plc L id = some r) (he : L[r]? = some (id, C)) {k i : Nat} {q : Cp} (hq : C[i]? = some q) (hqk : q.k = k) : tget m L id k = (0, q) := by
  obtain ⟨h1, h2⟩ := hT.ok _ (List.mem_of_getElem? he)
  have hm := List.mem_of_getElem? hq
  have h6 : k < 6 := by rw [← hqk]; exact chk_k ((lst_ok h1).2 q hm).2
  have hb : bt m k = true := by rw [← h2, bt_msk C k h6, hasK_iff]; exact ⟨q, hm, hqk⟩
  unfold tget
  rw [hp]
  simp only
  rw [if_pos hb, he]
  simp only [Option.map_some, Option.getD_some]
  rw [← hqk, fv_of h1 hm]
  rfl
theorem tget_not {m : Nat} {L : List Ent} (hT : TOk m L) {id r : Nat} {C : List Cp} (hp : plc L id = some r) (he : L[r]? = some (id, C)) {k : Nat} (hk : hasK C k = false) : tget m L id k = (10, ⟨0, 0, 0, 0⟩) := by
  obtain ⟨h1, h2⟩ := hT.ok _ (List.mem_of_getElem? he)
  have hb : bt m k = false := by
    cases hb : bt m k with
    | false => rfl
    | true => rw [hasK_bt h2 hT.m64 hb] at hk; cases hk
  unfold tget
  rw [hp]
  simp only
  rw [hb]
  rfl

section
variable (w0 w : World) (l : List Thing) (b o : Nat) (cur : Array Value) (m : Nat) (L : List Ent)
set_option maxHeartbeats 2000000 in
theorem rtgetC (h : Own w0 w (RTab b o cur m L :: l)) (hT : TOk m L) (hL : L.length ≤ 1000000) (id : Nat) (k : Nat) (hk : k < 256) :
    Calls Tryz.prog 185 #[.pointer (some ⟨b, o, none⟩), .int .u32 (id : Int), .int .u8 (k : Int)] w fun e w' => e = .returned (.tuple #[(tget m L id k).2.ag, .int .i64 ((tget m L id k).1 : Int)]) ∧ Own w0 w' (RTab b o cur m L :: l) := by
  have HCU : Hid (cur[o]? = some (.int .u8 (m : Int)) ∧ o + 1 < cur.size) := RTab.facts h
  have hA := h.allocC #[.int .u8 0, .int .i32 0, .int .i32 0, .int .i32 0] 46
  have z0 := hA.cell 0
  have z1 := hA.cell 1
  have z2 := hA.cell 2
  have z3 := hA.cell 3
  simp at z0 z1 z2 z3
  have y0 := hA.froz 0
  have y1 := hA.froz 1
  have y2 := hA.froz 2
  have y3 := hA.froz 3
  have HR : Hid (Calls _ _ _ _ _) := rtrow w0 _ _ b o cur m L hA.two hT.ap hL id
  have HA : Hid (Own w0 _ (Cells w.heap.size #[.int .u8 0, .int .i32 0, .int .i32 0, .int .i32 0] 46 :: RTab b o cur m L :: l)) := hA
  cases hp : plc L id with
  | none =>
    have HV : Hid (tget m L id k = (7, ⟨0, 0, 0, 0⟩)) := by show _ = _; unfold tget; rw [hp]
    rw [hp] at HR
    simp only [pl1] at HR
    clear h hA hp
    go_enter Tryz.func185, Tryz.ntmps185
    go_wp2_with fail
    refine HR.out.mono ?_
    rintro e w1 ⟨rfl, hf⟩
    have hO := HA.out.quiet hf
    have z0 := hO.cell 0
    have z1 := hO.cell 1
    have z2 := hO.cell 2
    have z3 := hO.cell 3
    simp at z0 z1 z2 z3
    have y0 := hO.froz 0
    have y1 := hO.froz 1
    have y2 := hO.froz 2
    have y3 := hO.froz 3
    have HF : Hid (Own w0 ((((w1.setCell ⟨w.heap.size, 0, none⟩ (.int .u8 0)).setCell ⟨w.heap.size, 1, none⟩ (.int .i32 0)).setCell ⟨w.heap.size, 2, none⟩ (.int .i32 0)).setCell ⟨w.heap.size, 3, none⟩ (.int .i32 0)) (Cells w.heap.size #[.int .u8 0, .int .i32 0, .int .i32 0, .int .i32 0] 46 :: RTab b o cur m L :: l)) :=
      (((hO.setC 0 (.int .u8 0)).setC 1 (.int .i32 0)).setC 2 (.int .i32 0)).setC 3 (.int .i32 0)
    clear HR hf hO
    go_wp2
    (try simp only [Exit.inBlock, Exit.then])
    refine bodyPost_ret (v := .tuple #[.agg #[.int .u8 0, .int .i32 0, .int .i32 0, .int .i32 0], .int .i64 7]) ?_ rfl ⟨by rw [HV.out]; rfl, HF.out.tail⟩
    rw [results_cell_tmp rfl]
    have r0 := HF.out.cell 0
    have r1 := HF.out.cell 1
    have r2 := HF.out.cell 2
    have r3 := HF.out.cell 3
    simp at r0 r1 r2 r3
    go_simp
  | some r =>
    obtain ⟨d, hd, hdi⟩ := (plc_some hT.ap id r).1 hp
    obtain ⟨did, C⟩ := d
    simp only at hdi
    subst hdi
    rw [hp] at HR
    simp only [pl1] at HR
    have hrL := (List.getElem?_eq_some_iff.1 hd).1
    have hr0 : ¬ (r : Int) < 0 := by omega
    have HG : Hid (∀ i q, C[i]? = some q → ∀ kk, q.k = kk → tget m L did kk = (0, q)) := fun i q hq kk hk => tget_has hT hp hd hq hk
    have HG2 : Hid (hasK C k = false → tget m L did k = (10, ⟨0, 0, 0, 0⟩)) := fun h => tget_not hT hp hd h
    have hCk : ∀ q ∈ C, q.k < 256 := fun q hq => by have := chk_k ((lst_ok (hT.ok _ (List.mem_of_getElem? hd)).1).2 q hq).2; omega
    have hC6 : C.length ≤ 6 := hT.c6 hd
    have HX : Hid (∀ w' l', Own w0 w' (RTab b o cur m L :: l') → ∃ g n cap ac cc, r < n ∧ w'.cell? ⟨b, o + 1, none⟩ = some (.slice (some ⟨g, 0, none⟩) n cap) ∧ w'.cell? ⟨g, r * 2 + 1, none⟩ = some (.slice ac C.length cc) ∧ Cs w' ac C) := by
      intro w' l' h'
      obtain ⟨v, E, hE, h'⟩ := RTab.open h'
      have hlen : E.length = L.length := by rw [← hE, List.length_map]
      obtain ⟨g, cap, rfl, _⟩ := row_shape h'.two.row (by omega)
      have q1 := h'.cell (o + 1)
      rw [tcur_at HCU.out.2] at q1
      obtain ⟨e, he⟩ : ∃ e, E[r]? = some e := ⟨_, List.getElem?_eq_getElem (by omega)⟩
      have hee : e.e = (did, C) := by
        have : (E.map REnt.e)[r]? = some e.e := by rw [List.getElem?_map, he]; rfl
        rw [hE, hd] at this
        exact (Option.some.inj this).symm
      obtain ⟨e1, e2, e3, e4⟩ := e
      have e2' : e2 = C := (Prod.mk.inj hee).2
      subst e2'
      obtain ⟨_, c1⟩ := ecell h'.two r _ he
      have hpk := Own.pick r _ he h'
      exact ⟨g, E.length, cap, e3, e4, by omega, q1, c1, Own.rcs hpk rfl⟩
    clear h hA hp hd
    go_enter Tryz.func185, Tryz.ntmps185
    go_wp2_with fail
    refine HR.out.mono ?_
    rintro e w1 ⟨rfl, hf⟩
    have hO := HA.out.quiet hf
    obtain ⟨g, n, cap, ac, cc, hrn, q1, q2, hcs⟩ := HX.out _ _ hO.two
    have hrn' : (r : Int) < (n : Int) := by omega
    have H1 : Hid (Own w0 w1 (Cells w.heap.size #[.int .u8 0, .int .i32 0, .int .i32 0, .int .i32 0] 46 :: RTab b o cur m L :: l)) := hO
    have HFD : Hid (Calls _ _ _ _ _) := find_any w1 ac C.length cc C rfl hcs hCk (by omega) k hk
    have HCS : Hid (Cs w1 ac C) := hcs
    clear HR hf hO hcs HA z0 z1 z2 z3 y0 y1 y2 y3
    generalize hcl : C.length = cl at *
    go_wp2_with fail
    refine HFD.out.mono ?_
    rintro e w2 ⟨r2, rfl, hf2, hcase⟩
    have hO := H1.out.quiet hf2
    have z0 := hO.cell 0
    have z1 := hO.cell 1
    have z2 := hO.cell 2
    have z3 := hO.cell 3
    simp at z0 z1 z2 z3
    have y0 := hO.froz 0
    have y1 := hO.froz 1
    have y2 := hO.froz 2
    have y3 := hO.froz 3
    have hb1 := World.block_lt_of_cell? w1 _ q1
    have hb2 := World.block_lt_of_cell? w1 _ q2
    have p1 := (hf2.cell (p := ⟨b, o + 1, none⟩) hb1 id).trans q1
    have p2 := (hf2.cell (p := ⟨g, r * 2 + 1, none⟩) hb2 id).trans q2
    have HC2 : Hid (Cs w2 ac C) := HCS.out.quiet hf2
    have H2 : Hid (Own w0 w2 (Cells w.heap.size #[.int .u8 0, .int .i32 0, .int .i32 0, .int .i32 0] 46 :: RTab b o cur m L :: l)) := hO
    clear hf2 hO H1 HFD q1 q2 hb1 hb2 HCS HX
    rcases hcase with ⟨rfl, hno⟩ | ⟨i, rfl, q, hq, hqk, _⟩
    · have HV : Hid (tget m L did k = (10, ⟨0, 0, 0, 0⟩)) := HG2.out hno
      have HF : Hid (Own w0 ((((w2.setCell ⟨w.heap.size, 0, none⟩ (.int .u8 0)).setCell ⟨w.heap.size, 1, none⟩ (.int .i32 0)).setCell ⟨w.heap.size, 2, none⟩ (.int .i32 0)).setCell ⟨w.heap.size, 3, none⟩ (.int .i32 0)) (Cells w.heap.size #[.int .u8 0, .int .i32 0, .int .i32 0, .int .i32 0] 46 :: RTab b o cur m L :: l)) :=
        (((H2.out.setC 0 (.int .u8 0)).setC 1 (.int .i32 0)).setC 2 (.int .i32 0)).setC 3 (.int .i32 0)
      clear hno
      go_wp2
      (try simp only [Exit.inBlock, Exit.then])
      refine bodyPost_ret (v := .tuple #[.agg #[.int .u8 0, .int .i32 0, .int .i32 0, .int .i32 0], .int .i64 10]) ?_ rfl ⟨by rw [HV.out]; rfl, HF.out.tail⟩
      rw [results_cell_tmp rfl]
      have r0 := HF.out.cell 0
      have r1 := HF.out.cell 1
      have r2 := HF.out.cell 2
      have r3 := HF.out.cell 3
      simp at r0 r1 r2 r3
      go_simp
    · have HV : Hid (tget m L did k = (0, q)) := HG.out i q hq k hqk
      obtain ⟨gc, oc, hac, _, x0, x1, x2, x3⟩ := HC2.out.at i q hq
      subst hac
      have hic : i < cl := by rw [← hcl]; exact (List.getElem?_eq_some_iff.1 hq).1
      have hic' : (i : Int) < (cl : Int) := by omega
      have hi0 : ¬ (i : Int) < 0 := by omega
      clear hq hcl
      obtain ⟨qk, qa, qb, qc⟩ := q
      simp only at x0 x1 x2 x3
      have HF : Hid (Own w0 ((((w2.setCell ⟨w.heap.size, 0, none⟩ (.int .u8 (qk : Int))).setCell ⟨w.heap.size, 1, none⟩ (.int .i32 qa)).setCell ⟨w.heap.size, 2, none⟩ (.int .i32 qb)).setCell ⟨w.heap.size, 3, none⟩ (.int .i32 qc)) (Cells w.heap.size #[.int .u8 (qk : Int), .int .i32 qa, .int .i32 qb, .int .i32 qc] 46 :: RTab b o cur m L :: l)) :=
        (((H2.out.setC 0 (.int .u8 (qk : Int))).setC 1 (.int .i32 qa)).setC 2 (.int .i32 qb)).setC 3 (.int .i32 qc)
      clear hqk
      go_wp2
      (try simp only [Exit.inBlock, Exit.then])
      refine bodyPost_ret (v := .tuple #[.agg #[.int .u8 (qk : Int), .int .i32 qa, .int .i32 qb, .int .i32 qc], .int .i64 0]) ?_ rfl ⟨by rw [HV.out]; rfl, HF.out.tail⟩
      rw [results_cell_tmp rfl]
      have r0 := HF.out.cell 0
      have r1 := HF.out.cell 1
      have r2 := HF.out.cell 2
      have r3 := HF.out.cell 3
      simp at r0 r1 r2 r3
      go_simp
end
end Go.Proofs.YtflmgilmbppieaaGreatDoor

/-
  The document's table: Set.
-/
namespace Go.Proofs.YtflmgilmbppieaaGreatDoor
open Go.RowKit Go.Maps
set_option linter.unusedVariables false
set_option maxRecDepth 100000

theorem cat_set2 (E : List REnt) (r : Nat) (e e' : REnt) (he : E[r]? = some e) (hi : e'.1 = e.1) : cat rcells (E.set r e') = (cat rcells E).set (r * 2 + 1) e'.v := by
  induction E generalizing r with
  | nil => simp at he
  | cons y E ih =>
    cases r with
    | zero =>
      simp at he; subst he
      simp [cat, rcells, hi]
    | succ r =>
      have ih := ih r (by simpa using he)
      have e1 : ∀ (A : List REnt) (z : REnt), cat rcells (z :: A) = [.int .u32 (z.1 : Int), z.v] ++ cat rcells A := fun _ _ => rfl
      rw [List.set_cons_succ, e1, e1, ih, show (r + 1) * 2 + 1 = r * 2 + 1 + 1 + 1 by omega]
      simp
theorem tset_none {m : Nat} {L : List Ent} {id : Nat} {q : Cp} (h0 : q.chk = 0) (hp : plc L id = none) : tset m L id q = (7, L) ∧ tget m L id q.k = (7, ⟨0, 0, 0, 0⟩) := by
  unfold tset tget; rw [if_neg (by simp [h0]), hp]; exact ⟨rfl, rfl⟩
theorem tset_no {m : Nat} {L : List Ent} {id r : Nat} {q : Cp} (h0 : q.chk = 0) (hp : plc L id = some r) (hb : bt m q.k = false) : tset m L id q = (10, L) ∧ tget m L id q.k = (10, ⟨0, 0, 0, 0⟩) := by
  unfold tset tget; rw [if_neg (by simp [h0]), hp]; simp [hb]

section
variable (w0 w : World) (l : List Thing) (b o : Nat) (cur : Array Value) (m : Nat) (L : List Ent)
set_option maxHeartbeats 4000000 in
theorem rtsetC (h : Own w0 w (RTab b o cur m L :: l)) (hT : TOk m L) (id : Nat) (hid : id < 4294967296) (q : Cp) (hk : q.k < 256) (hL : L.length ≤ 1000000) :
    Calls Tryz.prog 137 #[.pointer (some ⟨b, o, none⟩), .int .u32 (id : Int), q.ag] w fun e w' => e = .returned (.int .i64 ((tset m L id q).1 : Int)) ∧ Own w0 w' (RTab b o cur m (tset m L id q).2 :: l) := by
  have HCU : Hid (cur[o]? = some (.int .u8 (m : Int)) ∧ o + 1 < cur.size) := RTab.facts h
  have hm := hT.m64
  have hA := h.allocC #[.int .u8 (q.k : Int), .int .i32 q.a, .int .i32 q.b, .int .i32 q.c] 46
  have z0 := hA.cell 0
  have z1 := hA.cell 1
  have z2 := hA.cell 2
  have z3 := hA.cell 3
  simp at z0 z1 z2 z3
  have HC : Hid (Calls _ _ _ _ _) := rcheck3 (w.alloc (.cells #[.int .u8 (q.k : Int), .int .i32 q.a, .int .i32 q.b, .int .i32 q.c] 46)) q.k hk q.a q.b q.c
  have HA : Hid (Own w0 _ (Cells w.heap.size #[.int .u8 (q.k : Int), .int .i32 q.a, .int .i32 q.b, .int .i32 q.c] 46 :: RTab b o cur m L :: l)) := hA
  have HQ : Hid (q.chk = chk q.k (f3 q.a q.b q.c)) := rfl
  clear h hA
  unfold Cp.ag
  obtain ⟨x, hx⟩ : ∃ x, q.chk = x := ⟨_, rfl⟩
  have hx5 : x ≤ 5 := by rw [← hx]; exact chk_lt q
  rw [← HQ.out, hx] at HC
  by_cases hx0 : x = 0
  · subst hx0
    have HGT : Hid (∀ w', Own w0 w' (RTab b o cur m L :: Cells w.heap.size #[.int .u8 (q.k : Int), .int .i32 q.a, .int .i32 q.b, .int .i32 q.c] 46 :: l) → Calls Tryz.prog 185 #[.pointer (some ⟨b, o, none⟩), .int .u32 (id : Int), .int .u8 (q.k : Int)] w' fun e w'' => e = .returned (.tuple #[(tget m L id q.k).2.ag, .int .i64 ((tget m L id q.k).1 : Int)]) ∧ Own w0 w'' (RTab b o cur m L :: Cells w.heap.size #[.int .u8 (q.k : Int), .int .i32 q.a, .int .i32 q.b, .int .i32 q.c] 46 :: l)) := fun w' h' => rtgetC w0 w' _ b o cur m L h' hT hL id q.k hk
    have hbad : ∀ cd : Nat, cd = 7 ∨ cd = 10 → tset m L id q = (cd, L) ∧ tget m L id q.k = (cd, ⟨0, 0, 0, 0⟩) → Calls Tryz.prog 137 #[.pointer (some ⟨b, o, none⟩), .int .u32 (id : Int), .agg #[.int .u8 (q.k : Int), .int .i32 q.a, .int .i32 q.b, .int .i32 q.c]] w fun e w' => e = .returned (.int .i64 ((tset m L id q).1 : Int)) ∧ Own w0 w' (RTab b o cur m (tset m L id q).2 :: l) := by
      rintro cd hcd ⟨e1, e2⟩
      have HV : Hid (tset m L id q = (cd, L)) := e1
      rw [e2] at HGT
      simp only [Cp.ag] at HGT
      have hcd0 : ((cd : Int) != 0) = true := by rw [bne_iff_ne]; omega
      clear e1 e2 hx HQ
      obtain ⟨qk, qa, qb, qc⟩ := q
      simp only at z0 z1 z2 z3 HC HGT HA hk ⊢
      go_enter Tryz.func137, Tryz.ntmps137
      go_wp2_with fail
      refine HC.out.mono ?_
      rintro e w1 ⟨rfl, hf⟩
      have H1 : Hid (Own w0 w1 _) := HA.out.quiet hf
      have y0 := (HA.out.quiet hf).cell 0
      simp at y0
      clear hf HC z0 z1 z2 z3
      go_wp2_with fail
      refine (HGT.out _ H1.out.two).mono ?_
      rintro e w2 ⟨rfl, hO2⟩
      have H2 : Hid (Own w0 w2 _) := hO2
      clear hO2 H1 y0 HGT
      go_wp2
      go_ret
      rw [HV.out]
      exact ⟨rfl, (H2.out.two.tail).alloc _⟩
    cases hp : plc L id with
    | none => exact hbad 7 (.inl rfl) (tset_none hx hp)
    | some r =>
      cases hb : bt m q.k with
      | false => exact hbad 10 (.inr rfl) (tset_no hx hp hb)
      | true =>
        clear hbad
        obtain ⟨d, hd, hdi⟩ := (plc_some hT.ap id r).1 hp
        obtain ⟨did, C⟩ := d
        simp only at hdi
        subst hdi
        have hok := hT.ok _ (List.mem_of_getElem? hd)
        have hC6 : C.length ≤ 6 := hT.c6 hd
        have hCk : ∀ y ∈ C, y.k < 256 := fun y hy => by have := chk_k ((lst_ok hok.1).2 y hy).2; omega
        have hin : insc C q = setc C q := insc_set (lst_ok hok.1).1 q (hasK_bt hok.2 hm hb)
        have HV : Hid (tset m L did q = (0, L.set r (did, insc C q))) := by show _ = _; unfold tset; rw [if_neg (by simp [hx]), hp]; simp [hb, hd, hin]
        have hrL := (List.getElem?_eq_some_iff.1 hd).1
        have hg0 : ∃ y, tget m L did q.k = (0, y) := by unfold tget; rw [hp]; simp [hb]
        obtain ⟨y, hy⟩ := hg0
        rw [hy] at HGT
        simp only [Cp.ag] at HGT
        have HRW : Hid (∀ w' l', Own w0 w' (RTab b o cur m L :: l') → Calls Tryz.prog 180 #[.pointer (some ⟨b, o, none⟩), .int .u32 (did : Int)] w' fun e w'' => e = .returned (.int .i64 (r : Int)) ∧ Fr Nobody w' w'') := fun w' l' h' => by have := rtrow w0 w' l' b o cur m L h' hT.ap hL did; rw [hp] at this; exact this
        have HLD : Hid (L[r]? = some (did, C)) := hd
        have hr0 : ¬ (r : Int) < 0 := by omega
        clear hx HQ hy hp hd hb hin hok hT
        obtain ⟨qk, qa, qb, qc⟩ := q
        obtain ⟨yk, ya, yb, yc⟩ := y
        simp only at z0 z1 z2 z3 HC HGT HA hk ⊢
        go_enter Tryz.func137, Tryz.ntmps137
        go_wp2_with fail
        refine HC.out.mono ?_
        rintro e w1 ⟨rfl, hf⟩
        have H1 : Hid (Own w0 w1 _) := HA.out.quiet hf
        have y0 := (HA.out.quiet hf).cell 0
        simp at y0
        clear hf HC z0 z1 z2 z3 HA
        go_wp2_with fail
        refine (HGT.out _ H1.out.two).mono ?_
        rintro e w2 ⟨rfl, hO2⟩
        have H2 : Hid (Own w0 (w2.alloc (.cells #[.int .u8 (yk : Int), .int .i32 ya, .int .i32 yb, .int .i32 yc] 46)) (RTab b o cur m L :: Cells w.heap.size #[.int .u8 (qk : Int), .int .i32 qa, .int .i32 qb, .int .i32 qc] 46 :: l)) := hO2.alloc _
        clear hO2 H1 y0 HGT
        go_wp2_with fail
        refine (HRW.out _ _ H2.out).mono ?_
        rintro e w3 ⟨rfl, hf3⟩
        have hO3 := (H2.out.quiet hf3).drew
        obtain ⟨v, E, hE, hO⟩ := RTab.open hO3
        have hlen : E.length = L.length := by rw [← hE, List.length_map]
        obtain ⟨g, ce, hvv, _⟩ := row_shape hO.two.row (by omega)
        subst hvv
        obtain ⟨d, hd⟩ : ∃ d, E[r]? = some d := ⟨_, List.getElem?_eq_getElem (by omega)⟩
        have hee : d.e = (did, C) := by
          have : (E.map REnt.e)[r]? = some d.e := by rw [List.getElem?_map, hd]; rfl
          rw [hE, HLD.out] at this
          exact (Option.some.inj this).symm
        obtain ⟨d1, d2, d3, d4⟩ := d
        have e1 : d1 = did := (Prod.mk.inj hee).1
        have e2 : d2 = C := (Prod.mk.inj hee).2
        subst e1 e2
        obtain ⟨_, p2⟩ := ecell hO.two r _ hd
        simp only at p2
        have p1 := hO.cell (o + 1)
        rw [tcur_at HCU.out.2] at p1
        have hbx : ∀ w' l2, Own w0 w' (Cells b (cur.setIfInBounds (o + 1) (.slice (some ⟨g, 0, none⟩) E.length ce)) 153 :: Row 67 2 (.slice (some ⟨g, 0, none⟩) E.length ce) E.length (cat rcells E) :: (E.map rrow ++ (Cells w.heap.size #[.int .u8 (qk : Int), .int .i32 qa, .int .i32 qb, .int .i32 qc] 46 :: l2))) → Own w0 w' (Cells w.heap.size #[.int .u8 (qk : Int), .int .i32 qa, .int .i32 qb, .int .i32 qc] 46 :: Cells b (cur.setIfInBounds (o + 1) (.slice (some ⟨g, 0, none⟩) E.length ce)) 153 :: Row 67 2 (.slice (some ⟨g, 0, none⟩) E.length ce) E.length (cat rcells E) :: (E.map rrow ++ l2)) := by
          intro w' l2 h'
          refine h'.perm ?_
          exact (List.perm_middle (l₁ := Cells b (cur.setIfInBounds (o + 1) (.slice (some ⟨g, 0, none⟩) E.length ce)) 153 :: Row 67 2 (.slice (some ⟨g, 0, none⟩) E.length ce) E.length (cat rcells E) :: E.map rrow) (l₂ := l2))
        have hB := hbx _ _ hO
        have u0 := hB.cell 0
        have u1 := hB.cell 1
        have u2 := hB.cell 2
        have u3 := hB.cell 3
        simp at u0 u1 u2 u3
        have HWI : Hid (Calls _ _ _ _ _) := rwith_any w0 _ _ hO d3 d2.length d4 d2 rfl (fun w'' h'' => Own.rcs (Own.pick r _ hd h'') rfl) hCk (by omega) ⟨qk, qa, qb, qc⟩ hk
        simp only [Cp.ag] at HWI
        have HES : Hid (E.map REnt.e = L ∧ E[r]? = some (d1, d2, d3, d4)) := ⟨hE, hd⟩
        have hen : r < E.length := by omega
        have hen' : (r : Int) < (E.length : Int) := by omega
        obtain ⟨I, hI⟩ : ∃ I, I = insc d2 ⟨qk, qa, qb, qc⟩ := ⟨_, rfl⟩
        rw [← hI] at HWI HV
        have HFI : Hid (∀ w' a5 c5, Own w0 w' (Row 46 4 (.slice a5 I.length c5) I.length (ccat I) :: Cells b (cur.setIfInBounds (o + 1) (.slice (some ⟨g, 0, none⟩) E.length ce)) 153 :: Row 67 2 (.slice (some ⟨g, 0, none⟩) E.length ce) E.length (cat rcells E) :: (E.map rrow ++ (Cells w.heap.size #[.int .u8 (qk : Int), .int .i32 qa, .int .i32 qb, .int .i32 qc] 46 :: l))) → Own w0 (w'.setCell ⟨g, r * 2 + 1, none⟩ (.slice a5 I.length c5)) (RTab b o cur m (L.set r (d1, I)) :: l)) := by
          intro w' a5 c5 h5
          have h6 := (h5.three.setR (r * 2 + 1) (.slice a5 I.length c5))
          have e3 := cat_set2 E r _ (d1, I, a5, c5) HES.out.2 rfl
          have e4 : (cat rcells E).set (r * 2 + 1) (.slice a5 I.length c5) = cat rcells (E.set r (d1, I, a5, c5)) := e3.symm
          rw [e4] at h6
          have h7 : Own w0 (w'.setCell ⟨g, r * 2 + 1, none⟩ (.slice a5 I.length c5)) (Cells b (cur.setIfInBounds (o + 1) (.slice (some ⟨g, 0, none⟩) E.length ce)) 153 :: Row 67 2 (.slice (some ⟨g, 0, none⟩) E.length ce) E.length (cat rcells (E.set r (d1, I, a5, c5))) :: (E.map rrow ++ (Row 46 4 (.slice a5 I.length c5) I.length (ccat I) :: Cells w.heap.size #[.int .u8 (qk : Int), .int .i32 qa, .int .i32 qb, .int .i32 qc] 46 :: l))) := by
            refine h6.three.perm ?_
            refine List.Perm.cons _ (List.Perm.cons _ ?_)
            exact List.perm_middle.symm
          have h8 := (Own.pick r _ HES.out.2 h7).tail
          refine RTab.shut (v := .slice (some ⟨g, 0, none⟩) E.length ce) (E := E.set r (d1, I, a5, c5)) (by rw [List.map_set, HES.out.1]; rfl) HCU.out ?_
          rw [List.length_set]
          refine Own.unpick (E := E) r (d1, I, a5, c5) (by rw [List.getElem?_set, if_pos rfl, if_pos hen]) (List.eraseIdx_set_eq) ?_
          have h9 : Own w0 (w'.setCell ⟨g, r * 2 + 1, none⟩ (.slice a5 I.length c5)) (Row 46 4 (.slice a5 I.length c5) I.length (ccat I) :: Cells b (cur.setIfInBounds (o + 1) (.slice (some ⟨g, 0, none⟩) E.length ce)) 153 :: Row 67 2 (.slice (some ⟨g, 0, none⟩) E.length ce) E.length (cat rcells (E.set r (d1, I, a5, c5))) :: ((E.eraseIdx r).map rrow ++ (Cells w.heap.size #[.int .u8 (qk : Int), .int .i32 qa, .int .i32 qb, .int .i32 qc] 46 :: l))) := by
            refine h8.perm ?_
            exact (List.perm_middle (l₁ := Cells b (cur.setIfInBounds (o + 1) (.slice (some ⟨g, 0, none⟩) E.length ce)) 153 :: Row 67 2 (.slice (some ⟨g, 0, none⟩) E.length ce) E.length (cat rcells (E.set r (d1, I, a5, c5))) :: (E.eraseIdx r).map rrow))
          have h10 : Own w0 (w'.setCell ⟨g, r * 2 + 1, none⟩ (.slice a5 I.length c5)) (Cells w.heap.size #[.int .u8 (qk : Int), .int .i32 qa, .int .i32 qb, .int .i32 qc] 46 :: Row 46 4 (.slice a5 I.length c5) I.length (ccat I) :: Cells b (cur.setIfInBounds (o + 1) (.slice (some ⟨g, 0, none⟩) E.length ce)) 153 :: Row 67 2 (.slice (some ⟨g, 0, none⟩) E.length ce) E.length (cat rcells (E.set r (d1, I, a5, c5))) :: ((E.eraseIdx r).map rrow ++ l)) := by
            refine h9.perm ?_
            exact (List.perm_middle (l₁ := Row 46 4 (.slice a5 I.length c5) I.length (ccat I) :: Cells b (cur.setIfInBounds (o + 1) (.slice (some ⟨g, 0, none⟩) E.length ce)) 153 :: Row 67 2 (.slice (some ⟨g, 0, none⟩) E.length ce) E.length (cat rcells (E.set r (d1, I, a5, c5))) :: (E.eraseIdx r).map rrow))
          exact h10.tail
        have HCF : Hid (∀ w' a5 c5, Own w0 w' (Row 46 4 (.slice a5 I.length c5) I.length (ccat I) :: Cells b (cur.setIfInBounds (o + 1) (.slice (some ⟨g, 0, none⟩) E.length ce)) 153 :: Row 67 2 (.slice (some ⟨g, 0, none⟩) E.length ce) E.length (cat rcells E) :: (E.map rrow ++ (Cells w.heap.size #[.int .u8 (qk : Int), .int .i32 qa, .int .i32 qb, .int .i32 qc] 46 :: l))) → w'.cell? ⟨b, o + 1, none⟩ = some (.slice (some ⟨g, 0, none⟩) E.length ce) ∧ w'.cell? ⟨g, r * 2 + 1, none⟩ = some (.slice d3 d2.length d4) ∧ w'.frozen? ⟨g, r * 2 + 1, none⟩ = false) := by
          intro w' a5 c5 h5
          have t1 := h5.two.cell (o + 1)
          rw [tcur_at HCU.out.2] at t1
          have t2 := (ecell h5.three r _ HES.out.2).2
          exact ⟨t1, t2, h5.three.row.frozenAt _⟩
        clear hO hB hO3 hf3 hE hd hee hI hbx HRW HLD H2 hlen
        generalize E.length = en at *
        generalize I.length = il at *
        generalize d2.length = dl at *
        go_wp2_with fail
        go_region_with (
          go_at_call 139
          refine HWI.out.mono ?_
          rintro e w5 ⟨a5, c5, rfl, hO5⟩
          obtain ⟨t1, t2, t3⟩ := HCF.out _ _ _ hO5
          have HF5 : Hid (Own w0 _ (RTab b o cur m (L.set r (d1, I)) :: l)) := HFI.out _ _ _ hO5
          clear hO5)
        all_goals
          go_wp2
          go_ret
          rw [HV.out]
          exact ⟨rfl, HF5.out⟩
  · have HV : Hid (tset m L id q = (x, L)) := by show _ = _; unfold tset; rw [if_pos (by rw [hx]; exact hx0), hx]
    have hx1 : ((x : Int) != 0) = true := by simpa using hx0
    clear hx HQ
    obtain ⟨qk, qa, qb, qc⟩ := q
    simp only at z0 z1 z2 z3 HC HA hk ⊢
    go_enter Tryz.func137, Tryz.ntmps137
    go_wp2_with fail
    refine HC.out.mono ?_
    rintro e w1 ⟨rfl, hf⟩
    have H1 : Hid (Own w0 w1 _) := HA.out.quiet hf
    clear hf HC z0 z1 z2 z3
    go_wp2
    go_ret
    rw [HV.out]
    exact ⟨rfl, H1.out.tail⟩
end
end Go.Proofs.YtflmgilmbppieaaGreatDoor

/-
  The document's table: Remove.
-/
namespace Go.Proofs.YtflmgilmbppieaaGreatDoor
open Go.RowKit Go.Maps
set_option linter.unusedVariables false
set_option maxRecDepth 100000

theorem outr_perm {α : Type} (E : List α) (r : Nat) (e : α) (he : E[r]? = some e) : E.Perm (e :: outr E r) := by
  obtain ⟨hr, hre⟩ := List.getElem?_eq_some_iff.1 he
  have hsp : E = E.take r ++ e :: E.drop (r + 1) := by
    rw [← hre, List.getElem_cons_drop, List.take_append_drop]
  have hA : (E.take r).length = r := by rw [List.length_take]; omega
  generalize E.take r = A at *
  generalize E.drop (r + 1) = B at *
  subst hsp
  rcases List.eq_nil_or_concat B with rfl | ⟨B', x, rfl⟩
  · have : outr (A ++ [e]) r = A := by
      unfold outr
      rw [List.getLast?_append, List.getLast?_singleton]
      simp only [Option.some_or]
      rw [List.set_append_right _ _ (by omega), hA, Nat.sub_self]
      simp
    rw [this]
    exact List.perm_append_singleton _ _
  · have : outr (A ++ e :: (B' ++ [x])) r = A ++ x :: B' := by
      unfold outr
      have hl : (A ++ e :: (B' ++ [x])).getLast? = some x := by
        rw [List.getLast?_append, List.getLast?_cons, List.getLast?_append]; simp
      rw [hl]
      simp only
      rw [List.set_append_right _ _ (by omega), hA, Nat.sub_self]
      simp only [List.set_cons_zero]
      rw [show A ++ x :: (B' ++ [x]) = (A ++ x :: B') ++ [x] by simp, List.dropLast_concat]
    rw [List.concat_eq_append, this]
    refine (List.perm_middle).trans (List.Perm.cons e ?_)
    rw [← List.append_assoc]
    refine (List.perm_append_singleton x (A ++ B')).trans ?_
    exact List.perm_middle.symm

section
variable (w0 w : World) (l : List Thing) (b o : Nat) (cur : Array Value) (m : Nat) (L : List Ent)
set_option maxHeartbeats 1000000 in
theorem rtremNo (h : Own w0 w (RTab b o cur m L :: l)) (hA : Apart L) (hL : L.length ≤ 1000000) (id : Nat) (hp : plc L id = none) :
    Calls Tryz.prog 133 #[.pointer (some ⟨b, o, none⟩), .int .u32 (id : Int)] w fun e w' => e = .returned (.tuple #[.slice none 0 0, .int .i64 7]) ∧ Own w0 w' (RTab b o cur m L :: l) := by
  have HR : Hid (Calls _ _ _ _ _) := rtrow w0 w _ b o cur m L h hA hL id
  rw [hp] at HR
  simp only [pl1] at HR
  have H : Hid (Own w0 w (RTab b o cur m L :: l)) := h
  clear h hp
  go_enter Tryz.func133, Tryz.ntmps133
  go_wp2_with fail
  refine HR.out.mono ?_
  rintro e w1 ⟨rfl, hf⟩
  have H1 : Hid (Own w0 w1 (RTab b o cur m L :: l)) := H.out.quiet hf
  clear HR hf
  go_wp2
  go_ret2
  exact ⟨rfl, H1.out⟩
set_option maxHeartbeats 4000000 in
theorem rtremC (h : Own w0 w (RTab b o cur m L :: l)) (hT : TOk m L) (hL : L.length ≤ 1000000) (id r : Nat) (e : Ent) (hp : plc L id = some r) (he : L[r]? = some e) :
    Calls Tryz.prog 133 #[.pointer (some ⟨b, o, none⟩), .int .u32 (id : Int)] w fun out w' => ∃ ao cap, out = .returned (.tuple #[.slice ao e.2.length cap, .int .i64 0]) ∧ Own w0 w' (Row 46 4 (.slice ao e.2.length cap) e.2.length (ccat e.2) :: RTab b o cur m (outr L r) :: l) := by
  have HCU : Hid (cur[o]? = some (.int .u8 (m : Int)) ∧ o + 1 < cur.size) := RTab.facts h
  obtain ⟨i0, hi, hz0, hz1, hz2⟩ := info_parts Tryz.infoEnt
  have HR : Hid (Calls _ _ _ _ _) := rtrow w0 w _ b o cur m L h hT.ap hL id
  rw [hp] at HR
  simp only [pl1] at HR
  have H : Hid (Own w0 w (RTab b o cur m L :: l)) := h
  have HLE : Hid (L[r]? = some e) := he
  have hrL := (List.getElem?_eq_some_iff.1 he).1
  have hr0 : ¬ (r : Int) < 0 := by omega
  clear h hp he hT
  go_enter Tryz.func133, Tryz.ntmps133
  go_wp2_with fail
  refine HR.out.mono ?_
  rintro out w1 ⟨rfl, hf⟩
  obtain ⟨v, E, hE, hO⟩ := RTab.open (H.out.quiet hf)
  have hlen : E.length = L.length := by rw [← hE, List.length_map]
  obtain ⟨n, hn⟩ : ∃ n, E.length = n + 1 := ⟨E.length - 1, by omega⟩
  rw [hn] at hO
  obtain ⟨g, ce, hvv, _⟩ := row_shape hO.two.row (by omega)
  subst hvv
  obtain ⟨d, hd⟩ : ∃ d, E[r]? = some d := ⟨_, List.getElem?_eq_getElem (by omega)⟩
  have hee : d.e = e := by
    have : (E.map REnt.e)[r]? = some d.e := by rw [List.getElem?_map, hd]; rfl
    rw [hE, HLE.out] at this
    exact (Option.some.inj this).symm
  obtain ⟨xl, hxl⟩ : ∃ x, E[n]? = some x := ⟨_, List.getElem?_eq_getElem (by omega)⟩
  have hcap := (row_cap hO.two.row).2
  have hO2 := hO.two
  rw [← hn] at hO2
  obtain ⟨_, p2⟩ := ecell hO2 r d hd
  have p1 := hO.cell (o + 1)
  rw [tcur_at HCU.out.2] at p1
  have HO : Hid (Own w0 w1 (Cells b (cur.setIfInBounds (o + 1) (.slice (some ⟨g, 0, none⟩) (n + 1) ce)) 153 :: Row 67 2 (.slice (some ⟨g, 0, none⟩) (n + 1) ce) (n + 1) (cat rcells E) :: (E.map rrow ++ l))) := hO
  have HE : Hid (E.map REnt.e = L ∧ E.length = n + 1 ∧ E[r]? = some d ∧ E[n]? = some xl ∧ d.e = e) := ⟨hE, hn, hd, hxl, hee⟩
  have hrn : r < n + 1 := by omega
  have hrn' : (r : Int) < (n : Int) + 1 := by omega
  have hn6 : n ≤ 1000000 := by omega
  have hcap2 : n ≤ ce := by omega
  have hcap3 : ¬ ce = 0 := by omega
  have HIN : Hid (∀ w' l', Own w0 w' (Row 67 2 (.slice (some ⟨g, 0, none⟩) (n + 1) ce) (n + 1) (cat rcells E) :: l') → ∀ i x, E[i]? = some x → w'.cell? ⟨g, i * 2, none⟩ = some (.int .u32 (x.1 : Int)) ∧ w'.cell? ⟨g, i * 2 + 1, none⟩ = some (.slice x.2.2.1 x.2.1.length x.2.2.2)) := by
    intro w' l' h' i x hx
    rw [← HE.out.2.1] at h'
    exact ecell h' i x hx
  clear HR hf H hO hO2 hE hn hd hee hxl hlen hrL
  go_wp2
  go_loopw [9, 40] (fun lv cv wr => ∃ j : Nat, j ≤ n ∧ cv = .int .i64 j ∧ ∃ a1 c1, lv = .slice a1 j c1 ∧ Own w0 wr (Row 67 2 (.slice a1 j c1) j (cat rcells ((outr E r).take j)) :: Cells b (cur.setIfInBounds (o + 1) (.slice (some ⟨g, 0, none⟩) (n + 1) ce)) 153 :: Row 67 2 (.slice (some ⟨g, 0, none⟩) (n + 1) ce) (n + 1) (cat rcells E) :: (E.map rrow ++ l))) (fun _ cv _ => n - (intOf cv).toNat)
  case atStart => exact ⟨0, Nat.zero_le _, rfl, none, 0, rfl, by simpa [cat] using HO.out.nilRow 67 2⟩
  case round =>
    obtain ⟨j, hj, rfl, a1, c1, rfl, hO⟩ := hrel
    have H1 : Hid (Own w0 wr (Row 67 2 (.slice a1 j c1) j (cat rcells ((outr E r).take j)) :: Cells b (cur.setIfInBounds (o + 1) (.slice (some ⟨g, 0, none⟩) (n + 1) ce)) 153 :: Row 67 2 (.slice (some ⟨g, 0, none⟩) (n + 1) ce) (n + 1) (cat rcells E) :: (E.map rrow ++ l))) := hO
    clear HO
    by_cases hlt : j < n
    · have hlt' : (j : Int) < (n : Int) := by omega
      obtain ⟨x, hx⟩ : ∃ x, E[j]? = some x := ⟨_, List.getElem?_eq_getElem (by rw [HE.out.2.1]; omega)⟩
      obtain ⟨s0, s1⟩ := HIN.out _ _ hO.three j x hx
      obtain ⟨t0, t1⟩ := HIN.out _ _ hO.three n xl HE.out.2.2.2.1
      have u1 := hO.two.cell (o + 1)
      rw [tcur_at HCU.out.2] at u1
      have hbw := hO.two.lt
      have hgw : g < wr.heap.size := (hO.three.row.lt g rfl).2
      have hgn : g ≠ wr.heap.size := by omega
      have hgn' : wr.heap.size ≠ g := by omega
      have hbn : b ≠ wr.heap.size := by omega
      have hbn' : wr.heap.size ≠ b := by omega
      obtain ⟨y, hy⟩ : ∃ y, (outr E r)[j]? = some y := ⟨_, List.getElem?_eq_getElem (by rw [length_outr _ _ (by rw [HE.out.2.1]; omega), HE.out.2.1]; omega)⟩
      have hy2 := hy
      rw [outr_at E r j (by rw [HE.out.2.1]; omega), HE.out.2.1, if_pos (by omega)] at hy2
      have HTK : Hid ((outr E r).take (j + 1) = (outr E r).take j ++ [y]) := take_snoc _ j y hy
      have HAL : Hid (∀ ob, Own w0 (wr.alloc ob) (Row 67 2 (.slice a1 j c1) j (cat rcells ((outr E r).take j)) :: Cells b (cur.setIfInBounds (o + 1) (.slice (some ⟨g, 0, none⟩) (n + 1) ce)) 153 :: Row 67 2 (.slice (some ⟨g, 0, none⟩) (n + 1) ce) (n + 1) (cat rcells E) :: (E.map rrow ++ l))) := fun ob => H1.out.alloc ob
      clear hO hy
      by_cases hjr : j = r
      · rw [if_pos hjr] at hy2
        have hyx : y = xl := by
          have := HE.out.2.2.2.1
          rw [show n + 1 - 1 = n by omega, this] at hy2
          exact (Option.some.inj hy2).symm
        have HJR : Hid (j = r) := hjr
        have hjr' : ((j : Int) == (r : Int)) = true := by rw [hjr]; simp
        clear hjr hy2 hx
        subst hyx
        obtain ⟨y1, y2, y3, y4⟩ := y
        obtain ⟨x1, x2, x3, x4⟩ := x
        simp only at s0 s1 t0 t1
        generalize hyl : y2.length = yl at *
        generalize x2.length = xl2 at *
        have HYL : Hid (y2.length = yl) := hyl
        clear hyl
        go_wp2_with (at_builtin; refine append1_own rfl _ _ 64 rfl 67 i0 (.agg #[.int .u32 0, .slice none 0 0]) 2 32 Tryz.underlying64 hi hz0 hz1 hz2 rfl (by decide) _ _ _ rfl (HAL.out _) _ #[.int .u32 (y1 : Int), .slice y3 yl y4] (by simp) rfl rfl (by intro u hu; simp at hu; rcases hu with rfl | rfl <;> rfl) (by unfold maxLen; omega) (by omega) ?_)
        intro g4 c4 w4 hO4 hsz
        have H4 : Hid (Own w0 w4 (Row 67 2 (.slice (some ⟨g4, 0, none⟩) (j + 1) c4) (j + 1) (cat rcells ((outr E r).take (j + 1))) :: Cells b (cur.setIfInBounds (o + 1) (.slice (some ⟨g, 0, none⟩) (n + 1) ce)) 153 :: Row 67 2 (.slice (some ⟨g, 0, none⟩) (n + 1) ce) (n + 1) (cat rcells E) :: (E.map rrow ++ l))) := by
          show Own _ _ _
          rw [HTK.out, cat_append]
          have e2 : cat rcells [(y1, y2, y3, y4)] = [.int .u32 (y1 : Int), .slice y3 yl y4] := by
            show [Value.int .u32 (y1 : Int), Value.slice y3 y2.length y4] = _
            rw [HYL.out]
          rw [e2]; exact hO4
        clear hO4 hsz H1 HAL s0 s1 t0 t1 u1
        go_wp2
        go_roundw
        case rel => exact ⟨j + 1, by omega, by go_num, _, _, rfl, H4.out⟩
        case measure => simp [intOf]; omega
      · rw [if_neg hjr, hx] at hy2
        have hyx : x = y := Option.some.inj hy2
        have hjr' : ((j : Int) == (r : Int)) = false := by rw [beq_eq_false_iff_ne]; omega
        clear hy2 hx
        subst hyx
        obtain ⟨y1, y2, y3, y4⟩ := x
        simp only at s0 s1
        generalize hyl : y2.length = yl at *
        have HYL : Hid (y2.length = yl) := hyl
        clear hyl t0 t1
        go_wp2_with (at_builtin; refine append1_own rfl _ _ 64 rfl 67 i0 (.agg #[.int .u32 0, .slice none 0 0]) 2 32 Tryz.underlying64 hi hz0 hz1 hz2 rfl (by decide) _ _ _ rfl (HAL.out _) _ #[.int .u32 (y1 : Int), .slice y3 yl y4] (by simp) rfl rfl (by intro u hu; simp at hu; rcases hu with rfl | rfl <;> rfl) (by unfold maxLen; omega) (by omega) ?_)
        intro g4 c4 w4 hO4 hsz
        have H4 : Hid (Own w0 w4 (Row 67 2 (.slice (some ⟨g4, 0, none⟩) (j + 1) c4) (j + 1) (cat rcells ((outr E r).take (j + 1))) :: Cells b (cur.setIfInBounds (o + 1) (.slice (some ⟨g, 0, none⟩) (n + 1) ce)) 153 :: Row 67 2 (.slice (some ⟨g, 0, none⟩) (n + 1) ce) (n + 1) (cat rcells E) :: (E.map rrow ++ l))) := by
          show Own _ _ _
          rw [HTK.out, cat_append]
          have e2 : cat rcells [(y1, y2, y3, y4)] = [.int .u32 (y1 : Int), .slice y3 yl y4] := by
            show [Value.int .u32 (y1 : Int), Value.slice y3 y2.length y4] = _
            rw [HYL.out]
          rw [e2]; exact hO4
        clear hO4 hsz H1 HAL s0 s1 u1
        go_wp2
        go_roundw
        case rel => exact ⟨j + 1, by omega, by go_num, _, _, rfl, H4.out⟩
        case measure => simp [intOf]; omega
    · have hjn : j = n := by omega
      subst hjn
      have hlt' : ¬ (j : Int) < (j : Int) := by omega
      have u1 := hO.two.cell (o + 1)
      have v1 := hO.two.froz (o + 1)
      rw [tcur_at HCU.out.2] at u1
      have HFIN : Hid (Own w0 (wr.setCell ⟨b, o + 1, none⟩ (.slice a1 j c1)) (Row 46 4 (.slice d.2.2.1 e.2.length d.2.2.2) e.2.length (ccat e.2) :: RTab b o cur m (outr L r) :: l)) := by
        have hlo : (outr E r).length = j := by rw [length_outr _ _ (by rw [HE.out.2.1]; omega), HE.out.2.1]; rfl
        have h1 := hO.two.setC (o + 1) (.slice a1 j c1)
        rw [Array.setIfInBounds_setIfInBounds] at h1
        rw [List.take_of_length_le (by rw [hlo]; exact Nat.le_refl _)] at h1
        have h2 := h1.three.tail
        have h3 : Own w0 (wr.setCell ⟨b, o + 1, none⟩ (.slice a1 j c1)) (rrow d :: Cells b (cur.setIfInBounds (o + 1) (.slice a1 j c1)) 153 :: Row 67 2 (.slice a1 j c1) j (cat rcells (outr E r)) :: ((outr E r).map rrow ++ l)) := by
          refine h2.perm ?_
          have hpm := ((outr_perm E r d HE.out.2.2.1).map rrow).append_right l
          refine ((hpm.cons _).cons _).trans ?_
          exact (List.perm_middle (l₁ := [Cells b (cur.setIfInBounds (o + 1) (.slice a1 j c1)) 153, Row 67 2 (.slice a1 j c1) j (cat rcells (outr E r))]))
        have h4 : Own w0 (wr.setCell ⟨b, o + 1, none⟩ (.slice a1 j c1)) (RTab b o cur m (outr L r) :: rrow d :: l) := by
          refine RTab.shut (v := .slice a1 j c1) (E := outr E r) (by rw [map_outr _ _ _ (by rw [HE.out.2.1]; omega), HE.out.1]) HCU.out ?_
          rw [hlo]
          refine h3.perm ?_
          refine ((List.Perm.swap _ _ _).trans ((List.Perm.swap _ _ _).cons _)).trans ?_
          exact ((List.perm_middle.symm).cons _).cons _
        have hde := HE.out.2.2.2.2
        subst hde
        exact h4.two
      have HDE : Hid (d.e = e) := HE.out.2.2.2.2
      have hdl : d.2.1.length = e.2.length := by rw [← HDE.out]; rfl
      rw [hdl] at p2
      clear hO
      go_wp2
      go_ret2
      exact ⟨_, _, rfl, HFIN.out⟩
end
end Go.Proofs.YtflmgilmbppieaaGreatDoor

/-
  The document's store: put, Spawn, Despawn.
-/
namespace Go.Proofs.YtflmgilmbppieaaGreatDoor
open Go.RowKit Go.Maps
set_option linter.unusedVariables false
set_option maxRecDepth 100000

section
variable (w0 w : World) (l : List Thing) (b : Nat) (σ : Sto) (K : Nat)
set_option maxHeartbeats 2000000 in
theorem rputS (h : Own w0 w (RSto b σ K :: l)) (id : Nat) (hid : id < 4294967296) (ao : Option Addr) (len cap : Nat) (C : List Cp) (hCl : C.length = len) (hCs : ∀ w', Own w0 w' l → Cs w' ao C) (hCk : ∀ q ∈ C, q.k < 256) (hlen : len ≤ 1000000) (h0 : lst (-1) C = 0) (hT : TOk (msk C) (σ.T (msk C))) (hn : plc (σ.T (msk C)) id = none) (hK : K < 1000000) :
    Calls Tryz.prog 79 #[.pointer (some ⟨b, 0, none⟩), .int .u32 (id : Int), .slice ao len cap] w fun e w' => e = .returned (.tuple #[]) ∧ Own w0 w' (RSto b (σ.put id C) (K + 1) :: l) := by
  have h6 := msk64 C
  have H : Hid (Own w0 w.drew (RSto b σ K :: l)) := h.drew
  have HMK : Hid (Calls Tryz.prog 132 #[.slice ao len cap] w.drew fun e w'' => e = .returned (.int .u8 ((msk C : Nat) : Int)) ∧ Fr Nobody w.drew w'') := rmask_any w.drew ao len cap C hCl (hCs _ h.drew.tail) hCk hlen
  have HAD : Hid (∀ w', Own w0 w' (RSto b σ K :: l) → Calls Tryz.prog 131 #[.pointer (some ⟨b, 1 + msk C * 2, none⟩), .int .u32 (id : Int), .slice ao len cap] w' fun e w'' => e = .returned (.int .i64 0) ∧ Own w0 w'' (RSto b (σ.put id C) (K + 1) :: l)) := by
    intro w' h'
    obtain ⟨x, hx, h'⟩ := RSto.opn h'
    have h2 := RSX.out h' h6
    rw [hx.E _ h6] at h2
    have ht : tadd (msk C) (σ.T (msk C)) id C = (0, σ.T (msk C) ++ [(id, C)]) := by unfold tadd; rw [if_neg (by simp [h0]), if_neg (by simp), if_neg (by rw [hn]; simp)]
    refine (rtaddC w0 w' _ b _ _ _ _ h2 hT id hid ao len cap C hCl (fun w'' h'' => hCs _ h''.tail.tail) hCk hlen (by have := hx.len _ h6; omega)).mono ?_
    rintro e w'' ⟨rfl, h3⟩
    rw [ht] at h3 ⊢
    obtain ⟨v', E', hE, h4⟩ := RSX.into h6 h3
    refine ⟨rfl, RSto.mk (σ := σ.put id C) ((hx.mono (Nat.le_succ K)).upd h6 hE ?_) h4⟩
    have := hx.len _ h6
    simp; omega
  clear h hCs hCk h0 hT hn
  generalize msk C = m at *
  go_enter Tryz.func79, Tryz.ntmps79
  go_wp2_with fail
  have hm64 : (m : Int) < 64 := by omega
  go_region_with (first
    | (go_at_call 132
       refine HMK.out.mono ?_
       rintro e w3 ⟨rfl, hf3⟩
       have H3 : Hid (Own w0 w3 (RSto b σ K :: l)) := H.out.quiet hf3
       clear hf3)
    | (go_at_call 131
       refine (HAD.out _ H3.out).mono ?_
       rintro e w4 ⟨rfl, hO4⟩
       have H4 : Hid (Own w0 w4 _) := hO4
       clear hO4))
  all_goals
    go_wp2
    go_end0
    exact ⟨rfl, H4.out⟩
set_option maxHeartbeats 2000000 in
theorem rspawnC (h : Own w0 w (RSto b σ K :: l)) (hσ : σ.Ok)
    (ao : Option Addr) (len cap : Nat) (C : List Cp) (hCl : C.length = len) (hCs : ∀ w', Own w0 w' l → Cs w' ao C) (hCk : ∀ q ∈ C, q.k < 256) (hlen : len ≤ 1000000) (hK : K < 1000000) :
    Calls Tryz.prog 30 #[.pointer (some ⟨b, 0, none⟩), .slice ao len cap] w fun e w' => e = .returned (.tuple #[.int .u32 ((σ.spawn C).1 : Int), .int .i64 (σ.spawn C).2.1]) ∧ Own w0 w' (RSto b (σ.spawn C).2.2 (K + 1) :: l) := by
  have H : Hid (Own w0 w (RSto b σ K :: l)) := h
  have HLS : Hid (Calls _ _ _ _ _) := rlist_any w ao len cap C hCl (hCs _ h.tail) hCk hlen
  by_cases h0 : lst (-1) C = 0
  · rw [h0] at HLS
    have HTK : Hid (∀ w', Own w0 w' (RSto b σ K :: l) → ∃ bs, w'.cell? ⟨b, 0, none⟩ = some (.pointer (some ⟨bs, 0, none⟩)) ∧ Calls Tryz.prog 78 #[.pointer (some ⟨bs, 0, none⟩)] w' fun e w'' => e = .returned (.tuple #[.int .u32 (σ.S.take.1 : Int), .int .i64 σ.S.take.2.1]) ∧ Own w0 w'' (RSto b { σ with S := σ.S.take.2.2 } K :: l)) := by
      intro w' h'
      obtain ⟨x, hx, h'⟩ := RSto.opn h'
      refine ⟨x.bs, RSX.ids w0 w' l b σ x h', (rtake_ok w0 w' _ x.bs σ.S x.f x.ck (RSX.iff.1 h').two hσ.s hx.st (by have := hx.ck; omega)).mono ?_⟩
      rintro e w'' ⟨rfl, f', hf', h2⟩
      refine ⟨rfl, RSto.mk (σ := { σ with S := σ.S.take.2.2 }) (x := { x with f := f' }) ⟨hf', hx.ck, hx.E, hx.len⟩ (RSX.iff.2 h2.two)⟩
    by_cases h1 : σ.S.take.2.1 = 0
    · have HV : Hid (σ.spawn C = (σ.S.take.1, 0, Sto.put { σ with S := σ.S.take.2.2 } σ.S.take.1 C)) := by show _ = _; unfold Sto.spawn; rw [if_neg (by simp [h0]), if_neg (by simp [h1])]
      have hL := hσ.take h1
      have hli := St.live_lt hL.s hL.li
      have HPU : Hid (∀ w', Own w0 w' (RSto b { σ with S := σ.S.take.2.2 } K :: l) → Calls Tryz.prog 79 #[.pointer (some ⟨b, 0, none⟩), .int .u32 (σ.S.take.1 : Int), .slice ao len cap] w' fun e w'' => e = .returned (.tuple #[]) ∧ Own w0 w'' (RSto b (Sto.put { σ with S := σ.S.take.2.2 } σ.S.take.1 C) (K + 1) :: l)) := by
        intro w' h'
        exact rputS w0 w' l b _ K h' σ.S.take.1 hli.1 ao len cap C hCl hCs hCk hlen h0 (hL.t _ (msk64 C)) (hL.none (msk64 C)) hK
      rw [h1] at HTK
      clear h hCs hσ h0 h1 hL hli
      go_enter Tryz.func30, Tryz.ntmps30
      go_wp2_with fail
      refine HLS.out.mono ?_
      rintro e w1 ⟨rfl, hf⟩
      obtain ⟨bs, q0, htk⟩ := HTK.out _ (H.out.quiet hf)
      have HTK1 : Hid (Calls _ _ _ _ _) := htk
      clear htk hf HTK H HLS
      go_wp2_with fail
      refine HTK1.out.mono ?_
      rintro e w2 ⟨rfl, hO⟩
      have H2 : Hid (Own w0 w2 _) := hO
      clear hO HTK1
      go_wp2_with fail
      refine (HPU.out _ H2.out).mono ?_
      rintro e w3 ⟨rfl, hO⟩
      have H3 : Hid (Own w0 w3 _) := hO
      clear hO
      go_wp2
      go_ret2
      rw [HV.out]
      exact ⟨rfl, H3.out⟩
    · have HV : Hid (σ.spawn C = (0, σ.S.take.2.1, σ)) := by show _ = _; unfold Sto.spawn; rw [if_neg (by simp [h0]), if_pos (by simp [h1])]
      have HS : Hid (σ.S.take.2.2 = σ.S ∧ σ.S.take.1 = 0) := by
        show _ ∧ _
        unfold St.take at h1 ⊢
        split at h1
        · exact absurd rfl h1
        · split at h1
          · exact absurd rfl h1
          · rename_i c; simp [c]
      rw [HS.out.2] at HTK
      clear h hCs hσ h0
      generalize σ.S.take.2.1 = r at *
      have h1' : (r == (0 : Int)) = false := by simpa using h1
      go_enter Tryz.func30, Tryz.ntmps30
      go_wp2_with fail
      refine HLS.out.mono ?_
      rintro e w1 ⟨rfl, hf⟩
      obtain ⟨bs, q0, htk⟩ := HTK.out _ (H.out.quiet hf)
      have HTK1 : Hid (Calls _ _ _ _ _) := htk
      clear htk hf HTK H HLS
      go_wp2_with fail
      refine HTK1.out.mono ?_
      rintro e w2 ⟨rfl, hO⟩
      have H2 : Hid (Own w0 w2 _) := hO
      clear hO HTK1
      go_wp2
      go_ret2
      rw [HV.out]
      have h3 := H2.out
      rw [HS.out.1] at h3
      exact ⟨rfl, h3.rstoK (Nat.le_succ K)⟩
  · have HV : Hid (σ.spawn C = (0, (lst (-1) C : Int), σ)) := by show _ = _; unfold Sto.spawn; rw [if_pos h0]
    generalize lst (-1) C = r at *
    have h1' : ((r : Int) != 0) = true := by simpa using h0
    clear h hCs hσ h0
    go_enter Tryz.func30, Tryz.ntmps30
    go_wp2_with fail
    refine HLS.out.mono ?_
    rintro e w1 ⟨rfl, hf⟩
    have H1 : Hid (Own w0 w1 _) := H.out.quiet hf
    clear hf H HLS
    go_wp2
    go_ret2
    rw [HV.out]
    exact ⟨rfl, H1.out.rstoK (Nat.le_succ K)⟩
/-- the row of one that there is -/
theorem RXok.row {σ : Sto} {x : RX} {K : Nat} (hx : RXok σ x K) (hσ : σ.Ok) {id : Nat} (hl : σ.S.isLive id = true) : ∃ r d, plc (σ.T (σ.hom id)) id = some r ∧ (x.E (σ.hom id))[r]? = some d ∧ d.1 = id ∧ (σ.T (σ.hom id))[r]? = some (id, d.2.1) := by
  obtain ⟨h6, hn, r, e, hr, he, hi⟩ := hσ.home hl
  have : ((x.E (σ.hom id)).map REnt.e)[r]? = some e := by rw [hx.E _ h6]; exact he
  rw [List.getElem?_map] at this
  cases hd : (x.E (σ.hom id))[r]? with
  | none => rw [hd] at this; simp at this
  | some d =>
    rw [hd] at this
    have hde : d.e = e := Option.some.inj this
    subst hde
    have h1 : d.1 = id := hi
    refine ⟨r, d, hr, hd, h1, ?_⟩
    rw [he, ← h1]; rfl
/-- Remove of the table that has one -/
theorem rdrop (h : Own w0 w (RSto b σ K :: l)) (hσ : σ.Ok) (hK : K ≤ 1000000) (id : Nat) (hl : σ.S.isLive id = true) (r : Nat) (C : List Cp) (hr : plc (σ.T (σ.hom id)) id = some r) (he : (σ.T (σ.hom id))[r]? = some (id, C)) :
    Calls Tryz.prog 133 #[.pointer (some ⟨b, 1 + σ.hom id * 2, none⟩), .int .u32 (id : Int)] w fun out w' => ∃ ao cap, out = .returned (.tuple #[.slice ao C.length cap, .int .i64 0]) ∧ Own w0 w' (RSto b (σ.out (σ.hom id) r) K :: l) := by
  obtain ⟨h6, _⟩ := hσ.home hl
  obtain ⟨x, hx, h'⟩ := RSto.opn h
  have h2 := RSX.out h' h6
  rw [hx.E _ h6] at h2
  refine (rtremC w0 w _ b _ _ _ _ h2 (hσ.t _ h6) (by have := hx.len _ h6; omega) id r (id, C) hr he).mono ?_
  rintro out w' ⟨ao, cap, rfl, h3⟩
  obtain ⟨v', E', hE, h4⟩ := RSX.into h6 h3.tail
  refine ⟨ao, cap, rfl, RSto.mk (σ := σ.out (σ.hom id) r) (hx.upd h6 hE ?_) h4⟩
  have h5 := hx.len _ h6
  have h7 := (List.getElem?_eq_some_iff.1 he).1
  rw [length_outr _ _ h7]; omega
set_option maxHeartbeats 2000000 in
theorem rdespawnC (h : Own w0 w (RSto b σ K :: l)) (hσ : σ.Ok) (id : Nat) (hid : id < 4294967296) (hK : K < 1000000) :
    Calls Tryz.prog 80 #[.pointer (some ⟨b, 0, none⟩), .int .u32 (id : Int)] w fun e w' => e = .returned (.int .i64 (σ.despawn id).1) ∧ Own w0 w' (RSto b (σ.despawn id).2 (K + 1) :: l) := by
  cases hl : σ.S.isLive id with
  | false =>
    have HV : Hid (σ.despawn id = (7, σ)) := by show _ = _; unfold Sto.despawn; rw [hl]; rfl
    obtain ⟨x, hx, h'⟩ := RSto.opn h
    have HE : Hid (Calls _ _ _ _ _) := rentNo w0 w l b σ x K h' hx hσ (by omega) id hl
    have HX : Hid (RXok σ x K) := hx
    clear h h' hσ hx hl
    go_enter Tryz.func80, Tryz.ntmps80
    go_wp2_with fail
    refine HE.out.mono ?_
    rintro e w1 ⟨rfl, hO⟩
    have H1 : Hid (Own w0 w1 _) := hO
    clear hO HE
    go_wp2
    go_ret
    rw [HV.out]
    exact ⟨rfl, (RSto.mk HX.out (H1.out.alloc _)).rstoK (Nat.le_succ K)⟩
  | true =>
    obtain ⟨x, hx, h'⟩ := RSto.opn h
    obtain ⟨r, d, hr, hd, hdi, he⟩ := hx.row hσ hl
    have HV : Hid (σ.despawn id = (0, { σ.out (σ.hom id) r with S := σ.S.less id })) := by show _ = _; unfold Sto.despawn; rw [hl, hr]; rfl
    have HE : Hid (Calls _ _ _ _ _) := rent w0 w l b σ x K h' hx hσ (by omega) id hl r hr d hd
    obtain ⟨hw, h6⟩ := whr_live hσ hl
    have HFD : Hid (∀ w' l', Own w0 w' (RSX b σ.S x :: l') → Calls Tryz.prog 134 #[.pointer (some ⟨b, 0, none⟩), .int .u32 (id : Int)] w' fun e w'' => e = .returned (.pointer (some ⟨b, 1 + σ.hom id * 2, none⟩)) ∧ Fr Nobody w' w'') := by
      intro w' l' h''
      have := rfind w0 w' l' b σ x K h'' hx hσ.t (by omega) id _ hw
      rw [if_pos h6] at this
      exact this
    have HDR : Hid (∀ w', Own w0 w' (RSX b σ.S x :: l) → Calls Tryz.prog 133 #[.pointer (some ⟨b, 1 + σ.hom id * 2, none⟩), .int .u32 (id : Int)] w' fun out w'' => ∃ ao cap, out = .returned (.tuple #[.slice ao d.2.1.length cap, .int .i64 0]) ∧ Own w0 w'' (RSto b (σ.out (σ.hom id) r) K :: l)) := fun w' h'' => rdrop w0 w' l b σ K (RSto.mk hx h'') hσ (by omega) id hl r _ hr he
    have HFR : Hid (∀ w', Own w0 w' (RSto b (σ.out (σ.hom id) r) K :: l) → ∃ bs, w'.cell? ⟨b, 0, none⟩ = some (.pointer (some ⟨bs, 0, none⟩)) ∧ Calls Tryz.prog 135 #[.pointer (some ⟨bs, 0, none⟩), .int .u32 (id : Int)] w' fun e w'' => e = .returned (.int .i64 0) ∧ Own w0 w'' (RSto b { σ.out (σ.hom id) r with S := σ.S.less id } (K + 1) :: l)) := by
      intro w' h''
      obtain ⟨y, hy, h''⟩ := RSto.opn h''
      have hfr : σ.S.free id = (0, σ.S.less id) := (St.free_live hσ.s hl).1
      refine ⟨y.bs, RSX.ids w0 w' l b _ y h'', (rfree_ok w0 w' _ y.bs σ.S y.f y.ck id (RSX.iff.1 h'').two hσ.s hy.st hid (by have := hy.ck; omega)).mono ?_⟩
      rintro e w'' ⟨rfl, f', ck', hck', hst, h2⟩
      rw [hfr] at hst h2 ⊢
      refine ⟨rfl, RSto.mk (σ := { σ.out (σ.hom id) r with S := σ.S.less id }) (x := { y with f := f', ck := ck' }) ⟨hst, by have := hy.ck; simp only; omega, hy.E, fun m hm => by have := hy.len m hm; exact Nat.le_succ_of_le this⟩ (RSX.iff.2 h2.two)⟩
    clear h h' hσ hx hl hr hd he hw h6
    generalize σ.hom id = m at *
    obtain ⟨d1, d2, d3, d4⟩ := d
    simp only at HE HDR hdi
    subst hdi
    generalize d2.length = dl at *
    go_enter Tryz.func80, Tryz.ntmps80
    go_wp2_with fail
    refine HE.out.mono ?_
    rintro e w1 ⟨rfl, hO⟩
    have H1 : Hid (Own w0 (w1.alloc (.cells #[.int .u32 (d1 : Int), .slice d3 dl d4] 67)) _) := hO.alloc _
    clear hO HE
    go_wp2_with fail
    refine (HFD.out _ _ H1.out).mono ?_
    rintro e w2 ⟨rfl, hf⟩
    have H2 : Hid (Own w0 w2 _) := H1.out.quiet hf
    clear hf H1 HFD
    go_wp2_with fail
    refine (HDR.out _ H2.out).mono ?_
    rintro e w3 ⟨ao, cap, rfl, hO⟩
    obtain ⟨bs, q0, hfr⟩ := HFR.out _ hO
    have HFR1 : Hid (Calls _ _ _ _ _) := hfr
    clear hfr hO HDR H2 HFR
    go_wp2_with fail
    refine HFR1.out.mono ?_
    rintro e w4 ⟨rfl, hO⟩
    have H4 : Hid (Own w0 w4 _) := hO
    clear hO
    go_wp2
    go_ret
    rw [HV.out]
    exact ⟨rfl, H4.out⟩
end
end Go.Proofs.YtflmgilmbppieaaGreatDoor

/-
  The document's store: Get, Set, turn, Add, Remove.
-/
namespace Go.Proofs.YtflmgilmbppieaaGreatDoor
open Go.RowKit Go.Maps
set_option linter.unusedVariables false
set_option maxRecDepth 100000

def Sto.get (σ : Sto) (id k : Nat) : Nat × Cp := if σ.S.isLive id then tget (σ.hom id) (σ.T (σ.hom id)) id k else (7, ⟨0, 0, 0, 0⟩)
theorem insc_insw {C : List Cp} {c : Cp} (h : hasK C c.k = false) : insc C c = insw C c := by
  unfold insc insw
  congr 2
  refine List.filter_eq_self.2 (fun q hq => ?_)
  have hm : q ∈ C := (List.dropWhile_suffix _).subset hq
  simp only [ne_eq, decide_not, Bool.not_eq_eq_eq_not, Bool.not_true, decide_eq_false_iff_not]
  intro he
  have : hasK C c.k = true := (hasK_iff C c.k).2 ⟨q, hm, he⟩
  rw [h] at this; cases this
theorem hasK_hom {σ : Sto} {id r : Nat} {C : List Cp} (hσ : σ.Ok) (hl : σ.S.isLive id = true) (he : (σ.T (σ.hom id))[r]? = some (id, C)) (k : Nat) : bt (σ.hom id) k = hasK C k := by
  obtain ⟨h6, _⟩ := hσ.home hl
  obtain ⟨h1, h2⟩ := (hσ.t _ h6).ok _ (List.mem_of_getElem? he)
  simp only at h1 h2
  by_cases hk : k < 6
  · rw [← h2]; exact bt_msk C k hk
  · cases hb : bt (σ.hom id) k with
    | true => exact (hasK_bt h2 h6 hb).symm
    | false =>
      cases hh : hasK C k with
      | false => rfl
      | true =>
        obtain ⟨q, hq, hqk⟩ := (hasK_iff C k).1 hh
        have := chk_k ((lst_ok h1).2 q hq).2
        omega
theorem Sto.get_code {σ : Sto} {id : Nat} (hσ : σ.Ok) (k : Nat) : (σ.get id k).1 = if σ.S.isLive id = false then 7 else if hasK (σ.cps id) k = false then 10 else 0 := by
  unfold Sto.get
  cases hl : σ.S.isLive id with
  | false => rfl
  | true =>
    obtain ⟨r, C, hr, he, _⟩ := hσ.ent hl
    simp only [if_true, Bool.true_eq_false, if_false]
    rw [Sto.cps_of hr he, ← hasK_hom hσ hl he]
    unfold tget
    rw [hr]
    simp only
    cases bt (σ.hom id) k <;> simp
theorem Sto.get_bad {σ : Sto} {id : Nat} (hσ : σ.Ok) (k : Nat) (h : (σ.get id k).1 ≠ 0) : (σ.get id k).2 = ⟨0, 0, 0, 0⟩ := by
  unfold Sto.get at h ⊢
  split at h
  · rename_i hl
    rw [if_pos hl]
    unfold tget at h ⊢
    split at h
    · rfl
    · rename_i r hp
      split at h
      · exact absurd rfl h
      · rename_i hb; rw [if_neg hb]
  · rename_i hl
    rw [if_neg hl]

section
variable (w0 w : World) (l : List Thing) (b : Nat) (σ : Sto) (K : Nat)
theorem rfindS (h : Own w0 w (RSto b σ K :: l)) (hσ : σ.Ok) (hK : K ≤ 1000000) (id : Nat) (hl : σ.S.isLive id = true) :
    Calls Tryz.prog 134 #[.pointer (some ⟨b, 0, none⟩), .int .u32 (id : Int)] w fun e w' => e = .returned (.pointer (some ⟨b, 1 + σ.hom id * 2, none⟩)) ∧ Fr Nobody w w' := by
  obtain ⟨x, hx, h'⟩ := RSto.opn h
  obtain ⟨hw, h6⟩ := whr_live hσ hl
  have := rfind w0 w l b σ x K h' hx hσ.t hK id _ hw
  rw [if_pos h6] at this
  exact this
set_option maxHeartbeats 4000000 in
theorem rgetS (h : Own w0 w (RSto b σ K :: l)) (hσ : σ.Ok) (hK : K ≤ 1000000) (id : Nat) (k : Nat) (hk : k < 256) :
    Calls Tryz.prog 136 #[.pointer (some ⟨b, 0, none⟩), .int .u32 (id : Int), .int .u8 (k : Int)] w fun e w' => e = .returned (.tuple #[(σ.get id k).2.ag, .int .i64 ((σ.get id k).1 : Int)]) ∧ Own w0 w' (RSto b σ K :: l) := by
  obtain ⟨x, hx, h⟩ := RSto.opn h
  have HX : Hid (RXok σ x K) := hx
  have hA := (h.allocC #[.int .u8 0, .int .i32 0, .int .i32 0, .int .i32 0] 46).two
  cases hl : σ.S.isLive id with
  | false =>
    have HV : Hid (σ.get id k = (7, ⟨0, 0, 0, 0⟩)) := by show _ = _; unfold Sto.get; rw [hl]; rfl
    have HE : Hid (Calls _ _ _ _ _) := rentNo w0 _ _ b σ x K hA hx hσ (by omega) id hl
    clear h hA hσ hl hx
    go_enter Tryz.func136, Tryz.ntmps136
    go_wp2_with fail
    refine HE.out.mono ?_
    rintro e w1 ⟨rfl, hO⟩
    have hB := (hO.alloc (.cells #[.int .u32 0, .slice none 0 0] 67)).two
    have z0 := hB.cell 0
    have z1 := hB.cell 1
    have z2 := hB.cell 2
    have z3 := hB.cell 3
    simp at z0 z1 z2 z3
    have y0 := hB.froz 0
    have y1 := hB.froz 1
    have y2 := hB.froz 2
    have y3 := hB.froz 3
    have hne1 : w1.heap.size ≠ w.heap.size := by have := hO.two.lt; omega
    have hne2 : w.heap.size ≠ w1.heap.size := fun q => hne1 q.symm
    have HF : Hid (Own w0 _ _) := (((hB.setC 0 (.int .u8 0)).setC 1 (.int .i32 0)).setC 2 (.int .i32 0)).setC 3 (.int .i32 0)
    clear hO hB HE
    go_wp2
    (try simp only [Exit.inBlock, Exit.then])
    refine bodyPost_ret (v := .tuple #[.agg #[.int .u8 0, .int .i32 0, .int .i32 0, .int .i32 0], .int .i64 7]) ?_ rfl ⟨by rw [HV.out]; rfl, RSto.mk HX.out HF.out.tail⟩
    rw [results_cell_tmp rfl]
    have r0 := HF.out.cell 0
    have r1 := HF.out.cell 1
    have r2 := HF.out.cell 2
    have r3 := HF.out.cell 3
    simp at r0 r1 r2 r3
    go_simp
  | true =>
    obtain ⟨r, d, hr, hd, hdi, he⟩ := hx.row hσ hl
    obtain ⟨h6, _⟩ := hσ.home hl
    have hT := hσ.t _ h6
    have HE : Hid (Calls _ _ _ _ _) := rent w0 _ _ b σ x K hA hx hσ (by omega) id hl r hr d hd
    have hgt : ∀ kk, σ.get id kk = tget (σ.hom id) (σ.T (σ.hom id)) id kk := fun kk => by unfold Sto.get; rw [hl]; rfl
    have HG : Hid (∀ i q, d.2.1[i]? = some q → ∀ kk, q.k = kk → σ.get id kk = (0, q)) := fun i q hq kk hk => by rw [hgt]; exact tget_has hT hr he hq hk
    have HG2 : Hid (hasK d.2.1 k = false → σ.get id k = (10, ⟨0, 0, 0, 0⟩)) := fun h => by rw [hgt]; exact tget_not hT hr he h
    have hCk : ∀ q ∈ d.2.1, q.k < 256 := fun q hq => by have := chk_k ((lst_ok (hT.ok _ (List.mem_of_getElem? he)).1).2 q hq).2; omega
    have hC6 : d.2.1.length ≤ 6 := hT.c6 he
    have HCS : Hid (∀ w' l', Own w0 w' (RSX b σ.S x :: l') → Cs w' d.2.2.1 d.2.1) := fun w' l' h' => by obtain ⟨_, _, _, _, _, _, hc⟩ := RSX.ent w0 w' l' b σ x h' _ r h6 d hd; exact hc
    clear h hA hσ hl hx hr hd hdi he h6 hT hgt
    obtain ⟨d1, d2, d3, d4⟩ := d
    simp only at HE HG HG2 hCk hC6 HCS
    generalize hdl : d2.length = dl at *
    go_enter Tryz.func136, Tryz.ntmps136
    go_wp2_with fail
    refine HE.out.mono ?_
    rintro e w1 ⟨rfl, hO⟩
    have hB := (hO.allocC #[.int .u32 (d1 : Int), .slice d3 dl d4] 67)
    have e1 := hB.cell 1
    simp at e1
    have hcs := HCS.out _ _ hB.two
    have HFD : Hid (Calls _ _ _ _ _) := find_any _ d3 dl d4 d2 hdl hcs hCk (by omega) k hk
    have hne1 : w1.heap.size ≠ w.heap.size := by have := hO.two.lt; omega
    have hne2 : w.heap.size ≠ w1.heap.size := fun q => hne1 q.symm
    have HB : Hid (Own w0 _ (Cells w1.heap.size #[.int .u32 (d1 : Int), .slice d3 dl d4] 67 :: RSX b σ.S x :: Cells w.heap.size #[.int .u8 0, .int .i32 0, .int .i32 0, .int .i32 0] 46 :: l)) := hB
    clear hO hB HE hcs
    go_wp2_with fail
    refine HFD.out.mono ?_
    rintro e w2 ⟨r2, rfl, hf2, hcase⟩
    have hO := HB.out.quiet hf2
    have HC2 : Hid (Cs w2 d3 d2) := HCS.out _ _ hO.two
    have f1 := hO.cell 1
    simp at f1
    have hD := hO.three
    have z0 := hD.cell 0
    have z1 := hD.cell 1
    have z2 := hD.cell 2
    have z3 := hD.cell 3
    simp at z0 z1 z2 z3
    have y0 := hD.froz 0
    have y1 := hD.froz 1
    have y2 := hD.froz 2
    have y3 := hD.froz 3
    have H2 : Hid (Own w0 w2 _) := hD
    clear hf2 hO hD HFD HB e1
    rcases hcase with ⟨rfl, hno⟩ | ⟨i, rfl, q, hq, hqk, _⟩
    · have HV : Hid (σ.get id k = (10, ⟨0, 0, 0, 0⟩)) := HG2.out hno
      have HF : Hid (Own w0 _ _) := (((H2.out.setC 0 (.int .u8 0)).setC 1 (.int .i32 0)).setC 2 (.int .i32 0)).setC 3 (.int .i32 0)
      clear hno
      go_wp2
      (try simp only [Exit.inBlock, Exit.then])
      refine bodyPost_ret (v := .tuple #[.agg #[.int .u8 0, .int .i32 0, .int .i32 0, .int .i32 0], .int .i64 10]) ?_ rfl ⟨by rw [HV.out]; rfl, RSto.mk HX.out HF.out.tail.tail⟩
      rw [results_cell_tmp rfl]
      have r0 := HF.out.cell 0
      have r1 := HF.out.cell 1
      have r2 := HF.out.cell 2
      have r3 := HF.out.cell 3
      simp at r0 r1 r2 r3
      go_simp
    · have HV : Hid (σ.get id k = (0, q)) := HG.out i q hq k hqk
      obtain ⟨gc, oc, hac, _, x0, x1, x2, x3⟩ := HC2.out.at i q hq
      subst hac
      have hic : i < dl := by rw [← hdl]; exact (List.getElem?_eq_some_iff.1 hq).1
      have hic' : (i : Int) < (dl : Int) := by omega
      have hi0 : ¬ (i : Int) < 0 := by omega
      clear hq hdl
      obtain ⟨qk, qa, qb, qc⟩ := q
      simp only at x0 x1 x2 x3
      have HF : Hid (Own w0 _ _) := (((H2.out.setC 0 (.int .u8 (qk : Int))).setC 1 (.int .i32 qa)).setC 2 (.int .i32 qb)).setC 3 (.int .i32 qc)
      clear hqk
      go_wp2
      (try simp only [Exit.inBlock, Exit.then])
      refine bodyPost_ret (v := .tuple #[.agg #[.int .u8 (qk : Int), .int .i32 qa, .int .i32 qb, .int .i32 qc], .int .i64 0]) ?_ rfl ⟨by rw [HV.out]; rfl, RSto.mk HX.out HF.out.tail.tail⟩
      rw [results_cell_tmp rfl]
      have r0 := HF.out.cell 0
      have r1 := HF.out.cell 1
      have r2 := HF.out.cell 2
      have r3 := HF.out.cell 3
      simp at r0 r1 r2 r3
      go_simp
set_option maxHeartbeats 4000000 in
theorem rsetS (h : Own w0 w (RSto b σ K :: l)) (hσ : σ.Ok) (id : Nat) (hid : id < 4294967296) (q : Cp) (hk : q.k < 256) (hK : K < 1000000) :
    Calls Tryz.prog 81 #[.pointer (some ⟨b, 0, none⟩), .int .u32 (id : Int), q.ag] w fun e w' => e = .returned (.int .i64 (σ.set id q).1) ∧ Own w0 w' (RSto b (σ.set id q).2 K :: l) := by
  have hA := h.allocC #[.int .u8 (q.k : Int), .int .i32 q.a, .int .i32 q.b, .int .i32 q.c] 46
  have z0 := hA.cell 0
  have z1 := hA.cell 1
  have z2 := hA.cell 2
  have z3 := hA.cell 3
  simp at z0 z1 z2 z3
  have HC : Hid (Calls _ _ _ _ _) := rcheck3 (w.alloc (.cells #[.int .u8 (q.k : Int), .int .i32 q.a, .int .i32 q.b, .int .i32 q.c] 46)) q.k hk q.a q.b q.c
  have HA : Hid (Own w0 _ (Cells w.heap.size #[.int .u8 (q.k : Int), .int .i32 q.a, .int .i32 q.b, .int .i32 q.c] 46 :: RSto b σ K :: l)) := hA
  have HQ : Hid (q.chk = chk q.k (f3 q.a q.b q.c)) := rfl
  clear h hA
  unfold Cp.ag
  obtain ⟨x, hx⟩ : ∃ x, q.chk = x := ⟨_, rfl⟩
  rw [← HQ.out, hx] at HC
  by_cases hx0 : x = 0
  · subst hx0
    have HGT : Hid (∀ w', Own w0 w' (RSto b σ K :: Cells w.heap.size #[.int .u8 (q.k : Int), .int .i32 q.a, .int .i32 q.b, .int .i32 q.c] 46 :: l) → Calls Tryz.prog 136 #[.pointer (some ⟨b, 0, none⟩), .int .u32 (id : Int), .int .u8 (q.k : Int)] w' fun e w'' => e = .returned (.tuple #[(σ.get id q.k).2.ag, .int .i64 ((σ.get id q.k).1 : Int)]) ∧ Own w0 w'' (RSto b σ K :: Cells w.heap.size #[.int .u8 (q.k : Int), .int .i32 q.a, .int .i32 q.b, .int .i32 q.c] 46 :: l)) := fun w' h' => rgetS w0 w' _ b σ K h' hσ (by omega) id q.k hk
    have hcode := Sto.get_code (id := id) hσ q.k
    obtain ⟨⟨cd, y⟩, hy⟩ : ∃ p, σ.get id q.k = p := ⟨_, rfl⟩
    rw [hy] at hcode HGT
    simp only at hcode HGT
    by_cases hcd : cd = 0
    · subst hcd
      have hl : σ.S.isLive id = true := by
        cases hl : σ.S.isLive id with
        | true => rfl
        | false => rw [hl] at hcode; simp at hcode
      have hh : hasK (σ.cps id) q.k = true := by
        cases hh : hasK (σ.cps id) q.k with
        | true => rfl
        | false => rw [hl, hh] at hcode; simp at hcode
      obtain ⟨r, C, hr, he, hlC, _, h6⟩ := hσ.ent hl
      have HV : Hid (σ.set id q = (0, { σ with T := upd σ.T (σ.hom id) ((σ.T (σ.hom id)).set r (id, setc C q)) })) := by
        show _ = _
        unfold Sto.set
        rw [if_neg (by simp [hx]), if_neg (by simp [hl]), if_neg (by simp [hh]), hr, Sto.cps_of hr he]
        rfl
      rw [Sto.cps_of hr he] at hh
      have htset : tset (σ.hom id) (σ.T (σ.hom id)) id q = (0, (σ.T (σ.hom id)).set r (id, setc C q)) := by
        unfold tset
        rw [if_neg (by simp [hx]), hr]
        simp only
        rw [if_pos (by rw [hasK_hom hσ hl he]; exact hh), he]
        rfl
      have HFD : Hid (∀ w' l', Own w0 w' (RSto b σ K :: l') → Calls Tryz.prog 134 #[.pointer (some ⟨b, 0, none⟩), .int .u32 (id : Int)] w' fun e w'' => e = .returned (.pointer (some ⟨b, 1 + σ.hom id * 2, none⟩)) ∧ Fr Nobody w' w'') := fun w' l' h' => rfindS w0 w' l' b σ K h' hσ (by omega) id hl
      have HST : Hid (∀ w' l', Own w0 w' (RSto b σ K :: l') → Calls Tryz.prog 137 #[.pointer (some ⟨b, 1 + σ.hom id * 2, none⟩), .int .u32 (id : Int), q.ag] w' fun e w'' => e = .returned (.int .i64 0) ∧ Own w0 w'' (RSto b (σ.set id q).2 K :: l')) := by
        intro w' l' h'
        obtain ⟨x, hx', h'⟩ := RSto.opn h'
        have h2 := RSX.out h' h6
        rw [hx'.E _ h6] at h2
        refine (rtsetC w0 w' _ b _ _ _ _ h2 (hσ.t _ h6) id hid q hk (by have := hx'.len _ h6; omega)).mono ?_
        rintro e w'' ⟨rfl, h3⟩
        rw [htset] at h3 ⊢
        obtain ⟨v', E', hE, h4⟩ := RSX.into h6 h3
        rw [HV.out]
        refine ⟨rfl, RSto.mk (σ := { σ with T := upd σ.T (σ.hom id) ((σ.T (σ.hom id)).set r (id, setc C q)) }) (hx'.upd h6 hE ?_) h4⟩
        rw [List.length_set]; exact hx'.len _ h6
      clear hx HQ hy hr he hl hh htset hσ hlC h6 hcode
      generalize σ.hom id = m at *
      obtain ⟨qk, qa, qb, qc⟩ := q
      obtain ⟨yk, ya, yb, yc⟩ := y
      simp only [Cp.ag] at z0 z1 z2 z3 HC HGT HA hk HST ⊢
      go_enter Tryz.func81, Tryz.ntmps81
      go_wp2_with fail
      refine HC.out.mono ?_
      rintro e w1 ⟨rfl, hf⟩
      have H1 : Hid (Own w0 w1 _) := HA.out.quiet hf
      have y0 := (HA.out.quiet hf).cell 0
      simp at y0
      clear hf HC z0 z1 z2 z3 HA
      go_wp2_with fail
      refine (HGT.out _ H1.out.two).mono ?_
      rintro e w2 ⟨rfl, hO2⟩
      have hO3 := (hO2.alloc (.cells #[.int .u8 (yk : Int), .int .i32 ya, .int .i32 yb, .int .i32 yc] 46)).drew
      have u0 := hO3.two.cell 0
      have u1 := hO3.two.cell 1
      have u2 := hO3.two.cell 2
      have u3 := hO3.two.cell 3
      simp at u0 u1 u2 u3
      have H2 : Hid (Own w0 _ (RSto b σ K :: Cells w.heap.size #[.int .u8 (qk : Int), .int .i32 qa, .int .i32 qb, .int .i32 qc] 46 :: l)) := hO3
      clear hO2 hO3 H1 y0 HGT
      go_wp2_with fail
      go_region_with (first
        | (go_at_call 134
           refine (HFD.out _ _ H2.out).mono ?_
           rintro e w3 ⟨rfl, hf3⟩
           have hO3 := H2.out.quiet hf3
           have v0 := hO3.two.cell 0
           have v1 := hO3.two.cell 1
           have v2 := hO3.two.cell 2
           have v3 := hO3.two.cell 3
           simp at v0 v1 v2 v3
           have H3 : Hid (Own w0 w3 _) := hO3
           clear hO3 hf3)
        | (go_at_call 137
           refine (HST.out _ _ H3.out).mono ?_
           rintro e w4 ⟨rfl, hO4⟩
           have H4 : Hid (Own w0 w4 _) := hO4
           clear hO4))
      all_goals
        go_wp2
        go_ret
        rw [HV.out] at H4 ⊢
        exact ⟨rfl, H4.out.two.tail⟩
    · have hy0 : y = ⟨0, 0, 0, 0⟩ := by
        have := Sto.get_bad (id := id) hσ q.k (by rw [hy]; exact hcd)
        rw [hy] at this; exact this
      subst hy0
      have HV : Hid (σ.set id q = ((cd : Int), σ)) := by
        show _ = _
        unfold Sto.set
        rw [if_neg (by simp [hx])]
        split at hcode
        · rename_i hl; rw [if_pos hl, hcode]; rfl
        · rename_i hl
          rw [if_neg hl]
          split at hcode
          · rename_i hh; rw [if_pos hh, hcode]; rfl
          · exact absurd hcode hcd
      have hcd0 : ((cd : Int) != 0) = true := by rw [bne_iff_ne]; omega
      clear hx HQ hy hcode hσ
      obtain ⟨qk, qa, qb, qc⟩ := q
      simp only [Cp.ag] at z0 z1 z2 z3 HC HGT HA hk ⊢
      go_enter Tryz.func81, Tryz.ntmps81
      go_wp2_with fail
      refine HC.out.mono ?_
      rintro e w1 ⟨rfl, hf⟩
      have H1 : Hid (Own w0 w1 _) := HA.out.quiet hf
      have y0 := (HA.out.quiet hf).cell 0
      simp at y0
      clear hf HC z0 z1 z2 z3
      go_wp2_with fail
      refine (HGT.out _ H1.out.two).mono ?_
      rintro e w2 ⟨rfl, hO2⟩
      have H2 : Hid (Own w0 w2 _) := hO2
      clear hO2 H1 y0 HGT
      go_wp2
      go_ret
      rw [HV.out]
      exact ⟨rfl, (H2.out.two.tail).alloc _⟩
  · have HV : Hid (σ.set id q = ((x : Int), σ)) := by show _ = _; unfold Sto.set; rw [if_pos (by rw [hx]; exact hx0), hx]
    have hx1 : ((x : Int) != 0) = true := by simpa using hx0
    clear hx HQ hσ
    obtain ⟨qk, qa, qb, qc⟩ := q
    simp only at z0 z1 z2 z3 HC HA hk ⊢
    go_enter Tryz.func81, Tryz.ntmps81
    go_wp2_with fail
    refine HC.out.mono ?_
    rintro e w1 ⟨rfl, hf⟩
    have H1 : Hid (Own w0 w1 _) := HA.out.quiet hf
    clear hf HC z0 z1 z2 z3
    go_wp2
    go_ret
    rw [HV.out]
    exact ⟨rfl, H1.out.tail⟩
end
end Go.Proofs.YtflmgilmbppieaaGreatDoor

/-
  The document's store: turn, Add, Remove.
-/
namespace Go.Proofs.YtflmgilmbppieaaGreatDoor
open Go.RowKit Go.Maps
set_option linter.unusedVariables false
set_option maxRecDepth 100000

section
variable (w0 w : World) (l : List Thing) (b : Nat) (σ : Sto) (K : Nat)
set_option maxHeartbeats 2000000 in
theorem rturn (h : Own w0 w (RSto b σ K :: l)) (hσ : σ.Ok) (id : Nat) (hid : id < 4294967296) (hl : σ.S.isLive id = true) (ao : Option Addr) (len cap : Nat) (C : List Cp) (hCl : C.length = len) (hCs : ∀ w', Own w0 w' l → Cs w' ao C) (h0 : lst (-1) C = 0) (hlen : len ≤ 1000000) (hK : K < 1000000) :
    Calls Tryz.prog 138 #[.pointer (some ⟨b, 0, none⟩), .int .u32 (id : Int), .slice ao len cap] w fun e w' => e = .returned (.tuple #[]) ∧ Own w0 w' (RSto b (σ.turn id C) (K + 1) :: l) := by
  obtain ⟨r, D, hr, he, _, _, h6⟩ := hσ.ent hl
  have HV : Hid (σ.turn id C = (σ.out (σ.hom id) r).put id C) := by show _ = _; unfold Sto.turn; rw [hr]; rfl
  have HFD : Hid (Calls _ _ _ _ _) := rfindS w0 w l b σ K h hσ (by omega) id hl
  have HDR : Hid (∀ w', Own w0 w' (RSto b σ K :: l) → Calls Tryz.prog 133 #[.pointer (some ⟨b, 1 + σ.hom id * 2, none⟩), .int .u32 (id : Int)] w' fun out w'' => ∃ ao cap, out = .returned (.tuple #[.slice ao D.length cap, .int .i64 0]) ∧ Own w0 w'' (RSto b (σ.out (σ.hom id) r) K :: l)) := fun w' h'' => rdrop w0 w' l b σ K h'' hσ (by omega) id hl r D hr he
  have hL := hσ.out hl hr
  have hCk : ∀ q ∈ C, q.k < 256 := fun q hq => by have := chk_k ((lst_ok h0).2 q hq).2; omega
  have HPU : Hid (∀ w', Own w0 w' (RSto b (σ.out (σ.hom id) r) K :: l) → Calls Tryz.prog 79 #[.pointer (some ⟨b, 0, none⟩), .int .u32 (id : Int), .slice ao len cap] w' fun e w'' => e = .returned (.tuple #[]) ∧ Own w0 w'' (RSto b ((σ.out (σ.hom id) r).put id C) (K + 1) :: l)) := fun w' h' => rputS w0 w' l b _ K h' id hid ao len cap C hCl hCs hCk hlen h0 (hL.t _ (msk64 C)) (hL.none (msk64 C)) hK
  have H : Hid (Own w0 w _) := h
  clear h hσ hl hr he h6 hL hCk hCs
  generalize σ.hom id = m at *
  generalize D.length = dl at *
  go_enter Tryz.func138, Tryz.ntmps138
  go_wp2_with fail
  refine HFD.out.mono ?_
  rintro e w1 ⟨rfl, hf⟩
  have H1 : Hid (Own w0 w1 _) := H.out.quiet hf
  clear hf HFD H
  go_wp2_with fail
  refine (HDR.out _ H1.out).mono ?_
  rintro e w2 ⟨a2, c2, rfl, hO⟩
  have H2 : Hid (Own w0 w2 _) := hO
  clear hO H1 HDR
  go_wp2_with fail
  refine (HPU.out _ H2.out).mono ?_
  rintro e w3 ⟨rfl, hO⟩
  have H3 : Hid (Own w0 w3 _) := hO
  clear hO
  go_wp2
  go_end0
  rw [HV.out]
  exact ⟨rfl, H3.out⟩
set_option maxHeartbeats 4000000 in
theorem raddS (h : Own w0 w (RSto b σ K :: l)) (hσ : σ.Ok) (id : Nat) (hid : id < 4294967296) (q : Cp) (hk : q.k < 256) (hK : K < 1000000) :
    Calls Tryz.prog 82 #[.pointer (some ⟨b, 0, none⟩), .int .u32 (id : Int), q.ag] w fun e w' => e = .returned (.int .i64 (σ.add id q).1) ∧ Own w0 w' (RSto b (σ.add id q).2 (K + 1) :: l) := by
  have hA := h.allocC #[.int .u8 (q.k : Int), .int .i32 q.a, .int .i32 q.b, .int .i32 q.c] 46
  have z0 := hA.cell 0
  have z1 := hA.cell 1
  have z2 := hA.cell 2
  have z3 := hA.cell 3
  simp at z0 z1 z2 z3
  have HC : Hid (Calls _ _ _ _ _) := rcheck3 (w.alloc (.cells #[.int .u8 (q.k : Int), .int .i32 q.a, .int .i32 q.b, .int .i32 q.c] 46)) q.k hk q.a q.b q.c
  have HA : Hid (Own w0 _ (Cells w.heap.size #[.int .u8 (q.k : Int), .int .i32 q.a, .int .i32 q.b, .int .i32 q.c] 46 :: RSto b σ K :: l)) := hA
  have HQ : Hid (q.chk = chk q.k (f3 q.a q.b q.c)) := rfl
  clear h hA
  unfold Cp.ag
  obtain ⟨x, hx⟩ : ∃ x, q.chk = x := ⟨_, rfl⟩
  rw [← HQ.out, hx] at HC
  by_cases hx0 : x = 0
  · subst hx0
    cases hl : σ.S.isLive id with
    | false =>
      have HV : Hid (σ.add id q = (7, σ)) := by show _ = _; unfold Sto.add; rw [if_neg (by simp [hx]), if_pos hl]
      have HE : Hid (∀ w' l', Own w0 w' (RSto b σ K :: l') → Calls Tryz.prog 121 #[.pointer (some ⟨b, 0, none⟩), .int .u32 (id : Int)] w' fun e w'' => e = .returned (.tuple #[.agg #[.int .u32 0, .slice none 0 0], .int .i64 7]) ∧ Own w0 w'' (RSto b σ K :: l')) := by
        intro w' l' h'
        obtain ⟨x, hx', h'⟩ := RSto.opn h'
        refine (rentNo w0 w' l' b σ x K h' hx' hσ (by omega) id hl).mono ?_
        rintro e w'' ⟨rfl, h2⟩
        exact ⟨rfl, RSto.mk hx' h2⟩
      clear hx HQ hσ hl
      obtain ⟨qk, qa, qb, qc⟩ := q
      simp only at z0 z1 z2 z3 HC HA hk ⊢
      go_enter Tryz.func82, Tryz.ntmps82
      go_wp2_with fail
      refine HC.out.mono ?_
      rintro e w1 ⟨rfl, hf⟩
      have H1 : Hid (Own w0 w1 _) := HA.out.quiet hf
      clear hf HC z0 z1 z2 z3
      go_wp2_with fail
      refine (HE.out _ _ H1.out.two).mono ?_
      rintro e w2 ⟨rfl, hO2⟩
      have H2 : Hid (Own w0 w2 _) := hO2
      clear hO2 H1 HE
      go_wp2
      go_ret
      rw [HV.out]
      exact ⟨rfl, ((H2.out.two.tail).alloc _).rstoK (Nat.le_succ K)⟩
    | true =>
      obtain ⟨r, C, hr, he, hlC, _, h6⟩ := hσ.ent hl
      have hcps := Sto.cps_of hr he
      have hC6 : C.length ≤ 6 := (hσ.t _ h6).c6 he
      have hCk : ∀ q ∈ C, q.k < 256 := fun q hq => by have := chk_k ((lst_ok hlC).2 q hq).2; omega
      have HE : Hid (∀ w' l', Own w0 w' (RSto b σ K :: l') → Calls Tryz.prog 121 #[.pointer (some ⟨b, 0, none⟩), .int .u32 (id : Int)] w' fun e w'' => ∃ y ae ce, RXok σ y K ∧ (∀ w3 l3, Own w0 w3 (RSX b σ.S y :: l3) → Cs w3 ae C) ∧ e = .returned (.tuple #[.agg #[.int .u32 (id : Int), .slice ae C.length ce], .int .i64 0]) ∧ Own w0 w'' (RSX b σ.S y :: l')) := by
        intro w' l' h'
        obtain ⟨y, hy, h'⟩ := RSto.opn h'
        obtain ⟨r', d, hr', hd, hdi, he'⟩ := hy.row hσ hl
        have hrr : r' = r := Option.some.inj (hr'.symm.trans hr)
        subst hrr
        have hCC : d.2.1 = C := by rw [he] at he'; exact (Prod.mk.inj (Option.some.inj he')).2.symm
        refine (rent w0 w' l' b σ y K h' hy hσ (by omega) id hl r' hr d hd).mono ?_
        rintro e w'' ⟨rfl, h2⟩
        refine ⟨y, d.2.2.1, d.2.2.2, hy, fun w3 l3 h3 => ?_, by rw [hdi, hCC], h2⟩
        obtain ⟨_, _, _, _, _, _, hc⟩ := RSX.ent w0 w3 l3 b σ y h3 _ r' h6 d hd
        rw [hCC] at hc
        exact hc
      cases hh : hasK C q.k with
      | true =>
        have HV : Hid (σ.add id q = (9, σ)) := by show _ = _; unfold Sto.add; rw [if_neg (by simp [hx]), if_neg (by simp [hl]), hcps, if_pos hh]
        have HHK : Hid (hasK C q.k = true) := hh
        clear hx HQ hσ hl hr he hlC h6 hcps hh
        obtain ⟨qk, qa, qb, qc⟩ := q
        simp only at z0 z1 z2 z3 HC HA hk HHK ⊢
        generalize hcl : C.length = cl at *
        go_enter Tryz.func82, Tryz.ntmps82
        go_wp2_with fail
        refine HC.out.mono ?_
        rintro e w1 ⟨rfl, hf⟩
        have H1 : Hid (Own w0 w1 _) := HA.out.quiet hf
        clear hf HC z0 z1 z2 z3
        go_wp2_with fail
        refine (HE.out _ _ H1.out.two).mono ?_
        rintro e w2 ⟨y, ae, ce, hy, hcs, rfl, hO2⟩
        have hO3 := hO2.allocC #[.int .u32 (id : Int), .slice ae cl ce] 67
        have e1 := hO3.cell 1
        have f0 := hO3.three.cell 0
        simp at e1 f0
        have HFN : Hid (Calls _ _ _ _ _) := find_any _ ae cl ce C hcl (hcs _ _ hO3.two) hCk (by omega) qk hk
        have HY : Hid (RXok σ y K) := hy
        have H3 : Hid (Own w0 _ _) := hO3
        have hne1 : w2.heap.size ≠ w.heap.size := by have := hO2.two.lt; omega
        have hne2 : w.heap.size ≠ w2.heap.size := fun q => hne1 q.symm
        clear hO2 hO3 hcs hy H1 HE
        go_wp2_with fail
        refine HFN.out.mono ?_
        rintro e w4 ⟨r2, rfl, hf2, hcase⟩
        have H4 : Hid (Own w0 w4 _) := H3.out.quiet hf2
        clear hf2 HFN H3 e1 f0
        rcases hcase with ⟨rfl, hno⟩ | ⟨i, rfl, q, hq, hqk, _⟩
        · rw [HHK.out] at hno; cases hno
        · have hi0 : (0 : Int) ≤ (i : Int) := by omega
          clear hq hqk
          go_wp2
          go_ret
          rw [HV.out]
          exact ⟨rfl, (RSto.mk HY.out H4.out.tail.two.tail).rstoK (Nat.le_succ K)⟩
      | false =>
        have hins := insc_insw hh
        have hl2 := insw_ok hlC hx hh
        have hln := insw_len C q
        have HV : Hid (σ.add id q = (0, σ.turn id (insw C q))) := by show _ = _; unfold Sto.add; rw [if_neg (by simp [hx]), if_neg (by simp [hl]), hcps, if_neg (by simp [hh])]
        have HTU : Hid (∀ w' l' ao cap, Own w0 w' (RSto b σ K :: Row 46 4 (.slice ao (C.length + 1) cap) (C.length + 1) (ccat (insw C q)) :: l') → Calls Tryz.prog 138 #[.pointer (some ⟨b, 0, none⟩), .int .u32 (id : Int), .slice ao (C.length + 1) cap] w' fun e w'' => e = .returned (.tuple #[]) ∧ Own w0 w'' (RSto b (σ.turn id (insw C q)) (K + 1) :: Row 46 4 (.slice ao (C.length + 1) cap) (C.length + 1) (ccat (insw C q)) :: l')) := fun w' l' ao cap h' => rturn w0 w' _ b σ K h' hσ id hid hl ao _ cap (insw C q) hln (fun w'' h'' => Own.rcs h'' hln) hl2 (by omega) hK
        have HWI : Hid (∀ w' l' ae ce, Own w0 w' l' → (∀ w3, Own w0 w3 l' → Cs w3 ae C) → Calls Tryz.prog 139 #[.slice ae C.length ce, q.ag] w' fun e w'' => ∃ ao cap, e = .returned (.slice ao (C.length + 1) cap) ∧ Own w0 w'' (Row 46 4 (.slice ao (C.length + 1) cap) (C.length + 1) (ccat (insw C q)) :: l')) := by
          intro w' l' ae ce h' hc
          have := rwith_any w0 w' l' h' ae C.length ce C rfl hc hCk (by omega) q hk
          rw [hins, hln] at this
          exact this
        have HHK : Hid (hasK C q.k = false) := hh
        clear hx HQ hσ hl hr he hlC h6 hcps hh hins hl2 hln
        generalize insw C q = I at *
        obtain ⟨qk, qa, qb, qc⟩ := q
        simp only [Cp.ag] at z0 z1 z2 z3 HC HA hk HHK HWI ⊢
        generalize hcl : C.length = cl at *
        go_enter Tryz.func82, Tryz.ntmps82
        go_wp2_with fail
        refine HC.out.mono ?_
        rintro e w1 ⟨rfl, hf⟩
        have H1 : Hid (Own w0 w1 _) := HA.out.quiet hf
        clear hf HC z0 z1 z2 z3
        go_wp2_with fail
        refine (HE.out _ _ H1.out.two).mono ?_
        rintro e w2 ⟨y, ae, ce, hy, hcs, rfl, hO2⟩
        have hO3 := hO2.allocC #[.int .u32 (id : Int), .slice ae cl ce] 67
        have e1 := hO3.cell 1
        have f0 := hO3.three.cell 0
        simp at e1 f0
        have HFN : Hid (Calls _ _ _ _ _) := find_any _ ae cl ce C hcl (hcs _ _ hO3.two) hCk (by omega) qk hk
        have HY : Hid (RXok σ y K) := hy
        have HCY : Hid (∀ w3 l3, Own w0 w3 (RSX b σ.S y :: l3) → Cs w3 ae C) := hcs
        have H3 : Hid (Own w0 _ _) := hO3
        have hne1 : w2.heap.size ≠ w.heap.size := by have := hO2.two.lt; omega
        have hne2 : w.heap.size ≠ w2.heap.size := fun q => hne1 q.symm
        clear hO2 hO3 hcs hy H1 HE
        go_wp2_with fail
        refine HFN.out.mono ?_
        rintro e w4 ⟨r2, rfl, hf2, hcase⟩
        have hO4 := H3.out.quiet hf2
        have e1 := hO4.cell 1
        have f0 := hO4.three.cell 0
        have f1 := hO4.three.cell 1
        have f2 := hO4.three.cell 2
        have f3 := hO4.three.cell 3
        simp at e1 f0 f1 f2 f3
        have HWI4 : Hid (Calls _ _ _ _ _) := HWI.out w4 _ ae ce hO4 (fun w3 h3 => HCY.out _ _ h3.two)
        clear hf2 HFN H3 hO4
        rcases hcase with ⟨rfl, hno⟩ | ⟨i, rfl, q, hq, hqk, hyes⟩
        · clear hno
          go_wp2_with fail
          refine HWI4.out.mono ?_
          rintro e w5 ⟨a5, c5, rfl, hO5⟩
          have H5 : Hid (Own w0 w5 (RSto b σ K :: Row 46 4 (.slice a5 (cl + 1) c5) (cl + 1) (ccat I) :: Cells w2.heap.size #[.int .u32 (id : Int), .slice ae cl ce] 67 :: Cells w.heap.size #[.int .u8 (qk : Int), .int .i32 qa, .int .i32 qb, .int .i32 qc] 46 :: l)) := by
            exact RSto.mk HY.out hO5.three
          clear hO5 HWI4 e1 f0 f1 f2 f3
          go_wp2_with fail
          refine (HTU.out _ _ _ _ H5.out).mono ?_
          rintro e w6 ⟨rfl, hO6⟩
          have H6 : Hid (Own w0 w6 _) := hO6
          clear hO6
          go_wp2
          go_ret
          rw [HV.out]
          exact ⟨rfl, (H6.out.two.tail.two.tail).two.tail⟩
        · rw [HHK.out] at hyes; cases hyes
  · have HV : Hid (σ.add id q = ((x : Int), σ)) := by show _ = _; unfold Sto.add; rw [if_pos (by rw [hx]; exact hx0), hx]
    have hx1 : ((x : Int) != 0) = true := by simpa using hx0
    clear hx HQ hσ
    obtain ⟨qk, qa, qb, qc⟩ := q
    simp only at z0 z1 z2 z3 HC HA hk ⊢
    go_enter Tryz.func82, Tryz.ntmps82
    go_wp2_with fail
    refine HC.out.mono ?_
    rintro e w1 ⟨rfl, hf⟩
    have H1 : Hid (Own w0 w1 _) := HA.out.quiet hf
    clear hf HC z0 z1 z2 z3
    go_wp2
    go_ret
    rw [HV.out]
    exact ⟨rfl, (H1.out.tail).rstoK (Nat.le_succ K)⟩
end
end Go.Proofs.YtflmgilmbppieaaGreatDoor

/-
  The document's store: Remove, List, New.
-/
namespace Go.Proofs.YtflmgilmbppieaaGreatDoor
open Go.RowKit Go.Maps
set_option linter.unusedVariables false
set_option maxRecDepth 100000

section
variable (w0 w : World) (l : List Thing) (b : Nat) (σ : Sto) (K : Nat)
set_option maxHeartbeats 4000000 in
theorem rremoveS (h : Own w0 w (RSto b σ K :: l)) (hσ : σ.Ok) (id : Nat) (hid : id < 4294967296) (k : Nat) (hk : k < 256) (hK : K < 1000000) :
    Calls Tryz.prog 83 #[.pointer (some ⟨b, 0, none⟩), .int .u32 (id : Int), .int .u8 (k : Int)] w fun e w' => e = .returned (.int .i64 (σ.remove id k).1) ∧ Own w0 w' (RSto b (σ.remove id k).2 (K + 1) :: l) := by
  cases hl : σ.S.isLive id with
  | false =>
    have HV : Hid (σ.remove id k = (7, σ)) := by show _ = _; unfold Sto.remove; rw [if_pos hl]
    obtain ⟨x, hx, h'⟩ := RSto.opn h
    have HX : Hid (RXok σ x K) := hx
    have HE : Hid (Calls _ _ _ _ _) := rentNo w0 w l b σ x K h' hx hσ (by omega) id hl
    clear h h' hx hσ hl
    go_enter Tryz.func83, Tryz.ntmps83
    go_wp2_with fail
    refine HE.out.mono ?_
    rintro e w1 ⟨rfl, hO⟩
    have H1 : Hid (Own w0 w1 _) := hO
    clear hO HE
    go_wp2
    go_ret
    rw [HV.out]
    exact ⟨rfl, (RSto.mk HX.out (H1.out.alloc _)).rstoK (Nat.le_succ K)⟩
  | true =>
    obtain ⟨r, C, hr, he, hlC, _, h6⟩ := hσ.ent hl
    have hcps := Sto.cps_of hr he
    have hC6 : C.length ≤ 6 := (hσ.t _ h6).c6 he
    have hCk : ∀ q ∈ C, q.k < 256 := fun q hq => by have := chk_k ((lst_ok hlC).2 q hq).2; omega
    obtain ⟨y, hy, h'⟩ := RSto.opn h
    obtain ⟨r', d, hr', hd, hdi, he'⟩ := hy.row hσ hl
    have hrr : r' = r := Option.some.inj (hr'.symm.trans hr)
    subst hrr
    have hCC : d.2.1 = C := by rw [he] at he'; exact (Prod.mk.inj (Option.some.inj he')).2.symm
    have HE : Hid (Calls _ _ _ _ _) := rent w0 w l b σ y K h' hy hσ (by omega) id hl r' hr d hd
    have HCY : Hid (∀ w3 l3, Own w0 w3 (RSX b σ.S y :: l3) → Cs w3 d.2.2.1 C) := fun w3 l3 h3 => by
      obtain ⟨_, _, _, _, _, _, hc⟩ := RSX.ent w0 w3 l3 b σ y h3 _ r' h6 d hd
      rw [hCC] at hc
      exact hc
    rw [hdi, hCC] at HE
    have HY : Hid (RXok σ y K) := hy
    generalize d.2.2.1 = ae at *
    generalize d.2.2.2 = ce at *
    have hol := outk_ok hlC k
    have hoL : (outk C k).length ≤ 6 := Nat.le_trans (List.length_filter_le _ _) hC6
    have HTU : Hid (∀ w' l' ao cap, Own w0 w' (RSto b σ K :: Row 46 4 (.slice ao (outk C k).length cap) (outk C k).length (ccat (outk C k)) :: l') → Calls Tryz.prog 138 #[.pointer (some ⟨b, 0, none⟩), .int .u32 (id : Int), .slice ao (outk C k).length cap] w' fun e w'' => e = .returned (.tuple #[]) ∧ Own w0 w'' (RSto b (σ.turn id (outk C k)) (K + 1) :: Row 46 4 (.slice ao (outk C k).length cap) (outk C k).length (ccat (outk C k)) :: l')) := fun w' l' ao cap h' => rturn w0 w' _ b σ K h' hσ id hid hl ao _ cap (outk C k) rfl (fun w'' h'' => Own.rcs h'' rfl) hol (by omega) hK
    have HWO : Hid (∀ w' l', Own w0 w' l' → (∀ w3, Own w0 w3 l' → Cs w3 ae C) → Calls Tryz.prog 140 #[.slice ae C.length ce, .int .u8 (k : Int)] w' fun e w'' => ∃ ao cap, e = .returned (.slice ao (outk C k).length cap) ∧ Own w0 w'' (Row 46 4 (.slice ao (outk C k).length cap) (outk C k).length (ccat (outk C k)) :: l')) := fun w' l' h' hc => rwithout_any w0 w' l' h' ae C.length ce C rfl hc hCk (by omega) k hk
    have HVN : Hid (hasK C k = false → σ.remove id k = (10, σ)) := fun hh => by unfold Sto.remove; rw [if_neg (by simp [hl]), hcps, if_pos hh]
    have HVY : Hid (hasK C k = true → σ.remove id k = (0, σ.turn id (outk C k))) := fun hh => by unfold Sto.remove; rw [if_neg (by simp [hl]), hcps, if_neg (by simp [hh])]
    clear h h' hy hσ hl hr hr' he he' hlC h6 hcps hd hdi hCC hol
    generalize outk C k = I at *
    generalize I.length = il at *
    generalize hcl : C.length = cl at *
    go_enter Tryz.func83, Tryz.ntmps83
    go_wp2_with fail
    refine HE.out.mono ?_
    rintro e w2 ⟨rfl, hO2⟩
    have hO3 := hO2.allocC #[.int .u32 (id : Int), .slice ae cl ce] 67
    have e1 := hO3.cell 1
    simp at e1
    have HFN : Hid (Calls _ _ _ _ _) := find_any _ ae cl ce C hcl (HCY.out _ _ hO3.two) hCk (by omega) k hk
    have H3 : Hid (Own w0 _ _) := hO3
    clear hO2 hO3 HE
    go_wp2_with fail
    refine HFN.out.mono ?_
    rintro e w4 ⟨r2, rfl, hf2, hcase⟩
    have hO4 := H3.out.quiet hf2
    have e1 := hO4.cell 1
    simp at e1
    have HWO4 : Hid (Calls _ _ _ _ _) := HWO.out w4 _ hO4 (fun w3 h3 => HCY.out _ _ h3.two)
    have H4 : Hid (Own w0 w4 _) := hO4
    clear hf2 HFN H3 hO4
    rcases hcase with ⟨rfl, hno⟩ | ⟨i, rfl, q, hq, hqk, hyes⟩
    · have HV : Hid (σ.remove id k = (10, σ)) := HVN.out hno
      clear hno
      go_wp2
      go_ret
      rw [HV.out]
      exact ⟨rfl, (RSto.mk HY.out H4.out.tail).rstoK (Nat.le_succ K)⟩
    · have HV : Hid (σ.remove id k = (0, σ.turn id I)) := HVY.out hyes
      have hi0 : ¬ (i : Int) < 0 := by omega
      clear hq hqk hyes
      go_wp2_with fail
      refine HWO4.out.mono ?_
      rintro e w5 ⟨a5, c5, rfl, hO5⟩
      have H5 : Hid (Own w0 w5 (RSto b σ K :: Row 46 4 (.slice a5 il c5) il (ccat I) :: Cells w2.heap.size #[.int .u32 (id : Int), .slice ae cl ce] 67 :: l)) := RSto.mk HY.out hO5.three
      clear hO5 HWO4 e1 H4
      go_wp2_with fail
      refine (HTU.out _ _ _ _ H5.out).mono ?_
      rintro e w6 ⟨rfl, hO6⟩
      have H6 : Hid (Own w0 w6 _) := hO6
      clear hO6
      go_wp2
      go_ret
      rw [HV.out]
      exact ⟨rfl, H6.out.two.tail.two.tail⟩

/-- the entity with that ID, as it lies in memory -/
def RX.at (x : RX) (σ : Sto) (id : Nat) : REnt := ((plc (σ.T (σ.hom id)) id).bind fun r => (x.E (σ.hom id))[r]?).getD (0, [], none, 0)
theorem RXok.at {σ : Sto} {x : RX} {K : Nat} (hx : RXok σ x K) (hσ : σ.Ok) {id : Nat} (hl : σ.S.isLive id = true) : (x.at σ id).e = (id, σ.cps id) ∧ (x.at σ id).1 = id ∧ (x.at σ id).2.1 = σ.cps id ∧ ∃ r, plc (σ.T (σ.hom id)) id = some r ∧ (x.E (σ.hom id))[r]? = some (x.at σ id) := by
  obtain ⟨r, d, hr, hd, hdi, he⟩ := hx.row hσ hl
  have e : x.at σ id = d := by unfold RX.at; rw [hr]; simp [hd]
  rw [e, Sto.cps_of hr he]
  obtain ⟨d1, d2, d3, d4⟩ := d
  simp only at hdi
  subst hdi
  exact ⟨rfl, rfl, rfl, r, hr, hd⟩
theorem RXok.atCs {σ : Sto} {x : RX} {K : Nat} (hx : RXok σ x K) (hσ : σ.Ok) {id : Nat} (hl : σ.S.isLive id = true) {w0 w3 : World} {l3 : List Thing} {b : Nat} (h3 : Own w0 w3 (RSX b σ.S x :: l3)) : Cs w3 (x.at σ id).2.2.1 (σ.cps id) := by
  obtain ⟨_, _, h2, r, _, hd⟩ := hx.at hσ hl
  obtain ⟨_, _, _, _, _, _, hc⟩ := RSX.ent w0 w3 l3 b σ x h3 _ r (hσ.home hl).1 _ hd
  rw [h2] at hc
  exact hc
theorem list_len {S : St} (hS : S.Ok) : S.list.length ≤ 1024 := by
  rw [← rl_all hS]
  have := rl_le S S.n
  have := hS.n2
  omega
set_option maxHeartbeats 4000000 in
theorem rlistS (x : RX) (h : Own w0 w (RSX b σ.S x :: l)) (hx : RXok σ x K) (hσ : σ.Ok) (hK : K ≤ 1000000) (hLV : ∀ id ∈ σ.S.list, σ.S.isLive id = true) :
    Calls Tryz.prog 60 #[.pointer (some ⟨b, 0, none⟩)] w fun e w' => ∃ ao cap, e = .returned (.slice ao σ.S.list.length cap) ∧ Own w0 w' (Row 67 2 (.slice ao σ.S.list.length cap) σ.S.list.length (cat rcells (σ.S.list.map (x.at σ))) :: RSX b σ.S x :: l) := by
  obtain ⟨i0, hi, hz0, hz1, hz2⟩ := info_parts Tryz.infoEnt
  have q0 := RSX.ids w0 w l b σ x h
  have HL : Hid (Calls Tryz.prog 120 #[.pointer (some ⟨x.bs, 0, none⟩)] w fun e w' => ∃ a c, e = .returned (.tuple #[.slice a σ.S.list.length c, .int .i64 (rr σ.S σ.S.n : Int)]) ∧ Own w0 w' (Row 38 1 (.slice a σ.S.list.length c) σ.S.list.length (irow .u32 σ.S.list) :: RSX b σ.S x :: l)) := by
    refine (rlist_ok w0 w _ x.bs σ.S x.f x.ck (RSX.iff.1 h).two hσ.s).mono ?_
    rintro e w' ⟨v, rfl, h2⟩
    obtain ⟨a, c, rfl⟩ := row_any h2.row
    exact ⟨a, c, rfl, (RSX.iff.2 h2.in23.back4).two⟩
  have hn := list_len hσ.s
  have HEN : Hid (∀ w' l' (j id : Nat), Own w0 w' (RSX b σ.S x :: l') → σ.S.list[j]? = some id → Calls Tryz.prog 121 #[.pointer (some ⟨b, 0, none⟩), .int .u32 (id : Int)] w' fun e w'' => e = .returned (.tuple #[.agg #[.int .u32 ((x.at σ id).1 : Int), .slice (x.at σ id).2.2.1 (x.at σ id).2.1.length (x.at σ id).2.2.2], .int .i64 0]) ∧ Own w0 w'' (RSX b σ.S x :: l')) := by
    intro w' l' j id h' hj
    have hl := hLV id (List.mem_of_getElem? hj)
    obtain ⟨_, _, _, r, hr, hd⟩ := hx.at hσ hl
    exact rent w0 w' l' b σ x K h' hx hσ hK id hl r hr _ hd
  clear h hx hσ hLV
  generalize rr σ.S σ.S.n = rk at *
  obtain ⟨IL, hIL⟩ : ∃ I, I = σ.S.list := ⟨_, rfl⟩
  simp only [← hIL] at HL HEN hn ⊢
  generalize hln : IL.length = n at *
  have HN : Hid (IL.length = n) := hln
  clear hln hIL
  go_enter Tryz.func60, Tryz.ntmps60
  go_wp2_with fail
  refine HL.out.mono ?_
  rintro e w1 ⟨ia, ic, rfl, hO⟩
  have H1 : Hid (Own w0 w1 _) := hO
  clear hO HL q0
  go_wp2
  go_loopw [3, 22] (fun v3 v22 wr => ∃ j : Nat, j ≤ n ∧ v22 = .int .i64 j ∧ ∃ a1 c1, v3 = .slice a1 j c1 ∧ Own w0 wr (Row 67 2 (.slice a1 j c1) j (cat rcells ((IL.map (x.at σ)).take j)) :: Row 38 1 (.slice ia n ic) n (irow .u32 IL) :: RSX b σ.S x :: l)) (fun _ v22 _ => n - (intOf v22).toNat)
  case atStart => exact ⟨0, Nat.zero_le _, rfl, none, 0, rfl, by simpa [cat] using H1.out.nilRow 67 2⟩
  case round =>
    obtain ⟨j, hj, rfl, a1, c1, rfl, hO⟩ := hrel
    have HO : Hid (Own w0 wr _) := hO
    clear H1
    by_cases hlt : j < n
    · have hlt' : (j : Int) < (n : Int) := by omega
      obtain ⟨id, hid⟩ : ∃ id, IL[j]? = some id := ⟨_, List.getElem?_eq_getElem (by rw [HN.out]; exact hlt)⟩
      obtain ⟨g, cp, hv, _⟩ := row_shape hO.two.row (by omega)
      have hia := (Value.slice.inj hv).1
      subst hia
      have c0 : wr.cell? ⟨g, j, none⟩ = some (.int .u32 (id : Int)) := by
        rw [hO.two.row.cellAt _ (by omega), getElem?_irow, hid]; rfl
      have HTK : Hid ((IL.map (x.at σ)).take (j + 1) = (IL.map (x.at σ)).take j ++ [x.at σ id]) := take_snoc _ j _ (by rw [List.getElem?_map, hid]; rfl)
      have HE : Hid (Calls _ _ _ _ _) := HEN.out wr _ j id hO.three hid
      clear hO hv hid HO
      generalize x.at σ id = d at *
      obtain ⟨d1, d2, d3, d4⟩ := d
      simp only at HE
      generalize hdl : d2.length = dl at *
      have HDL : Hid (d2.length = dl) := hdl
      clear hdl
      go_wp2_with fail
      refine HE.out.mono ?_
      rintro e w2 ⟨rfl, hO2⟩
      have hB := hO2.back3.allocC #[.int .u32 (d1 : Int), .slice d3 dl d4] 67
      have e0 := hB.cell 0
      have e1 := hB.cell 1
      simp at e0 e1
      have HB : Hid (Own w0 _ _) := hB
      clear hB hO2 HE c0
      go_wp2_with (at_builtin; refine append1_own rfl _ _ 64 rfl 67 i0 (.agg #[.int .u32 0, .slice none 0 0]) 2 32 Tryz.underlying64 hi hz0 hz1 hz2 rfl (by decide) _ _ _ rfl HB.out.two _ #[.int .u32 (d1 : Int), .slice d3 dl d4] (by simp) rfl rfl (by intro u hu; simp at hu; rcases hu with rfl | rfl <;> rfl) (by unfold maxLen; omega) (by omega) ?_)
      intro g4 c4 w4 hO4 hsz
      have H4 : Hid (Own w0 w4 (Row 67 2 (.slice (some ⟨g4, 0, none⟩) (j + 1) c4) (j + 1) (cat rcells ((IL.map (x.at σ)).take (j + 1))) :: Row 38 1 (.slice (some ⟨g, 0, none⟩) n ic) n (irow .u32 IL) :: RSX b σ.S x :: l)) := by
        show Own _ _ _
        rw [HTK.out, cat_append]
        have e2 : cat rcells [(d1, d2, d3, d4)] = [.int .u32 (d1 : Int), .slice d3 dl d4] := by
          show [Value.int .u32 (d1 : Int), Value.slice d3 d2.length d4] = _
          rw [HDL.out]
        rw [e2]; exact hO4.two.tail
      clear hO4 hsz HB e0 e1
      go_wp2
      go_roundw
      case rel => exact ⟨j + 1, by omega, by go_num, _, _, rfl, H4.out⟩
      case measure => simp [intOf]; omega
    · have hjn : j = n := by omega
      subst hjn
      have hlt' : ¬ (j : Int) < (j : Int) := by omega
      clear hO
      go_wp2
      go_ret
      refine ⟨a1, c1, rfl, ?_⟩
      have h5 := HO.out
      rw [List.take_of_length_le (by rw [List.length_map, HN.out]; exact Nat.le_refl _)] at h5
      exact h5.two.tail

theorem Own.rtabsNew (h : Own w0 w l) : Own w0 w (RTabsOn (List.range 64) (fun _ => .slice none 0 0) (fun _ => []) :: l) := by
  refine Own.ex_iff.2 ⟨(), ?_⟩
  suffices H : ∀ is : List Nat, Own w0 w (is.map (fun m => RTE ((fun _ => .slice none 0 0 : Nat → Value) m) ((fun _ => [] : Nat → List REnt) m)) ++ l) from H _
  intro is
  induction is with
  | nil => exact h
  | cons a is ih => exact RTE.iff.2 (by simpa [cat] using ih.nilRow 67 2)
def jpair (j k : Nat) : Value := if k % 2 = 0 then .int .u8 (if k / 2 < j then ((k / 2 : Nat) : Int) else 0) else .slice none 0 0
def jcells (bs j : Nat) : Array Value := (Value.pointer (some ⟨bs, 0, none⟩) :: (List.range 128).map (jpair j)).toArray
set_option maxRecDepth 100000 in
theorem jcells_zero (bs : Nat) : Tryz.zeroCells153.setIfInBounds 0 (.pointer (some ⟨bs, 0, none⟩)) = jcells bs 0 := by kernel_rfl
theorem jcells_end (bs : Nat) : jcells bs 64 = rscells bs (fun _ => .slice none 0 0) := by
  unfold jcells rscells
  have : (List.range 128).map (jpair 64) = (List.range 128).map (rpair (fun _ => .slice none 0 0)) := by
    refine List.map_congr_left (fun k hk => ?_)
    have hk' : k < 128 := by simpa using hk
    unfold jpair rpair
    by_cases e : k % 2 = 0
    · rw [if_pos e, if_pos e, if_pos (by omega)]
    · rw [if_neg e, if_neg e]
  rw [this]
theorem jcells_set (bs j : Nat) (hj : j < 64) : (jcells bs j).setIfInBounds (1 + j * 2) (.int .u8 (j : Int)) = jcells bs (j + 1) := by
  rw [show 1 + j * 2 = j * 2 + 1 by omega]
  unfold jcells
  rw [List.setIfInBounds_toArray, List.set_cons_succ]
  have : ((List.range 128).map (jpair j)).set (j * 2) (.int .u8 (j : Int)) = (List.range 128).map (jpair (j + 1)) := by
    apply List.ext_getElem?
    intro i
    rw [List.getElem?_set]
    simp only [List.length_map, List.length_range, List.getElem?_map]
    by_cases c : j * 2 = i
    · subst c
      rw [if_pos rfl, if_pos (by omega), List.getElem?_range (by omega)]
      show _ = some (jpair _ _)
      unfold jpair
      rw [if_pos (by omega), if_pos (by omega), show j * 2 / 2 = j by omega]
    · rw [if_neg c]
      by_cases d : i < 128
      · rw [List.getElem?_range d]
        show some (jpair _ _) = some (jpair _ _)
        unfold jpair
        by_cases e : i % 2 = 0
        · rw [if_pos e, if_pos e]
          by_cases g : i / 2 < j
          · rw [if_pos g, if_pos (by omega)]
          · rw [if_neg g, if_neg (by omega)]
        · rw [if_neg e, if_neg e]
      · rw [List.getElem?_eq_none (by simp; omega)]; rfl
  rw [this]
set_option maxHeartbeats 2000000 in
theorem rnewS (h : Own w0 w l) (n f : Nat) (h1 : 1 ≤ n) (h2 : n ≤ 1024) (h3 : 1 ≤ f) (h4 : f ≤ 4194303) :
    Calls Tryz.prog 29 #[.int .i64 (n : Int), .int .i64 (f : Int)] w fun e w' => ∃ b, e = .returned (.tuple #[.pointer (some ⟨b, 0, none⟩), .int .i64 0]) ∧ Own w0 w' (RSto b (Sto.new n f) 0 :: l) := by
  have HN : Hid (Calls _ _ _ _ _) := rnew_ok w0 w l n f h h1 h2 h3 (by omega)
  have HST : Hid (Stamp (St.new n f) (fun _ => 0) 0) := Stamp.new n f h1
  clear h
  go_enter Tryz.func29, Tryz.ntmps29
  go_wp2_with fail
  refine HN.out.mono ?_
  rintro e w1 ⟨bs, rfl, hO⟩
  have k := hO.allocC (jcells bs 0) 153
  rw [← jcells_zero] at k
  have HK : Hid (Own w0 _ _) := k
  clear hO k HN
  go_wp2
  go_loopw [22] (fun cv wr => ∃ j : Nat, j ≤ 64 ∧ cv = .int .i64 j ∧ Own w0 wr (Cells w1.heap.size (jcells bs j) 153 :: RSlots bs (St.new n f) (fun _ => 0) 0 :: l)) (fun cv _ => 64 - (intOf cv).toNat)
  case atStart => exact ⟨0, Nat.zero_le _, rfl, by rw [← jcells_zero]; exact HK.out⟩
  case round =>
    obtain ⟨j, hj, rfl, hO⟩ := hrel
    have HO : Hid (Own w0 wr _) := hO
    clear HK
    by_cases hlt : j < 64
    · have hlt' : (j : Int) < 64 := by omega
      have y0 := hO.froz (1 + j * 2)
      have z0 := hO.cell (1 + j * 2)
      have hz : ∃ u, (jcells bs j)[1 + j * 2]? = some (.int .u8 u) := by
        rw [show 1 + j * 2 = j * 2 + 1 by omega]
        refine ⟨0, ?_⟩
        simp only [jcells, List.getElem?_toArray, List.getElem?_cons_succ, List.getElem?_map]
        rw [List.getElem?_range (by omega)]
        show some (jpair _ _) = _
        unfold jpair
        rw [if_pos (by omega), if_neg (by omega)]
      obtain ⟨u, hu⟩ := hz
      rw [hu] at z0
      have HS : Hid (Own w0 (wr.setCell ⟨w1.heap.size, 1 + j * 2, none⟩ (.int .u8 (j : Int))) (Cells w1.heap.size (jcells bs (j + 1)) 153 :: RSlots bs (St.new n f) (fun _ => 0) 0 :: l)) := by
        have := hO.setC (1 + j * 2) (.int .u8 (j : Int))
        rw [jcells_set bs j hlt] at this
        exact this
      clear hO hu
      go_wp2
      go_roundw
      case rel => exact ⟨j + 1, by omega, by go_num, HS.out⟩
      case measure => simp [intOf]; omega
    · have hj6 : j = 64 := by omega
      subst hj6
      clear hO
      go_wp2
      go_ret2
      have h5 := HO.out
      rw [jcells_end] at h5
      refine ⟨_, rfl, RSto.mk (σ := Sto.new n f) (x := ⟨bs, fun _ => .slice none 0 0, fun _ => 0, 0, fun _ => []⟩) ⟨HST.out, Nat.le_refl _, fun m hm => rfl, fun m hm => Nat.le_refl _⟩ (RSX.iff.2 ?_)⟩
      exact (Own.rtabsNew w0 _ _ h5).back3
end
end Go.Proofs.YtflmgilmbppieaaGreatDoor
