/-
  The document's With and Without: components beside other things.
-/
import Derived.Test.YtkjanpjlpieaoaaDoorQd09
import Derived.Test.YtkjanpjlpieaoaaDoorQd23
namespace Go.Proofs.YtkjanpjlpieaoaaDoor
open Go.RowKit
set_option linter.unusedVariables false
set_option maxRecDepth 100000

def Cp.ag (q : Cp) : Value := .agg #[.int .u8 (q.k : Int), .int .i32 q.a, .int .i32 q.b, .int .i32 q.c]
theorem ccat_snoc (C : List Cp) (q : Cp) : ccat (C ++ [q]) = ccat C ++ [.int .u8 (q.k : Int), .int .i32 q.a, .int .i32 q.b, .int .i32 q.c] := by
  unfold ccat; rw [cat_append]; rfl

set_option maxHeartbeats 4000000 in
theorem rwith_any (w0 w : World) (l : List Thing) (h : Own w0 w l) (ao : Option Addr) (len cap : Nat) (C : List Cp) (hCl : C.length = len) (hCs : ∀ w', Own w0 w' l → Cs w' ao C) (hCk : ∀ q ∈ C, q.k < 256) (hlen : len ≤ 100000) (c : Cp) (hck : c.k < 256) :
    Calls Tryd.prog 23 #[.slice ao len cap, c.ag] w fun e w' => ∃ ao' cap', e = .returned (.slice ao' (insc C c).length cap') ∧ Own w0 w' (Row 46 4 (.slice ao' (insc C c).length cap') (insc C c).length (ccat (insc C c)) :: l) := by
  obtain ⟨i0, hi, hz0, hz1, hz2⟩ := info_parts Tryd.infoComp
  have HCS : Hid (C.length = len ∧ (∀ w', Own w0 w' l → Cs w' ao C) ∧ ∀ q ∈ C, q.k < 256) := ⟨hCl, hCs, hCk⟩
  obtain ⟨ck, ca, cb, cc⟩ := c
  show Calls _ _ #[_, .agg #[.int .u8 (ck : Int), .int .i32 ca, .int .i32 cb, .int .i32 cc]] _ _
  have H : Hid (Own w0 (w.alloc (.cells #[.int .u8 (ck : Int), .int .i32 ca, .int .i32 cb, .int .i32 cc] 46)) (Cells w.heap.size #[.int .u8 (ck : Int), .int .i32 ca, .int .i32 cb, .int .i32 cc] 46 :: l)) := by
    exact h.allocC _ _
  have HEND : Hid ((if (wfold ⟨ck, ca, cb, cc⟩ C).2 then (wfold ⟨ck, ca, cb, cc⟩ C).1 else (wfold ⟨ck, ca, cb, cc⟩ C).1 ++ [⟨ck, ca, cb, cc⟩]) = insc C ⟨ck, ca, cb, cc⟩) := wfold_end _ _
  simp only at hck
  clear h hCl hCs hCk
  go_enter Tryd.func23, Tryd.ntmps23
  go_wp2
  go_loopw [5, 6, 11] (fun v5 v6 v11 wr => ∃ j : Nat, j ≤ len ∧ v11 = .int .i64 j ∧ ∃ (S : List Cp) (d : Bool) (a1 : Option Addr) (c1 n : Nat), wfold ⟨ck, ca, cb, cc⟩ (C.take j) = (S, d) ∧ n = S.length ∧ n ≤ 2 * j ∧ v6 = .bool d ∧ v5 = .slice a1 n c1 ∧ Own w0 wr (Row 46 4 (.slice a1 n c1) n (ccat S) :: Cells w.heap.size #[.int .u8 (ck : Int), .int .i32 ca, .int .i32 cb, .int .i32 cc] 46 :: l)) (fun _ _ v11 _ => len - (intOf v11).toNat)
  case atStart => exact ⟨0, Nat.zero_le _, rfl, [], false, none, 0, 0, rfl, rfl, Nat.le_refl _, rfl, rfl, H.out.nilRow _ _⟩
  case round =>
    obtain ⟨j, hj, rfl, S, d, a1, c1, n, hS, hn, hnj, rfl, rfl, hO⟩ := hrel
    have HO : Hid (Own w0 wr (Row 46 4 (.slice a1 n c1) n (ccat S) :: Cells w.heap.size #[.int .u8 (ck : Int), .int .i32 ca, .int .i32 cb, .int .i32 cc] 46 :: l)) := hO
    have HS : Hid (wfold ⟨ck, ca, cb, cc⟩ (C.take j) = (S, d) ∧ n = S.length) := ⟨hS, hn⟩
    clear H hS hn
    by_cases hlt : j < len
    · obtain ⟨q, hq⟩ : ∃ q, C[j]? = some q := ⟨_, List.getElem?_eq_getElem (by rw [HCS.out.1]; exact hlt)⟩
      obtain ⟨gg, o0, hao, _, y0, y1, y2, y3⟩ := (HCS.out.2.1 wr hO.tail.tail).at j q hq
      subst hao
      have hq8 := HCS.out.2.2 q (List.mem_of_getElem? hq)
      have HST : Hid (wfold ⟨ck, ca, cb, cc⟩ (C.take (j + 1)) = wstepU ⟨ck, ca, cb, cc⟩ (S, d) q) := by show _ = _; rw [take_snoc C j q hq, wfold_snoc, HS.out.1]
      have hlt' : (j : Int) < (len : Int) := by omega
      clear hq
      obtain ⟨qk, qa, qb, qc⟩ := q
      simp only at y0 y1 y2 y3 hq8
      have hA : Own w0 (wr.alloc (.cells #[.int .u8 (qk : Int), .int .i32 qa, .int .i32 qb, .int .i32 qc] 46)) (Cells wr.heap.size #[.int .u8 (qk : Int), .int .i32 qa, .int .i32 qb, .int .i32 qc] 46 :: Row 46 4 (.slice a1 n c1) n (ccat S) :: Cells w.heap.size #[.int .u8 (ck : Int), .int .i32 ca, .int .i32 cb, .int .i32 cc] 46 :: l) := hO.allocC _ _
      have HA : Hid (Own w0 (wr.alloc (.cells #[.int .u8 (qk : Int), .int .i32 qa, .int .i32 qb, .int .i32 qc] 46)) (Cells wr.heap.size #[.int .u8 (qk : Int), .int .i32 qa, .int .i32 qb, .int .i32 qc] 46 :: Row 46 4 (.slice a1 n c1) n (ccat S) :: Cells w.heap.size #[.int .u8 (ck : Int), .int .i32 ca, .int .i32 cb, .int .i32 cc] 46 :: l)) := hA
      have u0 := hO.two.cell 0
      have u1 := hO.two.cell 1
      have u2 := hO.two.cell 2
      have u3 := hO.two.cell 3
      have t0 := hA.cell 0
      have t1 := hA.cell 1
      have t2 := hA.cell 2
      have t3 := hA.cell 3
      simp at u0 u1 u2 u3 t0 t1 t2 t3
      have hBD : w.heap.size < wr.heap.size := hO.two.lt
      clear hA hO HO
      cases d with
      | false =>
        by_cases hle : ck ≤ qk
        · have hle' : (ck : Int) ≤ (qk : Int) := by omega
          by_cases heq : qk = ck
          · have HST2 : Hid (wfold ⟨ck, ca, cb, cc⟩ (C.take (j + 1)) = (S ++ [⟨ck, ca, cb, cc⟩], true)) := by show _ = _; rw [HST.out]; simp [wstepU, heq]
            subst heq
            have hne : ((qk : Int) != (qk : Int)) = false := by simp
            go_wp2_with (at_builtin; refine append1_own rfl _ _ 41 rfl 46 i0 _ 4 16 Tryd.underlying41 hi hz0 hz1 hz2 rfl (by decide) _ _ _ rfl HA.out.two _ #[.int .u8 (qk : Int), .int .i32 ca, .int .i32 cb, .int .i32 cc] (by simp) rfl rfl (by intro u hu; simp at hu; rcases hu with rfl | rfl | rfl | rfl <;> rfl) (by unfold maxLen; omega) (by omega) ?_)
            intro g4 c4 w4 hO4 hsz
            have v0 := hO4.two.cell 0
            have v1 := hO4.three.cell 0
            simp at v0 v1
            have H4 : Hid (Own w0 w4 (Row 46 4 (.slice (some ⟨g4, 0, none⟩) (n + 1) c4) (n + 1) (ccat (S ++ [⟨qk, ca, cb, cc⟩])) :: Cells w.heap.size #[.int .u8 (qk : Int), .int .i32 ca, .int .i32 cb, .int .i32 cc] 46 :: l)) := by show Own _ _ _; rw [ccat_snoc]; exact hO4.two.tail
            clear hO4 hsz u0 u1 u2 u3 t0 t1 t2 t3 y0 y1 y2 y3
            go_wp2
            go_roundw
            case rel => exact ⟨j + 1, by omega, by go_num, _, true, _, _, n + 1, HST2.out, by rw [List.length_append, ← HS.out.2]; rfl, by omega, rfl, rfl, H4.out⟩
            case measure => simp [intOf]; omega
          · have hne : ((qk : Int) != (ck : Int)) = true := by simp; omega
            have HST2 : Hid (wfold ⟨ck, ca, cb, cc⟩ (C.take (j + 1)) = (S ++ [⟨ck, ca, cb, cc⟩] ++ [⟨qk, qa, qb, qc⟩], true)) := by show _ = _; rw [HST.out]; simp [wstepU, hle, heq]
            go_wp2_with (at_builtin; refine append1_own rfl _ _ 41 rfl 46 i0 _ 4 16 Tryd.underlying41 hi hz0 hz1 hz2 rfl (by decide) _ _ _ rfl HA.out.two _ #[.int .u8 (ck : Int), .int .i32 ca, .int .i32 cb, .int .i32 cc] (by simp) rfl rfl (by intro u hu; simp at hu; rcases hu with rfl | rfl | rfl | rfl <;> rfl) (by unfold maxLen; omega) (by omega) ?_)
            intro g4 c4 w4 hO4 hsz
            have v0 := hO4.two.cell 0
            have v1 := hO4.three.cell 0
            have x1 := hO4.two.cell 1
            have x2 := hO4.two.cell 2
            have x3 := hO4.two.cell 3
            simp at v0 v1 x1 x2 x3
            have H4 : Hid (Own w0 w4 (Row 46 4 (.slice (some ⟨g4, 0, none⟩) (n + 1) c4) (n + 1) (ccat (S ++ [⟨ck, ca, cb, cc⟩])) :: Cells w.heap.size #[.int .u8 (ck : Int), .int .i32 ca, .int .i32 cb, .int .i32 cc] 46 :: l)) := by show Own _ _ _; rw [ccat_snoc]; exact hO4.two.tail
            clear hO4 hsz u0 u1 u2 u3 t0 t1 t2 t3 y0 y1 y2 y3
            go_wp2_with (at_builtin; refine append1_own rfl _ _ 41 rfl 46 i0 _ 4 16 Tryd.underlying41 hi hz0 hz1 hz2 rfl (by decide) _ _ _ rfl H4.out _ #[.int .u8 (qk : Int), .int .i32 qa, .int .i32 qb, .int .i32 qc] (by simp) rfl rfl (by intro u hu; simp at hu; rcases hu with rfl | rfl | rfl | rfl <;> rfl) (by unfold maxLen; omega) (by omega) ?_)
            intro g5 c5 w5 hO5 hsz
            have H5 : Hid (Own w0 w5 (Row 46 4 (.slice (some ⟨g5, 0, none⟩) (n + 1 + 1) c5) (n + 1 + 1) (ccat (S ++ [⟨ck, ca, cb, cc⟩] ++ [⟨qk, qa, qb, qc⟩])) :: Cells w.heap.size #[.int .u8 (ck : Int), .int .i32 ca, .int .i32 cb, .int .i32 cc] 46 :: l)) := by show Own _ _ _; rw [ccat_snoc]; exact hO5
            clear hO5 hsz v0 v1 x1 x2 x3 H4
            go_wp2
            go_roundw
            case rel => exact ⟨j + 1, by omega, by go_num, _, true, _, _, n + 1 + 1, HST2.out, by rw [List.length_append, List.length_append, ← HS.out.2]; rfl, by omega, rfl, rfl, H5.out⟩
            case measure => simp [intOf]; omega
        · have hle' : ¬ (ck : Int) ≤ (qk : Int) := by omega
          have hne : ((qk : Int) != (ck : Int)) = true := by simp; omega
          have HST2 : Hid (wfold ⟨ck, ca, cb, cc⟩ (C.take (j + 1)) = (S ++ [⟨qk, qa, qb, qc⟩], false)) := by show _ = _; rw [HST.out]; simp [wstepU, hle]; omega
          go_wp2_with (at_builtin; refine append1_own rfl _ _ 41 rfl 46 i0 _ 4 16 Tryd.underlying41 hi hz0 hz1 hz2 rfl (by decide) _ _ _ rfl HA.out.two _ #[.int .u8 (qk : Int), .int .i32 qa, .int .i32 qb, .int .i32 qc] (by simp) rfl rfl (by intro u hu; simp at hu; rcases hu with rfl | rfl | rfl | rfl <;> rfl) (by unfold maxLen; omega) (by omega) ?_)
          intro g4 c4 w4 hO4 hsz
          have H4 : Hid (Own w0 w4 (Row 46 4 (.slice (some ⟨g4, 0, none⟩) (n + 1) c4) (n + 1) (ccat (S ++ [⟨qk, qa, qb, qc⟩])) :: Cells w.heap.size #[.int .u8 (ck : Int), .int .i32 ca, .int .i32 cb, .int .i32 cc] 46 :: l)) := by show Own _ _ _; rw [ccat_snoc]; exact hO4.two.tail
          clear hO4 hsz u0 u1 u2 u3 t0 t1 t2 t3 y0 y1 y2 y3
          go_wp2
          go_roundw
          case rel => exact ⟨j + 1, by omega, by go_num, _, false, _, _, n + 1, HST2.out, by rw [List.length_append, ← HS.out.2]; rfl, by omega, rfl, rfl, H4.out⟩
          case measure => simp [intOf]; omega
      | true =>
        by_cases heq : qk = ck
        · have HST2 : Hid (wfold ⟨ck, ca, cb, cc⟩ (C.take (j + 1)) = (S, true)) := by show _ = _; rw [HST.out]; simp [wstepU, heq]
          subst heq
          have hne : ((qk : Int) != (qk : Int)) = false := by simp
          have H4 : Hid (Own w0 (wr.alloc (.cells #[.int .u8 (qk : Int), .int .i32 qa, .int .i32 qb, .int .i32 qc] 46)) (Row 46 4 (.slice a1 n c1) n (ccat S) :: Cells w.heap.size #[.int .u8 (qk : Int), .int .i32 ca, .int .i32 cb, .int .i32 cc] 46 :: l)) := HA.out.tail
          go_wp2
          go_roundw
          case rel => exact ⟨j + 1, by omega, by go_num, _, true, _, _, n, HST2.out, HS.out.2, by omega, rfl, rfl, H4.out⟩
          case measure => simp [intOf]; omega
        · have hne : ((qk : Int) != (ck : Int)) = true := by simp; omega
          have HST2 : Hid (wfold ⟨ck, ca, cb, cc⟩ (C.take (j + 1)) = (S ++ [⟨qk, qa, qb, qc⟩], true)) := by show _ = _; rw [HST.out]; simp [wstepU, heq]
          go_wp2_with (at_builtin; refine append1_own rfl _ _ 41 rfl 46 i0 _ 4 16 Tryd.underlying41 hi hz0 hz1 hz2 rfl (by decide) _ _ _ rfl HA.out.two _ #[.int .u8 (qk : Int), .int .i32 qa, .int .i32 qb, .int .i32 qc] (by simp) rfl rfl (by intro u hu; simp at hu; rcases hu with rfl | rfl | rfl | rfl <;> rfl) (by unfold maxLen; omega) (by omega) ?_)
          intro g4 c4 w4 hO4 hsz
          have H4 : Hid (Own w0 w4 (Row 46 4 (.slice (some ⟨g4, 0, none⟩) (n + 1) c4) (n + 1) (ccat (S ++ [⟨qk, qa, qb, qc⟩])) :: Cells w.heap.size #[.int .u8 (ck : Int), .int .i32 ca, .int .i32 cb, .int .i32 cc] 46 :: l)) := by show Own _ _ _; rw [ccat_snoc]; exact hO4.two.tail
          clear hO4 hsz u0 u1 u2 u3 t0 t1 t2 t3 y0 y1 y2 y3
          go_wp2
          go_roundw
          case rel => exact ⟨j + 1, by omega, by go_num, _, true, _, _, n + 1, HST2.out, by rw [List.length_append, ← HS.out.2]; rfl, by omega, rfl, rfl, H4.out⟩
          case measure => simp [intOf]; omega
    · have hlt' : ¬ (j : Int) < (len : Int) := by omega
      have hW : wfold ⟨ck, ca, cb, cc⟩ C = (S, d) := by rw [← HS.out.1, List.take_of_length_le (by rw [HCS.out.1]; omega)]
      have u0 := hO.two.cell 0
      have u1 := hO.two.cell 1
      have u2 := hO.two.cell 2
      have u3 := hO.two.cell 3
      simp at u0 u1 u2 u3
      cases d with
      | true =>
        have HE2 : Hid (S = insc C ⟨ck, ca, cb, cc⟩) := by have := HEND.out; rw [hW] at this; exact this
        clear hO hW
        go_wp2
        go_ret
        rw [← HE2.out, ← HS.out.2]
        exact ⟨_, _, rfl, HO.out.two.tail⟩
      | false =>
        have HE2 : Hid (S ++ [⟨ck, ca, cb, cc⟩] = insc C ⟨ck, ca, cb, cc⟩) := by have := HEND.out; rw [hW] at this; exact this
        clear hO hW
        go_wp2_with (at_builtin; refine append1_own rfl _ _ 41 rfl 46 i0 _ 4 16 Tryd.underlying41 hi hz0 hz1 hz2 rfl (by decide) _ _ _ rfl HO.out _ #[.int .u8 (ck : Int), .int .i32 ca, .int .i32 cb, .int .i32 cc] (by simp) rfl rfl (by intro u hu; simp at hu; rcases hu with rfl | rfl | rfl | rfl <;> rfl) (by unfold maxLen; omega) (by omega) ?_)
        intro g4 c4 w4 hO4 hsz
        have H4 : Hid (Own w0 w4 (Row 46 4 (.slice (some ⟨g4, 0, none⟩) (n + 1) c4) (n + 1) (ccat (S ++ [⟨ck, ca, cb, cc⟩])) :: l)) := by show Own _ _ _; rw [ccat_snoc]; exact hO4.two.tail
        clear hO4 hsz
        go_wp2
        go_ret
        rw [← HE2.out, List.length_append, ← HS.out.2]
        exact ⟨_, _, rfl, H4.out⟩
set_option maxHeartbeats 2000000 in
theorem rwithout_any (w0 w : World) (l : List Thing) (h : Own w0 w l) (ao : Option Addr) (len cap : Nat) (C : List Cp) (hCl : C.length = len) (hCs : ∀ w', Own w0 w' l → Cs w' ao C) (hCk : ∀ q ∈ C, q.k < 256) (hlen : len ≤ 100000) (k : Nat) (hk : k < 256) :
    Calls Tryd.prog 22 #[.slice ao len cap, .int .u8 (k : Int)] w fun e w' => ∃ ao' cap', e = .returned (.slice ao' (outk C k).length cap') ∧ Own w0 w' (Row 46 4 (.slice ao' (outk C k).length cap') (outk C k).length (ccat (outk C k)) :: l) := by
  obtain ⟨i0, hi, hz0, hz1, hz2⟩ := info_parts Tryd.infoComp
  have HCS : Hid (C.length = len ∧ (∀ w', Own w0 w' l → Cs w' ao C) ∧ ∀ q ∈ C, q.k < 256) := ⟨hCl, hCs, hCk⟩
  have H : Hid (Own w0 w l) := h
  clear h hCl hCs hCk
  go_enter Tryd.func22, Tryd.ntmps22
  go_wp2
  go_loopw [5, 10] (fun v5 v10 wr => ∃ j : Nat, j ≤ len ∧ v10 = .int .i64 j ∧ ∃ (S : List Cp) (a1 : Option Addr) (c1 n : Nat), outk (C.take j) k = S ∧ n = S.length ∧ n ≤ j ∧ v5 = .slice a1 n c1 ∧ Own w0 wr (Row 46 4 (.slice a1 n c1) n (ccat S) :: l)) (fun _ v10 _ => len - (intOf v10).toNat)
  case atStart => exact ⟨0, Nat.zero_le _, rfl, [], none, 0, 0, rfl, rfl, Nat.le_refl _, rfl, H.out.nilRow _ _⟩
  case round =>
    obtain ⟨j, hj, rfl, S, a1, c1, n, hS, hn, hnj, rfl, hO⟩ := hrel
    have HO : Hid (Own w0 wr (Row 46 4 (.slice a1 n c1) n (ccat S) :: l)) := hO
    have HS : Hid (outk (C.take j) k = S ∧ n = S.length) := ⟨hS, hn⟩
    clear H hS hn
    by_cases hlt : j < len
    · obtain ⟨q, hq⟩ : ∃ q, C[j]? = some q := ⟨_, List.getElem?_eq_getElem (by rw [HCS.out.1]; exact hlt)⟩
      obtain ⟨gg, o0, hao, _, y0, y1, y2, y3⟩ := (HCS.out.2.1 wr hO.tail).at j q hq
      subst hao
      have hq8 := HCS.out.2.2 q (List.mem_of_getElem? hq)
      have HST : Hid (outk (C.take (j + 1)) k = S ++ (if q.k = k then [] else [q])) := by show _ = _; rw [take_snoc C j q hq, outk_snoc, HS.out.1]
      have hlt' : (j : Int) < (len : Int) := by omega
      clear hq
      obtain ⟨qk, qa, qb, qc⟩ := q
      simp only at y0 y1 y2 y3 hq8 HST
      have hA : Own w0 (wr.alloc (.cells #[.int .u8 (qk : Int), .int .i32 qa, .int .i32 qb, .int .i32 qc] 46)) (Cells wr.heap.size #[.int .u8 (qk : Int), .int .i32 qa, .int .i32 qb, .int .i32 qc] 46 :: Row 46 4 (.slice a1 n c1) n (ccat S) :: l) := hO.allocC _ _
      have HA : Hid (Own w0 (wr.alloc (.cells #[.int .u8 (qk : Int), .int .i32 qa, .int .i32 qb, .int .i32 qc] 46)) (Cells wr.heap.size #[.int .u8 (qk : Int), .int .i32 qa, .int .i32 qb, .int .i32 qc] 46 :: Row 46 4 (.slice a1 n c1) n (ccat S) :: l)) := hA
      have t0 := hA.cell 0
      have t1 := hA.cell 1
      have t2 := hA.cell 2
      have t3 := hA.cell 3
      simp at t0 t1 t2 t3
      clear hA hO HO
      by_cases heq : qk = k
      · rw [if_pos heq] at HST
        have hne : ((qk : Int) != (k : Int)) = false := by simp [heq]
        clear heq
        go_wp2
        go_roundw
        case rel => exact ⟨j + 1, by omega, by go_num, S, _, _, n, by rw [HST.out]; simp, HS.out.2, by omega, rfl, HA.out.tail⟩
        case measure => simp [intOf]; omega
      · rw [if_neg heq] at HST
        have hne : ((qk : Int) != (k : Int)) = true := by rw [bne_iff_ne]; omega
        clear heq
        go_wp2_with (at_builtin; refine append1_own rfl _ _ 41 rfl 46 i0 _ 4 16 Tryd.underlying41 hi hz0 hz1 hz2 rfl (by decide) _ _ _ rfl HA.out.two _ #[.int .u8 (qk : Int), .int .i32 qa, .int .i32 qb, .int .i32 qc] (by simp) rfl rfl (by intro u hu; simp at hu; rcases hu with rfl | rfl | rfl | rfl <;> rfl) (by unfold maxLen; omega) (by omega) ?_)
        intro g4 c4 w4 hO4 hsz
        have H4 : Hid (Own w0 w4 (Row 46 4 (.slice (some ⟨g4, 0, none⟩) (n + 1) c4) (n + 1) (ccat (S ++ [⟨qk, qa, qb, qc⟩])) :: l)) := by show Own _ _ _; rw [ccat_snoc]; exact hO4.two.tail
        clear hO4 hsz t0 t1 t2 t3 y0 y1 y2 y3
        go_wp2
        go_roundw
        case rel => exact ⟨j + 1, by omega, by go_num, S ++ [⟨qk, qa, qb, qc⟩], _, _, n + 1, HST.out, by rw [List.length_append, ← HS.out.2]; rfl, by omega, rfl, H4.out⟩
        case measure => simp [intOf]; omega
    · have hjn : j = len := by omega
      subst hjn
      have hlt' : ¬ (j : Int) < (j : Int) := by omega
      have HE : Hid (outk C k = S ∧ n = S.length) := by
        refine ⟨?_, HS.out.2⟩
        have := HS.out.1
        rw [List.take_of_length_le (by rw [HCS.out.1]; exact Nat.le_refl _)] at this
        exact this
      clear hO
      go_wp2
      go_ret
      refine ⟨a1, c1, ?_, ?_⟩
      · rw [HE.out.1, ← HE.out.2]; rfl
      · rw [HE.out.1, ← HE.out.2]; exact HO.out
end Go.Proofs.YtkjanpjlpieaoaaDoor

