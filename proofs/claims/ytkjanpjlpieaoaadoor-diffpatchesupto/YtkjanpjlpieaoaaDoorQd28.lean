/-
  What becomes of one entity's components: the program's latest and changed.
-/
import Derived.Test.YtkjanpjlpieaoaaDoorQd26
import Derived.Test.YtkjanpjlpieaoaaDoorQd27
namespace Go.Proofs.YtkjanpjlpieaoaaDoor
open Go.RowKit
set_option linter.unusedVariables false
set_option maxRecDepth 100000

set_option maxHeartbeats 2000000 in
theorem latest_any (w : World) (q : Cp) (sa : Option Addr) (sn sc : Nat) (S : List Cp) (hn : S.length = sn) (hs : Cs w sa S) (hm : sn ≤ 2097152) :
    Calls Tryd.prog 53 #[.agg #[.int .u8 (q.k : Int), .int .i32 q.a, .int .i32 q.b, .int .i32 q.c], .slice sa sn sc] w fun e w' => e = .returned (.agg #[.int .u8 ((lat S q).k : Int), .int .i32 (lat S q).a, .int .i32 (lat S q).b, .int .i32 (lat S q).c]) ∧ Fr Nobody w w' := by
  have hB := ((Own.start w).allocC #[.int .u8 (q.k : Int), .int .i32 q.a, .int .i32 q.b, .int .i32 q.c] 46).allocC #[.int .u8 0, .int .i32 0, .int .i32 0, .int .i32 0] 46
  have e1 : (w.alloc (.cells #[.int .u8 (q.k : Int), .int .i32 q.a, .int .i32 q.b, .int .i32 q.c] 46)).heap.size = w.heap.size + 1 := by simp
  rw [e1] at hB
  have HP : Hid (Calls _ _ _ _ _) := place_any _ sa sn sc S hn (hs.quiet hB.fr) hm q.k
  have HB : Hid (Own w _ _) := hB
  have HS : Hid (S.length = sn ∧ Cs w sa S) := ⟨hn, hs⟩
  have HLT : Hid (∀ r, fst S q.k = some r → lat S q = r) := fun r hr => by unfold lat; rw [hr]; rfl
  have HLN : Hid (fst S q.k = none → lat S q = q) := fun hr => by unfold lat; rw [hr]; rfl
  clear hn hs hB e1
  generalize lat S q = lq at *
  obtain ⟨qk, qa, qb, qc⟩ := q
  simp only at HP HB HLT HLN
  go_enter Tryd.func53, Tryd.ntmps53
  go_wp2_with fail
  refine HP.out.mono ?_
  rintro e w1 ⟨r, rfl, hr, hf1⟩
  have hO := HB.out.quiet hf1
  have hne : w.heap.size + 1 ≠ w.heap.size := by omega
  generalize w.heap.size + 1 = b4 at *
  generalize w.heap.size = b2 at *
  have z0 := hO.cell 0
  have z1 := hO.cell 1
  have z2 := hO.cell 2
  have z3 := hO.cell 3
  have y0 := hO.froz 0
  have y1 := hO.froz 1
  have y2 := hO.froz 2
  have y3 := hO.froz 3
  have x0 := hO.two.cell 0
  have x1 := hO.two.cell 1
  have x2 := hO.two.cell 2
  have x3 := hO.two.cell 3
  simp at z0 z1 z2 z3 x0 x1 x2 x3
  rcases hr with ⟨rfl, hnone⟩ | ⟨i, s, rfl, hsi, hsome⟩
  · have hlq := HLN.out hnone
    subst hlq
    have h9 := (((hO.setC 0 (.int .u8 (qk : Int))).setC 1 (.int .i32 qa)).setC 2 (.int .i32 qb)).setC 3 (.int .i32 qc)
    simp at h9
    have H9 : Hid (Own w _ _) := h9
    clear h9 hO HP HB hf1 hnone HLT HLN
    go_wp2
    (try simp only [Exit.inBlock, Exit.then])
    refine bodyPost_ret (results_cell_row rfl _ _ b4 46 #[.int .u8 (qk : Int), .int .i32 qa, .int .i32 qb, .int .i32 qc] _ _ rfl H9.out.obj Tryd.underlying46 rfl (by kernel_rfl)) rfl ?_
    exact ⟨rfl, H9.out.fr⟩
  · have hlq := HLT.out s hsome
    subst hlq
    obtain ⟨g, o, hga, _, c0, c1, c2, c3⟩ := (HS.out.2.quiet hO.fr).at i lq hsi
    subst hga
    have hin : (i : Int) < (sn : Int) := by have := (List.getElem?_eq_some_iff.1 hsi).1; have := HS.out.1; omega
    have h9 := (((hO.setC 0 (.int .u8 (lq.k : Int))).setC 1 (.int .i32 lq.a)).setC 2 (.int .i32 lq.b)).setC 3 (.int .i32 lq.c)
    simp at h9
    have H9 : Hid (Own w _ _) := h9
    clear h9 hO HP HB hf1 hsome HLT HLN hsi
    obtain ⟨lk, la, lb, lc⟩ := lq
    simp only at c0 c1 c2 c3 H9 ⊢
    go_wp2
    (try simp only [Exit.inBlock, Exit.then])
    refine bodyPost_ret (results_cell_row rfl _ _ b4 46 #[.int .u8 (lk : Int), .int .i32 la, .int .i32 lb, .int .i32 lc] _ _ rfl H9.out.obj Tryd.underlying46 rfl (by kernel_rfl)) rfl ?_
    exact ⟨rfl, H9.out.fr⟩
theorem Own.rcs5 {w0 w : World} {l : List Thing} {ao : Option Addr} {cap n : Nat} {L : List Cp} (h : Own w0 w (Row 46 4 (.slice ao n cap) n (ccat L) :: l)) (hn : L.length = n) : Cs w ao L := Own.cs (h.view (by decide)) hn
theorem and_nat8 (m l : Nat) (hm : m < 64) (hl : l < 256) : ((bits .and .u8 (m : Int) (l : Int)) == 0) = decide (m &&& l = 0) := by
  rw [u8_and_nat m l (by omega) hl]
  generalize m &&& l = r
  rw [Bool.eq_iff_iff]
  simp
/-- what stays of the first ones, as it is set -/
def kept1 (A : List Cp) (lo : Nat) (S : List Cp) (j : Nat) : List Cp := ((A.take j).filter (stays lo)).map (lat S)
theorem kept1_on {A S : List Cp} {lo j : Nat} {q : Cp} (hq : A[j]? = some q) (h : stays lo q = true) : kept1 A lo S (j + 1) = kept1 A lo S j ++ [lat S q] := by
  unfold kept1
  rw [take_snoc A j q hq, List.filter_append]
  simp [h]
theorem kept1_off {A S : List Cp} {lo j : Nat} {q : Cp} (hq : A[j]? = some q) (h : stays lo q = false) : kept1 A lo S (j + 1) = kept1 A lo S j := by
  unfold kept1
  rw [take_snoc A j q hq, List.filter_append]
  simp [h]
theorem kept1_le (A S : List Cp) (lo j : Nat) : (kept1 A lo S j).length ≤ j := by
  unfold kept1
  rw [List.length_map]
  have h1 := List.length_filter_le (stays lo) (A.take j)
  rw [List.length_take] at h1
  omega
set_option maxHeartbeats 8000000 in
theorem changed_any (w0 w : World) (l : List Thing) (h : Own w0 w l) (aa : Option Addr) (an ac : Nat) (A : List Cp) (x : ChE) (hQ : ∀ w', Own w0 w' l → Cs w' aa A ∧ Cs w' x.na x.N ∧ Cs w' x.sa x.S) (hA : A.length = an) (hAk : ∀ q ∈ A, q.k < 256) (ham : an ≤ 1000000) (hxm : x.N.length + x.S.length ≤ 1000000) (hxl : x.lost < 256) :
    Calls Tryd.prog 32 #[.slice aa an ac, .agg #[.int .u32 (x.id : Int), .int .u8 (x.lost : Int), .slice x.na x.N.length x.nc, .slice x.sa x.S.length x.sc]] w fun e w' => ∃ (ao : Option Addr) (cap : Nat) (M : List Cp), e = .returned (.slice ao M.length cap) ∧ ChgR A x.v M ∧ Own w0 w' (Row 46 4 (.slice ao M.length cap) M.length (ccat M) :: l) := by
  obtain ⟨ic, hic, hz0, hz1, hz2⟩ := info_parts Tryd.infoComp
  have hB3 := h.allocC #[.int .u32 (x.id : Int), .int .u8 (x.lost : Int), .slice x.na x.N.length x.nc, .slice x.sa x.S.length x.sc] 51
  have HB3 : Hid (Own w0 _ _) := hB3
  have HQ : Hid (∀ w', Own w0 w' l → Cs w' aa A ∧ Cs w' x.na x.N ∧ Cs w' x.sa x.S) := hQ
  have HA : Hid (A.length = an ∧ ∀ q ∈ A, q.k < 256) := ⟨hA, hAk⟩
  obtain ⟨xi, lo, xN, xna, xnc, xS, xsa, xsc⟩ := x
  simp only at hxm hxl HB3 HQ ⊢
  generalize hnl : xN.length = nl at *
  generalize hsl : xS.length = sl at *
  have HNL : Hid (xN.length = nl ∧ xS.length = sl) := ⟨hnl, hsl⟩
  clear h hQ hA hAk hB3 hnl hsl
  go_enter Tryd.func32, Tryd.ntmps32
  go_wp2
  generalize hWg : w.alloc (.cells #[.int .u32 (xi : Int), .int .u8 (lo : Int), .slice xna nl xnc, .slice xsa sl xsc] 51) = W0 at *
  generalize w.heap.size = b3 at *
  clear hWg
  go_loopw [5, 10] (fun v5 v10 wr => ∃ (j : Nat) (oa : Option Addr) (oc : Nat), j ≤ an ∧ v10 = .int .i64 (j : Int) ∧ v5 = .slice oa (kept1 A lo xS j).length oc ∧ Own w0 wr (Row 46 4 (.slice oa (kept1 A lo xS j).length oc) (kept1 A lo xS j).length (ccat (kept1 A lo xS j)) :: Cells b3 #[.int .u32 (xi : Int), .int .u8 (lo : Int), .slice xna nl xnc, .slice xsa sl xsc] 51 :: l)) (fun _ v10 _ => an - (intOf v10).toNat)
  case atStart => exact ⟨0, none, 0, Nat.zero_le _, rfl, rfl, HB3.out.nilRow _ _⟩
  case round =>
    obtain ⟨j, oa, oc, hj, rfl, rfl, hO⟩ := hrel
    clear HB3
    have hkl := kept1_le A xS lo j
    by_cases hlt : j < an
    · have hlt' : (j : Int) < (an : Int) := by omega
      obtain ⟨q, hq⟩ : ∃ q, A[j]? = some q := ⟨_, List.getElem?_eq_getElem (by rw [HA.out.1]; exact hlt)⟩
      obtain ⟨g, o, hao, _, y0, y1, y2, y3⟩ := (HQ.out wr hO.tail.tail).1.at j q hq
      subst hao
      have hq8 := HA.out.2 q (List.mem_of_getElem? hq)
      have hB := hO.allocC #[.int .u8 (q.k : Int), .int .i32 q.a, .int .i32 q.b, .int .i32 q.c] 46
      have hL := (hB.litRow #[.int .u8 (q.k : Int), .int .i32 q.a, .int .i32 q.b, .int .i32 q.c] 46 4 1 (by decide) rfl).drew
      obtain ⟨ms, hms⟩ : ∃ ms, ms = msk [q] := ⟨_, rfl⟩
      have HMK : Hid (Calls _ _ _ _ _) := mask_any _ _ 1 1 [q] rfl (Own.rcs5 hL rfl) (fun y hy => by simp at hy; rw [hy]; exact hq8) (by decide)
      rw [← hms] at HMK
      obtain ⟨st, hst⟩ : ∃ st, stays lo q = st := ⟨_, rfl⟩
      have hand : ((bits .and .u8 (ms : Int) (lo : Int)) == 0) = st := by rw [← hst, hms]; exact and_nat8 _ _ (msk_lt _) hxl
      have HON : Hid (st = true → kept1 A lo xS (j + 1) = kept1 A lo xS j ++ [lat xS q]) := fun e => kept1_on hq (hst.trans e)
      have HOF : Hid (st = false → kept1 A lo xS (j + 1) = kept1 A lo xS j) := fun e => kept1_off hq (hst.trans e)
      have HLA : Hid (∀ W, Own w0 W l → Calls Tryd.prog 53 #[.agg #[.int .u8 (q.k : Int), .int .i32 q.a, .int .i32 q.b, .int .i32 q.c], .slice xsa sl xsc] W fun e w' => e = .returned (.agg #[.int .u8 ((lat xS q).k : Int), .int .i32 (lat xS q).a, .int .i32 (lat xS q).b, .int .i32 (lat xS q).c]) ∧ Fr Nobody W w') := fun W hW => latest_any W q xsa sl xsc xS HNL.out.2 (HQ.out W hW).2.2 (by omega)
      have HBL : Hid (Own w0 _ _) := (hB.alloc (.cells #[.int .u8 (q.k : Int), .int .i32 q.a, .int .i32 q.b, .int .i32 q.c] 46)).drew
      have HB : Hid (Own w0 _ _) := hB
      clear hO hB hL hq hst hms
      generalize lat xS q = lq at *
      obtain ⟨qk, qa, qb, qc⟩ := q
      simp only at y0 y1 y2 y3 hq8 HMK HLA HBL HB
      go_wp2
      generalize hWg : wr.alloc (.cells #[.int .u8 (qk : Int), .int .i32 qa, .int .i32 qb, .int .i32 qc] 46) = W1 at *
      generalize wr.heap.size = b7 at *
      clear hWg y0 y1 y2 y3
      have p0 := HB.out.cell 0
      have p1 := HB.out.cell 1
      have p2 := HB.out.cell 2
      have p3 := HB.out.cell 3
      have p4 := HB.out.three.cell 1
      simp at p0 p1 p2 p3 p4
      have n7 : W1.heap.size ≠ b7 := by have := HB.out.lt; omega
      have n3 : W1.heap.size ≠ b3 := by have := HB.out.three.lt; omega
      have l7 := HB.out.lt
      have l3 := HB.out.three.lt
      go_region_held3 (fun w' => w'.cell? ⟨b7, 0, none⟩ = some (.int .u8 (qk : Int)) ∧ w'.cell? ⟨b7, 1, none⟩ = some (.int .i32 qa) ∧ w'.cell? ⟨b7, 2, none⟩ = some (.int .i32 qb) ∧ w'.cell? ⟨b7, 3, none⟩ = some (.int .i32 qc) ∧ w'.cell? ⟨b3, 1, none⟩ = some (.int .u8 (lo : Int))) (go_keep)
        (first
          | (go_at_call 52; refine HMK.out.mono ?_; rintro e w5 ⟨rfl, hf5⟩
             have h5 := HBL.out.quiet hf5
             have u0 := h5.cell 0
             have u1 := h5.cell 1
             have u2 := h5.cell 2
             have u3 := h5.cell 3
             have u4 := h5.three.cell 1
             simp at u0 u1 u2 u3 u4)
          | fail)
      clear HMK HBL HB p0 p1 p2 p3 p4 n7 n3 l7 l3
      have u5 := h5.three.cell 3
      simp at u5
      have H5 : Hid (Own w0 w5 _) := h5
      cases st
      · have HE : Hid (kept1 A lo xS (j + 1) = kept1 A lo xS j) := HOF.out rfl
        have H6 : Hid (Own w0 w5 _) := h5.tail
        clear h5 H5 hf5 HON HOF HLA u0 u1 u2 u3 u4 u5
        go_wp2
        go_roundw
        case rel => exact ⟨j + 1, oa, oc, by omega, by go_num, by rw [HE.out], by rw [HE.out]; exact H6.out⟩
        case measure => simp [intOf]; omega
      · have HE : Hid (kept1 A lo xS (j + 1) = kept1 A lo xS j ++ [lq]) := HON.out rfl
        have HLL : Hid (Calls _ _ _ _ _) := HLA.out w5 h5.tail.tail.tail
        clear h5 hf5 HON HOF HLA
        go_wp2_with fail
        refine HLL.out.mono ?_
        rintro e w6 ⟨rfl, hf6⟩
        have h6 := H5.out.quiet hf6
        have H6 : Hid (Own w0 w6 _) := h6.two
        clear h6 hf6 HLL H5 u0 u1 u2 u3 u4 u5
        obtain ⟨lk, la, lb, lc⟩ := lq
        simp only at HE ⊢
        go_wp2_with (at_builtin; refine append1_own rfl _ _ 41 rfl 46 ic _ 4 16 Tryd.underlying41 hic hz0 hz1 hz2 rfl (by decide) _ _ _ rfl H6.out _ #[.int .u8 (lk : Int), .int .i32 la, .int .i32 lb, .int .i32 lc] (by simp) rfl rfl (by intro u hu; simp at hu; rcases hu with rfl | rfl | rfl | rfl <;> rfl) (by unfold maxLen; omega) (by omega) ?_)
        intro g8 c8 w8 hO8 hsz8
        have H8 : Hid (Own w0 w8 (Row 46 4 (.slice (some ⟨g8, 0, none⟩) (kept1 A lo xS (j + 1)).length c8) (kept1 A lo xS (j + 1)).length (ccat (kept1 A lo xS (j + 1))) :: Cells b3 #[.int .u32 (xi : Int), .int .u8 (lo : Int), .slice xna nl xnc, .slice xsa sl xsc] 51 :: l)) := by
          show Own _ _ _
          have e1 : (kept1 A lo xS (j + 1)).length = (kept1 A lo xS j).length + 1 := by rw [HE.out, List.length_append]; rfl
          have e2 : ccat (kept1 A lo xS (j + 1)) = ccat (kept1 A lo xS j) ++ [.int .u8 (lk : Int), .int .i32 la, .int .i32 lb, .int .i32 lc] := by rw [HE.out]; simp [ccat, cat, Cp.cs]
          rw [e1, e2]
          exact hO8.two.tail
        have HL8 : Hid ((kept1 A lo xS j).length + 1 = (kept1 A lo xS (j + 1)).length) := by show _ = _; rw [HE.out, List.length_append]; rfl
        clear hO8 hsz8 H6
        go_wp2
        go_roundw
        case rel => exact ⟨j + 1, _, _, by omega, by go_num, by rw [HL8.out], H8.out⟩
        case measure => simp [intOf]; omega
    · have hlt' : ¬ (j : Int) < (an : Int) := by omega
      have HK : Hid (kept1 A lo xS j = (A.filter (stays lo)).map (lat xS)) := by show _ = _; unfold kept1; rw [List.take_of_length_le (by rw [HA.out.1]; omega)]
      have q2 := hO.two.cell 2
      simp at q2
      have HO : Hid (Own w0 wr _) := hO
      have HCN : Hid (Cs wr xna xN) := (HQ.out wr hO.tail.tail).2.1
      clear hO
      generalize kept1 A lo xS j = O at *
      generalize hol : O.length = ol at *
      have HOL : Hid (O.length = ol) := hol
      clear hol
      go_wp2_with (at_builtin; refine append_cs rfl _ _ rfl ic hic _ hz0 hz1 hz2 rfl _ _ _ rfl xna nl xnc xN rfl HNL.out.1 HCN.out HO.out (by unfold maxLen; omega) (by omega) ?_)
      intro a6 c6 w6 hO6 hsz6
      obtain ⟨O2, hO2⟩ : ∃ O2, O2 = O ++ xN := ⟨_, rfl⟩
      have hO2l : O2.length = ol + nl := by rw [hO2, List.length_append, HOL.out, HNL.out.1]
      have h7 : Own w0 w6 (Row 46 4 (.slice a6 O2.length c6) O2.length (cat Cp.cs O2) :: Cells b3 #[.int .u32 (xi : Int), .int .u8 (lo : Int), .slice xna nl xnc, .slice xsa sl xsc] 51 :: l) := by
        rw [hO2l, hO2]
        have e : cat Cp.cs (O ++ xN) = ccat O ++ ccat xN := cat_append _ _ _
        rw [e]
        exact hO6
      have HSO : Hid (Calls _ _ _ _ _) := sort_cp w0 w6 _ a6 c6 O2 h7 (by omega)
      have HMI : Hid (∀ M, M.Perm O2 → M.Pairwise (fun a b => a.k ≤ b.k) → ChgR A (ChE.v ⟨xi, lo, xN, xna, xnc, xS, xsa, xsc⟩) M ∧ M.length = ol + nl) := fun M h1 h2 => ⟨⟨by unfold mid ChE.v; rw [← HK.out, ← hO2]; exact h1, h2⟩, by rw [h1.length_eq, hO2l]⟩
      rw [hO2l] at HSO
      clear h7 hO6 hsz6 HO q2
      generalize ol + nl = tl at *
      clear hO2 hO2l
      go_wp2_with fail
      refine HSO.out.mono ?_
      rintro e w7 ⟨rfl, M, hMp, hMs, h8⟩
      obtain ⟨hR, hMl⟩ := HMI.out M hMp hMs
      have H8 : Hid (ChgR A (ChE.v ⟨xi, lo, xN, xna, xnc, xS, xsa, xsc⟩) M ∧ M.length = tl ∧ Own w0 w7 (Row 46 4 (.slice a6 tl c6) tl (ccat M) :: l)) := ⟨hR, hMl, h8.two.tail⟩
      clear h8 hR hMl hMp hMs HSO HMI
      go_wp2
      go_ret
      refine ⟨a6, c6, M, ?_, H8.out.1, ?_⟩
      · rw [H8.out.2.1]; rfl
      · rw [H8.out.2.1]; exact H8.out.2.2
end Go.Proofs.YtkjanpjlpieaoaaDoor

