/-
  What becomes of one entity's components: the program's latest and changed.
-/
import Derived.Test.YtcmofbhfdagpcaaGreatDoorEnog
import Derived.Test.YtcmofbhfdagpcaaGreatDoorEnpg
import Derived.Deep.RegionWith
import Derived.Test.YtcmofbhfdagpcaaGreatDoorPrdg
import Derived.Defers
import Derived.Recover
import Derived.Deep.RegionHeld3
namespace Go.Proofs.YtcmofbhfdagpcaaGreatDoor
open Go.RowKit
set_option linter.unusedVariables false
set_option maxRecDepth 100000

set_option maxHeartbeats 2000000 in
theorem latest_any (w : World) (q : Cp) (sa : Option Addr) (sn sc : Nat) (S : List Cp) (hn : S.length = sn) (hs : Cs w sa S) (hm : sn ≤ 2097152) :
    Calls Tryz.prog 139 #[.agg #[.int .u8 (q.k : Int), .int .i32 q.a, .int .i32 q.b, .int .i32 q.c], .slice sa sn sc] w fun e w' => e = .returned (.agg #[.int .u8 ((lat S q).k : Int), .int .i32 (lat S q).a, .int .i32 (lat S q).b, .int .i32 (lat S q).c]) ∧ Fr Nobody w w' := by
  have hB := ((Own.start w).allocC #[.int .u8 (q.k : Int), .int .i32 q.a, .int .i32 q.b, .int .i32 q.c] 96).allocC #[.int .u8 0, .int .i32 0, .int .i32 0, .int .i32 0] 96
  have e1 : (w.alloc (.cells #[.int .u8 (q.k : Int), .int .i32 q.a, .int .i32 q.b, .int .i32 q.c] 96)).heap.size = w.heap.size + 1 := by simp
  rw [e1] at hB
  have HP : Hid (Calls _ _ _ _ _) := place_any _ sa sn sc S hn (hs.quiet hB.fr) hm q.k
  have HB : Hid (Own w _ _) := hB
  have HS : Hid (S.length = sn ∧ Cs w sa S) := ⟨hn, hs⟩
  have HLT : Hid (∀ r, fst S q.k = some r → lat S q = r) := fun r hr => by unfold lat; rw [hr]; rfl
  have HLN : Hid (fst S q.k = none → lat S q = q) := fun hr => by unfold lat; rw [hr]; rfl
  clear hn hs hB e1
  generalize lat S q = lq at *
  obtain ⟨qk, qa, qb, qc⟩ := q
  simp only at HP HB HLT HLN
  go_enter Tryz.func139, Tryz.ntmps139
  go_wp2_with fail
  refine HP.out.mono ?_
  rintro e w1 ⟨r, rfl, hr, hf1⟩
  have hO := HB.out.quiet hf1
  have hne : w.heap.size + 1 ≠ w.heap.size := by omega
  generalize w.heap.size + 1 = b4 at *
  generalize w.heap.size = b2 at *
  have z0 := hO.cell 0
  have z1 := hO.cell 1
  have z2 := hO.cell 2
  have z3 := hO.cell 3
  have y0 := hO.froz 0
  have y1 := hO.froz 1
  have y2 := hO.froz 2
  have y3 := hO.froz 3
  have x0 := hO.two.cell 0
  have x1 := hO.two.cell 1
  have x2 := hO.two.cell 2
  have x3 := hO.two.cell 3
  simp at z0 z1 z2 z3 x0 x1 x2 x3
  rcases hr with ⟨rfl, hnone⟩ | ⟨i, s, rfl, hsi, hsome⟩
  · have hlq := HLN.out hnone
    subst hlq
    have h9 := (((hO.setC 0 (.int .u8 (qk : Int))).setC 1 (.int .i32 qa)).setC 2 (.int .i32 qb)).setC 3 (.int .i32 qc)
    simp at h9
    have H9 : Hid (Own w _ _) := h9
    clear h9 hO HP HB hf1 hnone HLT HLN
    go_wp2
    (try simp only [Exit.inBlock, Exit.then])
    refine bodyPost_ret (results_cell_row rfl _ _ b4 96 #[.int .u8 (qk : Int), .int .i32 qa, .int .i32 qb, .int .i32 qc] _ _ rfl H9.out.obj Tryz.underlying96 rfl (by kernel_rfl)) rfl ?_
    exact ⟨rfl, H9.out.fr⟩
  · have hlq := HLT.out s hsome
    subst hlq
    obtain ⟨g, o, hga, _, c0, c1, c2, c3⟩ := (HS.out.2.quiet hO.fr).at i lq hsi
    subst hga
    have hin : (i : Int) < (sn : Int) := by have := (List.getElem?_eq_some_iff.1 hsi).1; have := HS.out.1; omega
    have h9 := (((hO.setC 0 (.int .u8 (lq.k : Int))).setC 1 (.int .i32 lq.a)).setC 2 (.int .i32 lq.b)).setC 3 (.int .i32 lq.c)
    simp at h9
    have H9 : Hid (Own w _ _) := h9
    clear h9 hO HP HB hf1 hsome HLT HLN hsi
    obtain ⟨lk, la, lb, lc⟩ := lq
    simp only at c0 c1 c2 c3 H9 ⊢
    go_wp2
    (try simp only [Exit.inBlock, Exit.then])
    refine bodyPost_ret (results_cell_row rfl _ _ b4 96 #[.int .u8 (lk : Int), .int .i32 la, .int .i32 lb, .int .i32 lc] _ _ rfl H9.out.obj Tryz.underlying96 rfl (by kernel_rfl)) rfl ?_
    exact ⟨rfl, H9.out.fr⟩
theorem Own.rcs5 {w0 w : World} {l : List Thing} {ao : Option Addr} {cap n : Nat} {L : List Cp} (h : Own w0 w (Row 96 4 (.slice ao n cap) n (ccat L) :: l)) (hn : L.length = n) : Cs w ao L := Own.cs (h.view (by decide)) hn
theorem and_nat8 (m l : Nat) (hm : m < 64) (hl : l < 256) : ((bits .and .u8 (m : Int) (l : Int)) == 0) = decide (m &&& l = 0) := by
  rw [u8_and_nat m l (by omega) hl]
  generalize m &&& l = r
  rw [Bool.eq_iff_iff]
  simp
/-- what stays of the first ones, as it is set -/
def kept1 (A : List Cp) (lo : Nat) (S : List Cp) (j : Nat) : List Cp := ((A.take j).filter (stays lo)).map (lat S)
theorem kept1_on {A S : List Cp} {lo j : Nat} {q : Cp} (hq : A[j]? = some q) (h : stays lo q = true) : kept1 A lo S (j + 1) = kept1 A lo S j ++ [lat S q] := by
  unfold kept1
  rw [take_snoc A j q hq, List.filter_append]
  simp [h]
theorem kept1_off {A S : List Cp} {lo j : Nat} {q : Cp} (hq : A[j]? = some q) (h : stays lo q = false) : kept1 A lo S (j + 1) = kept1 A lo S j := by
  unfold kept1
  rw [take_snoc A j q hq, List.filter_append]
  simp [h]
theorem kept1_le (A S : List Cp) (lo j : Nat) : (kept1 A lo S j).length ≤ j := by
  unfold kept1
  rw [List.length_map]
  have h1 := List.length_filter_le (stays lo) (A.take j)
  rw [List.length_take] at h1
  omega
set_option maxHeartbeats 8000000 in
theorem changed_any (w0 w : World) (l : List Thing) (h : Own w0 w l) (aa : Option Addr) (an ac : Nat) (A : List Cp) (x : ChE) (hQ : ∀ w', Own w0 w' l → Cs w' aa A ∧ Cs w' x.na x.N ∧ Cs w' x.sa x.S) (hA : A.length = an) (hAk : ∀ q ∈ A, q.k < 256) (ham : an ≤ 1000000) (hxm : x.N.length + x.S.length ≤ 1000000) (hxl : x.lost < 256) :
    Calls Tryz.prog 116 #[.slice aa an ac, .agg #[.int .u32 (x.id : Int), .int .u8 (x.lost : Int), .slice x.na x.N.length x.nc, .slice x.sa x.S.length x.sc]] w fun e w' => ∃ (ao : Option Addr) (cap : Nat) (M : List Cp), e = .returned (.slice ao M.length cap) ∧ ChgR A x.v M ∧ Own w0 w' (Row 96 4 (.slice ao M.length cap) M.length (ccat M) :: l) := by
  obtain ⟨ic, hic, hz0, hz1, hz2⟩ := info_parts Tryz.infoComp
  have hB3 := h.allocC #[.int .u32 (x.id : Int), .int .u8 (x.lost : Int), .slice x.na x.N.length x.nc, .slice x.sa x.S.length x.sc] 131
  have HB3 : Hid (Own w0 _ _) := hB3
  have HQ : Hid (∀ w', Own w0 w' l → Cs w' aa A ∧ Cs w' x.na x.N ∧ Cs w' x.sa x.S) := hQ
  have HA : Hid (A.length = an ∧ ∀ q ∈ A, q.k < 256) := ⟨hA, hAk⟩
  obtain ⟨xi, lo, xN, xna, xnc, xS, xsa, xsc⟩ := x
  simp only at hxm hxl HB3 HQ ⊢
  generalize hnl : xN.length = nl at *
  generalize hsl : xS.length = sl at *
  have HNL : Hid (xN.length = nl ∧ xS.length = sl) := ⟨hnl, hsl⟩
  clear h hQ hA hAk hB3 hnl hsl
  go_enter Tryz.func116, Tryz.ntmps116
  go_wp2
  generalize hWg : w.alloc (.cells #[.int .u32 (xi : Int), .int .u8 (lo : Int), .slice xna nl xnc, .slice xsa sl xsc] 131) = W0 at *
  generalize w.heap.size = b3 at *
  clear hWg
  go_loopw [5, 10] (fun v5 v10 wr => ∃ (j : Nat) (oa : Option Addr) (oc : Nat), j ≤ an ∧ v10 = .int .i64 (j : Int) ∧ v5 = .slice oa (kept1 A lo xS j).length oc ∧ Own w0 wr (Row 96 4 (.slice oa (kept1 A lo xS j).length oc) (kept1 A lo xS j).length (ccat (kept1 A lo xS j)) :: Cells b3 #[.int .u32 (xi : Int), .int .u8 (lo : Int), .slice xna nl xnc, .slice xsa sl xsc] 131 :: l)) (fun _ v10 _ => an - (intOf v10).toNat)
  case atStart => exact ⟨0, none, 0, Nat.zero_le _, rfl, rfl, HB3.out.nilRow _ _⟩
  case round =>
    obtain ⟨j, oa, oc, hj, rfl, rfl, hO⟩ := hrel
    clear HB3
    have hkl := kept1_le A xS lo j
    by_cases hlt : j < an
    · have hlt' : (j : Int) < (an : Int) := by omega
      obtain ⟨q, hq⟩ : ∃ q, A[j]? = some q := ⟨_, List.getElem?_eq_getElem (by rw [HA.out.1]; exact hlt)⟩
      obtain ⟨g, o, hao, _, y0, y1, y2, y3⟩ := (HQ.out wr hO.tail.tail).1.at j q hq
      subst hao
      have hq8 := HA.out.2 q (List.mem_of_getElem? hq)
      have hB := hO.allocC #[.int .u8 (q.k : Int), .int .i32 q.a, .int .i32 q.b, .int .i32 q.c] 96
      have hL := (hB.litRow #[.int .u8 (q.k : Int), .int .i32 q.a, .int .i32 q.b, .int .i32 q.c] 96 4 1 (by decide) rfl).drew
      obtain ⟨ms, hms⟩ : ∃ ms, ms = msk [q] := ⟨_, rfl⟩
      have HMK : Hid (Calls _ _ _ _ _) := mask_any _ _ 1 1 [q] rfl (Own.rcs5 hL rfl) (fun y hy => by simp at hy; rw [hy]; exact hq8) (by decide)
      rw [← hms] at HMK
      obtain ⟨st, hst⟩ : ∃ st, stays lo q = st := ⟨_, rfl⟩
      have hand : ((bits .and .u8 (ms : Int) (lo : Int)) == 0) = st := by rw [← hst, hms]; exact and_nat8 _ _ (msk_lt _) hxl
      have HON : Hid (st = true → kept1 A lo xS (j + 1) = kept1 A lo xS j ++ [lat xS q]) := fun e => kept1_on hq (hst.trans e)
      have HOF : Hid (st = false → kept1 A lo xS (j + 1) = kept1 A lo xS j) := fun e => kept1_off hq (hst.trans e)
      have HLA : Hid (∀ W, Own w0 W l → Calls Tryz.prog 139 #[.agg #[.int .u8 (q.k : Int), .int .i32 q.a, .int .i32 q.b, .int .i32 q.c], .slice xsa sl xsc] W fun e w' => e = .returned (.agg #[.int .u8 ((lat xS q).k : Int), .int .i32 (lat xS q).a, .int .i32 (lat xS q).b, .int .i32 (lat xS q).c]) ∧ Fr Nobody W w') := fun W hW => latest_any W q xsa sl xsc xS HNL.out.2 (HQ.out W hW).2.2 (by omega)
      have HBL : Hid (Own w0 _ _) := (hB.alloc (.cells #[.int .u8 (q.k : Int), .int .i32 q.a, .int .i32 q.b, .int .i32 q.c] 96)).drew
      have HB : Hid (Own w0 _ _) := hB
      clear hO hB hL hq hst hms
      generalize lat xS q = lq at *
      obtain ⟨qk, qa, qb, qc⟩ := q
      simp only at y0 y1 y2 y3 hq8 HMK HLA HBL HB
      go_wp2
      generalize hWg : wr.alloc (.cells #[.int .u8 (qk : Int), .int .i32 qa, .int .i32 qb, .int .i32 qc] 96) = W1 at *
      generalize wr.heap.size = b7 at *
      clear hWg y0 y1 y2 y3
      have p0 := HB.out.cell 0
      have p1 := HB.out.cell 1
      have p2 := HB.out.cell 2
      have p3 := HB.out.cell 3
      have p4 := HB.out.three.cell 1
      simp at p0 p1 p2 p3 p4
      have n7 : W1.heap.size ≠ b7 := by have := HB.out.lt; omega
      have n3 : W1.heap.size ≠ b3 := by have := HB.out.three.lt; omega
      have l7 := HB.out.lt
      have l3 := HB.out.three.lt
      go_region_held3 (fun w' => w'.cell? ⟨b7, 0, none⟩ = some (.int .u8 (qk : Int)) ∧ w'.cell? ⟨b7, 1, none⟩ = some (.int .i32 qa) ∧ w'.cell? ⟨b7, 2, none⟩ = some (.int .i32 qb) ∧ w'.cell? ⟨b7, 3, none⟩ = some (.int .i32 qc) ∧ w'.cell? ⟨b3, 1, none⟩ = some (.int .u8 (lo : Int))) (go_keep)
        (first
          | (go_at_call 54; refine HMK.out.mono ?_; rintro e w5 ⟨rfl, hf5⟩
             have h5 := HBL.out.quiet hf5
             have u0 := h5.cell 0
             have u1 := h5.cell 1
             have u2 := h5.cell 2
             have u3 := h5.cell 3
             have u4 := h5.three.cell 1
             simp at u0 u1 u2 u3 u4)
          | fail)
      clear HMK HBL HB p0 p1 p2 p3 p4 n7 n3 l7 l3
      have u5 := h5.three.cell 3
      simp at u5
      have H5 : Hid (Own w0 w5 _) := h5
      cases st
      · have HE : Hid (kept1 A lo xS (j + 1) = kept1 A lo xS j) := HOF.out rfl
        have H6 : Hid (Own w0 w5 _) := h5.tail
        clear h5 H5 hf5 HON HOF HLA u0 u1 u2 u3 u4 u5
        go_wp2
        go_roundw
        case rel => exact ⟨j + 1, oa, oc, by omega, by go_num, by rw [HE.out], by rw [HE.out]; exact H6.out⟩
        case measure => simp [intOf]; omega
      · have HE : Hid (kept1 A lo xS (j + 1) = kept1 A lo xS j ++ [lq]) := HON.out rfl
        have HLL : Hid (Calls _ _ _ _ _) := HLA.out w5 h5.tail.tail.tail
        clear h5 hf5 HON HOF HLA
        go_wp2_with fail
        refine HLL.out.mono ?_
        rintro e w6 ⟨rfl, hf6⟩
        have h6 := H5.out.quiet hf6
        have H6 : Hid (Own w0 w6 _) := h6.two
        clear h6 hf6 HLL H5 u0 u1 u2 u3 u4 u5
        obtain ⟨lk, la, lb, lc⟩ := lq
        simp only at HE ⊢
        go_wp2_with (at_builtin; refine append1_own rfl _ _ 88 rfl 96 ic _ 4 16 Tryz.underlying88 hic hz0 hz1 hz2 rfl (by decide) _ _ _ rfl H6.out _ #[.int .u8 (lk : Int), .int .i32 la, .int .i32 lb, .int .i32 lc] (by simp) rfl rfl (by intro u hu; simp at hu; rcases hu with rfl | rfl | rfl | rfl <;> rfl) (by unfold maxLen; omega) (by omega) ?_)
        intro g8 c8 w8 hO8 hsz8
        have H8 : Hid (Own w0 w8 (Row 96 4 (.slice (some ⟨g8, 0, none⟩) (kept1 A lo xS (j + 1)).length c8) (kept1 A lo xS (j + 1)).length (ccat (kept1 A lo xS (j + 1))) :: Cells b3 #[.int .u32 (xi : Int), .int .u8 (lo : Int), .slice xna nl xnc, .slice xsa sl xsc] 131 :: l)) := by
          show Own _ _ _
          have e1 : (kept1 A lo xS (j + 1)).length = (kept1 A lo xS j).length + 1 := by rw [HE.out, List.length_append]; rfl
          have e2 : ccat (kept1 A lo xS (j + 1)) = ccat (kept1 A lo xS j) ++ [.int .u8 (lk : Int), .int .i32 la, .int .i32 lb, .int .i32 lc] := by rw [HE.out]; simp [ccat, cat, Cp.cs]
          rw [e1, e2]
          exact hO8.two.tail
        have HL8 : Hid ((kept1 A lo xS j).length + 1 = (kept1 A lo xS (j + 1)).length) := by show _ = _; rw [HE.out, List.length_append]; rfl
        clear hO8 hsz8 H6
        go_wp2
        go_roundw
        case rel => exact ⟨j + 1, _, _, by omega, by go_num, by rw [HL8.out], H8.out⟩
        case measure => simp [intOf]; omega
    · have hlt' : ¬ (j : Int) < (an : Int) := by omega
      have HK : Hid (kept1 A lo xS j = (A.filter (stays lo)).map (lat xS)) := by show _ = _; unfold kept1; rw [List.take_of_length_le (by rw [HA.out.1]; omega)]
      have q2 := hO.two.cell 2
      simp at q2
      have HO : Hid (Own w0 wr _) := hO
      have HCN : Hid (Cs wr xna xN) := (HQ.out wr hO.tail.tail).2.1
      clear hO
      generalize kept1 A lo xS j = O at *
      generalize hol : O.length = ol at *
      have HOL : Hid (O.length = ol) := hol
      clear hol
      go_wp2_with (at_builtin; refine append_cs rfl _ _ rfl ic hic _ hz0 hz1 hz2 rfl _ _ _ rfl xna nl xnc xN rfl HNL.out.1 HCN.out HO.out (by unfold maxLen; omega) (by omega) ?_)
      intro a6 c6 w6 hO6 hsz6
      obtain ⟨O2, hO2⟩ : ∃ O2, O2 = O ++ xN := ⟨_, rfl⟩
      have hO2l : O2.length = ol + nl := by rw [hO2, List.length_append, HOL.out, HNL.out.1]
      have h7 : Own w0 w6 (Row 96 4 (.slice a6 O2.length c6) O2.length (cat Cp.cs O2) :: Cells b3 #[.int .u32 (xi : Int), .int .u8 (lo : Int), .slice xna nl xnc, .slice xsa sl xsc] 131 :: l) := by
        rw [hO2l, hO2]
        have e : cat Cp.cs (O ++ xN) = ccat O ++ ccat xN := cat_append _ _ _
        rw [e]
        exact hO6
      have HSO : Hid (Calls _ _ _ _ _) := sort_cp w0 w6 _ a6 c6 O2 h7 (by omega)
      have HMI : Hid (∀ M, M.Perm O2 → M.Pairwise (fun a b => a.k ≤ b.k) → ChgR A (ChE.v ⟨xi, lo, xN, xna, xnc, xS, xsa, xsc⟩) M ∧ M.length = ol + nl) := fun M h1 h2 => ⟨⟨by unfold mid ChE.v; rw [← HK.out, ← hO2]; exact h1, h2⟩, by rw [h1.length_eq, hO2l]⟩
      rw [hO2l] at HSO
      clear h7 hO6 hsz6 HO q2
      generalize ol + nl = tl at *
      clear hO2 hO2l
      go_wp2_with fail
      refine HSO.out.mono ?_
      rintro e w7 ⟨rfl, M, hMp, hMs, h8⟩
      obtain ⟨hR, hMl⟩ := HMI.out M hMp hMs
      have H8 : Hid (ChgR A (ChE.v ⟨xi, lo, xN, xna, xnc, xS, xsa, xsc⟩) M ∧ M.length = tl ∧ Own w0 w7 (Row 96 4 (.slice a6 tl c6) tl (ccat M) :: l)) := ⟨hR, hMl, h8.two.tail⟩
      clear h8 hR hMl hMp hMs HSO HMI
      go_wp2
      go_ret
      refine ⟨a6, c6, M, ?_, H8.out.1, ?_⟩
      · rw [H8.out.2.1]; rfl
      · rw [H8.out.2.1]; exact H8.out.2.2
end Go.Proofs.YtcmofbhfdagpcaaGreatDoor


/-
  What becomes of those that were there: the program's after.
-/
namespace Go.Proofs.YtcmofbhfdagpcaaGreatDoor
open Go.RowKit
set_option linter.unusedVariables false
set_option maxRecDepth 100000

theorem aft_g {x : En} {t : List En} {g : List Nat} {c : List Chg} {L : List En} (h : AftR t g c L) : AftR (x :: t) (x.1 :: g) c L := by
  unfold AftR
  simp only [List.head?_cons, if_true, List.tail_cons]
  exact h
theorem aft_c {x : En} {t : List En} {g : List Nat} {y : Chg} {c : List Chg} {M : List Cp} {L : List En} (hg : g.head? ≠ some x.1) (hy : y.id = x.1) (hM : ChgR x.2 y M) (h : AftR t g c L) : AftR (x :: t) g (y :: c) ((x.1, M) :: L) := by
  unfold AftR
  rw [if_neg hg]
  simp only
  rw [if_pos hy]
  exact ⟨M, L, rfl, hM, h⟩
theorem aft_s {x : En} {t : List En} {g : List Nat} {c : List Chg} {L : List En} (hg : g.head? ≠ some x.1) (hc : c.head?.map Chg.id ≠ some x.1) (h : AftR t g c L) : AftR (x :: t) g c (x :: L) := by
  unfold AftR
  rw [if_neg hg]
  cases c with
  | nil => exact ⟨L, rfl, h⟩
  | cons y c =>
    simp only
    rw [if_neg (by simpa using hc)]
    exact ⟨L, rfl, h⟩
theorem chgR_len {A : List Cp} {x : ChE} {M : List Cp} (h : ChgR A x.v M) : M.length ≤ A.length + x.N.length := by
  rw [h.1.length_eq]
  unfold mid ChE.v
  rw [List.length_append, List.length_map]
  have := List.length_filter_le (stays x.lost) A
  show _ + x.N.length ≤ _
  simp only
  omega
theorem chgR_k {A : List Cp} {x : ChE} {M : List Cp} (h : ChgR A x.v M) (hA : ∀ q ∈ A, q.k < 256) (hN : ∀ q ∈ x.N, q.k < 256) : ∀ q ∈ M, q.k < 256 := by
  intro q hq
  have := h.1.subset hq
  unfold mid ChE.v at this
  rcases List.mem_append.1 this with h1 | h1
  · obtain ⟨y, hy, rfl⟩ := List.mem_map.1 h1
    rw [lat_k]
    exact hA y (List.mem_filter.1 hy).1
  · exact hN q h1
theorem Nums.tail {w : World} {g o n c c' : Nat} {x : Nat} {t : List Nat} (h : Nums .u32 w (.slice (some ⟨g, o, none⟩) n c) (x :: t)) : Nums .u32 w (.slice (some ⟨g, o + 1, none⟩) t.length c') t := by
  refine ⟨_, _, rfl, ?_⟩
  obtain ⟨a, c2, e, h⟩ := h
  simp only [Value.slice.injEq] at e
  rcases h with h | ⟨g', o', ha, hc⟩
  · cases h
  · rw [← e.1] at ha
    cases ha
    refine .inr ⟨g, o + 1, rfl, fun j y hy => ?_⟩
    have := hc (j + 1) y (by simpa using hy)
    rw [show o + 1 + j = o + (j + 1) by omega]
    exact this
theorem Nums.nil (k : IntKind) (w : World) (ao : Option Addr) (c : Nat) : Nums k w (.slice ao 0 c) [] := ⟨ao, c, rfl, .inl rfl⟩
theorem ChsAt.tail {w : World} {g o : Nat} {x : ChE} {t : List ChE} (h : ChsAt w (some ⟨g, o, none⟩) (x :: t)) : ChsAt w (some ⟨g, o + 4, none⟩) t := by
  refine ⟨?_, fun y hy => h.2 y (List.mem_cons_of_mem _ hy)⟩
  rcases h.1 with h0 | ⟨g', o', ha, hc⟩
  · cases h0
  · cases ha
    refine .inr ⟨g, o + 4, rfl, fun j y hy => ?_⟩
    have := hc (j + 1) y (by simpa using hy)
    have e : o + (j + 1) * 4 = o + 4 + j * 4 := by omega
    rw [e] at this
    exact this
theorem ChsAt.nil (w : World) (ao : Option Addr) : ChsAt w ao [] := ⟨.inl rfl, fun x hx => by cases hx⟩
/-- where after stands -/
structure AfR (w0 : World) (l : List Thing) (W : List EnE) (d : DlE) (b3 : Nat) (n j : Nat) (G1 : List Nat) (ga : Option Addr) (gc : Nat) (H1 : List ChE) (ha : Option Addr) (hc : Nat) (L1 : List EnE) (la : Option Addr) (lc : Nat) (Y : List EnE) (wr : World) : Prop where
  rd : ∀ w', Own w0 w' l → Nums .u32 w' (.slice ga G1.length gc) G1 ∧ ChsAt w' ha H1
  cp : G1.length ≤ gc ∧ H1.length ≤ hc ∧ gc ≤ 9223372036854775807 ∧ hc ≤ 9223372036854775807
  sf : H1 <:+ d.H
  gl : G1.length ≤ d.G.length
  kk : ∀ L2, AftR ((evs W).drop j) G1 (chv H1) L2 → AftR (evs W) d.G (chv d.H) (evs L1 ++ L2)
  le : L1.length ≤ j
  sz : csz L1 + hsz H1 ≤ csz (W.take j) + hsz d.H
  inn : EIn L1
  src : ∀ x ∈ L1, x ∈ Y ∨ x ∈ W
  own : Own w0 wr (Row 90 2 (.slice la L1.length lc) L1.length (cat EnE.cs L1) :: Cells b3 d.vs 70 :: (Y.map erow ++ l))
end Go.Proofs.YtcmofbhfdagpcaaGreatDoor


/-
  What becomes of those that were there: the walk of the program's after.
-/
namespace Go.Proofs.YtcmofbhfdagpcaaGreatDoor
open Go.RowKit
set_option linter.unusedVariables false
set_option maxRecDepth 100000

theorem evs_get {L M : List EnE} (h : evs L = evs M) {j : Nat} {x : EnE} (hx : L[j]? = some x) : ∃ y, M[j]? = some y ∧ y.id = x.id ∧ y.C = x.C := by
  have h1 : (evs M)[j]? = some (x.id, x.C) := by rw [← h]; exact evs_at hx
  unfold evs at h1
  rw [List.getElem?_map] at h1
  obtain ⟨y, hy, e⟩ := Option.map_eq_some_iff.1 h1
  simp only [Prod.mk.injEq] at e
  exact ⟨y, hy, e.1, e.2⟩
theorem evs_mem {L M : List EnE} (h : evs L = evs M) {x : EnE} (hx : x ∈ L) : ∃ y ∈ M, y.id = x.id ∧ y.C = x.C := by
  obtain ⟨j, hj⟩ := List.getElem?_of_mem hx
  obtain ⟨y, hy, e⟩ := evs_get h hj
  exact ⟨y, List.mem_of_getElem? hy, e⟩
theorem EIn.of_evs {L M : List EnE} (h : evs L = evs M) (hM : EIn M) : EIn L := fun x hx => by
  obtain ⟨y, hy, e1, e2⟩ := evs_mem h hx
  rw [← e1, ← e2]
  exact hM y hy
theorem csz_evs {L M : List EnE} (h : evs L = evs M) : csz L = csz M := by
  induction L generalizing M with
  | nil => cases M with
    | nil => rfl
    | cons y s => simp [evs] at h
  | cons x t ih =>
    cases M with
    | nil => simp [evs] at h
    | cons y s =>
      simp only [evs, List.map_cons, List.cons.injEq, Prod.mk.injEq] at h
      simp only [csz]
      rw [ih h.2, h.1.2]
theorem esz_evs {L M : List EnE} (h : evs L = evs M) : esz L = esz M := by
  have h1 := congrArg List.length h
  rw [evs_len, evs_len] at h1
  unfold esz
  rw [h1, csz_evs h]
theorem Own.dropB {w0 w : World} {P : Thing} {A l : List Thing} (h : Own w0 w (P :: (A ++ l))) : Own w0 w (P :: l) := by
  induction A with
  | nil => exact h
  | cons a t ih => exact ih (Own.two h).tail
theorem csz_snoc (L : List EnE) (x : EnE) : csz (L ++ [x]) = csz L + x.C.length := by rw [csz_append]; simp [csz]
theorem hsz_cons (y : ChE) (t : List ChE) : hsz (y :: t) = y.N.length + y.S.length + hsz t := rfl
theorem csz_perm {L M : List EnE} (h : L.Perm M) : csz L = csz M := by
  induction h with
  | nil => rfl
  | cons x _ ih => simp only [csz, ih]
  | swap x y l => simp only [csz]; omega
  | trans _ _ h1 h2 => exact h1.trans h2
theorem EntsAt.cells {w : World} {ao : Option Addr} {L : List EnE} (h : EntsAt w ao L) (hL : L ≠ []) : ∃ g o, ao = some ⟨g, o, none⟩ ∧ ∀ j u, (cat EnE.cs L)[j]? = some u → w.cell? ((⟨g, o, none⟩ : Addr).add j) = some u := by
  rcases h.1 with h0 | ⟨g, o, ha, hc⟩
  · exact absurd h0 hL
  · refine ⟨g, o, ha, fun j u hu => ?_⟩
    have hj := (List.getElem?_eq_some_iff.1 hu).1
    rw [length_cat EnE.cs 2 (fun _ => rfl)] at hj
    obtain ⟨q, hq⟩ : ∃ q, L[j / 2]? = some q := ⟨_, List.getElem?_eq_getElem (by omega)⟩
    have e : j = j / 2 * 2 + j % 2 := by omega
    rw [e, cat_at EnE.cs 2 (fun _ => rfl) L _ _ q hq (Nat.mod_lt _ (by decide))] at hu
    obtain ⟨h0, h1⟩ := hc _ q hq
    rw [addr_add, e]
    have c : j % 2 = 0 ∨ j % 2 = 1 := by omega
    rcases c with c | c <;> rw [c] at hu ⊢ <;> simp [EnE.cs] at hu <;> subst hu
    · exact h0
    · rw [← Nat.add_assoc]; exact h1
/-- append(l, more...) of entities -/
theorem append_en {w0 w : World} {l : List Thing} {ops : Array Oper} {rest : List Oper} {o : Oper} {a : Act} {Q : Exit → Act → World → Prop} (hgd : o.guard = none) (sx x : Operand)
    (ho : o.op = .call { callee := .builtin .append, args := #[sx, x], argTypes := #[31, 31] })
    (i : TypeInfo) (hi : Tryz.prog.info? 90 = some i) (z : Value) (hz : i.zero = some z) (hsize : i.size = 2) (hby : i.bytes = 32) (hzs : z.cells.size = 2)
    (v : Value) (n : Nat) (xs : List Value) (hs : a.eval sx = v) (ao : Option Addr) (m cap : Nat) (L : List EnE) (hx : a.eval x = .slice ao m cap) (hL : L.length = m) (hc : EntsAt w ao L) (hown : Own w0 w (Row 90 2 v n xs :: l))
    (h63 : n + m ≤ maxLen) (hbytes : (n + m) * 32 ≤ 140737488355328)
    (h : ∀ ao' cap' w', Own w0 w' (Row 90 2 (.slice ao' (n + m) cap') (n + m) (xs ++ cat EnE.cs L) :: l) → wpList Tryz.prog ops Q rest (a.put o.dst (.slice ao' (n + m) cap')) w') : wpList Tryz.prog ops Q (o :: rest) a w := by
  rcases Nat.eq_zero_or_pos m with h0 | h0
  · subst h0
    have hy : L = [] := List.eq_nil_of_length_eq_zero hL
    subst hy
    obtain ⟨va, vc, rfl⟩ := row_any hown.row
    refine wpList_plain hgd fun K hK' => ?_
    have hr := run_append_empty (P := Tryz.prog) w 0 31 o.type 90 i 2 Tryz.underlying31 hi _ n xs hown.row ao cap
    unfold Oper.wp
    simp [execOp, ho, resolve, invoke, builtin, hs, hx, hr, Result.andThen]
    exact hK' _ _ (by simpa using h va vc w (by simpa [cat] using hown))
  · obtain ⟨g, o', rfl, hcc⟩ := hc.cells (fun e => by rw [e] at hL; simp at hL; omega)
    refine append_own hgd sx x 31 ho 90 i z 2 32 Tryz.underlying31 hi hz hsize hby hzs (by decide) v n xs hs hown ⟨g, o', none⟩ m cap (cat EnE.cs L) hx (by rw [length_cat EnE.cs 2 (fun _ => rfl), hL]) hcc (one_cat EnE.cs (fun x u hu => by simp [EnE.cs] at hu; rcases hu with rfl | rfl <;> rfl) L) h0 h63 hbytes ?_
    intro g' cap' w' hO hsz
    exact h _ _ w' hO
set_option maxHeartbeats 32000000 in
theorem after_any (w0 w : World) (l : List Thing) (h : Own w0 w l) (aw : Option Addr) (n cw : Nat) (W : List EnE) (d : DlE) (hQ : ∀ w', Own w0 w' l → EntsAt w' aw W ∧ DlAt w' d) (hW : W.length = n) (hcp : d.G.length ≤ d.gc ∧ d.H.length ≤ d.hc ∧ d.gc ≤ 9223372036854775807 ∧ d.hc ≤ 9223372036854775807) (hIW : EIn W) (hIM : EIn d.M) (hzW : esz W ≤ 200000) (hzM : esz d.M ≤ 200000) (hzH : d.H.length + hsz d.H ≤ 200000) (hlo : ∀ x ∈ d.H, x.lost < 256 ∧ ∀ q ∈ x.N, q.k < 256) (hzG : d.G.length ≤ 200000) :
    Calls Tryz.prog 93 #[.slice aw n cw, .agg d.vs] w fun e w' => ∃ (ao : Option Addr) (cap : Nat) (R : List EnE), e = .returned (.slice ao R.length cap) ∧ (∃ Lq, AftR (evs W) d.G (chv d.H) Lq ∧ (evs R).Perm (Lq ++ evs d.M) ∧ (evs R).Pairwise (fun a b => a.1 ≤ b.1)) ∧ esz R ≤ esz W + esz d.M + (d.H.length + hsz d.H) ∧ EIn R ∧ Own w0 w' (EntsT ao cap R :: l) := by
  obtain ⟨iE, hiE, hE0, hE1, hE2⟩ := info3w Tryz.infoEnt
  have hB := h.allocC d.vs 70
  have HQ : Hid (∀ w', Own w0 w' l → EntsAt w' aw W ∧ DlAt w' d) := hQ
  have HW : Hid (W.length = n ∧ EIn W ∧ EIn d.M ∧ esz W ≤ 200000 ∧ esz d.M ≤ 200000 ∧ d.H.length + hsz d.H ≤ 200000 ∧ ∀ x ∈ d.H, x.lost < 256 ∧ ∀ q ∈ x.N, q.k < 256) := ⟨hW, hIW, hIM, hzW, hzM, hzH, hlo⟩
  have HB : Hid (Own w0 _ _) := hB
  have hnw : n ≤ 200000 := by unfold esz at hzW; omega
  have hlt3 : w.heap.size < (w.alloc (.cells d.vs 70)).heap.size := by simp
  have HST : Hid (AfR w0 l W d w.heap.size n 0 d.G d.ga d.gc d.H d.ha d.hc [] none 0 [] (w.alloc (.cells d.vs 70)).drew) := {
    rd := fun w' hw => ⟨(hQ w' hw).2.g, (hQ w' hw).2.h⟩
    cp := hcp
    sf := List.suffix_refl _
    gl := Nat.le_refl _
    kk := fun L2 h2 => by simpa [evs] using h2
    le := Nat.zero_le _
    sz := by simp [csz]
    inn := fun x hx => by cases hx
    src := fun x hx => by cases hx
    own := (hB.drew).nilRow _ _ }
  clear h hQ hW hIW hIM hzW hzM hzH hlo hB hcp
  unfold DlE.vs at HB HST
  unfold DlE.vs
  go_enter Tryz.func93, Tryz.ntmps93
  go_wp2
  generalize hWg : w.alloc (.cells #[.slice d.ga d.G.length d.gc, .slice d.ma d.M.length d.mc, .slice d.ha d.H.length d.hc] 70) = W0 at *
  have hwb : ∀ w', Own w0 w' l → True := fun _ _ => trivial
  have H00 : Hid (Own w0 W0 l) := HB.out.tail
  generalize hb3 : w.heap.size = b3 at *
  clear hWg hb3
  have p0 := HB.out.cell 0
  have p2 := HB.out.cell 2
  simp at p0 p2
  go_region_held3 (fun w' => w'.cell? ⟨b3, 0, none⟩ = some (.slice d.ga d.G.length d.gc) ∧ w'.cell? ⟨b3, 2, none⟩ = some (.slice d.ha d.H.length d.hc)) (go_keep) (fail)
  clear p0 p2 HB hwb
  go_wp2
  go_loopw [5, 6, 7, 16] (fun v5 v6 v7 v16 wr => ∃ (j : Nat) (G1 : List Nat) (ga : Option Addr) (gc : Nat) (H1 : List ChE) (ha : Option Addr) (hc : Nat) (L1 : List EnE) (la : Option Addr) (lc : Nat) (Y : List EnE), j ≤ n ∧ v16 = .int .i64 (j : Int) ∧ v6 = .slice ga G1.length gc ∧ v7 = .slice ha H1.length hc ∧ v5 = .slice la L1.length lc ∧ AfR w0 l W d b3 n j G1 ga gc H1 ha hc L1 la lc Y wr) (fun _ _ _ v16 _ => n - (intOf v16).toNat)
  case atStart => exact ⟨0, d.G, d.ga, d.gc, d.H, d.ha, d.hc, [], none, 0, [], Nat.zero_le _, rfl, rfl, rfl, rfl, HST.out⟩
  case round =>
    obtain ⟨j, G1, ga, gc, H1, ha, hc, L1, la, lc, Y, hj, rfl, rfl, rfl, rfl, hA⟩ := hrel
    clear HST
    have HA : Hid (AfR w0 l W d b3 n j G1 ga gc H1 ha hc L1 la lc Y wr) := hA
    have hL1 := hA.le
    have hO := hA.own
    clear hA
    by_cases hlt : j < n
    · have hlt' : (j : Int) < (n : Int) := by omega
      obtain ⟨x, hx⟩ : ∃ x, W[j]? = some x := ⟨_, List.getElem?_eq_getElem (by rw [HW.out.1]; exact hlt)⟩
      have hOl : Own w0 wr l := hO.tail.tail.dropA
      obtain ⟨g, o, haw, c0, c1, _⟩ := (HQ.out wr hOl).1.at hx
      have hxm := List.mem_of_getElem? hx
      have hxk := HW.out.2.1 x hxm
      have hxl : x.C.length ≤ 200000 := by have h1 := csz_mem hxm; have h2 := HW.out.2.2.2.1; unfold esz at h2; omega
      have hB9 := hO.allocC #[.int .u32 (x.id : Int), .slice x.ao x.C.length x.cap] 90
      have HDR : Hid ((evs W).drop j = (x.id, x.C) :: (evs W).drop (j + 1)) := by
        have := List.getElem?_eq_some_iff.1 (evs_at hx)
        show _ = _
        rw [List.drop_eq_getElem_cons this.1, this.2]
      have HCT : Hid (csz (W.take (j + 1)) = csz (W.take j) + x.C.length) := csz_take hx
      have HXC : Hid (∀ w', Own w0 w' l → Cs w' x.ao x.C) := fun w' hw => (HQ.out w' hw).1.2 x hxm
      have HXW : Hid (x ∈ W ∧ x.id < 4294967296 ∧ ∀ q ∈ x.C, q.k < 256) := ⟨hxm, hxk⟩
      have HB9 : Hid (Own w0 _ _) := hB9
      subst haw
      clear hO hx hxm hxk hB9 hOl
      have HXE : Hid (∃ y : EnE, y = x) := ⟨_, rfl⟩
      obtain ⟨xi, xa, xc, xC⟩ := x
      simp only at c0 c1 hxl HDR HCT HXC HXW HB9
      generalize hxl2 : xC.length = xl at *
      have HXL : Hid (xC.length = xl) := hxl2
      clear hxl2 HXE
      have gcp := HA.out.cp
      have ggl := HA.out.gl
      go_wp2
      generalize hWg : wr.alloc (.cells #[.int .u32 (xi : Int), .slice xa xl xc] 90) = W1 at *
      generalize wr.heap.size = b9 at *
      clear hWg c0 c1
      obtain ⟨r6, hr6⟩ : ∃ r6, decide (G1.head? = some xi) = r6 := ⟨_, rfl⟩
      go_cut [30] (fun s30 wc => s30 = .bool r6 ∧ Own w0 wc (Cells b9 #[.int .u32 (xi : Int), .slice xa xl xc] 90 :: Row 90 2 (.slice la L1.length lc) L1.length (cat EnE.cs L1) :: Cells b3 d.vs 70 :: (Y.map erow ++ l)))
      case first =>
        have s0 : ∀ f : FrOf W1, f.val.cell? ⟨b9, 0, none⟩ = some (.int .u32 (xi : Int)) := fun f => (HB9.out.quiet f.fr).cell 0
        rcases G1 with _ | ⟨g1, gt⟩
        · have hr6f : r6 = false := by rw [← hr6]; rfl
          subst hr6f
          clear hr6
          go_wp2
          refine wp_region_fr (by kernel_rfl) (by kernel_rfl) ?_
          repeat (with_reducible refine wpQuiet_step (fun K hK => ?_)
                  go_simp
                  (refine hK _ ?_; clear hK K))
          refine wpQuiet_nil ?_
          rintro w' ⟨f, rfl⟩
          have HO2 : Hid (Own w0 f.val _) := HB9.out.quiet f.fr
          generalize f.val = W2 at *
          go_wp2
          go_meet
          case rel => exact ⟨rfl, HO2.out⟩
        · have hN : ∀ w', Own w0 w' l → ∃ gg og, ga = some ⟨gg, og, none⟩ ∧ w'.cell? ⟨gg, og, none⟩ = some (.int .u32 (g1 : Int)) := fun w' hw => by
            obtain ⟨gg, og, e, hc⟩ := ((HA.out.rd w' hw).1).at (j := 0) (x := g1) rfl
            exact ⟨gg, og, e, by simpa using hc⟩
          obtain ⟨gg, og, hga, _⟩ := hN W1 HB9.out.tail.tail.tail.dropA
          subst hga
          have t0 : ∀ f : FrOf W1, f.val.cell? ⟨gg, og, none⟩ = some (.int .u32 (g1 : Int)) := fun f => by
            obtain ⟨a, b, e, hc⟩ := hN f.val (HB9.out.quiet f.fr).tail.tail.tail.dropA
            cases e; exact hc
          have hlp : (0 : Int) < ((gt.length : Int) + 1) := by omega
          clear hN
          by_cases hgx : g1 = xi
          · have hr6f : r6 = true := by rw [← hr6, hgx]; simp
            have hgx' : ((g1 : Int) == (xi : Int)) = true := by simp [hgx]
            subst hr6f
            clear hr6 hgx
            simp only [List.length_cons]
            go_wp2
            refine wp_region_fr (by kernel_rfl) (by kernel_rfl) ?_
            repeat (with_reducible refine wpQuiet_step (fun K hK => ?_)
                    go_simp
                    (refine hK _ ?_; clear hK K))
            refine wpQuiet_nil ?_
            rintro w' ⟨f, rfl⟩
            have HO2 : Hid (Own w0 f.val _) := HB9.out.quiet f.fr
            generalize f.val = W2 at *
            go_wp2
            go_meet
            case rel => exact ⟨rfl, HO2.out⟩
          · have hr6f : r6 = false := by rw [← hr6]; simp [hgx]
            have hgx' : ((g1 : Int) == (xi : Int)) = false := by rw [beq_eq_false_iff_ne]; omega
            subst hr6f
            clear hr6 hgx
            simp only [List.length_cons]
            go_wp2
            refine wp_region_fr (by kernel_rfl) (by kernel_rfl) ?_
            repeat (with_reducible refine wpQuiet_step (fun K hK => ?_)
                    go_simp
                    (refine hK _ ?_; clear hK K))
            refine wpQuiet_nil ?_
            rintro w' ⟨f, rfl⟩
            have HO2 : Hid (Own w0 f.val _) := HB9.out.quiet f.fr
            generalize f.val = W2 at *
            go_wp2
            go_meet
            case rel => exact ⟨rfl, HO2.out⟩
      case rest =>
        obtain ⟨rfl, hO2⟩ := hcut
        clear HB9
        cases r6
        · have hhd : G1.head? ≠ some xi := of_decide_eq_false hr6
          clear hr6
          have HHD : Hid (G1.head? ≠ some xi) := hhd
          clear hhd
          obtain ⟨r8, hr8⟩ : ∃ r8, decide ((chv H1).head?.map Chg.id = some xi) = r8 := ⟨_, rfl⟩
          have HO2 : Hid (Own w0 wc (Cells b9 #[.int .u32 (xi : Int), .slice xa xl xc] 90 :: Row 90 2 (.slice la L1.length lc) L1.length (cat EnE.cs L1) :: Cells b3 d.vs 70 :: (Y.map erow ++ l))) := hO2
          clear hO2
          have gcp2 := gcp.2.1
          have gcp4 := gcp.2.2.2
          have hHl : H1.length ≤ 200000 := by have h1 := HA.out.sf.length_le; have h2 := HW.out.2.2.2.2.2.1; omega
          go_wp2
          go_cut [44] (fun s44 wd => s44 = .bool r8 ∧ Own w0 wd (Cells b9 #[.int .u32 (xi : Int), .slice xa xl xc] 90 :: Row 90 2 (.slice la L1.length lc) L1.length (cat EnE.cs L1) :: Cells b3 d.vs 70 :: (Y.map erow ++ l)))
          case first =>
            have s0 : ∀ f : FrOf wc, f.val.cell? ⟨b9, 0, none⟩ = some (.int .u32 (xi : Int)) := fun f => (HO2.out.quiet f.fr).cell 0
            rcases H1 with _ | ⟨y, ht⟩
            · have hr8f : r8 = false := by rw [← hr8]; rfl
              subst hr8f
              clear hr8
              go_wp2
              refine wp_region_fr (by kernel_rfl) (by kernel_rfl) ?_
              repeat (with_reducible refine wpQuiet_step (fun K hK => ?_)
                      go_simp
                      (refine hK _ ?_; clear hK K))
              refine wpQuiet_nil ?_
              rintro w' ⟨f, rfl⟩
              have HO3 : Hid (Own w0 f.val _) := HO2.out.quiet f.fr
              generalize f.val = W3 at *
              go_wp2
              go_meet
              case rel => exact ⟨rfl, HO3.out⟩
            · have hN : ∀ w', Own w0 w' l → ∃ gg og, ha = some ⟨gg, og, none⟩ ∧ w'.cell? ⟨gg, og, none⟩ = some (.int .u32 (y.id : Int)) := fun w' hw => by
                obtain ⟨gg, og, e, hc, _⟩ := ((HA.out.rd w' hw).2).at (j := 0) (x := y) rfl
                exact ⟨gg, og, e, by simpa using hc.1⟩
              obtain ⟨gg, og, hha, _⟩ := hN wc HO2.out.tail.tail.tail.dropA
              subst hha
              have t0 : ∀ f : FrOf wc, f.val.cell? ⟨gg, og, none⟩ = some (.int .u32 (y.id : Int)) := fun f => by
                obtain ⟨a, b, e, hc⟩ := hN f.val (HO2.out.quiet f.fr).tail.tail.tail.dropA
                cases e; exact hc
              have hlp : (0 : Int) < ((ht.length : Int) + 1) := by omega
              clear hN
              have hid : (chv (y :: ht)).head?.map Chg.id = some y.id := rfl
              rw [hid] at hr8
              generalize y.id = yi at *
              by_cases hgx : yi = xi
              · have hr8f : r8 = true := by rw [← hr8, hgx]; simp
                have hgx' : ((yi : Int) == (xi : Int)) = true := by simp [hgx]
                subst hr8f
                clear hr8 hgx hid
                simp only [List.length_cons]
                go_wp2
                refine wp_region_fr (by kernel_rfl) (by kernel_rfl) ?_
                repeat (with_reducible refine wpQuiet_step (fun K hK => ?_)
                        go_simp
                        (refine hK _ ?_; clear hK K))
                refine wpQuiet_nil ?_
                rintro w' ⟨f, rfl⟩
                have HO3 : Hid (Own w0 f.val _) := HO2.out.quiet f.fr
                generalize f.val = W3 at *
                go_wp2
                go_meet
                case rel => exact ⟨rfl, HO3.out⟩
              · have hr8f : r8 = false := by rw [← hr8]; simp [hgx]
                have hgx' : ((yi : Int) == (xi : Int)) = false := by rw [beq_eq_false_iff_ne]; omega
                subst hr8f
                clear hr8 hgx hid
                simp only [List.length_cons]
                go_wp2
                refine wp_region_fr (by kernel_rfl) (by kernel_rfl) ?_
                repeat (with_reducible refine wpQuiet_step (fun K hK => ?_)
                        go_simp
                        (refine hK _ ?_; clear hK K))
                refine wpQuiet_nil ?_
                rintro w' ⟨f, rfl⟩
                have HO3 : Hid (Own w0 f.val _) := HO2.out.quiet f.fr
                generalize f.val = W3 at *
                go_wp2
                go_meet
                case rel => exact ⟨rfl, HO3.out⟩
          case rest =>
            obtain ⟨rfl, hO3⟩ := hcut
            clear HO2
            cases r8
            · have hhc : (chv H1).head?.map Chg.id ≠ some xi := of_decide_eq_false hr8
              have HKK : Hid (∀ L2, AftR ((evs W).drop (j + 1)) G1 (chv H1) L2 → AftR (evs W) d.G (chv d.H) (evs (L1 ++ [(⟨xi, xa, xc, xC⟩ : EnE)]) ++ L2)) := fun L2 h2 => by
                have e : evs (L1 ++ [(⟨xi, xa, xc, xC⟩ : EnE)]) ++ L2 = evs L1 ++ ((xi, xC) :: L2) := by simp [evs]
                rw [e]
                exact HA.out.kk _ (by rw [HDR.out]; exact aft_s HHD.out hhc h2)
              have u0 := hO3.cell 0
              have u1 := hO3.cell 1
              simp at u0 u1
              have HN : Hid (Own w0 wc _) := hO3.two
              clear hr8 hhc hO3
              go_wp2_with (at_builtin; refine append1_own rfl _ _ 31 rfl 90 iE (.agg #[.int .u32 0, .slice none 0 0]) 2 32 Tryz.underlying31 hiE hE0 hE1 hE2 rfl (by decide) _ _ _ rfl HN.out _ #[.int .u32 (xi : Int), .slice xa xl xc] (by simp) rfl rfl (by intro u hu; simp at hu; rcases hu with rfl | rfl <;> rfl) (by unfold maxLen; omega) (by omega) ?_)
              intro g6 c6 w6 hO6 hsz6
              have HL6 : Hid (L1.length + 1 = (L1 ++ [(⟨xi, xa, xc, xC⟩ : EnE)]).length) := by show _ = _; simp
              have HF : Hid (AfR w0 l W d b3 n (j + 1) G1 ga gc H1 ha hc (L1 ++ [(⟨xi, xa, xc, xC⟩ : EnE)]) (some ⟨g6, 0, none⟩) c6 Y w6) := {
                rd := HA.out.rd
                cp := HA.out.cp
                sf := HA.out.sf
                gl := HA.out.gl
                kk := HKK.out
                le := by rw [← HL6.out]; omega
                sz := by
                  have h1 := HA.out.sz
                  have h2 := HCT.out
                  have h3 := HXL.out
                  rw [csz_snoc]
                  show _ + xC.length + _ ≤ _
                  omega
                inn := fun y hy => by
                  rcases List.mem_append.1 hy with hy | hy
                  · exact HA.out.inn y hy
                  · simp at hy; rw [hy]; exact HXW.out.2
                src := fun y hy => by
                  rcases List.mem_append.1 hy with hy | hy
                  · exact HA.out.src y hy
                  · simp at hy; rw [hy]; exact .inr HXW.out.1
                own := by
                  have e2 : cat EnE.cs (L1 ++ [(⟨xi, xa, xc, xC⟩ : EnE)]) = cat EnE.cs L1 ++ [.int .u32 (xi : Int), .slice xa xl xc] := by
                    rw [cat_append]
                    congr 1
                    simp [cat, EnE.cs, HXL.out]
                  rw [← HL6.out, e2]
                  exact hO6.two.tail }
              clear hO6 hsz6 HN u0 u1
              go_wp2
              go_roundw
              case rel => exact ⟨j + 1, G1, ga, gc, H1, ha, hc, _, _, _, Y, by omega, by go_num, rfl, rfl, by rw [HL6.out], HF.out⟩
              case measure => simp [intOf]; omega
            · have hhc : (chv H1).head?.map Chg.id = some xi := of_decide_eq_true hr8
              obtain ⟨y, ht, rfl, hyi⟩ : ∃ y ht, H1 = y :: ht ∧ y.id = xi := by
                cases H1 with
                | nil => simp [chv] at hhc
                | cons y ht => exact ⟨y, ht, rfl, by simpa [chv, ChE.v] using hhc⟩
              have hymem : y ∈ d.H := HA.out.sf.subset (by simp)
              obtain ⟨hylo, hyk⟩ := HW.out.2.2.2.2.2.2 y hymem
              have hyz : y.N.length + y.S.length ≤ 200000 := by have h1 := hsz_mem hymem; have h2 := HW.out.2.2.2.2.2.1; omega
              have hR : ∀ w', Own w0 w' l → ∃ gg og, ha = some ⟨gg, og, none⟩ ∧ (w'.cell? ⟨gg, og, none⟩ = some (.int .u32 (y.id : Int)) ∧ w'.cell? ⟨gg, og + 1, none⟩ = some (.int .u8 (y.lost : Int)) ∧ w'.cell? ⟨gg, og + 2, none⟩ = some (.slice y.na y.N.length y.nc) ∧ w'.cell? ⟨gg, og + 3, none⟩ = some (.slice y.sa y.S.length y.sc)) ∧ Cs w' y.na y.N ∧ Cs w' y.sa y.S := fun w' hw => by
                obtain ⟨gg, og, e, hc, hcs⟩ := ((HA.out.rd w' hw).2).at (j := 0) (x := y) rfl
                exact ⟨gg, og, e, by simpa using hc, hcs⟩
              obtain ⟨gg, og, hha, ⟨k0, k1, k2, k3⟩, _⟩ := hR wc hO3.tail.tail.tail.dropA
              subst hha
              have HCH : Hid (Calls _ _ _ _ _) := changed_any w0 wc.drew _ hO3.drew xa xl xc xC y (fun w' hw => by
                have hw2 : Own w0 w' l := hw.tail.tail.tail.dropA
                obtain ⟨_, _, _, _, h2, h3⟩ := hR w' hw2
                exact ⟨HXC.out w' hw2, h2, h3⟩) HXL.out HXW.out.2.2 (by omega) (by omega) hylo
              have HYI : Hid (y.id = xi ∧ y.lost < 256 ∧ (∀ q ∈ y.N, q.k < 256)) := ⟨hyi, hylo, hyk⟩
              have u0 := hO3.cell 0
              have u1 := hO3.cell 1
              simp at u0 u1
              have HO3 : Hid (Own w0 wc _) := hO3
              have HTR : Hid (∀ w', Own w0 w' l → ChsAt w' (some ⟨gg, og + 4, none⟩) ht) := fun w' hw => ((HA.out.rd w' hw).2).tail
              have HCN : Hid (∀ M, ChgR xC y.v M → ∀ L2, AftR ((evs W).drop (j + 1)) G1 (chv ht) L2 → ∀ ma mc, AftR (evs W) d.G (chv d.H) (evs (L1 ++ [(⟨xi, ma, mc, M⟩ : EnE)]) ++ L2)) := fun M hM L2 h2 ma mc => by
                have e : evs (L1 ++ [(⟨xi, ma, mc, M⟩ : EnE)]) ++ L2 = evs L1 ++ ((xi, M) :: L2) := by simp [evs]
                rw [e]
                exact HA.out.kk _ (by rw [HDR.out]; exact aft_c HHD.out HYI.out.1 hM h2)
              have HML : Hid (∀ M, ChgR xC y.v M → M.length ≤ xl + y.N.length ∧ ∀ q ∈ M, q.k < 256) := fun M hM => ⟨by have := chgR_len hM; have := HXL.out; omega, chgR_k hM HXW.out.2.2 hyk⟩
              have hszy : hsz (y :: ht) = y.N.length + y.S.length + hsz ht := rfl
              have HSY : Hid (hsz (y :: ht) = y.N.length + y.S.length + hsz ht) := hszy
              clear hr8 hhc hO3 hR hymem hszy hyk hyi
              have HYV : Hid (∃ yv, yv = y.v) := ⟨_, rfl⟩
              obtain ⟨yv, hyv⟩ := HYV.out
              rw [← hyv] at HCH HCN HML
              clear hyv HYV
              obtain ⟨yi, ylo, yN, yna, ync, yS, ysa, ysc⟩ := y
              simp only at k0 k1 k2 k3 HCH hylo hyz HSY HML
              simp only [List.length_cons] at gcp2 hHl ⊢
              generalize hnl : yN.length = ynl at *
              generalize hsl : yS.length = ysl at *
              generalize hhl : ht.length = hl at *
              have HHL : Hid (ht.length = hl) := hhl
              clear hnl hsl hhl
              go_wp2
              go_cut [] (fun wd => ∃ (ma : Option Addr) (mc : Nat) (M : List Cp), ChgR xC yv M ∧ Own w0 wd (Cells b9 #[.int .u32 (xi : Int), .slice ma M.length mc] 90 :: Row 96 4 (.slice ma M.length mc) M.length (ccat M) :: Row 90 2 (.slice la L1.length lc) L1.length (cat EnE.cs L1) :: Cells b3 d.vs 70 :: (Y.map erow ++ l)))
              case first =>
                go_region_with (go_at_call 116; refine HCH.out.mono ?_; rintro e w5 ⟨ma, mc, M, rfl, hM, h5⟩; have v0 := h5.two.cell 0; have v1 := h5.two.cell 1; have v2 := h5.two.froz 1; simp at v0 v1)
                all_goals
                  go_wp2
                  go_meet
                  case rel => exact ⟨ma, mc, M, hM, by simpa using h5.two.setC 1 (.slice ma M.length mc)⟩
              case rest =>
                obtain ⟨ma, mc, M, hM, hO5⟩ := hcut
                obtain ⟨hMl, hMk⟩ := HML.out M hM
                have HM : Hid (ChgR xC yv M ∧ ∀ q ∈ M, q.k < 256) := ⟨hM, hMk⟩
                have HO5 : Hid (Own w0 wc _) := hO5
                clear HCH HO3 k0 k1 k2 k3 u0 u1 hM hMk hO5
                go_upto_region 10 with (fail)
                go_cut [7] (fun s7 wd => ∃ (ha2 : Option Addr) (hc2 : Nat), s7 = .slice ha2 hl hc2 ∧ hl ≤ hc2 ∧ hc2 ≤ 9223372036854775807 ∧ (∀ w', Own w0 w' l → ChsAt w' ha2 ht) ∧ Own w0 wd (Cells b9 #[.int .u32 (xi : Int), .slice ma M.length mc] 90 :: Row 96 4 (.slice ma M.length mc) M.length (ccat M) :: Row 90 2 (.slice la L1.length lc) L1.length (cat EnE.cs L1) :: Cells b3 d.vs 70 :: (Y.map erow ++ l)))
                case first =>
                  by_cases hk : hc = 1
                  · subst hk
                    have hhl0 : hl = 0 := by omega
                    subst hhl0
                    have HT : Hid (ht = []) := List.eq_nil_of_length_eq_zero HHL.out
                    go_wp2
                    go_meet
                    case rel => exact ⟨some ⟨gg, og, none⟩, 0, rfl, Nat.le_refl _, by omega, fun w' hw => by rw [HT.out]; exact ChsAt.nil _ _, HO5.out⟩
                  · have hk1 : 1 ≤ hc := by omega
                    go_wp2
                    go_meet
                    case rel => exact ⟨some ⟨gg, og + 4, none⟩, hc - 1, rfl, by omega, by omega, HTR.out, HO5.out⟩
                case rest =>
                  obtain ⟨ha2, hc2, rfl, hh1, hh2, hh3, hO6⟩ := hcut
                  clear HO5
                  have HH3 : Hid (∀ w', Own w0 w' l → ChsAt w' ha2 ht) := hh3
                  have u0 := hO6.cell 0
                  have u1 := hO6.cell 1
                  simp at u0 u1
                  have HN : Hid (Own w0 wc _) := hO6.three
                  clear hO6 hh3
                  generalize hml : M.length = ml at *
                  have HMM : Hid (M.length = ml) := hml
                  clear hml
                  go_wp2_with (at_builtin; refine append1_own rfl _ _ 31 rfl 90 iE (.agg #[.int .u32 0, .slice none 0 0]) 2 32 Tryz.underlying31 hiE hE0 hE1 hE2 rfl (by decide) _ _ _ rfl HN.out _ #[.int .u32 (xi : Int), .slice ma ml mc] (by simp) rfl rfl (by intro u hu; simp at hu; rcases hu with rfl | rfl <;> rfl) (by unfold maxLen; omega) (by omega) ?_)
                  intro g6 c6 w6 hO6 hsz6
                  have HL6 : Hid (L1.length + 1 = (L1 ++ [(⟨xi, ma, mc, M⟩ : EnE)]).length) := by show _ = _; simp
                  have HF : Hid (AfR w0 l W d b3 n (j + 1) G1 ga gc ht ha2 hc2 (L1 ++ [(⟨xi, ma, mc, M⟩ : EnE)]) (some ⟨g6, 0, none⟩) c6 (Y ++ [(⟨xi, ma, mc, M⟩ : EnE)]) w6) := {
                    rd := fun w' hw => ⟨(HA.out.rd w' hw).1, HH3.out w' hw⟩
                    cp := ⟨HA.out.cp.1, by rw [HHL.out]; exact hh1, HA.out.cp.2.2.1, hh2⟩
                    sf := (List.suffix_cons _ _).trans HA.out.sf
                    gl := HA.out.gl
                    kk := fun L2 h2 => HCN.out M HM.out.1 L2 h2 ma mc
                    le := by rw [← HL6.out]; omega
                    sz := by
                      have h1 := HA.out.sz
                      have h2 := HCT.out
                      have h3 := HMM.out
                      have h4 := HSY.out
                      rw [csz_snoc]
                      show _ + M.length + _ ≤ _
                      omega
                    inn := fun y hy => by
                      rcases List.mem_append.1 hy with hy | hy
                      · exact HA.out.inn y hy
                      · simp at hy; rw [hy]; exact ⟨HXW.out.2.1, HM.out.2⟩
                    src := fun y hy => by
                      rcases List.mem_append.1 hy with hy | hy
                      · rcases HA.out.src y hy with h | h
                        · exact .inl (List.mem_append.2 (.inl h))
                        · exact .inr h
                      · exact .inl (List.mem_append.2 (.inr hy))
                    own := by
                      have e2 : cat EnE.cs (L1 ++ [(⟨xi, ma, mc, M⟩ : EnE)]) = cat EnE.cs L1 ++ [.int .u32 (xi : Int), .slice ma ml mc] := by
                        rw [cat_append]
                        congr 1
                        simp [cat, EnE.cs, HMM.out]
                      have e3 : (Y ++ [(⟨xi, ma, mc, M⟩ : EnE)]).map erow ++ l = Y.map erow ++ (Row 96 4 (.slice ma ml mc) ml (ccat M) :: l) := by
                        simp [erow, HMM.out]
                      rw [← HL6.out, e2, e3]
                      have h8 := hO6.two.tail
                      exact h8.perm (List.Perm.cons _ ((List.Perm.swap _ _ _).trans (List.Perm.cons _ List.perm_middle.symm))) }
                  clear hO6 hsz6 HN u0 u1
                  go_wp2
                  go_roundw
                  case rel => exact ⟨j + 1, G1, ga, gc, ht, ha2, hc2, _, _, _, _, by omega, by go_num, rfl, by rw [HHL.out], by rw [HL6.out], HF.out⟩
                  case measure => simp [intOf]; omega
        · have hhd : G1.head? = some xi := of_decide_eq_true hr6
          obtain ⟨gt, rfl⟩ : ∃ gt, G1 = xi :: gt := by
            cases G1 with
            | nil => simp at hhd
            | cons g1 gt => simp at hhd; exact ⟨gt, by rw [hhd]⟩
          clear hr6 hhd
          obtain ⟨gg, og, hga, _⟩ := ((HA.out.rd wc hO2.tail.tail.tail.dropA).1).at (j := 0) (x := xi) rfl
          subst hga
          have HKK : Hid (∀ L2, AftR ((evs W).drop (j + 1)) gt (chv H1) L2 → AftR (evs W) d.G (chv d.H) (evs L1 ++ L2)) := fun L2 h2 => HA.out.kk L2 (by rw [HDR.out]; exact aft_g h2)
          have HO2 : Hid (Own w0 wc _) := hO2.tail
          have HSZ : Hid (csz L1 + hsz H1 ≤ csz (W.take (j + 1)) + hsz d.H) := by have := HA.out.sz; have := HCT.out; show _ ≤ _; omega
          clear hO2
          simp only [List.length_cons] at gcp ggl ⊢
          generalize hgl : gt.length = gl at *
          have HGL : Hid (gt.length = gl) := hgl
          clear hgl
          have gcp1 := gcp.1
          have gcp3 := gcp.2.2.1
          by_cases hk : gc = 1
          · subst hk
            have hgl0 : gl = 0 := by omega
            subst hgl0
            have HT : Hid (gt = []) := List.eq_nil_of_length_eq_zero HGL.out
            go_wp2
            go_roundw
            case rel => exact ⟨j + 1, gt, some ⟨gg, og, none⟩, 0, H1, ha, hc, L1, la, lc, Y, by omega, by go_num, by rw [HGL.out], rfl, rfl, { rd := fun w' hw => ⟨by rw [HT.out]; exact Nums.nil _ _ _ _, (HA.out.rd w' hw).2⟩, cp := ⟨by rw [HGL.out]; exact Nat.le_refl _, gcp.2.1, by omega, gcp.2.2.2⟩, sf := HA.out.sf, gl := by rw [HGL.out]; omega, kk := HKK.out, le := by omega, sz := HSZ.out, inn := HA.out.inn, src := HA.out.src, own := HO2.out }⟩
            case measure => simp [intOf]; omega
          · have hk1 : 1 ≤ gc := by omega
            go_wp2
            go_roundw
            case rel => exact ⟨j + 1, gt, some ⟨gg, og + 1, none⟩, gc - 1, H1, ha, hc, L1, la, lc, Y, by omega, by go_num, by rw [HGL.out], rfl, rfl, { rd := fun w' hw => ⟨((HA.out.rd w' hw).1).tail, (HA.out.rd w' hw).2⟩, cp := ⟨by rw [HGL.out]; omega, gcp.2.1, by omega, gcp.2.2.2⟩, sf := HA.out.sf, gl := by rw [HGL.out]; omega, kk := HKK.out, le := by omega, sz := HSZ.out, inn := HA.out.inn, src := HA.out.src, own := HO2.out }⟩
            case measure => simp [intOf]; omega
    · have hlt' : ¬ (j : Int) < (n : Int) := by omega
      have hjn : j = n := by omega
      have HAF : Hid (AftR (evs W) d.G (chv d.H) (evs L1)) := by
        have h1 := HA.out.kk [] (by
          rw [List.drop_eq_nil_of_le (by rw [evs_len, HW.out.1]; omega)]
          rfl)
        rw [List.append_nil] at h1
        exact h1
      have hcs : csz L1 ≤ csz W + hsz d.H := by have h1 := HA.out.sz; have h2 := csz_take_le W j; omega
      have q1 := hO.two.cell 1
      simp [DlE.vs] at q1
      have HEM : Hid (EntsAt wr d.ma d.M) := (HQ.out wr hO.tail.tail.dropA).2.m
      have HO : Hid (Own w0 wr _) := hO
      have hml : d.M.length ≤ 200000 := by have h2 := HW.out.2.2.2.2.1; unfold esz at h2; omega
      clear hO hjn
      go_wp2_with (at_builtin; refine append_en rfl _ _ rfl iE hiE _ hE0 hE1 hE2 rfl _ _ _ rfl d.ma d.M.length d.mc d.M rfl rfl HEM.out HO.out (by unfold maxLen; omega) (by omega) ?_)
      intro a6 c6 w6 hO6
      obtain ⟨L2, hL2⟩ : ∃ L2, L2 = L1 ++ d.M := ⟨_, rfl⟩
      have hL2l : L2.length = L1.length + d.M.length := by rw [hL2, List.length_append]
      have h7 : Own w0 w6 (Row 90 2 (.slice a6 L2.length c6) L2.length (cat EnE.cs L2) :: Cells b3 d.vs 70 :: (Y.map erow ++ l)) := by
        rw [hL2l, hL2, cat_append]
        exact hO6
      have HSO : Hid (Calls _ _ _ _ _) := sort_en w0 w6 _ a6 c6 L2 h7 (by omega)
      have HL2 : Hid (L2 = L1 ++ d.M ∧ L2.length = L1.length + d.M.length) := ⟨hL2, hL2l⟩
      rw [hL2l] at HSO
      clear h7 hO6 HO q1 HEM hL2l hL2
      generalize htl : L1.length + d.M.length = tl at *
      have HTL : Hid (L1.length + d.M.length = tl) := htl
      have htl4 : tl ≤ 400000 := by omega
      clear htl
      go_wp2_with fail
      refine HSO.out.mono ?_
      rintro e w7 ⟨rfl, L3, hp3, hs3, h8⟩
      have hl3 : L3.length = tl := by rw [hp3.length_eq, HL2.out.2]
      have hsz3 : esz L3 ≤ esz W + esz d.M + (d.H.length + hsz d.H) := by
        unfold esz
        rw [hl3, csz_perm hp3, HL2.out.1, csz_append]
        have h1 := HW.out.2.2.2.1
        have h2 := HW.out.2.2.2.2.1
        have h3 := HW.out.2.2.2.2.2.1
        unfold esz at h1 h2
        have h4 := HTL.out
        have h5 := HW.out.1
        omega
      have hin3 : EIn L3 := fun y hy => by
        have hy2 := hp3.subset hy
        rw [HL2.out.1] at hy2
        rcases List.mem_append.1 hy2 with hy2 | hy2
        · exact HA.out.inn y hy2
        · exact HW.out.2.2.1 y hy2
      have HCP : Hid (Calls _ _ _ _ _) := copy_any w0 w7 _ h8 a6 tl c6 L3 (fun w' hw => by
        refine ⟨?_, fun y hy => ?_⟩
        · have hr := hw.row
          rcases Nat.eq_zero_or_pos tl with h0 | h0
          · exact .inl (List.eq_nil_of_length_eq_zero (by rw [hl3]; exact h0))
          · obtain ⟨g, cp, hv, _⟩ := row_shape hr h0
            refine .inr ⟨g, 0, (Value.slice.inj hv).1, fun i y hy => ?_⟩
            have hva := (Value.slice.inj hv).1
            rw [hva] at hr
            have hi := (List.getElem?_eq_some_iff.1 hy).1
            rw [Nat.zero_add, hr.cellAt _ (by omega), hr.cellAt _ (by omega)]
            exact ⟨cat_at EnE.cs 2 (fun _ => rfl) L3 i 0 y hy (by decide), cat_at EnE.cs 2 (fun _ => rfl) L3 i 1 y hy (by decide)⟩
        · have hwl : Own w0 w' l := hw.tail.tail.dropA
          have hy2 := hp3.subset hy
          rw [HL2.out.1] at hy2
          rcases List.mem_append.1 hy2 with hy2 | hy2
          · rcases HA.out.src y hy2 with hyy | hyy
            · obtain ⟨Y1, Y2, e⟩ := List.append_of_mem hyy
              have hw3 := hw.tail.tail
              rw [e] at hw3
              have hw4 : Own w0 w' (erow y :: (Y1.map erow ++ (Y2.map erow ++ l))) := by
                refine hw3.perm ?_
                have e2 : (Y1 ++ y :: Y2).map erow ++ l = Y1.map erow ++ (erow y :: (Y2.map erow ++ l)) := by simp
                rw [e2]
                exact List.perm_middle
              exact Own.cs (hw4.view (by decide)) rfl
            · exact (HQ.out w' hwl).1.2 y hyy
          · exact (HQ.out w' hwl).2.m.2 y hy2) hl3 (by have h1 := HW.out.2.2.2.1; have h2 := HW.out.2.2.2.2.1; have h3 := HW.out.2.2.2.2.2.1; omega)
      have HR : Hid (∀ R : List EnE, evs R = evs L3 → (∃ Lq, AftR (evs W) d.G (chv d.H) Lq ∧ (evs R).Perm (Lq ++ evs d.M) ∧ (evs R).Pairwise (fun a b => a.1 ≤ b.1)) ∧ esz R ≤ esz W + esz d.M + (d.H.length + hsz d.H) ∧ EIn R) := fun R hR => by
        refine ⟨⟨evs L1, HAF.out, ?_, ?_⟩, by rw [esz_evs hR]; exact hsz3, EIn.of_evs hR hin3⟩
        · rw [hR]
          have h1 : (evs L3).Perm (evs (L1 ++ d.M)) := by
            have := hp3.map (fun x : EnE => (x.id, x.C))
            rw [HL2.out.1] at this
            exact this
          have e : evs (L1 ++ d.M) = evs L1 ++ evs d.M := by simp [evs]
          rw [e] at h1
          exact h1
        · rw [hR]
          exact List.pairwise_map.2 hs3
      clear h8 hp3 hs3 hl3 hsz3 hin3 HSO
      go_wp2_with fail
      refine HCP.out.mono ?_
      rintro e w9 ⟨a9, c9, rfl, R, hRl, hRv, h9⟩
      obtain ⟨hR1, hR2, hR3⟩ := HR.out R hRv
      have H9 : Hid ((∃ Lq, AftR (evs W) d.G (chv d.H) Lq ∧ (evs R).Perm (Lq ++ evs d.M) ∧ (evs R).Pairwise (fun a b => a.1 ≤ b.1)) ∧ esz R ≤ esz W + esz d.M + (d.H.length + hsz d.H) ∧ EIn R ∧ R.length = tl ∧ Own w0 w9 (EntsT a9 c9 R :: l)) := ⟨hR1, hR2, hR3, hRl, Own.dropB (A := Row 90 2 (.slice a6 tl c6) tl (cat EnE.cs L3) :: Cells b3 d.vs 70 :: Y.map erow) h9⟩
      clear h9 hR1 hR2 hR3 hRl hRv HCP HR
      go_wp2
      go_ret
      refine ⟨a9, c9, R, ?_, H9.out.1, H9.out.2.1, H9.out.2.2.1, H9.out.2.2.2.2⟩
      rw [H9.out.2.2.2.1]; rfl
end Go.Proofs.YtcmofbhfdagpcaaGreatDoor


/-
  The program's Patch.
-/
namespace Go.Proofs.YtcmofbhfdagpcaaGreatDoor
open Go.RowKit
set_option linter.unusedVariables false
set_option maxRecDepth 100000

/-- how many components in changes -/
def hszV : List Chg → Nat
  | [] => 0
  | x :: t => x.new.length + x.set.length + hszV t
theorem hszV_chv (H : List ChE) : hszV (chv H) = hsz H := by
  induction H with
  | nil => rfl
  | cons x t ih => show x.N.length + x.S.length + hszV (chv t) = _; rw [ih]; rfl
theorem btw_sz (W N : List En) : (btw W N).gone.length ≤ W.length ∧ (btw W N).come.length ≤ N.length ∧ (btw W N).chg.length ≤ N.length ∧ hszV (btw W N).chg ≤ 2 * cszV N ∧ ∀ c ∈ (btw W N).chg, c.lost < 64 := by
  fun_induction btw W N with
  | case1 => exact ⟨Nat.le_refl _, Nat.le_refl _, Nat.le_refl _, Nat.le_refl _, fun c hc => by cases hc⟩
  | case2 w ws ih => obtain ⟨a, b, c, d, e⟩ := ih; exact ⟨by simp [addG]; omega, b, c, d, e⟩
  | case3 n ns ih => obtain ⟨a, b, c, d, e⟩ := ih; exact ⟨a, by simp [addE]; omega, by simp [addE]; omega, by simp only [addE, cszV]; omega, e⟩
  | case4 w ws n ns h ih => obtain ⟨a, b, c, d, e⟩ := ih; exact ⟨by simp [addG]; omega, b, c, d, e⟩
  | case5 w ws n ns h h2 ih => obtain ⟨a, b, c, d, e⟩ := ih; exact ⟨a, by simp [addE]; omega, by simp [addE]; omega, by simp only [addE, cszV]; omega, e⟩
  | case6 w ws n ns h h2 ih =>
    obtain ⟨a, b, c, d, e⟩ := ih
    refine ⟨by simp [addC]; omega, by simp [addC]; omega, ?_, ?_, ?_⟩
    · simp only [addC, List.length_cons]
      split
      · omega
      · simp only [List.length_cons]; omega
    · simp only [addC, cszV]
      split
      · omega
      · simp only [hszV]
        have h1 := List.length_filter_le (isNew w.2) n.2
        have h3 := List.length_filter_le (isSet w.2) n.2
        show (n.2.filter (isNew w.2)).length + (n.2.filter (isSet w.2)).length + _ ≤ _
        omega
    · intro x hx
      simp only [addC] at hx
      split at hx
      · exact e x hx
      · rcases List.mem_cons.1 hx with rfl | hx
        · exact lost_lt _ _
        · exact e x hx
theorem dlIn_of {W N : List EnE} {d : DlE} (hd : d.v = btw (evs W) (evs N)) (hW : esz W ≤ 200000) (hN : esz N ≤ 450000) : DlIn d := by
  obtain ⟨a, b, c, e, f⟩ := btw_sz (evs W) (evs N)
  have cs := come_sz (evs W) (evs N)
  rw [← hd] at a b c e f cs
  rw [evs_len] at a b c
  rw [cszV_evs] at e cs
  have hb : (evs d.M).length ≤ N.length := b
  have hcs : cszV (evs d.M) ≤ csz N := cs
  have hc : (chv d.H).length ≤ N.length := c
  have he : hszV (chv d.H) ≤ 2 * csz N := e
  have ha : d.G.length ≤ W.length := a
  rw [evs_len] at hb
  rw [cszV_evs] at hcs
  rw [chv_len] at hc
  rw [hszV_chv] at he
  unfold esz at hW hN
  refine ⟨by omega, by unfold esz; omega, by omega, fun x hx => ?_⟩
  have := f x.v (List.mem_map.2 ⟨x, hx, rfl⟩)
  show x.lost < 256
  have h2 : x.v.lost = x.lost := rfl
  omega
theorem Own.entsCap {w0 w : World} {l : List Thing} {ao : Option Addr} {cap : Nat} {L : List EnE} (h : Own w0 w (EntsT ao cap L :: l)) : L.length ≤ cap ∧ cap ≤ 9223372036854775807 := by
  obtain ⟨_, h1⟩ := Own.ex_iff.1 h
  rcases h1.row.2 with ⟨hv, h0⟩ | ⟨g, cp, cur, hv, _, _, h3, h4, _⟩
  · simp only [Value.slice.injEq] at hv
    omega
  · simp only [Value.slice.injEq] at hv
    unfold maxLen at h4
    omega
/-- what Patch answers -/
def PatR (W : List En) (d : Dl) (code : Nat) (R : List En) : Prop := (fm 0 W ≠ 0 ∧ code = fm 0 W ∧ R = []) ∨ (fm 0 W = 0 ∧ code = 0 ∧ fm 0 R = 0 ∧ btw W R = d) ∨ (fm 0 W = 0 ∧ code = 4 ∧ R = [] ∧ ∀ M, fm 0 M = 0 → btw W M ≠ d)
theorem pat_no {W R Lq : List En} {d : Dl} (hW : fm 0 W = 0) (h1 : AftR W d.gone d.chg Lq) (h2 : R.Perm (Lq ++ d.come)) (h3 : R.Pairwise (fun a b => a.1 ≤ b.1)) (hn : ¬ (fm 0 R = 0 ∧ btw W R = d)) : ∀ M, fm 0 M = 0 → btw W M ≠ d := by
  intro M hM e
  subst e
  have := aft_one (Snap.of hW) (Snap.of hM) h1 h2 h3
  subst this
  exact hn ⟨hM, rfl⟩
structure DlOk (d : DlE) : Prop where
  cp : d.G.length ≤ d.gc ∧ d.H.length ≤ d.hc ∧ d.gc ≤ 9223372036854775807 ∧ d.hc ≤ 9223372036854775807
  m : EIn d.M
  zm : esz d.M ≤ 100000
  zh : d.H.length + hsz d.H ≤ 100000
  lo : ∀ x ∈ d.H, x.lost < 256 ∧ ∀ q ∈ x.N, q.k < 256
  zg : d.G.length ≤ 100000
theorem DlOk.dlIn {d : DlE} (h : DlOk d) : DlIn d := ⟨by have := h.zg; omega, by have := h.zm; omega, by have := h.zh; omega, fun x hx => (h.lo x hx).1⟩
set_option maxHeartbeats 16000000 in
theorem patch_any (w0 w : World) (ht : Tab w0) (l : List Thing) (h : Own w0 w l) (aw : Option Addr) (n cw : Nat) (W : List EnE) (d : DlE) (hQ : ∀ w', Own w0 w' l → EntsAt w' aw W ∧ DlAt w' d) (hW : W.length = n) (hcw : n ≤ cw) (hmw : cw ≤ 9223372036854775807) (hIW : EIn W) (hzW : esz W ≤ 50000) (hd : DlOk d) :
    Calls Tryz.prog 65 #[.slice aw n cw, .agg d.vs] w fun e w' => ∃ (code : Nat) (ao : Option Addr) (cap : Nat) (R : List EnE), e = .returned (.tuple #[.slice ao R.length cap, .int .i64 (code : Int)]) ∧ PatR (evs W) d.v code (evs R) ∧ EIn R ∧ esz R ≤ 450000 ∧ Own w0 w' (EntsT ao cap R :: l) := by
  have hB := h.allocC d.vs 70
  have HF1 : Hid (Calls _ _ _ _ _) := form_any _ (ht.quiet hB.fr) aw n cw W ((hQ _ hB.tail).1) hW hIW (by omega)
  have HAF : Hid (∀ W2 b, Own w0 W2 (Cells b #[.slice d.ga d.G.length d.gc, .slice d.ma d.M.length d.mc, .slice d.ha d.H.length d.hc] 70 :: l) → Calls Tryz.prog 93 #[.slice aw n cw, .agg #[.slice d.ga d.G.length d.gc, .slice d.ma d.M.length d.mc, .slice d.ha d.H.length d.hc]] W2 fun e w' => ∃ (ao : Option Addr) (cap : Nat) (R : List EnE), e = .returned (.slice ao R.length cap) ∧ (∃ Lq, AftR (evs W) d.G (chv d.H) Lq ∧ (evs R).Perm (Lq ++ evs d.M) ∧ (evs R).Pairwise (fun a b => a.1 ≤ b.1)) ∧ esz R ≤ 450000 ∧ EIn R ∧ Own w0 w' (EntsT ao cap R :: Cells b #[.slice d.ga d.G.length d.gc, .slice d.ma d.M.length d.mc, .slice d.ha d.H.length d.hc] 70 :: l)) := fun W2 b hw => by
    refine (after_any w0 W2 _ hw aw n cw W d (fun w' hw' => hQ w' hw'.tail) hW hd.cp hIW hd.m (by omega) (by have := hd.zm; omega) (by have := hd.zh; omega) hd.lo (by have := hd.zg; omega)).mono ?_
    rintro e w' ⟨ao, cap, R, h1, h2, h3, h4, h5⟩
    exact ⟨ao, cap, R, h1, h2, by have := hd.zm; have := hd.zh; omega, h4, h5⟩
  have HFR : Hid (∀ (ao : Option Addr) (cap : Nat) (R : List EnE) (b : Nat), esz R ≤ 450000 → EIn R → ∀ W2, Own w0 W2 (EntsT ao cap R :: Cells b #[.slice d.ga d.G.length d.gc, .slice d.ma d.M.length d.mc, .slice d.ha d.H.length d.hc] 70 :: l) → Calls Tryz.prog 28 #[.slice ao R.length cap] W2 fun e w' => e = .returned (.int .i64 ((fm 0 (evs R) : Nat) : Int)) ∧ Fr Nobody W2 w') := fun ao cap R b hz hi W2 hw => form_any W2 (ht.quiet hw.fr) ao R.length cap R hw.entsAt rfl hi (by omega)
  have HBT : Hid (∀ (ao : Option Addr) (cap : Nat) (R : List EnE) (b : Nat), esz R ≤ 450000 → EIn R → ∀ W2, Own w0 W2 (EntsT ao cap R :: Cells b #[.slice d.ga d.G.length d.gc, .slice d.ma d.M.length d.mc, .slice d.ha d.H.length d.hc] 70 :: l) → Calls Tryz.prog 56 #[.slice aw n cw, .slice ao R.length cap] W2 fun e w' => ∃ d2 : DlE, e = .returned (.agg d2.vs) ∧ d2.v = btw (evs W) (evs R) ∧ Own w0 w' (d2.things ++ (EntsT ao cap R :: Cells b #[.slice d.ga d.G.length d.gc, .slice d.ma d.M.length d.mc, .slice d.ha d.H.length d.hc] 70 :: l))) := fun ao cap R b hz hi W2 hw => by
    exact between_any w0 W2 _ hw aw ao n R.length cw cap W R (fun w' hw' => ⟨(hQ w' hw'.tail.tail).1, hw'.entsAt⟩) hW rfl hcw hw.entsCap.1 hmw hw.entsCap.2 hIW hi (by omega) (by omega)
  have HSM : Hid (∀ (ao : Option Addr) (cap : Nat) (R : List EnE) (b : Nat), esz R ≤ 450000 → ∀ (d2 : DlE) W2, d2.v = btw (evs W) (evs R) → Own w0 W2 (d2.things ++ (EntsT ao cap R :: Cells b #[.slice d.ga d.G.length d.gc, .slice d.ma d.M.length d.mc, .slice d.ha d.H.length d.hc] 70 :: l)) → Calls Tryz.prog 94 #[.agg d2.vs, .agg #[.slice d.ga d.G.length d.gc, .slice d.ma d.M.length d.mc, .slice d.ha d.H.length d.hc]] W2 fun e w' => e = .returned (.bool (decide (btw (evs W) (evs R) = d.v))) ∧ Own w0 w' (d2.things ++ (EntsT ao cap R :: Cells b #[.slice d.ga d.G.length d.gc, .slice d.ma d.M.length d.mc, .slice d.ha d.H.length d.hc] 70 :: l))) := fun ao cap R b hz d2 W2 hv hw => by
    rw [← hv]
    refine (sameD_any W2 d2 d hw.dlAt (hQ W2 (Own.dropA hw).tail.tail).2 (dlIn_of hv (by omega) hz) hd.dlIn).mono ?_
    rintro e w' ⟨rfl, hf⟩
    exact ⟨rfl, hw.quiet hf⟩
  have HPN : Hid (∀ R : List EnE, fm 0 (evs W) = 0 → (∃ Lq, AftR (evs W) d.G (chv d.H) Lq ∧ (evs R).Perm (Lq ++ evs d.M) ∧ (evs R).Pairwise (fun a b => a.1 ≤ b.1)) → ¬ (fm 0 (evs R) = 0 ∧ btw (evs W) (evs R) = d.v) → PatR (evs W) d.v 4 []) := fun R h0 ⟨Lq, h1, h2, h3⟩ hn => .inr (.inr ⟨h0, rfl, rfl, pat_no h0 h1 h2 h3 hn⟩)
  have HB : Hid (Own w0 _ _) := hB
  have hs1 := fm_lt 0 (evs W)
  obtain ⟨x, hx⟩ : ∃ x, x = fm 0 (evs W) := ⟨_, rfl⟩
  rw [← hx] at HF1 hs1
  have HX : Hid (fm 0 (evs W) = x) := hx.symm
  clear h hQ hW hcw hmw hIW hzW hB ht hd hx
  unfold DlE.vs at HB HF1
  unfold DlE.vs
  go_enter Tryz.func65, Tryz.ntmps65
  go_wp2_with fail
  refine HF1.out.mono ?_
  rintro e w1 ⟨rfl, hf1⟩
  have h1 := HB.out.quiet hf1
  generalize w.heap.size = b3 at *
  clear HF1 HB hf1
  by_cases hx0 : x = 0
  · subst hx0
    have p0 := h1.cell 0
    have p1 := h1.cell 1
    have p2 := h1.cell 2
    simp at p0 p1 p2
    have HAC : Hid (Calls _ _ _ _ _) := HAF.out w1 b3 h1
    clear h1 HAF
    go_wp2_with fail
    refine HAC.out.mono ?_
    rintro e w4 ⟨a4, c4, R, rfl, hA, hzR, hiR, h4⟩
    have HR : Hid ((∃ Lq, AftR (evs W) d.G (chv d.H) Lq ∧ (evs R).Perm (Lq ++ evs d.M) ∧ (evs R).Pairwise (fun a b => a.1 ≤ b.1)) ∧ esz R ≤ 450000 ∧ EIn R) := ⟨hA, hzR, hiR⟩
    have HP : Hid (¬ (fm 0 (evs R) = 0 ∧ btw (evs W) (evs R) = d.v) → PatR (evs W) d.v 4 []) := HPN.out R HX.out hA
    have HF2 : Hid (∀ W2, Own w0 W2 (EntsT a4 c4 R :: Cells b3 #[.slice d.ga d.G.length d.gc, .slice d.ma d.M.length d.mc, .slice d.ha d.H.length d.hc] 70 :: l) → Calls Tryz.prog 28 #[.slice a4 R.length c4] W2 fun e w' => e = .returned (.int .i64 ((fm 0 (evs R) : Nat) : Int)) ∧ Fr Nobody W2 w') := HFR.out a4 c4 R b3 hzR hiR
    have HB2 : Hid (∀ W2, Own w0 W2 (EntsT a4 c4 R :: Cells b3 #[.slice d.ga d.G.length d.gc, .slice d.ma d.M.length d.mc, .slice d.ha d.H.length d.hc] 70 :: l) → Calls Tryz.prog 56 #[.slice aw n cw, .slice a4 R.length c4] W2 fun e w' => ∃ d2 : DlE, e = .returned (.agg d2.vs) ∧ d2.v = btw (evs W) (evs R) ∧ Own w0 w' (d2.things ++ (EntsT a4 c4 R :: Cells b3 #[.slice d.ga d.G.length d.gc, .slice d.ma d.M.length d.mc, .slice d.ha d.H.length d.hc] 70 :: l))) := HBT.out a4 c4 R b3 hzR hiR
    have HS2 : Hid (∀ (d2 : DlE) W2, d2.v = btw (evs W) (evs R) → Own w0 W2 (d2.things ++ (EntsT a4 c4 R :: Cells b3 #[.slice d.ga d.G.length d.gc, .slice d.ma d.M.length d.mc, .slice d.ha d.H.length d.hc] 70 :: l)) → Calls Tryz.prog 94 #[.agg d2.vs, .agg #[.slice d.ga d.G.length d.gc, .slice d.ma d.M.length d.mc, .slice d.ha d.H.length d.hc]] W2 fun e w' => e = .returned (.bool (decide (btw (evs W) (evs R) = d.v))) ∧ Own w0 w' (d2.things ++ (EntsT a4 c4 R :: Cells b3 #[.slice d.ga d.G.length d.gc, .slice d.ma d.M.length d.mc, .slice d.ha d.H.length d.hc] 70 :: l))) := HSM.out a4 c4 R b3 hzR
    clear hA hzR hiR HPN HFR HBT HSM HAC p0 p1 p2
    obtain ⟨q, hq⟩ : ∃ q : Bool, q = decide (btw (evs W) (evs R) = d.v) := ⟨_, rfl⟩
    have hsr := fm_lt 0 (evs R)
    obtain ⟨r, hr⟩ : ∃ r, r = fm 0 (evs R) := ⟨_, rfl⟩
    rw [← hr] at HF2 hsr
    rw [← hq] at HS2
    have HQR : Hid (q = decide (btw (evs W) (evs R) = d.v) ∧ r = fm 0 (evs R)) := ⟨hq, hr⟩
    clear hq hr
    generalize hrl : R.length = rl at *
    have HO4 : Hid (Own w0 w4 (EntsT a4 c4 R :: Cells b3 #[.slice d.ga d.G.length d.gc, .slice d.ma d.M.length d.mc, .slice d.ha d.H.length d.hc] 70 :: l)) := h4
    clear h4
    go_wp2_with fail
    go_cut [26] (fun s26 wc => s26 = .bool (!(decide (r = 0) && q)) ∧ Own w0 wc (EntsT a4 c4 R :: Cells b3 #[.slice d.ga d.G.length d.gc, .slice d.ma d.M.length d.mc, .slice d.ha d.H.length d.hc] 70 :: l))
    case first =>
      by_cases hr0 : r = 0
      · subst hr0
        have O1 := HO4.out.drew
        have p0 := HO4.out.two.cell 0
        have p1 := HO4.out.two.cell 1
        have p2 := HO4.out.two.cell 2
        simp at p0 p1 p2
        have z0 : ((0 : Int) != 0) = false := rfl
        clear HO4
        go_region_held3 (fun w' => w'.cell? ⟨b3, 0, none⟩ = some (.slice d.ga d.G.length d.gc) ∧ w'.cell? ⟨b3, 1, none⟩ = some (.slice d.ma d.M.length d.mc) ∧ w'.cell? ⟨b3, 2, none⟩ = some (.slice d.ha d.H.length d.hc)) (go_keep)
          (first
            | (go_at_call 28; with_reducible refine (HF2.out _ O1).mono ?_; rintro e w5 ⟨rfl, hf5⟩
               have O5 := Own.quiet O1 hf5
               have u0 := (Own.two O5).cell 0
               have u1 := (Own.two O5).cell 1
               have u2 := (Own.two O5).cell 2
               simp at u0 u1 u2)
            | (go_at_call 56; with_reducible refine (HB2.out _ O5).mono ?_; rintro e w6 ⟨d2, rfl, hd2, O6⟩
               have u0 := (Own.two (Own.dropA O6)).cell 0
               have u1 := (Own.two (Own.dropA O6)).cell 1
               have u2 := (Own.two (Own.dropA O6)).cell 2
               simp at u0 u1 u2)
            | (go_at_call 94; with_reducible refine (HS2.out _ _ hd2 O6).mono ?_; rintro e w7 ⟨rfl, O7⟩
               have u0 := (Own.two (Own.dropA O7)).cell 0
               have u1 := (Own.two (Own.dropA O7)).cell 1
               have u2 := (Own.two (Own.dropA O7)).cell 2
               simp at u0 u1 u2))
        go_wp2
        go_meet
        case rel => exact ⟨by cases q <;> rfl, Own.dropA O7⟩
      · have hr1 : ((r : Int) != 0) = true := by simpa using hr0
        have hrd : decide (r = 0) = false := decide_eq_false hr0
        have HID : Hid (∀ f : FrOf w4, Calls Tryz.prog 28 #[.slice a4 rl c4] f.val fun e w' => e = .returned (.int .i64 (r : Int)) ∧ Fr Nobody f.val w') := fun f => HF2.out f.val (HO4.out.quiet f.fr)
        clear hr0 HF2 HB2 HS2
        go_wp2
        refine wp_region_fr (by kernel_rfl) (by kernel_rfl) ?_
        repeat (with_reducible refine wpQuiet_step (fun K hK => ?_)
                go_simp
                first
                  | (refine hK _ ?_; clear hK K)
                  | (apply Exists.intro
                     refine ⟨fun _ => ?_, hK _ ?_⟩
                     (go_at_call 28; with_reducible refine Calls.fr_of (HID.out _))
                     clear hK K))
        refine wpQuiet_nil ?_
        rintro w' ⟨f, rfl⟩
        have HO2 : Hid (Own w0 f.val _) := HO4.out.quiet f.fr
        generalize f.val = W2 at *
        go_wp2
        go_meet
        case rel => exact ⟨by rw [hrd]; rfl, HO2.out⟩
    case rest =>
      obtain ⟨rfl, hO5⟩ := hcut
      clear HF2 HB2 HS2 HO4
      by_cases hg : (decide (r = 0) && q) = true
      · have HG : Hid (r = 0 ∧ q = true) := by rw [Bool.and_eq_true, decide_eq_true_eq] at hg; exact hg
        rw [hg]
        have HO : Hid (Own w0 wc (EntsT a4 c4 R :: l)) := hO5.two.tail
        clear hO5 hg HP
        go_wp2
        go_ret2
        refine ⟨0, a4, c4, R, by rw [hrl]; rfl, .inr (.inl ⟨HX.out, rfl, ?_, ?_⟩), HR.out.2.2, HR.out.2.1, HO.out⟩
        · rw [← HQR.out.2]; exact HG.out.1
        · have := HQR.out.1; rw [HG.out.2] at this; exact of_decide_eq_true this.symm
      · have HG : Hid (¬ (fm 0 (evs R) = 0 ∧ btw (evs W) (evs R) = d.v)) := by
          rw [Bool.and_eq_true, decide_eq_true_eq, HQR.out.1, decide_eq_true_eq, HQR.out.2] at hg; exact hg
        have hg' : (decide (r = 0) && q) = false := by cases hh : (decide (r = 0) && q) with | false => rfl | true => exact absurd hh hg
        rw [hg']
        have HF : Hid (Own w0 wc (EntsT none 0 [] :: l)) := Own.ents (ao := none) (cap := 0) (L := []) (hO5.tail.tail.nilRow _ _)
        clear hO5 hg hg'
        go_wp2
        go_ret2
        exact ⟨4, none, 0, [], rfl, HP.out HG.out, (fun y hy => nomatch hy), by decide, HF.out⟩
  · have hx1 : ((x : Int) != 0) = true := by simpa using hx0
    have HF : Hid (Own w0 w1 (EntsT none 0 [] :: l)) := Own.ents (ao := none) (cap := 0) (L := []) (h1.tail.nilRow _ _)
    clear h1 HAF HFR HBT HSM HPN
    go_wp2
    go_ret2
    exact ⟨x, none, 0, [], rfl, .inl ⟨by rw [HX.out]; exact hx0, HX.out.symm, rfl⟩, (fun y hy => nomatch hy), by decide, HF.out⟩
end Go.Proofs.YtcmofbhfdagpcaaGreatDoor


/-
  The packet's reader: lists of nobody; a Full and a Step of nobody.
-/
namespace Go.Proofs.YtcmofbhfdagpcaaGreatDoor
open Go.RowKit
set_option linter.unusedVariables false
set_option maxRecDepth 100000

theorem grp0 : 5 * grp 0 = 5 := by decide +kernel
set_option maxHeartbeats 1000000 in
theorem rdids0 (w0 w : World) (l : List Thing) (b : Nat) (P : List Nat) (t : Nat) (R : List Bool)  (h : Own w0 w (RdT b P t :: l)) (hb : (bitsB P).drop t = var 0 ++ R) :
    Calls Tryz.prog 63 #[.agg #[.pointer (some ⟨b, 0, none⟩)]] w fun e w' => e = .returned (.slice none 0 0) ∧ Own w0 w' (RdT b P (t + 5) :: l) := by
  have hB := h.allocC #[.pointer (some ⟨b, 0, none⟩)] 54
  have q0 := hB.cell 0
  simp at q0
  have H1 : Hid (Calls Tryz.prog 87 #[.agg #[.pointer (some ⟨b, 0, none⟩)]] _ fun e w' => e = .returned (.int .u64 0) ∧ Own w0 w' _) := rdgetVar w0 _ _ b P t 0 R hB.two (by decide) hb
  rw [grp0] at H1
  clear h hB hb
  go_enter Tryz.func63, Tryz.ntmps63
  go_wp2_with fail
  refine H1.out.mono ?_
  rintro e w1 ⟨rfl, h1⟩
  have H2 : Hid (Own w0 w1 (RdT b P (t + 5) :: l)) := h1.two.tail
  clear h1 H1 q0
  go_wp2
  go_loopw [3, 7] (fun va vc wr => va = .slice none 0 0 ∧ vc = .int .u64 0 ∧ Own w0 wr (RdT b P (t + 5) :: l)) (fun _ _ _ => 0)
  case atStart => exact ⟨rfl, rfl, H2.out⟩
  case round =>
    obtain ⟨rfl, rfl, hO⟩ := hrel
    have HO : Hid (Own w0 wr _) := hO
    clear hO H2
    go_wp2
    go_ret
    exact ⟨rfl, HO.out⟩
set_option maxHeartbeats 1000000 in
theorem rdents0 (w0 w : World) (l : List Thing) (b : Nat) (P : List Nat) (t : Nat) (R : List Bool)  (h : Own w0 w (RdT b P t :: l)) (hb : (bitsB P).drop t = var 0 ++ R) :
    Calls Tryz.prog 62 #[.agg #[.pointer (some ⟨b, 0, none⟩)]] w fun e w' => e = .returned (.slice none 0 0) ∧ Own w0 w' (RdT b P (t + 5) :: l) := by
  have hB := h.allocC #[.pointer (some ⟨b, 0, none⟩)] 54
  have q0 := hB.cell 0
  simp at q0
  have H1 : Hid (Calls Tryz.prog 87 #[.agg #[.pointer (some ⟨b, 0, none⟩)]] _ fun e w' => e = .returned (.int .u64 0) ∧ Own w0 w' _) := rdgetVar w0 _ _ b P t 0 R hB.two (by decide) hb
  rw [grp0] at H1
  clear h hB hb
  go_enter Tryz.func62, Tryz.ntmps62
  go_wp2_with fail
  refine H1.out.mono ?_
  rintro e w1 ⟨rfl, h1⟩
  have H2 : Hid (Own w0 w1 (RdT b P (t + 5) :: l)) := h1.two.tail
  clear h1 H1 q0
  go_wp2
  go_loopw [3, 7] (fun va vc wr => va = .slice none 0 0 ∧ vc = .int .u64 0 ∧ Own w0 wr (RdT b P (t + 5) :: l)) (fun _ _ _ => 0)
  case atStart => exact ⟨rfl, rfl, H2.out⟩
  case round =>
    obtain ⟨rfl, rfl, hO⟩ := hrel
    have HO : Hid (Own w0 wr _) := hO
    clear hO H2
    go_wp2
    go_ret
    exact ⟨rfl, HO.out⟩
set_option maxHeartbeats 1000000 in
theorem rdchanges0 (w0 w : World) (l : List Thing) (b : Nat) (P : List Nat) (t : Nat) (R : List Bool) (wv : Value) (h : Own w0 w (RdT b P t :: l)) (hb : (bitsB P).drop t = var 0 ++ R) :
    Calls Tryz.prog 64 #[.agg #[.pointer (some ⟨b, 0, none⟩)], wv] w fun e w' => e = .returned (.slice none 0 0) ∧ Own w0 w' (RdT b P (t + 5) :: l) := by
  have hB := h.allocC #[.pointer (some ⟨b, 0, none⟩)] 54
  have q0 := hB.cell 0
  simp at q0
  have H1 : Hid (Calls Tryz.prog 87 #[.agg #[.pointer (some ⟨b, 0, none⟩)]] _ fun e w' => e = .returned (.int .u64 0) ∧ Own w0 w' _) := rdgetVar w0 _ _ b P t 0 R hB.two (by decide) hb
  rw [grp0] at H1
  clear h hB hb
  go_enter Tryz.func64, Tryz.ntmps64
  go_wp2_with fail
  refine H1.out.mono ?_
  rintro e w1 ⟨rfl, h1⟩
  have H2 : Hid (Own w0 w1 (RdT b P (t + 5) :: l)) := h1.two.tail
  clear h1 H1 q0
  go_wp2
  go_loopw [5, 12] (fun va vc wr => va = .slice none 0 0 ∧ vc = .int .u64 0 ∧ Own w0 wr (RdT b P (t + 5) :: l)) (fun _ _ _ => 0)
  case atStart => exact ⟨rfl, rfl, H2.out⟩
  case round =>
    obtain ⟨rfl, rfl, hO⟩ := hrel
    have HO : Hid (Own w0 wr _) := hO
    clear hO H2
    go_wp2
    go_ret
    exact ⟨rfl, HO.out⟩
set_option maxHeartbeats 1000000 in
theorem rdsnap0 (w0 w : World) (ht : Tab w0) (l : List Thing) (b : Nat) (P : List Nat) (t : Nat) (R : List Bool) (h : Own w0 w (RdT b P t :: l)) (hb : (bitsB P).drop t = var 0 ++ R) :
    Calls Tryz.prog 38 #[.agg #[.pointer (some ⟨b, 0, none⟩)]] w fun e w' => e = .returned (.slice none 0 0) ∧ Own w0 w' (RdT b P (t + 5) :: l) := by
  have hB := h.allocC #[.pointer (some ⟨b, 0, none⟩)] 54
  have q0 := hB.cell 0
  simp at q0
  have H1 : Hid (Calls _ _ _ _ _) := rdents0 w0 _ _ b P t R hB.two hb
  have HF : Hid (∀ W l', Own w0 W l' → Calls Tryz.prog 28 #[.slice none 0 0] W fun e w' => e = .returned (.int .i64 0) ∧ Fr Nobody W w') := fun W l' hW => form_any W (ht.quiet hW.fr) none 0 0 [] (EntsAt.nil _ _) rfl (fun x hx => by cases hx) (by decide)
  clear h hB hb ht
  go_enter Tryz.func38, Tryz.ntmps38
  go_wp2_with fail
  refine H1.out.mono ?_
  rintro e w1 ⟨rfl, h1⟩
  have HF1 : Hid (Calls _ _ _ _ _) := HF.out w1 _ h1
  have H2 : Hid (Own w0 w1 (RdT b P (t + 5) :: l)) := h1.two.tail
  clear h1 H1 q0 HF
  go_wp2_with fail
  refine HF1.out.mono ?_
  rintro e w2 ⟨rfl, hf2⟩
  have HM : Hid (Calls _ _ _ _ _) := must_ok w2
  have H3 : Hid (Own w0 w2 _) := H2.out.quiet hf2
  clear hf2 HF1 H2
  go_wp2_with fail
  refine HM.out.mono ?_
  rintro e w3 ⟨rfl, rfl⟩
  clear HM
  go_wp2
  go_ret
  exact ⟨rfl, H3.out⟩
theorem pat0 {code : Nat} {R : List EnE} (h : PatR (evs []) nilD.v code (evs R)) : code = 0 ∧ R.length = 0 := by
  have f0 : fm 0 (evs []) = 0 := rfl
  have b0 : btw ([] : List En) [] = nilD.v := by rw [btw_self [] (Snap.of rfl)]; rfl
  rcases h with ⟨h, _⟩ | ⟨_, hc, h1, h2⟩ | ⟨_, _, _, h⟩
  · exact absurd f0 h
  · have e : evs [] = evs R := btw_empty (Snap.of f0) (Snap.of h1) (by rw [h2]; rfl) (by rw [h2]; rfl) (by rw [h2]; rfl)
    have := congrArg List.length e
    rw [evs_len, evs_len] at this
    exact ⟨hc, this.symm⟩
  · exact absurd b0 (h [] rfl)
theorem dlOk0 : DlOk nilD := ⟨⟨by decide, by decide, by decide, by decide⟩, (fun x hx => by cases hx), by decide, by decide, (fun x hx => by cases hx), by decide⟩
set_option maxHeartbeats 2000000 in
theorem rdstep0 (w0 w : World) (ht : Tab w0) (l : List Thing) (b : Nat) (P : List Nat) (t : Nat) (R : List Bool) (h : Own w0 w (RdT b P t :: l)) (hb : (bitsB P).drop t = var 0 ++ (var 0 ++ (var 0 ++ R))) :
    Calls Tryz.prog 39 #[.agg #[.pointer (some ⟨b, 0, none⟩)], .slice none 0 0] w fun e w' => ∃ ao cap, e = .returned (.slice ao 0 cap) ∧ Own w0 w' (RdT b P (t + 5 + 5 + 5) :: l) := by
  have h1 := (h.allocC #[.pointer (some ⟨b, 0, none⟩)] 54).allocC #[.slice none 0 0, .slice none 0 0, .slice none 0 0] 70
  have s1 : (w.alloc (.cells #[.pointer (some ⟨b, 0, none⟩)] 54)).heap.size = w.heap.size + 1 := Array.size_push _
  rw [s1] at h1
  have q0 := h1.two.cell 0
  simp at q0
  have d1 := drop_next hb length_var0
  have d2 := drop_next d1 length_var0
  have H1 : Hid (Calls _ _ _ _ _) := rdids0 w0 _ _ b P t _ h1.three hb
  have HPA : Hid (∀ W l', Own w0 W l' → Calls Tryz.prog 65 #[.slice none 0 0, .agg #[.slice none 0 0, .slice none 0 0, .slice none 0 0]] W fun e w' => ∃ (code : Nat) (ao : Option Addr) (cap : Nat) (R : List EnE), e = .returned (.tuple #[.slice ao R.length cap, .int .i64 (code : Int)]) ∧ PatR (evs []) nilD.v code (evs R) ∧ EIn R ∧ esz R ≤ 450000 ∧ Own w0 w' (EntsT ao cap R :: l')) := fun W l' hW => patch_any w0 W ht l' hW none 0 0 [] nilD (fun w' hw => ⟨EntsAt.nil _ _, (hw.nilDl).dlAt⟩) rfl (Nat.le_refl _) (by decide) (fun x hx => by cases hx) (by decide) dlOk0
  clear h h1 hb s1 ht
  go_enter Tryz.func39, Tryz.ntmps39
  go_wp2_with fail
  refine H1.out.mono ?_
  rintro e w1 ⟨rfl, h1⟩
  generalize hbx : w.heap.size = bx at *
  clear hbx
  have z0 := h1.two.froz 0
  have y0 := h1.two.cell 0
  have h2 : Own w0 (w1.setCell ⟨bx + 1, 0, none⟩ (.slice none 0 0)) (Cells (bx + 1) #[.slice none 0 0, .slice none 0 0, .slice none 0 0] 70 :: RdT b P (t + 5) :: Cells bx #[.pointer (some ⟨b, 0, none⟩)] 54 :: l) := h1.two.setC 0 (.slice none 0 0)
  have q1 := h2.three.cell 0
  simp at q1 y0
  have H2 : Hid (Calls _ _ _ _ _) := rdents0 w0 _ _ b P (t + 5) _ h2.two d1
  clear h1 h2 H1 q0 d1
  go_wp2_with fail
  refine H2.out.mono ?_
  rintro e w2 ⟨rfl, h3⟩
  have z1 := h3.two.froz 1
  have y1 := h3.two.cell 1
  have h4 : Own w0 (w2.setCell ⟨bx + 1, 1, none⟩ (.slice none 0 0)) (Cells (bx + 1) #[.slice none 0 0, .slice none 0 0, .slice none 0 0] 70 :: RdT b P (t + 5 + 5) :: Cells bx #[.pointer (some ⟨b, 0, none⟩)] 54 :: l) := h3.two.setC 1 (.slice none 0 0)
  have q2 := h4.three.cell 0
  simp at q2 y1
  have H3 : Hid (Calls _ _ _ _ _) := rdchanges0 w0 _ _ b P (t + 5 + 5) _ (.slice none 0 0) h4.two d2
  clear h3 h4 H2 q1 d2 z0 y0
  go_wp2_with fail
  refine H3.out.mono ?_
  rintro e w3 ⟨rfl, h5⟩
  have z2 := h5.two.froz 2
  have y2 := h5.two.cell 2
  have h6 : Own w0 (w3.setCell ⟨bx + 1, 2, none⟩ (.slice none 0 0)) (Cells (bx + 1) #[.slice none 0 0, .slice none 0 0, .slice none 0 0] 70 :: RdT b P (t + 5 + 5 + 5) :: Cells bx #[.pointer (some ⟨b, 0, none⟩)] 54 :: l) := h5.two.setC 2 (.slice none 0 0)
  have p0 := h6.cell 0
  have p1 := h6.cell 1
  have p2 := h6.cell 2
  simp at p0 p1 p2 y2
  have H4 : Hid (Calls _ _ _ _ _) := HPA.out _ _ h6
  clear h5 h6 H3 q2 z1 y1 HPA
  go_wp2_with fail
  refine H4.out.mono ?_
  rintro e w4 ⟨code, ao, cap, RR, rfl, hP, -, -, h7⟩
  obtain ⟨rfl, hl0⟩ := pat0 hP
  rw [hl0]
  have HM : Hid (Calls _ _ _ _ _) := must_ok w4
  have H8 : Hid (Own w0 w4 (RdT b P (t + 5 + 5 + 5) :: l)) := h7.tail.tail.two.tail
  clear h7 hP hl0 H4 p0 p1 p2 z2 y2
  go_wp2_with fail
  refine HM.out.mono ?_
  rintro e w5 ⟨rfl, rfl⟩
  clear HM
  go_wp2
  go_ret
  exact ⟨ao, cap, rfl, H8.out⟩
end Go.Proofs.YtcmofbhfdagpcaaGreatDoor

/-
  The packet's reader: all of a packet that has no entities.
-/
namespace Go.Proofs.YtcmofbhfdagpcaaGreatDoor
open Go.RowKit
set_option linter.unusedVariables false
set_option maxRecDepth 100000

/-- what a reader that has read all finds behind it -/
def AtEnd (P : List Nat) (t : Nat) : Prop := 8 * P.length - t < 8 ∧ numAt P t (8 * P.length - t) = 0
set_option maxHeartbeats 4000000 in
theorem rdall1 (w0 w : World) (ht : Tab w0) (l : List Thing) (b : Nat) (P : List Nat) (t : Nat) (h : Own w0 w (RdT b P t :: l)) (c e tk s : Nat) (hR : Right 1 c e tk s) (R : List Bool) (hb : (bitsB P).drop t = headB 1 c e tk s ++ (var 0 ++ R)) (hE : AtEnd P (t + (headB 1 c e tk s).length + 5)) :
    Calls Tryz.prog 20 #[.agg #[.pointer (some ⟨b, 0, none⟩)], .slice none 0 0] w fun x w' => x = .returned (.agg #[.int .u8 1, .int .u8 (c : Int), .int .u32 (e : Int), .int .u32 (tk : Int), .int .u32 (s : Int), .slice none 0 0]) ∧ Own w0 w' l := by
  have h1' := (h.allocC #[.pointer (some ⟨b, 0, none⟩)] 54).allocC #[.int .u8 0, .int .u8 0, .int .u32 0, .int .u32 0, .int .u32 0, .slice none 0 0] 49
  have s1 : (w.alloc (.cells #[.pointer (some ⟨b, 0, none⟩)] 54)).heap.size = w.heap.size + 1 := Array.size_push _
  rw [s1] at h1'
  have q0 := h1'.two.cell 0
  simp at q0
  have HH : Hid (Calls Tryz.prog 37 #[.agg #[.pointer (some ⟨b, 0, none⟩)]] _ fun x w' => x = .returned (.agg #[.int .u8 1, .int .u8 (c : Int), .int .u32 (e : Int), .int .u32 (tk : Int), .int .u32 (s : Int)]) ∧ Own w0 w' (RdT b P (t + (headB 1 c e tk s).length) :: _)) := rdhead w0 _ _ b P t h1'.three 1 c e tk s hR _ hb
  have d1 := drop_next hb rfl
  have HE : Hid (AtEnd P (t + (headB 1 c e tk s).length + 5)) := hE
  have HS : Hid (∀ W l', Own w0 W (RdT b P (t + (headB 1 c e tk s).length) :: l') → Calls Tryz.prog 38 #[.agg #[.pointer (some ⟨b, 0, none⟩)]] W fun x w' => x = .returned (.slice none 0 0) ∧ Own w0 w' (RdT b P (t + (headB 1 c e tk s).length + 5) :: l')) := fun W l' hW => rdsnap0 w0 W ht l' b P _ R hW d1
  clear h h1' hb s1 ht hR hE d1
  generalize (t + (headB 1 c e tk s).length) = t1 at *
  generalize hT2 : t1 + 5 = t2 at *
  clear hT2
  go_enter Tryz.func20, Tryz.ntmps20
  go_wp2_with fail
  refine HH.out.mono ?_
  rintro x w1 ⟨rfl, h1⟩
  generalize hbx : w.heap.size = bx at *
  clear hbx
  have h2 := h1.allocC #[.int .u8 1, .int .u8 (c : Int), .int .u32 (e : Int), .int .u32 (tk : Int), .int .u32 (s : Int), .slice none 0 0] 49
  have q1 := h2.cell 0
  have q2 := h2.four.cell 0
  simp at q1 q2
  have HS1 : Hid (Calls _ _ _ _ _) := HS.out _ _ h2.two
  clear h1 h2 HH q0 HS
  go_wp2_with fail
  refine HS1.out.mono ?_
  rintro x w2 ⟨rfl, h3⟩
  generalize w1.heap.size = bt at *
  have z5 := h3.two.froz 5
  have y5 := h3.two.cell 5
  have h4 : Own w0 (w2.setCell ⟨bt, 5, none⟩ (.slice none 0 0)) (Cells bt #[.int .u8 1, .int .u8 (c : Int), .int .u32 (e : Int), .int .u32 (tk : Int), .int .u32 (s : Int), .slice none 0 0] 49 :: RdT b P t2 :: Cells (bx + 1) #[.int .u8 0, .int .u8 0, .int .u32 0, .int .u32 0, .int .u32 0, .slice none 0 0] 49 :: Cells bx #[.pointer (some ⟨b, 0, none⟩)] 54 :: l) := h3.two.setC 5 (.slice none 0 0)
  have q3 := h4.four.cell 0
  simp at q3 y5
  have HN : Hid (Calls _ _ _ _ _) := end_own w0 _ _ b P t2 h4.two HE.out.1 HE.out.2
  clear h3 h4 HS1 q1 q2
  go_wp2_with fail
  refine HN.out.mono ?_
  rintro x w3 ⟨rfl, h5⟩
  have HM : Hid (Calls _ _ _ _ _) := must_ok w3
  have H5 : Hid (Own w0 w3 (Cells bt #[.int .u8 1, .int .u8 (c : Int), .int .u32 (e : Int), .int .u32 (tk : Int), .int .u32 (s : Int), .slice none 0 0] 49 :: RdT b P t2 :: Cells (bx + 1) #[.int .u8 0, .int .u8 0, .int .u32 0, .int .u32 0, .int .u32 0, .slice none 0 0] 49 :: Cells bx #[.pointer (some ⟨b, 0, none⟩)] 54 :: l)) := h5.two
  clear h5 HN q3 z5 y5
  go_wp2_with fail
  refine HM.out.mono ?_
  rintro x w4 ⟨rfl, rfl⟩
  have p0 := H5.out.cell 0
  have p1 := H5.out.cell 1
  have p2 := H5.out.cell 2
  have p3 := H5.out.cell 3
  have p4 := H5.out.cell 4
  have p5 := H5.out.cell 5
  simp at p0 p1 p2 p3 p4 p5
  have f0 := H5.out.three.froz 0
  have r0 := H5.out.three.cell 0
  have f1 := H5.out.three.froz 1
  have r1 := H5.out.three.cell 1
  have f2 := H5.out.three.froz 2
  have r2 := H5.out.three.cell 2
  have f3 := H5.out.three.froz 3
  have r3 := H5.out.three.cell 3
  have f4 := H5.out.three.froz 4
  have r4 := H5.out.three.cell 4
  have f5 := H5.out.three.froz 5
  have r5 := H5.out.three.cell 5
  simp at r0 r1 r2 r3 r4 r5
  have H10 : Hid (Own w0 ((((((w4.setCell ⟨bx + 1, 0, none⟩ (.int .u8 1)).setCell ⟨bx + 1, 1, none⟩ (.int .u8 (c : Int))).setCell ⟨bx + 1, 2, none⟩ (.int .u32 (e : Int))).setCell ⟨bx + 1, 3, none⟩ (.int .u32 (tk : Int))).setCell ⟨bx + 1, 4, none⟩ (.int .u32 (s : Int))).setCell ⟨bx + 1, 5, none⟩ (.slice none 0 0)) (Cells (bx + 1) #[.int .u8 1, .int .u8 (c : Int), .int .u32 (e : Int), .int .u32 (tk : Int), .int .u32 (s : Int), .slice none 0 0] 49 :: Cells bt #[.int .u8 1, .int .u8 (c : Int), .int .u32 (e : Int), .int .u32 (tk : Int), .int .u32 (s : Int), .slice none 0 0] 49 :: RdT b P t2 :: Cells bx #[.pointer (some ⟨b, 0, none⟩)] 54 :: l)) := ((((((H5.out.three.setC 0 (.int .u8 1)).setC 1 (.int .u8 (c : Int))).setC 2 (.int .u32 (e : Int))).setC 3 (.int .u32 (tk : Int))).setC 4 (.int .u32 (s : Int))).setC 5 (.slice none 0 0))
  clear H5 HM
  go_wp2
  (try simp only [Exit.inBlock, Exit.then])
  refine bodyPost_ret (results_cell_row rfl _ _ (bx + 1) 49 #[.int .u8 1, .int .u8 (c : Int), .int .u32 (e : Int), .int .u32 (tk : Int), .int .u32 (s : Int), .slice none 0 0] _ _ rfl H10.out.obj Tryz.underlying49 rfl (by kernel_rfl)) rfl ?_
  exact ⟨rfl, H10.out.tail.tail.tail.tail⟩
set_option maxHeartbeats 4000000 in
theorem rdall2 (w0 w : World) (ht : Tab w0) (l : List Thing) (b : Nat) (P : List Nat) (t : Nat) (h : Own w0 w (RdT b P t :: l)) (c e tk s : Nat) (hR : Right 2 c e tk s) (R : List Bool) (hb : (bitsB P).drop t = headB 2 c e tk s ++ (var 0 ++ (var 0 ++ (var 0 ++ R)))) (hE : AtEnd P (t + (headB 2 c e tk s).length + 5 + 5 + 5)) :
    Calls Tryz.prog 20 #[.agg #[.pointer (some ⟨b, 0, none⟩)], .slice none 0 0] w fun x w' => ∃ ao cap, x = .returned (.agg #[.int .u8 2, .int .u8 (c : Int), .int .u32 (e : Int), .int .u32 (tk : Int), .int .u32 (s : Int), .slice ao 0 cap]) ∧ Own w0 w' l := by
  have h1' := (h.allocC #[.pointer (some ⟨b, 0, none⟩)] 54).allocC #[.int .u8 0, .int .u8 0, .int .u32 0, .int .u32 0, .int .u32 0, .slice none 0 0] 49
  have s1 : (w.alloc (.cells #[.pointer (some ⟨b, 0, none⟩)] 54)).heap.size = w.heap.size + 1 := Array.size_push _
  rw [s1] at h1'
  have q0 := h1'.two.cell 0
  simp at q0
  have HH : Hid (Calls Tryz.prog 37 #[.agg #[.pointer (some ⟨b, 0, none⟩)]] _ fun x w' => x = .returned (.agg #[.int .u8 2, .int .u8 (c : Int), .int .u32 (e : Int), .int .u32 (tk : Int), .int .u32 (s : Int)]) ∧ Own w0 w' (RdT b P (t + (headB 2 c e tk s).length) :: _)) := rdhead w0 _ _ b P t h1'.three 2 c e tk s hR _ hb
  have d1 := drop_next hb rfl
  have HE : Hid (AtEnd P (t + (headB 2 c e tk s).length + 5 + 5 + 5)) := hE
  have HS : Hid (∀ W l', Own w0 W (RdT b P (t + (headB 2 c e tk s).length) :: l') → Calls Tryz.prog 39 #[.agg #[.pointer (some ⟨b, 0, none⟩)], .slice none 0 0] W fun x w' => ∃ ao cap, x = .returned (.slice ao 0 cap) ∧ Own w0 w' (RdT b P (t + (headB 2 c e tk s).length + 5 + 5 + 5) :: l')) := fun W l' hW => rdstep0 w0 W ht l' b P _ R hW d1
  clear h h1' hb s1 ht hR hE d1
  generalize (t + (headB 2 c e tk s).length) = t1 at *
  generalize hT2 : t1 + 5 + 5 + 5 = t2 at *
  clear hT2
  go_enter Tryz.func20, Tryz.ntmps20
  go_wp2_with fail
  refine HH.out.mono ?_
  rintro x w1 ⟨rfl, h1⟩
  generalize hbx : w.heap.size = bx at *
  clear hbx
  have h2 := h1.allocC #[.int .u8 2, .int .u8 (c : Int), .int .u32 (e : Int), .int .u32 (tk : Int), .int .u32 (s : Int), .slice none 0 0] 49
  have q1 := h2.cell 0
  have q2 := h2.four.cell 0
  simp at q1 q2
  have HS1 : Hid (Calls _ _ _ _ _) := HS.out _ _ h2.two
  clear h1 h2 HH q0 HS
  go_wp2_with fail
  refine HS1.out.mono ?_
  rintro x w2 ⟨ao, cap, rfl, h3⟩
  generalize w1.heap.size = bt at *
  have z5 := h3.two.froz 5
  have y5 := h3.two.cell 5
  have h4 : Own w0 (w2.setCell ⟨bt, 5, none⟩ (.slice ao 0 cap)) (Cells bt #[.int .u8 2, .int .u8 (c : Int), .int .u32 (e : Int), .int .u32 (tk : Int), .int .u32 (s : Int), .slice ao 0 cap] 49 :: RdT b P t2 :: Cells (bx + 1) #[.int .u8 0, .int .u8 0, .int .u32 0, .int .u32 0, .int .u32 0, .slice none 0 0] 49 :: Cells bx #[.pointer (some ⟨b, 0, none⟩)] 54 :: l) := h3.two.setC 5 (.slice ao 0 cap)
  have q3 := h4.four.cell 0
  simp at q3 y5
  have HN : Hid (Calls _ _ _ _ _) := end_own w0 _ _ b P t2 h4.two HE.out.1 HE.out.2
  clear h3 h4 HS1 q1 q2
  go_wp2_with fail
  refine HN.out.mono ?_
  rintro x w3 ⟨rfl, h5⟩
  have HM : Hid (Calls _ _ _ _ _) := must_ok w3
  have H5 : Hid (Own w0 w3 (Cells bt #[.int .u8 2, .int .u8 (c : Int), .int .u32 (e : Int), .int .u32 (tk : Int), .int .u32 (s : Int), .slice ao 0 cap] 49 :: RdT b P t2 :: Cells (bx + 1) #[.int .u8 0, .int .u8 0, .int .u32 0, .int .u32 0, .int .u32 0, .slice none 0 0] 49 :: Cells bx #[.pointer (some ⟨b, 0, none⟩)] 54 :: l)) := h5.two
  clear h5 HN q3 z5 y5
  go_wp2_with fail
  refine HM.out.mono ?_
  rintro x w4 ⟨rfl, rfl⟩
  have p0 := H5.out.cell 0
  have p1 := H5.out.cell 1
  have p2 := H5.out.cell 2
  have p3 := H5.out.cell 3
  have p4 := H5.out.cell 4
  have p5 := H5.out.cell 5
  simp at p0 p1 p2 p3 p4 p5
  have f0 := H5.out.three.froz 0
  have r0 := H5.out.three.cell 0
  have f1 := H5.out.three.froz 1
  have r1 := H5.out.three.cell 1
  have f2 := H5.out.three.froz 2
  have r2 := H5.out.three.cell 2
  have f3 := H5.out.three.froz 3
  have r3 := H5.out.three.cell 3
  have f4 := H5.out.three.froz 4
  have r4 := H5.out.three.cell 4
  have f5 := H5.out.three.froz 5
  have r5 := H5.out.three.cell 5
  simp at r0 r1 r2 r3 r4 r5
  have H10 : Hid (Own w0 ((((((w4.setCell ⟨bx + 1, 0, none⟩ (.int .u8 2)).setCell ⟨bx + 1, 1, none⟩ (.int .u8 (c : Int))).setCell ⟨bx + 1, 2, none⟩ (.int .u32 (e : Int))).setCell ⟨bx + 1, 3, none⟩ (.int .u32 (tk : Int))).setCell ⟨bx + 1, 4, none⟩ (.int .u32 (s : Int))).setCell ⟨bx + 1, 5, none⟩ (.slice ao 0 cap)) (Cells (bx + 1) #[.int .u8 2, .int .u8 (c : Int), .int .u32 (e : Int), .int .u32 (tk : Int), .int .u32 (s : Int), .slice ao 0 cap] 49 :: Cells bt #[.int .u8 2, .int .u8 (c : Int), .int .u32 (e : Int), .int .u32 (tk : Int), .int .u32 (s : Int), .slice ao 0 cap] 49 :: RdT b P t2 :: Cells bx #[.pointer (some ⟨b, 0, none⟩)] 54 :: l)) := ((((((H5.out.three.setC 0 (.int .u8 2)).setC 1 (.int .u8 (c : Int))).setC 2 (.int .u32 (e : Int))).setC 3 (.int .u32 (tk : Int))).setC 4 (.int .u32 (s : Int))).setC 5 (.slice ao 0 cap))
  clear H5 HM
  go_wp2
  (try simp only [Exit.inBlock, Exit.then])
  refine bodyPost_ret (results_cell_row rfl _ _ (bx + 1) 49 #[.int .u8 2, .int .u8 (c : Int), .int .u32 (e : Int), .int .u32 (tk : Int), .int .u32 (s : Int), .slice ao 0 cap] _ _ rfl H10.out.obj Tryz.underlying49 rfl (by kernel_rfl)) rfl ?_
  exact ⟨ao, cap, rfl, H10.out.tail.tail.tail.tail⟩
set_option maxHeartbeats 4000000 in
theorem rdall3 (w0 w : World) (ht : Tab w0) (l : List Thing) (b : Nat) (P : List Nat) (t : Nat) (h : Own w0 w (RdT b P t :: l)) (k c e tk s : Nat) (hR : Right k c e tk s) (h1 : k ≠ 1) (h2 : k ≠ 2) (R : List Bool) (hb : (bitsB P).drop t = headB k c e tk s ++ (R)) (hE : AtEnd P (t + (headB k c e tk s).length)) :
    Calls Tryz.prog 20 #[.agg #[.pointer (some ⟨b, 0, none⟩)], .slice none 0 0] w fun x w' => x = .returned (.agg #[.int .u8 (k : Int), .int .u8 (c : Int), .int .u32 (e : Int), .int .u32 (tk : Int), .int .u32 (s : Int), .slice none 0 0]) ∧ Own w0 w' l := by
  have h1' := (h.allocC #[.pointer (some ⟨b, 0, none⟩)] 54).allocC #[.int .u8 0, .int .u8 0, .int .u32 0, .int .u32 0, .int .u32 0, .slice none 0 0] 49
  have s1 : (w.alloc (.cells #[.pointer (some ⟨b, 0, none⟩)] 54)).heap.size = w.heap.size + 1 := Array.size_push _
  rw [s1] at h1'
  have q0 := h1'.two.cell 0
  simp at q0
  have HH : Hid (Calls Tryz.prog 37 #[.agg #[.pointer (some ⟨b, 0, none⟩)]] _ fun x w' => x = .returned (.agg #[.int .u8 (k : Int), .int .u8 (c : Int), .int .u32 (e : Int), .int .u32 (tk : Int), .int .u32 (s : Int)]) ∧ Own w0 w' (RdT b P (t + (headB k c e tk s).length) :: _)) := rdhead w0 _ _ b P t h1'.three k c e tk s hR _ hb
  have d1 := drop_next hb rfl
  have HE : Hid (AtEnd P (t + (headB k c e tk s).length)) := hE
  have e1 : ((k : Int) == 1) = false := by rw [beq_eq_false_iff_ne]; omega
  have e2 : ((k : Int) == 2) = false := by rw [beq_eq_false_iff_ne]; omega
  clear h h1' hb s1 ht hR hE d1 h1 h2
  generalize (t + (headB k c e tk s).length) = t1 at *
  go_enter Tryz.func20, Tryz.ntmps20
  go_wp2_with fail
  refine HH.out.mono ?_
  rintro x w1 ⟨rfl, h1⟩
  generalize hbx : w.heap.size = bx at *
  clear hbx
  have h2 := h1.allocC #[.int .u8 (k : Int), .int .u8 (c : Int), .int .u32 (e : Int), .int .u32 (tk : Int), .int .u32 (s : Int), .slice none 0 0] 49
  have q1 := h2.cell 0
  have q2 := h2.four.cell 0
  simp at q1 q2
  have HN : Hid (Calls _ _ _ _ _) := end_own w0 _ _ b P t1 h2.two HE.out.1 HE.out.2
  clear h1 h2 HH q0
  go_wp2_with fail
  refine HN.out.mono ?_
  rintro x w3 ⟨rfl, h5⟩
  generalize w1.heap.size = bt at *
  have HM : Hid (Calls _ _ _ _ _) := must_ok w3
  have H5 : Hid (Own w0 w3 (Cells bt #[.int .u8 (k : Int), .int .u8 (c : Int), .int .u32 (e : Int), .int .u32 (tk : Int), .int .u32 (s : Int), .slice none 0 0] 49 :: RdT b P t1 :: Cells (bx + 1) #[.int .u8 0, .int .u8 0, .int .u32 0, .int .u32 0, .int .u32 0, .slice none 0 0] 49 :: Cells bx #[.pointer (some ⟨b, 0, none⟩)] 54 :: l)) := h5.two
  clear h5 HN q1 q2
  go_wp2_with fail
  refine HM.out.mono ?_
  rintro x w4 ⟨rfl, rfl⟩
  have p0 := H5.out.cell 0
  have p1 := H5.out.cell 1
  have p2 := H5.out.cell 2
  have p3 := H5.out.cell 3
  have p4 := H5.out.cell 4
  have p5 := H5.out.cell 5
  simp at p0 p1 p2 p3 p4 p5
  have f0 := H5.out.three.froz 0
  have r0 := H5.out.three.cell 0
  have f1 := H5.out.three.froz 1
  have r1 := H5.out.three.cell 1
  have f2 := H5.out.three.froz 2
  have r2 := H5.out.three.cell 2
  have f3 := H5.out.three.froz 3
  have r3 := H5.out.three.cell 3
  have f4 := H5.out.three.froz 4
  have r4 := H5.out.three.cell 4
  have f5 := H5.out.three.froz 5
  have r5 := H5.out.three.cell 5
  simp at r0 r1 r2 r3 r4 r5
  have H10 : Hid (Own w0 ((((((w4.setCell ⟨bx + 1, 0, none⟩ (.int .u8 (k : Int))).setCell ⟨bx + 1, 1, none⟩ (.int .u8 (c : Int))).setCell ⟨bx + 1, 2, none⟩ (.int .u32 (e : Int))).setCell ⟨bx + 1, 3, none⟩ (.int .u32 (tk : Int))).setCell ⟨bx + 1, 4, none⟩ (.int .u32 (s : Int))).setCell ⟨bx + 1, 5, none⟩ (.slice none 0 0)) (Cells (bx + 1) #[.int .u8 (k : Int), .int .u8 (c : Int), .int .u32 (e : Int), .int .u32 (tk : Int), .int .u32 (s : Int), .slice none 0 0] 49 :: Cells bt #[.int .u8 (k : Int), .int .u8 (c : Int), .int .u32 (e : Int), .int .u32 (tk : Int), .int .u32 (s : Int), .slice none 0 0] 49 :: RdT b P t1 :: Cells bx #[.pointer (some ⟨b, 0, none⟩)] 54 :: l)) := ((((((H5.out.three.setC 0 (.int .u8 (k : Int))).setC 1 (.int .u8 (c : Int))).setC 2 (.int .u32 (e : Int))).setC 3 (.int .u32 (tk : Int))).setC 4 (.int .u32 (s : Int))).setC 5 (.slice none 0 0))
  clear H5 HM
  go_wp2
  (try simp only [Exit.inBlock, Exit.then])
  refine bodyPost_ret (results_cell_row rfl _ _ (bx + 1) 49 #[.int .u8 (k : Int), .int .u8 (c : Int), .int .u32 (e : Int), .int .u32 (tk : Int), .int .u32 (s : Int), .slice none 0 0] _ _ rfl H10.out.obj Tryz.underlying49 rfl (by kernel_rfl)) rfl ?_
  exact ⟨rfl, H10.out.tail.tail.tail.tail⟩
set_option maxHeartbeats 1000000 in
theorem newReader_ok (w0 w : World) (l : List Thing) (h : Own w0 w l) (v : Value) (P : List Nat) (hv : ∀ w', Own w0 w' l → Src w' v P.length (vrow P)) (hb : ∀ x ∈ P, x < 256) (hn : P.length ≤ 1048576) :
    Calls Tryz.prog 19 #[v] w fun e w' => ∃ b, e = .returned (.agg #[.pointer (some ⟨b, 0, none⟩)]) ∧ Own w0 w' (RdT b P 0 :: l) := by
  have h1 := h.allocC #[.pointer none] 54
  have H1 : Hid (Calls _ _ _ _ _) := read_own w0 _ _ h1 v P (hv _ h1.tail) hb hn
  clear h h1 hv hb hn
  go_enter Tryz.func19, Tryz.ntmps19
  go_wp2_with fail
  refine H1.out.mono ?_
  rintro x w1 ⟨b, rfl, h2⟩
  generalize hbx : w.heap.size = bx at *
  clear hbx
  have z0 := h2.two.froz 0
  have y0 := h2.two.cell 0
  simp at y0
  have H3 : Hid (Own w0 (w1.setCell ⟨bx, 0, none⟩ (.pointer (some ⟨b, 0, none⟩))) (Cells bx #[.pointer (some ⟨b, 0, none⟩)] 54 :: RdT b P 0 :: l)) := h2.two.setC 0 (.pointer (some ⟨b, 0, none⟩))
  clear h2 H1
  go_wp2
  (try simp only [Exit.inBlock, Exit.then])
  refine bodyPost_ret (results_cell_row rfl _ _ bx 54 #[.pointer (some ⟨b, 0, none⟩)] _ _ rfl H3.out.obj Tryz.underlying54 rfl (by kernel_rfl)) rfl ?_
  exact ⟨b, rfl, H3.out.tail⟩
end Go.Proofs.YtcmofbhfdagpcaaGreatDoor

/-
  A call that is caught: the deferred closure where nothing has panicked.
-/
namespace Go.Proofs.YtcmofbhfdagpcaaGreatDoor
open Go.RowKit
set_option linter.unusedVariables false
set_option maxRecDepth 100000

set_option maxHeartbeats 400000 in
theorem catch_idle (p : Addr) (w : World) :
    CallsD Tryz.prog 35 #[.pointer (some p)] .returning w fun e u' w' => e = .returned (.tuple #[]) ∧ u' = .returning ∧ w' = w := by
  refine callsD_of_wpS Tryz.func35 rfl fun c₀ cs hu => ?_
  apply wpS_seq
  apply wpS_region
  simp [wpOpsS, go_sem, recoverD, hu, Tryz.ntmps35, Exit.thenS]
  refine wpS_of_wp ?_
  go_wp2
  cases c₀
  simp_all [bodyPostS, results, Tryz.results35]
/-- what stands behind the head of a packet of nobody -/
def cont0 (k : Nat) : List Bool := if k = 1 then var 0 else if k = 2 then var 0 ++ (var 0 ++ var 0) else []
theorem rdall (w0 w : World) (ht : Tab w0) (l : List Thing) (b : Nat) (P : List Nat) (h : Own w0 w (RdT b P 0 :: l)) (k c e tk s : Nat) (hR : Right k c e tk s) (R : List Bool) (hb : bitsB P = headB k c e tk s ++ (cont0 k ++ R)) (hE : AtEnd P (headB k c e tk s ++ cont0 k).length) :
    Calls Tryz.prog 20 #[.agg #[.pointer (some ⟨b, 0, none⟩)], .slice none 0 0] w fun x w' => ∃ ao cap, x = .returned (.agg #[.int .u8 (k : Int), .int .u8 (c : Int), .int .u32 (e : Int), .int .u32 (tk : Int), .int .u32 (s : Int), .slice ao 0 cap]) ∧ Own w0 w' l := by
  have l0 := length_var0
  unfold cont0 at hb hE
  by_cases k1 : k = 1
  · subst k1
    rw [if_pos rfl] at hb hE
    rw [List.length_append, l0] at hE
    refine (rdall1 w0 w ht l b P 0 h c e tk s hR R (by rw [List.drop_zero]; exact hb) (by rw [Nat.zero_add]; exact hE)).mono ?_
    rintro x w' ⟨rfl, h1⟩
    exact ⟨none, 0, rfl, h1⟩
  · rw [if_neg k1] at hb hE
    by_cases k2 : k = 2
    · subst k2
      rw [if_pos rfl] at hb hE
      rw [List.length_append, List.length_append, List.length_append, l0] at hE
      refine (rdall2 w0 w ht l b P 0 h c e tk s hR R (by rw [List.drop_zero, hb]; simp only [List.append_assoc]) (by rw [Nat.zero_add]; rw [Nat.add_assoc, Nat.add_assoc]; exact hE)).mono ?_
      rintro x w' ⟨ao, cap, rfl, h1⟩
      exact ⟨ao, cap, rfl, h1⟩
    · rw [if_neg k2] at hb hE
      rw [List.append_nil] at hE
      refine (rdall3 w0 w ht l b P 0 h k c e tk s hR k1 k2 R (by rw [List.drop_zero, hb]; rfl) (by rw [Nat.zero_add]; exact hE)).mono ?_
      rintro x w' ⟨rfl, h1⟩
      exact ⟨none, 0, rfl, h1⟩
set_option maxHeartbeats 4000000 in
theorem open1_ok (w0 w : World) (l : List Thing) (bb bw : Nat) (body : Value) (P : List Nat) (k c e tk s : Nat) (h : Own w0 w (Cells bb #[body] 26 :: Cells bw #[.slice none 0 0] 31 :: l)) (hv : ∀ w', Own w0 w' l → Src w' body P.length (vrow P)) (hp : ∀ x ∈ P, x < 256) (hn : P.length ≤ 1048576)
    (hall : ∀ W b l', Own w0 W (RdT b P 0 :: l') → Calls Tryz.prog 20 #[.agg #[.pointer (some ⟨b, 0, none⟩)], .slice none 0 0] W fun x w' => ∃ ao cap, x = .returned (.agg #[.int .u8 (k : Int), .int .u8 (c : Int), .int .u32 (e : Int), .int .u32 (tk : Int), .int .u32 (s : Int), .slice ao 0 cap]) ∧ Own w0 w' l') :
    Calls Tryz.prog 18 #[.pointer (some ⟨bb, 0, none⟩), .pointer (some ⟨bw, 0, none⟩)] w fun x w' => ∃ ao cap, x = .returned (.agg #[.int .u8 (k : Int), .int .u8 (c : Int), .int .u32 (e : Int), .int .u32 (tk : Int), .int .u32 (s : Int), .slice ao 0 cap]) ∧ Own w0 w' (Cells bb #[body] 26 :: Cells bw #[.slice none 0 0] 31 :: l) := by
  have h1 := h.allocC #[.int .u8 0, .int .u8 0, .int .u32 0, .int .u32 0, .int .u32 0, .slice none 0 0] 49
  have HNR : Hid (∀ W, Own w0 W (Cells w.heap.size #[.int .u8 0, .int .u8 0, .int .u32 0, .int .u32 0, .int .u32 0, .slice none 0 0] 49 :: Cells bb #[body] 26 :: Cells bw #[.slice none 0 0] 31 :: l) → Calls Tryz.prog 19 #[body] W fun e w' => ∃ b, e = .returned (.agg #[.pointer (some ⟨b, 0, none⟩)]) ∧ Own w0 w' (RdT b P 0 :: Cells w.heap.size #[.int .u8 0, .int .u8 0, .int .u32 0, .int .u32 0, .int .u32 0, .slice none 0 0] 49 :: Cells bb #[body] 26 :: Cells bw #[.slice none 0 0] 31 :: l)) := fun W hW => newReader_ok w0 W _ hW body P (fun w' hw => hv w' hw.tail.tail.tail) hp hn
  have HAL : Hid (∀ W b, Own w0 W (RdT b P 0 :: Cells w.heap.size #[.int .u8 0, .int .u8 0, .int .u32 0, .int .u32 0, .int .u32 0, .slice none 0 0] 49 :: Cells bb #[body] 26 :: Cells bw #[.slice none 0 0] 31 :: l) → Calls Tryz.prog 20 #[.agg #[.pointer (some ⟨b, 0, none⟩)], .slice none 0 0] W fun x w' => ∃ ao cap, x = .returned (.agg #[.int .u8 (k : Int), .int .u8 (c : Int), .int .u32 (e : Int), .int .u32 (tk : Int), .int .u32 (s : Int), .slice ao 0 cap]) ∧ Own w0 w' (Cells w.heap.size #[.int .u8 0, .int .u8 0, .int .u32 0, .int .u32 0, .int .u32 0, .slice none 0 0] 49 :: Cells bb #[body] 26 :: Cells bw #[.slice none 0 0] 31 :: l)) := fun W b hW => hall W b _ hW
  have p0 := h1.two.cell 0
  have p1 := h1.three.cell 0
  simp at p0 p1
  have HO : Hid (Own w0 _ _) := h1
  clear h h1 hv hp hn hall
  go_enter Tryz.func18, Tryz.ntmps18
  go_wp2
  generalize hWg : w.alloc (.cells #[.int .u8 0, .int .u8 0, .int .u32 0, .int .u32 0, .int .u32 0, .slice none 0 0] 49) = W1 at *
  generalize w.heap.size = bo at *
  clear hWg
  have O1 := HO.out.drew
  clear HO
  go_region_held3 (fun w' => w'.cell? ⟨bb, 0, none⟩ = some body ∧ w'.cell? ⟨bw, 0, none⟩ = some (.slice none 0 0)) (first | go_keep | exact ⟨K0, K1⟩)
    (first
      | (go_at_call 19; with_reducible refine (HNR.out _ O1).mono ?_; rintro x w6 ⟨b, rfl, O6⟩
         have u0 := (Own.three O6).cell 0
         have u1 := (Own.four O6).cell 0
         simp at u0 u1)
      | (go_at_call 20; with_reducible refine (HAL.out _ b O6).mono ?_; rintro x w7 ⟨ao, cap, rfl, O7⟩
         have u0 := (Own.two O7).cell 0
         have u1 := (Own.three O7).cell 0
         have f0 := O7.froz 0
         have r0 := O7.cell 0
         have f1 := O7.froz 1
         have r1 := O7.cell 1
         have f2 := O7.froz 2
         have r2 := O7.cell 2
         have f3 := O7.froz 3
         have r3 := O7.cell 3
         have f4 := O7.froz 4
         have r4 := O7.cell 4
         have f5 := O7.froz 5
         have r5 := O7.cell 5
         simp at u0 u1 r0 r1 r2 r3 r4 r5
         have O8 := ((((((O7.setC 0 (.int .u8 (k : Int))).setC 1 (.int .u8 (c : Int))).setC 2 (.int .u32 (e : Int))).setC 3 (.int .u32 (tk : Int))).setC 4 (.int .u32 (s : Int))).setC 5 (.slice ao 0 cap))
         have K0 := (Own.two O8).cell 0
         have K1 := (Own.three O8).cell 0
         simp at K0 K1))
  have H8 : Hid (Own w0 ((((((w7.setCell ⟨bo, 0, none⟩ (.int .u8 (k : Int))).setCell ⟨bo, 1, none⟩ (.int .u8 (c : Int))).setCell ⟨bo, 2, none⟩ (.int .u32 (e : Int))).setCell ⟨bo, 3, none⟩ (.int .u32 (tk : Int))).setCell ⟨bo, 4, none⟩ (.int .u32 (s : Int))).setCell ⟨bo, 5, none⟩ (.slice ao 0 cap)) (Cells bo #[.int .u8 (k : Int), .int .u8 (c : Int), .int .u32 (e : Int), .int .u32 (tk : Int), .int .u32 (s : Int), .slice ao 0 cap] 49 :: Cells bb #[body] 26 :: Cells bw #[.slice none 0 0] 31 :: l)) := O8
  clear O1 O6 O7 O8 HNR HAL p0 p1 u0 u1 K0 K1 f0 f1 f2 f3 f4 f5 r0 r1 r2 r3 r4 r5
  go_wp2
  (try simp only [Exit.inBlock, Exit.then])
  refine bodyPost_ret (results_cell_row rfl _ _ bo 49 #[.int .u8 (k : Int), .int .u8 (c : Int), .int .u32 (e : Int), .int .u32 (tk : Int), .int .u32 (s : Int), .slice ao 0 cap] _ _ rfl H8.out.obj Tryz.underlying49 rfl (by kernel_rfl)) rfl ?_
  exact ⟨ao, cap, rfl, H8.out.tail⟩
end Go.Proofs.YtcmofbhfdagpcaaGreatDoor
