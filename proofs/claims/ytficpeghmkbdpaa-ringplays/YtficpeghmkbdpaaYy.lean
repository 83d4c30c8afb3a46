/-
  The document's ring: New, Put, Get, Cut.
-/
import Derived.Test.YtficpeghmkbdpaaYu
import Derived.Test.YtficpeghmkbdpaaYx
namespace Go.Proofs.Ytficpeghmkbdpaa
open Go.RowKit
set_option linter.unusedVariables false

theorem Try.infoItem : (Try.prog.info? 104).map (fun i => (i.zero, i.size, i.bytes)) = some (some (.agg #[.int .u32 0, .int .i64 0]), 2, 16) := by kernel_rfl
/-- the document's ring at block c -/
def RRing (c k : Nat) (L : List (Nat × Int)) : Thing := Ex (fun v : Value => [Cells c #[.int .i64 (k : Int), v] 75, View 2 v L.length (cat ela L)])

set_option maxHeartbeats 400000 in
theorem rrnew (w0 w : World) (l : List Thing) (k : Nat) (h : Own w0 w l) (h1 : 1 ≤ k) (h2 : k ≤ 64) :
    Calls Try.prog 31 #[.int .i64 (k : Int)] w fun e w' => ∃ c, e = .returned (.tuple #[.pointer (some ⟨c, 0, none⟩), .int .i64 0]) ∧ Own w0 w' (RRing c k [] :: l) := by
  have H : Hid (Own w0 w l) := h
  clear h
  go_enter Try.func31, Try.ntmps31
  go_wp2
  go_ret2
  refine ⟨_, rfl, Own.ex_iff.2 ⟨.slice none 0 0, ?_⟩⟩
  exact (((H.out.allocC #[.int .i64 (k : Int), .slice none 0 0] 75).nilRow 104 2).view (by decide)).two
set_option maxHeartbeats 400000 in
theorem rrnew_no (w : World) (k : Int) (h : k < 1 ∨ 64 < k) : Calls Try.prog 31 #[.int .i64 k] w fun e w' => e = .returned (.tuple #[.pointer none, .int .i64 1]) ∧ w' = w := by
  by_cases c : k < 1
  · go_enter Try.func31, Try.ntmps31
    go_wp2
    go_ret2
    exact ⟨rfl, rfl⟩
  · have c2 : 64 < k := by omega
    go_enter Try.func31, Try.ntmps31
    go_wp2
    go_ret2
    exact ⟨rfl, rfl⟩
theorem vitem {w0 w : World} {l : List Thing} {ao : Option Addr} {cap : Nat} {L : List (Nat × Int)} (h : Own w0 w (View 2 (.slice ao L.length cap) L.length (cat ela L) :: l)) (i : Nat) (e : Nat × Int) (he : L[i]? = some e) :
    ∃ g o, ao = some ⟨g, o, none⟩ ∧ w.cell? ⟨g, o + i * 2, none⟩ = some (.int .u32 (e.1 : Int)) ∧ w.cell? ⟨g, o + i * 2 + 1, none⟩ = some (.int .i64 e.2) := by
  have hi := (List.getElem?_eq_some_iff.1 he).1
  obtain ⟨g, o, cap', hv, _, _, hc⟩ := h.vcell (by omega)
  refine ⟨g, o, (Value.slice.inj hv).1, ?_, ?_⟩
  · exact hc _ _ ((cat_at ela 2 ela_len L i 0 e he (by decide)).trans rfl)
  · rw [Nat.add_assoc]; exact hc _ _ ((cat_at ela 2 ela_len L i 1 e he (by decide)).trans rfl)

theorem stale_iff {k : Nat} {L : List (Nat × Int)} (h : ROk k L) (t : Nat) : (∃ e, L.getLast? = some e ∧ t ≤ e.1) ↔ ∃ e ∈ L, t ≤ e.1 := by
  constructor
  · rintro ⟨e, he, ht⟩
    exact ⟨e, List.mem_of_getLast? he, ht⟩
  · rintro ⟨e, he, ht⟩
    cases hl : L.getLast? with
    | none => rw [List.getLast?_eq_none_iff.1 hl] at he; simp at he
    | some x => exact ⟨x, rfl, Nat.le_trans ht (last_max h.inc hl e he)⟩

set_option maxHeartbeats 2000000 in
set_option maxRecDepth 100000 in
theorem rrput (w0 w : World) (l : List Thing) (c k : Nat) (L : List (Nat × Int)) (t : Nat) (x : Int) (h : Own w0 w (RRing c k L :: l)) (hR : ROk k L) (ht : t < 4294967296) :
    Calls Try.prog 33 #[.pointer (some ⟨c, 0, none⟩), .int .u32 (t : Int), .int .i64 x] w fun e w' => e = .returned (.int .i64 (rput k L t x).1) ∧ Own w0 w' (RRing c k (rput k L t x).2 :: l) := by
  obtain ⟨v, h⟩ := Own.ex_iff.1 h
  obtain ⟨ao, cap, rfl, hlc, hcm⟩ := h.two.vshape
  have q1 := h.cell 1
  simp at q1
  have hk := hR.k2
  have hle := hR.le
  obtain ⟨i0, hi, hz0, hz1, hz2⟩ := info_parts Try.infoItem
  have H : Hid (Own w0 w (Cells c #[.int .i64 (k : Int), .slice ao L.length cap] 75 :: View 2 (.slice ao L.length cap) L.length (cat ela L) :: l)) := h
  have HR : Hid (ROk k L) := hR
  clear h hR
  go_enter Try.func33, Try.ntmps33
  go_wp2
  go_loopw [17] (fun cc wr => ∃ n : Nat, n ≤ L.length ∧ cc = .int .i64 n ∧ (∀ (i : Nat) e, i < n → L[i]? = some e → e.1 < t) ∧ Own w0 wr (Cells c #[.int .i64 (k : Int), .slice ao L.length cap] 75 :: View 2 (.slice ao L.length cap) L.length (cat ela L) :: l)) (fun cc _ => L.length - (intOf cc).toNat)
  case atStart => exact ⟨0, Nat.zero_le _, rfl, fun i e hi => by omega, H.out⟩
  case round =>
    obtain ⟨n, hn, rfl, hno, hO⟩ := hrel
    clear H q1
    by_cases hlt : n < L.length
    · obtain ⟨e, he⟩ : ∃ e, L[n]? = some e := ⟨_, List.getElem?_eq_getElem hlt⟩
      obtain ⟨g, o, rfl, c0, c1⟩ := vitem hO.two n e he
      have he2 := HR.out.lt e (List.mem_of_getElem? he)
      have hlt' : (n : Int) < (L.length : Int) := by omega
      have HO : Hid (Own w0 wr _) := hO
      clear hO
      by_cases hte : t ≤ e.1
      · have HP : Hid (rput k L t x = (12, L)) := by
          unfold rput; exact if_pos ((stale_iff HR.out t).2 ⟨e, List.mem_of_getElem? he, hte⟩)
        have hte' : (t : Int) ≤ (e.1 : Int) := by omega
        clear he hno
        obtain ⟨et, ex⟩ := e
        simp only at c0 c1 he2 hte hte'
        go_wp2
        go_ret
        rw [HP.out]
        exact ⟨rfl, Own.ex_iff.2 ⟨_, HO.out.alloc _⟩⟩
      · have HN : Hid (∀ (i : Nat) e, i < n + 1 → L[i]? = some e → e.1 < t) := by
          intro i e' hi' he'
          by_cases ci : i = n
          · rw [ci, he] at he'; cases he'; omega
          · exact hno i e' (by omega) he'
        have hte' : ¬ (t : Int) ≤ (e.1 : Int) := by omega
        clear he hno
        obtain ⟨et, ex⟩ := e
        simp only at c0 c1 he2 hte hte'
        go_wp2
        go_roundw
        case rel => exact ⟨n + 1, by omega, by go_num, HN.out, HO.out.alloc _⟩
        case measure => simp [intOf]; omega
    · have hno2 : ¬ ∃ e ∈ L, t ≤ e.1 := by
        rintro ⟨e, he, hte⟩
        obtain ⟨i, hi⟩ := List.getElem?_of_mem he
        have := hno i e (by have := (List.getElem?_eq_some_iff.1 hi).1; omega) hi
        omega
      obtain ⟨M, hM⟩ : ∃ M, M = L ++ [(t, x)] := ⟨_, rfl⟩
      have HM : Hid (M.length = L.length + 1 ∧ cat ela M = cat ela L ++ [.int .u32 (t : Int), .int .i64 x]) := ⟨by rw [hM]; simp, by rw [hM, cat_append]; rfl⟩
      have HP : Hid (rput k L t x = (0, if k < L.length + 1 then M.drop 1 else M)) := by
        unfold rput; rw [hM]; exact if_neg (fun q => hno2 ((stale_iff HR.out t).1 q))
      have q1 := hO.cell 1
      have q0 := hO.cell 0
      have hcl := hO.lt
      simp at q1 q0
      have HO : Hid (Own w0 wr _) := hO
      have HN : Hid (n = n) := rfl
      have hlt' : ¬ (n : Int) < (L.length : Int) := by omega
      clear hO hno hno2 hM
      have HC1 : Hid (∀ u ∈ cat ela L, u.oneCell' = true) := one_cat _ ela_one L
      have hll : L.length ≤ 64 := by omega
      by_cases hfull : k < L.length + 1
      · have hfull' : (k : Int) < (L.length : Int) + 1 := by omega
        have HIF : Hid ((if k < L.length + 1 then M.drop 1 else M) = M.drop 1) := if_pos hfull
        have hk1 := HR.out.k1
        have HLN : Hid (M.length = L.length + 1) := HM.out.1
        go_wp2_with (at_builtin; refine append_view rfl _ _ 73 rfl 104 i0 (.agg #[.int .u32 0, .int .i64 0]) 2 16 Try.underlying73 hi hz0 hz1 hz2 rfl (by decide) _ _ _ rfl _ L.length (cat ela L) rfl (HO.out.litRow #[] 104 2 0 (by decide) rfl).in23 HC1.out (by unfold maxLen; omega) (by omega) ?_)
        intro a1 c1 w1 hO1 hsz1
        have H1 : Hid (Own w0 w1 (Row 104 2 (.slice a1 L.length c1) L.length (cat ela L) :: View 2 (.slice ao L.length cap) L.length (cat ela L) :: Cells c #[.int .i64 (k : Int), .slice ao L.length cap] 75 :: l)) := hO1
        clear hO1 HO q1 q0 hcl
        go_wp2_with (at_builtin; refine append1_own rfl _ _ 73 rfl 104 i0 (.agg #[.int .u32 0, .int .i64 0]) 2 16 Try.underlying73 hi hz0 hz1 hz2 rfl (by decide) _ _ _ rfl H1.out _ #[.int .u32 (t : Int), .int .i64 x] (by simp) rfl rfl (by intro u hu; simp at hu; rcases hu with rfl | rfl <;> rfl) (by unfold maxLen; omega) (by omega) ?_)
        intro g2 c2 w2 hO2 hsz2
        have hc2 := (row_cap hO2.row).2
        unfold maxLen at hc2
        have k0 := hO2.three.cell 0
        have k1 := hO2.three.cell 1
        have z1 := hO2.three.froz 1
        simp at k0 k1
        have H2 : Hid (Own w0 w2 (Cells c #[.int .i64 (k : Int), .slice ao L.length cap] 75 :: Row 104 2 (.slice (some ⟨g2, 0, none⟩) (L.length + 1) c2) (L.length + 1) (cat ela M) :: l)) := by
          rw [HM.out.2]; exact hO2.two.tail.two
        obtain ⟨hc2a, hc2b⟩ := hc2
        clear hO2 H1 hsz1 hsz2
        have hne : ¬ c2 = 1 := by omega
        have hc1 : 1 ≤ c2 := by omega
        go_wp2
        go_ret
        rw [HP.out]
        refine ⟨rfl, ?_⟩
        rw [HIF.out]
        refine Own.ex_iff.2 ⟨.slice (some ⟨g2, 2, none⟩) L.length (c2 - 1), ?_⟩
        have kv := ((H2.out.setC 1 (.slice (some ⟨g2, 2, none⟩) L.length (c2 - 1))).two.view (by decide)).vtail (by omega) ⟨g2, 2, none⟩ (by rw [if_neg hne]) (by decide)
        have e1 : (M.drop 1).length = L.length := by rw [List.length_drop, HLN.out]; omega
        have e2 : cat ela (M.drop 1) = (cat ela M).drop 2 := (cat_drop ela 2 ela_len M 1).symm
        rw [e1, e2]
        exact kv.two
      · have hfull' : ¬ (k : Int) < (L.length : Int) + 1 := by omega
        have HIF : Hid ((if k < L.length + 1 then M.drop 1 else M) = M) := if_neg hfull
        have HLN : Hid (M.length = L.length + 1) := HM.out.1
        go_wp2_with (at_builtin; refine append_view rfl _ _ 73 rfl 104 i0 (.agg #[.int .u32 0, .int .i64 0]) 2 16 Try.underlying73 hi hz0 hz1 hz2 rfl (by decide) _ _ _ rfl _ L.length (cat ela L) rfl (HO.out.litRow #[] 104 2 0 (by decide) rfl).in23 HC1.out (by unfold maxLen; omega) (by omega) ?_)
        intro a1 c1 w1 hO1 hsz1
        have H1 : Hid (Own w0 w1 (Row 104 2 (.slice a1 L.length c1) L.length (cat ela L) :: View 2 (.slice ao L.length cap) L.length (cat ela L) :: Cells c #[.int .i64 (k : Int), .slice ao L.length cap] 75 :: l)) := hO1
        clear hO1 HO q1 q0 hcl
        go_wp2_with (at_builtin; refine append1_own rfl _ _ 73 rfl 104 i0 (.agg #[.int .u32 0, .int .i64 0]) 2 16 Try.underlying73 hi hz0 hz1 hz2 rfl (by decide) _ _ _ rfl H1.out _ #[.int .u32 (t : Int), .int .i64 x] (by simp) rfl rfl (by intro u hu; simp at hu; rcases hu with rfl | rfl <;> rfl) (by unfold maxLen; omega) (by omega) ?_)
        intro g2 c2 w2 hO2 hsz2
        have hc2 := (row_cap hO2.row).2
        unfold maxLen at hc2
        have k0 := hO2.three.cell 0
        have k1 := hO2.three.cell 1
        have z1 := hO2.three.froz 1
        simp at k0 k1
        have H2 : Hid (Own w0 w2 (Cells c #[.int .i64 (k : Int), .slice ao L.length cap] 75 :: Row 104 2 (.slice (some ⟨g2, 0, none⟩) (L.length + 1) c2) (L.length + 1) (cat ela M) :: l)) := by
          rw [HM.out.2]; exact hO2.two.tail.two
        obtain ⟨hc2a, hc2b⟩ := hc2
        clear hO2 H1 hsz1 hsz2
        go_wp2
        go_ret
        rw [HP.out]
        refine ⟨rfl, ?_⟩
        rw [HIF.out]
        refine Own.ex_iff.2 ⟨.slice (some ⟨g2, 0, none⟩) (L.length + 1) c2, ?_⟩
        rw [HLN.out]
        exact ((H2.out.setC 1 (.slice (some ⟨g2, 0, none⟩) (L.length + 1) c2)).two.view (by decide)).two
set_option maxHeartbeats 400000 in
theorem rrput_nil (w : World) (t : Int) (x : Int) : Calls Try.prog 33 #[.pointer none, .int .u32 t, .int .i64 x] w fun e w' => e = .returned (.int .i64 10) ∧ w' = w := by
  go_enter Try.func33, Try.ntmps33
  go_wp2
  go_ret
  exact ⟨rfl, rfl⟩
end Go.Proofs.Ytficpeghmkbdpaa
