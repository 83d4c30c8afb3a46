/-
  The document's ring: Get, Cut.
-/
import Derived.Test.YtficpeghmkbdpaaYy
namespace Go.Proofs.Ytficpeghmkbdpaa
open Go.RowKit
set_option linter.unusedVariables false

theorem rg_mem {L : List (Nat × Int)} (h : L.Pairwise (fun a b => a.1 < b.1)) (e : Nat × Int) (he : e ∈ L) : rget L e.1 = some e.2 := by
  obtain ⟨i, hi⟩ := List.getElem?_of_mem he
  have hil := (List.getElem?_eq_some_iff.1 hi).1
  have hb : below e.1 L = i := by
    rcases Nat.lt_trichotomy (below e.1 L) i with c | c | c
    · obtain ⟨x, hx⟩ : ∃ x, L[below e.1 L]? = some x := ⟨_, List.getElem?_eq_getElem (by omega)⟩
      have h1 := below_at e.1 L x hx
      have h2 := List.pairwise_iff_getElem.1 h _ i (List.getElem?_eq_some_iff.1 hx).1 hil c
      rw [(List.getElem?_eq_some_iff.1 hx).2, (List.getElem?_eq_some_iff.1 hi).2] at h2; omega
    · exact c
    · have := below_lt e.1 L i e c hi; omega
  unfold rget
  rw [hb, hi]
  exact if_pos rfl
theorem rg_none {L : List (Nat × Int)} (t : Nat) (h : ∀ e ∈ L, e.1 ≠ t) : rget L t = none := by
  unfold rget
  cases hx : L[below t L]? with
  | none => rfl
  | some e => exact if_neg (h e (List.mem_of_getElem? hx))
theorem filter_below {L : List (Nat × Int)} (h : L.Pairwise (fun a b => a.1 < b.1)) (t : Nat) : L.filter (fun e => decide (t ≤ e.1)) = L.drop (below t L) := by
  induction L with
  | nil => simp
  | cons x L ih =>
    rw [List.pairwise_cons] at h
    unfold below
    rw [List.takeWhile_cons]
    by_cases c : x.1 < t
    · rw [List.filter_cons, if_neg (by simp; omega), ih h.2]
      simp [c, below]
    · rw [List.filter_cons, if_pos (by simp; omega)]
      simp only [c, decide_false, Bool.false_eq_true, if_false, List.length_nil, List.drop_zero]
      congr 1
      rw [List.filter_eq_self]
      intro a ha
      have := h.1 a ha
      simp; omega

set_option maxHeartbeats 2000000 in
set_option maxRecDepth 100000 in
theorem rrget (w0 w : World) (l : List Thing) (c k : Nat) (L : List (Nat × Int)) (t : Nat) (h : Own w0 w (RRing c k L :: l)) (hR : ROk k L) :
    Calls Try.prog 35 #[.pointer (some ⟨c, 0, none⟩), .int .u32 (t : Int)] w fun e w' => e = .returned (gva (rget L t)) ∧ Own w0 w' (RRing c k L :: l) := by
  obtain ⟨v, h⟩ := Own.ex_iff.1 h
  obtain ⟨ao, cap, rfl, hlc, hcm⟩ := h.two.vshape
  have q1 := h.cell 1
  simp at q1
  have hk := hR.k2
  have hle := hR.le
  have H : Hid (Own w0 w (Cells c #[.int .i64 (k : Int), .slice ao L.length cap] 75 :: View 2 (.slice ao L.length cap) L.length (cat ela L) :: l)) := h
  have HR : Hid (ROk k L) := hR
  clear h hR
  go_enter Try.func35, Try.ntmps35
  go_wp2
  go_loopw [15] (fun cc wr => ∃ n : Nat, n ≤ L.length ∧ cc = .int .i64 n ∧ (∀ (i : Nat) e, i < n → L[i]? = some e → e.1 ≠ t) ∧ Own w0 wr (Cells c #[.int .i64 (k : Int), .slice ao L.length cap] 75 :: View 2 (.slice ao L.length cap) L.length (cat ela L) :: l)) (fun cc _ => L.length - (intOf cc).toNat)
  case atStart => exact ⟨0, Nat.zero_le _, rfl, fun i e hi => by omega, H.out⟩
  case round =>
    obtain ⟨n, hn, rfl, hno, hO⟩ := hrel
    clear H q1
    by_cases hlt : n < L.length
    · obtain ⟨e, he⟩ : ∃ e, L[n]? = some e := ⟨_, List.getElem?_eq_getElem hlt⟩
      obtain ⟨g, o, rfl, c0, c1⟩ := vitem hO.two n e he
      have he2 := HR.out.lt e (List.mem_of_getElem? he)
      have hlt' : (n : Int) < (L.length : Int) := by omega
      have HO : Hid (Own w0 wr _) := hO
      clear hO
      by_cases hte : e.1 = t
      · have HG : Hid (rget L t = some e.2) := by rw [← hte]; exact rg_mem HR.out.inc e (List.mem_of_getElem? he)
        rw [hte] at c0
        clear he hno hte
        obtain ⟨et, ex⟩ := e
        simp only at c0 c1 he2
        have htt : ((t : Int) == (t : Int)) = true := by simp
        go_wp2
        go_ret2
        rw [HG.out]
        exact ⟨rfl, Own.ex_iff.2 ⟨_, HO.out.alloc _⟩⟩
      · have HN : Hid (∀ (i : Nat) e, i < n + 1 → L[i]? = some e → e.1 ≠ t) := by
          intro i e' hi' he'
          by_cases ci : i = n
          · rw [ci, he] at he'; cases he'; exact hte
          · exact hno i e' (by omega) he'
        have hte' : ((e.1 : Int) == (t : Int)) = false := by rw [beq_eq_false_iff_ne]; omega
        clear he hno
        obtain ⟨et, ex⟩ := e
        simp only at c0 c1 he2 hte hte'
        go_wp2
        go_roundw
        case rel => exact ⟨n + 1, by omega, by go_num, HN.out, HO.out.alloc _⟩
        case measure => simp [intOf]; omega
    · have HG : Hid (rget L t = none) := by
        apply rg_none
        intro e he
        obtain ⟨i, hi⟩ := List.getElem?_of_mem he
        exact hno i e (by have := (List.getElem?_eq_some_iff.1 hi).1; omega) hi
      have HO : Hid (Own w0 wr _) := hO
      have hlt' : ¬ (n : Int) < (L.length : Int) := by omega
      clear hO hno
      go_wp2
      go_ret2
      rw [HG.out]
      exact ⟨rfl, Own.ex_iff.2 ⟨_, HO.out⟩⟩
set_option maxHeartbeats 400000 in
theorem rrget_nil (w : World) (t : Int) : Calls Try.prog 35 #[.pointer none, .int .u32 t] w fun e w' => e = .returned (gva none) ∧ w' = w := by
  go_enter Try.func35, Try.ntmps35
  go_wp2
  go_ret2
  exact ⟨rfl, rfl⟩

def fl (L : List (Nat × Int)) (t n : Nat) : List (Nat × Int) := (L.take n).filter (fun e => decide (t ≤ e.1))
theorem fl_le (L : List (Nat × Int)) (t n : Nat) : (fl L t n).length ≤ n := by
  unfold fl
  have h1 := List.length_filter_le (fun e : Nat × Int => decide (t ≤ e.1)) (L.take n)
  have h2 : (L.take n).length ≤ n := List.length_take_le _ _
  omega
set_option maxHeartbeats 2000000 in
set_option maxRecDepth 100000 in
theorem rrcut (w0 w : World) (l : List Thing) (c k : Nat) (L : List (Nat × Int)) (t : Nat) (h : Own w0 w (RRing c k L :: l)) (hR : ROk k L) :
    Calls Try.prog 37 #[.pointer (some ⟨c, 0, none⟩), .int .u32 (t : Int)] w fun e w' => e = .returned (.int .i64 (below t L : Int)) ∧ Own w0 w' (RRing c k (L.drop (below t L)) :: l) := by
  obtain ⟨v, h⟩ := Own.ex_iff.1 h
  obtain ⟨ao, cap, rfl, hlc, hcm⟩ := h.two.vshape
  have q1 := h.cell 1
  simp at q1
  have hk := hR.k2
  have hle := hR.le
  obtain ⟨i0, hi, hz0, hz1, hz2⟩ := info_parts Try.infoItem
  have H : Hid (Own w0 w (Row 104 2 (.slice none 0 0) 0 [] :: Cells c #[.int .i64 (k : Int), .slice ao L.length cap] 75 :: View 2 (.slice ao L.length cap) L.length (cat ela L) :: l)) := h.nilRow _ _
  have HR : Hid (ROk k L) := hR
  clear h hR
  go_enter Try.func37, Try.ntmps37
  go_wp2
  go_loopw [5, 16] (fun lv cc wr => ∃ n : Nat, n ≤ L.length ∧ cc = .int .i64 n ∧ ∃ la lc, lv = .slice la (fl L t n).length lc ∧ Own w0 wr (Row 104 2 (.slice la (fl L t n).length lc) (fl L t n).length (cat ela (fl L t n)) :: Cells c #[.int .i64 (k : Int), .slice ao L.length cap] 75 :: View 2 (.slice ao L.length cap) L.length (cat ela L) :: l)) (fun _ cc _ => L.length - (intOf cc).toNat)
  case atStart => exact ⟨0, Nat.zero_le _, rfl, none, 0, rfl, H.out⟩
  case round =>
    obtain ⟨n, hn, rfl, la, lc, rfl, hO⟩ := hrel
    have hfl := fl_le L t n
    clear H q1
    by_cases hlt : n < L.length
    · obtain ⟨e, he⟩ : ∃ e, L[n]? = some e := ⟨_, List.getElem?_eq_getElem hlt⟩
      obtain ⟨g, o, rfl, c0, c1⟩ := vitem hO.three n e he
      have he2 := HR.out.lt e (List.mem_of_getElem? he)
      have hlt' : (n : Int) < (L.length : Int) := by omega
      have HO : Hid (Own w0 wr _) := hO
      clear hO
      by_cases hte : t ≤ e.1
      · have HF : Hid (fl L t (n + 1) = fl L t n ++ [e]) := by
          show _ = _
          unfold fl; rw [List.take_add_one, he, List.filter_append]; simp [hte]
        have hte' : (t : Int) ≤ (e.1 : Int) := by omega
        clear he
        obtain ⟨et, ex⟩ := e
        simp only at c0 c1 he2 hte hte'
        generalize fl L t n = fn at *
        go_wp2_with (at_builtin; refine append1_own rfl _ _ 73 rfl 104 i0 (.agg #[.int .u32 0, .int .i64 0]) 2 16 Try.underlying73 hi hz0 hz1 hz2 rfl (by decide) _ _ _ rfl (HO.out.alloc _) _ #[.int .u32 (et : Int), .int .i64 ex] (by simp) rfl rfl (by intro u hu; simp at hu; rcases hu with rfl | rfl <;> rfl) (by unfold maxLen; omega) (by omega) ?_)
        intro g2 c2 w2 hO2 hsz
        have H2 : Hid (Own w0 w2 _) := hO2
        clear hO2 HO
        go_wp2
        go_roundw
        case rel => exact ⟨n + 1, by omega, by go_num, some ⟨g2, 0, none⟩, c2, by rw [HF.out]; simp, by rw [HF.out, cat_append, List.length_append]; exact H2.out⟩
        case measure => simp [intOf]; omega
      · have HF : Hid (fl L t (n + 1) = fl L t n) := by
          show _ = _
          unfold fl; rw [List.take_add_one, he, List.filter_append]; simp [hte]
        have hte' : ¬ (t : Int) ≤ (e.1 : Int) := by omega
        clear he
        obtain ⟨et, ex⟩ := e
        simp only at c0 c1 he2 hte hte'
        generalize fl L t n = fn at *
        go_wp2
        go_roundw
        case rel => exact ⟨n + 1, by omega, by go_num, la, lc, by rw [HF.out], by rw [HF.out]; exact HO.out.alloc _⟩
        case measure => simp [intOf]; omega
    · have en : n = L.length := by omega
      have hF : fl L t n = L.drop (below t L) := by
        rw [en]; unfold fl; rw [List.take_of_length_le (Nat.le_refl _)]; exact filter_below HR.out.inc t
      have hbl := below_le t L
      have hll : (fl L t n).length = L.length - below t L := by rw [hF, List.length_drop]
      have q1 := hO.two.cell 1
      have z1 := hO.two.froz 1
      simp at q1
      rw [hll] at hO ⊢
      have HO : Hid (Own w0 wr (Cells c #[.int .i64 (k : Int), .slice ao L.length cap] 75 :: Row 104 2 (.slice la (L.length - below t L) lc) (L.length - below t L) (cat ela (L.drop (below t L))) :: l)) := by
        rw [hF] at hO; exact hO.three.tail.two
      have hlt' : ¬ (n : Int) < (L.length : Int) := by omega
      have hsub : (L.length : Int) - ((L.length - below t L : Nat) : Int) = (below t L : Int) := by omega
      have HLD : Hid ((L.drop (below t L)).length = L.length - below t L) := List.length_drop
      have hdl : L.length - below t L ≤ L.length := by omega
      clear hO en hF hll hfl
      generalize L.length - below t L = d at *
      go_wp2
      go_ret
      refine ⟨rfl, Own.ex_iff.2 ⟨.slice la d lc, ?_⟩⟩
      rw [HLD.out]
      exact (((HO.out.setC 1 (.slice la d lc)).two).view (by decide)).two
set_option maxHeartbeats 400000 in
theorem rrcut_nil (w : World) (t : Int) : Calls Try.prog 37 #[.pointer none, .int .u32 t] w fun e w' => e = .returned (.int .i64 0) ∧ w' = w := by
  go_enter Try.func37, Try.ntmps37
  go_wp2
  go_ret
  exact ⟨rfl, rfl⟩
end Go.Proofs.Ytficpeghmkbdpaa
