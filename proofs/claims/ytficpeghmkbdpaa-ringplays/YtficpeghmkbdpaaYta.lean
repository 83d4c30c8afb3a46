/-
  Package ring at int64: Last, Ticks, Clear.
-/
import Derived.Test.YtficpeghmkbdpaaYsa
namespace Go.Proofs.Ytficpeghmkbdpaa
open Go.RowKit
set_option linter.unusedVariables false

theorem Try.infoUa : (Try.prog.info? 22).map (fun i => (i.zero, i.size, i.bytes)) = some (some (.int .u32 0), 1, 4) := by kernel_rfl
/-- what Last answers -/
def lva (o : Option (Nat × Int)) : Value := match o with
  | some e => .tuple #[.int .u32 (e.1 : Int), (.int .i64 e.2), .bool true]
  | none => .tuple #[.int .u32 0, .int .i64 0, .bool false]

set_option maxHeartbeats 1000000 in
set_option maxRecDepth 100000 in
theorem lasta (w0 w : World) (l : List Thing) (b k : Nat) (L : List (Nat × Int)) (h : Own w0 w (Ringa b k L :: l)) (hR : ROk k L) :
    Calls Try.prog 51 #[.pointer (some ⟨b, 0, none⟩)] w fun e w' => e = .returned (lva L.getLast?) ∧ Own w0 w' (Ringa b k L :: l) := by
  have hk := hR.k2
  have hle := hR.le
  have HL : Hid (Calls _ _ _ _ _) := lena w0 w l b k L h
  have H0 : Hid (Own w0 w (Ringa b k L :: l)) := h
  obtain ⟨v, h⟩ := Own.ex_iff.1 h
  obtain ⟨ao, cap, rfl⟩ := row_any h.two.row
  have q1 := h.cell 1
  simp at q1
  by_cases hl0 : L.length = 0
  · have HG : Hid (L.getLast? = none) := by rw [List.eq_nil_of_length_eq_zero hl0]; rfl
    have hq : ((L.length : Int) == 0) = true := by rw [hl0]; rfl
    clear h hl0 hR
    generalize L.length = ln at *
    go_enter Try.func51, Try.ntmps51
    go_wp2_with (first | (go_at_call 52; refine HL.out.mono ?_; rintro e w' ⟨rfl, hw⟩; subst hw))
    go_ret3
    rw [HG.out]
    exact ⟨rfl, H0.out⟩
  · obtain ⟨e, he⟩ : ∃ e, L[L.length - 1]? = some e := ⟨_, List.getElem?_eq_getElem (by omega)⟩
    have HG : Hid (L.getLast? = some e) := by rw [List.getLast?_eq_getElem?]; exact he
    obtain ⟨g, cap', hv, _⟩ := row_shape h.two.row (by omega)
    have hg := (Value.slice.inj hv).1
    subst hg
    obtain ⟨c0, c1⟩ := rcella h.two rfl (L.length - 1) e he
    have he2 := hR.lt e (List.mem_of_getElem? he)
    have hq : ((L.length : Int) == 0) = false := by rw [beq_eq_false_iff_ne]; omega
    have hidx : ((L.length : Int) - 1) = ((L.length - 1 : Nat) : Int) := by omega
    have hidl : L.length - 1 < L.length := by omega
    have hidl' : ((L.length - 1 : Nat) : Int) < (L.length : Int) := by omega
    have hbl := World.block_lt_of_cell? w _ c0
    have hbb := h.lt
    simp only at hbl
    clear h hl0 hR he hv
    obtain ⟨et, ex⟩ := e
    simp only at c0 c1 he2
    generalize hm : L.length - 1 = m at *
    clear hm
    generalize L.length = ln at *
    go_enter Try.func51, Try.ntmps51
    go_wp2_with (first | (go_at_call 52; refine HL.out.mono ?_; rintro e w' ⟨rfl, hw⟩; subst hw))
    go_region
    go_wp2
    go_quiet (fail)
    go_wp2
    go_ret3
    rw [HG.out]
    exact ⟨rfl, (H0.out.quiet ((((Fr.refl _ _).drew.alloc _)))).drewN _⟩
set_option maxHeartbeats 400000 in
theorem lastnila (w : World) : Calls Try.prog 51 #[.pointer none] w fun e w' => e = .returned (lva none) ∧ w' = w := by
  go_enter Try.func51, Try.ntmps51
  go_wp2_with (first | (go_at_call 52; refine (lennila _).mono ?_; rintro e w' ⟨rfl, hw⟩; subst hw))
  go_ret3
  exact ⟨rfl, rfl⟩
set_option maxHeartbeats 400000 in
theorem cleara (w0 w : World) (l : List Thing) (b k : Nat) (L : List (Nat × Int)) (h : Own w0 w (Ringa b k L :: l)) (hL : L.length ≤ 1000) :
    Calls Try.prog 38 #[.pointer (some ⟨b, 0, none⟩)] w fun e w' => e = .returned (.tuple #[]) ∧ Own w0 w' (Ringa b k [] :: l) := by
  have HD : Hid (Calls _ _ _ _ _) := dropa w0 w l b k L L.length h (Nat.le_refl _) hL
  obtain ⟨v, h⟩ := Own.ex_iff.1 h
  obtain ⟨ao, cap, rfl⟩ := row_any h.two.row
  have q1 := h.cell 1
  simp at q1
  clear h
  go_enter Try.func38, Try.ntmps38
  go_wp2_with fail
  refine HD.out.mono ?_
  rintro e w1 ⟨rfl, hO⟩
  have H1 : Hid (Own w0 w1 (Ringa b k [] :: l)) := by rw [List.drop_length] at hO; exact hO
  clear hO HD
  go_wp2
  go_end0
  exact ⟨rfl, H1.out⟩
set_option maxHeartbeats 400000 in
theorem clearnila (w : World) : Calls Try.prog 38 #[.pointer none] w fun e w' => e = .returned (.tuple #[]) ∧ w' = w := by
  go_enter Try.func38, Try.ntmps38
  go_wp2
  go_end0
  exact ⟨rfl, rfl⟩

/-- the ticks -/
def tksa (L : List (Nat × Int)) : List Nat := L.map (·.1)
set_option maxHeartbeats 1000000 in
set_option maxRecDepth 100000 in
theorem ticksa (w0 w : World) (l : List Thing) (b k : Nat) (L : List (Nat × Int)) (h : Own w0 w (Ringa b k L :: l)) (hR : ROk k L) :
    Calls Try.prog 48 #[.pointer (some ⟨b, 0, none⟩)] w fun e w' => ∃ ao cap, e = .returned (.slice ao L.length cap) ∧ Own w0 w' (Row 22 1 (.slice ao L.length cap) L.length (irow .u32 (tksa L)) :: Ringa b k L :: l) := by
  have hk := hR.k2
  have hle := hR.le
  have HLT : Hid (∀ e ∈ L, e.1 < 4294967296) := hR.lt
  obtain ⟨v, h⟩ := Own.ex_iff.1 h
  obtain ⟨ao, cap, rfl⟩ := row_any h.two.row
  have q1 := h.cell 1
  simp at q1
  obtain ⟨i0, hi, hz0, hz1, hz2⟩ := info_parts Try.infoUa
  obtain ⟨w1, hmk, hO, hf⟩ := make_own (P := Try.prog) h 81 22 i0 (.int .u32 0) 1 Try.underlying81 hi hz0 hz1 L.length (by rw [hz2]; omega) (by unfold maxLen; omega)
  have q1' := hO.two.cell 1
  simp at q1'
  have H1 : Hid (Own w0 w1 (Row 22 1 (.slice (some ⟨w.heap.size, 0, none⟩) 0 L.length) (tksa (L.take 0)).length (irow .u32 (tksa (L.take 0))) :: _)) := hO
  clear h hR hO hf
  go_enter Try.func48, Try.ntmps48
  go_wp2
  go_loopw [3, 19] (fun lv c wr => ∃ n : Nat, n ≤ L.length ∧ c = .int .i64 n ∧ ∃ g c2, lv = .slice (some ⟨g, 0, none⟩) n c2 ∧ Own w0 wr (Row 22 1 (.slice (some ⟨g, 0, none⟩) n c2) n (irow .u32 (tksa (L.take n))) :: Cells b #[.int .i64 (k : Int), .slice ao L.length cap] 99 :: Row 101 2 (.slice ao L.length cap) L.length (cat ela L) :: l)) (fun _ c _ => L.length - (intOf c).toNat)
  case atStart => exact ⟨0, Nat.zero_le _, rfl, _, _, rfl, H1.out⟩
  case round =>
    obtain ⟨n, hn, rfl, g2, c2, rfl, hO⟩ := hrel
    clear H1 hmk q1 q1'
    by_cases hlt : n < L.length
    · obtain ⟨e, he⟩ : ∃ e, L[n]? = some e := ⟨_, List.getElem?_eq_getElem hlt⟩
      obtain ⟨g, cap', hv, _⟩ := row_shape hO.three.row (by omega)
      have hg := (Value.slice.inj hv).1
      subst hg
      obtain ⟨c0, c1⟩ := rcella hO.three rfl n e he
      have he2 := HLT.out e (List.mem_of_getElem? he)
      have HT : Hid (irow .u32 (tksa (L.take (n + 1))) = irow .u32 (tksa (L.take n)) ++ [.int .u32 (e.1 : Int)]) := by
        show _ = _
        rw [List.take_add_one, he]; simp [tksa, irow]
      have hlt' : (n : Int) < (L.length : Int) := by omega
      have HO : Hid (Own w0 wr _) := hO
      clear he hv hO
      obtain ⟨et, ex⟩ := e
      simp only at c0 c1 he2
      go_wp2_with (at_builtin; refine append1_own rfl _ _ 81 rfl 22 i0 (.int .u32 0) 1 4 Try.underlying81 hi hz0 hz1 hz2 rfl (by decide) _ _ _ rfl (HO.out.alloc _) _ _ (by simp) rfl rfl (one_int _ _) (by unfold maxLen; omega) (by omega) ?_)
      intro g' c' w2 hO2 hsz
      have H2 : Hid (Own w0 w2 _) := hO2
      clear hO2 HO
      go_wp2
      go_roundw
      case rel => exact ⟨n + 1, by omega, by go_num, g', c', rfl, by rw [HT.out]; exact H2.out⟩
      case measure => simp [intOf]; omega
    · have en : n = L.length := by omega
      have HO : Hid (Own w0 wr (Row 22 1 (.slice (some ⟨g2, 0, none⟩) L.length c2) L.length (irow .u32 (tksa L)) :: Cells b #[.int .i64 (k : Int), .slice ao L.length cap] 99 :: Row 101 2 (.slice ao L.length cap) L.length (cat ela L) :: l)) := by
        rw [en, List.take_of_length_le (Nat.le_refl _)] at hO; exact hO
      have HN : Hid (n = L.length) := en
      clear hO en
      go_wp2
      go_ret
      exact ⟨some ⟨g2, 0, none⟩, c2, by rw [← HN.out]; rfl, Own.ex2.2 ⟨_, HO.out⟩⟩
set_option maxHeartbeats 400000 in
theorem ticksnila (w : World) : Calls Try.prog 48 #[.pointer none] w fun e w' => e = .returned (.slice none 0 0) ∧ w' = w := by
  go_enter Try.func48, Try.ntmps48
  go_wp2
  go_ret
  exact ⟨rfl, rfl⟩
end Go.Proofs.Ytficpeghmkbdpaa
