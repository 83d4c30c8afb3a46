/-
  Package ring at int64: Last, Ticks, Clear.
-/
import Derived.Test.YtdcfkjmjekbekaaYsa
namespace Go.Proofs.Ytdcfkjmjekbekaa
open Go.RowKit
set_option linter.unusedVariables false

theorem Try.infoUa : (Try.prog.info? 34).map (fun i => (i.zero, i.size, i.bytes)) = some (some (.int .u32 0), 1, 4) := by kernel_rfl
/-- what Last answers -/
def lva (o : Option (Nat × Int)) : Value := match o with
  | some e => .tuple #[.int .u32 (e.1 : Int), (.int .i64 e.2), .bool true]
  | none => .tuple #[.int .u32 0, .int .i64 0, .bool false]

/-- the ticks -/
def tksa (L : List (Nat × Int)) : List Nat := L.map (·.1)
set_option maxHeartbeats 1000000 in
set_option maxRecDepth 100000 in
theorem ticksa (w0 w : World) (l : List Thing) (b k : Nat) (L : List (Nat × Int)) (h : Own w0 w (Ringa b k L :: l)) (hR : ROk k L) :
    Calls Try.prog 13 #[.pointer (some ⟨b, 0, none⟩)] w fun e w' => ∃ ao cap, e = .returned (.slice ao L.length cap) ∧ Own w0 w' (Row 34 1 (.slice ao L.length cap) L.length (irow .u32 (tksa L)) :: Ringa b k L :: l) := by
  have hk := hR.k2
  have hle := hR.le
  have HLT : Hid (∀ e ∈ L, e.1 < 4294967296) := hR.lt
  obtain ⟨v, h⟩ := Own.ex_iff.1 h
  obtain ⟨ao, cap, rfl⟩ := row_any h.two.row
  have q1 := h.cell 1
  simp at q1
  obtain ⟨i0, hi, hz0, hz1, hz2⟩ := info_parts Try.infoUa
  obtain ⟨w1, hmk, hO, hf⟩ := make_own (P := Try.prog) h 22 34 i0 (.int .u32 0) 1 Try.underlying22 hi hz0 hz1 L.length (by rw [hz2]; omega) (by unfold maxLen; omega)
  have q1' := hO.two.cell 1
  simp at q1'
  have H1 : Hid (Own w0 w1 (Row 34 1 (.slice (some ⟨w.heap.size, 0, none⟩) 0 L.length) (tksa (L.take 0)).length (irow .u32 (tksa (L.take 0))) :: _)) := hO
  clear h hR hO hf
  go_enter Try.func13, Try.ntmps13
  go_wp2
  go_loopw [3, 19] (fun lv c wr => ∃ n : Nat, n ≤ L.length ∧ c = .int .i64 n ∧ ∃ g c2, lv = .slice (some ⟨g, 0, none⟩) n c2 ∧ Own w0 wr (Row 34 1 (.slice (some ⟨g, 0, none⟩) n c2) n (irow .u32 (tksa (L.take n))) :: Cells b #[.int .i64 (k : Int), .slice ao L.length cap] 61 :: Row 63 2 (.slice ao L.length cap) L.length (cat ela L) :: l)) (fun _ c _ => L.length - (intOf c).toNat)
  case atStart => exact ⟨0, Nat.zero_le _, rfl, _, _, rfl, H1.out⟩
  case round =>
    obtain ⟨n, hn, rfl, g2, c2, rfl, hO⟩ := hrel
    clear H1 hmk q1 q1'
    by_cases hlt : n < L.length
    · obtain ⟨e, he⟩ : ∃ e, L[n]? = some e := ⟨_, List.getElem?_eq_getElem hlt⟩
      obtain ⟨g, cap', hv, _⟩ := row_shape hO.three.row (by omega)
      have hg := (Value.slice.inj hv).1
      subst hg
      obtain ⟨c0, c1⟩ := rcella hO.three rfl n e he
      have he2 := HLT.out e (List.mem_of_getElem? he)
      have HT : Hid (irow .u32 (tksa (L.take (n + 1))) = irow .u32 (tksa (L.take n)) ++ [.int .u32 (e.1 : Int)]) := by
        show _ = _
        rw [List.take_add_one, he]; simp [tksa, irow]
      have hlt' : (n : Int) < (L.length : Int) := by omega
      have HO : Hid (Own w0 wr _) := hO
      clear he hv hO
      obtain ⟨et, ex⟩ := e
      simp only at c0 c1 he2
      go_wp2_with (at_builtin; refine append1_own rfl _ _ 22 rfl 34 i0 (.int .u32 0) 1 4 Try.underlying22 hi hz0 hz1 hz2 rfl (by decide) _ _ _ rfl (HO.out.alloc _) _ _ (by simp) rfl rfl (one_int _ _) (by unfold maxLen; omega) (by omega) ?_)
      intro g' c' w2 hO2 hsz
      have H2 : Hid (Own w0 w2 _) := hO2
      clear hO2 HO
      go_wp2
      go_roundw
      case rel => exact ⟨n + 1, by omega, by go_num, g', c', rfl, by rw [HT.out]; exact H2.out⟩
      case measure => simp [intOf]; omega
    · have en : n = L.length := by omega
      have HO : Hid (Own w0 wr (Row 34 1 (.slice (some ⟨g2, 0, none⟩) L.length c2) L.length (irow .u32 (tksa L)) :: Cells b #[.int .i64 (k : Int), .slice ao L.length cap] 61 :: Row 63 2 (.slice ao L.length cap) L.length (cat ela L) :: l)) := by
        rw [en, List.take_of_length_le (Nat.le_refl _)] at hO; exact hO
      have HN : Hid (n = L.length) := en
      clear hO en
      go_wp2
      go_ret
      exact ⟨some ⟨g2, 0, none⟩, c2, by rw [← HN.out]; rfl, Own.ex2.2 ⟨_, HO.out⟩⟩
set_option maxHeartbeats 400000 in
theorem ticksnila (w : World) : Calls Try.prog 13 #[.pointer none] w fun e w' => e = .returned (.slice none 0 0) ∧ w' = w := by
  go_enter Try.func13, Try.ntmps13
  go_wp2
  go_ret
  exact ⟨rfl, rfl⟩
end Go.Proofs.Ytdcfkjmjekbekaa
