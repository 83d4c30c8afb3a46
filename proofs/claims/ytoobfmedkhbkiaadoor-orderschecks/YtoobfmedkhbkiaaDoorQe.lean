/-
  Orders that wait: Push of a right one, Take, Len; the document's example of orders.
-/
import Derived.Test.YtoobfmedkhbkiaaDoorQd
namespace Go.Proofs.YtoobfmedkhbkiaaDoor
open Go.RowKit
set_option linter.unusedVariables false
set_option maxRecDepth 100000

theorem ord_one (x : OrdE) : ∀ u ∈ x.cs, u.oneCell' = true := by
  intro u hu; simp [OrdE.cs] at hu; rcases hu with rfl | rfl | rfl | rfl <;> rfl
theorem Own.bufO {w0 w : World} {l : List Thing} {b : Nat} {E : List OrdE} (h : Own w0 w (Buf b E :: l)) : ∃ ao cap, Own w0 w (Cells b #[.slice ao E.length cap] 55 :: Row 32 4 (.slice ao E.length cap) E.length (cat OrdE.cs E) :: (E.map orow ++ l)) := by
  obtain ⟨v, h⟩ := Own.ex_iff.1 h
  obtain ⟨ao, cap, rfl⟩ := row_any h.two.row
  exact ⟨ao, cap, h⟩
theorem Own.bufS {w0 w : World} {l : List Thing} {b : Nat} {E : List OrdE} {v : Value} (h : Own w0 w (Cells b #[v] 55 :: Row 32 4 v E.length (cat OrdE.cs E) :: (E.map orow ++ l))) : Own w0 w (Buf b E :: l) := Own.ex_iff.2 ⟨v, h⟩
set_option maxHeartbeats 1000000 in
theorem push_full (w0 w : World) (l : List Thing) (b : Nat) (E : List OrdE) (ht : Tab w0) (h : Own w0 w (Buf b E :: l)) (o : OrdE) (hi : o.In) (hCs : ∀ w', Own w0 w' l → Cs w' o.ao o.C) (hb : o.ck = 0) (hE : 256 ≤ E.length) :
    Calls Tryd.prog 12 #[.pointer (some ⟨b, 0, none⟩), o.ag] w fun e w' => e = .returned (.int .i64 8) ∧ Own w0 w' (Buf b E :: l) := by
  have hA := h.alloc (.cells #[.int .u8 (o.d : Int), .int .u32 (o.id : Int), .int .u8 (o.k : Int), .slice o.ao o.C.length o.cap] 32)
  have HC : Hid (Calls _ _ _ _ _) := o.check _ (ht.quiet hA.fr) hi (hCs _ hA.tail)
  rw [hb] at HC
  have HA : Hid (Own w0 _ _) := hA
  have hE' : (256 : Int) ≤ (E.length : Int) := by omega
  unfold OrdE.ag at HC ⊢
  obtain ⟨d, id, k, C, ao, cap⟩ := o
  simp only at HC HA ⊢
  clear h hA hb hCs hi
  go_enter Tryd.func12, Tryd.ntmps12
  go_wp2_with fail
  refine HC.out.mono ?_
  rintro e w1 ⟨rfl, hf⟩
  have hB := HA.out.quiet hf
  have HB : Hid (Own w0 w1 _) := hB
  obtain ⟨ea, ec, hO⟩ := hB.bufO
  have q0 := hO.cell 0
  simp at q0
  clear hB hO hf HC HA
  go_wp2
  go_ret
  exact ⟨rfl, HB.out⟩
set_option maxHeartbeats 2000000 in
theorem push_ok (w0 w : World) (l : List Thing) (b : Nat) (E : List OrdE) (ht : Tab w0) (h : Own w0 w (Buf b E :: l)) (o : OrdE) (hi : o.In) (hCs : ∀ w', Own w0 w' l → Cs w' o.ao o.C) (hb : o.ck = 0) (hE : E.length < 256) :
    Calls Tryd.prog 12 #[.pointer (some ⟨b, 0, none⟩), o.ag] w fun e w' => e = .returned (.int .i64 0) ∧ ∃ a c, Own w0 w' (Buf b (E ++ [{ o with ao := a, cap := c }]) :: l) := by
  obtain ⟨i0, hi0, hz0, hz1, hz2⟩ := info_parts Tryd.infoOrd
  have hA := h.allocC #[.int .u8 (o.d : Int), .int .u32 (o.id : Int), .int .u8 (o.k : Int), .slice o.ao o.C.length o.cap] 32
  have HC : Hid (Calls _ _ _ _ _) := o.check _ (ht.quiet hA.fr) hi (hCs _ hA.tail.tail)
  rw [hb] at HC
  have HA : Hid (Own w0 _ _) := hA
  have hE' : (E.length : Int) < 256 := by omega
  have HCL : Hid (∀ w', Own w0 w' (Cells w.heap.size #[.int .u8 (o.d : Int), .int .u32 (o.id : Int), .int .u8 (o.k : Int), .slice o.ao o.C.length o.cap] 32 :: Buf b E :: l) → Calls Tryd.prog 27 #[.slice o.ao o.C.length o.cap] w' fun e w'' => ∃ a c, e = .returned (.slice a o.C.length c) ∧ Own w0 w'' (Row 38 4 (.slice a o.C.length c) o.C.length (ccat o.C) :: Cells w.heap.size #[.int .u8 (o.d : Int), .int .u32 (o.id : Int), .int .u8 (o.k : Int), .slice o.ao o.C.length o.cap] 32 :: Buf b E :: l)) := fun w' h' => clone_cs w0 w' _ h' o.ao o.C.length o.cap o.C rfl (hCs _ h'.tail.tail) hi.len
  have HEND : Hid (∀ w' a c v, Own w0 w' (Cells b #[v] 55 :: Row 32 4 v (E.length + 1) (cat OrdE.cs E ++ [.int .u8 (o.d : Int), .int .u32 (o.id : Int), .int .u8 (o.k : Int), .slice a o.C.length c]) :: Row 38 4 (.slice a o.C.length c) o.C.length (ccat o.C) :: (E.map orow ++ l)) → Own w0 w' (Buf b (E ++ [{ o with ao := a, cap := c }]) :: l)) := by
    intro w' a c v h'
    refine Own.bufS (v := v) ?_
    rw [List.length_append, List.length_singleton, cat_append, List.map_append]
    have hp : List.Perm (Cells b #[v] 55 :: Row 32 4 v (E.length + 1) (cat OrdE.cs E ++ [.int .u8 (o.d : Int), .int .u32 (o.id : Int), .int .u8 (o.k : Int), .slice a o.C.length c]) :: Row 38 4 (.slice a o.C.length c) o.C.length (ccat o.C) :: (E.map orow ++ l)) (Cells b #[v] 55 :: Row 32 4 v (E.length + 1) (cat OrdE.cs E ++ [.int .u8 (o.d : Int), .int .u32 (o.id : Int), .int .u8 (o.k : Int), .slice a o.C.length c]) :: ((E.map orow ++ [Row 38 4 (.slice a o.C.length c) o.C.length (ccat o.C)]) ++ l)) := by
      refine List.Perm.cons _ (List.Perm.cons _ ?_)
      rw [List.append_assoc]
      exact List.perm_middle.symm
    have := h'.perm hp
    simpa [cat, OrdE.cs, orow] using this
  unfold OrdE.ag at HC ⊢
  obtain ⟨d, id, k, C, ao, cap⟩ := o
  simp only at HC HA HCL HEND ⊢
  clear h hA hb hCs hi
  go_enter Tryd.func12, Tryd.ntmps12
  go_wp2_with fail
  refine HC.out.mono ?_
  rintro e w1 ⟨rfl, hf⟩
  have hB := HA.out.quiet hf
  have HB : Hid (Own w0 w1 _) := hB
  obtain ⟨ea, ec, hO⟩ := hB.two.bufO
  have q0 := hO.cell 0
  have p0 := hB.cell 3
  simp at q0 p0
  clear hB hO hf HC HA
  go_wp2_with fail
  refine (HCL.out _ HB.out).mono ?_
  rintro e w2 ⟨a, c, rfl, hO⟩
  clear HCL HB q0 p0
  have hO := hO.two
  have s3 := hO.cell 3
  have z3 := hO.froz 3
  simp at s3
  have HO2 : Hid (Own w0 w2 _) := hO
  clear hO
  go_wp2_with fail
  have hO3 := HO2.out.setC 3 (.slice a C.length c)
  generalize hw3 : w2.setCell ⟨w.heap.size, 3, none⟩ (.slice a C.length c) = w3 at *
  have c0 := hO3.cell 0
  have c1 := hO3.cell 1
  have c2 := hO3.cell 2
  have c3 := hO3.cell 3
  simp at c0 c1 c2 c3
  obtain ⟨ea, ec, hB⟩ := hO3.three.bufO
  have q0 := hB.cell 0
  simp at q0
  have hbw := hB.lt
  have hBw := hO3.lt
  have n1 : b ≠ w3.heap.size := by omega
  have n2 : w3.heap.size ≠ b := by omega
  have n3 : w.heap.size ≠ w3.heap.size := by omega
  have n4 : w3.heap.size ≠ w.heap.size := by omega
  obtain ⟨g', c', w4, hrun, hO4⟩ := run1_own (P := Tryd.prog) 22 22 32 i0 (.agg #[.int .u8 0, .int .u32 0, .int .u8 0, .slice none 0 0]) 4 40 Tryd.underlying22 hi0 hz0 hz1 hz2 rfl (by decide) _ E.length _ hB.two.drew #[.int .u8 (d : Int), .int .u32 (id : Int), .int .u8 (k : Int), .slice a C.length c] rfl (by intro u hu; simp at hu; rcases hu with rfl | rfl | rfl | rfl <;> rfl) (by unfold maxLen; omega) (by omega)
  have hszz : w3.drew.heap.size = w3.heap.size := rfl
  rw [hszz] at hrun
  have HRUN : Hid _ := hrun
  clear hrun hszz
  have k2 := hO4.two.cell 0
  have z2 := hO4.two.froz 0
  simp at k2
  have HF : Hid (Own w0 (w4.setCell ⟨b, 0, none⟩ (.slice (some ⟨g', 0, none⟩) (E.length + 1) c')) (Buf b (E ++ [⟨d, id, k, C, a, c⟩]) :: l)) := by
    refine HEND.out _ a c (.slice (some ⟨g', 0, none⟩) (E.length + 1) c') ?_
    have h5 := hO4.two.setC 0 (.slice (some ⟨g', 0, none⟩) (E.length + 1) c')
    have h6 := (h5.perm (List.Perm.cons _ (List.Perm.cons _ (List.perm_middle.trans (List.perm_middle.cons _))))).three.tail
    exact h6
  clear hO3 hB hO4 HEND s3 z3 hw3 HO2
  go_region_law (refine step_run rfl (.tmp 27) (.tmp 29) 22 22 22 rfl rfl (.slice ea E.length ec) (.slice (some ⟨w3.heap.size, 0, none⟩) 1 1) (.slice (some ⟨g', 0, none⟩) (E.length + 1) c') w4 (by simp [Act.eval]) (by simp [Act.eval]) HRUN.out ?_)
  all_goals
    go_wp2
    go_ret
    exact ⟨rfl, a, c, HF.out⟩
set_option maxHeartbeats 400000 in
theorem olen (w0 w : World) (l : List Thing) (b : Nat) (E : List OrdE) (h : Own w0 w (Buf b E :: l)) : Calls Tryd.prog 13 #[.pointer (some ⟨b, 0, none⟩)] w fun e w' => e = .returned (.int .i64 (E.length : Int)) ∧ w' = w := by
  obtain ⟨ea, ec, hO⟩ := h.bufO
  have q0 := hO.cell 0
  simp at q0
  clear h hO
  go_enter Tryd.func13, Tryd.ntmps13
  go_wp2
  go_ret
  exact ⟨rfl, rfl⟩
set_option maxHeartbeats 400000 in
theorem olen_nil (w : World) : Calls Tryd.prog 13 #[.pointer none] w fun e w' => e = .returned (.int .i64 0) ∧ w' = w := by
  go_enter Tryd.func13, Tryd.ntmps13
  go_wp2
  go_ret
  exact ⟨rfl, rfl⟩
set_option maxHeartbeats 400000 in
theorem otake (w0 w : World) (l : List Thing) (b : Nat) (E : List OrdE) (h : Own w0 w (Buf b E :: l)) : Calls Tryd.prog 14 #[.pointer (some ⟨b, 0, none⟩)] w fun e w' => ∃ ao cap, e = .returned (.slice ao E.length cap) ∧ Own w0 w' (Buf b [] :: Row 32 4 (.slice ao E.length cap) E.length (cat OrdE.cs E) :: (E.map orow ++ l)) := by
  obtain ⟨ea, ec, hO⟩ := h.bufO
  have q0 := hO.cell 0
  have z0 := hO.froz 0
  simp at q0
  have HF : Hid (Own w0 (w.setCell ⟨b, 0, none⟩ (.slice none 0 0)) (Buf b [] :: Row 32 4 (.slice ea E.length ec) E.length (cat OrdE.cs E) :: (E.map orow ++ l))) := Own.bufS (E := []) (((hO.setC 0 (.slice none 0 0)).nilRow 32 4).two)
  clear h hO
  go_enter Tryd.func14, Tryd.ntmps14
  go_wp2
  go_ret
  exact ⟨_, _, rfl, HF.out⟩
set_option maxHeartbeats 400000 in
theorem otake_nil (w : World) : Calls Tryd.prog 14 #[.pointer none] w fun e w' => e = .returned (.slice none 0 0) ∧ w' = w := by
  go_enter Tryd.func14, Tryd.ntmps14
  go_wp2
  go_ret
  exact ⟨rfl, rfl⟩
end Go.Proofs.YtoobfmedkhbkiaaDoor
