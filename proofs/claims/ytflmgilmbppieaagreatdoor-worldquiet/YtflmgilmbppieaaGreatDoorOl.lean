/-
  slices.Insert of one component where there is no room: a new row.
-/
import Derived.Test.YtflmgilmbppieaaGreatDoorOk
namespace Go.Proofs.YtflmgilmbppieaaGreatDoor
open Go.RowKit
set_option linter.unusedVariables false
set_option maxRecDepth 100000

set_option maxHeartbeats 2000000 in
theorem insert_grow (w0 w : World) (l : List Thing) (L : List Cp) (c : Cp) (g n cap B i : Nat) (hn : L.length = n) (hi : i < n) (hn6 : n ≤ 1000) (hroom : cap < n + 1) (h : Own w0 w (Row 46 4 (.slice (some ⟨g, 0, none⟩) n cap) n (ccat L) :: Cells B c.ar 46 :: l)) :
    Calls Tryz.prog 254 #[.slice (some ⟨g, 0, none⟩) n cap, .int .i64 (i : Int), .slice (some ⟨B, 0, none⟩) 1 1] w fun e w' => ∃ ao' cap', e = .returned (.slice ao' (n + 1) cap') ∧ Own w0 w' (Row 46 4 (.slice ao' (n + 1) cap') (n + 1) (ccat (L.take i ++ c :: L.drop i)) :: Cells B c.ar 46 :: l) := by
  obtain ⟨i0, hi0, hz0, hz1, hz2⟩ := info_parts Tryz.infoComp
  have hinfo : (Tryz.prog.info? 46).map (·.size) = some 4 := by rw [hi0]; simp [hz1]
  obtain ⟨cur, hg, hnc, hcm, hsz, htk⟩ := h.rowCur
  have hlt : g < w.heap.size := (Array.getElem?_eq_some_iff.1 hg).1
  have hBg : B ≠ g := fun e => h.two.ne (by rw [e]; rfl)
  have hcap : n = cap := by omega
  obtain ⟨k, hk⟩ : ∃ k, k = n + 1 - i := ⟨_, rfl⟩
  have hik : i + k = n + 1 := by omega
  have hold : (Builtin.firstCells i0.size i (.slice (some ⟨g, 0, none⟩) i cap)).run Tryz.prog w.drew = .ok (ccat (L.take i)).toArray w.drew := by
    rw [hz1]
    refine run_firstCells_some (P := Tryz.prog) w.drew 4 i ⟨g, 0, none⟩ i cap (ccat (L.take i)) (by rw [length_ccat, List.length_take, hn, Nat.min_eq_left (by omega)]) ?_
    intro j u hu
    rw [addr_add, Nat.zero_add]
    show w.cell? _ = _
    rw [← ccat_take, List.getElem?_take] at hu
    split at hu
    · have := h.row.cells (g := g) rfl j u hu
      rw [addr_add, Nat.zero_add] at this
      exact this
    · cases hu
  have hrz : ∀ ty, _ := fun ty => Lib.run_append_grow_zeros (P := Tryz.prog) w 39 3 ty 46 i0 (.agg #[.int .u8 0, .int .i32 0, .int .i32 0, .int .i32 0]) .i64 .i64 Tryz.underlying39 Tryz.underlying3 hi0 hz0 (some ⟨g, 0, none⟩) i cap (ccat (L.take i)) hold k (by omega) (by rw [hz1]; decide) (by omega) (by omega) (by rw [hz2]; omega) (growslice_fits (by omega) (by rw [hz2]; omega))
  rw [hik] at hrz
  obtain ⟨G, hG⟩ : ∃ G, G = grownCap w (n + 1) cap 46 := ⟨_, rfl⟩
  have hGn : n + 1 ≤ G := by rw [hG]; exact grownCap_ge w _ _ _
  have hGm : G ≤ maxLen := by rw [hG]; exact grownCap_le_maxLen w (n + 1) cap 46 (by unfold maxLen; omega)
  obtain ⟨cur0, hc0⟩ : ∃ cur0, cur0 = (ccat (L.take i)).toArray ++ Builtin.zeroCells (Value.cells (.agg #[.int .u8 0, .int .i32 0, .int .i32 0, .int .i32 0])) k ++ Builtin.zeroCells (Value.cells (.agg #[.int .u8 0, .int .i32 0, .int .i32 0, .int .i32 0])) (G - (n + 1)) := ⟨_, rfl⟩
  rw [← hG, ← hc0] at hrz
  have hzz : (Value.cells (.agg #[.int .u8 0, .int .i32 0, .int .i32 0, .int .i32 0])).size = 4 := rfl
  have hil : (ccat (L.take i)).length = i * 4 := by rw [length_ccat, List.length_take, hn, Nat.min_eq_left (by omega)]
  have hs0 : cur0.size = G * 4 := by
    rw [hc0]; simp only [Array.size_append, List.size_toArray, size_zeroCells, hzz, hil]; omega
  have ht0 : cur0.toList.take (i * 4) = ccat (L.take i) := by
    rw [hc0]; simp only [Array.toList_append, List.append_assoc]
    rw [← hil]; exact List.take_left
  obtain ⟨N, hN⟩ : ∃ N, N = w.heap.size := ⟨_, rfl⟩
  rw [← hN] at hrz
  have hNg : N ≠ g := by omega
  have hBN : B ≠ N := by have := h.two.lt; omega
  obtain ⟨w1, hw1⟩ : ∃ w1, w1 = w.drew.alloc (.cells cur0 46) := ⟨_, rfl⟩
  rw [← hw1] at hrz
  have hg1 : w1.heap[N]? = some (.cells cur0 46 (0, 0)) := by rw [hw1, hN]; exact heap_alloc_new w.drew _
  have hO1 : Own w0 w1 (Row 46 4 (.slice (some ⟨N, 0, none⟩) (n + 1) G) (n + 1) (cur0.toList.take ((n + 1) * 4)) :: Row 46 4 (.slice (some ⟨g, 0, none⟩) n cap) n (ccat L) :: Cells B c.ar 46 :: l) := by
    refine h.new (w' := w1) (Row 46 4 (.slice (some ⟨N, 0, none⟩) (n + 1) G) (n + 1) (cur0.toList.take ((n + 1) * 4))) (fun j => j = N) ⟨⟨?_, .inr ⟨N, G, cur0, rfl, Nat.zero_le _, hg1, hGn, hGm, hs0, rfl⟩⟩, fun j => by simp [Value.ownBlock]; exact eq_comm⟩ (by rw [hw1]; exact (Fr.refl _ _).drew.alloc _) (fun j hj => by omega)
    rw [List.length_take, Array.length_toList, hs0]; omega
  -- the new one in its place
  obtain ⟨cur1, hc1⟩ : ∃ cur1, cur1 = (cur0.toList.take (i * 4) ++ c.cs ++ cur0.toList.drop (i * 4 + c.cs.length)).toArray := ⟨_, rfl⟩
  have hs1 : cur1.size = G * 4 := by
    rw [hc1]; simp only [List.size_toArray, List.length_append, List.length_take, List.length_drop, Array.length_toList, hs0, cs_len]; omega
  have hcp1 : ∀ dc ty, (Builtin.copy_ #[39, 39] ty #[.slice (some ⟨N, i * 4, none⟩) (n + 1 - i) dc, .slice (some ⟨B, 0, none⟩) 1 1]).run Tryz.prog w1 = .ok (goInt 1) (w1.setRow N cur1) := fun dc ty => by
    rw [hc1]
    exact run_copy_sz w1 39 39 ty 46 N (i * 4) (n + 1 - i) dc ⟨B, 0, none⟩ 1 1 cur0 46 c.cs 4 1 Tryz.underlying39 hinfo (by decide) hg1 (by simp only [Nat.min_def]; split <;> omega) rfl (fun j v hj => by
      rw [addr_add, Nat.zero_add, hO1.three.cell]
      rw [← Cp.ar_list, Array.getElem?_toList] at hj
      exact hj) (by rw [hs0, cs_len]; omega) (cs_one c)
  have hO2 := hO1.rowSet hg1 cur1 (n + 1) hGn hGm hs1 _ rfl
  have hg2 := setRow_heap w1 N cur0 cur1 46 _ hg1
  obtain ⟨w2, hw2⟩ : ∃ w2, w2 = w1.setRow N cur1 := ⟨_, rfl⟩
  rw [← hw2] at hcp1 hO2 hg2
  obtain ⟨D, hDD⟩ : ∃ D, D = ccat (L.drop i) := ⟨_, rfl⟩
  have hD : D.length = (n - i) * 4 := by rw [hDD, length_ccat, List.length_drop, hn]
  obtain ⟨cur2, hc2⟩ : ∃ cur2, cur2 = (cur1.toList.take ((i + 1) * 4) ++ D ++ cur1.toList.drop ((i + 1) * 4 + D.length)).toArray := ⟨_, rfl⟩
  have hs2 : cur2.size = G * 4 := by
    rw [hc2]; simp only [List.size_toArray, List.length_append, List.length_take, List.length_drop, Array.length_toList, hs1, hD]; omega
  have hcp2 : ∀ dc sc ty, (Builtin.copy_ #[39, 39] ty #[.slice (some ⟨N, (i + 1) * 4, none⟩) (n - i) dc, .slice (some ⟨g, i * 4, none⟩) (n - i) sc]).run Tryz.prog w2.drew = .ok (goInt ((n - i : Nat) : Int)) (w2.drew.setRow N cur2) := fun dc sc ty => by
    rw [hc2]
    exact run_copy_sz w2.drew 39 39 ty 46 N ((i + 1) * 4) (n - i) dc ⟨g, i * 4, none⟩ (n - i) sc cur1 46 D 4 (n - i) Tryz.underlying39 hinfo (by decide) hg2 (by simp only [Nat.min_def]; split <;> omega) hD (fun j v hj => by
      have r := hO2.two.row
      have hj2 := (List.getElem?_eq_some_iff.1 hj).1
      rw [hD] at hj2
      rw [addr_add]
      show w2.cell? _ = _
      rw [r.cellAt _ (by omega)]
      rw [hDD, ← ccat_drop, List.getElem?_drop] at hj
      exact hj) (by rw [hs1, hD]; omega) (by rw [hDD]; exact one_ccat _)
  have ht2 : cur2.toList.take ((n + 1) * 4) = ccat (L.take i ++ c :: L.drop i) := by
    have e1 : cur1.toList.take ((i + 1) * 4) = ccat (L.take i) ++ c.cs := by
      rw [hc1, ht0]
      show List.take _ (ccat (L.take i) ++ c.cs ++ _) = _
      rw [List.take_append_of_le_length (by rw [List.length_append, hil, cs_len]; omega)]
      exact List.take_of_length_le (by rw [List.length_append, hil, cs_len]; omega)
    have e2 : ccat (L.take i ++ c :: L.drop i) = ccat (L.take i) ++ c.cs ++ D := by
      rw [ccat_app, show c :: L.drop i = [c] ++ L.drop i from rfl, ccat_app, ccat_one, ← hDD, List.append_assoc]
    rw [hc2, e1, e2]
    show List.take _ (ccat (L.take i) ++ c.cs ++ D ++ _) = _
    rw [List.take_append_of_le_length (by simp only [List.length_append, hil, cs_len, hD]; omega)]
    exact List.take_of_length_le (by simp only [List.length_append, hil, cs_len, hD]; omega)
  have HF : Hid (Own w0 (w2.drew.setRow N cur2) (Row 46 4 (.slice (some ⟨N, 0, none⟩) (n + 1) G) (n + 1) (ccat (L.take i ++ c :: L.drop i)) :: Cells B c.ar 46 :: l)) := (hO2.drew.rowSet hg2 cur2 (n + 1) hGn hGm hs2 _ ht2).two.tail
  unfold maxLen at hGm hcm
  have HC1 : Hid _ := hcp1
  have HC2 : Hid _ := hcp2
  have HRZ : Hid _ := hrz
  have hkI : (n : Int) + 1 - (i : Int) = (k : Int) := by omega
  have hk1 : 0 < k := by omega
  have hk2 : k ≤ 1001 := by omega
  subst hcap
  clear hk hik
  clear hcp1 hcp2 hrz hO1 hO2 hg1 hg2 ht2 hs2 hc2 hs1 hc1 hs0 ht0 hc0 hD hDD htk hsz hg h hn hinfo hz0 hz1 hz2 hi0 hw1 hw2 hold hG hzz hil hN
  have f1 : ¬ (i : Int) = (n : Int) := by omega
  have f3 : ¬ G = i + 1 := by omega
  have f4 : ¬ n = i := by omega
  have f4b : ¬ G = i := by omega
  have f5 : (i : Int) ≤ (n : Int) := by omega
  have f6 : ((i : Int) + 1).toNat = i + 1 := by omega
  have f7 : (i : Int) ≤ (n : Int) + 1 := by omega
  have f8 : (i : Int) + 1 ≤ (n : Int) + 1 := by omega
  have f9 : i + 1 ≤ n + 1 := by omega
  have f10 : ((n : Int) + 1).toNat = n + 1 := by omega
  have f11 : IntKind.i64.wrap ((i : Int) + 1) = (i : Int) + 1 := by rw [IntKind.wrap_i64]; omega
  have f12 : (0 : Int) ≤ (i : Int) + 1 := by omega
  have hc1 := HC1.out (G - i)
  go_enter Tryz.func254, Tryz.ntmps254
  go_wp2_with (at_builtin; refine Lib.wpList_append_run _ rfl _ _ _ _ rfl _ _ rfl rfl _ _ (HRZ.out _) ?_)
  go_region_law (refine step_cp rfl (.tmp 50) (.tmp 53) 39 39 rfl (.slice (some ⟨N, (i + 1) * 4, none⟩) (n - i) (G - (i + 1))) (.slice (some ⟨g, i * 4, none⟩) (n - i) (n - i)) _ _ (by simp [Act.eval, Act.put]) (by simp [Act.eval, Act.put]) (HC2.out _ _) ?_)
  all_goals
    go_wp2
    go_ret
    exact ⟨_, _, rfl, HF.out⟩
end Go.Proofs.YtflmgilmbppieaaGreatDoor
