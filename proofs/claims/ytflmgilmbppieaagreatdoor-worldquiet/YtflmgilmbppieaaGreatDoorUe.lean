/-
  Package table: Get, At, Set.
-/
import Derived.Test.YtflmgilmbppieaaGreatDoorUd
namespace Go.Proofs.YtflmgilmbppieaaGreatDoor
open Go.RowKit Go.Maps
set_option linter.unusedVariables false
set_option maxRecDepth 100000

/-- what a table's Get tells -/
def tget (m : Nat) (L : List Ent) (id k : Nat) : Nat × Cp := match plc L id with
  | none => (7, ⟨0, 0, 0, 0⟩)
  | some r => if bt m k then (0, mkc k (fv ((L[r]?).map (·.2) |>.getD []) k)) else (10, ⟨0, 0, 0, 0⟩)
def Cp.ag (q : Cp) : Value := .agg #[.int .u8 (q.k : Int), .int .i32 q.a, .int .i32 q.b, .int .i32 q.c]
section
variable (w0 w : World) (l : List Thing) (b m : Nat) (L : List Ent) (c : Nat)

theorem bt_lt {m k : Nat} (hm : m < 64) (h : bt m k = true) : k < 6 := by
  unfold bt at h
  rcases Nat.lt_or_ge k 6 with q | q
  · exact q
  · have a1 : 2 ^ 6 ≤ 2 ^ k := Nat.pow_le_pow_right (by decide) q
    rw [Nat.div_eq_of_lt (by omega)] at h
    simp at h

set_option maxHeartbeats 1000000 in
theorem tgetC (h : Own w0 w (Table b m L c :: l)) (hT : TOk m L) (id : Nat) (hid : id < 4294967296) (k : Nat) (hk : k < 256) :
    Calls Tryz.prog 171 #[.pointer (some ⟨b, 0, none⟩), .int .u32 (id : Int), .int .u8 (k : Int)] w fun e w' => e = .returned (.tuple #[(tget m L id k).2.ag, .int .i64 ((tget m L id k).1 : Int)]) ∧ Own w0 w' (Table b m L c :: l) := by
  have hm := hT.m64
  have hA := h.allocC #[.int .u8 0, .int .i32 0, .int .i32 0, .int .i32 0] 46
  have HR : Hid (Calls _ _ _ _ _) := trow w0 _ _ b m _ _ _ c hA.two id hid
  have HA : Hid (Own w0 _ (Cells w.heap.size #[.int .u8 0, .int .i32 0, .int .i32 0, .int .i32 0] 46 :: Table b m L c :: l)) := hA
  cases hp : plc L id with
  | none =>
    have HV : Hid (tget m L id k = (7, ⟨0, 0, 0, 0⟩)) := by show _ = _; unfold tget; rw [hp]
    rw [hp] at HR
    simp only [lk] at HR
    clear h hA hp
    go_enter Tryz.func171, Tryz.ntmps171
    go_wp2_with fail
    refine HR.out.mono ?_
    rintro e w1 ⟨rfl, rfl⟩
    clear HR
    go_wp2
    (try simp only [Exit.inBlock, Exit.then])
    refine bodyPost_ret (v := .tuple #[.agg #[.int .u8 0, .int .i32 0, .int .i32 0, .int .i32 0], .int .i64 7]) ?_ rfl ⟨by rw [HV.out]; rfl, HA.out.tail⟩
    rw [results_cell_tmp rfl]
    go_simp
  | some r =>
    obtain ⟨e, he, hei⟩ := (plc_some hT.ap id r).1 hp
    rw [hp] at HR
    simp only [lk] at HR
    have HH : Hid (Calls _ _ _ _ _) := thas w0 _ _ b m _ _ _ c hA.two k hk hm
    cases hb : bt m k with
    | false =>
      have HV : Hid (tget m L id k = (10, ⟨0, 0, 0, 0⟩)) := by show _ = _; unfold tget; rw [hp]; simp [hb]
      rw [hb] at HH
      clear h hA hp hb he
      go_enter Tryz.func171, Tryz.ntmps171
      go_wp2_with fail
      refine HR.out.mono ?_
      rintro e w1 ⟨rfl, rfl⟩
      clear HR
      go_wp2_with fail
      refine HH.out.mono ?_
      rintro e w1 ⟨rfl, rfl⟩
      clear HH
      go_wp2
      (try simp only [Exit.inBlock, Exit.then])
      refine bodyPost_ret (v := .tuple #[.agg #[.int .u8 0, .int .i32 0, .int .i32 0, .int .i32 0], .int .i64 10]) ?_ rfl ⟨by rw [HV.out]; rfl, HA.out.tail⟩
      rw [results_cell_tmp rfl]
      go_simp
    | true =>
      obtain ⟨x, hx⟩ : ∃ x, x = fv e.2 k := ⟨_, rfl⟩
      have HV : Hid (tget m L id k = (0, mkc k x)) := by show _ = _; unfold tget; rw [hp]; simp [hb, he, hx]
      obtain ⟨xx, hX⟩ := TabX.of hA.two
      have HC : Hid (Calls _ _ _ _ _) := tcomp w0 _ _ b m _ _ _ c xx hX k (bt_lt hm hb) r x (by unfold clm; rw [if_pos hb, List.getElem?_map, he, hx]; rfl)
      rw [hb] at HH
      clear h hA hp hb he hx hX
      obtain ⟨x0, x1, x2⟩ := x
      go_enter Tryz.func171, Tryz.ntmps171
      go_wp2_with fail
      refine HR.out.mono ?_
      rintro e w1 ⟨rfl, rfl⟩
      clear HR
      go_wp2_with fail
      refine HH.out.mono ?_
      rintro e w1 ⟨rfl, rfl⟩
      clear HH
      go_wp2_with fail
      refine HC.out.mono ?_
      rintro e w2 ⟨rfl, hO⟩
      replace hO := TabX.tab hO
      have z0 := hO.two.cell 0
      have z1 := hO.two.cell 1
      have z2 := hO.two.cell 2
      have z3 := hO.two.cell 3
      simp at z0 z1 z2 z3
      have y0 := hO.two.froz 0
      have y1 := hO.two.froz 1
      have y2 := hO.two.froz 2
      have y3 := hO.two.froz 3
      have HF : Hid (Own w0 ((((w2.setCell ⟨w.heap.size, 0, none⟩ (.int .u8 (k : Int))).setCell ⟨w.heap.size, 1, none⟩ (.int .i32 x0)).setCell ⟨w.heap.size, 2, none⟩ (.int .i32 x1)).setCell ⟨w.heap.size, 3, none⟩ (.int .i32 x2)) (Cells w.heap.size #[.int .u8 (k : Int), .int .i32 x0, .int .i32 x1, .int .i32 x2] 46 :: Table b m L c :: l)) :=
        (((hO.two.setC 0 (.int .u8 (k : Int))).setC 1 (.int .i32 x0)).setC 2 (.int .i32 x1)).setC 3 (.int .i32 x2)
      clear hO HC HA
      simp only
      go_wp2
      (try simp only [Exit.inBlock, Exit.then])
      refine bodyPost_ret (v := .tuple #[.agg #[.int .u8 (k : Int), .int .i32 x0, .int .i32 x1, .int .i32 x2], .int .i64 0]) ?_ rfl ⟨by rw [HV.out]; rfl, HF.out.tail⟩
      rw [results_cell_tmp rfl]
      have r0 := HF.out.cell 0
      have r1 := HF.out.cell 1
      have r2 := HF.out.cell 2
      have r3 := HF.out.cell 3
      simp at r0 r1 r2 r3
      go_simp

set_option maxHeartbeats 1000000 in
theorem tatC (h : Own w0 w (Table b m L c :: l)) (hT : TOk m L) (r : Nat) (e : Ent) (he : L[r]? = some e) (hL : L.length ≤ 1000000) :
    Calls Tryz.prog 182 #[.pointer (some ⟨b, 0, none⟩), .int .i64 (r : Int)] w fun out w' => ∃ ao cap, out = .returned (.tuple #[.agg #[.int .u32 (e.1 : Int), .slice ao e.2.length cap], .bool true]) ∧ Own w0 w' (Row 46 4 (.slice ao e.2.length cap) e.2.length (ccat e.2) :: Table b m L c :: l) := by
  obtain ⟨⟨vi, v, mb⟩, h⟩ := TabX.of h
  have hA := h.allocC #[.int .u32 0, .slice none 0 0] 67
  have hrl := (List.getElem?_eq_some_iff.1 he).1
  have hrl' : (r : Int) < (L.length : Int) := by omega
  obtain ⟨g, cap, hvi, HI⟩ : ∃ g cap, vi = .slice (some ⟨g, 0, none⟩) L.length cap ∧ Hid (∀ w' l', Own w0 w' (TabX b m (ids L) (clm m L) (plc L) c (vi, v, mb) :: l') → w'.cell? ⟨b, 1, none⟩ = some vi ∧ w'.cell? ⟨g, r, none⟩ = some (.int .u32 (e.1 : Int))) := by
    have h' := TabX.open h
    rw [length_ids] at h'
    obtain ⟨g, cap, h2, _⟩ := row_shape h'.two.row (by omega)
    subst h2
    refine ⟨g, cap, rfl, fun w' l' h' => ?_⟩
    have h' := TabX.open h'
    rw [length_ids] at h'
    have q := h'.cell 1
    simp [tcells] at q
    have c1 := h'.two.row.cellAt r (by omega)
    rw [getElem?_irow, ids, List.getElem?_map, he] at c1
    exact ⟨q, c1⟩
  subst hvi
  have HL : Hid (Calls _ _ _ _ _) := tlen w0 _ _ b m _ _ _ c (TabX.tab hA.two)
  have HC : Hid (Calls _ _ _ _ _) := tcompsX w0 _ _ b m L c _ hA.two.drew hT r e he
  obtain ⟨q1, q2⟩ := HI.out _ _ hA.two
  rw [length_ids] at HL
  obtain ⟨eid, eC⟩ := e
  simp only at HC HI q2 ⊢
  clear h hA he
  go_enter Tryz.func182, Tryz.ntmps182
  go_wp2_with fail
  refine HL.out.mono ?_
  rintro out w1 ⟨rfl, rfl⟩
  clear HL
  go_wp2_with fail
  go_region_with (
    go_at_call 222
    refine HC.out.mono ?_
    rintro out w2 ⟨ao, cp, rfl, hO⟩
    obtain ⟨d1, d2⟩ := HI.out _ _ hO.two
    have z0 := hO.three.cell 0
    have z1 := hO.three.cell 1
    simp at z0 z1
    have y0 := hO.three.froz 0
    have y1 := hO.three.froz 1
    have HF : Hid (Own w0 ((w2.setCell ⟨w.heap.size, 0, none⟩ (.int .u32 (eid : Int))).setCell ⟨w.heap.size, 1, none⟩ (.slice ao eC.length cp)) (Cells w.heap.size #[.int .u32 (eid : Int), .slice ao eC.length cp] 67 :: Row 46 4 (.slice ao eC.length cp) eC.length (ccat eC) :: TabX b m (ids L) (clm m L) (plc L) c (.slice (some ⟨g, 0, none⟩) L.length cap, v, mb) :: l)) := (hO.three.setC 0 (.int .u32 (eid : Int))).setC 1 (.slice ao eC.length cp)
    clear hO)
  all_goals
    go_wp2
    (try simp only [Exit.inBlock, Exit.then])
    refine bodyPost_ret (v := .tuple #[.agg #[.int .u32 (eid : Int), .slice ao eC.length cp], .bool true]) ?_ rfl ⟨ao, cp, rfl, (TabX.tab HF.out.tail.two).two⟩
    rw [results_cell_tmp rfl]
    have r0 := HF.out.cell 0
    have r1 := HF.out.cell 1
    simp at r0 r1
    go_simp
set_option maxHeartbeats 1000000 in
theorem tatNo (h : Own w0 w (Table b m L c :: l)) (r : Int) (hr : r < 0 ∨ (L.length : Int) ≤ r) (hL : L.length ≤ 1000000) :
    Calls Tryz.prog 182 #[.pointer (some ⟨b, 0, none⟩), .int .i64 r] w fun out w' => out = .returned (.tuple #[.agg #[.int .u32 0, .slice none 0 0], .bool false]) ∧ Own w0 w' (Table b m L c :: l) := by
  have hA := h.allocC #[.int .u32 0, .slice none 0 0] 67
  have HL : Hid (Calls _ _ _ _ _) := tlen w0 _ _ b m _ _ _ c hA.two
  rw [length_ids] at HL
  have HA : Hid (Own w0 _ _) := hA
  clear h hA
  by_cases h0 : r < 0
  · go_enter Tryz.func182, Tryz.ntmps182
    go_wp2
    (try simp only [Exit.inBlock, Exit.then])
    refine bodyPost_ret (v := .tuple #[.agg #[.int .u32 0, .slice none 0 0], .bool false]) ?_ rfl ⟨rfl, HA.out.tail⟩
    rw [results_cell_tmp rfl]
    go_simp
  · have h1 : (L.length : Int) ≤ r := by omega
    have h2 : ¬ r < (L.length : Int) := by omega
    clear hr
    go_enter Tryz.func182, Tryz.ntmps182
    go_wp2_with fail
    refine HL.out.mono ?_
    rintro out w1 ⟨rfl, rfl⟩
    clear HL
    go_wp2
    (try simp only [Exit.inBlock, Exit.then])
    refine bodyPost_ret (v := .tuple #[.agg #[.int .u32 0, .slice none 0 0], .bool false]) ?_ rfl ⟨rfl, HA.out.tail⟩
    rw [results_cell_tmp rfl]
    go_simp
end
end Go.Proofs.YtflmgilmbppieaaGreatDoor
