/-
  Package table: Get, At, Set.
-/
import Derived.Test.YtoobfmedkhbkiaaDoorUd
namespace Go.Proofs.YtoobfmedkhbkiaaDoor
open Go.RowKit Go.Maps
set_option linter.unusedVariables false
set_option maxRecDepth 100000

/-- what a table's Get tells -/
def tget (m : Nat) (L : List Ent) (id k : Nat) : Nat × Cp := match plc L id with
  | none => (7, ⟨0, 0, 0, 0⟩)
  | some r => if bt m k then (0, mkc k (fv ((L[r]?).map (·.2) |>.getD []) k)) else (10, ⟨0, 0, 0, 0⟩)
def Cp.ag (q : Cp) : Value := .agg #[.int .u8 (q.k : Int), .int .i32 q.a, .int .i32 q.b, .int .i32 q.c]
section
variable (w0 w : World) (l : List Thing) (b m : Nat) (L : List Ent) (c : Nat)

theorem bt_lt {m k : Nat} (hm : m < 64) (h : bt m k = true) : k < 6 := by
  unfold bt at h
  rcases Nat.lt_or_ge k 6 with q | q
  · exact q
  · have a1 : 2 ^ 6 ≤ 2 ^ k := Nat.pow_le_pow_right (by decide) q
    rw [Nat.div_eq_of_lt (by omega)] at h
    simp at h

set_option maxHeartbeats 1000000 in
theorem tgetC (h : Own w0 w (Table b m L c :: l)) (hT : TOk m L) (id : Nat) (hid : id < 4294967296) (k : Nat) (hk : k < 256) :
    Calls Tryd.prog 49 #[.pointer (some ⟨b, 0, none⟩), .int .u32 (id : Int), .int .u8 (k : Int)] w fun e w' => e = .returned (.tuple #[(tget m L id k).2.ag, .int .i64 ((tget m L id k).1 : Int)]) ∧ Own w0 w' (Table b m L c :: l) := by
  have hm := hT.m64
  have hA := h.allocC #[.int .u8 0, .int .i32 0, .int .i32 0, .int .i32 0] 38
  have HR : Hid (Calls _ _ _ _ _) := trow w0 _ _ b m _ _ _ c hA.two id hid
  have HA : Hid (Own w0 _ (Cells w.heap.size #[.int .u8 0, .int .i32 0, .int .i32 0, .int .i32 0] 38 :: Table b m L c :: l)) := hA
  cases hp : plc L id with
  | none =>
    have HV : Hid (tget m L id k = (7, ⟨0, 0, 0, 0⟩)) := by show _ = _; unfold tget; rw [hp]
    rw [hp] at HR
    simp only [lk] at HR
    clear h hA hp
    go_enter Tryd.func49, Tryd.ntmps49
    go_wp2_with fail
    refine HR.out.mono ?_
    rintro e w1 ⟨rfl, rfl⟩
    clear HR
    go_wp2
    (try simp only [Exit.inBlock, Exit.then])
    refine bodyPost_ret (v := .tuple #[.agg #[.int .u8 0, .int .i32 0, .int .i32 0, .int .i32 0], .int .i64 7]) ?_ rfl ⟨by rw [HV.out]; rfl, HA.out.tail⟩
    rw [results_cell_tmp rfl]
    go_simp
  | some r =>
    obtain ⟨e, he, hei⟩ := (plc_some hT.ap id r).1 hp
    rw [hp] at HR
    simp only [lk] at HR
    have HH : Hid (Calls _ _ _ _ _) := thas w0 _ _ b m _ _ _ c hA.two k hk hm
    cases hb : bt m k with
    | false =>
      have HV : Hid (tget m L id k = (10, ⟨0, 0, 0, 0⟩)) := by show _ = _; unfold tget; rw [hp]; simp [hb]
      rw [hb] at HH
      clear h hA hp hb he
      go_enter Tryd.func49, Tryd.ntmps49
      go_wp2_with fail
      refine HR.out.mono ?_
      rintro e w1 ⟨rfl, rfl⟩
      clear HR
      go_wp2_with fail
      refine HH.out.mono ?_
      rintro e w1 ⟨rfl, rfl⟩
      clear HH
      go_wp2
      (try simp only [Exit.inBlock, Exit.then])
      refine bodyPost_ret (v := .tuple #[.agg #[.int .u8 0, .int .i32 0, .int .i32 0, .int .i32 0], .int .i64 10]) ?_ rfl ⟨by rw [HV.out]; rfl, HA.out.tail⟩
      rw [results_cell_tmp rfl]
      go_simp
    | true =>
      obtain ⟨x, hx⟩ : ∃ x, x = fv e.2 k := ⟨_, rfl⟩
      have HV : Hid (tget m L id k = (0, mkc k x)) := by show _ = _; unfold tget; rw [hp]; simp [hb, he, hx]
      obtain ⟨xx, hX⟩ := TabX.of hA.two
      have HC : Hid (Calls _ _ _ _ _) := tcomp w0 _ _ b m _ _ _ c xx hX k (bt_lt hm hb) r x (by unfold clm; rw [if_pos hb, List.getElem?_map, he, hx]; rfl)
      rw [hb] at HH
      clear h hA hp hb he hx hX
      obtain ⟨x0, x1, x2⟩ := x
      go_enter Tryd.func49, Tryd.ntmps49
      go_wp2_with fail
      refine HR.out.mono ?_
      rintro e w1 ⟨rfl, rfl⟩
      clear HR
      go_wp2_with fail
      refine HH.out.mono ?_
      rintro e w1 ⟨rfl, rfl⟩
      clear HH
      go_wp2_with fail
      refine HC.out.mono ?_
      rintro e w2 ⟨rfl, hO⟩
      replace hO := TabX.tab hO
      have z0 := hO.two.cell 0
      have z1 := hO.two.cell 1
      have z2 := hO.two.cell 2
      have z3 := hO.two.cell 3
      simp at z0 z1 z2 z3
      have y0 := hO.two.froz 0
      have y1 := hO.two.froz 1
      have y2 := hO.two.froz 2
      have y3 := hO.two.froz 3
      have HF : Hid (Own w0 ((((w2.setCell ⟨w.heap.size, 0, none⟩ (.int .u8 (k : Int))).setCell ⟨w.heap.size, 1, none⟩ (.int .i32 x0)).setCell ⟨w.heap.size, 2, none⟩ (.int .i32 x1)).setCell ⟨w.heap.size, 3, none⟩ (.int .i32 x2)) (Cells w.heap.size #[.int .u8 (k : Int), .int .i32 x0, .int .i32 x1, .int .i32 x2] 38 :: Table b m L c :: l)) :=
        (((hO.two.setC 0 (.int .u8 (k : Int))).setC 1 (.int .i32 x0)).setC 2 (.int .i32 x1)).setC 3 (.int .i32 x2)
      clear hO HC HA
      simp only
      go_wp2
      (try simp only [Exit.inBlock, Exit.then])
      refine bodyPost_ret (v := .tuple #[.agg #[.int .u8 (k : Int), .int .i32 x0, .int .i32 x1, .int .i32 x2], .int .i64 0]) ?_ rfl ⟨by rw [HV.out]; rfl, HF.out.tail⟩
      rw [results_cell_tmp rfl]
      have r0 := HF.out.cell 0
      have r1 := HF.out.cell 1
      have r2 := HF.out.cell 2
      have r3 := HF.out.cell 3
      simp at r0 r1 r2 r3
      go_simp

end
end Go.Proofs.YtoobfmedkhbkiaaDoor
