/-
  Package net: Take of none, Peek, Copy, Drop.
-/
import Derived.Test.YtiphkndahoageaaNtc
namespace Go.Proofs.Ytiphkndahoageaa
open Go.RowKit
set_option linter.unusedVariables false

/-- a bag, or none -/
def BagO (t : TypeId) (p : Option Nat) (N : Nat) (E : List Gr) : Thing := match p with
  | some b => BagT t b N E
  | none => Emp
def bpv (p : Option Nat) : Value := .pointer (p.map fun b => ⟨b, 0, none⟩)
/-- how many there are -/
def bln (p : Option Nat) (E : List Gr) : Nat := if p = none then 0 else E.length
theorem blen_o (w0 w : World) (l : List Thing) (p : Option Nat) (N : Nat) (E : List Gr) (h : Own w0 w (BagO 61 p N E :: l)) :
    Calls Try.prog 22 #[bpv p] w fun e w' => e = .returned (.int .i64 (bln p E : Int)) ∧ w' = w := by
  cases p with
  | none => exact blen_nil w
  | some b => exact blen w0 w l b N E h
theorem bhas_o (w0 w : World) (l : List Thing) (p : Option Nat) (N : Nat) (E : List Gr) (h : Own w0 w (BagO 61 p N E :: l)) (i : Int) :
    Calls Try.prog 26 #[bpv p, .int .i64 i] w fun e w' => e = .returned (.bool (decide (0 ≤ i ∧ i < (bln p E : Int)))) ∧ w' = w :=
  bhas_of w _ _ i (blen_o w0 w l p N E h)

set_option maxHeartbeats 1000000 in
set_option maxRecDepth 100000 in
theorem btake_no (w0 w : World) (l : List Thing) (p : Option Nat) (N : Nat) (E : List Gr) (h : Own w0 w (BagO 61 p N E :: l)) (i : Int) (hi : ¬ (0 ≤ i ∧ i < (bln p E : Int))) :
    Calls Try.prog 13 #[bpv p, .int .i64 i] w fun e w' => e = .returned (.tuple #[.agg #[.int .i64 0, .slice none 0 0], .int .i64 10]) ∧ Own w0 w' (BagO 61 p N E :: l) := by
  have hA := h.allocC #[.int .i64 0, .slice none 0 0] 33
  have HH : Hid (Calls _ _ _ _ _) := bhas_o w0 _ _ p N E hA.two i
  rw [show decide (0 ≤ i ∧ i < (bln p E : Int)) = false from decide_eq_false hi] at HH
  have z0 := hA.cell 0
  have z1 := hA.cell 1
  simp at z0 z1
  have y0 := hA.froz 0
  have y1 := hA.froz 1
  have HF : Hid (Own w0 _ _) := hA
  unfold bpv at *
  generalize Option.map (fun b => (⟨b, 0, none⟩ : Addr)) p = pv at *
  clear h hi hA
  go_enter Try.func13, Try.ntmps13
  go_wp2_with fail
  refine HH.out.mono ?_
  rintro e w1 ⟨rfl, rfl⟩
  clear HH
  go_wp2
  (try simp only [Exit.inBlock, Exit.then])
  refine bodyPost_ret (v := .tuple #[.agg #[.int .i64 0, .slice none 0 0], .int .i64 10]) ?_ rfl ⟨rfl, HF.out.tail⟩
  rw [results_cell_tmp rfl]
  have r0 := HF.out.cell 0
  have r1 := HF.out.cell 1
  simp at r0 r1
  go_simp
set_option maxHeartbeats 1000000 in
set_option maxRecDepth 100000 in
theorem bpeek_no (w0 w : World) (l : List Thing) (p : Option Nat) (N : Nat) (E : List Gr) (h : Own w0 w (BagO 61 p N E :: l)) (i : Int) (hi : ¬ (0 ≤ i ∧ i < (bln p E : Int))) :
    Calls Try.prog 16 #[bpv p, .int .i64 i] w fun e w' => e = .returned (.tuple #[.agg #[.int .i64 0, .slice none 0 0], .int .i64 10]) ∧ Own w0 w' (BagO 61 p N E :: l) := by
  have hA := h.allocC #[.int .i64 0, .slice none 0 0] 33
  have HH : Hid (Calls _ _ _ _ _) := bhas_o w0 _ _ p N E hA.two i
  rw [show decide (0 ≤ i ∧ i < (bln p E : Int)) = false from decide_eq_false hi] at HH
  have z0 := hA.cell 0
  have z1 := hA.cell 1
  simp at z0 z1
  have y0 := hA.froz 0
  have y1 := hA.froz 1
  have HF : Hid (Own w0 _ _) := hA
  unfold bpv at *
  generalize Option.map (fun b => (⟨b, 0, none⟩ : Addr)) p = pv at *
  clear h hi hA
  go_enter Try.func16, Try.ntmps16
  go_wp2_with fail
  refine HH.out.mono ?_
  rintro e w1 ⟨rfl, rfl⟩
  clear HH
  go_wp2
  (try simp only [Exit.inBlock, Exit.then])
  refine bodyPost_ret (v := .tuple #[.agg #[.int .i64 0, .slice none 0 0], .int .i64 10]) ?_ rfl ⟨rfl, HF.out.tail⟩
  rw [results_cell_tmp rfl]
  have r0 := HF.out.cell 0
  have r1 := HF.out.cell 1
  simp at r0 r1
  go_simp
set_option maxHeartbeats 400000 in
theorem bno (w0 w : World) (l : List Thing) (p : Option Nat) (N : Nat) (E : List Gr) (h : Own w0 w (BagO 61 p N E :: l)) (i : Int) (hi : ¬ (0 ≤ i ∧ i < (bln p E : Int))) :
    (Calls Try.prog 18 #[bpv p, .int .i64 i] w fun e w' => e = .returned (.int .i64 10) ∧ w' = w) ∧ (Calls Try.prog 19 #[bpv p, .int .i64 i] w fun e w' => e = .returned (.int .i64 10) ∧ w' = w) ∧ ∀ t pt : Int, Calls Try.prog 21 #[bpv p, .int .i64 i, .int .i64 t, .int .u32 pt] w fun e w' => e = .returned (.int .i64 10) ∧ w' = w := by
  have HH : Hid (Calls _ _ _ _ _) := bhas_o w0 _ _ p N E h i
  rw [show decide (0 ≤ i ∧ i < (bln p E : Int)) = false from decide_eq_false hi] at HH
  unfold bpv at *
  generalize Option.map (fun b => (⟨b, 0, none⟩ : Addr)) p = pv at *
  clear h hi
  refine ⟨?_, ?_, ?_⟩
  · go_enter Try.func18, Try.ntmps18
    go_wp2_with fail
    refine HH.out.mono ?_
    rintro e w1 ⟨rfl, rfl⟩
    clear HH
    go_wp2
    go_ret
    exact ⟨rfl, rfl⟩
  · go_enter Try.func19, Try.ntmps19
    go_wp2_with fail
    refine HH.out.mono ?_
    rintro e w1 ⟨rfl, rfl⟩
    clear HH
    go_wp2
    go_ret
    exact ⟨rfl, rfl⟩
  · intro t pt
    go_enter Try.func21, Try.ntmps21
    go_wp2_with fail
    refine HH.out.mono ?_
    rintro e w1 ⟨rfl, rfl⟩
    clear HH
    go_wp2
    go_ret
    exact ⟨rfl, rfl⟩

set_option maxHeartbeats 1000000 in
set_option maxRecDepth 100000 in
theorem bpeek_ok (w0 w : World) (l : List Thing) (b N : Nat) (E : List Gr) (h : Own w0 w (BagT 61 b N E :: l)) (m : Nat) (x : Gr) (hx : E[m]? = some x) (hL : x.P.length ≤ 140737488351232) :
    Calls Try.prog 16 #[.pointer (some ⟨b, 0, none⟩), .int .i64 (m : Int)] w fun e w' => ∃ a2 c2, e = .returned (.tuple #[.agg #[.int .i64 x.to, .slice a2 x.P.length c2], .int .i64 0]) ∧ Own w0 w' (Row 5 1 (.slice a2 x.P.length c2) x.P.length (vrow x.P) :: BagT 61 b N E :: l) := by
  have hm : m < E.length := (List.getElem?_eq_some_iff.1 hx).1
  have hA := h.allocC #[.int .i64 0, .slice none 0 0] 33
  have HH : Hid (Calls _ _ _ _ _) := bhas_of _ _ E.length (m : Int) (blen w0 _ _ b N E hA.two)
  have hd : decide (0 ≤ (m : Int) ∧ (m : Int) < (E.length : Int)) = true := by simp; omega
  rw [hd] at HH
  obtain ⟨lv, h⟩ := Own.ex_iff.1 h
  obtain ⟨g, lc, hv, _⟩ := row_shape h.two.row (by omega)
  subst hv
  have hs := Own.gsrc (A := [_, _]) hx h
  have HO : Hid (Calls _ _ _ _ _) := own_any w0 _ _ hA x.to x.ao x.P.length x.cap x.P rfl (hs.quiet ((Fr.refl Nobody w).alloc _)) hL
  have q1 := h.cell 1
  simp at q1
  obtain ⟨p0, p1⟩ := gcell h.two rfl m x hx
  have hlt := h.lt
  have hgl : g < w.heap.size := (h.two.row.lt g rfl).2
  have n1 : w.heap.size ≠ b := by omega
  have n2 : w.heap.size ≠ g := by omega
  have hm3 : (m : Int) < (E.length : Int) := by omega
  clear h hA hx hd hs
  obtain ⟨xa, xc, xt, xP⟩ := x
  simp only at *
  generalize xP.length = xn at *
  generalize E.length = len at *
  go_enter Try.func16, Try.ntmps16
  go_wp2_with fail
  refine HH.out.mono ?_
  rintro e w1 ⟨rfl, rfl⟩
  go_wp2_with fail
  refine HO.out.mono ?_
  rintro e w2 ⟨a2, c2, rfl, hO, hf⟩
  have hB := hO.two
  have s0 := hB.cell 0
  have s1 := hB.cell 1
  have z0 := hB.froz 0
  have z1 := hB.froz 1
  simp at s0 s1
  have HF : Hid (Own w0 _ _) := (hB.setC 0 (.int .i64 xt)).setC 1 (.slice a2 xn c2)
  clear hO hB HH HO hf
  go_wp2
  (try simp only [Exit.inBlock, Exit.then])
  refine bodyPost_ret (v := .tuple #[.agg #[.int .i64 xt, .slice a2 xn c2], .int .i64 0]) ?_ rfl ⟨a2, c2, rfl, ?_⟩
  · rw [results_cell_tmp rfl]
    have r0 := HF.out.cell 0
    have r1 := HF.out.cell 1
    simp at r0 r1
    go_simp
  · exact HF.out.tail

set_option maxHeartbeats 1000000 in
set_option maxRecDepth 100000 in
theorem bcopy_any (w0 w : World) (l : List Thing) (b N : Nat) (E : List Gr) (h : Own w0 w (BagT 61 b N E :: l)) (m : Nat) (x : Gr) (hx : E[m]? = some x) (Q : Ending → World → Prop)
    (hP : Calls Try.prog 10 #[.pointer (some ⟨b, 0, none⟩), .agg #[.int .i64 x.to, .slice x.ao x.P.length x.cap]] w fun e w' => ∃ n : Int, e = .returned (.int .i64 n) ∧ Q e w') :
    Calls Try.prog 18 #[.pointer (some ⟨b, 0, none⟩), .int .i64 (m : Int)] w Q := by
  have hm : m < E.length := (List.getElem?_eq_some_iff.1 hx).1
  have HH : Hid (Calls _ _ _ _ _) := bhas_of _ _ E.length (m : Int) (blen w0 _ _ b N E h)
  have hd : decide (0 ≤ (m : Int) ∧ (m : Int) < (E.length : Int)) = true := by simp; omega
  rw [hd] at HH
  have HP : Hid (Calls _ _ _ _ _) := hP
  obtain ⟨lv, h⟩ := Own.ex_iff.1 h
  obtain ⟨g, lc, hv, _⟩ := row_shape h.two.row (by omega)
  subst hv
  have q1 := h.cell 1
  simp at q1
  obtain ⟨p0, p1⟩ := gcell h.two rfl m x hx
  have hm3 : (m : Int) < (E.length : Int) := by omega
  clear h hx hd hP
  obtain ⟨xa, xc, xt, xP⟩ := x
  simp only at *
  generalize xP.length = xn at *
  generalize E.length = len at *
  go_enter Try.func18, Try.ntmps18
  go_wp2_with fail
  refine HH.out.mono ?_
  rintro e w1 ⟨rfl, rfl⟩
  go_wp2_with fail
  refine HP.out.mono ?_
  rintro e w2 ⟨n, rfl, hq⟩
  have HQ : Hid (Q _ _) := hq
  clear hq
  go_wp2
  exact HQ.out
set_option maxHeartbeats 1000000 in
set_option maxRecDepth 100000 in
theorem bdrop_ok (w0 w : World) (l : List Thing) (b N : Nat) (E : List Gr) (h : Own w0 w (BagT 61 b N E :: l)) (hE : E.length ≤ 2048) (m : Nat) (x : Gr) (hx : E[m]? = some x) :
    Calls Try.prog 19 #[.pointer (some ⟨b, 0, none⟩), .int .i64 (m : Int)] w fun e w' => e = .returned (.int .i64 0) ∧ Own w0 w' (BagT 61 b N (E.eraseIdx m) :: l) := by
  have hm : m < E.length := (List.getElem?_eq_some_iff.1 hx).1
  have HH : Hid (Calls _ _ _ _ _) := bhas_of _ _ E.length (m : Int) (blen w0 _ _ b N E h)
  have hd : decide (0 ≤ (m : Int) ∧ (m : Int) < (E.length : Int)) = true := by simp; omega
  rw [hd] at HH
  have HR : Hid (Calls _ _ _ _ _) := bremove w0 _ _ b N E h hE m x hx
  clear h hx hd hm
  go_enter Try.func19, Try.ntmps19
  go_wp2_with fail
  refine HH.out.mono ?_
  rintro e w1 ⟨rfl, rfl⟩
  go_wp2_with fail
  refine HR.out.mono ?_
  rintro e w2 ⟨rfl, hO⟩
  have H : Hid (Own _ _ _) := hO
  clear hO
  go_wp2
  go_ret
  exact ⟨rfl, H.out.tail⟩
end Go.Proofs.Ytiphkndahoageaa
