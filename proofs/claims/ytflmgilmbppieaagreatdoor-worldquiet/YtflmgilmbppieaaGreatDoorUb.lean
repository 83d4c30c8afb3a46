/-
  Package table: columns; New, Len, Mask, Row, has, comp.
-/
import Derived.Test.YtflmgilmbppieaaGreatDoorUa
import Derived.Deep.AppendLies
import Derived.Laws.ResultCell
namespace Go.Proofs.YtflmgilmbppieaaGreatDoor
open Go.RowKit Go.Maps
set_option linter.unusedVariables false
set_option maxRecDepth 100000

theorem run1_own {P : Program} {w0 w : World} {l : List Thing} (t ty e : TypeId) (i : TypeInfo) (z : Value) (size bytes : Nat) (ht : P.underlying t = some (.slice e)) (hi : P.info? e = some i) (hz : i.zero = some z)
    (hsize : i.size = size) (hby : i.bytes = bytes) (hzs : z.cells.size = size) (hsz : 0 < size) (v : Value) (n : Nat) (xs : List Value) (h : Own w0 w (Row e size v n xs :: l)) (cs : Array Value) (hl : cs.size = size) (h1 : ∀ u ∈ cs.toList, u.oneCell' = true) (h63 : n + 1 ≤ maxLen) (hbytes : (n + 1) * bytes ≤ 140737488355328) :
    ∃ g cap w', (Builtin.append_ #[t, t] ty #[v, .slice (some ⟨w.heap.size, 0, none⟩) 1 1]).run P (w.alloc (.cells cs e)) = .ok (.slice (some ⟨g, 0, none⟩) (n + 1) cap) w' ∧ Own w0 w' (Row e size (.slice (some ⟨g, 0, none⟩) (n + 1) cap) (n + 1) (xs ++ cs.toList) :: l) := by
  have h' := h.alloc (.cells cs e)
  obtain ⟨g, cap, w', hr, ho, hg, hat, hlt⟩ := run_append_lies (P := P) (w := w.alloc (.cells cs e)) t ty 0 e i z size bytes ht hi hz hsize hby hzs hsz v n xs h'.row ⟨w.heap.size, 0, none⟩ 1 1 cs.toList (by simp [hl]) (cells_new w cs e _ rfl) h1 (by decide) h63 hbytes (Nat.zero_le _) _ rfl
  refine ⟨g, cap, w', hr, h'.grow ho hg (fun k hk => ?_)⟩
  have hk' : k = g := by simp [Value.ownBlock] at hk; exact hk.symm
  subst hk'
  rcases hat with q | q
  · exact .inl q
  · exact .inr (by rw [q]; exact Nat.le_refl _)
theorem Tryz.infoID2 : (Tryz.prog.info? 38).map (fun i => (i.zero, i.size, i.bytes)) = some (some (.int .u32 0), 1, 4) := by kernel_rfl
theorem Tryz.infoA3 : (Tryz.prog.info? 44).map (fun i => (i.zero, i.size, i.bytes)) = some (some (.agg #[.int .i32 0, .int .i32 0, .int .i32 0]), 3, 12) := by kernel_rfl

set_option maxHeartbeats 1000000 in
theorem pushI (w0 w : World) (l : List Thing) (b : Nat) (cur : Array Value) (t : TypeId) (p : Nat) (v : Value) (n : Nat) (xs : List Value) (id : Nat) (h : Own w0 w (Cells b cur t :: Row 38 1 v n xs :: l)) (hp : cur[p]? = some v) (hn : n ≤ 1000000) :
    Calls Tryz.prog 257 #[.pointer (some ⟨b, p, none⟩), .int .u32 (id : Int)] w fun e w' => e = .returned (.tuple #[]) ∧ ∃ g cap, Own w0 w' (Cells b (cur.setIfInBounds p (.slice (some ⟨g, 0, none⟩) (n + 1) cap)) t :: Row 38 1 (.slice (some ⟨g, 0, none⟩) (n + 1) cap) (n + 1) (xs ++ [.int .u32 (id : Int)]) :: l) := by
  obtain ⟨i0, hi, hz0, hz1, hz2⟩ := info_parts Tryz.infoID2
  obtain ⟨ao, cap, rfl⟩ := row_any h.two.row
  have q := h.cell p
  rw [hp] at q
  have H : Hid (Own w0 w (Cells b cur t :: Row 38 1 (.slice ao n cap) n xs :: l)) := h
  have HP : Hid (cur[p]? = some (.slice ao n cap)) := hp
  clear h hp
  go_enter Tryz.func257, Tryz.ntmps257
  go_wp2_with (at_builtin; refine append1_own rfl _ _ 55 rfl 38 i0 (.int .u32 0) 1 4 Tryz.underlying55 hi hz0 hz1 hz2 rfl (by decide) _ _ _ rfl H.out.two _ #[.int .u32 (id : Int)] (by simp) rfl rfl (one_int _ _) (by unfold maxLen; omega) (by omega) ?_)
  intro g1 c1 w1 hO hsz
  have k2 := hO.two.cell p
  rw [HP.out] at k2
  have z2 := hO.two.froz p
  have H1 : Hid (Own w0 w1 _) := hO
  clear hO H q hsz
  go_wp2
  go_end0
  exact ⟨rfl, g1, c1, H1.out.two.setC p _⟩

set_option maxHeartbeats 1000000 in
theorem pushF (w0 w : World) (l : List Thing) (b : Nat) (cur : Array Value) (t : TypeId) (p : Nat) (v : Value) (n : Nat) (xs : List Value) (x : Fs) (h : Own w0 w (Cells b cur t :: Row 44 3 v n xs :: l)) (hp : cur[p]? = some v) (hn : n ≤ 1000000) :
    Calls Tryz.prog 258 #[.pointer (some ⟨b, p, none⟩), .agg #[.int .i32 x.1, .int .i32 x.2.1, .int .i32 x.2.2]] w fun e w' => e = .returned (.tuple #[]) ∧ ∃ g cap, Own w0 w' (Cells b (cur.setIfInBounds p (.slice (some ⟨g, 0, none⟩) (n + 1) cap)) t :: Row 44 3 (.slice (some ⟨g, 0, none⟩) (n + 1) cap) (n + 1) (xs ++ fc x) :: l) := by
  obtain ⟨i0, hi, hz0, hz1, hz2⟩ := info_parts Tryz.infoA3
  obtain ⟨x0, x1, x2⟩ := x
  show Calls _ _ #[_, .agg #[.int .i32 x0, .int .i32 x1, .int .i32 x2]] _ _
  obtain ⟨ao, cap, rfl⟩ := row_any h.two.row
  have hbw := h.lt
  have hbn : b ≠ w.heap.size := by omega
  have hbn' : w.heap.size ≠ b := by omega
  have hbn1 : b ≠ w.heap.size + 1 := by omega
  have hbn2 : w.heap.size + 1 ≠ b := by omega
  have hbw1 : b < w.heap.size + 1 := by omega
  have hP := h.allocC #[.int .i32 x0, .int .i32 x1, .int .i32 x2] 44
  have p0 := hP.cell 0
  have p1 := hP.cell 1
  have p2 := hP.cell 2
  simp at p0 p1 p2
  have q := hP.two.cell p
  rw [hp] at q
  obtain ⟨g', c', w1, hrun, hO⟩ := run1_own (P := Tryz.prog) 313 313 44 i0 (.agg #[.int .i32 0, .int .i32 0, .int .i32 0]) 3 12 Tryz.underlying313 hi hz0 hz1 hz2 rfl (by decide) _ n _ hP.three.drew #[.int .i32 x0, .int .i32 x1, .int .i32 x2] rfl (by intro u hu; simp at hu; rcases hu with rfl | rfl | rfl <;> rfl) (by unfold maxLen; omega) (by omega)
  have hszz : (w.alloc (.cells #[.int .i32 x0, .int .i32 x1, .int .i32 x2] 44)).drew.heap.size = w.heap.size + 1 := by simp [World.drew]
  rw [hszz] at hrun
  have HRUN : Hid _ := hrun
  clear hrun hszz hP
  have k2 := hO.three.cell p
  rw [hp] at k2
  have z2 := hO.three.froz p
  have H1 : Hid (Own w0 w1 (Cells b cur t :: Row 44 3 (.slice (some ⟨g', 0, none⟩) (n + 1) c') (n + 1) (xs ++ [.int .i32 x0, .int .i32 x1, .int .i32 x2]) :: l)) := hO.two.tail.two
  clear hO h hp
  go_enter Tryz.func258, Tryz.ntmps258
  go_wp2_with fail
  go_region_law (refine step_run rfl (.tmp 8) (.tmp 10) 313 313 313 rfl rfl (.slice ao n cap) (.slice (some ⟨w.heap.size + 1, 0, none⟩) 1 1) (.slice (some ⟨g', 0, none⟩) (n + 1) c') w1 (by simp [Act.eval]) (by simp [Act.eval]) HRUN.out ?_)
  all_goals
    go_wp2
    go_end0
    exact ⟨rfl, g', c', H1.out.setC p _⟩

theorem cat_set3 (G : List Fs) (r : Nat) (x : Fs) : cat fc (G.set r x) = if r < G.length then (((cat fc G).set (r * 3) (.int .i32 x.1)).set (r * 3 + 1) (.int .i32 x.2.1)).set (r * 3 + 2) (.int .i32 x.2.2) else cat fc G := by
  induction G generalizing r with
  | nil => simp [cat]
  | cons y G ih =>
    cases r with
    | zero => simp [cat, fc]
    | succ r =>
      have e := ih r
      simp only [List.set_cons_succ, List.length_cons]
      have e1 : ∀ (A : List Fs) (z : Fs), cat fc (z :: A) = [.int .i32 z.1, .int .i32 z.2.1, .int .i32 z.2.2] ++ cat fc A := fun _ _ => rfl
      rw [e1, e1, e]
      by_cases c : r < G.length
      · rw [if_pos c, if_pos (by omega), show (r + 1) * 3 = r * 3 + 3 by omega]
        simp
      · rw [if_neg c, if_neg (by omega)]
theorem cat_take {α : Type} (c : α → List Value) (s : Nat) (hs : ∀ x, (c x).length = s) (L : List α) (n : Nat) : (cat c L).take (n * s) = cat c (L.take n) := by
  induction n generalizing L with
  | zero => simp [cat]
  | succ n ih =>
    cases L with
    | nil => simp [cat]
    | cons x L =>
      rw [List.take_succ_cons]
      show (c x ++ cat c L).take _ = c x ++ cat c (L.take n)
      rw [Nat.succ_mul, Nat.add_comm, ← ih L, List.take_append, hs x, List.take_of_length_le (by rw [hs x]; omega), Nat.add_sub_cancel_left]
theorem outr_take {α : Type} (G : List α) (r : Nat) (x : α) (hx : G[G.length - 1]? = some x) : outr G r = (G.set r x).take (G.length - 1) := by
  unfold outr
  have hl : G.getLast? = G[G.length - 1]? := List.getLast?_eq_getElem?
  rw [hl, hx]
  simp [List.dropLast_eq_take]

set_option maxHeartbeats 1000000 in
theorem dropI (w0 w : World) (l : List Thing) (b : Nat) (cur : Array Value) (t : TypeId) (p : Nat) (v : Value) (n : Nat) (I : List Nat) (r : Nat) (h : Own w0 w (Cells b cur t :: Row 38 1 v (n + 1) (irow .u32 I) :: l)) (hl : I.length = n + 1) (hp : cur[p]? = some v) (hr : r < n + 1) (hn : n ≤ 1000000) :
    Calls Tryz.prog 241 #[.pointer (some ⟨b, p, none⟩), .int .i64 (r : Int)] w fun e w' => e = .returned (.tuple #[]) ∧ ∃ g cap, Own w0 w' (Cells b (cur.setIfInBounds p (.slice (some ⟨g, 0, none⟩) n cap)) t :: Row 38 1 (.slice (some ⟨g, 0, none⟩) n cap) n (irow .u32 (outr I r)) :: l) := by
  obtain ⟨g, cap, rfl, _⟩ := row_shape h.two.row (by omega)
  have hcap := (row_cap h.two.row).2
  have q := h.cell p
  rw [hp] at q
  have zq := h.froz p
  have hgb : g ≠ b := by
    have := h.ne
    simpa [Value.ownBlock] using this
  have hgb' : b ≠ g := fun e => hgb e.symm
  obtain ⟨x, hx⟩ : ∃ x, I[n]? = some x := ⟨_, List.getElem?_eq_getElem (by omega)⟩
  obtain ⟨y, hy⟩ : ∃ y, I[r]? = some y := ⟨_, List.getElem?_eq_getElem (by omega)⟩
  have c1 := h.two.row.cellAt n (by omega)
  rw [getElem?_irow, hx] at c1
  have c2 := h.two.row.cellAt r (by omega)
  rw [getElem?_irow, hy] at c2
  simp only [Option.map_some] at c1 c2
  have zr : w.frozen? ⟨g, r, none⟩ = false := h.two.row.frozenAt r
  have hcap2 : n ≤ cap := by omega
  have hcap3 : ¬ cap = 0 := by omega
  have hr' : (r : Int) < (n : Int) + 1 := by omega
  have HF : Hid (Own w0 ((w.setCell ⟨g, r, none⟩ (.int .u32 (x : Int))).setCell ⟨b, p, none⟩ (.slice (some ⟨g, 0, none⟩) n cap)) (Cells b (cur.setIfInBounds p (.slice (some ⟨g, 0, none⟩) n cap)) t :: Row 38 1 (.slice (some ⟨g, 0, none⟩) n cap) n (irow .u32 (outr I r)) :: l)) := by
    have h1 := ((h.two.setR r (.int .u32 (x : Int))).cut (m := n) (by omega)).two.setC p (.slice (some ⟨g, 0, none⟩) n cap)
    have e : (irow .u32 (outr I r)) = ((irow .u32 I).set r (.int .u32 (x : Int))).take (n * 1) := by
      rw [outr_take I r x (by rw [hl]; exact hx), ← irow_set, Nat.mul_one, hl, ← irow_take]; rfl
    rw [e]; exact h1
  clear h hp hx hy
  go_enter Tryz.func241, Tryz.ntmps241
  go_wp2
  go_region
  all_goals
    go_wp2
    go_end0
    exact ⟨rfl, g, cap, HF.out.drew⟩
end Go.Proofs.YtflmgilmbppieaaGreatDoor
