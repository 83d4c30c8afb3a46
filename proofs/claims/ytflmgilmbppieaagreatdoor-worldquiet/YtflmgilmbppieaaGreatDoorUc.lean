/-
  Package table: columns of fields that lose a row; New, Len, Mask, Row, has, comp, IDs.
-/
import Derived.Test.YtflmgilmbppieaaGreatDoorUb
import Derived.Laws.BitsAllLaws
import Derived.Carry
namespace Go.Proofs.YtflmgilmbppieaaGreatDoor
open Go.RowKit Go.Maps
set_option linter.unusedVariables false
set_option maxRecDepth 100000

theorem fcell {w0 w : World} {l : List Thing} {g n cap : Nat} {G : List Fs} (h : Own w0 w (Row 44 3 (.slice (some ⟨g, 0, none⟩) n cap) G.length (cat fc G) :: l)) (i : Nat) (x : Fs) (hx : G[i]? = some x) :
    w.cell? ⟨g, i * 3, none⟩ = some (.int .i32 x.1) ∧ w.cell? ⟨g, i * 3 + 1, none⟩ = some (.int .i32 x.2.1) ∧ w.cell? ⟨g, i * 3 + 2, none⟩ = some (.int .i32 x.2.2) := by
  have hn := (row_cap h.row).1
  subst hn
  have hi := (List.getElem?_eq_some_iff.1 hx).1
  refine ⟨?_, ?_, ?_⟩
  · rw [h.row.cellAt _ (by omega)]
    exact (cat_at fc 3 fc_len G i 0 x hx (by decide)).trans rfl
  · rw [h.row.cellAt _ (by omega)]
    exact (cat_at fc 3 fc_len G i 1 x hx (by decide)).trans rfl
  · rw [h.row.cellAt _ (by omega)]
    exact (cat_at fc 3 fc_len G i 2 x hx (by decide)).trans rfl

set_option maxHeartbeats 1000000 in
theorem dropF (w0 w : World) (l : List Thing) (b : Nat) (cur : Array Value) (t : TypeId) (p : Nat) (v : Value) (n : Nat) (G : List Fs) (r : Nat) (h : Own w0 w (Cells b cur t :: Row 44 3 v G.length (cat fc G) :: l)) (hl : G.length = n + 1) (hp : cur[p]? = some v) (hr : r < n + 1) (hn : n ≤ 1000000) :
    Calls Tryz.prog 242 #[.pointer (some ⟨b, p, none⟩), .int .i64 (r : Int)] w fun e w' => e = .returned (.tuple #[]) ∧ ∃ g cap, Own w0 w' (Cells b (cur.setIfInBounds p (.slice (some ⟨g, 0, none⟩) n cap)) t :: Row 44 3 (.slice (some ⟨g, 0, none⟩) n cap) n (cat fc (outr G r)) :: l) := by
  obtain ⟨g, cap, rfl, _⟩ := row_shape h.two.row (by omega)
  have hcap := (row_cap h.two.row).2
  have q := h.cell p
  rw [hp] at q
  have zq := h.froz p
  have hgb : g ≠ b := by
    have := h.ne
    simpa [Value.ownBlock] using this
  have hgb' : b ≠ g := fun e => hgb e.symm
  obtain ⟨x, hx⟩ : ∃ x, G[n]? = some x := ⟨_, List.getElem?_eq_getElem (by omega)⟩
  obtain ⟨y, hy⟩ : ∃ y, G[r]? = some y := ⟨_, List.getElem?_eq_getElem (by omega)⟩
  obtain ⟨c0, c1, c2⟩ := fcell h.two n x hx
  obtain ⟨d0, d1, d2⟩ := fcell h.two r y hy
  have z0 : w.frozen? ⟨g, r * 3, none⟩ = false := h.two.row.frozenAt _
  have z1 : w.frozen? ⟨g, r * 3 + 1, none⟩ = false := h.two.row.frozenAt _
  have z2 : w.frozen? ⟨g, r * 3 + 2, none⟩ = false := h.two.row.frozenAt _
  have hcap2 : n ≤ cap := by omega
  have hcap3 : ¬ cap = 0 := by omega
  have hr' : (r : Int) < (n : Int) + 1 := by omega
  obtain ⟨x0, x1, x2⟩ := x
  simp only at c0 c1 c2
  have HF : Hid (Own w0 ((((w.setCell ⟨g, r * 3, none⟩ (.int .i32 x0)).setCell ⟨g, r * 3 + 1, none⟩ (.int .i32 x1)).setCell ⟨g, r * 3 + 2, none⟩ (.int .i32 x2)).setCell ⟨b, p, none⟩ (.slice (some ⟨g, 0, none⟩) n cap)) (Cells b (cur.setIfInBounds p (.slice (some ⟨g, 0, none⟩) n cap)) t :: Row 44 3 (.slice (some ⟨g, 0, none⟩) n cap) n (cat fc (outr G r)) :: l)) := by
    have h0 := h.two
    rw [hl] at h0
    have h1 := ((((h0.setR (r * 3) (.int .i32 x0)).setR (r * 3 + 1) (.int .i32 x1)).setR (r * 3 + 2) (.int .i32 x2)).cut (m := n) (by omega)).two.setC p (.slice (some ⟨g, 0, none⟩) n cap)
    have e : cat fc (outr G r) = ((((cat fc G).set (r * 3) (.int .i32 x0)).set (r * 3 + 1) (.int .i32 x1)).set (r * 3 + 2) (.int .i32 x2)).take (n * 3) := by
      have e1 := cat_set3 G r (x0, x1, x2)
      rw [if_pos (by omega)] at e1
      rw [outr_take G r (x0, x1, x2) (by rw [hl]; exact hx), ← cat_take fc 3 fc_len, e1, hl]; rfl
    rw [e]; exact h1
  rw [hl] at q
  clear h hp hx hy
  go_enter Tryz.func242, Tryz.ntmps242
  go_wp2
  go_region
  all_goals
    go_wp2
    go_end0
    exact ⟨rfl, g, cap, HF.out.drew⟩

theorem has_bit (m k : Nat) (hm : m < 64) : (bits .and .u8 ((m : Int) / 2 ^ min k 8) 1 == 1) = bt m k := by
  have h1 : ((m : Int) / 2 ^ min k 8) = ((m / 2 ^ min k 8 : Nat) : Int) := by simp
  have h2 : m / 2 ^ min k 8 < 256 := Nat.lt_of_le_of_lt (Nat.div_le_self _ _) (by omega)
  have h3 := u8_and_nat (m / 2 ^ min k 8) 1 h2 (by decide)
  rw [h1]
  show (bits .and .u8 ((m / 2 ^ min k 8 : Nat) : Int) ((1 : Nat) : Int) == 1) = _
  rw [h3, Nat.and_one_is_mod]
  have e : m / 2 ^ min k 8 = m / 2 ^ k := by
    rcases Nat.le_total k 8 with q | q
    · rw [Nat.min_eq_left q]
    · rw [Nat.min_eq_right q]
      have a1 : 2 ^ 8 ≤ 2 ^ k := Nat.pow_le_pow_right (by decide) q
      rw [Nat.div_eq_of_lt (by omega : m < 2 ^ 8), Nat.div_eq_of_lt (by omega)]
  rw [e]
  unfold bt
  generalize m / 2 ^ k = z
  rcases Nat.mod_two_eq_zero_or_one z with q | q <;> rw [q] <;> rfl
section
variable (w0 w : World) (l : List Thing) (b m : Nat) (I : List Nat) (g : Nat → List Fs) (p : Nat → Option Nat) (c : Nat)
theorem TabG.open (h : Own w0 w (TabG b m I g p c :: l)) : ∃ vi v mb, Own w0 w (Cells b (tcells m vi v mb) 321 :: Row 38 1 vi I.length (irow .u32 I) :: RowMap mb c p :: (cols (colT v g) ++ l)) := by
  obtain ⟨⟨vi, v, mb⟩, h⟩ := Own.ex_iff.1 h
  exact ⟨vi, v, mb, h⟩
theorem TabG.shut (vi : Value) (v : Nat → Value) (mb : Nat) (h : Own w0 w (Cells b (tcells m vi v mb) 321 :: Row 38 1 vi I.length (irow .u32 I) :: RowMap mb c p :: (cols (colT v g) ++ l))) : Own w0 w (TabG b m I g p c :: l) :=
  Own.ex_iff.2 ⟨⟨vi, v, mb⟩, h⟩

set_option maxHeartbeats 400000 in
theorem tnew (h : Own w0 w l) (hm : m < 64) :
    Calls Tryz.prog 245 #[.int .u8 (m : Int)] w fun e w' => ∃ b, e = .returned (.tuple #[.pointer (some ⟨b, 0, none⟩), .int .i64 0]) ∧ Own w0 w' (Table b m [] 0 :: l) := by
  have H : Hid (Own w0 w l) := h
  have hm' : ¬ (64 : Int) ≤ (m : Int) := by omega
  have hmm := @run_makeMap Tryz.prog
  clear h
  go_enter Tryz.func245, Tryz.ntmps245
  go_wp2
  go_ret2
  refine ⟨_, rfl, TabG.shut _ _ _ _ _ _ _ _ _ (.slice none 0 0) (fun _ => .slice none 0 0) w.heap.size ?_⟩
  have h1 := (H.out.mapNew.allocC (tcells m (.slice none 0 0) (fun _ => .slice none 0 0) w.heap.size) 321)
  have hs1 : (w.alloc (.map #[] 0)).heap.size = w.heap.size + 1 := by simp
  rw [hs1] at h1
  have h2 : Own w0 _ (RowMap w.heap.size 0 (plc []) :: Cells (w.heap.size + 1) (tcells m (.slice none 0 0) (fun _ => .slice none 0 0) w.heap.size) 321 :: l) := h1.two.mapIs (q := plc []) 0 (Nat.le_refl _) (fun x _ => by simp [plc])
  have e : ∀ k, colT (fun _ => .slice none 0 0) (clm m []) k = Row 44 3 (.slice none 0 0) 0 [] := by intro k; simp [colT, clm, cat]
  have h3 := ((((((h2.nilRow 44 3).nilRow 44 3).nilRow 44 3).nilRow 44 3).nilRow 44 3).nilRow 44 3).nilRow 38 1
  unfold cols
  simp only [e]
  refine h3.perm ?_
  simp only [ids, List.map_nil, List.length_nil, irow, List.cons_append, List.nil_append]
  refine List.Perm.trans ?_ (List.perm_middle (l₁ := [Row 38 1 (.slice none 0 0) 0 [], RowMap w.heap.size 0 (plc []), Row 44 3 (.slice none 0 0) 0 [], Row 44 3 (.slice none 0 0) 0 [], Row 44 3 (.slice none 0 0) 0 [], Row 44 3 (.slice none 0 0) 0 [], Row 44 3 (.slice none 0 0) 0 [], Row 44 3 (.slice none 0 0) 0 []]))
  refine List.Perm.cons _ ?_
  exact List.perm_middle (l₁ := [Row 44 3 (.slice none 0 0) 0 [], Row 44 3 (.slice none 0 0) 0 [], Row 44 3 (.slice none 0 0) 0 [], Row 44 3 (.slice none 0 0) 0 [], Row 44 3 (.slice none 0 0) 0 [], Row 44 3 (.slice none 0 0) 0 []])
set_option maxHeartbeats 400000 in
theorem tnewno (hm : 64 ≤ m) : Calls Tryz.prog 245 #[.int .u8 (m : Int)] w fun e w' => e = .returned (.tuple #[.pointer none, .int .i64 1]) ∧ w' = w := by
  have hm' : (64 : Int) ≤ (m : Int) := by omega
  go_enter Tryz.func245, Tryz.ntmps245
  go_wp2
  go_ret2
  exact ⟨rfl, rfl⟩
set_option maxHeartbeats 400000 in
theorem tlen (h : Own w0 w (TabG b m I g p c :: l)) :
    Calls Tryz.prog 210 #[.pointer (some ⟨b, 0, none⟩)] w fun e w' => e = .returned (.int .i64 (I.length : Int)) ∧ w' = w := by
  obtain ⟨vi, v, mb, h⟩ := TabG.open _ _ _ _ _ _ _ _ _ h
  obtain ⟨ao, cap, rfl⟩ := row_any h.two.row
  have q := h.cell 1
  simp [tcells] at q
  clear h
  go_enter Tryz.func210, Tryz.ntmps210
  go_wp2
  go_ret
  exact ⟨rfl, rfl⟩
set_option maxHeartbeats 400000 in
theorem tmask (h : Own w0 w (TabG b m I g p c :: l)) :
    Calls Tryz.prog 211 #[.pointer (some ⟨b, 0, none⟩)] w fun e w' => e = .returned (.int .u8 (m : Int)) ∧ w' = w := by
  obtain ⟨vi, v, mb, h⟩ := TabG.open _ _ _ _ _ _ _ _ _ h
  have q := h.cell 0
  simp [tcells] at q
  clear h
  go_enter Tryz.func211, Tryz.ntmps211
  go_wp2
  go_ret
  exact ⟨rfl, rfl⟩
set_option maxHeartbeats 400000 in
theorem trow (h : Own w0 w (TabG b m I g p c :: l)) (id : Nat) (hid : id < 4294967296) :
    Calls Tryz.prog 181 #[.pointer (some ⟨b, 0, none⟩), .int .u32 (id : Int)] w fun e w' => e = .returned (lk (p id)) ∧ w' = w := by
  obtain ⟨vi, v, mb, h⟩ := TabG.open _ _ _ _ _ _ _ _ _ h
  have q := h.cell 8
  simp [tcells] at q
  have hl := h.three.mapLook id hid
  clear h
  cases hp : p id with
  | none =>
    rw [hp] at hl
    simp only [lk] at hl ⊢
    go_enter Tryz.func181, Tryz.ntmps181
    go_wp2
    go_ret2
    exact ⟨rfl, rfl⟩
  | some r =>
    rw [hp] at hl
    simp only [lk] at hl ⊢
    go_enter Tryz.func181, Tryz.ntmps181
    go_wp2
    go_ret2
    exact ⟨rfl, rfl⟩
set_option maxHeartbeats 400000 in
theorem thas (h : Own w0 w (TabG b m I g p c :: l)) (k : Nat) (hk : k < 256) (hm : m < 64) :
    Calls Tryz.prog 207 #[.pointer (some ⟨b, 0, none⟩), .int .u8 (k : Int)] w fun e w' => e = .returned (.bool (bt m k)) ∧ w' = w := by
  obtain ⟨vi, v, mb, h⟩ := TabG.open _ _ _ _ _ _ _ _ _ h
  have q := h.cell 0
  simp [tcells] at q
  clear h
  go_enter Tryz.func207, Tryz.ntmps207
  go_wp2
  go_ret
  refine ⟨?_, rfl⟩
  show Ending.returned (.bool (bits .and .u8 ((m : Int) / 2 ^ min k 8) 1 == 1)) = _
  rw [has_bit m k hm]
set_option maxHeartbeats 1000000 in
theorem tcomp (xx : Value × (Nat → Value) × Nat) (h : Own w0 w (TabX b m I g p c xx :: l)) (k : Nat) (hk : k < 6) (r : Nat) (x : Fs) (hx : (g k)[r]? = some x) :
    Calls Tryz.prog 208 #[.pointer (some ⟨b, 0, none⟩), .int .i64 (r : Int), .int .u8 (k : Int)] w fun e w' => e = .returned (.agg #[.int .u8 (k : Int), .int .i32 x.1, .int .i32 x.2.1, .int .i32 x.2.2]) ∧ Own w0 w' (TabX b m I g p c xx :: l) := by
  obtain ⟨vi, v, mb⟩ := xx
  obtain ⟨_, h⟩ := Own.ex_iff.1 h
  replace h : Own w0 w (Cells b (tcells m vi v mb) 321 :: Row 38 1 vi I.length (irow .u32 I) :: RowMap mb c p :: (cols (colT v g) ++ l)) := h
  have hA := h.allocC #[.int .u8 0, .int .i32 0, .int .i32 0, .int .i32 0] 46
  have z0 := hA.cell 0
  have z1 := hA.cell 1
  have z2 := hA.cell 2
  have z3 := hA.cell 3
  simp at z0 z1 z2 z3
  have y0 := hA.froz 0
  have y1 := hA.froz 1
  have y2 := hA.froz 2
  have y3 := hA.froz 3
  have hb := h.lt
  have hbn : b ≠ w.heap.size := by omega
  have hbn' : w.heap.size ≠ b := by omega
  have hc := hA.two.cell (2 + k)
  rw [tcells_col m vi v mb k hk] at hc
  have hrl : r < (g k).length := (List.getElem?_eq_some_iff.1 hx).1
  have hR := (Own.col k hk h).two
  obtain ⟨gg, cap, hv, _⟩ := row_shape hR.row (by omega)
  rw [hv] at hc
  unfold colT at hR
  rw [hv] at hR
  obtain ⟨c0, c1, c2⟩ := fcell (hR.alloc (.cells #[.int .u8 0, .int .i32 0, .int .i32 0, .int .i32 0] 46)) r x hx
  have hgg : gg < w.heap.size := (hR.row.lt gg rfl).2
  have hgn : gg ≠ w.heap.size := by omega
  have hgn' : w.heap.size ≠ gg := by omega
  obtain ⟨x0, x1, x2⟩ := x
  simp only at c0 c1 c2 ⊢
  have hk' : (k : Int) < 6 := by omega
  have hrl' : (r : Int) < ((g k).length : Int) := by omega
  have HF : Hid (Own w0 (w.alloc (.cells #[.int .u8 (k : Int), .int .i32 x0, .int .i32 x1, .int .i32 x2] 46)) (Cells w.heap.size #[.int .u8 (k : Int), .int .i32 x0, .int .i32 x1, .int .i32 x2] 46 :: TabX b m I g p c (vi, v, mb) :: l)) := by
    have h1 := h.allocC #[.int .u8 (k : Int), .int .i32 x0, .int .i32 x1, .int .i32 x2] 46
    exact Own.ex2.2 ⟨(), h1⟩
  generalize (g k).length = gl at *
  clear h hA hR hx hv
  go_enter Tryz.func208, Tryz.ntmps208
  go_wp2
  (try simp only [Exit.inBlock, Exit.then])
  refine bodyPost_ret (v := .agg #[.int .u8 (k : Int), .int .i32 x0, .int .i32 x1, .int .i32 x2]) ?_ rfl ⟨rfl, HF.out.tail⟩
  have r0 := HF.out.cell 0
  have r1 := HF.out.cell 1
  have r2 := HF.out.cell 2
  have r3 := HF.out.cell 3
  simp at r0 r1 r2 r3
  simp only [results]
  go_simp
end
end Go.Proofs.YtflmgilmbppieaaGreatDoor
