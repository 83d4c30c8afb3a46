/-
  The document's bag: Take.
-/
import Derived.Test.YtiphkndahoageaaNti
import Derived.Test.YtiphkndahoageaaNtf
namespace Go.Proofs.Ytiphkndahoageaa
open Go.RowKit
set_option linter.unusedVariables false

set_option maxHeartbeats 1000000 in
set_option maxRecDepth 100000 in
theorem rtake_of (w0 w : World) (l l2 : List Thing) (pv : Option Addr) (i : Int) (h : Own w0 w l)
    (hP : ∀ W l', Own w0 W (l ++ l') → Calls Try.prog 17 #[.pointer pv, .int .i64 i] W fun e w' => e = .returned (.tuple #[.agg #[.int .i64 0, .slice none 0 0], .int .i64 10]) ∧ Own w0 w' (l ++ l')) :
    Calls Try.prog 14 #[.pointer pv, .int .i64 i] w fun e w' => e = .returned (.tuple #[.agg #[.int .i64 0, .slice none 0 0], .int .i64 10]) ∧ Own w0 w' l := by
  have hA := h.allocC #[.int .i64 0, .slice none 0 0] 33
  have hA2 : Own w0 _ (l ++ [Cells w.heap.size #[.int .i64 0, .slice none 0 0] 33]) := hA.perm (List.perm_append_comm (l₁ := [_]) (l₂ := l))
  have HP : Hid (Calls _ _ _ _ _) := hP _ _ hA2
  clear h hP hA hA2
  go_enter Try.func14, Try.ntmps14
  go_wp2_with fail
  refine HP.out.mono ?_
  rintro e w1 ⟨rfl, hO⟩
  have hO := hO.perm (List.perm_append_comm (l₁ := l) (l₂ := [_]))
  have hO : Own w0 w1 (Cells w.heap.size #[.int .i64 0, .slice none 0 0] 33 :: l) := hO
  have z0 := hO.cell 0
  have z1 := hO.cell 1
  simp at z0 z1
  have y0 := hO.froz 0
  have y1 := hO.froz 1
  have hlt := hO.lt
  have n1 : w1.heap.size ≠ w.heap.size := by omega
  have HF : Hid (Own w0 _ _) := (((hO.setC 0 (.int .i64 0)).setC 1 (.slice none 0 0)).alloc (.cells #[.int .i64 0, .slice none 0 0] 33))
  clear hO HP
  go_wp2
  (try simp only [Exit.inBlock, Exit.then])
  refine bodyPost_ret (v := .tuple #[.agg #[.int .i64 0, .slice none 0 0], .int .i64 10]) ?_ rfl ⟨rfl, HF.out.tail⟩
  rw [results_cell_tmp rfl]
  have r0 := HF.out.cell 0
  have r1 := HF.out.cell 1
  simp at r0 r1
  go_simp
theorem rtake_no (w0 w : World) (l : List Thing) (b N : Nat) (E : List Gr) (h : Own w0 w (BagT 48 b N E :: l)) (i : Int) (hi : ¬ (0 ≤ i ∧ i < (E.length : Int))) :
    Calls Try.prog 14 #[.pointer (some ⟨b, 0, none⟩), .int .i64 i] w fun e w' => e = .returned (.tuple #[.agg #[.int .i64 0, .slice none 0 0], .int .i64 10]) ∧ Own w0 w' (BagT 48 b N E :: l) :=
  rtake_of w0 w _ [] _ i h (fun W l' hW => rpeek_no w0 W _ b N E hW i hi)
theorem rtake_nil (w0 w : World) (l : List Thing) (h : Own w0 w l) (i : Int) :
    Calls Try.prog 14 #[.pointer none, .int .i64 i] w fun e w' => e = .returned (.tuple #[.agg #[.int .i64 0, .slice none 0 0], .int .i64 10]) ∧ Own w0 w' l :=
  rtake_of w0 w _ [] _ i h (fun W l' hW => rpeek_nil w0 W _ hW i)

set_option maxHeartbeats 4000000 in
set_option maxRecDepth 100000 in
theorem rtake_ok (w0 w : World) (l : List Thing) (b N : Nat) (E : List Gr) (h : Own w0 w (BagT 48 b N E :: l)) (hE : E.length ≤ 2048) (m : Nat) (x : Gr) (hx : E[m]? = some x) :
    Calls Try.prog 14 #[.pointer (some ⟨b, 0, none⟩), .int .i64 (m : Int)] w fun e w' => e = .returned (.tuple #[.agg #[.int .i64 x.to, .slice x.ao x.P.length x.cap], .int .i64 0]) ∧ Own w0 w' (gfr x :: BagT 48 b N (E.eraseIdx m) :: l) := by
  obtain ⟨i0, hi0, hz0, hz1, hz2⟩ := info_parts Try.infoO
  have hm : m < E.length := (List.getElem?_eq_some_iff.1 hx).1
  have hA := h.allocC #[.int .i64 0, .slice none 0 0] 33
  have HP : Hid (Calls _ _ _ _ _) := rpeek_ok w0 _ _ b N E hA.two m x hx
  have HEND : Hid (∀ W lv' R l', Own w0 W (Cells b #[.int .i64 (N : Int), lv'] 48 :: Row 33 2 lv' (m + (E.length - (m + 1))) (cat gel (E.take m) ++ cat gel (E.drop (m + 1))) :: R :: (gfs E ++ l')) → Own w0 W (gfr x :: BagT 48 b N (E.eraseIdx m) :: l')) := by
    intro W lv' R l' hW
    refine Own.ex2.2 ⟨lv', ?_⟩
    have hW := hW.three.tail
    rw [List.length_eraseIdx, if_pos hm, gfs_erase, erase_at, cat_append]
    rw [gfs_split E m x hx, show m + (E.length - (m + 1)) = E.length - 1 by omega] at hW
    show Own w0 W (gfr x :: _ :: _ :: ((gfs (E.take m) ++ gfs (E.drop (m + 1))) ++ l'))
    rw [List.append_assoc]
    rw [List.append_assoc, List.cons_append] at hW
    exact (hW.perm (List.Perm.cons _ (List.Perm.cons _ List.perm_middle))).three
  clear h hA hx
  obtain ⟨xa, xc, xt, xP⟩ := x
  simp only at *
  generalize xP.length = xn at *
  obtain ⟨len, hlen⟩ : ∃ len, len = E.length := ⟨_, rfl⟩
  obtain ⟨j, hj⟩ : ∃ j, j = m + 1 := ⟨_, rfl⟩
  have hw : IntKind.i64.wrap ((m : Int) + 1) = (j : Int) := by rw [hj, wrap_in _ (by omega)]; omega
  rw [← hj, ← hlen] at HEND
  have HJ : Hid (j = m + 1 ∧ len = E.length) := ⟨hj, hlen⟩
  have hjl : j ≤ len := by omega
  have hll : len ≤ 2048 := by omega
  have hm2 : m ≤ len := by omega
  clear hj hlen hm hE
  go_enter Try.func14, Try.ntmps14
  go_wp2_with fail
  refine HP.out.mono ?_
  rintro e w1 ⟨rfl, hO⟩
  clear HP
  have hO := hO.allocC #[.int .i64 xt, .slice xa xn xc] 33
  go_wp2_with fail
  generalize hW1 : w1.alloc (.cells #[.int .i64 xt, .slice xa xn xc] 33) = W at *
  have hb6 : w1.heap.size < W.heap.size := by rw [← hW1]; simp
  clear hW1
  generalize w1.heap.size = b6 at *
  have hO := hO.two
  obtain ⟨lv, hO⟩ := Own.ex_iff.1 hO
  obtain ⟨la, lc, rfl⟩ := row_any hO.two.row
  obtain ⟨g, lc', hv, _⟩ := row_shape hO.two.row (by have := HJ.out; omega)
  obtain ⟨rfl, _, rfl⟩ := Value.slice.inj hv
  obtain ⟨hlc, hcm⟩ := (row_cap hO.two.row).2
  unfold maxLen at hcm
  rw [← HJ.out.2] at hO hlc
  obtain ⟨A, hA⟩ : ∃ A : Addr, A = if lc = j then ⟨g, 0, none⟩ else ⟨g, j * 2, none⟩ := ⟨_, rfl⟩
  have hA' : (if lc = j then some (⟨g, 0, none⟩ : Addr) else some ⟨g, j * 2, none⟩) = some A := by rw [hA]; split <;> rfl
  have hm1 : m ≤ lc := by omega
  have hj1 : j ≤ lc := by omega
  have hc0 : ¬ lc = 0 := by have := HJ.out; omega
  have q1 := hO.cell 1
  simp at q1
  have f1 := (hO.alloc (.cells #[] 33)).cell 1
  simp only [List.getElem?_toArray, List.getElem?_cons_zero, List.getElem?_cons_succ] at f1
  have n1 : W.heap.size ≠ b := by have := hO.lt; omega
  have HX : Hid (Own w0 (W.drew.alloc (.cells #[] 33)) (Row 33 2 (.slice (some ⟨W.heap.size, 0, none⟩) 0 0) 0 [] :: Cells b #[.int .i64 (N : Int), .slice (some ⟨g, 0, none⟩) len lc] 48 :: Row 33 2 (.slice (some ⟨g, 0, none⟩) len lc) len (cat gel E) :: (gfs E ++ _))) := hO.drew.litRow #[] 33 2 0 (by decide) rfl
  have HR1 : Hid (m = 0 ∨ ∃ a, some (⟨g, 0, none⟩ : Addr) = some a ∧ ∀ q u, (cat gel (E.take m))[q]? = some u → (W.drew.alloc (.cells #[] 33)).cell? (a.add q) = some u) := by
    have := row_cut (HX.out.three.row) hm2
    rw [cat_take gel 2 gel_len] at this
    exact row_read this
  have HL1 : Hid ((cat gel (E.take m)).length = m * 2) := by show _ = _; rw [length_cat gel 2 gel_len, List.length_take, ← HJ.out.2]; omega
  have HL2 : Hid ((cat gel (E.drop j)).length = (len - j) * 2) := by show _ = _; rw [length_cat gel 2 gel_len, List.length_drop, ← HJ.out.2]
  have HR2 : Hid (∀ W' l', Own w0 W' (Row 33 2 (.slice (some ⟨g, 0, none⟩) len lc) len (cat gel E) :: l') → (len - j = 0 ∨ ∃ a, some A = some a ∧ ∀ q u, (cat gel (E.drop j))[q]? = some u → W'.cell? (a.add q) = some u)) := by
    intro W' l' hW'
    by_cases c : len - j = 0
    · exact .inl c
    · refine .inr ⟨A, rfl, fun q u hu => ?_⟩
      rw [← cat_drop gel 2 gel_len, List.getElem?_drop] at hu
      have hq := (List.getElem?_eq_some_iff.1 hu).1
      rw [hA, if_neg (by omega), addr_add, hW'.row.cellAt _ (by rw [← hW'.row.1]; exact hq)]
      exact hu
  clear hO hA hv
  go_wp2
  refine wp_region_held_drew (S := (fun w' : World => True)) (by kernel_rfl) trivial (fun hHeld => ?_)
  refine wpAnyH_take (i := 0) (oi := { dst := some 16, op := Op.move (Operand.tmp 0), type := 28, pos := "ref.go:47", after := #[], guard := none }) (v := ?_) rfl (by kernel_rfl) (by kernel_rfl) (by kernel_rfl) (fun _ _ _ h => h) (Or.inl ⟨by rfl, ?_⟩) (by assumption) ?_
  rotate_left
  · (intro wx hSw; (try dsimp only at hSw); go_simp; (try with_reducible rfl))
  (try simp only [Act.put, List.setIfInBounds_toArray, List.set_cons_zero, List.set_cons_succ])
  refine wpAnyH_take (i := 2) (oi := { dst := some 18, op := Op.move (Operand.tmp 0), type := 28, pos := "ref.go:47", after := #[], guard := none }) (v := ?_) rfl (by kernel_rfl) (by kernel_rfl) (by kernel_rfl) (fun _ _ _ h => h) (Or.inl ⟨by rfl, ?_⟩) (by assumption) ?_
  rotate_left
  · (intro wx hSw; (try dsimp only at hSw); go_simp; (try with_reducible rfl))
  (try simp only [Act.put, List.setIfInBounds_toArray, List.set_cons_zero, List.set_cons_succ])
  refine wpAnyH_take (i := 3) (oi := { dst := some 19, op := Op.nilCheck (Operand.tmp 18), type := 0, pos := "ref.go:47", after := #[{ on := 2, ground := Ground.data }], guard := none }) (v := ?_) rfl (by kernel_rfl) (by kernel_rfl) (by kernel_rfl) (fun _ _ _ h => h) (Or.inl ⟨by rfl, ?_⟩) (by assumption) ?_
  rotate_left
  · (intro wx hSw; (try dsimp only at hSw); go_simp; (try with_reducible rfl))
  (try simp only [Act.put, List.setIfInBounds_toArray, List.set_cons_zero, List.set_cons_succ])
  refine wpAnyH_take (i := 4) (oi := { dst := some 20, op := Op.fieldAddr 48 (Operand.tmp 19) 1, type := 0, pos := "ref.go:47", after := #[{ on := 3, ground := Ground.data }], guard := none }) (v := ?_) rfl (by kernel_rfl) (by kernel_rfl) (by kernel_rfl) (fun _ _ _ h => h) (Or.inl ⟨by rfl, ?_⟩) (by assumption) ?_
  rotate_left
  · (intro wx hSw; (try dsimp only at hSw); go_simp; (try with_reducible rfl))
  (try simp only [Act.put, List.setIfInBounds_toArray, List.set_cons_zero, List.set_cons_succ])
  refine wpAnyH_take (i := 6) (oi := { dst := some 22, op := Op.move (Operand.tmp 1), type := 3, pos := "ref.go:47", after := #[], guard := none }) (v := ?_) rfl (by kernel_rfl) (by kernel_rfl) (by kernel_rfl) (fun _ _ _ h => h) (Or.inl ⟨by rfl, ?_⟩) (by assumption) ?_
  rotate_left
  · (intro wx hSw; (try dsimp only at hSw); go_simp; (try with_reducible rfl))
  (try simp only [Act.put, List.setIfInBounds_toArray, List.set_cons_zero, List.set_cons_succ])
  refine wpAnyH_take (i := 9) (oi := { dst := some 25, op := Op.move (Operand.tmp 0), type := 28, pos := "ref.go:47", after := #[], guard := none }) (v := ?_) rfl (by kernel_rfl) (by kernel_rfl) (by kernel_rfl) (fun _ _ _ h => h) (Or.inl ⟨by rfl, ?_⟩) (by assumption) ?_
  rotate_left
  · (intro wx hSw; (try dsimp only at hSw); go_simp; (try with_reducible rfl))
  (try simp only [Act.put, List.setIfInBounds_toArray, List.set_cons_zero, List.set_cons_succ])
  refine wpAnyH_take (i := 10) (oi := { dst := some 26, op := Op.nilCheck (Operand.tmp 25), type := 0, pos := "ref.go:47", after := #[{ on := 9, ground := Ground.data }], guard := none }) (v := ?_) rfl (by kernel_rfl) (by kernel_rfl) (by kernel_rfl) (fun _ _ _ h => h) (Or.inl ⟨by rfl, ?_⟩) (by assumption) ?_
  rotate_left
  · (intro wx hSw; (try dsimp only at hSw); go_simp; (try with_reducible rfl))
  (try simp only [Act.put, List.setIfInBounds_toArray, List.set_cons_zero, List.set_cons_succ])
  refine wpAnyH_take (i := 11) (oi := { dst := some 27, op := Op.fieldAddr 48 (Operand.tmp 26) 1, type := 0, pos := "ref.go:47", after := #[{ on := 10, ground := Ground.data }], guard := none }) (v := ?_) rfl (by kernel_rfl) (by kernel_rfl) (by kernel_rfl) (fun _ _ _ h => h) (Or.inl ⟨by rfl, ?_⟩) (by assumption) ?_
  rotate_left
  · (intro wx hSw; (try dsimp only at hSw); go_simp; (try with_reducible rfl))
  (try simp only [Act.put, List.setIfInBounds_toArray, List.set_cons_zero, List.set_cons_succ])
  refine wpAnyH_take (i := 13) (oi := { dst := some 29, op := Op.move (Operand.tmp 1), type := 3, pos := "ref.go:47", after := #[], guard := none }) (v := ?_) rfl (by kernel_rfl) (by kernel_rfl) (by kernel_rfl) (fun _ _ _ h => h) (Or.inl ⟨by rfl, ?_⟩) (by assumption) ?_
  rotate_left
  · (intro wx hSw; (try dsimp only at hSw); go_simp; (try with_reducible rfl))
  (try simp only [Act.put, List.setIfInBounds_toArray, List.set_cons_zero, List.set_cons_succ])
  refine wpAnyH_take (i := 14) (oi := { dst := some 30, op := Op.binOp BinOp.add 3 (Operand.tmp 29) (Operand.const (Value.int IntKind.i64 1)) 3, type := 3, pos := "ref.go:47", after := #[{ on := 13, ground := Ground.data }], guard := none }) (v := ?_) rfl (by kernel_rfl) (by kernel_rfl) (by kernel_rfl) (fun _ _ _ h => h) (Or.inl ⟨by rfl, ?_⟩) (by assumption) ?_
  rotate_left
  · (intro wx hSw; (try dsimp only at hSw); go_simp; (try with_reducible rfl))
  (try simp only [Act.put, List.setIfInBounds_toArray, List.set_cons_zero, List.set_cons_succ])
  refine wpAnyH_ready (rs := [1, 5, 12]) (by kernel_rfl) (by simp) ?_
  refine AllReadyH.cons (o := { dst := some 17, op := Op.buildSlice 46 0 #[], type := 46, pos := "ref.go:47", after := #[], guard := none }) rfl (fun K hK => ?_) ?_
  · go_simp
    refine hK.out _ _ (by trivial) (fun hHeld2 => ?_)
    clear hHeld hK K
    have hHeld := hHeld2
    clear hHeld2
    (try simp only [Act.put, List.setIfInBounds_toArray, List.set_cons_zero, List.set_cons_succ])
    (try simp only [Nat.zero_add])
    refine wpAnyH_ready (rs := [5, 12]) (by kernel_rfl) (by simp) ?_
    refine AllReadyH.cons (o := { dst := some 21, op := Op.load 46 (Operand.tmp 20), type := 46, pos := "ref.go:47", after := #[{ on := 4, ground := Ground.data }], guard := none }) rfl (fun K hK => ?_) ?_
    · go_simp
      refine hK.out _ _ (by trivial) (fun hHeld2 => ?_)
      clear hHeld hK K
      have hHeld := hHeld2
      clear hHeld2
      (try simp only [Act.put, List.setIfInBounds_toArray, List.set_cons_zero, List.set_cons_succ])
      (try simp only [Nat.zero_add])
      refine wpAnyH_take (i := 7) (oi := { dst := some 23, op := Op.slice 46 (Operand.tmp 21) none (some (Operand.tmp 22)) none, type := 46, pos := "ref.go:47", after := #[{ on := 5, ground := Ground.data }, { on := 6, ground := Ground.data }], guard := none }) (v := ?_) rfl (by kernel_rfl) (by kernel_rfl) (by kernel_rfl) (fun _ _ _ h => h) (Or.inl ⟨by rfl, ?_⟩) (by assumption) ?_
      rotate_left
      · (intro wx hSw; (try dsimp only at hSw); go_simp; (try with_reducible rfl))
      (try simp only [Act.put, List.setIfInBounds_toArray, List.set_cons_zero, List.set_cons_succ])
      refine wpAnyH_ready (rs := [8, 12]) (by kernel_rfl) (by simp) ?_
      refine AllReadyH.cons (o := { dst := some 24, op := Op.call { callee := Callee.builtin Builtin.append, args := #[Operand.tmp 17, Operand.tmp 23], argTypes := #[46, 46] }, type := 46, pos := "ref.go:47", after := #[{ on := 1, ground := Ground.data }, { on := 7, ground := Ground.data }], guard := none }) rfl (fun K hK => ?_) ?_
      · refine step_readW rfl _ _ 46 rfl 33 i0 (.agg #[.int .i64 0, .slice none 0 0]) 2 32 Try.underlying46 hi0 hz0 hz1 hz2 rfl (by decide) _ _ _ rfl _ _ _ (cat gel (E.take m)) rfl HX.out HL1.out HR1.out (one_cat _ gel_one _) (by unfold maxLen; omega) (by omega) ?_
        intro ga ca wa hOa
        simp only [Nat.zero_add, List.nil_append] at hOa
        have a1 := (Own.two hOa).cell 1
        simp at a1
        have H6 : Hid (Own w0 wa _) := hOa
        clear hOa
        refine hK.out _ _ (by trivial) (fun hHeld2 => ?_)
        clear hHeld hK K
        have hHeld := hHeld2
        clear hHeld2
        (try simp only [Act.put, List.setIfInBounds_toArray, List.set_cons_zero, List.set_cons_succ])
        (try simp only [Nat.zero_add])
        refine wpAnyH_ready (rs := [12]) (by kernel_rfl) (by simp) ?_
        refine AllReadyH.cons (o := { dst := some 28, op := Op.load 46 (Operand.tmp 27), type := 46, pos := "ref.go:47", after := #[{ on := 11, ground := Ground.data }], guard := none }) rfl (fun K hK => ?_) AllReadyH.nil
        go_simp
        refine hK.out _ _ (by trivial) (fun hHeld2 => ?_)
        clear hHeld hK K
        have hHeld := hHeld2
        clear hHeld2
        (try simp only [Act.put, List.setIfInBounds_toArray, List.set_cons_zero, List.set_cons_succ])
        (try simp only [Nat.zero_add])
        refine wpAnyH_take (i := 15) (oi := { dst := some 31, op := Op.slice 46 (Operand.tmp 28) (some (Operand.tmp 30)) none none, type := 46, pos := "ref.go:47", after := #[{ on := 12, ground := Ground.data }, { on := 14, ground := Ground.data }], guard := none }) (v := ?_) rfl (by kernel_rfl) (by kernel_rfl) (by kernel_rfl) (fun _ _ _ h => h) (Or.inl ⟨by rfl, ?_⟩) (by assumption) ?_
        rotate_left
        · (intro wx hSw; (try dsimp only at hSw); go_simp; (try with_reducible rfl))
        (try simp only [Act.put, List.setIfInBounds_toArray, List.set_cons_zero, List.set_cons_succ])
        refine wpAnyH_ready (rs := [16]) (by kernel_rfl) (by simp) ?_
        refine AllReadyH.cons (o := { dst := some 32, op := Op.call { callee := Callee.builtin Builtin.append, args := #[Operand.tmp 24, Operand.tmp 31], argTypes := #[46, 46] }, type := 46, pos := "ref.go:47", after := #[{ on := 8, ground := Ground.data }, { on := 15, ground := Ground.data }, { on := 8, ground := Ground.chain }], guard := none }) rfl (fun K hK => ?_) AllReadyH.nil
        refine step_readW rfl _ _ 46 rfl 33 i0 (.agg #[.int .i64 0, .slice none 0 0]) 2 32 Try.underlying46 hi0 hz0 hz1 hz2 rfl (by decide) _ _ _ rfl _ _ _ (cat gel (E.drop j)) rfl H6.out HL2.out (HR2.out _ _ H6.out.three) (one_cat _ gel_one _) (by unfold maxLen; omega) (by omega) ?_
        intro gc cc wc hOc
        have t1 := (Own.two hOc).cell 1
        have t2 := (Own.two hOc).froz 1
        simp at t1
        refine hK.out _ _ (by trivial) (fun hHeld2 => ?_)
        clear hHeld hK K
        have hHeld := hHeld2
        clear hHeld2
        (try simp only [Act.put, List.setIfInBounds_toArray, List.set_cons_zero, List.set_cons_succ])
        (try simp only [Nat.zero_add])
        refine wpAnyH_take (i := 17) (oi := { dst := some 33, op := Op.nilCheck (Operand.tmp 16), type := 0, pos := "ref.go:47", after := #[{ on := 0, ground := Ground.data }, { on := 0, ground := Ground.phase }, { on := 1, ground := Ground.phase }, { on := 2, ground := Ground.phase }, { on := 3, ground := Ground.phase }, { on := 4, ground := Ground.phase }, { on := 5, ground := Ground.phase }, { on := 6, ground := Ground.phase }, { on := 7, ground := Ground.phase }, { on := 8, ground := Ground.phase }, { on := 9, ground := Ground.phase }, { on := 10, ground := Ground.phase }, { on := 11, ground := Ground.phase }, { on := 12, ground := Ground.phase }, { on := 13, ground := Ground.phase }, { on := 14, ground := Ground.phase }, { on := 15, ground := Ground.phase }, { on := 16, ground := Ground.phase }], guard := none }) (v := ?_) rfl (by kernel_rfl) (by kernel_rfl) (by kernel_rfl) (fun _ _ _ h => h) (Or.inl ⟨by rfl, ?_⟩) (by assumption) ?_
        rotate_left
        · (intro wx hSw; (try dsimp only at hSw); go_simp; (try with_reducible rfl))
        (try simp only [Act.put, List.setIfInBounds_toArray, List.set_cons_zero, List.set_cons_succ])
        refine wpAnyH_take (i := 18) (oi := { dst := some 34, op := Op.fieldAddr 48 (Operand.tmp 33) 1, type := 0, pos := "ref.go:47", after := #[{ on := 17, ground := Ground.data }, { on := 0, ground := Ground.phase }, { on := 1, ground := Ground.phase }, { on := 2, ground := Ground.phase }, { on := 3, ground := Ground.phase }, { on := 4, ground := Ground.phase }, { on := 5, ground := Ground.phase }, { on := 6, ground := Ground.phase }, { on := 7, ground := Ground.phase }, { on := 8, ground := Ground.phase }, { on := 9, ground := Ground.phase }, { on := 10, ground := Ground.phase }, { on := 11, ground := Ground.phase }, { on := 12, ground := Ground.phase }, { on := 13, ground := Ground.phase }, { on := 14, ground := Ground.phase }, { on := 15, ground := Ground.phase }, { on := 16, ground := Ground.phase }], guard := none }) (v := ?_) rfl (by kernel_rfl) (by kernel_rfl) (by kernel_rfl) (fun _ _ _ h => h) (Or.inl ⟨by rfl, ?_⟩) (by assumption) ?_
        rotate_left
        · (intro wx hSw; (try dsimp only at hSw); go_simp; (try with_reducible rfl))
        (try simp only [Act.put, List.setIfInBounds_toArray, List.set_cons_zero, List.set_cons_succ])
        refine wpAnyH_ready (rs := [19]) (by kernel_rfl) (by simp) ?_
        refine AllReadyH.cons (o := { dst := none, op := Op.store 46 (Operand.tmp 34) (Operand.tmp 32), type := 0, pos := "ref.go:47", after := #[{ on := 18, ground := Ground.data }, { on := 16, ground := Ground.data }, { on := 16, ground := Ground.chain }, { on := 0, ground := Ground.phase }, { on := 1, ground := Ground.phase }, { on := 2, ground := Ground.phase }, { on := 3, ground := Ground.phase }, { on := 4, ground := Ground.phase }, { on := 5, ground := Ground.phase }, { on := 6, ground := Ground.phase }, { on := 7, ground := Ground.phase }, { on := 8, ground := Ground.phase }, { on := 9, ground := Ground.phase }, { on := 10, ground := Ground.phase }, { on := 11, ground := Ground.phase }, { on := 12, ground := Ground.phase }, { on := 13, ground := Ground.phase }, { on := 14, ground := Ground.phase }, { on := 15, ground := Ground.phase }, { on := 16, ground := Ground.phase }], guard := none }) rfl (fun K hK => ?_) AllReadyH.nil
        go_simp
        refine hK.out _ _ (by trivial) (fun hHeld2 => ?_)
        clear hHeld hK K
        have hHeld := hHeld2
        clear hHeld2
        (try simp only [Act.put, List.setIfInBounds_toArray, List.set_cons_zero, List.set_cons_succ])
        (try simp only [Nat.zero_add])
        refine wpAnyH_done (by kernel_rfl) ?_ _
        have H9 : Hid (Own w0 (wc.setCell ⟨b, 1, none⟩ (.slice gc (m + (len - j)) cc)) _) := HEND.out _ (.slice gc (m + (len - j)) cc) _ _ ((Own.two hOc).setC 1 (.slice gc (m + (len - j)) cc))
        have d0 := H9.out.three.cell 0
        have d1 := H9.out.three.cell 1
        simp only [List.getElem?_toArray, List.getElem?_cons_zero, List.getElem?_cons_succ] at d0 d1
        have g0 := H9.out.four.cell 0
        have g1 := H9.out.four.cell 1
        simp only [List.getElem?_toArray, List.getElem?_cons_zero, List.getElem?_cons_succ] at g0 g1
        have z0 := H9.out.four.froz 0
        have z1 := H9.out.four.froz 1
        have HF : Hid (Own w0 _ _) := (H9.out.four.setC 0 (.int .i64 xt)).setC 1 (.slice xa xn xc)
        generalize wc.setCell ⟨b, 1, none⟩ (.slice gc (m + (len - j)) cc) = wd at *
        clear hOc H6 HEND HR2 HX HR1 t1 t2
        go_wp2
        (try simp only [Exit.inBlock, Exit.then])
        refine bodyPost_ret (v := .tuple #[.agg #[.int .i64 xt, .slice xa xn xc], .int .i64 0]) ?_ rfl ⟨rfl, ?_⟩
        · rw [results_cell_tmp rfl]
          have r0 := HF.out.cell 0
          have r1 := HF.out.cell 1
          simp at r0 r1
          go_simp
        · exact HF.out.tail.three.tail
      refine AllReadyH.cons (o := { dst := some 28, op := Op.load 46 (Operand.tmp 27), type := 46, pos := "ref.go:47", after := #[{ on := 11, ground := Ground.data }], guard := none }) rfl (fun K hK => ?_) AllReadyH.nil
      go_simp
      refine hK.out _ _ (by trivial) (fun hHeld2 => ?_)
      clear hHeld hK K
      have hHeld := hHeld2
      clear hHeld2
      (try simp only [Act.put, List.setIfInBounds_toArray, List.set_cons_zero, List.set_cons_succ])
      (try simp only [Nat.zero_add])
      refine wpAnyH_take (i := 15) (oi := { dst := some 31, op := Op.slice 46 (Operand.tmp 28) (some (Operand.tmp 30)) none none, type := 46, pos := "ref.go:47", after := #[{ on := 12, ground := Ground.data }, { on := 14, ground := Ground.data }], guard := none }) (v := ?_) rfl (by kernel_rfl) (by kernel_rfl) (by kernel_rfl) (fun _ _ _ h => h) (Or.inl ⟨by rfl, ?_⟩) (by assumption) ?_
      rotate_left
      · (intro wx hSw; (try dsimp only at hSw); go_simp; (try with_reducible rfl))
      (try simp only [Act.put, List.setIfInBounds_toArray, List.set_cons_zero, List.set_cons_succ])
      refine wpAnyH_ready (rs := [8]) (by kernel_rfl) (by simp) ?_
      refine AllReadyH.cons (o := { dst := some 24, op := Op.call { callee := Callee.builtin Builtin.append, args := #[Operand.tmp 17, Operand.tmp 23], argTypes := #[46, 46] }, type := 46, pos := "ref.go:47", after := #[{ on := 1, ground := Ground.data }, { on := 7, ground := Ground.data }], guard := none }) rfl (fun K hK => ?_) AllReadyH.nil
      refine step_readW rfl _ _ 46 rfl 33 i0 (.agg #[.int .i64 0, .slice none 0 0]) 2 32 Try.underlying46 hi0 hz0 hz1 hz2 rfl (by decide) _ _ _ rfl _ _ _ (cat gel (E.take m)) rfl HX.out HL1.out HR1.out (one_cat _ gel_one _) (by unfold maxLen; omega) (by omega) ?_
      intro ga ca wa hOa
      simp only [Nat.zero_add, List.nil_append] at hOa
      have a1 := (Own.two hOa).cell 1
      simp at a1
      have H6 : Hid (Own w0 wa _) := hOa
      clear hOa
      refine hK.out _ _ (by trivial) (fun hHeld2 => ?_)
      clear hHeld hK K
      have hHeld := hHeld2
      clear hHeld2
      (try simp only [Act.put, List.setIfInBounds_toArray, List.set_cons_zero, List.set_cons_succ])
      (try simp only [Nat.zero_add])
      refine wpAnyH_ready (rs := [16]) (by kernel_rfl) (by simp) ?_
      refine AllReadyH.cons (o := { dst := some 32, op := Op.call { callee := Callee.builtin Builtin.append, args := #[Operand.tmp 24, Operand.tmp 31], argTypes := #[46, 46] }, type := 46, pos := "ref.go:47", after := #[{ on := 8, ground := Ground.data }, { on := 15, ground := Ground.data }, { on := 8, ground := Ground.chain }], guard := none }) rfl (fun K hK => ?_) AllReadyH.nil
      refine step_readW rfl _ _ 46 rfl 33 i0 (.agg #[.int .i64 0, .slice none 0 0]) 2 32 Try.underlying46 hi0 hz0 hz1 hz2 rfl (by decide) _ _ _ rfl _ _ _ (cat gel (E.drop j)) rfl H6.out HL2.out (HR2.out _ _ H6.out.three) (one_cat _ gel_one _) (by unfold maxLen; omega) (by omega) ?_
      intro gc cc wc hOc
      have t1 := (Own.two hOc).cell 1
      have t2 := (Own.two hOc).froz 1
      simp at t1
      refine hK.out _ _ (by trivial) (fun hHeld2 => ?_)
      clear hHeld hK K
      have hHeld := hHeld2
      clear hHeld2
      (try simp only [Act.put, List.setIfInBounds_toArray, List.set_cons_zero, List.set_cons_succ])
      (try simp only [Nat.zero_add])
      refine wpAnyH_take (i := 17) (oi := { dst := some 33, op := Op.nilCheck (Operand.tmp 16), type := 0, pos := "ref.go:47", after := #[{ on := 0, ground := Ground.data }, { on := 0, ground := Ground.phase }, { on := 1, ground := Ground.phase }, { on := 2, ground := Ground.phase }, { on := 3, ground := Ground.phase }, { on := 4, ground := Ground.phase }, { on := 5, ground := Ground.phase }, { on := 6, ground := Ground.phase }, { on := 7, ground := Ground.phase }, { on := 8, ground := Ground.phase }, { on := 9, ground := Ground.phase }, { on := 10, ground := Ground.phase }, { on := 11, ground := Ground.phase }, { on := 12, ground := Ground.phase }, { on := 13, ground := Ground.phase }, { on := 14, ground := Ground.phase }, { on := 15, ground := Ground.phase }, { on := 16, ground := Ground.phase }], guard := none }) (v := ?_) rfl (by kernel_rfl) (by kernel_rfl) (by kernel_rfl) (fun _ _ _ h => h) (Or.inl ⟨by rfl, ?_⟩) (by assumption) ?_
      rotate_left
      · (intro wx hSw; (try dsimp only at hSw); go_simp; (try with_reducible rfl))
      (try simp only [Act.put, List.setIfInBounds_toArray, List.set_cons_zero, List.set_cons_succ])
      refine wpAnyH_take (i := 18) (oi := { dst := some 34, op := Op.fieldAddr 48 (Operand.tmp 33) 1, type := 0, pos := "ref.go:47", after := #[{ on := 17, ground := Ground.data }, { on := 0, ground := Ground.phase }, { on := 1, ground := Ground.phase }, { on := 2, ground := Ground.phase }, { on := 3, ground := Ground.phase }, { on := 4, ground := Ground.phase }, { on := 5, ground := Ground.phase }, { on := 6, ground := Ground.phase }, { on := 7, ground := Ground.phase }, { on := 8, ground := Ground.phase }, { on := 9, ground := Ground.phase }, { on := 10, ground := Ground.phase }, { on := 11, ground := Ground.phase }, { on := 12, ground := Ground.phase }, { on := 13, ground := Ground.phase }, { on := 14, ground := Ground.phase }, { on := 15, ground := Ground.phase }, { on := 16, ground := Ground.phase }], guard := none }) (v := ?_) rfl (by kernel_rfl) (by kernel_rfl) (by kernel_rfl) (fun _ _ _ h => h) (Or.inl ⟨by rfl, ?_⟩) (by assumption) ?_
      rotate_left
      · (intro wx hSw; (try dsimp only at hSw); go_simp; (try with_reducible rfl))
      (try simp only [Act.put, List.setIfInBounds_toArray, List.set_cons_zero, List.set_cons_succ])
      refine wpAnyH_ready (rs := [19]) (by kernel_rfl) (by simp) ?_
      refine AllReadyH.cons (o := { dst := none, op := Op.store 46 (Operand.tmp 34) (Operand.tmp 32), type := 0, pos := "ref.go:47", after := #[{ on := 18, ground := Ground.data }, { on := 16, ground := Ground.data }, { on := 16, ground := Ground.chain }, { on := 0, ground := Ground.phase }, { on := 1, ground := Ground.phase }, { on := 2, ground := Ground.phase }, { on := 3, ground := Ground.phase }, { on := 4, ground := Ground.phase }, { on := 5, ground := Ground.phase }, { on := 6, ground := Ground.phase }, { on := 7, ground := Ground.phase }, { on := 8, ground := Ground.phase }, { on := 9, ground := Ground.phase }, { on := 10, ground := Ground.phase }, { on := 11, ground := Ground.phase }, { on := 12, ground := Ground.phase }, { on := 13, ground := Ground.phase }, { on := 14, ground := Ground.phase }, { on := 15, ground := Ground.phase }, { on := 16, ground := Ground.phase }], guard := none }) rfl (fun K hK => ?_) AllReadyH.nil
      go_simp
      refine hK.out _ _ (by trivial) (fun hHeld2 => ?_)
      clear hHeld hK K
      have hHeld := hHeld2
      clear hHeld2
      (try simp only [Act.put, List.setIfInBounds_toArray, List.set_cons_zero, List.set_cons_succ])
      (try simp only [Nat.zero_add])
      refine wpAnyH_done (by kernel_rfl) ?_ _
      have H9 : Hid (Own w0 (wc.setCell ⟨b, 1, none⟩ (.slice gc (m + (len - j)) cc)) _) := HEND.out _ (.slice gc (m + (len - j)) cc) _ _ ((Own.two hOc).setC 1 (.slice gc (m + (len - j)) cc))
      have d0 := H9.out.three.cell 0
      have d1 := H9.out.three.cell 1
      simp only [List.getElem?_toArray, List.getElem?_cons_zero, List.getElem?_cons_succ] at d0 d1
      have g0 := H9.out.four.cell 0
      have g1 := H9.out.four.cell 1
      simp only [List.getElem?_toArray, List.getElem?_cons_zero, List.getElem?_cons_succ] at g0 g1
      have z0 := H9.out.four.froz 0
      have z1 := H9.out.four.froz 1
      have HF : Hid (Own w0 _ _) := (H9.out.four.setC 0 (.int .i64 xt)).setC 1 (.slice xa xn xc)
      generalize wc.setCell ⟨b, 1, none⟩ (.slice gc (m + (len - j)) cc) = wd at *
      clear hOc H6 HEND HR2 HX HR1 t1 t2
      go_wp2
      (try simp only [Exit.inBlock, Exit.then])
      refine bodyPost_ret (v := .tuple #[.agg #[.int .i64 xt, .slice xa xn xc], .int .i64 0]) ?_ rfl ⟨rfl, ?_⟩
      · rw [results_cell_tmp rfl]
        have r0 := HF.out.cell 0
        have r1 := HF.out.cell 1
        simp at r0 r1
        go_simp
      · exact HF.out.tail.three.tail
    refine AllReadyH.cons (o := { dst := some 28, op := Op.load 46 (Operand.tmp 27), type := 46, pos := "ref.go:47", after := #[{ on := 11, ground := Ground.data }], guard := none }) rfl (fun K hK => ?_) AllReadyH.nil
    go_simp
    refine hK.out _ _ (by trivial) (fun hHeld2 => ?_)
    clear hHeld hK K
    have hHeld := hHeld2
    clear hHeld2
    (try simp only [Act.put, List.setIfInBounds_toArray, List.set_cons_zero, List.set_cons_succ])
    (try simp only [Nat.zero_add])
    refine wpAnyH_take (i := 15) (oi := { dst := some 31, op := Op.slice 46 (Operand.tmp 28) (some (Operand.tmp 30)) none none, type := 46, pos := "ref.go:47", after := #[{ on := 12, ground := Ground.data }, { on := 14, ground := Ground.data }], guard := none }) (v := ?_) rfl (by kernel_rfl) (by kernel_rfl) (by kernel_rfl) (fun _ _ _ h => h) (Or.inl ⟨by rfl, ?_⟩) (by assumption) ?_
    rotate_left
    · (intro wx hSw; (try dsimp only at hSw); go_simp; (try with_reducible rfl))
    (try simp only [Act.put, List.setIfInBounds_toArray, List.set_cons_zero, List.set_cons_succ])
    refine wpAnyH_ready (rs := [5]) (by kernel_rfl) (by simp) ?_
    refine AllReadyH.cons (o := { dst := some 21, op := Op.load 46 (Operand.tmp 20), type := 46, pos := "ref.go:47", after := #[{ on := 4, ground := Ground.data }], guard := none }) rfl (fun K hK => ?_) AllReadyH.nil
    go_simp
    refine hK.out _ _ (by trivial) (fun hHeld2 => ?_)
    clear hHeld hK K
    have hHeld := hHeld2
    clear hHeld2
    (try simp only [Act.put, List.setIfInBounds_toArray, List.set_cons_zero, List.set_cons_succ])
    (try simp only [Nat.zero_add])
    refine wpAnyH_take (i := 7) (oi := { dst := some 23, op := Op.slice 46 (Operand.tmp 21) none (some (Operand.tmp 22)) none, type := 46, pos := "ref.go:47", after := #[{ on := 5, ground := Ground.data }, { on := 6, ground := Ground.data }], guard := none }) (v := ?_) rfl (by kernel_rfl) (by kernel_rfl) (by kernel_rfl) (fun _ _ _ h => h) (Or.inl ⟨by rfl, ?_⟩) (by assumption) ?_
    rotate_left
    · (intro wx hSw; (try dsimp only at hSw); go_simp; (try with_reducible rfl))
    (try simp only [Act.put, List.setIfInBounds_toArray, List.set_cons_zero, List.set_cons_succ])
    refine wpAnyH_ready (rs := [8]) (by kernel_rfl) (by simp) ?_
    refine AllReadyH.cons (o := { dst := some 24, op := Op.call { callee := Callee.builtin Builtin.append, args := #[Operand.tmp 17, Operand.tmp 23], argTypes := #[46, 46] }, type := 46, pos := "ref.go:47", after := #[{ on := 1, ground := Ground.data }, { on := 7, ground := Ground.data }], guard := none }) rfl (fun K hK => ?_) AllReadyH.nil
    refine step_readW rfl _ _ 46 rfl 33 i0 (.agg #[.int .i64 0, .slice none 0 0]) 2 32 Try.underlying46 hi0 hz0 hz1 hz2 rfl (by decide) _ _ _ rfl _ _ _ (cat gel (E.take m)) rfl HX.out HL1.out HR1.out (one_cat _ gel_one _) (by unfold maxLen; omega) (by omega) ?_
    intro ga ca wa hOa
    simp only [Nat.zero_add, List.nil_append] at hOa
    have a1 := (Own.two hOa).cell 1
    simp at a1
    have H6 : Hid (Own w0 wa _) := hOa
    clear hOa
    refine hK.out _ _ (by trivial) (fun hHeld2 => ?_)
    clear hHeld hK K
    have hHeld := hHeld2
    clear hHeld2
    (try simp only [Act.put, List.setIfInBounds_toArray, List.set_cons_zero, List.set_cons_succ])
    (try simp only [Nat.zero_add])
    refine wpAnyH_ready (rs := [16]) (by kernel_rfl) (by simp) ?_
    refine AllReadyH.cons (o := { dst := some 32, op := Op.call { callee := Callee.builtin Builtin.append, args := #[Operand.tmp 24, Operand.tmp 31], argTypes := #[46, 46] }, type := 46, pos := "ref.go:47", after := #[{ on := 8, ground := Ground.data }, { on := 15, ground := Ground.data }, { on := 8, ground := Ground.chain }], guard := none }) rfl (fun K hK => ?_) AllReadyH.nil
    refine step_readW rfl _ _ 46 rfl 33 i0 (.agg #[.int .i64 0, .slice none 0 0]) 2 32 Try.underlying46 hi0 hz0 hz1 hz2 rfl (by decide) _ _ _ rfl _ _ _ (cat gel (E.drop j)) rfl H6.out HL2.out (HR2.out _ _ H6.out.three) (one_cat _ gel_one _) (by unfold maxLen; omega) (by omega) ?_
    intro gc cc wc hOc
    have t1 := (Own.two hOc).cell 1
    have t2 := (Own.two hOc).froz 1
    simp at t1
    refine hK.out _ _ (by trivial) (fun hHeld2 => ?_)
    clear hHeld hK K
    have hHeld := hHeld2
    clear hHeld2
    (try simp only [Act.put, List.setIfInBounds_toArray, List.set_cons_zero, List.set_cons_succ])
    (try simp only [Nat.zero_add])
    refine wpAnyH_take (i := 17) (oi := { dst := some 33, op := Op.nilCheck (Operand.tmp 16), type := 0, pos := "ref.go:47", after := #[{ on := 0, ground := Ground.data }, { on := 0, ground := Ground.phase }, { on := 1, ground := Ground.phase }, { on := 2, ground := Ground.phase }, { on := 3, ground := Ground.phase }, { on := 4, ground := Ground.phase }, { on := 5, ground := Ground.phase }, { on := 6, ground := Ground.phase }, { on := 7, ground := Ground.phase }, { on := 8, ground := Ground.phase }, { on := 9, ground := Ground.phase }, { on := 10, ground := Ground.phase }, { on := 11, ground := Ground.phase }, { on := 12, ground := Ground.phase }, { on := 13, ground := Ground.phase }, { on := 14, ground := Ground.phase }, { on := 15, ground := Ground.phase }, { on := 16, ground := Ground.phase }], guard := none }) (v := ?_) rfl (by kernel_rfl) (by kernel_rfl) (by kernel_rfl) (fun _ _ _ h => h) (Or.inl ⟨by rfl, ?_⟩) (by assumption) ?_
    rotate_left
    · (intro wx hSw; (try dsimp only at hSw); go_simp; (try with_reducible rfl))
    (try simp only [Act.put, List.setIfInBounds_toArray, List.set_cons_zero, List.set_cons_succ])
    refine wpAnyH_take (i := 18) (oi := { dst := some 34, op := Op.fieldAddr 48 (Operand.tmp 33) 1, type := 0, pos := "ref.go:47", after := #[{ on := 17, ground := Ground.data }, { on := 0, ground := Ground.phase }, { on := 1, ground := Ground.phase }, { on := 2, ground := Ground.phase }, { on := 3, ground := Ground.phase }, { on := 4, ground := Ground.phase }, { on := 5, ground := Ground.phase }, { on := 6, ground := Ground.phase }, { on := 7, ground := Ground.phase }, { on := 8, ground := Ground.phase }, { on := 9, ground := Ground.phase }, { on := 10, ground := Ground.phase }, { on := 11, ground := Ground.phase }, { on := 12, ground := Ground.phase }, { on := 13, ground := Ground.phase }, { on := 14, ground := Ground.phase }, { on := 15, ground := Ground.phase }, { on := 16, ground := Ground.phase }], guard := none }) (v := ?_) rfl (by kernel_rfl) (by kernel_rfl) (by kernel_rfl) (fun _ _ _ h => h) (Or.inl ⟨by rfl, ?_⟩) (by assumption) ?_
    rotate_left
    · (intro wx hSw; (try dsimp only at hSw); go_simp; (try with_reducible rfl))
    (try simp only [Act.put, List.setIfInBounds_toArray, List.set_cons_zero, List.set_cons_succ])
    refine wpAnyH_ready (rs := [19]) (by kernel_rfl) (by simp) ?_
    refine AllReadyH.cons (o := { dst := none, op := Op.store 46 (Operand.tmp 34) (Operand.tmp 32), type := 0, pos := "ref.go:47", after := #[{ on := 18, ground := Ground.data }, { on := 16, ground := Ground.data }, { on := 16, ground := Ground.chain }, { on := 0, ground := Ground.phase }, { on := 1, ground := Ground.phase }, { on := 2, ground := Ground.phase }, { on := 3, ground := Ground.phase }, { on := 4, ground := Ground.phase }, { on := 5, ground := Ground.phase }, { on := 6, ground := Ground.phase }, { on := 7, ground := Ground.phase }, { on := 8, ground := Ground.phase }, { on := 9, ground := Ground.phase }, { on := 10, ground := Ground.phase }, { on := 11, ground := Ground.phase }, { on := 12, ground := Ground.phase }, { on := 13, ground := Ground.phase }, { on := 14, ground := Ground.phase }, { on := 15, ground := Ground.phase }, { on := 16, ground := Ground.phase }], guard := none }) rfl (fun K hK => ?_) AllReadyH.nil
    go_simp
    refine hK.out _ _ (by trivial) (fun hHeld2 => ?_)
    clear hHeld hK K
    have hHeld := hHeld2
    clear hHeld2
    (try simp only [Act.put, List.setIfInBounds_toArray, List.set_cons_zero, List.set_cons_succ])
    (try simp only [Nat.zero_add])
    refine wpAnyH_done (by kernel_rfl) ?_ _
    have H9 : Hid (Own w0 (wc.setCell ⟨b, 1, none⟩ (.slice gc (m + (len - j)) cc)) _) := HEND.out _ (.slice gc (m + (len - j)) cc) _ _ ((Own.two hOc).setC 1 (.slice gc (m + (len - j)) cc))
    have d0 := H9.out.three.cell 0
    have d1 := H9.out.three.cell 1
    simp only [List.getElem?_toArray, List.getElem?_cons_zero, List.getElem?_cons_succ] at d0 d1
    have g0 := H9.out.four.cell 0
    have g1 := H9.out.four.cell 1
    simp only [List.getElem?_toArray, List.getElem?_cons_zero, List.getElem?_cons_succ] at g0 g1
    have z0 := H9.out.four.froz 0
    have z1 := H9.out.four.froz 1
    have HF : Hid (Own w0 _ _) := (H9.out.four.setC 0 (.int .i64 xt)).setC 1 (.slice xa xn xc)
    generalize wc.setCell ⟨b, 1, none⟩ (.slice gc (m + (len - j)) cc) = wd at *
    clear hOc H6 HEND HR2 HX HR1 t1 t2
    go_wp2
    (try simp only [Exit.inBlock, Exit.then])
    refine bodyPost_ret (v := .tuple #[.agg #[.int .i64 xt, .slice xa xn xc], .int .i64 0]) ?_ rfl ⟨rfl, ?_⟩
    · rw [results_cell_tmp rfl]
      have r0 := HF.out.cell 0
      have r1 := HF.out.cell 1
      simp at r0 r1
      go_simp
    · exact HF.out.tail.three.tail
  refine AllReadyH.cons (o := { dst := some 21, op := Op.load 46 (Operand.tmp 20), type := 46, pos := "ref.go:47", after := #[{ on := 4, ground := Ground.data }], guard := none }) rfl (fun K hK => ?_) ?_
  · go_simp
    refine hK.out _ _ (by trivial) (fun hHeld2 => ?_)
    clear hHeld hK K
    have hHeld := hHeld2
    clear hHeld2
    (try simp only [Act.put, List.setIfInBounds_toArray, List.set_cons_zero, List.set_cons_succ])
    (try simp only [Nat.zero_add])
    refine wpAnyH_take (i := 7) (oi := { dst := some 23, op := Op.slice 46 (Operand.tmp 21) none (some (Operand.tmp 22)) none, type := 46, pos := "ref.go:47", after := #[{ on := 5, ground := Ground.data }, { on := 6, ground := Ground.data }], guard := none }) (v := ?_) rfl (by kernel_rfl) (by kernel_rfl) (by kernel_rfl) (fun _ _ _ h => h) (Or.inl ⟨by rfl, ?_⟩) (by assumption) ?_
    rotate_left
    · (intro wx hSw; (try dsimp only at hSw); go_simp; (try with_reducible rfl))
    (try simp only [Act.put, List.setIfInBounds_toArray, List.set_cons_zero, List.set_cons_succ])
    refine wpAnyH_ready (rs := [1, 12]) (by kernel_rfl) (by simp) ?_
    refine AllReadyH.cons (o := { dst := some 17, op := Op.buildSlice 46 0 #[], type := 46, pos := "ref.go:47", after := #[], guard := none }) rfl (fun K hK => ?_) ?_
    · go_simp
      refine hK.out _ _ (by trivial) (fun hHeld2 => ?_)
      clear hHeld hK K
      have hHeld := hHeld2
      clear hHeld2
      (try simp only [Act.put, List.setIfInBounds_toArray, List.set_cons_zero, List.set_cons_succ])
      (try simp only [Nat.zero_add])
      refine wpAnyH_ready (rs := [8, 12]) (by kernel_rfl) (by simp) ?_
      refine AllReadyH.cons (o := { dst := some 24, op := Op.call { callee := Callee.builtin Builtin.append, args := #[Operand.tmp 17, Operand.tmp 23], argTypes := #[46, 46] }, type := 46, pos := "ref.go:47", after := #[{ on := 1, ground := Ground.data }, { on := 7, ground := Ground.data }], guard := none }) rfl (fun K hK => ?_) ?_
      · refine step_readW rfl _ _ 46 rfl 33 i0 (.agg #[.int .i64 0, .slice none 0 0]) 2 32 Try.underlying46 hi0 hz0 hz1 hz2 rfl (by decide) _ _ _ rfl _ _ _ (cat gel (E.take m)) rfl HX.out HL1.out HR1.out (one_cat _ gel_one _) (by unfold maxLen; omega) (by omega) ?_
        intro ga ca wa hOa
        simp only [Nat.zero_add, List.nil_append] at hOa
        have a1 := (Own.two hOa).cell 1
        simp at a1
        have H6 : Hid (Own w0 wa _) := hOa
        clear hOa
        refine hK.out _ _ (by trivial) (fun hHeld2 => ?_)
        clear hHeld hK K
        have hHeld := hHeld2
        clear hHeld2
        (try simp only [Act.put, List.setIfInBounds_toArray, List.set_cons_zero, List.set_cons_succ])
        (try simp only [Nat.zero_add])
        refine wpAnyH_ready (rs := [12]) (by kernel_rfl) (by simp) ?_
        refine AllReadyH.cons (o := { dst := some 28, op := Op.load 46 (Operand.tmp 27), type := 46, pos := "ref.go:47", after := #[{ on := 11, ground := Ground.data }], guard := none }) rfl (fun K hK => ?_) AllReadyH.nil
        go_simp
        refine hK.out _ _ (by trivial) (fun hHeld2 => ?_)
        clear hHeld hK K
        have hHeld := hHeld2
        clear hHeld2
        (try simp only [Act.put, List.setIfInBounds_toArray, List.set_cons_zero, List.set_cons_succ])
        (try simp only [Nat.zero_add])
        refine wpAnyH_take (i := 15) (oi := { dst := some 31, op := Op.slice 46 (Operand.tmp 28) (some (Operand.tmp 30)) none none, type := 46, pos := "ref.go:47", after := #[{ on := 12, ground := Ground.data }, { on := 14, ground := Ground.data }], guard := none }) (v := ?_) rfl (by kernel_rfl) (by kernel_rfl) (by kernel_rfl) (fun _ _ _ h => h) (Or.inl ⟨by rfl, ?_⟩) (by assumption) ?_
        rotate_left
        · (intro wx hSw; (try dsimp only at hSw); go_simp; (try with_reducible rfl))
        (try simp only [Act.put, List.setIfInBounds_toArray, List.set_cons_zero, List.set_cons_succ])
        refine wpAnyH_ready (rs := [16]) (by kernel_rfl) (by simp) ?_
        refine AllReadyH.cons (o := { dst := some 32, op := Op.call { callee := Callee.builtin Builtin.append, args := #[Operand.tmp 24, Operand.tmp 31], argTypes := #[46, 46] }, type := 46, pos := "ref.go:47", after := #[{ on := 8, ground := Ground.data }, { on := 15, ground := Ground.data }, { on := 8, ground := Ground.chain }], guard := none }) rfl (fun K hK => ?_) AllReadyH.nil
        refine step_readW rfl _ _ 46 rfl 33 i0 (.agg #[.int .i64 0, .slice none 0 0]) 2 32 Try.underlying46 hi0 hz0 hz1 hz2 rfl (by decide) _ _ _ rfl _ _ _ (cat gel (E.drop j)) rfl H6.out HL2.out (HR2.out _ _ H6.out.three) (one_cat _ gel_one _) (by unfold maxLen; omega) (by omega) ?_
        intro gc cc wc hOc
        have t1 := (Own.two hOc).cell 1
        have t2 := (Own.two hOc).froz 1
        simp at t1
        refine hK.out _ _ (by trivial) (fun hHeld2 => ?_)
        clear hHeld hK K
        have hHeld := hHeld2
        clear hHeld2
        (try simp only [Act.put, List.setIfInBounds_toArray, List.set_cons_zero, List.set_cons_succ])
        (try simp only [Nat.zero_add])
        refine wpAnyH_take (i := 17) (oi := { dst := some 33, op := Op.nilCheck (Operand.tmp 16), type := 0, pos := "ref.go:47", after := #[{ on := 0, ground := Ground.data }, { on := 0, ground := Ground.phase }, { on := 1, ground := Ground.phase }, { on := 2, ground := Ground.phase }, { on := 3, ground := Ground.phase }, { on := 4, ground := Ground.phase }, { on := 5, ground := Ground.phase }, { on := 6, ground := Ground.phase }, { on := 7, ground := Ground.phase }, { on := 8, ground := Ground.phase }, { on := 9, ground := Ground.phase }, { on := 10, ground := Ground.phase }, { on := 11, ground := Ground.phase }, { on := 12, ground := Ground.phase }, { on := 13, ground := Ground.phase }, { on := 14, ground := Ground.phase }, { on := 15, ground := Ground.phase }, { on := 16, ground := Ground.phase }], guard := none }) (v := ?_) rfl (by kernel_rfl) (by kernel_rfl) (by kernel_rfl) (fun _ _ _ h => h) (Or.inl ⟨by rfl, ?_⟩) (by assumption) ?_
        rotate_left
        · (intro wx hSw; (try dsimp only at hSw); go_simp; (try with_reducible rfl))
        (try simp only [Act.put, List.setIfInBounds_toArray, List.set_cons_zero, List.set_cons_succ])
        refine wpAnyH_take (i := 18) (oi := { dst := some 34, op := Op.fieldAddr 48 (Operand.tmp 33) 1, type := 0, pos := "ref.go:47", after := #[{ on := 17, ground := Ground.data }, { on := 0, ground := Ground.phase }, { on := 1, ground := Ground.phase }, { on := 2, ground := Ground.phase }, { on := 3, ground := Ground.phase }, { on := 4, ground := Ground.phase }, { on := 5, ground := Ground.phase }, { on := 6, ground := Ground.phase }, { on := 7, ground := Ground.phase }, { on := 8, ground := Ground.phase }, { on := 9, ground := Ground.phase }, { on := 10, ground := Ground.phase }, { on := 11, ground := Ground.phase }, { on := 12, ground := Ground.phase }, { on := 13, ground := Ground.phase }, { on := 14, ground := Ground.phase }, { on := 15, ground := Ground.phase }, { on := 16, ground := Ground.phase }], guard := none }) (v := ?_) rfl (by kernel_rfl) (by kernel_rfl) (by kernel_rfl) (fun _ _ _ h => h) (Or.inl ⟨by rfl, ?_⟩) (by assumption) ?_
        rotate_left
        · (intro wx hSw; (try dsimp only at hSw); go_simp; (try with_reducible rfl))
        (try simp only [Act.put, List.setIfInBounds_toArray, List.set_cons_zero, List.set_cons_succ])
        refine wpAnyH_ready (rs := [19]) (by kernel_rfl) (by simp) ?_
        refine AllReadyH.cons (o := { dst := none, op := Op.store 46 (Operand.tmp 34) (Operand.tmp 32), type := 0, pos := "ref.go:47", after := #[{ on := 18, ground := Ground.data }, { on := 16, ground := Ground.data }, { on := 16, ground := Ground.chain }, { on := 0, ground := Ground.phase }, { on := 1, ground := Ground.phase }, { on := 2, ground := Ground.phase }, { on := 3, ground := Ground.phase }, { on := 4, ground := Ground.phase }, { on := 5, ground := Ground.phase }, { on := 6, ground := Ground.phase }, { on := 7, ground := Ground.phase }, { on := 8, ground := Ground.phase }, { on := 9, ground := Ground.phase }, { on := 10, ground := Ground.phase }, { on := 11, ground := Ground.phase }, { on := 12, ground := Ground.phase }, { on := 13, ground := Ground.phase }, { on := 14, ground := Ground.phase }, { on := 15, ground := Ground.phase }, { on := 16, ground := Ground.phase }], guard := none }) rfl (fun K hK => ?_) AllReadyH.nil
        go_simp
        refine hK.out _ _ (by trivial) (fun hHeld2 => ?_)
        clear hHeld hK K
        have hHeld := hHeld2
        clear hHeld2
        (try simp only [Act.put, List.setIfInBounds_toArray, List.set_cons_zero, List.set_cons_succ])
        (try simp only [Nat.zero_add])
        refine wpAnyH_done (by kernel_rfl) ?_ _
        have H9 : Hid (Own w0 (wc.setCell ⟨b, 1, none⟩ (.slice gc (m + (len - j)) cc)) _) := HEND.out _ (.slice gc (m + (len - j)) cc) _ _ ((Own.two hOc).setC 1 (.slice gc (m + (len - j)) cc))
        have d0 := H9.out.three.cell 0
        have d1 := H9.out.three.cell 1
        simp only [List.getElem?_toArray, List.getElem?_cons_zero, List.getElem?_cons_succ] at d0 d1
        have g0 := H9.out.four.cell 0
        have g1 := H9.out.four.cell 1
        simp only [List.getElem?_toArray, List.getElem?_cons_zero, List.getElem?_cons_succ] at g0 g1
        have z0 := H9.out.four.froz 0
        have z1 := H9.out.four.froz 1
        have HF : Hid (Own w0 _ _) := (H9.out.four.setC 0 (.int .i64 xt)).setC 1 (.slice xa xn xc)
        generalize wc.setCell ⟨b, 1, none⟩ (.slice gc (m + (len - j)) cc) = wd at *
        clear hOc H6 HEND HR2 HX HR1 t1 t2
        go_wp2
        (try simp only [Exit.inBlock, Exit.then])
        refine bodyPost_ret (v := .tuple #[.agg #[.int .i64 xt, .slice xa xn xc], .int .i64 0]) ?_ rfl ⟨rfl, ?_⟩
        · rw [results_cell_tmp rfl]
          have r0 := HF.out.cell 0
          have r1 := HF.out.cell 1
          simp at r0 r1
          go_simp
        · exact HF.out.tail.three.tail
      refine AllReadyH.cons (o := { dst := some 28, op := Op.load 46 (Operand.tmp 27), type := 46, pos := "ref.go:47", after := #[{ on := 11, ground := Ground.data }], guard := none }) rfl (fun K hK => ?_) AllReadyH.nil
      go_simp
      refine hK.out _ _ (by trivial) (fun hHeld2 => ?_)
      clear hHeld hK K
      have hHeld := hHeld2
      clear hHeld2
      (try simp only [Act.put, List.setIfInBounds_toArray, List.set_cons_zero, List.set_cons_succ])
      (try simp only [Nat.zero_add])
      refine wpAnyH_take (i := 15) (oi := { dst := some 31, op := Op.slice 46 (Operand.tmp 28) (some (Operand.tmp 30)) none none, type := 46, pos := "ref.go:47", after := #[{ on := 12, ground := Ground.data }, { on := 14, ground := Ground.data }], guard := none }) (v := ?_) rfl (by kernel_rfl) (by kernel_rfl) (by kernel_rfl) (fun _ _ _ h => h) (Or.inl ⟨by rfl, ?_⟩) (by assumption) ?_
      rotate_left
      · (intro wx hSw; (try dsimp only at hSw); go_simp; (try with_reducible rfl))
      (try simp only [Act.put, List.setIfInBounds_toArray, List.set_cons_zero, List.set_cons_succ])
      refine wpAnyH_ready (rs := [8]) (by kernel_rfl) (by simp) ?_
      refine AllReadyH.cons (o := { dst := some 24, op := Op.call { callee := Callee.builtin Builtin.append, args := #[Operand.tmp 17, Operand.tmp 23], argTypes := #[46, 46] }, type := 46, pos := "ref.go:47", after := #[{ on := 1, ground := Ground.data }, { on := 7, ground := Ground.data }], guard := none }) rfl (fun K hK => ?_) AllReadyH.nil
      refine step_readW rfl _ _ 46 rfl 33 i0 (.agg #[.int .i64 0, .slice none 0 0]) 2 32 Try.underlying46 hi0 hz0 hz1 hz2 rfl (by decide) _ _ _ rfl _ _ _ (cat gel (E.take m)) rfl HX.out HL1.out HR1.out (one_cat _ gel_one _) (by unfold maxLen; omega) (by omega) ?_
      intro ga ca wa hOa
      simp only [Nat.zero_add, List.nil_append] at hOa
      have a1 := (Own.two hOa).cell 1
      simp at a1
      have H6 : Hid (Own w0 wa _) := hOa
      clear hOa
      refine hK.out _ _ (by trivial) (fun hHeld2 => ?_)
      clear hHeld hK K
      have hHeld := hHeld2
      clear hHeld2
      (try simp only [Act.put, List.setIfInBounds_toArray, List.set_cons_zero, List.set_cons_succ])
      (try simp only [Nat.zero_add])
      refine wpAnyH_ready (rs := [16]) (by kernel_rfl) (by simp) ?_
      refine AllReadyH.cons (o := { dst := some 32, op := Op.call { callee := Callee.builtin Builtin.append, args := #[Operand.tmp 24, Operand.tmp 31], argTypes := #[46, 46] }, type := 46, pos := "ref.go:47", after := #[{ on := 8, ground := Ground.data }, { on := 15, ground := Ground.data }, { on := 8, ground := Ground.chain }], guard := none }) rfl (fun K hK => ?_) AllReadyH.nil
      refine step_readW rfl _ _ 46 rfl 33 i0 (.agg #[.int .i64 0, .slice none 0 0]) 2 32 Try.underlying46 hi0 hz0 hz1 hz2 rfl (by decide) _ _ _ rfl _ _ _ (cat gel (E.drop j)) rfl H6.out HL2.out (HR2.out _ _ H6.out.three) (one_cat _ gel_one _) (by unfold maxLen; omega) (by omega) ?_
      intro gc cc wc hOc
      have t1 := (Own.two hOc).cell 1
      have t2 := (Own.two hOc).froz 1
      simp at t1
      refine hK.out _ _ (by trivial) (fun hHeld2 => ?_)
      clear hHeld hK K
      have hHeld := hHeld2
      clear hHeld2
      (try simp only [Act.put, List.setIfInBounds_toArray, List.set_cons_zero, List.set_cons_succ])
      (try simp only [Nat.zero_add])
      refine wpAnyH_take (i := 17) (oi := { dst := some 33, op := Op.nilCheck (Operand.tmp 16), type := 0, pos := "ref.go:47", after := #[{ on := 0, ground := Ground.data }, { on := 0, ground := Ground.phase }, { on := 1, ground := Ground.phase }, { on := 2, ground := Ground.phase }, { on := 3, ground := Ground.phase }, { on := 4, ground := Ground.phase }, { on := 5, ground := Ground.phase }, { on := 6, ground := Ground.phase }, { on := 7, ground := Ground.phase }, { on := 8, ground := Ground.phase }, { on := 9, ground := Ground.phase }, { on := 10, ground := Ground.phase }, { on := 11, ground := Ground.phase }, { on := 12, ground := Ground.phase }, { on := 13, ground := Ground.phase }, { on := 14, ground := Ground.phase }, { on := 15, ground := Ground.phase }, { on := 16, ground := Ground.phase }], guard := none }) (v := ?_) rfl (by kernel_rfl) (by kernel_rfl) (by kernel_rfl) (fun _ _ _ h => h) (Or.inl ⟨by rfl, ?_⟩) (by assumption) ?_
      rotate_left
      · (intro wx hSw; (try dsimp only at hSw); go_simp; (try with_reducible rfl))
      (try simp only [Act.put, List.setIfInBounds_toArray, List.set_cons_zero, List.set_cons_succ])
      refine wpAnyH_take (i := 18) (oi := { dst := some 34, op := Op.fieldAddr 48 (Operand.tmp 33) 1, type := 0, pos := "ref.go:47", after := #[{ on := 17, ground := Ground.data }, { on := 0, ground := Ground.phase }, { on := 1, ground := Ground.phase }, { on := 2, ground := Ground.phase }, { on := 3, ground := Ground.phase }, { on := 4, ground := Ground.phase }, { on := 5, ground := Ground.phase }, { on := 6, ground := Ground.phase }, { on := 7, ground := Ground.phase }, { on := 8, ground := Ground.phase }, { on := 9, ground := Ground.phase }, { on := 10, ground := Ground.phase }, { on := 11, ground := Ground.phase }, { on := 12, ground := Ground.phase }, { on := 13, ground := Ground.phase }, { on := 14, ground := Ground.phase }, { on := 15, ground := Ground.phase }, { on := 16, ground := Ground.phase }], guard := none }) (v := ?_) rfl (by kernel_rfl) (by kernel_rfl) (by kernel_rfl) (fun _ _ _ h => h) (Or.inl ⟨by rfl, ?_⟩) (by assumption) ?_
      rotate_left
      · (intro wx hSw; (try dsimp only at hSw); go_simp; (try with_reducible rfl))
      (try simp only [Act.put, List.setIfInBounds_toArray, List.set_cons_zero, List.set_cons_succ])
      refine wpAnyH_ready (rs := [19]) (by kernel_rfl) (by simp) ?_
      refine AllReadyH.cons (o := { dst := none, op := Op.store 46 (Operand.tmp 34) (Operand.tmp 32), type := 0, pos := "ref.go:47", after := #[{ on := 18, ground := Ground.data }, { on := 16, ground := Ground.data }, { on := 16, ground := Ground.chain }, { on := 0, ground := Ground.phase }, { on := 1, ground := Ground.phase }, { on := 2, ground := Ground.phase }, { on := 3, ground := Ground.phase }, { on := 4, ground := Ground.phase }, { on := 5, ground := Ground.phase }, { on := 6, ground := Ground.phase }, { on := 7, ground := Ground.phase }, { on := 8, ground := Ground.phase }, { on := 9, ground := Ground.phase }, { on := 10, ground := Ground.phase }, { on := 11, ground := Ground.phase }, { on := 12, ground := Ground.phase }, { on := 13, ground := Ground.phase }, { on := 14, ground := Ground.phase }, { on := 15, ground := Ground.phase }, { on := 16, ground := Ground.phase }], guard := none }) rfl (fun K hK => ?_) AllReadyH.nil
      go_simp
      refine hK.out _ _ (by trivial) (fun hHeld2 => ?_)
      clear hHeld hK K
      have hHeld := hHeld2
      clear hHeld2
      (try simp only [Act.put, List.setIfInBounds_toArray, List.set_cons_zero, List.set_cons_succ])
      (try simp only [Nat.zero_add])
      refine wpAnyH_done (by kernel_rfl) ?_ _
      have H9 : Hid (Own w0 (wc.setCell ⟨b, 1, none⟩ (.slice gc (m + (len - j)) cc)) _) := HEND.out _ (.slice gc (m + (len - j)) cc) _ _ ((Own.two hOc).setC 1 (.slice gc (m + (len - j)) cc))
      have d0 := H9.out.three.cell 0
      have d1 := H9.out.three.cell 1
      simp only [List.getElem?_toArray, List.getElem?_cons_zero, List.getElem?_cons_succ] at d0 d1
      have g0 := H9.out.four.cell 0
      have g1 := H9.out.four.cell 1
      simp only [List.getElem?_toArray, List.getElem?_cons_zero, List.getElem?_cons_succ] at g0 g1
      have z0 := H9.out.four.froz 0
      have z1 := H9.out.four.froz 1
      have HF : Hid (Own w0 _ _) := (H9.out.four.setC 0 (.int .i64 xt)).setC 1 (.slice xa xn xc)
      generalize wc.setCell ⟨b, 1, none⟩ (.slice gc (m + (len - j)) cc) = wd at *
      clear hOc H6 HEND HR2 HX HR1 t1 t2
      go_wp2
      (try simp only [Exit.inBlock, Exit.then])
      refine bodyPost_ret (v := .tuple #[.agg #[.int .i64 xt, .slice xa xn xc], .int .i64 0]) ?_ rfl ⟨rfl, ?_⟩
      · rw [results_cell_tmp rfl]
        have r0 := HF.out.cell 0
        have r1 := HF.out.cell 1
        simp at r0 r1
        go_simp
      · exact HF.out.tail.three.tail
    refine AllReadyH.cons (o := { dst := some 28, op := Op.load 46 (Operand.tmp 27), type := 46, pos := "ref.go:47", after := #[{ on := 11, ground := Ground.data }], guard := none }) rfl (fun K hK => ?_) AllReadyH.nil
    go_simp
    refine hK.out _ _ (by trivial) (fun hHeld2 => ?_)
    clear hHeld hK K
    have hHeld := hHeld2
    clear hHeld2
    (try simp only [Act.put, List.setIfInBounds_toArray, List.set_cons_zero, List.set_cons_succ])
    (try simp only [Nat.zero_add])
    refine wpAnyH_take (i := 15) (oi := { dst := some 31, op := Op.slice 46 (Operand.tmp 28) (some (Operand.tmp 30)) none none, type := 46, pos := "ref.go:47", after := #[{ on := 12, ground := Ground.data }, { on := 14, ground := Ground.data }], guard := none }) (v := ?_) rfl (by kernel_rfl) (by kernel_rfl) (by kernel_rfl) (fun _ _ _ h => h) (Or.inl ⟨by rfl, ?_⟩) (by assumption) ?_
    rotate_left
    · (intro wx hSw; (try dsimp only at hSw); go_simp; (try with_reducible rfl))
    (try simp only [Act.put, List.setIfInBounds_toArray, List.set_cons_zero, List.set_cons_succ])
    refine wpAnyH_ready (rs := [1]) (by kernel_rfl) (by simp) ?_
    refine AllReadyH.cons (o := { dst := some 17, op := Op.buildSlice 46 0 #[], type := 46, pos := "ref.go:47", after := #[], guard := none }) rfl (fun K hK => ?_) AllReadyH.nil
    go_simp
    refine hK.out _ _ (by trivial) (fun hHeld2 => ?_)
    clear hHeld hK K
    have hHeld := hHeld2
    clear hHeld2
    (try simp only [Act.put, List.setIfInBounds_toArray, List.set_cons_zero, List.set_cons_succ])
    (try simp only [Nat.zero_add])
    refine wpAnyH_ready (rs := [8]) (by kernel_rfl) (by simp) ?_
    refine AllReadyH.cons (o := { dst := some 24, op := Op.call { callee := Callee.builtin Builtin.append, args := #[Operand.tmp 17, Operand.tmp 23], argTypes := #[46, 46] }, type := 46, pos := "ref.go:47", after := #[{ on := 1, ground := Ground.data }, { on := 7, ground := Ground.data }], guard := none }) rfl (fun K hK => ?_) AllReadyH.nil
    refine step_readW rfl _ _ 46 rfl 33 i0 (.agg #[.int .i64 0, .slice none 0 0]) 2 32 Try.underlying46 hi0 hz0 hz1 hz2 rfl (by decide) _ _ _ rfl _ _ _ (cat gel (E.take m)) rfl HX.out HL1.out HR1.out (one_cat _ gel_one _) (by unfold maxLen; omega) (by omega) ?_
    intro ga ca wa hOa
    simp only [Nat.zero_add, List.nil_append] at hOa
    have a1 := (Own.two hOa).cell 1
    simp at a1
    have H6 : Hid (Own w0 wa _) := hOa
    clear hOa
    refine hK.out _ _ (by trivial) (fun hHeld2 => ?_)
    clear hHeld hK K
    have hHeld := hHeld2
    clear hHeld2
    (try simp only [Act.put, List.setIfInBounds_toArray, List.set_cons_zero, List.set_cons_succ])
    (try simp only [Nat.zero_add])
    refine wpAnyH_ready (rs := [16]) (by kernel_rfl) (by simp) ?_
    refine AllReadyH.cons (o := { dst := some 32, op := Op.call { callee := Callee.builtin Builtin.append, args := #[Operand.tmp 24, Operand.tmp 31], argTypes := #[46, 46] }, type := 46, pos := "ref.go:47", after := #[{ on := 8, ground := Ground.data }, { on := 15, ground := Ground.data }, { on := 8, ground := Ground.chain }], guard := none }) rfl (fun K hK => ?_) AllReadyH.nil
    refine step_readW rfl _ _ 46 rfl 33 i0 (.agg #[.int .i64 0, .slice none 0 0]) 2 32 Try.underlying46 hi0 hz0 hz1 hz2 rfl (by decide) _ _ _ rfl _ _ _ (cat gel (E.drop j)) rfl H6.out HL2.out (HR2.out _ _ H6.out.three) (one_cat _ gel_one _) (by unfold maxLen; omega) (by omega) ?_
    intro gc cc wc hOc
    have t1 := (Own.two hOc).cell 1
    have t2 := (Own.two hOc).froz 1
    simp at t1
    refine hK.out _ _ (by trivial) (fun hHeld2 => ?_)
    clear hHeld hK K
    have hHeld := hHeld2
    clear hHeld2
    (try simp only [Act.put, List.setIfInBounds_toArray, List.set_cons_zero, List.set_cons_succ])
    (try simp only [Nat.zero_add])
    refine wpAnyH_take (i := 17) (oi := { dst := some 33, op := Op.nilCheck (Operand.tmp 16), type := 0, pos := "ref.go:47", after := #[{ on := 0, ground := Ground.data }, { on := 0, ground := Ground.phase }, { on := 1, ground := Ground.phase }, { on := 2, ground := Ground.phase }, { on := 3, ground := Ground.phase }, { on := 4, ground := Ground.phase }, { on := 5, ground := Ground.phase }, { on := 6, ground := Ground.phase }, { on := 7, ground := Ground.phase }, { on := 8, ground := Ground.phase }, { on := 9, ground := Ground.phase }, { on := 10, ground := Ground.phase }, { on := 11, ground := Ground.phase }, { on := 12, ground := Ground.phase }, { on := 13, ground := Ground.phase }, { on := 14, ground := Ground.phase }, { on := 15, ground := Ground.phase }, { on := 16, ground := Ground.phase }], guard := none }) (v := ?_) rfl (by kernel_rfl) (by kernel_rfl) (by kernel_rfl) (fun _ _ _ h => h) (Or.inl ⟨by rfl, ?_⟩) (by assumption) ?_
    rotate_left
    · (intro wx hSw; (try dsimp only at hSw); go_simp; (try with_reducible rfl))
    (try simp only [Act.put, List.setIfInBounds_toArray, List.set_cons_zero, List.set_cons_succ])
    refine wpAnyH_take (i := 18) (oi := { dst := some 34, op := Op.fieldAddr 48 (Operand.tmp 33) 1, type := 0, pos := "ref.go:47", after := #[{ on := 17, ground := Ground.data }, { on := 0, ground := Ground.phase }, { on := 1, ground := Ground.phase }, { on := 2, ground := Ground.phase }, { on := 3, ground := Ground.phase }, { on := 4, ground := Ground.phase }, { on := 5, ground := Ground.phase }, { on := 6, ground := Ground.phase }, { on := 7, ground := Ground.phase }, { on := 8, ground := Ground.phase }, { on := 9, ground := Ground.phase }, { on := 10, ground := Ground.phase }, { on := 11, ground := Ground.phase }, { on := 12, ground := Ground.phase }, { on := 13, ground := Ground.phase }, { on := 14, ground := Ground.phase }, { on := 15, ground := Ground.phase }, { on := 16, ground := Ground.phase }], guard := none }) (v := ?_) rfl (by kernel_rfl) (by kernel_rfl) (by kernel_rfl) (fun _ _ _ h => h) (Or.inl ⟨by rfl, ?_⟩) (by assumption) ?_
    rotate_left
    · (intro wx hSw; (try dsimp only at hSw); go_simp; (try with_reducible rfl))
    (try simp only [Act.put, List.setIfInBounds_toArray, List.set_cons_zero, List.set_cons_succ])
    refine wpAnyH_ready (rs := [19]) (by kernel_rfl) (by simp) ?_
    refine AllReadyH.cons (o := { dst := none, op := Op.store 46 (Operand.tmp 34) (Operand.tmp 32), type := 0, pos := "ref.go:47", after := #[{ on := 18, ground := Ground.data }, { on := 16, ground := Ground.data }, { on := 16, ground := Ground.chain }, { on := 0, ground := Ground.phase }, { on := 1, ground := Ground.phase }, { on := 2, ground := Ground.phase }, { on := 3, ground := Ground.phase }, { on := 4, ground := Ground.phase }, { on := 5, ground := Ground.phase }, { on := 6, ground := Ground.phase }, { on := 7, ground := Ground.phase }, { on := 8, ground := Ground.phase }, { on := 9, ground := Ground.phase }, { on := 10, ground := Ground.phase }, { on := 11, ground := Ground.phase }, { on := 12, ground := Ground.phase }, { on := 13, ground := Ground.phase }, { on := 14, ground := Ground.phase }, { on := 15, ground := Ground.phase }, { on := 16, ground := Ground.phase }], guard := none }) rfl (fun K hK => ?_) AllReadyH.nil
    go_simp
    refine hK.out _ _ (by trivial) (fun hHeld2 => ?_)
    clear hHeld hK K
    have hHeld := hHeld2
    clear hHeld2
    (try simp only [Act.put, List.setIfInBounds_toArray, List.set_cons_zero, List.set_cons_succ])
    (try simp only [Nat.zero_add])
    refine wpAnyH_done (by kernel_rfl) ?_ _
    have H9 : Hid (Own w0 (wc.setCell ⟨b, 1, none⟩ (.slice gc (m + (len - j)) cc)) _) := HEND.out _ (.slice gc (m + (len - j)) cc) _ _ ((Own.two hOc).setC 1 (.slice gc (m + (len - j)) cc))
    have d0 := H9.out.three.cell 0
    have d1 := H9.out.three.cell 1
    simp only [List.getElem?_toArray, List.getElem?_cons_zero, List.getElem?_cons_succ] at d0 d1
    have g0 := H9.out.four.cell 0
    have g1 := H9.out.four.cell 1
    simp only [List.getElem?_toArray, List.getElem?_cons_zero, List.getElem?_cons_succ] at g0 g1
    have z0 := H9.out.four.froz 0
    have z1 := H9.out.four.froz 1
    have HF : Hid (Own w0 _ _) := (H9.out.four.setC 0 (.int .i64 xt)).setC 1 (.slice xa xn xc)
    generalize wc.setCell ⟨b, 1, none⟩ (.slice gc (m + (len - j)) cc) = wd at *
    clear hOc H6 HEND HR2 HX HR1 t1 t2
    go_wp2
    (try simp only [Exit.inBlock, Exit.then])
    refine bodyPost_ret (v := .tuple #[.agg #[.int .i64 xt, .slice xa xn xc], .int .i64 0]) ?_ rfl ⟨rfl, ?_⟩
    · rw [results_cell_tmp rfl]
      have r0 := HF.out.cell 0
      have r1 := HF.out.cell 1
      simp at r0 r1
      go_simp
    · exact HF.out.tail.three.tail
  refine AllReadyH.cons (o := { dst := some 28, op := Op.load 46 (Operand.tmp 27), type := 46, pos := "ref.go:47", after := #[{ on := 11, ground := Ground.data }], guard := none }) rfl (fun K hK => ?_) AllReadyH.nil
  go_simp
  refine hK.out _ _ (by trivial) (fun hHeld2 => ?_)
  clear hHeld hK K
  have hHeld := hHeld2
  clear hHeld2
  (try simp only [Act.put, List.setIfInBounds_toArray, List.set_cons_zero, List.set_cons_succ])
  (try simp only [Nat.zero_add])
  refine wpAnyH_take (i := 15) (oi := { dst := some 31, op := Op.slice 46 (Operand.tmp 28) (some (Operand.tmp 30)) none none, type := 46, pos := "ref.go:47", after := #[{ on := 12, ground := Ground.data }, { on := 14, ground := Ground.data }], guard := none }) (v := ?_) rfl (by kernel_rfl) (by kernel_rfl) (by kernel_rfl) (fun _ _ _ h => h) (Or.inl ⟨by rfl, ?_⟩) (by assumption) ?_
  rotate_left
  · (intro wx hSw; (try dsimp only at hSw); go_simp; (try with_reducible rfl))
  (try simp only [Act.put, List.setIfInBounds_toArray, List.set_cons_zero, List.set_cons_succ])
  refine wpAnyH_ready (rs := [1, 5]) (by kernel_rfl) (by simp) ?_
  refine AllReadyH.cons (o := { dst := some 17, op := Op.buildSlice 46 0 #[], type := 46, pos := "ref.go:47", after := #[], guard := none }) rfl (fun K hK => ?_) ?_
  · go_simp
    refine hK.out _ _ (by trivial) (fun hHeld2 => ?_)
    clear hHeld hK K
    have hHeld := hHeld2
    clear hHeld2
    (try simp only [Act.put, List.setIfInBounds_toArray, List.set_cons_zero, List.set_cons_succ])
    (try simp only [Nat.zero_add])
    refine wpAnyH_ready (rs := [5]) (by kernel_rfl) (by simp) ?_
    refine AllReadyH.cons (o := { dst := some 21, op := Op.load 46 (Operand.tmp 20), type := 46, pos := "ref.go:47", after := #[{ on := 4, ground := Ground.data }], guard := none }) rfl (fun K hK => ?_) AllReadyH.nil
    go_simp
    refine hK.out _ _ (by trivial) (fun hHeld2 => ?_)
    clear hHeld hK K
    have hHeld := hHeld2
    clear hHeld2
    (try simp only [Act.put, List.setIfInBounds_toArray, List.set_cons_zero, List.set_cons_succ])
    (try simp only [Nat.zero_add])
    refine wpAnyH_take (i := 7) (oi := { dst := some 23, op := Op.slice 46 (Operand.tmp 21) none (some (Operand.tmp 22)) none, type := 46, pos := "ref.go:47", after := #[{ on := 5, ground := Ground.data }, { on := 6, ground := Ground.data }], guard := none }) (v := ?_) rfl (by kernel_rfl) (by kernel_rfl) (by kernel_rfl) (fun _ _ _ h => h) (Or.inl ⟨by rfl, ?_⟩) (by assumption) ?_
    rotate_left
    · (intro wx hSw; (try dsimp only at hSw); go_simp; (try with_reducible rfl))
    (try simp only [Act.put, List.setIfInBounds_toArray, List.set_cons_zero, List.set_cons_succ])
    refine wpAnyH_ready (rs := [8]) (by kernel_rfl) (by simp) ?_
    refine AllReadyH.cons (o := { dst := some 24, op := Op.call { callee := Callee.builtin Builtin.append, args := #[Operand.tmp 17, Operand.tmp 23], argTypes := #[46, 46] }, type := 46, pos := "ref.go:47", after := #[{ on := 1, ground := Ground.data }, { on := 7, ground := Ground.data }], guard := none }) rfl (fun K hK => ?_) AllReadyH.nil
    refine step_readW rfl _ _ 46 rfl 33 i0 (.agg #[.int .i64 0, .slice none 0 0]) 2 32 Try.underlying46 hi0 hz0 hz1 hz2 rfl (by decide) _ _ _ rfl _ _ _ (cat gel (E.take m)) rfl HX.out HL1.out HR1.out (one_cat _ gel_one _) (by unfold maxLen; omega) (by omega) ?_
    intro ga ca wa hOa
    simp only [Nat.zero_add, List.nil_append] at hOa
    have a1 := (Own.two hOa).cell 1
    simp at a1
    have H6 : Hid (Own w0 wa _) := hOa
    clear hOa
    refine hK.out _ _ (by trivial) (fun hHeld2 => ?_)
    clear hHeld hK K
    have hHeld := hHeld2
    clear hHeld2
    (try simp only [Act.put, List.setIfInBounds_toArray, List.set_cons_zero, List.set_cons_succ])
    (try simp only [Nat.zero_add])
    refine wpAnyH_ready (rs := [16]) (by kernel_rfl) (by simp) ?_
    refine AllReadyH.cons (o := { dst := some 32, op := Op.call { callee := Callee.builtin Builtin.append, args := #[Operand.tmp 24, Operand.tmp 31], argTypes := #[46, 46] }, type := 46, pos := "ref.go:47", after := #[{ on := 8, ground := Ground.data }, { on := 15, ground := Ground.data }, { on := 8, ground := Ground.chain }], guard := none }) rfl (fun K hK => ?_) AllReadyH.nil
    refine step_readW rfl _ _ 46 rfl 33 i0 (.agg #[.int .i64 0, .slice none 0 0]) 2 32 Try.underlying46 hi0 hz0 hz1 hz2 rfl (by decide) _ _ _ rfl _ _ _ (cat gel (E.drop j)) rfl H6.out HL2.out (HR2.out _ _ H6.out.three) (one_cat _ gel_one _) (by unfold maxLen; omega) (by omega) ?_
    intro gc cc wc hOc
    have t1 := (Own.two hOc).cell 1
    have t2 := (Own.two hOc).froz 1
    simp at t1
    refine hK.out _ _ (by trivial) (fun hHeld2 => ?_)
    clear hHeld hK K
    have hHeld := hHeld2
    clear hHeld2
    (try simp only [Act.put, List.setIfInBounds_toArray, List.set_cons_zero, List.set_cons_succ])
    (try simp only [Nat.zero_add])
    refine wpAnyH_take (i := 17) (oi := { dst := some 33, op := Op.nilCheck (Operand.tmp 16), type := 0, pos := "ref.go:47", after := #[{ on := 0, ground := Ground.data }, { on := 0, ground := Ground.phase }, { on := 1, ground := Ground.phase }, { on := 2, ground := Ground.phase }, { on := 3, ground := Ground.phase }, { on := 4, ground := Ground.phase }, { on := 5, ground := Ground.phase }, { on := 6, ground := Ground.phase }, { on := 7, ground := Ground.phase }, { on := 8, ground := Ground.phase }, { on := 9, ground := Ground.phase }, { on := 10, ground := Ground.phase }, { on := 11, ground := Ground.phase }, { on := 12, ground := Ground.phase }, { on := 13, ground := Ground.phase }, { on := 14, ground := Ground.phase }, { on := 15, ground := Ground.phase }, { on := 16, ground := Ground.phase }], guard := none }) (v := ?_) rfl (by kernel_rfl) (by kernel_rfl) (by kernel_rfl) (fun _ _ _ h => h) (Or.inl ⟨by rfl, ?_⟩) (by assumption) ?_
    rotate_left
    · (intro wx hSw; (try dsimp only at hSw); go_simp; (try with_reducible rfl))
    (try simp only [Act.put, List.setIfInBounds_toArray, List.set_cons_zero, List.set_cons_succ])
    refine wpAnyH_take (i := 18) (oi := { dst := some 34, op := Op.fieldAddr 48 (Operand.tmp 33) 1, type := 0, pos := "ref.go:47", after := #[{ on := 17, ground := Ground.data }, { on := 0, ground := Ground.phase }, { on := 1, ground := Ground.phase }, { on := 2, ground := Ground.phase }, { on := 3, ground := Ground.phase }, { on := 4, ground := Ground.phase }, { on := 5, ground := Ground.phase }, { on := 6, ground := Ground.phase }, { on := 7, ground := Ground.phase }, { on := 8, ground := Ground.phase }, { on := 9, ground := Ground.phase }, { on := 10, ground := Ground.phase }, { on := 11, ground := Ground.phase }, { on := 12, ground := Ground.phase }, { on := 13, ground := Ground.phase }, { on := 14, ground := Ground.phase }, { on := 15, ground := Ground.phase }, { on := 16, ground := Ground.phase }], guard := none }) (v := ?_) rfl (by kernel_rfl) (by kernel_rfl) (by kernel_rfl) (fun _ _ _ h => h) (Or.inl ⟨by rfl, ?_⟩) (by assumption) ?_
    rotate_left
    · (intro wx hSw; (try dsimp only at hSw); go_simp; (try with_reducible rfl))
    (try simp only [Act.put, List.setIfInBounds_toArray, List.set_cons_zero, List.set_cons_succ])
    refine wpAnyH_ready (rs := [19]) (by kernel_rfl) (by simp) ?_
    refine AllReadyH.cons (o := { dst := none, op := Op.store 46 (Operand.tmp 34) (Operand.tmp 32), type := 0, pos := "ref.go:47", after := #[{ on := 18, ground := Ground.data }, { on := 16, ground := Ground.data }, { on := 16, ground := Ground.chain }, { on := 0, ground := Ground.phase }, { on := 1, ground := Ground.phase }, { on := 2, ground := Ground.phase }, { on := 3, ground := Ground.phase }, { on := 4, ground := Ground.phase }, { on := 5, ground := Ground.phase }, { on := 6, ground := Ground.phase }, { on := 7, ground := Ground.phase }, { on := 8, ground := Ground.phase }, { on := 9, ground := Ground.phase }, { on := 10, ground := Ground.phase }, { on := 11, ground := Ground.phase }, { on := 12, ground := Ground.phase }, { on := 13, ground := Ground.phase }, { on := 14, ground := Ground.phase }, { on := 15, ground := Ground.phase }, { on := 16, ground := Ground.phase }], guard := none }) rfl (fun K hK => ?_) AllReadyH.nil
    go_simp
    refine hK.out _ _ (by trivial) (fun hHeld2 => ?_)
    clear hHeld hK K
    have hHeld := hHeld2
    clear hHeld2
    (try simp only [Act.put, List.setIfInBounds_toArray, List.set_cons_zero, List.set_cons_succ])
    (try simp only [Nat.zero_add])
    refine wpAnyH_done (by kernel_rfl) ?_ _
    have H9 : Hid (Own w0 (wc.setCell ⟨b, 1, none⟩ (.slice gc (m + (len - j)) cc)) _) := HEND.out _ (.slice gc (m + (len - j)) cc) _ _ ((Own.two hOc).setC 1 (.slice gc (m + (len - j)) cc))
    have d0 := H9.out.three.cell 0
    have d1 := H9.out.three.cell 1
    simp only [List.getElem?_toArray, List.getElem?_cons_zero, List.getElem?_cons_succ] at d0 d1
    have g0 := H9.out.four.cell 0
    have g1 := H9.out.four.cell 1
    simp only [List.getElem?_toArray, List.getElem?_cons_zero, List.getElem?_cons_succ] at g0 g1
    have z0 := H9.out.four.froz 0
    have z1 := H9.out.four.froz 1
    have HF : Hid (Own w0 _ _) := (H9.out.four.setC 0 (.int .i64 xt)).setC 1 (.slice xa xn xc)
    generalize wc.setCell ⟨b, 1, none⟩ (.slice gc (m + (len - j)) cc) = wd at *
    clear hOc H6 HEND HR2 HX HR1 t1 t2
    go_wp2
    (try simp only [Exit.inBlock, Exit.then])
    refine bodyPost_ret (v := .tuple #[.agg #[.int .i64 xt, .slice xa xn xc], .int .i64 0]) ?_ rfl ⟨rfl, ?_⟩
    · rw [results_cell_tmp rfl]
      have r0 := HF.out.cell 0
      have r1 := HF.out.cell 1
      simp at r0 r1
      go_simp
    · exact HF.out.tail.three.tail
  refine AllReadyH.cons (o := { dst := some 21, op := Op.load 46 (Operand.tmp 20), type := 46, pos := "ref.go:47", after := #[{ on := 4, ground := Ground.data }], guard := none }) rfl (fun K hK => ?_) AllReadyH.nil
  go_simp
  refine hK.out _ _ (by trivial) (fun hHeld2 => ?_)
  clear hHeld hK K
  have hHeld := hHeld2
  clear hHeld2
  (try simp only [Act.put, List.setIfInBounds_toArray, List.set_cons_zero, List.set_cons_succ])
  (try simp only [Nat.zero_add])
  refine wpAnyH_take (i := 7) (oi := { dst := some 23, op := Op.slice 46 (Operand.tmp 21) none (some (Operand.tmp 22)) none, type := 46, pos := "ref.go:47", after := #[{ on := 5, ground := Ground.data }, { on := 6, ground := Ground.data }], guard := none }) (v := ?_) rfl (by kernel_rfl) (by kernel_rfl) (by kernel_rfl) (fun _ _ _ h => h) (Or.inl ⟨by rfl, ?_⟩) (by assumption) ?_
  rotate_left
  · (intro wx hSw; (try dsimp only at hSw); go_simp; (try with_reducible rfl))
  (try simp only [Act.put, List.setIfInBounds_toArray, List.set_cons_zero, List.set_cons_succ])
  refine wpAnyH_ready (rs := [1]) (by kernel_rfl) (by simp) ?_
  refine AllReadyH.cons (o := { dst := some 17, op := Op.buildSlice 46 0 #[], type := 46, pos := "ref.go:47", after := #[], guard := none }) rfl (fun K hK => ?_) AllReadyH.nil
  go_simp
  refine hK.out _ _ (by trivial) (fun hHeld2 => ?_)
  clear hHeld hK K
  have hHeld := hHeld2
  clear hHeld2
  (try simp only [Act.put, List.setIfInBounds_toArray, List.set_cons_zero, List.set_cons_succ])
  (try simp only [Nat.zero_add])
  refine wpAnyH_ready (rs := [8]) (by kernel_rfl) (by simp) ?_
  refine AllReadyH.cons (o := { dst := some 24, op := Op.call { callee := Callee.builtin Builtin.append, args := #[Operand.tmp 17, Operand.tmp 23], argTypes := #[46, 46] }, type := 46, pos := "ref.go:47", after := #[{ on := 1, ground := Ground.data }, { on := 7, ground := Ground.data }], guard := none }) rfl (fun K hK => ?_) AllReadyH.nil
  refine step_readW rfl _ _ 46 rfl 33 i0 (.agg #[.int .i64 0, .slice none 0 0]) 2 32 Try.underlying46 hi0 hz0 hz1 hz2 rfl (by decide) _ _ _ rfl _ _ _ (cat gel (E.take m)) rfl HX.out HL1.out HR1.out (one_cat _ gel_one _) (by unfold maxLen; omega) (by omega) ?_
  intro ga ca wa hOa
  simp only [Nat.zero_add, List.nil_append] at hOa
  have a1 := (Own.two hOa).cell 1
  simp at a1
  have H6 : Hid (Own w0 wa _) := hOa
  clear hOa
  refine hK.out _ _ (by trivial) (fun hHeld2 => ?_)
  clear hHeld hK K
  have hHeld := hHeld2
  clear hHeld2
  (try simp only [Act.put, List.setIfInBounds_toArray, List.set_cons_zero, List.set_cons_succ])
  (try simp only [Nat.zero_add])
  refine wpAnyH_ready (rs := [16]) (by kernel_rfl) (by simp) ?_
  refine AllReadyH.cons (o := { dst := some 32, op := Op.call { callee := Callee.builtin Builtin.append, args := #[Operand.tmp 24, Operand.tmp 31], argTypes := #[46, 46] }, type := 46, pos := "ref.go:47", after := #[{ on := 8, ground := Ground.data }, { on := 15, ground := Ground.data }, { on := 8, ground := Ground.chain }], guard := none }) rfl (fun K hK => ?_) AllReadyH.nil
  refine step_readW rfl _ _ 46 rfl 33 i0 (.agg #[.int .i64 0, .slice none 0 0]) 2 32 Try.underlying46 hi0 hz0 hz1 hz2 rfl (by decide) _ _ _ rfl _ _ _ (cat gel (E.drop j)) rfl H6.out HL2.out (HR2.out _ _ H6.out.three) (one_cat _ gel_one _) (by unfold maxLen; omega) (by omega) ?_
  intro gc cc wc hOc
  have t1 := (Own.two hOc).cell 1
  have t2 := (Own.two hOc).froz 1
  simp at t1
  refine hK.out _ _ (by trivial) (fun hHeld2 => ?_)
  clear hHeld hK K
  have hHeld := hHeld2
  clear hHeld2
  (try simp only [Act.put, List.setIfInBounds_toArray, List.set_cons_zero, List.set_cons_succ])
  (try simp only [Nat.zero_add])
  refine wpAnyH_take (i := 17) (oi := { dst := some 33, op := Op.nilCheck (Operand.tmp 16), type := 0, pos := "ref.go:47", after := #[{ on := 0, ground := Ground.data }, { on := 0, ground := Ground.phase }, { on := 1, ground := Ground.phase }, { on := 2, ground := Ground.phase }, { on := 3, ground := Ground.phase }, { on := 4, ground := Ground.phase }, { on := 5, ground := Ground.phase }, { on := 6, ground := Ground.phase }, { on := 7, ground := Ground.phase }, { on := 8, ground := Ground.phase }, { on := 9, ground := Ground.phase }, { on := 10, ground := Ground.phase }, { on := 11, ground := Ground.phase }, { on := 12, ground := Ground.phase }, { on := 13, ground := Ground.phase }, { on := 14, ground := Ground.phase }, { on := 15, ground := Ground.phase }, { on := 16, ground := Ground.phase }], guard := none }) (v := ?_) rfl (by kernel_rfl) (by kernel_rfl) (by kernel_rfl) (fun _ _ _ h => h) (Or.inl ⟨by rfl, ?_⟩) (by assumption) ?_
  rotate_left
  · (intro wx hSw; (try dsimp only at hSw); go_simp; (try with_reducible rfl))
  (try simp only [Act.put, List.setIfInBounds_toArray, List.set_cons_zero, List.set_cons_succ])
  refine wpAnyH_take (i := 18) (oi := { dst := some 34, op := Op.fieldAddr 48 (Operand.tmp 33) 1, type := 0, pos := "ref.go:47", after := #[{ on := 17, ground := Ground.data }, { on := 0, ground := Ground.phase }, { on := 1, ground := Ground.phase }, { on := 2, ground := Ground.phase }, { on := 3, ground := Ground.phase }, { on := 4, ground := Ground.phase }, { on := 5, ground := Ground.phase }, { on := 6, ground := Ground.phase }, { on := 7, ground := Ground.phase }, { on := 8, ground := Ground.phase }, { on := 9, ground := Ground.phase }, { on := 10, ground := Ground.phase }, { on := 11, ground := Ground.phase }, { on := 12, ground := Ground.phase }, { on := 13, ground := Ground.phase }, { on := 14, ground := Ground.phase }, { on := 15, ground := Ground.phase }, { on := 16, ground := Ground.phase }], guard := none }) (v := ?_) rfl (by kernel_rfl) (by kernel_rfl) (by kernel_rfl) (fun _ _ _ h => h) (Or.inl ⟨by rfl, ?_⟩) (by assumption) ?_
  rotate_left
  · (intro wx hSw; (try dsimp only at hSw); go_simp; (try with_reducible rfl))
  (try simp only [Act.put, List.setIfInBounds_toArray, List.set_cons_zero, List.set_cons_succ])
  refine wpAnyH_ready (rs := [19]) (by kernel_rfl) (by simp) ?_
  refine AllReadyH.cons (o := { dst := none, op := Op.store 46 (Operand.tmp 34) (Operand.tmp 32), type := 0, pos := "ref.go:47", after := #[{ on := 18, ground := Ground.data }, { on := 16, ground := Ground.data }, { on := 16, ground := Ground.chain }, { on := 0, ground := Ground.phase }, { on := 1, ground := Ground.phase }, { on := 2, ground := Ground.phase }, { on := 3, ground := Ground.phase }, { on := 4, ground := Ground.phase }, { on := 5, ground := Ground.phase }, { on := 6, ground := Ground.phase }, { on := 7, ground := Ground.phase }, { on := 8, ground := Ground.phase }, { on := 9, ground := Ground.phase }, { on := 10, ground := Ground.phase }, { on := 11, ground := Ground.phase }, { on := 12, ground := Ground.phase }, { on := 13, ground := Ground.phase }, { on := 14, ground := Ground.phase }, { on := 15, ground := Ground.phase }, { on := 16, ground := Ground.phase }], guard := none }) rfl (fun K hK => ?_) AllReadyH.nil
  go_simp
  refine hK.out _ _ (by trivial) (fun hHeld2 => ?_)
  clear hHeld hK K
  have hHeld := hHeld2
  clear hHeld2
  (try simp only [Act.put, List.setIfInBounds_toArray, List.set_cons_zero, List.set_cons_succ])
  (try simp only [Nat.zero_add])
  refine wpAnyH_done (by kernel_rfl) ?_ _
  have H9 : Hid (Own w0 (wc.setCell ⟨b, 1, none⟩ (.slice gc (m + (len - j)) cc)) _) := HEND.out _ (.slice gc (m + (len - j)) cc) _ _ ((Own.two hOc).setC 1 (.slice gc (m + (len - j)) cc))
  have d0 := H9.out.three.cell 0
  have d1 := H9.out.three.cell 1
  simp only [List.getElem?_toArray, List.getElem?_cons_zero, List.getElem?_cons_succ] at d0 d1
  have g0 := H9.out.four.cell 0
  have g1 := H9.out.four.cell 1
  simp only [List.getElem?_toArray, List.getElem?_cons_zero, List.getElem?_cons_succ] at g0 g1
  have z0 := H9.out.four.froz 0
  have z1 := H9.out.four.froz 1
  have HF : Hid (Own w0 _ _) := (H9.out.four.setC 0 (.int .i64 xt)).setC 1 (.slice xa xn xc)
  generalize wc.setCell ⟨b, 1, none⟩ (.slice gc (m + (len - j)) cc) = wd at *
  clear hOc H6 HEND HR2 HX HR1 t1 t2
  go_wp2
  (try simp only [Exit.inBlock, Exit.then])
  refine bodyPost_ret (v := .tuple #[.agg #[.int .i64 xt, .slice xa xn xc], .int .i64 0]) ?_ rfl ⟨rfl, ?_⟩
  · rw [results_cell_tmp rfl]
    have r0 := HF.out.cell 0
    have r1 := HF.out.cell 1
    simp at r0 r1
    go_simp
  · exact HF.out.tail.three.tail
end Go.Proofs.Ytiphkndahoageaa
