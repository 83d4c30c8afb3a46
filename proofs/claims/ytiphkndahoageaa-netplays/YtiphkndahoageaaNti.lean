/-
  The document's bag: Put of one more.
-/
import Derived.Test.YtiphkndahoageaaNth
namespace Go.Proofs.Ytiphkndahoageaa
open Go.RowKit
set_option linter.unusedVariables false

theorem Own.neC {w0 w : World} {l : List Thing} {b1 b2 : Nat} {c1 c2 : Array Value} {t1 t2 : TypeId} (h : Own w0 w (Cells b1 c1 t1 :: Cells b2 c2 t2 :: l)) : b1 ≠ b2 := by
  obtain ⟨A, ⟨B, C, hB, ⟨D, F, hD, hF, hdf, hc⟩, hbc, hA⟩, _⟩ := h
  intro e
  subst e
  exact hbc b1 ((hB.2 b1).2 rfl) ((hc b1).2 (.inl ((hD.2 b1).2 rfl)))
set_option maxHeartbeats 4000000 in
set_option maxRecDepth 100000 in
theorem rputB_ok (w0 w : World) (l : List Thing) (b N : Nat) (E : List Gr) (h : Own w0 w (BagT 48 b N E :: l)) (hF : E.length < N) (hN : N ≤ 2048) (to : Int) (ao : Option Addr) (n cap : Nat) (P : List Nat) (hn : P.length = n) (hs : ∀ W A B, Own w0 W (A ++ (gfs E ++ B)) → Src W (.slice ao n cap) n (vrow P)) (hL : n ≤ 1000000) :
    Calls Try.prog 11 #[.pointer (some ⟨b, 0, none⟩), .agg #[.int .i64 to, .slice ao n cap]] w fun e w' => e = .returned (.int .i64 0) ∧ ∃ a2 c2, Own w0 w' (BagT 48 b N (E ++ [⟨a2, c2, to, P⟩]) :: l) := by
  obtain ⟨lv, h⟩ := Own.ex_iff.1 h
  obtain ⟨la, lc, rfl⟩ := row_any h.two.row
  obtain ⟨i0, hi0, hz0, hz1, hz2⟩ := info_parts Try.infoO
  obtain ⟨j0, hj0, hy0, hy1, hy2⟩ := info_parts Try.infoB
  have q0 := h.cell 0
  have q1 := h.cell 1
  simp at q0 q1
  have hlt := h.lt
  have n1 : w.heap.size ≠ b := by omega
  have hF2 : ((E.length : Int) == (N : Int)) = false := by simp; omega
  have hE : E.length < 2048 := by omega
  have HEND : Hid (∀ W a2 c2 lv', Own w0 W (Cells b #[.int .i64 (N : Int), lv'] 48 :: Row 33 2 lv' (E.length + 1) (cat gel E ++ [.int .i64 to, .slice a2 n c2]) :: Row 5 1 (.slice a2 n c2) n (vrow P) :: (gfs E ++ l)) → Own w0 W (BagT 48 b N (E ++ [⟨a2, c2, to, P⟩]) :: l)) := by
    intro W a2 c2 lv' hW
    refine Own.ex_iff.2 ⟨lv', ?_⟩
    have e1 : cat gel (E ++ [⟨a2, c2, to, P⟩]) = cat gel E ++ [.int .i64 to, .slice a2 n c2] := by rw [cat_append]; subst hn; rfl
    have e2 : gfr ⟨a2, c2, to, P⟩ = Row 5 1 (.slice a2 n c2) n (vrow P) := by subst hn; rfl
    rw [e1, gfs_app, List.length_append]
    show Own w0 W (_ :: _ :: ((gfs E ++ [gfr ⟨a2, c2, to, P⟩]) ++ l))
    rw [e2, List.append_assoc]
    exact hW.perm (List.Perm.cons _ (List.Perm.cons _ List.perm_middle.symm))
  have HS : Hid (∀ W A B, Own w0 W (A ++ (gfs E ++ B)) → Src W (.slice ao n cap) n (vrow P)) := hs
  have hA := (h.allocC #[.int .i64 to, .slice ao n cap] 33)
  have HA : Hid (Own w0 _ _) := hA
  have HPL : Hid (P.length = n) := hn
  clear h hA hs hn hN hF
  go_enter Try.func11, Try.ntmps11
  go_wp2
  go_region_held3 (fun w' => w'.cell? ⟨b, 0, none⟩ = some (.int .i64 (N : Int)) ∧ w'.cell? ⟨b, 1, none⟩ = some (.slice la E.length lc)) (go_keep) (fail)
  have hB := HA.out.drew
  clear HA q0 q1 n1 hlt
  generalize (w.alloc (.cells #[.int .i64 to, .slice ao n cap] 33)).drew = W at *
  generalize w.heap.size = bx at *
  have q1 := hB.two.cell 1
  have r0 := hB.cell 0
  have r1 := hB.cell 1
  simp at q1 r0 r1
  have n1 : W.heap.size ≠ b := by have := hB.two.lt; omega
  have nbx : b ≠ bx := hB.neC.symm
  have n2 : W.heap.size ≠ bx := by have := hB.lt; omega
  have n3 : W.heap.size + 1 ≠ b := by have := hB.two.lt; omega
  have n4 : W.heap.size + 1 ≠ bx := by have := hB.lt; omega
  have HXa : Hid (Own w0 (W.drew.alloc (.cells #[] 33)) _) := hB.drew.litRow #[] 33 2 0 (by decide) rfl
  have HXb : Hid (Own w0 ((W.drew.alloc (.cells #[] 33)).alloc (.cells #[] 5)) _) := ((hB.drew.litRow #[] 33 2 0 (by decide) rfl).litRow #[] 5 1 0 (by decide) rfl).two
  have HXc : Hid (Own w0 ((W.drew.alloc (.cells #[] 5)).alloc (.cells #[] 33)) _) := (hB.drew.litRow #[] 5 1 0 (by decide) rfl).litRow #[] 33 2 0 (by decide) rfl
  have e1 : (W.drew.alloc (.cells #[] 33)).heap.size = W.heap.size + 1 := by simp
  have e2 : (W.drew.alloc (.cells #[] 5)).heap.size = W.heap.size + 1 := by simp
  rw [e1] at HXb
  rw [e2] at HXc
  clear e1 e2
  have HRa : Hid (E.length = 0 ∨ _) := row_read HXa.out.four.row
  have HRb : Hid (E.length = 0 ∨ _) := row_read HXb.out.tail.four.row
  have HRc : Hid (E.length = 0 ∨ _) := row_read HXc.out.tail.four.row
  have f00 := (hB.alloc (.cells #[] 33)).cell 0
  have f01 := (hB.alloc (.cells #[] 33)).cell 1
  have f02 := (Own.two (hB.alloc (.cells #[] 33))).cell 1
  simp only [List.getElem?_toArray, List.getElem?_cons_zero, List.getElem?_cons_succ] at f00 f01 f02
  have f10 := (hB.alloc (.cells #[] 5)).cell 0
  have f11 := (hB.alloc (.cells #[] 5)).cell 1
  have f12 := (Own.two (hB.alloc (.cells #[] 5))).cell 1
  simp only [List.getElem?_toArray, List.getElem?_cons_zero, List.getElem?_cons_succ] at f10 f11 f12
  have f20 := ((hB.alloc (.cells #[] 33)).alloc (.cells #[] 5)).cell 0
  have f21 := ((hB.alloc (.cells #[] 33)).alloc (.cells #[] 5)).cell 1
  have f22 := (Own.two ((hB.alloc (.cells #[] 33)).alloc (.cells #[] 5))).cell 1
  simp only [List.getElem?_toArray, List.getElem?_cons_zero, List.getElem?_cons_succ] at f20 f21 f22
  have f30 := ((hB.alloc (.cells #[] 5)).alloc (.cells #[] 33)).cell 0
  have f31 := ((hB.alloc (.cells #[] 5)).alloc (.cells #[] 33)).cell 1
  have f32 := (Own.two ((hB.alloc (.cells #[] 5)).alloc (.cells #[] 33))).cell 1
  simp only [List.getElem?_toArray, List.getElem?_cons_zero, List.getElem?_cons_succ] at f30 f31 f32
  clear hB
  go_wp2
  refine wp_region_held_drew (S := (fun w' : World => w'.cell? ⟨bx, 0, none⟩ = some (.int .i64 to) ∧ w'.cell? ⟨bx, 1, none⟩ = some (.slice ao n cap))) (by kernel_rfl) ⟨r0, r1⟩ (fun hHeld => ?_)
  refine wpAnyH_take (i := 0) (oi := { dst := some 17, op := Op.move (Operand.tmp 0), type := 28, pos := "ref.go:31", after := #[], guard := none }) (v := ?_) rfl (by kernel_rfl) (by kernel_rfl) (by kernel_rfl) (fun _ _ _ h => h) (Or.inl ⟨by rfl, ?_⟩) (by assumption) ?_
  rotate_left
  · (intro wx hSw; (try dsimp only at hSw); go_simp; (try with_reducible rfl))
  (try simp only [Act.put, List.setIfInBounds_toArray, List.set_cons_zero, List.set_cons_succ])
  refine wpAnyH_take (i := 2) (oi := { dst := some 19, op := Op.move (Operand.tmp 0), type := 28, pos := "ref.go:31", after := #[], guard := none }) (v := ?_) rfl (by kernel_rfl) (by kernel_rfl) (by kernel_rfl) (fun _ _ _ h => h) (Or.inl ⟨by rfl, ?_⟩) (by assumption) ?_
  rotate_left
  · (intro wx hSw; (try dsimp only at hSw); go_simp; (try with_reducible rfl))
  (try simp only [Act.put, List.setIfInBounds_toArray, List.set_cons_zero, List.set_cons_succ])
  refine wpAnyH_take (i := 3) (oi := { dst := some 20, op := Op.nilCheck (Operand.tmp 19), type := 0, pos := "ref.go:31", after := #[{ on := 2, ground := Ground.data }], guard := none }) (v := ?_) rfl (by kernel_rfl) (by kernel_rfl) (by kernel_rfl) (fun _ _ _ h => h) (Or.inl ⟨by rfl, ?_⟩) (by assumption) ?_
  rotate_left
  · (intro wx hSw; (try dsimp only at hSw); go_simp; (try with_reducible rfl))
  (try simp only [Act.put, List.setIfInBounds_toArray, List.set_cons_zero, List.set_cons_succ])
  refine wpAnyH_take (i := 4) (oi := { dst := some 21, op := Op.fieldAddr 48 (Operand.tmp 20) 1, type := 0, pos := "ref.go:31", after := #[{ on := 3, ground := Ground.data }], guard := none }) (v := ?_) rfl (by kernel_rfl) (by kernel_rfl) (by kernel_rfl) (fun _ _ _ h => h) (Or.inl ⟨by rfl, ?_⟩) (by assumption) ?_
  rotate_left
  · (intro wx hSw; (try dsimp only at hSw); go_simp; (try with_reducible rfl))
  (try simp only [Act.put, List.setIfInBounds_toArray, List.set_cons_zero, List.set_cons_succ])
  refine wpAnyH_take (i := 7) (oi := { dst := some 24, op := Op.fieldAddr 33 (Operand.tmp 3) 0, type := 0, pos := "ref.go:31", after := #[], guard := none }) (v := ?_) rfl (by kernel_rfl) (by kernel_rfl) (by kernel_rfl) (fun _ _ _ h => h) (Or.inl ⟨by rfl, ?_⟩) (by assumption) ?_
  rotate_left
  · (intro wx hSw; (try dsimp only at hSw); go_simp; (try with_reducible rfl))
  (try simp only [Act.put, List.setIfInBounds_toArray, List.set_cons_zero, List.set_cons_succ])
  refine wpAnyH_take (i := 8) (oi := { dst := some 25, op := Op.load 3 (Operand.tmp 24), type := 3, pos := "ref.go:31", after := #[{ on := 7, ground := Ground.data }], guard := none }) (v := ?_) rfl (by kernel_rfl) (by kernel_rfl) (by kernel_rfl) (fun _ _ _ h => h) (Or.inl ⟨by rfl, ?_⟩) (by assumption) ?_
  rotate_left
  · (intro wx hSw; (try dsimp only at hSw); go_simp; (try with_reducible rfl))
  (try simp only [Act.put, List.setIfInBounds_toArray, List.set_cons_zero, List.set_cons_succ])
  refine wpAnyH_take (i := 10) (oi := { dst := some 27, op := Op.fieldAddr 33 (Operand.tmp 3) 1, type := 0, pos := "ref.go:31", after := #[], guard := none }) (v := ?_) rfl (by kernel_rfl) (by kernel_rfl) (by kernel_rfl) (fun _ _ _ h => h) (Or.inl ⟨by rfl, ?_⟩) (by assumption) ?_
  rotate_left
  · (intro wx hSw; (try dsimp only at hSw); go_simp; (try with_reducible rfl))
  (try simp only [Act.put, List.setIfInBounds_toArray, List.set_cons_zero, List.set_cons_succ])
  refine wpAnyH_take (i := 11) (oi := { dst := some 28, op := Op.load 31 (Operand.tmp 27), type := 31, pos := "ref.go:31", after := #[{ on := 10, ground := Ground.data }], guard := none }) (v := ?_) rfl (by kernel_rfl) (by kernel_rfl) (by kernel_rfl) (fun _ _ _ h => h) (Or.inl ⟨by rfl, ?_⟩) (by assumption) ?_
  rotate_left
  · (intro wx hSw; (try dsimp only at hSw); go_simp; (try with_reducible rfl))
  (try simp only [Act.put, List.setIfInBounds_toArray, List.set_cons_zero, List.set_cons_succ])
  refine wpAnyH_ready (rs := [1, 5, 9]) (by kernel_rfl) (by simp) ?_
  refine AllReadyH.cons (o := { dst := some 18, op := Op.buildSlice 46 0 #[], type := 46, pos := "ref.go:31", after := #[], guard := none }) rfl (fun K hK => ?_) ?_
  · go_simp
    refine hK.out _ _ (by go_keep) (fun hHeld2 => ?_)
    clear hHeld hK K
    have hHeld := hHeld2
    clear hHeld2
    (try simp only [Act.put, List.setIfInBounds_toArray, List.set_cons_zero, List.set_cons_succ])
    refine wpAnyH_ready (rs := [5, 9]) (by kernel_rfl) (by simp) ?_
    refine AllReadyH.cons (o := { dst := some 22, op := Op.load 46 (Operand.tmp 21), type := 46, pos := "ref.go:31", after := #[{ on := 4, ground := Ground.data }], guard := none }) rfl (fun K hK => ?_) ?_
    · go_simp
      refine hK.out _ _ (by go_keep) (fun hHeld2 => ?_)
      clear hHeld hK K
      have hHeld := hHeld2
      clear hHeld2
      (try simp only [Act.put, List.setIfInBounds_toArray, List.set_cons_zero, List.set_cons_succ])
      refine wpAnyH_ready (rs := [6, 9]) (by kernel_rfl) (by simp) ?_
      refine AllReadyH.cons (o := { dst := some 23, op := Op.call { callee := Callee.builtin Builtin.append, args := #[Operand.tmp 18, Operand.tmp 22], argTypes := #[46, 46] }, type := 46, pos := "ref.go:31", after := #[{ on := 1, ground := Ground.data }, { on := 5, ground := Ground.data }], guard := none }) rfl (fun K hK => ?_) ?_
      · refine step_readW rfl _ _ 46 rfl 33 i0 (.agg #[.int .i64 0, .slice none 0 0]) 2 32 Try.underlying46 hi0 hz0 hz1 hz2 rfl (by decide) _ _ _ rfl _ _ _ (cat gel E) rfl HXa.out (length_cat gel 2 gel_len E) HRa.out (one_cat _ gel_one E) (by unfold maxLen; omega) (by omega) ?_
        intro ga ca wa hOa
        simp only [Nat.zero_add, List.nil_append] at hOa
        have a0 := (Own.two hOa).cell 0
        have a1 := (Own.two hOa).cell 1
        simp at a0 a1
        have na1 : wa.heap.size ≠ bx := by have := (Own.two hOa).lt; omega
        have H6 : Hid (Own w0 (wa.alloc (.cells #[] 5)) _) := hOa.litRow #[] 5 1 0 (by decide) rfl
        clear hOa
        refine hK.out _ _ (by go_keep) (fun hHeld2 => ?_)
        clear hHeld hK K
        have hHeld := hHeld2
        clear hHeld2
        (try simp only [Act.put, List.setIfInBounds_toArray, List.set_cons_zero, List.set_cons_succ])
        refine wpAnyH_ready (rs := [9]) (by kernel_rfl) (by simp) ?_
        refine AllReadyH.cons (o := { dst := some 26, op := Op.buildSlice 31 0 #[], type := 31, pos := "ref.go:31", after := #[], guard := none }) rfl (fun K hK => ?_) AllReadyH.nil
        go_simp
        refine hK.out _ _ (by go_keep) (fun hHeld2 => ?_)
        clear hHeld hK K
        have hHeld := hHeld2
        clear hHeld2
        (try simp only [Act.put, List.setIfInBounds_toArray, List.set_cons_zero, List.set_cons_succ])
        refine wpAnyH_ready (rs := [12]) (by kernel_rfl) (by simp) ?_
        refine AllReadyH.cons (o := { dst := some 29, op := Op.call { callee := Callee.builtin Builtin.append, args := #[Operand.tmp 26, Operand.tmp 28], argTypes := #[31, 31] }, type := 31, pos := "ref.go:31", after := #[{ on := 9, ground := Ground.data }, { on := 11, ground := Ground.data }, { on := 6, ground := Ground.chain }], guard := none }) rfl (fun K hK => ?_) AllReadyH.nil
        refine step_readW rfl _ _ 31 rfl 5 j0 (.int .u8 0) 1 1 Try.underlying31 hj0 hy0 hy1 hy2 rfl (by decide) _ _ _ rfl _ _ _ (vrow P) rfl H6.out (by rw [length_vrow, HPL.out, Nat.mul_one]) (HS.out _ [_, _, _, _, _] l H6.out).read.2 (one_vrow P) (by unfold maxLen; omega) (by omega) ?_
        intro gb cb wb hOb
        simp only [Nat.zero_add, List.nil_append] at hOb
        have b0 := (Own.three hOb).cell 0
        have b1 := (Own.three hOb).cell 1
        simp at b0 b1
        have nb1 : wb.heap.size ≠ bx := by have := (Own.three hOb).lt; omega
        have H8 : Hid (Own w0 _ _) := hOb.two.alloc (.cells #[.int .i64 to, .slice gb n cb] 33)
        have H8C : Hid (World.ownsRow _ _ _ _ _ _ _) := (hOb.litRow #[.int .i64 to, .slice gb n cb] 33 2 1 (by decide) rfl).row
        clear hOb H6
        refine hK.out _ _ (by go_keep) (fun hHeld2 => ?_)
        clear hHeld hK K
        have hHeld := hHeld2
        clear hHeld2
        (try simp only [Act.put, List.setIfInBounds_toArray, List.set_cons_zero, List.set_cons_succ])
        refine wpAnyH_take (i := 13) (oi := { dst := some 30, op := Op.build 33 #[(0, Operand.tmp 25), (1, Operand.tmp 29)], type := 33, pos := "ref.go:31", after := #[{ on := 8, ground := Ground.data }, { on := 12, ground := Ground.data }], guard := none }) (v := ?_) rfl (by kernel_rfl) (by kernel_rfl) (by kernel_rfl) (fun _ _ _ h => h) (Or.inl ⟨by rfl, ?_⟩) (by assumption) ?_
        rotate_left
        · (intro wx hSw; (try dsimp only at hSw); go_simp; (try with_reducible rfl))
        (try simp only [Act.put, List.setIfInBounds_toArray, List.set_cons_zero, List.set_cons_succ])
        refine wpAnyH_ready (rs := [14]) (by kernel_rfl) (by simp) ?_
        refine AllReadyH.cons (o := { dst := some 31, op := Op.buildSlice 46 1 #[(0, Operand.tmp 30)], type := 46, pos := "ref.go:31", after := #[{ on := 13, ground := Ground.data }], guard := none }) rfl (fun K hK => ?_) AllReadyH.nil
        go_simp
        refine hK.out _ _ (by go_keep) (fun hHeld2 => ?_)
        clear hHeld hK K
        have hHeld := hHeld2
        clear hHeld2
        (try simp only [Act.put, List.setIfInBounds_toArray, List.set_cons_zero, List.set_cons_succ])
        refine wpAnyH_ready (rs := [15]) (by kernel_rfl) (by simp) ?_
        refine AllReadyH.cons (o := { dst := some 32, op := Op.call { callee := Callee.builtin Builtin.append, args := #[Operand.tmp 23, Operand.tmp 31], argTypes := #[46, 46] }, type := 46, pos := "ref.go:31", after := #[{ on := 6, ground := Ground.data }, { on := 14, ground := Ground.data }, { on := 12, ground := Ground.chain }], guard := none }) rfl (fun K hK => ?_) AllReadyH.nil
        refine step_allW rfl _ _ 46 rfl 33 i0 (.agg #[.int .i64 0, .slice none 0 0]) 2 32 Try.underlying46 hi0 hz0 hz1 hz2 rfl (by decide) _ _ _ rfl _ _ _ _ rfl H8.out H8C.out (by intro u hu; simp at hu; rcases hu with rfl | rfl <;> rfl) (by unfold maxLen; omega) (by omega) ?_
        intro gc cc wc hOc
        have t1 := (Own.four hOc).cell 1
        have t2 := (Own.four hOc).froz 1
        have t3 := (Own.three hOc).cell 0
        have t4 := (Own.three hOc).cell 1
        simp at t1 t3 t4
        refine hK.out _ _ (by go_keep) (fun hHeld2 => ?_)
        clear hHeld hK K
        have hHeld := hHeld2
        clear hHeld2
        (try simp only [Act.put, List.setIfInBounds_toArray, List.set_cons_zero, List.set_cons_succ])
        refine wpAnyH_take (i := 16) (oi := { dst := some 33, op := Op.nilCheck (Operand.tmp 17), type := 0, pos := "ref.go:31", after := #[{ on := 0, ground := Ground.data }, { on := 0, ground := Ground.phase }, { on := 1, ground := Ground.phase }, { on := 2, ground := Ground.phase }, { on := 3, ground := Ground.phase }, { on := 4, ground := Ground.phase }, { on := 5, ground := Ground.phase }, { on := 6, ground := Ground.phase }, { on := 7, ground := Ground.phase }, { on := 8, ground := Ground.phase }, { on := 9, ground := Ground.phase }, { on := 10, ground := Ground.phase }, { on := 11, ground := Ground.phase }, { on := 12, ground := Ground.phase }, { on := 13, ground := Ground.phase }, { on := 14, ground := Ground.phase }, { on := 15, ground := Ground.phase }], guard := none }) (v := ?_) rfl (by kernel_rfl) (by kernel_rfl) (by kernel_rfl) (fun _ _ _ h => h) (Or.inl ⟨by rfl, ?_⟩) (by assumption) ?_
        rotate_left
        · (intro wx hSw; (try dsimp only at hSw); go_simp; (try with_reducible rfl))
        (try simp only [Act.put, List.setIfInBounds_toArray, List.set_cons_zero, List.set_cons_succ])
        refine wpAnyH_take (i := 17) (oi := { dst := some 34, op := Op.fieldAddr 48 (Operand.tmp 33) 1, type := 0, pos := "ref.go:31", after := #[{ on := 16, ground := Ground.data }, { on := 0, ground := Ground.phase }, { on := 1, ground := Ground.phase }, { on := 2, ground := Ground.phase }, { on := 3, ground := Ground.phase }, { on := 4, ground := Ground.phase }, { on := 5, ground := Ground.phase }, { on := 6, ground := Ground.phase }, { on := 7, ground := Ground.phase }, { on := 8, ground := Ground.phase }, { on := 9, ground := Ground.phase }, { on := 10, ground := Ground.phase }, { on := 11, ground := Ground.phase }, { on := 12, ground := Ground.phase }, { on := 13, ground := Ground.phase }, { on := 14, ground := Ground.phase }, { on := 15, ground := Ground.phase }], guard := none }) (v := ?_) rfl (by kernel_rfl) (by kernel_rfl) (by kernel_rfl) (fun _ _ _ h => h) (Or.inl ⟨by rfl, ?_⟩) (by assumption) ?_
        rotate_left
        · (intro wx hSw; (try dsimp only at hSw); go_simp; (try with_reducible rfl))
        (try simp only [Act.put, List.setIfInBounds_toArray, List.set_cons_zero, List.set_cons_succ])
        refine wpAnyH_ready (rs := [18]) (by kernel_rfl) (by simp) ?_
        refine AllReadyH.cons (o := { dst := none, op := Op.store 46 (Operand.tmp 34) (Operand.tmp 32), type := 0, pos := "ref.go:31", after := #[{ on := 17, ground := Ground.data }, { on := 15, ground := Ground.data }, { on := 15, ground := Ground.chain }, { on := 0, ground := Ground.phase }, { on := 1, ground := Ground.phase }, { on := 2, ground := Ground.phase }, { on := 3, ground := Ground.phase }, { on := 4, ground := Ground.phase }, { on := 5, ground := Ground.phase }, { on := 6, ground := Ground.phase }, { on := 7, ground := Ground.phase }, { on := 8, ground := Ground.phase }, { on := 9, ground := Ground.phase }, { on := 10, ground := Ground.phase }, { on := 11, ground := Ground.phase }, { on := 12, ground := Ground.phase }, { on := 13, ground := Ground.phase }, { on := 14, ground := Ground.phase }, { on := 15, ground := Ground.phase }], guard := none }) rfl (fun K hK => ?_) AllReadyH.nil
        go_simp
        refine hK.out _ _ (by go_keep) (fun hHeld2 => ?_)
        clear hHeld hK K
        have hHeld := hHeld2
        clear hHeld2
        (try simp only [Act.put, List.setIfInBounds_toArray, List.set_cons_zero, List.set_cons_succ])
        refine wpAnyH_done (by kernel_rfl) ?_ _
        have H9 : Hid (Own w0 (wc.setCell ⟨b, 1, none⟩ (.slice gc (E.length + 1) cc)) (BagT 48 b N (E ++ [⟨gb, cb, to, P⟩]) :: l)) := HEND.out _ gb cb (.slice gc (E.length + 1) cc) (((Own.four hOc).setC 1 (.slice gc (E.length + 1) cc)).four.tail.four.tail)
        clear hOc H8 H8C
        go_wp2
        go_ret
        exact ⟨rfl, gb, cb, H9.out⟩
      refine AllReadyH.cons (o := { dst := some 26, op := Op.buildSlice 31 0 #[], type := 31, pos := "ref.go:31", after := #[], guard := none }) rfl (fun K hK => ?_) AllReadyH.nil
      go_simp
      refine hK.out _ _ (by go_keep) (fun hHeld2 => ?_)
      clear hHeld hK K
      have hHeld := hHeld2
      clear hHeld2
      (try simp only [Act.put, List.setIfInBounds_toArray, List.set_cons_zero, List.set_cons_succ])
      refine wpAnyH_ready (rs := [6]) (by kernel_rfl) (by simp) ?_
      refine AllReadyH.cons (o := { dst := some 23, op := Op.call { callee := Callee.builtin Builtin.append, args := #[Operand.tmp 18, Operand.tmp 22], argTypes := #[46, 46] }, type := 46, pos := "ref.go:31", after := #[{ on := 1, ground := Ground.data }, { on := 5, ground := Ground.data }], guard := none }) rfl (fun K hK => ?_) AllReadyH.nil
      refine step_readW rfl _ _ 46 rfl 33 i0 (.agg #[.int .i64 0, .slice none 0 0]) 2 32 Try.underlying46 hi0 hz0 hz1 hz2 rfl (by decide) _ _ _ rfl _ _ _ (cat gel E) rfl HXb.out (length_cat gel 2 gel_len E) HRb.out (one_cat _ gel_one E) (by unfold maxLen; omega) (by omega) ?_
      intro ga ca wa hOa
      simp only [Nat.zero_add, List.nil_append] at hOa
      have a0 := (Own.three hOa).cell 0
      have a1 := (Own.three hOa).cell 1
      simp at a0 a1
      have H6 : Hid (Own w0 wa _) := hOa.two
      clear hOa
      refine hK.out _ _ (by go_keep) (fun hHeld2 => ?_)
      clear hHeld hK K
      have hHeld := hHeld2
      clear hHeld2
      (try simp only [Act.put, List.setIfInBounds_toArray, List.set_cons_zero, List.set_cons_succ])
      refine wpAnyH_ready (rs := [12]) (by kernel_rfl) (by simp) ?_
      refine AllReadyH.cons (o := { dst := some 29, op := Op.call { callee := Callee.builtin Builtin.append, args := #[Operand.tmp 26, Operand.tmp 28], argTypes := #[31, 31] }, type := 31, pos := "ref.go:31", after := #[{ on := 9, ground := Ground.data }, { on := 11, ground := Ground.data }, { on := 6, ground := Ground.chain }], guard := none }) rfl (fun K hK => ?_) AllReadyH.nil
      refine step_readW rfl _ _ 31 rfl 5 j0 (.int .u8 0) 1 1 Try.underlying31 hj0 hy0 hy1 hy2 rfl (by decide) _ _ _ rfl _ _ _ (vrow P) rfl H6.out (by rw [length_vrow, HPL.out, Nat.mul_one]) (HS.out _ [_, _, _, _, _] l H6.out).read.2 (one_vrow P) (by unfold maxLen; omega) (by omega) ?_
      intro gb cb wb hOb
      simp only [Nat.zero_add, List.nil_append] at hOb
      have b0 := (Own.three hOb).cell 0
      have b1 := (Own.three hOb).cell 1
      simp at b0 b1
      have nb1 : wb.heap.size ≠ bx := by have := (Own.three hOb).lt; omega
      have H8 : Hid (Own w0 _ _) := hOb.two.alloc (.cells #[.int .i64 to, .slice gb n cb] 33)
      have H8C : Hid (World.ownsRow _ _ _ _ _ _ _) := (hOb.litRow #[.int .i64 to, .slice gb n cb] 33 2 1 (by decide) rfl).row
      clear hOb H6
      refine hK.out _ _ (by go_keep) (fun hHeld2 => ?_)
      clear hHeld hK K
      have hHeld := hHeld2
      clear hHeld2
      (try simp only [Act.put, List.setIfInBounds_toArray, List.set_cons_zero, List.set_cons_succ])
      refine wpAnyH_take (i := 13) (oi := { dst := some 30, op := Op.build 33 #[(0, Operand.tmp 25), (1, Operand.tmp 29)], type := 33, pos := "ref.go:31", after := #[{ on := 8, ground := Ground.data }, { on := 12, ground := Ground.data }], guard := none }) (v := ?_) rfl (by kernel_rfl) (by kernel_rfl) (by kernel_rfl) (fun _ _ _ h => h) (Or.inl ⟨by rfl, ?_⟩) (by assumption) ?_
      rotate_left
      · (intro wx hSw; (try dsimp only at hSw); go_simp; (try with_reducible rfl))
      (try simp only [Act.put, List.setIfInBounds_toArray, List.set_cons_zero, List.set_cons_succ])
      refine wpAnyH_ready (rs := [14]) (by kernel_rfl) (by simp) ?_
      refine AllReadyH.cons (o := { dst := some 31, op := Op.buildSlice 46 1 #[(0, Operand.tmp 30)], type := 46, pos := "ref.go:31", after := #[{ on := 13, ground := Ground.data }], guard := none }) rfl (fun K hK => ?_) AllReadyH.nil
      go_simp
      refine hK.out _ _ (by go_keep) (fun hHeld2 => ?_)
      clear hHeld hK K
      have hHeld := hHeld2
      clear hHeld2
      (try simp only [Act.put, List.setIfInBounds_toArray, List.set_cons_zero, List.set_cons_succ])
      refine wpAnyH_ready (rs := [15]) (by kernel_rfl) (by simp) ?_
      refine AllReadyH.cons (o := { dst := some 32, op := Op.call { callee := Callee.builtin Builtin.append, args := #[Operand.tmp 23, Operand.tmp 31], argTypes := #[46, 46] }, type := 46, pos := "ref.go:31", after := #[{ on := 6, ground := Ground.data }, { on := 14, ground := Ground.data }, { on := 12, ground := Ground.chain }], guard := none }) rfl (fun K hK => ?_) AllReadyH.nil
      refine step_allW rfl _ _ 46 rfl 33 i0 (.agg #[.int .i64 0, .slice none 0 0]) 2 32 Try.underlying46 hi0 hz0 hz1 hz2 rfl (by decide) _ _ _ rfl _ _ _ _ rfl H8.out H8C.out (by intro u hu; simp at hu; rcases hu with rfl | rfl <;> rfl) (by unfold maxLen; omega) (by omega) ?_
      intro gc cc wc hOc
      have t1 := (Own.four hOc).cell 1
      have t2 := (Own.four hOc).froz 1
      have t3 := (Own.three hOc).cell 0
      have t4 := (Own.three hOc).cell 1
      simp at t1 t3 t4
      refine hK.out _ _ (by go_keep) (fun hHeld2 => ?_)
      clear hHeld hK K
      have hHeld := hHeld2
      clear hHeld2
      (try simp only [Act.put, List.setIfInBounds_toArray, List.set_cons_zero, List.set_cons_succ])
      refine wpAnyH_take (i := 16) (oi := { dst := some 33, op := Op.nilCheck (Operand.tmp 17), type := 0, pos := "ref.go:31", after := #[{ on := 0, ground := Ground.data }, { on := 0, ground := Ground.phase }, { on := 1, ground := Ground.phase }, { on := 2, ground := Ground.phase }, { on := 3, ground := Ground.phase }, { on := 4, ground := Ground.phase }, { on := 5, ground := Ground.phase }, { on := 6, ground := Ground.phase }, { on := 7, ground := Ground.phase }, { on := 8, ground := Ground.phase }, { on := 9, ground := Ground.phase }, { on := 10, ground := Ground.phase }, { on := 11, ground := Ground.phase }, { on := 12, ground := Ground.phase }, { on := 13, ground := Ground.phase }, { on := 14, ground := Ground.phase }, { on := 15, ground := Ground.phase }], guard := none }) (v := ?_) rfl (by kernel_rfl) (by kernel_rfl) (by kernel_rfl) (fun _ _ _ h => h) (Or.inl ⟨by rfl, ?_⟩) (by assumption) ?_
      rotate_left
      · (intro wx hSw; (try dsimp only at hSw); go_simp; (try with_reducible rfl))
      (try simp only [Act.put, List.setIfInBounds_toArray, List.set_cons_zero, List.set_cons_succ])
      refine wpAnyH_take (i := 17) (oi := { dst := some 34, op := Op.fieldAddr 48 (Operand.tmp 33) 1, type := 0, pos := "ref.go:31", after := #[{ on := 16, ground := Ground.data }, { on := 0, ground := Ground.phase }, { on := 1, ground := Ground.phase }, { on := 2, ground := Ground.phase }, { on := 3, ground := Ground.phase }, { on := 4, ground := Ground.phase }, { on := 5, ground := Ground.phase }, { on := 6, ground := Ground.phase }, { on := 7, ground := Ground.phase }, { on := 8, ground := Ground.phase }, { on := 9, ground := Ground.phase }, { on := 10, ground := Ground.phase }, { on := 11, ground := Ground.phase }, { on := 12, ground := Ground.phase }, { on := 13, ground := Ground.phase }, { on := 14, ground := Ground.phase }, { on := 15, ground := Ground.phase }], guard := none }) (v := ?_) rfl (by kernel_rfl) (by kernel_rfl) (by kernel_rfl) (fun _ _ _ h => h) (Or.inl ⟨by rfl, ?_⟩) (by assumption) ?_
      rotate_left
      · (intro wx hSw; (try dsimp only at hSw); go_simp; (try with_reducible rfl))
      (try simp only [Act.put, List.setIfInBounds_toArray, List.set_cons_zero, List.set_cons_succ])
      refine wpAnyH_ready (rs := [18]) (by kernel_rfl) (by simp) ?_
      refine AllReadyH.cons (o := { dst := none, op := Op.store 46 (Operand.tmp 34) (Operand.tmp 32), type := 0, pos := "ref.go:31", after := #[{ on := 17, ground := Ground.data }, { on := 15, ground := Ground.data }, { on := 15, ground := Ground.chain }, { on := 0, ground := Ground.phase }, { on := 1, ground := Ground.phase }, { on := 2, ground := Ground.phase }, { on := 3, ground := Ground.phase }, { on := 4, ground := Ground.phase }, { on := 5, ground := Ground.phase }, { on := 6, ground := Ground.phase }, { on := 7, ground := Ground.phase }, { on := 8, ground := Ground.phase }, { on := 9, ground := Ground.phase }, { on := 10, ground := Ground.phase }, { on := 11, ground := Ground.phase }, { on := 12, ground := Ground.phase }, { on := 13, ground := Ground.phase }, { on := 14, ground := Ground.phase }, { on := 15, ground := Ground.phase }], guard := none }) rfl (fun K hK => ?_) AllReadyH.nil
      go_simp
      refine hK.out _ _ (by go_keep) (fun hHeld2 => ?_)
      clear hHeld hK K
      have hHeld := hHeld2
      clear hHeld2
      (try simp only [Act.put, List.setIfInBounds_toArray, List.set_cons_zero, List.set_cons_succ])
      refine wpAnyH_done (by kernel_rfl) ?_ _
      have H9 : Hid (Own w0 (wc.setCell ⟨b, 1, none⟩ (.slice gc (E.length + 1) cc)) (BagT 48 b N (E ++ [⟨gb, cb, to, P⟩]) :: l)) := HEND.out _ gb cb (.slice gc (E.length + 1) cc) (((Own.four hOc).setC 1 (.slice gc (E.length + 1) cc)).four.tail.four.tail)
      clear hOc H8 H8C
      go_wp2
      go_ret
      exact ⟨rfl, gb, cb, H9.out⟩
    refine AllReadyH.cons (o := { dst := some 26, op := Op.buildSlice 31 0 #[], type := 31, pos := "ref.go:31", after := #[], guard := none }) rfl (fun K hK => ?_) AllReadyH.nil
    go_simp
    refine hK.out _ _ (by go_keep) (fun hHeld2 => ?_)
    clear hHeld hK K
    have hHeld := hHeld2
    clear hHeld2
    (try simp only [Act.put, List.setIfInBounds_toArray, List.set_cons_zero, List.set_cons_succ])
    refine wpAnyH_ready (rs := [5]) (by kernel_rfl) (by simp) ?_
    refine AllReadyH.cons (o := { dst := some 22, op := Op.load 46 (Operand.tmp 21), type := 46, pos := "ref.go:31", after := #[{ on := 4, ground := Ground.data }], guard := none }) rfl (fun K hK => ?_) AllReadyH.nil
    go_simp
    refine hK.out _ _ (by go_keep) (fun hHeld2 => ?_)
    clear hHeld hK K
    have hHeld := hHeld2
    clear hHeld2
    (try simp only [Act.put, List.setIfInBounds_toArray, List.set_cons_zero, List.set_cons_succ])
    refine wpAnyH_ready (rs := [6]) (by kernel_rfl) (by simp) ?_
    refine AllReadyH.cons (o := { dst := some 23, op := Op.call { callee := Callee.builtin Builtin.append, args := #[Operand.tmp 18, Operand.tmp 22], argTypes := #[46, 46] }, type := 46, pos := "ref.go:31", after := #[{ on := 1, ground := Ground.data }, { on := 5, ground := Ground.data }], guard := none }) rfl (fun K hK => ?_) AllReadyH.nil
    refine step_readW rfl _ _ 46 rfl 33 i0 (.agg #[.int .i64 0, .slice none 0 0]) 2 32 Try.underlying46 hi0 hz0 hz1 hz2 rfl (by decide) _ _ _ rfl _ _ _ (cat gel E) rfl HXb.out (length_cat gel 2 gel_len E) HRb.out (one_cat _ gel_one E) (by unfold maxLen; omega) (by omega) ?_
    intro ga ca wa hOa
    simp only [Nat.zero_add, List.nil_append] at hOa
    have a0 := (Own.three hOa).cell 0
    have a1 := (Own.three hOa).cell 1
    simp at a0 a1
    have H6 : Hid (Own w0 wa _) := hOa.two
    clear hOa
    refine hK.out _ _ (by go_keep) (fun hHeld2 => ?_)
    clear hHeld hK K
    have hHeld := hHeld2
    clear hHeld2
    (try simp only [Act.put, List.setIfInBounds_toArray, List.set_cons_zero, List.set_cons_succ])
    refine wpAnyH_ready (rs := [12]) (by kernel_rfl) (by simp) ?_
    refine AllReadyH.cons (o := { dst := some 29, op := Op.call { callee := Callee.builtin Builtin.append, args := #[Operand.tmp 26, Operand.tmp 28], argTypes := #[31, 31] }, type := 31, pos := "ref.go:31", after := #[{ on := 9, ground := Ground.data }, { on := 11, ground := Ground.data }, { on := 6, ground := Ground.chain }], guard := none }) rfl (fun K hK => ?_) AllReadyH.nil
    refine step_readW rfl _ _ 31 rfl 5 j0 (.int .u8 0) 1 1 Try.underlying31 hj0 hy0 hy1 hy2 rfl (by decide) _ _ _ rfl _ _ _ (vrow P) rfl H6.out (by rw [length_vrow, HPL.out, Nat.mul_one]) (HS.out _ [_, _, _, _, _] l H6.out).read.2 (one_vrow P) (by unfold maxLen; omega) (by omega) ?_
    intro gb cb wb hOb
    simp only [Nat.zero_add, List.nil_append] at hOb
    have b0 := (Own.three hOb).cell 0
    have b1 := (Own.three hOb).cell 1
    simp at b0 b1
    have nb1 : wb.heap.size ≠ bx := by have := (Own.three hOb).lt; omega
    have H8 : Hid (Own w0 _ _) := hOb.two.alloc (.cells #[.int .i64 to, .slice gb n cb] 33)
    have H8C : Hid (World.ownsRow _ _ _ _ _ _ _) := (hOb.litRow #[.int .i64 to, .slice gb n cb] 33 2 1 (by decide) rfl).row
    clear hOb H6
    refine hK.out _ _ (by go_keep) (fun hHeld2 => ?_)
    clear hHeld hK K
    have hHeld := hHeld2
    clear hHeld2
    (try simp only [Act.put, List.setIfInBounds_toArray, List.set_cons_zero, List.set_cons_succ])
    refine wpAnyH_take (i := 13) (oi := { dst := some 30, op := Op.build 33 #[(0, Operand.tmp 25), (1, Operand.tmp 29)], type := 33, pos := "ref.go:31", after := #[{ on := 8, ground := Ground.data }, { on := 12, ground := Ground.data }], guard := none }) (v := ?_) rfl (by kernel_rfl) (by kernel_rfl) (by kernel_rfl) (fun _ _ _ h => h) (Or.inl ⟨by rfl, ?_⟩) (by assumption) ?_
    rotate_left
    · (intro wx hSw; (try dsimp only at hSw); go_simp; (try with_reducible rfl))
    (try simp only [Act.put, List.setIfInBounds_toArray, List.set_cons_zero, List.set_cons_succ])
    refine wpAnyH_ready (rs := [14]) (by kernel_rfl) (by simp) ?_
    refine AllReadyH.cons (o := { dst := some 31, op := Op.buildSlice 46 1 #[(0, Operand.tmp 30)], type := 46, pos := "ref.go:31", after := #[{ on := 13, ground := Ground.data }], guard := none }) rfl (fun K hK => ?_) AllReadyH.nil
    go_simp
    refine hK.out _ _ (by go_keep) (fun hHeld2 => ?_)
    clear hHeld hK K
    have hHeld := hHeld2
    clear hHeld2
    (try simp only [Act.put, List.setIfInBounds_toArray, List.set_cons_zero, List.set_cons_succ])
    refine wpAnyH_ready (rs := [15]) (by kernel_rfl) (by simp) ?_
    refine AllReadyH.cons (o := { dst := some 32, op := Op.call { callee := Callee.builtin Builtin.append, args := #[Operand.tmp 23, Operand.tmp 31], argTypes := #[46, 46] }, type := 46, pos := "ref.go:31", after := #[{ on := 6, ground := Ground.data }, { on := 14, ground := Ground.data }, { on := 12, ground := Ground.chain }], guard := none }) rfl (fun K hK => ?_) AllReadyH.nil
    refine step_allW rfl _ _ 46 rfl 33 i0 (.agg #[.int .i64 0, .slice none 0 0]) 2 32 Try.underlying46 hi0 hz0 hz1 hz2 rfl (by decide) _ _ _ rfl _ _ _ _ rfl H8.out H8C.out (by intro u hu; simp at hu; rcases hu with rfl | rfl <;> rfl) (by unfold maxLen; omega) (by omega) ?_
    intro gc cc wc hOc
    have t1 := (Own.four hOc).cell 1
    have t2 := (Own.four hOc).froz 1
    have t3 := (Own.three hOc).cell 0
    have t4 := (Own.three hOc).cell 1
    simp at t1 t3 t4
    refine hK.out _ _ (by go_keep) (fun hHeld2 => ?_)
    clear hHeld hK K
    have hHeld := hHeld2
    clear hHeld2
    (try simp only [Act.put, List.setIfInBounds_toArray, List.set_cons_zero, List.set_cons_succ])
    refine wpAnyH_take (i := 16) (oi := { dst := some 33, op := Op.nilCheck (Operand.tmp 17), type := 0, pos := "ref.go:31", after := #[{ on := 0, ground := Ground.data }, { on := 0, ground := Ground.phase }, { on := 1, ground := Ground.phase }, { on := 2, ground := Ground.phase }, { on := 3, ground := Ground.phase }, { on := 4, ground := Ground.phase }, { on := 5, ground := Ground.phase }, { on := 6, ground := Ground.phase }, { on := 7, ground := Ground.phase }, { on := 8, ground := Ground.phase }, { on := 9, ground := Ground.phase }, { on := 10, ground := Ground.phase }, { on := 11, ground := Ground.phase }, { on := 12, ground := Ground.phase }, { on := 13, ground := Ground.phase }, { on := 14, ground := Ground.phase }, { on := 15, ground := Ground.phase }], guard := none }) (v := ?_) rfl (by kernel_rfl) (by kernel_rfl) (by kernel_rfl) (fun _ _ _ h => h) (Or.inl ⟨by rfl, ?_⟩) (by assumption) ?_
    rotate_left
    · (intro wx hSw; (try dsimp only at hSw); go_simp; (try with_reducible rfl))
    (try simp only [Act.put, List.setIfInBounds_toArray, List.set_cons_zero, List.set_cons_succ])
    refine wpAnyH_take (i := 17) (oi := { dst := some 34, op := Op.fieldAddr 48 (Operand.tmp 33) 1, type := 0, pos := "ref.go:31", after := #[{ on := 16, ground := Ground.data }, { on := 0, ground := Ground.phase }, { on := 1, ground := Ground.phase }, { on := 2, ground := Ground.phase }, { on := 3, ground := Ground.phase }, { on := 4, ground := Ground.phase }, { on := 5, ground := Ground.phase }, { on := 6, ground := Ground.phase }, { on := 7, ground := Ground.phase }, { on := 8, ground := Ground.phase }, { on := 9, ground := Ground.phase }, { on := 10, ground := Ground.phase }, { on := 11, ground := Ground.phase }, { on := 12, ground := Ground.phase }, { on := 13, ground := Ground.phase }, { on := 14, ground := Ground.phase }, { on := 15, ground := Ground.phase }], guard := none }) (v := ?_) rfl (by kernel_rfl) (by kernel_rfl) (by kernel_rfl) (fun _ _ _ h => h) (Or.inl ⟨by rfl, ?_⟩) (by assumption) ?_
    rotate_left
    · (intro wx hSw; (try dsimp only at hSw); go_simp; (try with_reducible rfl))
    (try simp only [Act.put, List.setIfInBounds_toArray, List.set_cons_zero, List.set_cons_succ])
    refine wpAnyH_ready (rs := [18]) (by kernel_rfl) (by simp) ?_
    refine AllReadyH.cons (o := { dst := none, op := Op.store 46 (Operand.tmp 34) (Operand.tmp 32), type := 0, pos := "ref.go:31", after := #[{ on := 17, ground := Ground.data }, { on := 15, ground := Ground.data }, { on := 15, ground := Ground.chain }, { on := 0, ground := Ground.phase }, { on := 1, ground := Ground.phase }, { on := 2, ground := Ground.phase }, { on := 3, ground := Ground.phase }, { on := 4, ground := Ground.phase }, { on := 5, ground := Ground.phase }, { on := 6, ground := Ground.phase }, { on := 7, ground := Ground.phase }, { on := 8, ground := Ground.phase }, { on := 9, ground := Ground.phase }, { on := 10, ground := Ground.phase }, { on := 11, ground := Ground.phase }, { on := 12, ground := Ground.phase }, { on := 13, ground := Ground.phase }, { on := 14, ground := Ground.phase }, { on := 15, ground := Ground.phase }], guard := none }) rfl (fun K hK => ?_) AllReadyH.nil
    go_simp
    refine hK.out _ _ (by go_keep) (fun hHeld2 => ?_)
    clear hHeld hK K
    have hHeld := hHeld2
    clear hHeld2
    (try simp only [Act.put, List.setIfInBounds_toArray, List.set_cons_zero, List.set_cons_succ])
    refine wpAnyH_done (by kernel_rfl) ?_ _
    have H9 : Hid (Own w0 (wc.setCell ⟨b, 1, none⟩ (.slice gc (E.length + 1) cc)) (BagT 48 b N (E ++ [⟨gb, cb, to, P⟩]) :: l)) := HEND.out _ gb cb (.slice gc (E.length + 1) cc) (((Own.four hOc).setC 1 (.slice gc (E.length + 1) cc)).four.tail.four.tail)
    clear hOc H8 H8C
    go_wp2
    go_ret
    exact ⟨rfl, gb, cb, H9.out⟩
  refine AllReadyH.cons (o := { dst := some 22, op := Op.load 46 (Operand.tmp 21), type := 46, pos := "ref.go:31", after := #[{ on := 4, ground := Ground.data }], guard := none }) rfl (fun K hK => ?_) ?_
  · go_simp
    refine hK.out _ _ (by go_keep) (fun hHeld2 => ?_)
    clear hHeld hK K
    have hHeld := hHeld2
    clear hHeld2
    (try simp only [Act.put, List.setIfInBounds_toArray, List.set_cons_zero, List.set_cons_succ])
    refine wpAnyH_ready (rs := [1, 9]) (by kernel_rfl) (by simp) ?_
    refine AllReadyH.cons (o := { dst := some 18, op := Op.buildSlice 46 0 #[], type := 46, pos := "ref.go:31", after := #[], guard := none }) rfl (fun K hK => ?_) ?_
    · go_simp
      refine hK.out _ _ (by go_keep) (fun hHeld2 => ?_)
      clear hHeld hK K
      have hHeld := hHeld2
      clear hHeld2
      (try simp only [Act.put, List.setIfInBounds_toArray, List.set_cons_zero, List.set_cons_succ])
      refine wpAnyH_ready (rs := [6, 9]) (by kernel_rfl) (by simp) ?_
      refine AllReadyH.cons (o := { dst := some 23, op := Op.call { callee := Callee.builtin Builtin.append, args := #[Operand.tmp 18, Operand.tmp 22], argTypes := #[46, 46] }, type := 46, pos := "ref.go:31", after := #[{ on := 1, ground := Ground.data }, { on := 5, ground := Ground.data }], guard := none }) rfl (fun K hK => ?_) ?_
      · refine step_readW rfl _ _ 46 rfl 33 i0 (.agg #[.int .i64 0, .slice none 0 0]) 2 32 Try.underlying46 hi0 hz0 hz1 hz2 rfl (by decide) _ _ _ rfl _ _ _ (cat gel E) rfl HXa.out (length_cat gel 2 gel_len E) HRa.out (one_cat _ gel_one E) (by unfold maxLen; omega) (by omega) ?_
        intro ga ca wa hOa
        simp only [Nat.zero_add, List.nil_append] at hOa
        have a0 := (Own.two hOa).cell 0
        have a1 := (Own.two hOa).cell 1
        simp at a0 a1
        have na1 : wa.heap.size ≠ bx := by have := (Own.two hOa).lt; omega
        have H6 : Hid (Own w0 (wa.alloc (.cells #[] 5)) _) := hOa.litRow #[] 5 1 0 (by decide) rfl
        clear hOa
        refine hK.out _ _ (by go_keep) (fun hHeld2 => ?_)
        clear hHeld hK K
        have hHeld := hHeld2
        clear hHeld2
        (try simp only [Act.put, List.setIfInBounds_toArray, List.set_cons_zero, List.set_cons_succ])
        refine wpAnyH_ready (rs := [9]) (by kernel_rfl) (by simp) ?_
        refine AllReadyH.cons (o := { dst := some 26, op := Op.buildSlice 31 0 #[], type := 31, pos := "ref.go:31", after := #[], guard := none }) rfl (fun K hK => ?_) AllReadyH.nil
        go_simp
        refine hK.out _ _ (by go_keep) (fun hHeld2 => ?_)
        clear hHeld hK K
        have hHeld := hHeld2
        clear hHeld2
        (try simp only [Act.put, List.setIfInBounds_toArray, List.set_cons_zero, List.set_cons_succ])
        refine wpAnyH_ready (rs := [12]) (by kernel_rfl) (by simp) ?_
        refine AllReadyH.cons (o := { dst := some 29, op := Op.call { callee := Callee.builtin Builtin.append, args := #[Operand.tmp 26, Operand.tmp 28], argTypes := #[31, 31] }, type := 31, pos := "ref.go:31", after := #[{ on := 9, ground := Ground.data }, { on := 11, ground := Ground.data }, { on := 6, ground := Ground.chain }], guard := none }) rfl (fun K hK => ?_) AllReadyH.nil
        refine step_readW rfl _ _ 31 rfl 5 j0 (.int .u8 0) 1 1 Try.underlying31 hj0 hy0 hy1 hy2 rfl (by decide) _ _ _ rfl _ _ _ (vrow P) rfl H6.out (by rw [length_vrow, HPL.out, Nat.mul_one]) (HS.out _ [_, _, _, _, _] l H6.out).read.2 (one_vrow P) (by unfold maxLen; omega) (by omega) ?_
        intro gb cb wb hOb
        simp only [Nat.zero_add, List.nil_append] at hOb
        have b0 := (Own.three hOb).cell 0
        have b1 := (Own.three hOb).cell 1
        simp at b0 b1
        have nb1 : wb.heap.size ≠ bx := by have := (Own.three hOb).lt; omega
        have H8 : Hid (Own w0 _ _) := hOb.two.alloc (.cells #[.int .i64 to, .slice gb n cb] 33)
        have H8C : Hid (World.ownsRow _ _ _ _ _ _ _) := (hOb.litRow #[.int .i64 to, .slice gb n cb] 33 2 1 (by decide) rfl).row
        clear hOb H6
        refine hK.out _ _ (by go_keep) (fun hHeld2 => ?_)
        clear hHeld hK K
        have hHeld := hHeld2
        clear hHeld2
        (try simp only [Act.put, List.setIfInBounds_toArray, List.set_cons_zero, List.set_cons_succ])
        refine wpAnyH_take (i := 13) (oi := { dst := some 30, op := Op.build 33 #[(0, Operand.tmp 25), (1, Operand.tmp 29)], type := 33, pos := "ref.go:31", after := #[{ on := 8, ground := Ground.data }, { on := 12, ground := Ground.data }], guard := none }) (v := ?_) rfl (by kernel_rfl) (by kernel_rfl) (by kernel_rfl) (fun _ _ _ h => h) (Or.inl ⟨by rfl, ?_⟩) (by assumption) ?_
        rotate_left
        · (intro wx hSw; (try dsimp only at hSw); go_simp; (try with_reducible rfl))
        (try simp only [Act.put, List.setIfInBounds_toArray, List.set_cons_zero, List.set_cons_succ])
        refine wpAnyH_ready (rs := [14]) (by kernel_rfl) (by simp) ?_
        refine AllReadyH.cons (o := { dst := some 31, op := Op.buildSlice 46 1 #[(0, Operand.tmp 30)], type := 46, pos := "ref.go:31", after := #[{ on := 13, ground := Ground.data }], guard := none }) rfl (fun K hK => ?_) AllReadyH.nil
        go_simp
        refine hK.out _ _ (by go_keep) (fun hHeld2 => ?_)
        clear hHeld hK K
        have hHeld := hHeld2
        clear hHeld2
        (try simp only [Act.put, List.setIfInBounds_toArray, List.set_cons_zero, List.set_cons_succ])
        refine wpAnyH_ready (rs := [15]) (by kernel_rfl) (by simp) ?_
        refine AllReadyH.cons (o := { dst := some 32, op := Op.call { callee := Callee.builtin Builtin.append, args := #[Operand.tmp 23, Operand.tmp 31], argTypes := #[46, 46] }, type := 46, pos := "ref.go:31", after := #[{ on := 6, ground := Ground.data }, { on := 14, ground := Ground.data }, { on := 12, ground := Ground.chain }], guard := none }) rfl (fun K hK => ?_) AllReadyH.nil
        refine step_allW rfl _ _ 46 rfl 33 i0 (.agg #[.int .i64 0, .slice none 0 0]) 2 32 Try.underlying46 hi0 hz0 hz1 hz2 rfl (by decide) _ _ _ rfl _ _ _ _ rfl H8.out H8C.out (by intro u hu; simp at hu; rcases hu with rfl | rfl <;> rfl) (by unfold maxLen; omega) (by omega) ?_
        intro gc cc wc hOc
        have t1 := (Own.four hOc).cell 1
        have t2 := (Own.four hOc).froz 1
        have t3 := (Own.three hOc).cell 0
        have t4 := (Own.three hOc).cell 1
        simp at t1 t3 t4
        refine hK.out _ _ (by go_keep) (fun hHeld2 => ?_)
        clear hHeld hK K
        have hHeld := hHeld2
        clear hHeld2
        (try simp only [Act.put, List.setIfInBounds_toArray, List.set_cons_zero, List.set_cons_succ])
        refine wpAnyH_take (i := 16) (oi := { dst := some 33, op := Op.nilCheck (Operand.tmp 17), type := 0, pos := "ref.go:31", after := #[{ on := 0, ground := Ground.data }, { on := 0, ground := Ground.phase }, { on := 1, ground := Ground.phase }, { on := 2, ground := Ground.phase }, { on := 3, ground := Ground.phase }, { on := 4, ground := Ground.phase }, { on := 5, ground := Ground.phase }, { on := 6, ground := Ground.phase }, { on := 7, ground := Ground.phase }, { on := 8, ground := Ground.phase }, { on := 9, ground := Ground.phase }, { on := 10, ground := Ground.phase }, { on := 11, ground := Ground.phase }, { on := 12, ground := Ground.phase }, { on := 13, ground := Ground.phase }, { on := 14, ground := Ground.phase }, { on := 15, ground := Ground.phase }], guard := none }) (v := ?_) rfl (by kernel_rfl) (by kernel_rfl) (by kernel_rfl) (fun _ _ _ h => h) (Or.inl ⟨by rfl, ?_⟩) (by assumption) ?_
        rotate_left
        · (intro wx hSw; (try dsimp only at hSw); go_simp; (try with_reducible rfl))
        (try simp only [Act.put, List.setIfInBounds_toArray, List.set_cons_zero, List.set_cons_succ])
        refine wpAnyH_take (i := 17) (oi := { dst := some 34, op := Op.fieldAddr 48 (Operand.tmp 33) 1, type := 0, pos := "ref.go:31", after := #[{ on := 16, ground := Ground.data }, { on := 0, ground := Ground.phase }, { on := 1, ground := Ground.phase }, { on := 2, ground := Ground.phase }, { on := 3, ground := Ground.phase }, { on := 4, ground := Ground.phase }, { on := 5, ground := Ground.phase }, { on := 6, ground := Ground.phase }, { on := 7, ground := Ground.phase }, { on := 8, ground := Ground.phase }, { on := 9, ground := Ground.phase }, { on := 10, ground := Ground.phase }, { on := 11, ground := Ground.phase }, { on := 12, ground := Ground.phase }, { on := 13, ground := Ground.phase }, { on := 14, ground := Ground.phase }, { on := 15, ground := Ground.phase }], guard := none }) (v := ?_) rfl (by kernel_rfl) (by kernel_rfl) (by kernel_rfl) (fun _ _ _ h => h) (Or.inl ⟨by rfl, ?_⟩) (by assumption) ?_
        rotate_left
        · (intro wx hSw; (try dsimp only at hSw); go_simp; (try with_reducible rfl))
        (try simp only [Act.put, List.setIfInBounds_toArray, List.set_cons_zero, List.set_cons_succ])
        refine wpAnyH_ready (rs := [18]) (by kernel_rfl) (by simp) ?_
        refine AllReadyH.cons (o := { dst := none, op := Op.store 46 (Operand.tmp 34) (Operand.tmp 32), type := 0, pos := "ref.go:31", after := #[{ on := 17, ground := Ground.data }, { on := 15, ground := Ground.data }, { on := 15, ground := Ground.chain }, { on := 0, ground := Ground.phase }, { on := 1, ground := Ground.phase }, { on := 2, ground := Ground.phase }, { on := 3, ground := Ground.phase }, { on := 4, ground := Ground.phase }, { on := 5, ground := Ground.phase }, { on := 6, ground := Ground.phase }, { on := 7, ground := Ground.phase }, { on := 8, ground := Ground.phase }, { on := 9, ground := Ground.phase }, { on := 10, ground := Ground.phase }, { on := 11, ground := Ground.phase }, { on := 12, ground := Ground.phase }, { on := 13, ground := Ground.phase }, { on := 14, ground := Ground.phase }, { on := 15, ground := Ground.phase }], guard := none }) rfl (fun K hK => ?_) AllReadyH.nil
        go_simp
        refine hK.out _ _ (by go_keep) (fun hHeld2 => ?_)
        clear hHeld hK K
        have hHeld := hHeld2
        clear hHeld2
        (try simp only [Act.put, List.setIfInBounds_toArray, List.set_cons_zero, List.set_cons_succ])
        refine wpAnyH_done (by kernel_rfl) ?_ _
        have H9 : Hid (Own w0 (wc.setCell ⟨b, 1, none⟩ (.slice gc (E.length + 1) cc)) (BagT 48 b N (E ++ [⟨gb, cb, to, P⟩]) :: l)) := HEND.out _ gb cb (.slice gc (E.length + 1) cc) (((Own.four hOc).setC 1 (.slice gc (E.length + 1) cc)).four.tail.four.tail)
        clear hOc H8 H8C
        go_wp2
        go_ret
        exact ⟨rfl, gb, cb, H9.out⟩
      refine AllReadyH.cons (o := { dst := some 26, op := Op.buildSlice 31 0 #[], type := 31, pos := "ref.go:31", after := #[], guard := none }) rfl (fun K hK => ?_) AllReadyH.nil
      go_simp
      refine hK.out _ _ (by go_keep) (fun hHeld2 => ?_)
      clear hHeld hK K
      have hHeld := hHeld2
      clear hHeld2
      (try simp only [Act.put, List.setIfInBounds_toArray, List.set_cons_zero, List.set_cons_succ])
      refine wpAnyH_ready (rs := [6]) (by kernel_rfl) (by simp) ?_
      refine AllReadyH.cons (o := { dst := some 23, op := Op.call { callee := Callee.builtin Builtin.append, args := #[Operand.tmp 18, Operand.tmp 22], argTypes := #[46, 46] }, type := 46, pos := "ref.go:31", after := #[{ on := 1, ground := Ground.data }, { on := 5, ground := Ground.data }], guard := none }) rfl (fun K hK => ?_) AllReadyH.nil
      refine step_readW rfl _ _ 46 rfl 33 i0 (.agg #[.int .i64 0, .slice none 0 0]) 2 32 Try.underlying46 hi0 hz0 hz1 hz2 rfl (by decide) _ _ _ rfl _ _ _ (cat gel E) rfl HXb.out (length_cat gel 2 gel_len E) HRb.out (one_cat _ gel_one E) (by unfold maxLen; omega) (by omega) ?_
      intro ga ca wa hOa
      simp only [Nat.zero_add, List.nil_append] at hOa
      have a0 := (Own.three hOa).cell 0
      have a1 := (Own.three hOa).cell 1
      simp at a0 a1
      have H6 : Hid (Own w0 wa _) := hOa.two
      clear hOa
      refine hK.out _ _ (by go_keep) (fun hHeld2 => ?_)
      clear hHeld hK K
      have hHeld := hHeld2
      clear hHeld2
      (try simp only [Act.put, List.setIfInBounds_toArray, List.set_cons_zero, List.set_cons_succ])
      refine wpAnyH_ready (rs := [12]) (by kernel_rfl) (by simp) ?_
      refine AllReadyH.cons (o := { dst := some 29, op := Op.call { callee := Callee.builtin Builtin.append, args := #[Operand.tmp 26, Operand.tmp 28], argTypes := #[31, 31] }, type := 31, pos := "ref.go:31", after := #[{ on := 9, ground := Ground.data }, { on := 11, ground := Ground.data }, { on := 6, ground := Ground.chain }], guard := none }) rfl (fun K hK => ?_) AllReadyH.nil
      refine step_readW rfl _ _ 31 rfl 5 j0 (.int .u8 0) 1 1 Try.underlying31 hj0 hy0 hy1 hy2 rfl (by decide) _ _ _ rfl _ _ _ (vrow P) rfl H6.out (by rw [length_vrow, HPL.out, Nat.mul_one]) (HS.out _ [_, _, _, _, _] l H6.out).read.2 (one_vrow P) (by unfold maxLen; omega) (by omega) ?_
      intro gb cb wb hOb
      simp only [Nat.zero_add, List.nil_append] at hOb
      have b0 := (Own.three hOb).cell 0
      have b1 := (Own.three hOb).cell 1
      simp at b0 b1
      have nb1 : wb.heap.size ≠ bx := by have := (Own.three hOb).lt; omega
      have H8 : Hid (Own w0 _ _) := hOb.two.alloc (.cells #[.int .i64 to, .slice gb n cb] 33)
      have H8C : Hid (World.ownsRow _ _ _ _ _ _ _) := (hOb.litRow #[.int .i64 to, .slice gb n cb] 33 2 1 (by decide) rfl).row
      clear hOb H6
      refine hK.out _ _ (by go_keep) (fun hHeld2 => ?_)
      clear hHeld hK K
      have hHeld := hHeld2
      clear hHeld2
      (try simp only [Act.put, List.setIfInBounds_toArray, List.set_cons_zero, List.set_cons_succ])
      refine wpAnyH_take (i := 13) (oi := { dst := some 30, op := Op.build 33 #[(0, Operand.tmp 25), (1, Operand.tmp 29)], type := 33, pos := "ref.go:31", after := #[{ on := 8, ground := Ground.data }, { on := 12, ground := Ground.data }], guard := none }) (v := ?_) rfl (by kernel_rfl) (by kernel_rfl) (by kernel_rfl) (fun _ _ _ h => h) (Or.inl ⟨by rfl, ?_⟩) (by assumption) ?_
      rotate_left
      · (intro wx hSw; (try dsimp only at hSw); go_simp; (try with_reducible rfl))
      (try simp only [Act.put, List.setIfInBounds_toArray, List.set_cons_zero, List.set_cons_succ])
      refine wpAnyH_ready (rs := [14]) (by kernel_rfl) (by simp) ?_
      refine AllReadyH.cons (o := { dst := some 31, op := Op.buildSlice 46 1 #[(0, Operand.tmp 30)], type := 46, pos := "ref.go:31", after := #[{ on := 13, ground := Ground.data }], guard := none }) rfl (fun K hK => ?_) AllReadyH.nil
      go_simp
      refine hK.out _ _ (by go_keep) (fun hHeld2 => ?_)
      clear hHeld hK K
      have hHeld := hHeld2
      clear hHeld2
      (try simp only [Act.put, List.setIfInBounds_toArray, List.set_cons_zero, List.set_cons_succ])
      refine wpAnyH_ready (rs := [15]) (by kernel_rfl) (by simp) ?_
      refine AllReadyH.cons (o := { dst := some 32, op := Op.call { callee := Callee.builtin Builtin.append, args := #[Operand.tmp 23, Operand.tmp 31], argTypes := #[46, 46] }, type := 46, pos := "ref.go:31", after := #[{ on := 6, ground := Ground.data }, { on := 14, ground := Ground.data }, { on := 12, ground := Ground.chain }], guard := none }) rfl (fun K hK => ?_) AllReadyH.nil
      refine step_allW rfl _ _ 46 rfl 33 i0 (.agg #[.int .i64 0, .slice none 0 0]) 2 32 Try.underlying46 hi0 hz0 hz1 hz2 rfl (by decide) _ _ _ rfl _ _ _ _ rfl H8.out H8C.out (by intro u hu; simp at hu; rcases hu with rfl | rfl <;> rfl) (by unfold maxLen; omega) (by omega) ?_
      intro gc cc wc hOc
      have t1 := (Own.four hOc).cell 1
      have t2 := (Own.four hOc).froz 1
      have t3 := (Own.three hOc).cell 0
      have t4 := (Own.three hOc).cell 1
      simp at t1 t3 t4
      refine hK.out _ _ (by go_keep) (fun hHeld2 => ?_)
      clear hHeld hK K
      have hHeld := hHeld2
      clear hHeld2
      (try simp only [Act.put, List.setIfInBounds_toArray, List.set_cons_zero, List.set_cons_succ])
      refine wpAnyH_take (i := 16) (oi := { dst := some 33, op := Op.nilCheck (Operand.tmp 17), type := 0, pos := "ref.go:31", after := #[{ on := 0, ground := Ground.data }, { on := 0, ground := Ground.phase }, { on := 1, ground := Ground.phase }, { on := 2, ground := Ground.phase }, { on := 3, ground := Ground.phase }, { on := 4, ground := Ground.phase }, { on := 5, ground := Ground.phase }, { on := 6, ground := Ground.phase }, { on := 7, ground := Ground.phase }, { on := 8, ground := Ground.phase }, { on := 9, ground := Ground.phase }, { on := 10, ground := Ground.phase }, { on := 11, ground := Ground.phase }, { on := 12, ground := Ground.phase }, { on := 13, ground := Ground.phase }, { on := 14, ground := Ground.phase }, { on := 15, ground := Ground.phase }], guard := none }) (v := ?_) rfl (by kernel_rfl) (by kernel_rfl) (by kernel_rfl) (fun _ _ _ h => h) (Or.inl ⟨by rfl, ?_⟩) (by assumption) ?_
      rotate_left
      · (intro wx hSw; (try dsimp only at hSw); go_simp; (try with_reducible rfl))
      (try simp only [Act.put, List.setIfInBounds_toArray, List.set_cons_zero, List.set_cons_succ])
      refine wpAnyH_take (i := 17) (oi := { dst := some 34, op := Op.fieldAddr 48 (Operand.tmp 33) 1, type := 0, pos := "ref.go:31", after := #[{ on := 16, ground := Ground.data }, { on := 0, ground := Ground.phase }, { on := 1, ground := Ground.phase }, { on := 2, ground := Ground.phase }, { on := 3, ground := Ground.phase }, { on := 4, ground := Ground.phase }, { on := 5, ground := Ground.phase }, { on := 6, ground := Ground.phase }, { on := 7, ground := Ground.phase }, { on := 8, ground := Ground.phase }, { on := 9, ground := Ground.phase }, { on := 10, ground := Ground.phase }, { on := 11, ground := Ground.phase }, { on := 12, ground := Ground.phase }, { on := 13, ground := Ground.phase }, { on := 14, ground := Ground.phase }, { on := 15, ground := Ground.phase }], guard := none }) (v := ?_) rfl (by kernel_rfl) (by kernel_rfl) (by kernel_rfl) (fun _ _ _ h => h) (Or.inl ⟨by rfl, ?_⟩) (by assumption) ?_
      rotate_left
      · (intro wx hSw; (try dsimp only at hSw); go_simp; (try with_reducible rfl))
      (try simp only [Act.put, List.setIfInBounds_toArray, List.set_cons_zero, List.set_cons_succ])
      refine wpAnyH_ready (rs := [18]) (by kernel_rfl) (by simp) ?_
      refine AllReadyH.cons (o := { dst := none, op := Op.store 46 (Operand.tmp 34) (Operand.tmp 32), type := 0, pos := "ref.go:31", after := #[{ on := 17, ground := Ground.data }, { on := 15, ground := Ground.data }, { on := 15, ground := Ground.chain }, { on := 0, ground := Ground.phase }, { on := 1, ground := Ground.phase }, { on := 2, ground := Ground.phase }, { on := 3, ground := Ground.phase }, { on := 4, ground := Ground.phase }, { on := 5, ground := Ground.phase }, { on := 6, ground := Ground.phase }, { on := 7, ground := Ground.phase }, { on := 8, ground := Ground.phase }, { on := 9, ground := Ground.phase }, { on := 10, ground := Ground.phase }, { on := 11, ground := Ground.phase }, { on := 12, ground := Ground.phase }, { on := 13, ground := Ground.phase }, { on := 14, ground := Ground.phase }, { on := 15, ground := Ground.phase }], guard := none }) rfl (fun K hK => ?_) AllReadyH.nil
      go_simp
      refine hK.out _ _ (by go_keep) (fun hHeld2 => ?_)
      clear hHeld hK K
      have hHeld := hHeld2
      clear hHeld2
      (try simp only [Act.put, List.setIfInBounds_toArray, List.set_cons_zero, List.set_cons_succ])
      refine wpAnyH_done (by kernel_rfl) ?_ _
      have H9 : Hid (Own w0 (wc.setCell ⟨b, 1, none⟩ (.slice gc (E.length + 1) cc)) (BagT 48 b N (E ++ [⟨gb, cb, to, P⟩]) :: l)) := HEND.out _ gb cb (.slice gc (E.length + 1) cc) (((Own.four hOc).setC 1 (.slice gc (E.length + 1) cc)).four.tail.four.tail)
      clear hOc H8 H8C
      go_wp2
      go_ret
      exact ⟨rfl, gb, cb, H9.out⟩
    refine AllReadyH.cons (o := { dst := some 26, op := Op.buildSlice 31 0 #[], type := 31, pos := "ref.go:31", after := #[], guard := none }) rfl (fun K hK => ?_) AllReadyH.nil
    go_simp
    refine hK.out _ _ (by go_keep) (fun hHeld2 => ?_)
    clear hHeld hK K
    have hHeld := hHeld2
    clear hHeld2
    (try simp only [Act.put, List.setIfInBounds_toArray, List.set_cons_zero, List.set_cons_succ])
    refine wpAnyH_ready (rs := [1]) (by kernel_rfl) (by simp) ?_
    refine AllReadyH.cons (o := { dst := some 18, op := Op.buildSlice 46 0 #[], type := 46, pos := "ref.go:31", after := #[], guard := none }) rfl (fun K hK => ?_) AllReadyH.nil
    go_simp
    refine hK.out _ _ (by go_keep) (fun hHeld2 => ?_)
    clear hHeld hK K
    have hHeld := hHeld2
    clear hHeld2
    (try simp only [Act.put, List.setIfInBounds_toArray, List.set_cons_zero, List.set_cons_succ])
    refine wpAnyH_ready (rs := [6]) (by kernel_rfl) (by simp) ?_
    refine AllReadyH.cons (o := { dst := some 23, op := Op.call { callee := Callee.builtin Builtin.append, args := #[Operand.tmp 18, Operand.tmp 22], argTypes := #[46, 46] }, type := 46, pos := "ref.go:31", after := #[{ on := 1, ground := Ground.data }, { on := 5, ground := Ground.data }], guard := none }) rfl (fun K hK => ?_) AllReadyH.nil
    refine step_readW rfl _ _ 46 rfl 33 i0 (.agg #[.int .i64 0, .slice none 0 0]) 2 32 Try.underlying46 hi0 hz0 hz1 hz2 rfl (by decide) _ _ _ rfl _ _ _ (cat gel E) rfl HXc.out (length_cat gel 2 gel_len E) HRc.out (one_cat _ gel_one E) (by unfold maxLen; omega) (by omega) ?_
    intro ga ca wa hOa
    simp only [Nat.zero_add, List.nil_append] at hOa
    have a0 := (Own.three hOa).cell 0
    have a1 := (Own.three hOa).cell 1
    simp at a0 a1
    have H6 : Hid (Own w0 wa _) := hOa.two
    clear hOa
    refine hK.out _ _ (by go_keep) (fun hHeld2 => ?_)
    clear hHeld hK K
    have hHeld := hHeld2
    clear hHeld2
    (try simp only [Act.put, List.setIfInBounds_toArray, List.set_cons_zero, List.set_cons_succ])
    refine wpAnyH_ready (rs := [12]) (by kernel_rfl) (by simp) ?_
    refine AllReadyH.cons (o := { dst := some 29, op := Op.call { callee := Callee.builtin Builtin.append, args := #[Operand.tmp 26, Operand.tmp 28], argTypes := #[31, 31] }, type := 31, pos := "ref.go:31", after := #[{ on := 9, ground := Ground.data }, { on := 11, ground := Ground.data }, { on := 6, ground := Ground.chain }], guard := none }) rfl (fun K hK => ?_) AllReadyH.nil
    refine step_readW rfl _ _ 31 rfl 5 j0 (.int .u8 0) 1 1 Try.underlying31 hj0 hy0 hy1 hy2 rfl (by decide) _ _ _ rfl _ _ _ (vrow P) rfl H6.out (by rw [length_vrow, HPL.out, Nat.mul_one]) (HS.out _ [_, _, _, _, _] l H6.out).read.2 (one_vrow P) (by unfold maxLen; omega) (by omega) ?_
    intro gb cb wb hOb
    simp only [Nat.zero_add, List.nil_append] at hOb
    have b0 := (Own.three hOb).cell 0
    have b1 := (Own.three hOb).cell 1
    simp at b0 b1
    have nb1 : wb.heap.size ≠ bx := by have := (Own.three hOb).lt; omega
    have H8 : Hid (Own w0 _ _) := hOb.two.alloc (.cells #[.int .i64 to, .slice gb n cb] 33)
    have H8C : Hid (World.ownsRow _ _ _ _ _ _ _) := (hOb.litRow #[.int .i64 to, .slice gb n cb] 33 2 1 (by decide) rfl).row
    clear hOb H6
    refine hK.out _ _ (by go_keep) (fun hHeld2 => ?_)
    clear hHeld hK K
    have hHeld := hHeld2
    clear hHeld2
    (try simp only [Act.put, List.setIfInBounds_toArray, List.set_cons_zero, List.set_cons_succ])
    refine wpAnyH_take (i := 13) (oi := { dst := some 30, op := Op.build 33 #[(0, Operand.tmp 25), (1, Operand.tmp 29)], type := 33, pos := "ref.go:31", after := #[{ on := 8, ground := Ground.data }, { on := 12, ground := Ground.data }], guard := none }) (v := ?_) rfl (by kernel_rfl) (by kernel_rfl) (by kernel_rfl) (fun _ _ _ h => h) (Or.inl ⟨by rfl, ?_⟩) (by assumption) ?_
    rotate_left
    · (intro wx hSw; (try dsimp only at hSw); go_simp; (try with_reducible rfl))
    (try simp only [Act.put, List.setIfInBounds_toArray, List.set_cons_zero, List.set_cons_succ])
    refine wpAnyH_ready (rs := [14]) (by kernel_rfl) (by simp) ?_
    refine AllReadyH.cons (o := { dst := some 31, op := Op.buildSlice 46 1 #[(0, Operand.tmp 30)], type := 46, pos := "ref.go:31", after := #[{ on := 13, ground := Ground.data }], guard := none }) rfl (fun K hK => ?_) AllReadyH.nil
    go_simp
    refine hK.out _ _ (by go_keep) (fun hHeld2 => ?_)
    clear hHeld hK K
    have hHeld := hHeld2
    clear hHeld2
    (try simp only [Act.put, List.setIfInBounds_toArray, List.set_cons_zero, List.set_cons_succ])
    refine wpAnyH_ready (rs := [15]) (by kernel_rfl) (by simp) ?_
    refine AllReadyH.cons (o := { dst := some 32, op := Op.call { callee := Callee.builtin Builtin.append, args := #[Operand.tmp 23, Operand.tmp 31], argTypes := #[46, 46] }, type := 46, pos := "ref.go:31", after := #[{ on := 6, ground := Ground.data }, { on := 14, ground := Ground.data }, { on := 12, ground := Ground.chain }], guard := none }) rfl (fun K hK => ?_) AllReadyH.nil
    refine step_allW rfl _ _ 46 rfl 33 i0 (.agg #[.int .i64 0, .slice none 0 0]) 2 32 Try.underlying46 hi0 hz0 hz1 hz2 rfl (by decide) _ _ _ rfl _ _ _ _ rfl H8.out H8C.out (by intro u hu; simp at hu; rcases hu with rfl | rfl <;> rfl) (by unfold maxLen; omega) (by omega) ?_
    intro gc cc wc hOc
    have t1 := (Own.four hOc).cell 1
    have t2 := (Own.four hOc).froz 1
    have t3 := (Own.three hOc).cell 0
    have t4 := (Own.three hOc).cell 1
    simp at t1 t3 t4
    refine hK.out _ _ (by go_keep) (fun hHeld2 => ?_)
    clear hHeld hK K
    have hHeld := hHeld2
    clear hHeld2
    (try simp only [Act.put, List.setIfInBounds_toArray, List.set_cons_zero, List.set_cons_succ])
    refine wpAnyH_take (i := 16) (oi := { dst := some 33, op := Op.nilCheck (Operand.tmp 17), type := 0, pos := "ref.go:31", after := #[{ on := 0, ground := Ground.data }, { on := 0, ground := Ground.phase }, { on := 1, ground := Ground.phase }, { on := 2, ground := Ground.phase }, { on := 3, ground := Ground.phase }, { on := 4, ground := Ground.phase }, { on := 5, ground := Ground.phase }, { on := 6, ground := Ground.phase }, { on := 7, ground := Ground.phase }, { on := 8, ground := Ground.phase }, { on := 9, ground := Ground.phase }, { on := 10, ground := Ground.phase }, { on := 11, ground := Ground.phase }, { on := 12, ground := Ground.phase }, { on := 13, ground := Ground.phase }, { on := 14, ground := Ground.phase }, { on := 15, ground := Ground.phase }], guard := none }) (v := ?_) rfl (by kernel_rfl) (by kernel_rfl) (by kernel_rfl) (fun _ _ _ h => h) (Or.inl ⟨by rfl, ?_⟩) (by assumption) ?_
    rotate_left
    · (intro wx hSw; (try dsimp only at hSw); go_simp; (try with_reducible rfl))
    (try simp only [Act.put, List.setIfInBounds_toArray, List.set_cons_zero, List.set_cons_succ])
    refine wpAnyH_take (i := 17) (oi := { dst := some 34, op := Op.fieldAddr 48 (Operand.tmp 33) 1, type := 0, pos := "ref.go:31", after := #[{ on := 16, ground := Ground.data }, { on := 0, ground := Ground.phase }, { on := 1, ground := Ground.phase }, { on := 2, ground := Ground.phase }, { on := 3, ground := Ground.phase }, { on := 4, ground := Ground.phase }, { on := 5, ground := Ground.phase }, { on := 6, ground := Ground.phase }, { on := 7, ground := Ground.phase }, { on := 8, ground := Ground.phase }, { on := 9, ground := Ground.phase }, { on := 10, ground := Ground.phase }, { on := 11, ground := Ground.phase }, { on := 12, ground := Ground.phase }, { on := 13, ground := Ground.phase }, { on := 14, ground := Ground.phase }, { on := 15, ground := Ground.phase }], guard := none }) (v := ?_) rfl (by kernel_rfl) (by kernel_rfl) (by kernel_rfl) (fun _ _ _ h => h) (Or.inl ⟨by rfl, ?_⟩) (by assumption) ?_
    rotate_left
    · (intro wx hSw; (try dsimp only at hSw); go_simp; (try with_reducible rfl))
    (try simp only [Act.put, List.setIfInBounds_toArray, List.set_cons_zero, List.set_cons_succ])
    refine wpAnyH_ready (rs := [18]) (by kernel_rfl) (by simp) ?_
    refine AllReadyH.cons (o := { dst := none, op := Op.store 46 (Operand.tmp 34) (Operand.tmp 32), type := 0, pos := "ref.go:31", after := #[{ on := 17, ground := Ground.data }, { on := 15, ground := Ground.data }, { on := 15, ground := Ground.chain }, { on := 0, ground := Ground.phase }, { on := 1, ground := Ground.phase }, { on := 2, ground := Ground.phase }, { on := 3, ground := Ground.phase }, { on := 4, ground := Ground.phase }, { on := 5, ground := Ground.phase }, { on := 6, ground := Ground.phase }, { on := 7, ground := Ground.phase }, { on := 8, ground := Ground.phase }, { on := 9, ground := Ground.phase }, { on := 10, ground := Ground.phase }, { on := 11, ground := Ground.phase }, { on := 12, ground := Ground.phase }, { on := 13, ground := Ground.phase }, { on := 14, ground := Ground.phase }, { on := 15, ground := Ground.phase }], guard := none }) rfl (fun K hK => ?_) AllReadyH.nil
    go_simp
    refine hK.out _ _ (by go_keep) (fun hHeld2 => ?_)
    clear hHeld hK K
    have hHeld := hHeld2
    clear hHeld2
    (try simp only [Act.put, List.setIfInBounds_toArray, List.set_cons_zero, List.set_cons_succ])
    refine wpAnyH_done (by kernel_rfl) ?_ _
    have H9 : Hid (Own w0 (wc.setCell ⟨b, 1, none⟩ (.slice gc (E.length + 1) cc)) (BagT 48 b N (E ++ [⟨gb, cb, to, P⟩]) :: l)) := HEND.out _ gb cb (.slice gc (E.length + 1) cc) (((Own.four hOc).setC 1 (.slice gc (E.length + 1) cc)).four.tail.four.tail)
    clear hOc H8 H8C
    go_wp2
    go_ret
    exact ⟨rfl, gb, cb, H9.out⟩
  refine AllReadyH.cons (o := { dst := some 26, op := Op.buildSlice 31 0 #[], type := 31, pos := "ref.go:31", after := #[], guard := none }) rfl (fun K hK => ?_) AllReadyH.nil
  go_simp
  refine hK.out _ _ (by go_keep) (fun hHeld2 => ?_)
  clear hHeld hK K
  have hHeld := hHeld2
  clear hHeld2
  (try simp only [Act.put, List.setIfInBounds_toArray, List.set_cons_zero, List.set_cons_succ])
  refine wpAnyH_ready (rs := [1, 5]) (by kernel_rfl) (by simp) ?_
  refine AllReadyH.cons (o := { dst := some 18, op := Op.buildSlice 46 0 #[], type := 46, pos := "ref.go:31", after := #[], guard := none }) rfl (fun K hK => ?_) ?_
  · go_simp
    refine hK.out _ _ (by go_keep) (fun hHeld2 => ?_)
    clear hHeld hK K
    have hHeld := hHeld2
    clear hHeld2
    (try simp only [Act.put, List.setIfInBounds_toArray, List.set_cons_zero, List.set_cons_succ])
    refine wpAnyH_ready (rs := [5]) (by kernel_rfl) (by simp) ?_
    refine AllReadyH.cons (o := { dst := some 22, op := Op.load 46 (Operand.tmp 21), type := 46, pos := "ref.go:31", after := #[{ on := 4, ground := Ground.data }], guard := none }) rfl (fun K hK => ?_) AllReadyH.nil
    go_simp
    refine hK.out _ _ (by go_keep) (fun hHeld2 => ?_)
    clear hHeld hK K
    have hHeld := hHeld2
    clear hHeld2
    (try simp only [Act.put, List.setIfInBounds_toArray, List.set_cons_zero, List.set_cons_succ])
    refine wpAnyH_ready (rs := [6]) (by kernel_rfl) (by simp) ?_
    refine AllReadyH.cons (o := { dst := some 23, op := Op.call { callee := Callee.builtin Builtin.append, args := #[Operand.tmp 18, Operand.tmp 22], argTypes := #[46, 46] }, type := 46, pos := "ref.go:31", after := #[{ on := 1, ground := Ground.data }, { on := 5, ground := Ground.data }], guard := none }) rfl (fun K hK => ?_) AllReadyH.nil
    refine step_readW rfl _ _ 46 rfl 33 i0 (.agg #[.int .i64 0, .slice none 0 0]) 2 32 Try.underlying46 hi0 hz0 hz1 hz2 rfl (by decide) _ _ _ rfl _ _ _ (cat gel E) rfl HXc.out (length_cat gel 2 gel_len E) HRc.out (one_cat _ gel_one E) (by unfold maxLen; omega) (by omega) ?_
    intro ga ca wa hOa
    simp only [Nat.zero_add, List.nil_append] at hOa
    have a0 := (Own.three hOa).cell 0
    have a1 := (Own.three hOa).cell 1
    simp at a0 a1
    have H6 : Hid (Own w0 wa _) := hOa.two
    clear hOa
    refine hK.out _ _ (by go_keep) (fun hHeld2 => ?_)
    clear hHeld hK K
    have hHeld := hHeld2
    clear hHeld2
    (try simp only [Act.put, List.setIfInBounds_toArray, List.set_cons_zero, List.set_cons_succ])
    refine wpAnyH_ready (rs := [12]) (by kernel_rfl) (by simp) ?_
    refine AllReadyH.cons (o := { dst := some 29, op := Op.call { callee := Callee.builtin Builtin.append, args := #[Operand.tmp 26, Operand.tmp 28], argTypes := #[31, 31] }, type := 31, pos := "ref.go:31", after := #[{ on := 9, ground := Ground.data }, { on := 11, ground := Ground.data }, { on := 6, ground := Ground.chain }], guard := none }) rfl (fun K hK => ?_) AllReadyH.nil
    refine step_readW rfl _ _ 31 rfl 5 j0 (.int .u8 0) 1 1 Try.underlying31 hj0 hy0 hy1 hy2 rfl (by decide) _ _ _ rfl _ _ _ (vrow P) rfl H6.out (by rw [length_vrow, HPL.out, Nat.mul_one]) (HS.out _ [_, _, _, _, _] l H6.out).read.2 (one_vrow P) (by unfold maxLen; omega) (by omega) ?_
    intro gb cb wb hOb
    simp only [Nat.zero_add, List.nil_append] at hOb
    have b0 := (Own.three hOb).cell 0
    have b1 := (Own.three hOb).cell 1
    simp at b0 b1
    have nb1 : wb.heap.size ≠ bx := by have := (Own.three hOb).lt; omega
    have H8 : Hid (Own w0 _ _) := hOb.two.alloc (.cells #[.int .i64 to, .slice gb n cb] 33)
    have H8C : Hid (World.ownsRow _ _ _ _ _ _ _) := (hOb.litRow #[.int .i64 to, .slice gb n cb] 33 2 1 (by decide) rfl).row
    clear hOb H6
    refine hK.out _ _ (by go_keep) (fun hHeld2 => ?_)
    clear hHeld hK K
    have hHeld := hHeld2
    clear hHeld2
    (try simp only [Act.put, List.setIfInBounds_toArray, List.set_cons_zero, List.set_cons_succ])
    refine wpAnyH_take (i := 13) (oi := { dst := some 30, op := Op.build 33 #[(0, Operand.tmp 25), (1, Operand.tmp 29)], type := 33, pos := "ref.go:31", after := #[{ on := 8, ground := Ground.data }, { on := 12, ground := Ground.data }], guard := none }) (v := ?_) rfl (by kernel_rfl) (by kernel_rfl) (by kernel_rfl) (fun _ _ _ h => h) (Or.inl ⟨by rfl, ?_⟩) (by assumption) ?_
    rotate_left
    · (intro wx hSw; (try dsimp only at hSw); go_simp; (try with_reducible rfl))
    (try simp only [Act.put, List.setIfInBounds_toArray, List.set_cons_zero, List.set_cons_succ])
    refine wpAnyH_ready (rs := [14]) (by kernel_rfl) (by simp) ?_
    refine AllReadyH.cons (o := { dst := some 31, op := Op.buildSlice 46 1 #[(0, Operand.tmp 30)], type := 46, pos := "ref.go:31", after := #[{ on := 13, ground := Ground.data }], guard := none }) rfl (fun K hK => ?_) AllReadyH.nil
    go_simp
    refine hK.out _ _ (by go_keep) (fun hHeld2 => ?_)
    clear hHeld hK K
    have hHeld := hHeld2
    clear hHeld2
    (try simp only [Act.put, List.setIfInBounds_toArray, List.set_cons_zero, List.set_cons_succ])
    refine wpAnyH_ready (rs := [15]) (by kernel_rfl) (by simp) ?_
    refine AllReadyH.cons (o := { dst := some 32, op := Op.call { callee := Callee.builtin Builtin.append, args := #[Operand.tmp 23, Operand.tmp 31], argTypes := #[46, 46] }, type := 46, pos := "ref.go:31", after := #[{ on := 6, ground := Ground.data }, { on := 14, ground := Ground.data }, { on := 12, ground := Ground.chain }], guard := none }) rfl (fun K hK => ?_) AllReadyH.nil
    refine step_allW rfl _ _ 46 rfl 33 i0 (.agg #[.int .i64 0, .slice none 0 0]) 2 32 Try.underlying46 hi0 hz0 hz1 hz2 rfl (by decide) _ _ _ rfl _ _ _ _ rfl H8.out H8C.out (by intro u hu; simp at hu; rcases hu with rfl | rfl <;> rfl) (by unfold maxLen; omega) (by omega) ?_
    intro gc cc wc hOc
    have t1 := (Own.four hOc).cell 1
    have t2 := (Own.four hOc).froz 1
    have t3 := (Own.three hOc).cell 0
    have t4 := (Own.three hOc).cell 1
    simp at t1 t3 t4
    refine hK.out _ _ (by go_keep) (fun hHeld2 => ?_)
    clear hHeld hK K
    have hHeld := hHeld2
    clear hHeld2
    (try simp only [Act.put, List.setIfInBounds_toArray, List.set_cons_zero, List.set_cons_succ])
    refine wpAnyH_take (i := 16) (oi := { dst := some 33, op := Op.nilCheck (Operand.tmp 17), type := 0, pos := "ref.go:31", after := #[{ on := 0, ground := Ground.data }, { on := 0, ground := Ground.phase }, { on := 1, ground := Ground.phase }, { on := 2, ground := Ground.phase }, { on := 3, ground := Ground.phase }, { on := 4, ground := Ground.phase }, { on := 5, ground := Ground.phase }, { on := 6, ground := Ground.phase }, { on := 7, ground := Ground.phase }, { on := 8, ground := Ground.phase }, { on := 9, ground := Ground.phase }, { on := 10, ground := Ground.phase }, { on := 11, ground := Ground.phase }, { on := 12, ground := Ground.phase }, { on := 13, ground := Ground.phase }, { on := 14, ground := Ground.phase }, { on := 15, ground := Ground.phase }], guard := none }) (v := ?_) rfl (by kernel_rfl) (by kernel_rfl) (by kernel_rfl) (fun _ _ _ h => h) (Or.inl ⟨by rfl, ?_⟩) (by assumption) ?_
    rotate_left
    · (intro wx hSw; (try dsimp only at hSw); go_simp; (try with_reducible rfl))
    (try simp only [Act.put, List.setIfInBounds_toArray, List.set_cons_zero, List.set_cons_succ])
    refine wpAnyH_take (i := 17) (oi := { dst := some 34, op := Op.fieldAddr 48 (Operand.tmp 33) 1, type := 0, pos := "ref.go:31", after := #[{ on := 16, ground := Ground.data }, { on := 0, ground := Ground.phase }, { on := 1, ground := Ground.phase }, { on := 2, ground := Ground.phase }, { on := 3, ground := Ground.phase }, { on := 4, ground := Ground.phase }, { on := 5, ground := Ground.phase }, { on := 6, ground := Ground.phase }, { on := 7, ground := Ground.phase }, { on := 8, ground := Ground.phase }, { on := 9, ground := Ground.phase }, { on := 10, ground := Ground.phase }, { on := 11, ground := Ground.phase }, { on := 12, ground := Ground.phase }, { on := 13, ground := Ground.phase }, { on := 14, ground := Ground.phase }, { on := 15, ground := Ground.phase }], guard := none }) (v := ?_) rfl (by kernel_rfl) (by kernel_rfl) (by kernel_rfl) (fun _ _ _ h => h) (Or.inl ⟨by rfl, ?_⟩) (by assumption) ?_
    rotate_left
    · (intro wx hSw; (try dsimp only at hSw); go_simp; (try with_reducible rfl))
    (try simp only [Act.put, List.setIfInBounds_toArray, List.set_cons_zero, List.set_cons_succ])
    refine wpAnyH_ready (rs := [18]) (by kernel_rfl) (by simp) ?_
    refine AllReadyH.cons (o := { dst := none, op := Op.store 46 (Operand.tmp 34) (Operand.tmp 32), type := 0, pos := "ref.go:31", after := #[{ on := 17, ground := Ground.data }, { on := 15, ground := Ground.data }, { on := 15, ground := Ground.chain }, { on := 0, ground := Ground.phase }, { on := 1, ground := Ground.phase }, { on := 2, ground := Ground.phase }, { on := 3, ground := Ground.phase }, { on := 4, ground := Ground.phase }, { on := 5, ground := Ground.phase }, { on := 6, ground := Ground.phase }, { on := 7, ground := Ground.phase }, { on := 8, ground := Ground.phase }, { on := 9, ground := Ground.phase }, { on := 10, ground := Ground.phase }, { on := 11, ground := Ground.phase }, { on := 12, ground := Ground.phase }, { on := 13, ground := Ground.phase }, { on := 14, ground := Ground.phase }, { on := 15, ground := Ground.phase }], guard := none }) rfl (fun K hK => ?_) AllReadyH.nil
    go_simp
    refine hK.out _ _ (by go_keep) (fun hHeld2 => ?_)
    clear hHeld hK K
    have hHeld := hHeld2
    clear hHeld2
    (try simp only [Act.put, List.setIfInBounds_toArray, List.set_cons_zero, List.set_cons_succ])
    refine wpAnyH_done (by kernel_rfl) ?_ _
    have H9 : Hid (Own w0 (wc.setCell ⟨b, 1, none⟩ (.slice gc (E.length + 1) cc)) (BagT 48 b N (E ++ [⟨gb, cb, to, P⟩]) :: l)) := HEND.out _ gb cb (.slice gc (E.length + 1) cc) (((Own.four hOc).setC 1 (.slice gc (E.length + 1) cc)).four.tail.four.tail)
    clear hOc H8 H8C
    go_wp2
    go_ret
    exact ⟨rfl, gb, cb, H9.out⟩
  refine AllReadyH.cons (o := { dst := some 22, op := Op.load 46 (Operand.tmp 21), type := 46, pos := "ref.go:31", after := #[{ on := 4, ground := Ground.data }], guard := none }) rfl (fun K hK => ?_) AllReadyH.nil
  go_simp
  refine hK.out _ _ (by go_keep) (fun hHeld2 => ?_)
  clear hHeld hK K
  have hHeld := hHeld2
  clear hHeld2
  (try simp only [Act.put, List.setIfInBounds_toArray, List.set_cons_zero, List.set_cons_succ])
  refine wpAnyH_ready (rs := [1]) (by kernel_rfl) (by simp) ?_
  refine AllReadyH.cons (o := { dst := some 18, op := Op.buildSlice 46 0 #[], type := 46, pos := "ref.go:31", after := #[], guard := none }) rfl (fun K hK => ?_) AllReadyH.nil
  go_simp
  refine hK.out _ _ (by go_keep) (fun hHeld2 => ?_)
  clear hHeld hK K
  have hHeld := hHeld2
  clear hHeld2
  (try simp only [Act.put, List.setIfInBounds_toArray, List.set_cons_zero, List.set_cons_succ])
  refine wpAnyH_ready (rs := [6]) (by kernel_rfl) (by simp) ?_
  refine AllReadyH.cons (o := { dst := some 23, op := Op.call { callee := Callee.builtin Builtin.append, args := #[Operand.tmp 18, Operand.tmp 22], argTypes := #[46, 46] }, type := 46, pos := "ref.go:31", after := #[{ on := 1, ground := Ground.data }, { on := 5, ground := Ground.data }], guard := none }) rfl (fun K hK => ?_) AllReadyH.nil
  refine step_readW rfl _ _ 46 rfl 33 i0 (.agg #[.int .i64 0, .slice none 0 0]) 2 32 Try.underlying46 hi0 hz0 hz1 hz2 rfl (by decide) _ _ _ rfl _ _ _ (cat gel E) rfl HXc.out (length_cat gel 2 gel_len E) HRc.out (one_cat _ gel_one E) (by unfold maxLen; omega) (by omega) ?_
  intro ga ca wa hOa
  simp only [Nat.zero_add, List.nil_append] at hOa
  have a0 := (Own.three hOa).cell 0
  have a1 := (Own.three hOa).cell 1
  simp at a0 a1
  have H6 : Hid (Own w0 wa _) := hOa.two
  clear hOa
  refine hK.out _ _ (by go_keep) (fun hHeld2 => ?_)
  clear hHeld hK K
  have hHeld := hHeld2
  clear hHeld2
  (try simp only [Act.put, List.setIfInBounds_toArray, List.set_cons_zero, List.set_cons_succ])
  refine wpAnyH_ready (rs := [12]) (by kernel_rfl) (by simp) ?_
  refine AllReadyH.cons (o := { dst := some 29, op := Op.call { callee := Callee.builtin Builtin.append, args := #[Operand.tmp 26, Operand.tmp 28], argTypes := #[31, 31] }, type := 31, pos := "ref.go:31", after := #[{ on := 9, ground := Ground.data }, { on := 11, ground := Ground.data }, { on := 6, ground := Ground.chain }], guard := none }) rfl (fun K hK => ?_) AllReadyH.nil
  refine step_readW rfl _ _ 31 rfl 5 j0 (.int .u8 0) 1 1 Try.underlying31 hj0 hy0 hy1 hy2 rfl (by decide) _ _ _ rfl _ _ _ (vrow P) rfl H6.out (by rw [length_vrow, HPL.out, Nat.mul_one]) (HS.out _ [_, _, _, _, _] l H6.out).read.2 (one_vrow P) (by unfold maxLen; omega) (by omega) ?_
  intro gb cb wb hOb
  simp only [Nat.zero_add, List.nil_append] at hOb
  have b0 := (Own.three hOb).cell 0
  have b1 := (Own.three hOb).cell 1
  simp at b0 b1
  have nb1 : wb.heap.size ≠ bx := by have := (Own.three hOb).lt; omega
  have H8 : Hid (Own w0 _ _) := hOb.two.alloc (.cells #[.int .i64 to, .slice gb n cb] 33)
  have H8C : Hid (World.ownsRow _ _ _ _ _ _ _) := (hOb.litRow #[.int .i64 to, .slice gb n cb] 33 2 1 (by decide) rfl).row
  clear hOb H6
  refine hK.out _ _ (by go_keep) (fun hHeld2 => ?_)
  clear hHeld hK K
  have hHeld := hHeld2
  clear hHeld2
  (try simp only [Act.put, List.setIfInBounds_toArray, List.set_cons_zero, List.set_cons_succ])
  refine wpAnyH_take (i := 13) (oi := { dst := some 30, op := Op.build 33 #[(0, Operand.tmp 25), (1, Operand.tmp 29)], type := 33, pos := "ref.go:31", after := #[{ on := 8, ground := Ground.data }, { on := 12, ground := Ground.data }], guard := none }) (v := ?_) rfl (by kernel_rfl) (by kernel_rfl) (by kernel_rfl) (fun _ _ _ h => h) (Or.inl ⟨by rfl, ?_⟩) (by assumption) ?_
  rotate_left
  · (intro wx hSw; (try dsimp only at hSw); go_simp; (try with_reducible rfl))
  (try simp only [Act.put, List.setIfInBounds_toArray, List.set_cons_zero, List.set_cons_succ])
  refine wpAnyH_ready (rs := [14]) (by kernel_rfl) (by simp) ?_
  refine AllReadyH.cons (o := { dst := some 31, op := Op.buildSlice 46 1 #[(0, Operand.tmp 30)], type := 46, pos := "ref.go:31", after := #[{ on := 13, ground := Ground.data }], guard := none }) rfl (fun K hK => ?_) AllReadyH.nil
  go_simp
  refine hK.out _ _ (by go_keep) (fun hHeld2 => ?_)
  clear hHeld hK K
  have hHeld := hHeld2
  clear hHeld2
  (try simp only [Act.put, List.setIfInBounds_toArray, List.set_cons_zero, List.set_cons_succ])
  refine wpAnyH_ready (rs := [15]) (by kernel_rfl) (by simp) ?_
  refine AllReadyH.cons (o := { dst := some 32, op := Op.call { callee := Callee.builtin Builtin.append, args := #[Operand.tmp 23, Operand.tmp 31], argTypes := #[46, 46] }, type := 46, pos := "ref.go:31", after := #[{ on := 6, ground := Ground.data }, { on := 14, ground := Ground.data }, { on := 12, ground := Ground.chain }], guard := none }) rfl (fun K hK => ?_) AllReadyH.nil
  refine step_allW rfl _ _ 46 rfl 33 i0 (.agg #[.int .i64 0, .slice none 0 0]) 2 32 Try.underlying46 hi0 hz0 hz1 hz2 rfl (by decide) _ _ _ rfl _ _ _ _ rfl H8.out H8C.out (by intro u hu; simp at hu; rcases hu with rfl | rfl <;> rfl) (by unfold maxLen; omega) (by omega) ?_
  intro gc cc wc hOc
  have t1 := (Own.four hOc).cell 1
  have t2 := (Own.four hOc).froz 1
  have t3 := (Own.three hOc).cell 0
  have t4 := (Own.three hOc).cell 1
  simp at t1 t3 t4
  refine hK.out _ _ (by go_keep) (fun hHeld2 => ?_)
  clear hHeld hK K
  have hHeld := hHeld2
  clear hHeld2
  (try simp only [Act.put, List.setIfInBounds_toArray, List.set_cons_zero, List.set_cons_succ])
  refine wpAnyH_take (i := 16) (oi := { dst := some 33, op := Op.nilCheck (Operand.tmp 17), type := 0, pos := "ref.go:31", after := #[{ on := 0, ground := Ground.data }, { on := 0, ground := Ground.phase }, { on := 1, ground := Ground.phase }, { on := 2, ground := Ground.phase }, { on := 3, ground := Ground.phase }, { on := 4, ground := Ground.phase }, { on := 5, ground := Ground.phase }, { on := 6, ground := Ground.phase }, { on := 7, ground := Ground.phase }, { on := 8, ground := Ground.phase }, { on := 9, ground := Ground.phase }, { on := 10, ground := Ground.phase }, { on := 11, ground := Ground.phase }, { on := 12, ground := Ground.phase }, { on := 13, ground := Ground.phase }, { on := 14, ground := Ground.phase }, { on := 15, ground := Ground.phase }], guard := none }) (v := ?_) rfl (by kernel_rfl) (by kernel_rfl) (by kernel_rfl) (fun _ _ _ h => h) (Or.inl ⟨by rfl, ?_⟩) (by assumption) ?_
  rotate_left
  · (intro wx hSw; (try dsimp only at hSw); go_simp; (try with_reducible rfl))
  (try simp only [Act.put, List.setIfInBounds_toArray, List.set_cons_zero, List.set_cons_succ])
  refine wpAnyH_take (i := 17) (oi := { dst := some 34, op := Op.fieldAddr 48 (Operand.tmp 33) 1, type := 0, pos := "ref.go:31", after := #[{ on := 16, ground := Ground.data }, { on := 0, ground := Ground.phase }, { on := 1, ground := Ground.phase }, { on := 2, ground := Ground.phase }, { on := 3, ground := Ground.phase }, { on := 4, ground := Ground.phase }, { on := 5, ground := Ground.phase }, { on := 6, ground := Ground.phase }, { on := 7, ground := Ground.phase }, { on := 8, ground := Ground.phase }, { on := 9, ground := Ground.phase }, { on := 10, ground := Ground.phase }, { on := 11, ground := Ground.phase }, { on := 12, ground := Ground.phase }, { on := 13, ground := Ground.phase }, { on := 14, ground := Ground.phase }, { on := 15, ground := Ground.phase }], guard := none }) (v := ?_) rfl (by kernel_rfl) (by kernel_rfl) (by kernel_rfl) (fun _ _ _ h => h) (Or.inl ⟨by rfl, ?_⟩) (by assumption) ?_
  rotate_left
  · (intro wx hSw; (try dsimp only at hSw); go_simp; (try with_reducible rfl))
  (try simp only [Act.put, List.setIfInBounds_toArray, List.set_cons_zero, List.set_cons_succ])
  refine wpAnyH_ready (rs := [18]) (by kernel_rfl) (by simp) ?_
  refine AllReadyH.cons (o := { dst := none, op := Op.store 46 (Operand.tmp 34) (Operand.tmp 32), type := 0, pos := "ref.go:31", after := #[{ on := 17, ground := Ground.data }, { on := 15, ground := Ground.data }, { on := 15, ground := Ground.chain }, { on := 0, ground := Ground.phase }, { on := 1, ground := Ground.phase }, { on := 2, ground := Ground.phase }, { on := 3, ground := Ground.phase }, { on := 4, ground := Ground.phase }, { on := 5, ground := Ground.phase }, { on := 6, ground := Ground.phase }, { on := 7, ground := Ground.phase }, { on := 8, ground := Ground.phase }, { on := 9, ground := Ground.phase }, { on := 10, ground := Ground.phase }, { on := 11, ground := Ground.phase }, { on := 12, ground := Ground.phase }, { on := 13, ground := Ground.phase }, { on := 14, ground := Ground.phase }, { on := 15, ground := Ground.phase }], guard := none }) rfl (fun K hK => ?_) AllReadyH.nil
  go_simp
  refine hK.out _ _ (by go_keep) (fun hHeld2 => ?_)
  clear hHeld hK K
  have hHeld := hHeld2
  clear hHeld2
  (try simp only [Act.put, List.setIfInBounds_toArray, List.set_cons_zero, List.set_cons_succ])
  refine wpAnyH_done (by kernel_rfl) ?_ _
  have H9 : Hid (Own w0 (wc.setCell ⟨b, 1, none⟩ (.slice gc (E.length + 1) cc)) (BagT 48 b N (E ++ [⟨gb, cb, to, P⟩]) :: l)) := HEND.out _ gb cb (.slice gc (E.length + 1) cc) (((Own.four hOc).setC 1 (.slice gc (E.length + 1) cc)).four.tail.four.tail)
  clear hOc H8 H8C
  go_wp2
  go_ret
  exact ⟨rfl, gb, cb, H9.out⟩
end Go.Proofs.Ytiphkndahoageaa
