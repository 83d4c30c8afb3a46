/-
  Package net: Put, remove, Take, Peek, Copy, Drop.
-/
import Derived.Test.YtiphkndahoageaaNtb
namespace Go.Proofs.Ytiphkndahoageaa
open Go.RowKit
set_option linter.unusedVariables false

set_option maxHeartbeats 2000000 in
set_option maxRecDepth 100000 in
theorem bput_ok (w0 w : World) (l : List Thing) (b N : Nat) (E : List Gr) (h : Own w0 w (BagT 61 b N E :: l)) (hF : E.length < N) (hN : N ≤ 2048) (to : Int) (ao : Option Addr) (n cap : Nat) (P : List Nat) (hn : P.length = n) (hs : Src w (.slice ao n cap) n (vrow P)) (hL : n ≤ 140737488351232) :
    Calls Try.prog 10 #[.pointer (some ⟨b, 0, none⟩), .agg #[.int .i64 to, .slice ao n cap]] w fun e w' => e = .returned (.int .i64 0) ∧ ∃ a2 c2, Own w0 w' (BagT 61 b N (E ++ [⟨a2, c2, to, P⟩]) :: l) := by
  obtain ⟨lv, h⟩ := Own.ex_iff.1 h
  obtain ⟨la, lc, rfl⟩ := row_any h.two.row
  obtain ⟨i0, hi0, hz0, hz1, hz2⟩ := info_parts Try.infoO
  have q0 := h.cell 0
  have q1 := h.cell 1
  simp at q0 q1
  have hlt := h.lt
  have n1 : w.heap.size ≠ b := by omega
  have hA := h.allocC #[.int .i64 to, .slice ao n cap] 33
  have HO : Hid (Calls _ _ _ _ _) := own_any w0 _ _ hA.drew.drew to ao n cap P hn (hs.quiet (((Fr.refl Nobody w).alloc _).drew.drew)) hL
  have HN : Hid (N ≤ 2048 ∧ P.length = n) := ⟨hN, hn⟩
  have hF2 : ¬ (N : Int) ≤ (E.length : Int) := by omega
  have hF3 : (E.length : Int) < (N : Int) := by omega
  have hE : E.length < 2048 := by omega
  have HEND : Hid (∀ W a2 c2 lv', Own w0 W (Cells b #[.int .i64 (N : Int), lv'] 61 :: Row 33 2 lv' (E.length + 1) (cat gel E ++ [.int .i64 to, .slice a2 n c2]) :: Row 5 1 (.slice a2 n c2) n (vrow P) :: (gfs E ++ l)) → Own w0 W (BagT 61 b N (E ++ [⟨a2, c2, to, P⟩]) :: l)) := by
    intro W a2 c2 lv' hW
    refine Own.ex_iff.2 ⟨lv', ?_⟩
    have e1 : cat gel (E ++ [⟨a2, c2, to, P⟩]) = cat gel E ++ [.int .i64 to, .slice a2 n c2] := by rw [cat_append]; subst hn; rfl
    have e2 : gfr ⟨a2, c2, to, P⟩ = Row 5 1 (.slice a2 n c2) n (vrow P) := by subst hn; rfl
    rw [e1, gfs_app, List.length_append]
    show Own w0 W (_ :: _ :: ((gfs E ++ [gfr ⟨a2, c2, to, P⟩]) ++ l))
    rw [e2, List.append_assoc]
    exact hW.perm (List.Perm.cons _ (List.Perm.cons _ List.perm_middle.symm))
  clear h hA hs hn hN hF
  go_enter Try.func10, Try.ntmps10
  go_wp2
  go_region_held3 (fun w' => w'.cell? ⟨b, 0, none⟩ = some (.int .i64 (N : Int)) ∧ w'.cell? ⟨b, 1, none⟩ = some (.slice la E.length lc)) (go_keep) (fail)
  go_wp2
  go_region_law
    (first
      | (refine step_allW rfl _ _ 46 rfl 33 i0 (.agg #[.int .i64 0, .slice none 0 0]) 2 32 Try.underlying46 hi0 hz0 hz1 hz2 rfl (by decide) _ _ _ rfl _ _ _ _ rfl H5.out H5C.out (by intro u hu; simp at hu; rcases hu with rfl | rfl <;> rfl) (by unfold maxLen; omega) (by omega) ?_
         intro g6 c6 w6 hO6
         have t1 := (Own.two hO6).cell 1
         have t2 := (Own.two hO6).froz 1
         simp at t1)
      | (go_simp; go_at_call 25; refine HO.out.mono ?_; rintro e w2 ⟨a2, c2, rfl, hO2, hf2⟩; dsimp only
         have hO3 := ((Own.four hO2).four).two
         have u1 := hO3.two.cell 1
         simp at u1
         have v0 := (hO2.two).cell 0
         have v1 := (hO2.two).cell 1
         simp at v0 v1
         have H5 : Hid (Own w0 (w2.alloc (.cells #[.int .i64 to, .slice a2 n c2] 33)) _) := hO3.alloc (.cells #[.int .i64 to, .slice a2 n c2] 33)
         have H5C : Hid (World.ownsRow _ _ _ _ _ _ _) := (hO3.litRow #[.int .i64 to, .slice a2 n c2] 33 2 1 (by decide) rfl).row
         have hlt2 := hO3.two.lt
         have m1 : w2.heap.size ≠ b := by omega
         clear hO2 hf2)
      | fail)
  all_goals
    have H7 : Hid (Own w0 (w6.setCell ⟨b, 1, none⟩ (.slice g6 (E.length + 1) c6)) (BagT 61 b N (E ++ [⟨a2, c2, to, P⟩]) :: l)) := by
      refine HEND.out _ a2 c2 (.slice g6 (E.length + 1) c6) ?_
      have h7 := (Own.two hO6).setC 1 (.slice g6 (E.length + 1) c6)
      exact h7.four.tail
    clear HEND H5 H5C HO hO6 hO3
    go_wp2
    go_ret
    exact ⟨rfl, a2, c2, H7.out⟩

set_option maxHeartbeats 1000000 in
set_option maxRecDepth 100000 in
theorem bremove (w0 w : World) (l : List Thing) (b N : Nat) (E : List Gr) (h : Own w0 w (BagT 61 b N E :: l)) (hE : E.length ≤ 2048) (m : Nat) (x : Gr) (hx : E[m]? = some x) :
    Calls Try.prog 27 #[.pointer (some ⟨b, 0, none⟩), .int .i64 (m : Int)] w fun e w' => e = .returned (.tuple #[]) ∧ Own w0 w' (gfr x :: BagT 61 b N (E.eraseIdx m) :: l) := by
  obtain ⟨lv, h⟩ := Own.ex_iff.1 h
  have hm : m < E.length := (List.getElem?_eq_some_iff.1 hx).1
  obtain ⟨g, lc, hv, _⟩ := row_shape h.two.row (by omega)
  subst hv
  have q1 := h.cell 1
  simp at q1
  have HD : Hid (Calls _ _ _ _ _) := delO w0 w _ g E.length lc E rfl m (m + 1) rfl (by omega) h.two (by omega)
  rw [show ((m + 1 : Nat) : Int) = (m : Int) + 1 by omega] at HD
  have HEND : Hid (∀ W lv', Own w0 W (Cells b #[.int .i64 (N : Int), lv'] 61 :: Row 33 2 lv' (E.length - 1) (cat gel (E.eraseIdx m)) :: (gfs E ++ l)) → Own w0 W (gfr x :: BagT 61 b N (E.eraseIdx m) :: l)) := by
    intro W lv' hW
    refine Own.ex2.2 ⟨lv', ?_⟩
    rw [List.length_eraseIdx, if_pos hm, gfs_erase]
    rw [gfs_split E m x hx] at hW
    show Own w0 W (gfr x :: _ :: _ :: ((gfs (E.take m) ++ gfs (E.drop (m + 1))) ++ l))
    rw [List.append_assoc]
    rw [List.append_assoc, List.cons_append] at hW
    exact (hW.perm (List.Perm.cons _ (List.Perm.cons _ List.perm_middle))).three
  have hm2 : (m : Int) < 2048 := by omega
  clear h hx hm
  generalize E.length = len at *
  go_enter Try.func27, Try.ntmps27
  go_wp2_with fail
  refine HD.out.mono ?_
  rintro e w1 ⟨rfl, hO⟩
  have k1 := hO.two.cell 1
  have z1 := hO.two.froz 1
  simp at k1
  have H1 : Hid (Own w0 w1 _) := hO
  clear hO HD
  go_wp2
  go_end0
  exact ⟨rfl, HEND.out _ (.slice (some ⟨g, 0, none⟩) (len - 1) lc) (H1.out.two.setC 1 _)⟩

theorem gcell {w0 w : World} {l : List Thing} {g n cap : Nat} {E : List Gr} (h : Own w0 w (Row 33 2 (.slice (some ⟨g, 0, none⟩) n cap) n (cat gel E) :: l)) (hn : E.length = n) (i : Nat) (x : Gr) (hx : E[i]? = some x) :
    w.cell? ⟨g, i * 2, none⟩ = some (.int .i64 x.to) ∧ w.cell? ⟨g, i * 2 + 1, none⟩ = some (.slice x.ao x.P.length x.cap) := by
  subst hn
  have hi := (List.getElem?_eq_some_iff.1 hx).1
  refine ⟨?_, ?_⟩
  · rw [h.row.cellAt _ (by omega)]
    exact (cat_at gel 2 gel_len E i 0 x hx (by decide)).trans rfl
  · rw [h.row.cellAt _ (by omega)]
    exact (cat_at gel 2 gel_len E i 1 x hx (by decide)).trans rfl

set_option maxHeartbeats 1000000 in
set_option maxRecDepth 100000 in
theorem btake_ok (w0 w : World) (l : List Thing) (b N : Nat) (E : List Gr) (h : Own w0 w (BagT 61 b N E :: l)) (hE : E.length ≤ 2048) (m : Nat) (x : Gr) (hx : E[m]? = some x) :
    Calls Try.prog 13 #[.pointer (some ⟨b, 0, none⟩), .int .i64 (m : Int)] w fun e w' => e = .returned (.tuple #[.agg #[.int .i64 x.to, .slice x.ao x.P.length x.cap], .int .i64 0]) ∧ Own w0 w' (gfr x :: BagT 61 b N (E.eraseIdx m) :: l) := by
  have hm : m < E.length := (List.getElem?_eq_some_iff.1 hx).1
  have hA := h.allocC #[.int .i64 0, .slice none 0 0] 33
  have HH : Hid (Calls _ _ _ _ _) := bhas_of _ _ E.length (m : Int) (blen w0 _ _ b N E hA.two)
  have hd : decide (0 ≤ (m : Int) ∧ (m : Int) < (E.length : Int)) = true := by simp; omega
  rw [hd] at HH
  have hA2 := (hA.allocC #[.int .i64 x.to, .slice x.ao x.P.length x.cap] 33).three
  have hb : (w.alloc (.cells #[.int .i64 0, .slice none 0 0] 33)).heap.size = w.heap.size + 1 := by simp
  rw [hb] at hA2
  have HR : Hid (Calls _ _ _ _ _) := bremove w0 _ _ b N E hA2 hE m x hx
  obtain ⟨lv, h⟩ := Own.ex_iff.1 h
  obtain ⟨g, lc, hv, _⟩ := row_shape h.two.row (by omega)
  subst hv
  have q1 := h.cell 1
  simp at q1
  obtain ⟨p0, p1⟩ := gcell h.two rfl m x hx
  have hlt := h.lt
  have hgl : g < w.heap.size := (h.two.row.lt g rfl).2
  have n1 : w.heap.size ≠ b := by omega
  have n2 : w.heap.size ≠ g := by omega
  have hm3 : (m : Int) < (E.length : Int) := by omega
  clear h hA hA2 hx hE hb hd
  obtain ⟨xa, xc, xt, xP⟩ := x
  simp only at *
  generalize xP.length = xn at *
  generalize E.length = len at *
  go_enter Try.func13, Try.ntmps13
  go_wp2_with fail
  refine HH.out.mono ?_
  rintro e w1 ⟨rfl, rfl⟩
  go_wp2_with fail
  refine HR.out.mono ?_
  rintro e w2 ⟨rfl, hO⟩
  have c0 := hO.three.cell 0
  have c1 := hO.three.cell 1
  have hB := hO.four
  have s0 := hB.cell 0
  have s1 := hB.cell 1
  have z0 := hB.froz 0
  have z1 := hB.froz 1
  simp at c0 c1 s0 s1
  have HF : Hid (Own w0 _ _) := (hB.setC 0 (.int .i64 xt)).setC 1 (.slice xa xn xc)
  clear hO hB HH HR
  go_wp2
  (try simp only [Exit.inBlock, Exit.then])
  refine bodyPost_ret (v := .tuple #[.agg #[.int .i64 xt, .slice xa xn xc], .int .i64 0]) ?_ rfl ⟨rfl, ?_⟩
  · rw [results_cell_tmp rfl]
    have r0 := HF.out.cell 0
    have r1 := HF.out.cell 1
    simp at r0 r1
    go_simp
  · exact HF.out.tail.three.tail
end Go.Proofs.Ytiphkndahoageaa
