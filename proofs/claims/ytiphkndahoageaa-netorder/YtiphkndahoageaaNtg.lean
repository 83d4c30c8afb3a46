/-
  Package net: Turn, To.
-/
import Derived.Test.YtiphkndahoageaaNtf
namespace Go.Proofs.Ytiphkndahoageaa
open Go.RowKit
set_option linter.unusedVariables false

theorem gel_set (E : List Gr) (m : Nat) (x : Gr) (hx : E[m]? = some x) (a2 : Option Addr) (c2 : Nat) (Q : List Nat) (hQ : Q.length = x.P.length) :
    (cat gel E).set (m * 2 + 1) (.slice a2 x.P.length c2) = cat gel (E.set m ⟨a2, c2, x.to, Q⟩) := by
  induction E generalizing m with
  | nil => simp at hx
  | cons y E ih =>
    cases m with
    | zero =>
      simp at hx
      subst hx
      simp [cat, gel, hQ]
    | succ m =>
      have := ih m (by simpa using hx)
      rw [List.set_cons_succ, cat, cat, List.flatMap_cons, List.flatMap_cons]
      rw [cat, cat] at this
      rw [← this, List.set_append_right _ _ (by rw [gel_len]; omega), gel_len, show (m + 1) * 2 + 1 - 2 = m * 2 + 1 by omega]
theorem set_at {α : Type} (E : List α) (k : Nat) (e e' : α) (h : E[k]? = some e) : E.set k e' = E.take k ++ e' :: E.drop (k + 1) := by
  have hk := (List.getElem?_eq_some_iff.1 h).1
  rw [List.set_eq_take_append_cons_drop, if_pos hk]
/-- one frame in the place of another -/
theorem Own.gset {w0 w : World} {E : List Gr} {l : List Thing} {k : Nat} {x y : Gr} (hk : E[k]? = some x) (h : Own w0 w (gfr y :: (gfs E ++ l))) : Own w0 w (gfs (E.set k y) ++ l) := by
  have e1 : gfs (E.set k y) = gfs (E.take k) ++ gfr y :: gfs (E.drop (k + 1)) := by rw [set_at E k x y hk]; simp [gfs]
  rw [gfs_split E k x hk, List.append_assoc, List.cons_append] at h
  rw [e1, List.append_assoc, List.cons_append]
  have h2 : Own w0 w (gfr x :: gfr y :: (gfs (E.take k) ++ (gfs (E.drop (k + 1)) ++ l))) := (h.perm (List.perm_middle.cons _)).two
  exact h2.tail.perm List.perm_middle.symm
theorem Own.gset2 {w0 w : World} {A B : Thing} {E : List Gr} {l : List Thing} {k : Nat} {x y : Gr} (hk : E[k]? = some x) (h : Own w0 w (A :: B :: gfr y :: (gfs E ++ l))) : Own w0 w (A :: B :: (gfs (E.set k y) ++ l)) := by
  have h1 : Own w0 w (gfr y :: (gfs E ++ (A :: B :: l))) := (h.perm (((List.perm_middle.symm.cons B).cons A).trans ?_))
  · have h2 := h1.gset hk
    exact h2.perm (List.perm_middle.trans (List.perm_middle.cons A))
  · have p1 : (A :: B :: (gfs E ++ gfr y :: l)).Perm (A :: B :: gfr y :: (gfs E ++ l)) := (List.perm_middle.cons B).cons A
    refine p1.trans ?_
    have p2 : (A :: B :: gfr y :: (gfs E ++ l)).Perm (gfr y :: A :: B :: (gfs E ++ l)) := ((List.Perm.swap (gfr y) B _).cons A).trans (List.Perm.swap (gfr y) A _)
    refine p2.trans (List.Perm.cons _ ?_)
    exact ((List.perm_middle.symm.cons A).trans List.perm_middle.symm)

set_option maxHeartbeats 2000000 in
set_option maxRecDepth 100000 in
theorem bturn_ok (w0 w : World) (l : List Thing) (b N : Nat) (E : List Gr) (h : Own w0 w (BagT 61 b N E :: l)) (m : Nat) (x : Gr) (hx : E[m]? = some x) (hL : x.P.length ≤ 1000000) (hb : ∀ y ∈ x.P, y < 256) (t : Int) (ht0 : -9223372036854775808 ≤ t) (ht1 : t ≤ 9223372036854775807) (pat : Nat) (hpat : pat < 4294967296) :
    Calls Try.prog 21 #[.pointer (some ⟨b, 0, none⟩), .int .i64 (m : Int), .int .i64 t, .int .u32 (pat : Int)] w fun e w' => e = .returned (.int .i64 0) ∧ ∃ a2 c2, Own w0 w' (BagT 61 b N (E.set m ⟨a2, c2, x.to, tun x.P t pat 32⟩) :: l) := by
  have hm : m < E.length := (List.getElem?_eq_some_iff.1 hx).1
  have HH : Hid (Calls _ _ _ _ _) := bhas_of _ _ E.length (m : Int) (blen w0 _ _ b N E h)
  have hd : decide (0 ≤ (m : Int) ∧ (m : Int) < (E.length : Int)) = true := by simp; omega
  rw [hd] at HH
  obtain ⟨lv, h⟩ := Own.ex_iff.1 h
  obtain ⟨g, lc, hv, _⟩ := row_shape h.two.row (by omega)
  subst hv
  have hs := Own.gsrc (A := [_, _]) hx h
  have HO : Hid (Calls _ _ _ _ _) := turned_any w0 _ _ h.drew (.slice x.ao x.P.length x.cap) x.P.length x.P rfl (hs.quiet (Fr.refl Nobody w).drew) hL hb t ht0 ht1 pat hpat ⟨_, _, rfl⟩
  have q1 := h.cell 1
  simp at q1
  obtain ⟨p0, p1⟩ := gcell h.two rfl m x hx
  have hm3 : (m : Int) < (E.length : Int) := by omega
  have HEND : Hid (∀ W a2 c2, Own w0 W (Row 5 1 (.slice a2 x.P.length c2) x.P.length (vrow (tun x.P t pat 32)) :: Cells b #[.int .i64 (N : Int), .slice (some ⟨g, 0, none⟩) E.length lc] 61 :: Row 33 2 (.slice (some ⟨g, 0, none⟩) E.length lc) E.length (cat gel E) :: (gfs E ++ l)) → Own w0 (W.setCell ⟨g, m * 2 + 1, none⟩ (.slice a2 x.P.length c2)) (BagT 61 b N (E.set m ⟨a2, c2, x.to, tun x.P t pat 32⟩) :: l)) := by
    intro W a2 c2 hW
    have h1 := hW.three.setR (m * 2 + 1) (.slice a2 x.P.length c2)
    rw [gel_set E m x hx a2 c2 (tun x.P t pat 32) (length_tun _ _ _ _)] at h1
    refine Own.ex_iff.2 ⟨.slice (some ⟨g, 0, none⟩) E.length lc, ?_⟩
    rw [List.length_set]
    have e2 : Row 5 1 (.slice a2 x.P.length c2) x.P.length (vrow (tun x.P t pat 32)) = gfr ⟨a2, c2, x.to, tun x.P t pat 32⟩ := by unfold gfr; simp only [length_tun]
    rw [e2] at h1
    exact Own.gset2 hx h1.three
  have HCE : Hid ((cat gel E)[m * 2 + 1]? = some (.slice x.ao x.P.length x.cap)) := (cat_at gel 2 gel_len E m 1 x hx (by decide)).trans rfl
  clear h hx hd hs hL hb
  obtain ⟨xa, xc, xt, xP⟩ := x
  simp only at *
  generalize xP.length = xn at *
  generalize E.length = len at *
  go_enter Try.func21, Try.ntmps21
  go_wp2_with fail
  refine HH.out.mono ?_
  rintro e w1 ⟨rfl, rfl⟩
  clear HH
  go_wp2
  go_region_law
    (first
      | (go_simp; go_at_call 24; refine HO.out.mono ?_; rintro e w2 ⟨a2, c2, rfl, hO⟩; dsimp only
         have u1 := hO.two.cell 1
         simp at u1
         have u2 := hO.three.row.cellAt (m * 2 + 1) (by omega)
         rw [HCE.out] at u2
         have u3 := hO.three.row.frozenAt (m * 2 + 1)
         have H2 : Hid (Own w0 w2 _) := hO
         clear hO)
      | fail)
  all_goals
    go_wp2
    go_ret
    exact ⟨rfl, a2, c2, HEND.out _ _ _ H2.out⟩

theorem Try.infoI : (Try.prog.info? 3).map (fun i => (i.zero, i.size, i.bytes)) = some (some (.int .i64 0), 1, 8) := by kernel_rfl
set_option maxHeartbeats 400000 in
theorem bto_nil (w : World) (to : Int) : Calls Try.prog 23 #[.pointer none, .int .i64 to] w fun e w' => e = .returned (.slice none 0 0) ∧ w' = w := by
  go_enter Try.func23, Try.ntmps23
  go_wp2
  go_ret
  exact ⟨rfl, rfl⟩
set_option maxHeartbeats 2000000 in
set_option maxRecDepth 100000 in
theorem bto_ok (w0 w : World) (l : List Thing) (b N : Nat) (E : List Gr) (h : Own w0 w (BagT 61 b N E :: l)) (hE : E.length ≤ 2048) (to : Int) :
    Calls Try.prog 23 #[.pointer (some ⟨b, 0, none⟩), .int .i64 to] w fun e w' => ∃ ao cap, e = .returned (.slice ao (tosK to (E.map Gr.to) E.length).length cap) ∧ Own w0 w' (Row 3 1 (.slice ao (tosK to (E.map Gr.to) E.length).length cap) (tosK to (E.map Gr.to) E.length).length (irow .i64 (tosK to (E.map Gr.to) E.length)) :: BagT 61 b N E :: l) := by
  obtain ⟨i0, hi, hz0, hz1, hz2⟩ := info_parts Try.infoI
  obtain ⟨lv, h⟩ := Own.ex_iff.1 h
  obtain ⟨la, lc, rfl⟩ := row_any h.two.row
  have q1 := h.cell 1
  simp at q1
  have H : Hid (Own w0 w (Cells b #[.int .i64 (N : Int), .slice la E.length lc] 61 :: Row 33 2 (.slice la E.length lc) E.length (cat gel E) :: (gfs E ++ l))) := h
  have HEND : Hid (∀ W (R : Thing), Own w0 W (R :: Cells b #[.int .i64 (N : Int), .slice la E.length lc] 61 :: Row 33 2 (.slice la E.length lc) E.length (cat gel E) :: (gfs E ++ l)) → Own w0 W (R :: BagT 61 b N E :: l)) := fun W R hW => Own.ex2.2 ⟨_, hW⟩
  clear h
  obtain ⟨n, hn⟩ : ∃ n, n = E.length := ⟨_, rfl⟩
  have HN : Hid (n = E.length) := hn
  rw [← hn] at hE q1 H HEND ⊢
  clear hn
  go_enter Try.func23, Try.ntmps23
  go_wp2
  go_loopw [5, 15] (fun u c wr => ∃ (k : Nat) (L : List Nat) (ao : Option Addr) (cap : Nat), k ≤ n ∧ c = .int .i64 k ∧ u = .slice ao L.length cap ∧ L = tosK to (E.map Gr.to) k ∧ Own w0 wr (Row 3 1 (.slice ao L.length cap) L.length (irow .i64 L) :: Cells b #[.int .i64 (N : Int), .slice la n lc] 61 :: Row 33 2 (.slice la n lc) n (cat gel E) :: (gfs E ++ l))) (fun _ c wr => n - (intOf c).toNat)
  case atStart => exact ⟨0, [], none, 0, by omega, rfl, rfl, rfl, H.out.nilRow _ _⟩
  case round =>
    obtain ⟨k, L, ao, cap, hk, rfl, rfl, hL, hO⟩ := hrel
    have hLl : L.length ≤ k := by rw [hL]; exact tosK_le _ _ _
    have HL : Hid (L = tosK to (E.map Gr.to) k) := hL
    clear hL H
    by_cases hlt : k < n
    · obtain ⟨x, hx⟩ : ∃ x, E[k]? = some x := ⟨_, List.getElem?_eq_getElem (by rw [← HN.out]; exact hlt)⟩
      obtain ⟨g, gc, hv, _⟩ := row_shape hO.three.row (by omega)
      obtain ⟨rfl, _, rfl⟩ := Value.slice.inj hv
      obtain ⟨p0, p1⟩ := gcell hO.three HN.out.symm k x hx
      have hgl : g < wr.heap.size := (hO.three.row.lt g rfl).2
      have n2 : wr.heap.size ≠ g := by omega
      have hlt' : (k : Int) < (n : Int) := by omega
      have hT : (E.map Gr.to)[k]? = some x.to := by rw [List.getElem?_map, hx]; rfl
      have hA := hO.alloc (.cells #[.int .i64 x.to, .slice x.ao x.P.length x.cap] 33)
      by_cases hid : x.to = to
      · have HT : Hid (tosK to (E.map Gr.to) (k + 1) = L ++ [k]) := by
          show _ = _
          rw [tosK, hT, if_pos (by rw [hid]), HL.out]
        have he : (x.to == to) = true := by simp [hid]
        obtain ⟨xa, xc, xt, xP⟩ := x
        simp only at *
        generalize xP.length = xn at *
        have HA : Hid (Own w0 _ _) := hA
        clear hA hO hT hx hv hid
        generalize hon : L.length = on at *
        have HON : Hid (L.length = on) := hon
        clear hon
        go_wp2_with (at_builtin; refine append1_own rfl _ _ 52 rfl 3 i0 (.int .i64 0) 1 8 Try.underlying52 hi hz0 hz1 hz2 rfl (by decide) _ _ _ rfl HA.out _ #[.int .i64 (k : Int)] (by simp) rfl rfl (one_int _ _) (by unfold maxLen; omega) (by omega) ?_)
        intro g2 cap2 w2 hO2 hsz
        have H2 : Hid (Own w0 w2 (Row 3 1 (.slice (some ⟨g2, 0, none⟩) (L ++ [k]).length cap2) (L ++ [k]).length (irow .i64 (L ++ [k])) :: Cells b #[.int .i64 (N : Int), .slice (some ⟨g, 0, none⟩) n lc] 61 :: Row 33 2 (.slice (some ⟨g, 0, none⟩) n lc) n (cat gel E) :: (gfs E ++ l))) := by
          show Own _ _ _
          have e : (L ++ [k]).length = on + 1 := by rw [List.length_append, HON.out]; rfl
          rw [e, irow_append]
          exact hO2
        clear hO2 HA
        go_wp2
        refine ⟨⟨k + 1, L ++ [k], some ⟨g2, 0, none⟩, cap2, by omega, by go_num, by rw [List.length_append, HON.out]; rfl, HT.out.symm, H2.out⟩, by simp [intOf]; omega⟩
      · have HT : Hid (tosK to (E.map Gr.to) (k + 1) = L) := by
          show _ = _
          rw [tosK, hT, if_neg (by simpa using hid), HL.out]
        have he : (x.to == to) = false := by simp [hid]
        obtain ⟨xa, xc, xt, xP⟩ := x
        simp only at *
        generalize xP.length = xn at *
        have HA : Hid (Own w0 _ _) := hA
        clear hA hO hT hx hv
        go_wp2
        refine ⟨⟨k + 1, L, ao, cap, by omega, by go_num, rfl, HT.out.symm, HA.out⟩, by simp [intOf]; omega⟩
    · have hlt' : ¬ (k : Int) < (n : Int) := by omega
      have hkn : k = n := by omega
      have H2 : Hid (Own w0 wr _) := hO
      have HL2 : Hid (tosK to (E.map Gr.to) n = L) := by show _ = _; rw [HL.out, hkn]
      clear hO hkn
      go_wp2
      go_ret
      rw [HL2.out]
      exact ⟨ao, cap, rfl, HEND.out _ _ H2.out⟩
end Go.Proofs.Ytiphkndahoageaa
