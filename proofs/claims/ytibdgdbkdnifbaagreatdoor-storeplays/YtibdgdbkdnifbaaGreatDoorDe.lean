/-
  The document's table: Remove.
-/
import Derived.Test.YtibdgdbkdnifbaaGreatDoorDd
namespace Go.Proofs.YtibdgdbkdnifbaaGreatDoor
open Go.RowKit Go.Maps
set_option linter.unusedVariables false
set_option maxRecDepth 100000

theorem outr_perm {α : Type} (E : List α) (r : Nat) (e : α) (he : E[r]? = some e) : E.Perm (e :: outr E r) := by
  obtain ⟨hr, hre⟩ := List.getElem?_eq_some_iff.1 he
  have hsp : E = E.take r ++ e :: E.drop (r + 1) := by
    rw [← hre, List.getElem_cons_drop, List.take_append_drop]
  have hA : (E.take r).length = r := by rw [List.length_take]; omega
  generalize E.take r = A at *
  generalize E.drop (r + 1) = B at *
  subst hsp
  rcases List.eq_nil_or_concat B with rfl | ⟨B', x, rfl⟩
  · have : outr (A ++ [e]) r = A := by
      unfold outr
      rw [List.getLast?_append, List.getLast?_singleton]
      simp only [Option.some_or]
      rw [List.set_append_right _ _ (by omega), hA, Nat.sub_self]
      simp
    rw [this]
    exact List.perm_append_singleton _ _
  · have : outr (A ++ e :: (B' ++ [x])) r = A ++ x :: B' := by
      unfold outr
      have hl : (A ++ e :: (B' ++ [x])).getLast? = some x := by
        rw [List.getLast?_append, List.getLast?_cons, List.getLast?_append]; simp
      rw [hl]
      simp only
      rw [List.set_append_right _ _ (by omega), hA, Nat.sub_self]
      simp only [List.set_cons_zero]
      rw [show A ++ x :: (B' ++ [x]) = (A ++ x :: B') ++ [x] by simp, List.dropLast_concat]
    rw [List.concat_eq_append, this]
    refine (List.perm_middle).trans (List.Perm.cons e ?_)
    rw [← List.append_assoc]
    refine (List.perm_append_singleton x (A ++ B')).trans ?_
    exact List.perm_middle.symm

section
variable (w0 w : World) (l : List Thing) (b o : Nat) (cur : Array Value) (m : Nat) (L : List Ent)
set_option maxHeartbeats 1000000 in
theorem rtremNo (h : Own w0 w (RTab b o cur m L :: l)) (hA : Apart L) (hL : L.length ≤ 1000000) (id : Nat) (hp : plc L id = none) :
    Calls Tryz.prog 37 #[.pointer (some ⟨b, o, none⟩), .int .u32 (id : Int)] w fun e w' => e = .returned (.tuple #[.slice none 0 0, .int .i64 7]) ∧ Own w0 w' (RTab b o cur m L :: l) := by
  have HR : Hid (Calls _ _ _ _ _) := rtrow w0 w _ b o cur m L h hA hL id
  rw [hp] at HR
  simp only [pl1] at HR
  have H : Hid (Own w0 w (RTab b o cur m L :: l)) := h
  clear h hp
  go_enter Tryz.func37, Tryz.ntmps37
  go_wp2_with fail
  refine HR.out.mono ?_
  rintro e w1 ⟨rfl, hf⟩
  have H1 : Hid (Own w0 w1 (RTab b o cur m L :: l)) := H.out.quiet hf
  clear HR hf
  go_wp2
  go_ret2
  exact ⟨rfl, H1.out⟩
set_option maxHeartbeats 4000000 in
theorem rtremC (h : Own w0 w (RTab b o cur m L :: l)) (hT : TOk m L) (hL : L.length ≤ 1000000) (id r : Nat) (e : Ent) (hp : plc L id = some r) (he : L[r]? = some e) :
    Calls Tryz.prog 37 #[.pointer (some ⟨b, o, none⟩), .int .u32 (id : Int)] w fun out w' => ∃ ao cap, out = .returned (.tuple #[.slice ao e.2.length cap, .int .i64 0]) ∧ Own w0 w' (Row 48 4 (.slice ao e.2.length cap) e.2.length (ccat e.2) :: RTab b o cur m (outr L r) :: l) := by
  have HCU : Hid (cur[o]? = some (.int .u8 (m : Int)) ∧ o + 1 < cur.size) := RTab.facts h
  obtain ⟨i0, hi, hz0, hz1, hz2⟩ := info_parts Tryz.infoEnt
  have HR : Hid (Calls _ _ _ _ _) := rtrow w0 w _ b o cur m L h hT.ap hL id
  rw [hp] at HR
  simp only [pl1] at HR
  have H : Hid (Own w0 w (RTab b o cur m L :: l)) := h
  have HLE : Hid (L[r]? = some e) := he
  have hrL := (List.getElem?_eq_some_iff.1 he).1
  have hr0 : ¬ (r : Int) < 0 := by omega
  clear h hp he hT
  go_enter Tryz.func37, Tryz.ntmps37
  go_wp2_with fail
  refine HR.out.mono ?_
  rintro out w1 ⟨rfl, hf⟩
  obtain ⟨v, E, hE, hO⟩ := RTab.open (H.out.quiet hf)
  have hlen : E.length = L.length := by rw [← hE, List.length_map]
  obtain ⟨n, hn⟩ : ∃ n, E.length = n + 1 := ⟨E.length - 1, by omega⟩
  rw [hn] at hO
  obtain ⟨g, ce, hvv, _⟩ := row_shape hO.two.row (by omega)
  subst hvv
  obtain ⟨d, hd⟩ : ∃ d, E[r]? = some d := ⟨_, List.getElem?_eq_getElem (by omega)⟩
  have hee : d.e = e := by
    have : (E.map REnt.e)[r]? = some d.e := by rw [List.getElem?_map, hd]; rfl
    rw [hE, HLE.out] at this
    exact (Option.some.inj this).symm
  obtain ⟨xl, hxl⟩ : ∃ x, E[n]? = some x := ⟨_, List.getElem?_eq_getElem (by omega)⟩
  have hcap := (row_cap hO.two.row).2
  have hO2 := hO.two
  rw [← hn] at hO2
  obtain ⟨_, p2⟩ := ecell hO2 r d hd
  have p1 := hO.cell (o + 1)
  rw [tcur_at HCU.out.2] at p1
  have HO : Hid (Own w0 w1 (Cells b (cur.setIfInBounds (o + 1) (.slice (some ⟨g, 0, none⟩) (n + 1) ce)) 83 :: Row 94 2 (.slice (some ⟨g, 0, none⟩) (n + 1) ce) (n + 1) (cat rcells E) :: (E.map rrow ++ l))) := hO
  have HE : Hid (E.map REnt.e = L ∧ E.length = n + 1 ∧ E[r]? = some d ∧ E[n]? = some xl ∧ d.e = e) := ⟨hE, hn, hd, hxl, hee⟩
  have hrn : r < n + 1 := by omega
  have hrn' : (r : Int) < (n : Int) + 1 := by omega
  have hn6 : n ≤ 1000000 := by omega
  have hcap2 : n ≤ ce := by omega
  have hcap3 : ¬ ce = 0 := by omega
  have HIN : Hid (∀ w' l', Own w0 w' (Row 94 2 (.slice (some ⟨g, 0, none⟩) (n + 1) ce) (n + 1) (cat rcells E) :: l') → ∀ i x, E[i]? = some x → w'.cell? ⟨g, i * 2, none⟩ = some (.int .u32 (x.1 : Int)) ∧ w'.cell? ⟨g, i * 2 + 1, none⟩ = some (.slice x.2.2.1 x.2.1.length x.2.2.2)) := by
    intro w' l' h' i x hx
    rw [← HE.out.2.1] at h'
    exact ecell h' i x hx
  clear HR hf H hO hO2 hE hn hd hee hxl hlen hrL
  go_wp2
  go_loopw [9, 40] (fun lv cv wr => ∃ j : Nat, j ≤ n ∧ cv = .int .i64 j ∧ ∃ a1 c1, lv = .slice a1 j c1 ∧ Own w0 wr (Row 94 2 (.slice a1 j c1) j (cat rcells ((outr E r).take j)) :: Cells b (cur.setIfInBounds (o + 1) (.slice (some ⟨g, 0, none⟩) (n + 1) ce)) 83 :: Row 94 2 (.slice (some ⟨g, 0, none⟩) (n + 1) ce) (n + 1) (cat rcells E) :: (E.map rrow ++ l))) (fun _ cv _ => n - (intOf cv).toNat)
  case atStart => exact ⟨0, Nat.zero_le _, rfl, none, 0, rfl, by simpa [cat] using HO.out.nilRow 94 2⟩
  case round =>
    obtain ⟨j, hj, rfl, a1, c1, rfl, hO⟩ := hrel
    have H1 : Hid (Own w0 wr (Row 94 2 (.slice a1 j c1) j (cat rcells ((outr E r).take j)) :: Cells b (cur.setIfInBounds (o + 1) (.slice (some ⟨g, 0, none⟩) (n + 1) ce)) 83 :: Row 94 2 (.slice (some ⟨g, 0, none⟩) (n + 1) ce) (n + 1) (cat rcells E) :: (E.map rrow ++ l))) := hO
    clear HO
    by_cases hlt : j < n
    · have hlt' : (j : Int) < (n : Int) := by omega
      obtain ⟨x, hx⟩ : ∃ x, E[j]? = some x := ⟨_, List.getElem?_eq_getElem (by rw [HE.out.2.1]; omega)⟩
      obtain ⟨s0, s1⟩ := HIN.out _ _ hO.three j x hx
      obtain ⟨t0, t1⟩ := HIN.out _ _ hO.three n xl HE.out.2.2.2.1
      have u1 := hO.two.cell (o + 1)
      rw [tcur_at HCU.out.2] at u1
      have hbw := hO.two.lt
      have hgw : g < wr.heap.size := (hO.three.row.lt g rfl).2
      have hgn : g ≠ wr.heap.size := by omega
      have hgn' : wr.heap.size ≠ g := by omega
      have hbn : b ≠ wr.heap.size := by omega
      have hbn' : wr.heap.size ≠ b := by omega
      obtain ⟨y, hy⟩ : ∃ y, (outr E r)[j]? = some y := ⟨_, List.getElem?_eq_getElem (by rw [length_outr _ _ (by rw [HE.out.2.1]; omega), HE.out.2.1]; omega)⟩
      have hy2 := hy
      rw [outr_at E r j (by rw [HE.out.2.1]; omega), HE.out.2.1, if_pos (by omega)] at hy2
      have HTK : Hid ((outr E r).take (j + 1) = (outr E r).take j ++ [y]) := take_snoc _ j y hy
      have HAL : Hid (∀ ob, Own w0 (wr.alloc ob) (Row 94 2 (.slice a1 j c1) j (cat rcells ((outr E r).take j)) :: Cells b (cur.setIfInBounds (o + 1) (.slice (some ⟨g, 0, none⟩) (n + 1) ce)) 83 :: Row 94 2 (.slice (some ⟨g, 0, none⟩) (n + 1) ce) (n + 1) (cat rcells E) :: (E.map rrow ++ l))) := fun ob => H1.out.alloc ob
      clear hO hy
      by_cases hjr : j = r
      · rw [if_pos hjr] at hy2
        have hyx : y = xl := by
          have := HE.out.2.2.2.1
          rw [show n + 1 - 1 = n by omega, this] at hy2
          exact (Option.some.inj hy2).symm
        have HJR : Hid (j = r) := hjr
        have hjr' : ((j : Int) == (r : Int)) = true := by rw [hjr]; simp
        clear hjr hy2 hx
        subst hyx
        obtain ⟨y1, y2, y3, y4⟩ := y
        obtain ⟨x1, x2, x3, x4⟩ := x
        simp only at s0 s1 t0 t1
        generalize hyl : y2.length = yl at *
        generalize x2.length = xl2 at *
        have HYL : Hid (y2.length = yl) := hyl
        clear hyl
        go_wp2_with (at_builtin; refine append1_own rfl _ _ 78 rfl 94 i0 (.agg #[.int .u32 0, .slice none 0 0]) 2 32 Tryz.underlying78 hi hz0 hz1 hz2 rfl (by decide) _ _ _ rfl (HAL.out _) _ #[.int .u32 (y1 : Int), .slice y3 yl y4] (by simp) rfl rfl (by intro u hu; simp at hu; rcases hu with rfl | rfl <;> rfl) (by unfold maxLen; omega) (by omega) ?_)
        intro g4 c4 w4 hO4 hsz
        have H4 : Hid (Own w0 w4 (Row 94 2 (.slice (some ⟨g4, 0, none⟩) (j + 1) c4) (j + 1) (cat rcells ((outr E r).take (j + 1))) :: Cells b (cur.setIfInBounds (o + 1) (.slice (some ⟨g, 0, none⟩) (n + 1) ce)) 83 :: Row 94 2 (.slice (some ⟨g, 0, none⟩) (n + 1) ce) (n + 1) (cat rcells E) :: (E.map rrow ++ l))) := by
          show Own _ _ _
          rw [HTK.out, cat_append]
          have e2 : cat rcells [(y1, y2, y3, y4)] = [.int .u32 (y1 : Int), .slice y3 yl y4] := by
            show [Value.int .u32 (y1 : Int), Value.slice y3 y2.length y4] = _
            rw [HYL.out]
          rw [e2]; exact hO4
        clear hO4 hsz H1 HAL s0 s1 t0 t1 u1
        go_wp2
        go_roundw
        case rel => exact ⟨j + 1, by omega, by go_num, _, _, rfl, H4.out⟩
        case measure => simp [intOf]; omega
      · rw [if_neg hjr, hx] at hy2
        have hyx : x = y := Option.some.inj hy2
        have hjr' : ((j : Int) == (r : Int)) = false := by rw [beq_eq_false_iff_ne]; omega
        clear hy2 hx
        subst hyx
        obtain ⟨y1, y2, y3, y4⟩ := x
        simp only at s0 s1
        generalize hyl : y2.length = yl at *
        have HYL : Hid (y2.length = yl) := hyl
        clear hyl t0 t1
        go_wp2_with (at_builtin; refine append1_own rfl _ _ 78 rfl 94 i0 (.agg #[.int .u32 0, .slice none 0 0]) 2 32 Tryz.underlying78 hi hz0 hz1 hz2 rfl (by decide) _ _ _ rfl (HAL.out _) _ #[.int .u32 (y1 : Int), .slice y3 yl y4] (by simp) rfl rfl (by intro u hu; simp at hu; rcases hu with rfl | rfl <;> rfl) (by unfold maxLen; omega) (by omega) ?_)
        intro g4 c4 w4 hO4 hsz
        have H4 : Hid (Own w0 w4 (Row 94 2 (.slice (some ⟨g4, 0, none⟩) (j + 1) c4) (j + 1) (cat rcells ((outr E r).take (j + 1))) :: Cells b (cur.setIfInBounds (o + 1) (.slice (some ⟨g, 0, none⟩) (n + 1) ce)) 83 :: Row 94 2 (.slice (some ⟨g, 0, none⟩) (n + 1) ce) (n + 1) (cat rcells E) :: (E.map rrow ++ l))) := by
          show Own _ _ _
          rw [HTK.out, cat_append]
          have e2 : cat rcells [(y1, y2, y3, y4)] = [.int .u32 (y1 : Int), .slice y3 yl y4] := by
            show [Value.int .u32 (y1 : Int), Value.slice y3 y2.length y4] = _
            rw [HYL.out]
          rw [e2]; exact hO4
        clear hO4 hsz H1 HAL s0 s1 u1
        go_wp2
        go_roundw
        case rel => exact ⟨j + 1, by omega, by go_num, _, _, rfl, H4.out⟩
        case measure => simp [intOf]; omega
    · have hjn : j = n := by omega
      subst hjn
      have hlt' : ¬ (j : Int) < (j : Int) := by omega
      have u1 := hO.two.cell (o + 1)
      have v1 := hO.two.froz (o + 1)
      rw [tcur_at HCU.out.2] at u1
      have HFIN : Hid (Own w0 (wr.setCell ⟨b, o + 1, none⟩ (.slice a1 j c1)) (Row 48 4 (.slice d.2.2.1 e.2.length d.2.2.2) e.2.length (ccat e.2) :: RTab b o cur m (outr L r) :: l)) := by
        have hlo : (outr E r).length = j := by rw [length_outr _ _ (by rw [HE.out.2.1]; omega), HE.out.2.1]; rfl
        have h1 := hO.two.setC (o + 1) (.slice a1 j c1)
        rw [Array.setIfInBounds_setIfInBounds] at h1
        rw [List.take_of_length_le (by rw [hlo]; exact Nat.le_refl _)] at h1
        have h2 := h1.three.tail
        have h3 : Own w0 (wr.setCell ⟨b, o + 1, none⟩ (.slice a1 j c1)) (rrow d :: Cells b (cur.setIfInBounds (o + 1) (.slice a1 j c1)) 83 :: Row 94 2 (.slice a1 j c1) j (cat rcells (outr E r)) :: ((outr E r).map rrow ++ l)) := by
          refine h2.perm ?_
          have hpm := ((outr_perm E r d HE.out.2.2.1).map rrow).append_right l
          refine ((hpm.cons _).cons _).trans ?_
          exact (List.perm_middle (l₁ := [Cells b (cur.setIfInBounds (o + 1) (.slice a1 j c1)) 83, Row 94 2 (.slice a1 j c1) j (cat rcells (outr E r))]))
        have h4 : Own w0 (wr.setCell ⟨b, o + 1, none⟩ (.slice a1 j c1)) (RTab b o cur m (outr L r) :: rrow d :: l) := by
          refine RTab.shut (v := .slice a1 j c1) (E := outr E r) (by rw [map_outr _ _ _ (by rw [HE.out.2.1]; omega), HE.out.1]) HCU.out ?_
          rw [hlo]
          refine h3.perm ?_
          refine ((List.Perm.swap _ _ _).trans ((List.Perm.swap _ _ _).cons _)).trans ?_
          exact ((List.perm_middle.symm).cons _).cons _
        have hde := HE.out.2.2.2.2
        subst hde
        exact h4.two
      have HDE : Hid (d.e = e) := HE.out.2.2.2.2
      have hdl : d.2.1.length = e.2.length := by rw [← HDE.out]; rfl
      rw [hdl] at p2
      clear hO
      go_wp2
      go_ret2
      exact ⟨_, _, rfl, HFIN.out⟩
end
end Go.Proofs.YtibdgdbkdnifbaaGreatDoor
