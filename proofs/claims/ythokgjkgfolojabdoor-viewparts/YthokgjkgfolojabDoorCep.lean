/-
  The document's list of who is where: Drop, Put.
-/
import Derived.Test.YthokgjkgfolojabDoorCem
namespace Go.Proofs.YthokgjkgfolojabDoor
open Go.RowKit
set_option linter.unusedVariables false
set_option maxRecDepth 100000

def spc (s : Spt) : List Value := [.int .u32 (s.1 : Int), .int .i32 s.2.1, .int .i32 s.2.2]
theorem spc_len (s : Spt) : (spc s).length = 3 := rfl
theorem Tryd.infoSpot : (Tryd.prog.info? 31).map (fun i => (i.zero, i.size, i.bytes)) = some (some (.agg #[.int .u32 0, .int .i32 0, .int .i32 0]), 3, 12) := by kernel_rfl
/-- a list of spots -/
abbrev SRow (ao : Option Addr) (cap : Nat) (L : List Spt) : Thing := Row 31 3 (.slice ao L.length cap) L.length (cat spc L)
theorem Own.spt {w0 w : World} {l : List Thing} {ao : Option Addr} {cap : Nat} {L : List Spt} (h : Own w0 w (SRow ao cap L :: l)) {j : Nat} {s : Spt} (hs : L[j]? = some s) : ∃ g, ao = some ⟨g, 0, none⟩ ∧ w.cell? ⟨g, j * 3, none⟩ = some (.int .u32 (s.1 : Int)) ∧ w.cell? ⟨g, j * 3 + 1, none⟩ = some (.int .i32 s.2.1) ∧ w.cell? ⟨g, j * 3 + 2, none⟩ = some (.int .i32 s.2.2) := by
  have hj := (List.getElem?_eq_some_iff.1 hs).1
  obtain ⟨g, cp, hv, _⟩ := row_shape h.row (by omega)
  have hva := (Value.slice.inj hv).1
  subst hva
  have hr := h.row
  refine ⟨g, rfl, ?_, ?_, ?_⟩
  · rw [hr.cellAt _ (by omega)]
    exact cat_at spc 3 (fun _ => rfl) L j 0 s hs (by decide)
  · rw [hr.cellAt _ (by omega)]
    exact cat_at spc 3 (fun _ => rfl) L j 1 s hs (by decide)
  · rw [hr.cellAt _ (by omega)]
    exact cat_at spc 3 (fun _ => rfl) L j 2 s hs (by decide)
theorem one_spc (s : Spt) : ∀ u ∈ (spc s).toArray.toList, u.oneCell' = true := by
  intro u hu
  simp [spc] at hu
  rcases hu with rfl | rfl | rfl <;> rfl
theorem drop_take {L : List Spt} {j : Nat} {s : Spt} (hs : L[j]? = some s) (id : Nat) : dropL (L.take (j + 1)) id = dropL (L.take j) id ++ (if s.1 ≠ id then [s] else []) := by
  unfold dropL
  rw [List.take_add_one, hs, List.filter_append]
  by_cases h : s.1 = id <;> simp [h]
/-- what Drop tells -/
def dropE (L : List Spt) (id : Nat) : Int := if (dropL L id).length = L.length then 7 else 0
set_option maxHeartbeats 8000000 in
theorem rdrop (w0 w : World) (l : List Thing) (ao : Option Addr) (cap : Nat) (L : List Spt) (h : Own w0 w (SRow ao cap L :: l)) (hl : L.length ≤ 10000) (id : Nat) :
    Calls Tryd.prog 20 #[.slice ao L.length cap, .int .u32 (id : Int)] w fun e w' => ∃ (ao' : Option Addr) (cap' : Nat), e = .returned (.tuple #[.slice ao' (dropL L id).length cap', .int .i64 (dropE L id)]) ∧ Own w0 w' (SRow ao' cap' (dropL L id) :: l) := by
  obtain ⟨i0, hi, hz0, hz1, hz2⟩ := info3 Tryd.infoSpot
  have H : Hid (Own w0 w (SRow ao cap L :: l)) := h
  obtain ⟨n, hn⟩ : ∃ n, n = L.length := ⟨_, rfl⟩
  have HN : Hid (n = L.length) := hn
  rw [← hn] at hl ⊢
  clear h hn
  go_enter Tryd.func20, Tryd.ntmps20
  go_wp2
  go_loopw [6, 11] (fun vo vi wr => ∃ (j : Nat) (O : List Spt) (a1 : Option Addr) (c1 : Nat), vo = .slice a1 O.length c1 ∧ vi = .int .i64 (j : Int) ∧ j ≤ n ∧ O = dropL (L.take j) id ∧ Own w0 wr (SRow a1 c1 O :: SRow ao cap L :: l)) (fun _ vi _ => n - (iOf vi).toNat)
  case atStart => exact ⟨0, [], none, 0, rfl, rfl, Nat.zero_le _, rfl, H.out.nilRow _ _⟩
  case round =>
    obtain ⟨j, O, a1, c1, rfl, rfl, hj, hO, hOw⟩ := hrel
    have HOE : Hid (O = dropL (L.take j) id) := hO
    have hOl : O.length ≤ j := by
      rw [hO]
      exact Nat.le_trans (List.length_filter_le _ _) (by rw [List.length_take]; omega)
    clear hO H
    by_cases hlt : j < n
    · have hlt' : (j : Int) < (n : Int) := by omega
      obtain ⟨s, hs⟩ : ∃ s, L[j]? = some s := ⟨_, List.getElem?_eq_getElem (by rw [← HN.out]; exact hlt)⟩
      obtain ⟨g, rfl, c0, c1', c2⟩ := hOw.two.spt hs
      have HDT : Hid (dropL (L.take (j + 1)) id = dropL (L.take j) id ++ (if s.1 ≠ id then [s] else [])) := drop_take hs id
      rw [← HOE.out] at HDT
      have HW : Hid (Own w0 wr (SRow a1 c1 O :: SRow (some ⟨g, 0, none⟩) cap L :: l)) := hOw
      obtain ⟨si, sx, sy⟩ := s
      simp only at c0 c1' c2
      clear hOw hs
      generalize hon : O.length = on at *
      have HON : Hid (O.length = on) := hon
      clear hon
      by_cases hid : si = id
      · have hne : ((si : Int) != (id : Int)) = false := by simp [hid]
        have HD2 : Hid (dropL (L.take (j + 1)) id = O) := by show _ = _; rw [HDT.out]; simp [hid]
        have HA : Hid (Own w0 _ _) := HW.out.alloc (.cells #[.int .u32 (si : Int), .int .i32 sx, .int .i32 sy] 31)
        clear HDT hid
        go_wp2
        go_roundw
        case rel => exact ⟨j + 1, O, a1, c1, by rw [HON.out], by go_num, by omega, HD2.out.symm, HA.out⟩
        case measure => simp [iOf]; omega
      · have hne : ((si : Int) != (id : Int)) = true := by simp; omega
        have HD2 : Hid (dropL (L.take (j + 1)) id = O ++ [(si, sx, sy)]) := by show _ = _; rw [HDT.out]; simp [hid]
        have hA := HW.out.alloc (.cells #[.int .u32 (si : Int), .int .i32 sx, .int .i32 sy] 31)
        have hA2 : Own w0 (wr.alloc (.cells #[.int .u32 (si : Int), .int .i32 sx, .int .i32 sy] 31)) (Row 31 3 (.slice a1 on c1) on (cat spc O) :: SRow (some ⟨g, 0, none⟩) cap L :: l) := by rw [← HON.out]; exact hA
        have HA : Hid (Own w0 _ _) := hA2
        clear HDT hA hA2 hid
        go_wp2_with (at_builtin; refine append1_own rfl _ _ 22 rfl 31 i0 (.agg #[.int .u32 0, .int .i32 0, .int .i32 0]) 3 12 Tryd.underlying22 hi hz0 hz1 hz2 rfl (by decide) _ _ _ rfl HA.out _ #[.int .u32 (si : Int), .int .i32 sx, .int .i32 sy] (by simp) rfl rfl (one_spc (si, sx, sy)) (by unfold maxLen; omega) (by omega) ?_)
        intro g2 cap2 w2 hO2 hsz
        have HO2 : Hid (Own w0 w2 (SRow (some ⟨g2, 0, none⟩) cap2 (O ++ [(si, sx, sy)]) :: SRow (some ⟨g, 0, none⟩) cap L :: l)) := by
          have e : (O ++ [(si, sx, sy)]).length = on + 1 := by rw [List.length_append, HON.out]; rfl
          show Own _ _ _
          unfold SRow
          rw [e, cat_append]
          exact hO2
        clear hO2 hsz HA
        go_wp2
        go_roundw
        case rel => exact ⟨j + 1, O ++ [(si, sx, sy)], some ⟨g2, 0, none⟩, cap2, by rw [List.length_append, HON.out]; rfl, by go_num, by omega, HD2.out.symm, HO2.out⟩
        case measure => simp [iOf]; omega
    · have hlt' : ¬ (j : Int) < (n : Int) := by omega
      have hjn : j = n := by omega
      have HOL : Hid (O = dropL L id) := by show _ = _; rw [HOE.out, hjn, HN.out, List.take_length]
      have HW : Hid (Own w0 wr (SRow a1 c1 O :: SRow ao cap L :: l)) := hOw
      clear hOw
      generalize hon : O.length = on at *
      have HON : Hid (O.length = on) := hon
      clear hon hjn
      by_cases he : on = n
      · have he' : ((on : Int) == (n : Int)) = true := by simp [he]
        have hself : dropL L id = L := by
          unfold dropL
          refine List.filter_eq_self.2 (fun s hs => ?_)
          have h1 : (L.filter (fun s => decide (s.1 ≠ id))).length = L.length := by
            have := HON.out
            rw [HOL.out] at this
            unfold dropL at this
            rw [this, he, HN.out]
          exact (List.length_filter_eq_length_iff.1 h1) s hs
        have HE : Hid (dropE L id = 7 ∧ dropL L id = L) := ⟨by unfold dropE; rw [hself, if_pos rfl], hself⟩
        clear hself
        subst he
        go_wp2
        go_ret2
        refine ⟨ao, cap, by rw [HE.out.1, HE.out.2, ← HN.out]; rfl, ?_⟩
        rw [HE.out.2]
        exact HW.out.tail
      · have he' : ((on : Int) == (n : Int)) = false := by rw [beq_eq_false_iff_ne]; omega
        have HE : Hid (dropE L id = 0) := by
          show _ = _
          unfold dropE
          rw [if_neg (by rw [← HOL.out, HON.out, ← HN.out]; exact he)]
        clear he
        go_wp2
        go_ret2
        refine ⟨a1, c1, by rw [HE.out, ← HOL.out, HON.out]; rfl, ?_⟩
        rw [← HOL.out]
        exact HW.out.two.tail
end Go.Proofs.YthokgjkgfolojabDoor
