/-
  Lists of entities of one's own that are written over.
-/
import Derived.Test.YtfhfcfobgemcpaaGreatDoorSnfg
namespace Go.Proofs.YtfhfcfobgemcpaaGreatDoor
open Go.RowKit
set_option linter.unusedVariables false
set_option maxRecDepth 100000

theorem cat_set (L : List EnE) (j r : Nat) (x y : EnE) (hx : L[j]? = some x) (v : Value) (hy : y.cs = x.cs.set r v) (hr : r < 2) : cat EnE.cs (L.set j y) = (cat EnE.cs L).set (j * 2 + r) v := by
  induction L generalizing j with
  | nil => simp at hx
  | cons z t ih =>
    have e1 : ∀ (A : List EnE) (q : EnE), cat EnE.cs (q :: A) = q.cs ++ cat EnE.cs A := fun _ _ => by simp [cat]
    cases j with
    | zero =>
      simp at hx
      subst hx
      rw [List.set_cons_zero, e1, e1, hy, Nat.zero_mul, Nat.zero_add, List.set_append]
      rw [if_pos (by simpa [EnE.cs] using hr)]
    | succ j =>
      have ih := ih j (by simpa using hx)
      rw [List.set_cons_succ, e1, e1, ih, List.set_append, if_neg (by simp [EnE.cs]; omega)]
      congr 2
      simp [EnE.cs]
      omega
theorem Own.entId {w0 w : World} {l : List Thing} {cap g : Nat} {L : List EnE} (h : Own w0 w (EntsT (some ⟨g, 0, none⟩) cap L :: l)) {j : Nat} {x : EnE} (hx : L[j]? = some x) (z : Int) (hz : 0 ≤ z) :
    Own w0 (w.setCell ⟨g, j * 2, none⟩ (.int .u32 z)) (EntsT (some ⟨g, 0, none⟩) cap (L.set j { x with id := z.toNat }) :: l) := by
  obtain ⟨_, h1⟩ := Own.ex_iff.1 h
  have h2 := Own.setR h1 (j * 2) (.int .u32 z)
  have e1 : (cat EnE.cs L).set (j * 2) (.int .u32 z) = cat EnE.cs (L.set j { x with id := z.toNat }) := by
    rw [cat_set L j 0 x _ hx (.int .u32 z) (by simp [EnE.cs, Int.toNat_of_nonneg hz]) (by decide), Nat.add_zero]
  have e2 : (L.set j { x with id := z.toNat }).length = L.length := by simp
  have e3 : (L.set j { x with id := z.toNat }).map erow = L.map erow := by
    rw [List.map_set]
    have : erow { x with id := z.toNat } = erow x := rfl
    rw [this]
    apply List.ext_getElem?
    intro i
    rw [List.getElem?_set]
    split
    · rename_i hij
      subst hij
      split
      · rw [List.getElem?_map, hx]; rfl
      · rename_i hl
        rw [List.getElem?_eq_none (by simpa using Nat.le_of_not_lt hl)]
    · rfl
  refine Own.ents ?_
  rw [e2, e3, ← e1]
  exact h2
theorem ccat_seta (C : List Cp) (k : Nat) (q : Cp) (hq : C[k]? = some q) (u : Int) : ccat (C.set k { q with a := u }) = (ccat C).set (k * 4 + 1) (.int .i32 u) := by
  induction C generalizing k with
  | nil => simp at hq
  | cons z t ih =>
    have e1 : ∀ (A : List Cp) (y : Cp), ccat (y :: A) = y.cs ++ ccat A := fun _ _ => by simp [ccat, cat]
    cases k with
    | zero =>
      simp at hq
      subst hq
      rw [List.set_cons_zero, e1, e1]
      simp [Cp.cs]
    | succ k =>
      have ih := ih k (by simpa using hq)
      rw [List.set_cons_succ, e1, e1, ih, List.set_append, if_neg (by simp [Cp.cs]; omega)]
      congr 2
      simp [Cp.cs]
      omega
theorem Own.entCp {w0 w : World} {l : List Thing} {ao : Option Addr} {cap gc : Nat} {L : List EnE} (h : Own w0 w (EntsT ao cap L :: l)) {j k : Nat} {x : EnE} {q : Cp} (hx : L[j]? = some x) (hq : x.C[k]? = some q) (hg : x.ao = some ⟨gc, 0, none⟩) (u : Int) :
    Own w0 (w.setCell ⟨gc, k * 4 + 1, none⟩ (.int .i32 u)) (EntsT ao cap (L.set j { x with C := x.C.set k { q with a := u } }) :: l) := by
  obtain ⟨_, h1⟩ := Own.ex_iff.1 h
  have hj := (List.getElem?_eq_some_iff.1 hx)
  have eL : L = L.take j ++ x :: L.drop (j + 1) := by rw [← hj.2, ← List.drop_eq_getElem_cons hj.1, List.take_append_drop]
  have eS : ∀ y, L.set j y = L.take j ++ y :: L.drop (j + 1) := fun y => by rw [List.set_eq_take_append_cons_drop, if_pos hj.1]
  have hp : ∀ y : EnE, (Row 67 2 (.slice ao L.length cap) L.length (cat EnE.cs L) :: (L.set j y).map erow ++ l).Perm (erow y :: (Row 67 2 (.slice ao L.length cap) L.length (cat EnE.cs L) :: ((L.take j).map erow ++ ((L.drop (j + 1)).map erow ++ l)))) := fun y => by
    rw [eS y]
    have e : Row 67 2 (.slice ao L.length cap) L.length (cat EnE.cs L) :: (L.take j ++ y :: L.drop (j + 1)).map erow ++ l = (Row 67 2 (.slice ao L.length cap) L.length (cat EnE.cs L) :: (L.take j).map erow) ++ erow y :: ((L.drop (j + 1)).map erow ++ l) := by simp
    rw [e]
    exact List.perm_middle
  have hself : L.set j x = L := by
    rw [eS x]; exact eL.symm
  have hp0 := hp x
  rw [hself] at hp0
  have h2 : Own w0 w (erow x :: _) := h1.perm hp0
  have h2' : Own w0 w (Row 46 4 (.slice (some ⟨gc, 0, none⟩) x.C.length x.cap) x.C.length (ccat x.C) :: (Row 67 2 (.slice ao L.length cap) L.length (cat EnE.cs L) :: ((L.take j).map erow ++ ((L.drop (j + 1)).map erow ++ l)))) := by
    have e : erow x = Row 46 4 (.slice (some ⟨gc, 0, none⟩) x.C.length x.cap) x.C.length (ccat x.C) := by unfold erow; rw [hg]
    rw [← e]; exact h2
  have h3 := Own.setR h2' (k * 4 + 1) (.int .i32 u)
  rw [← ccat_seta x.C k q hq u] at h3
  have h4 : Own w0 (w.setCell ⟨gc, k * 4 + 1, none⟩ (.int .i32 u)) (erow { x with C := x.C.set k { q with a := u } } :: (Row 67 2 (.slice ao L.length cap) L.length (cat EnE.cs L) :: ((L.take j).map erow ++ ((L.drop (j + 1)).map erow ++ l)))) := by
    unfold erow
    simp only [List.length_set, hg]
    exact h3
  have h5 := h4.perm (hp { x with C := x.C.set k { q with a := u } }).symm
  have e1 : cat EnE.cs (L.set j { x with C := x.C.set k { q with a := u } }) = cat EnE.cs L := by
    have e : ({ x with C := x.C.set k { q with a := u } } : EnE).cs = x.cs := by simp [EnE.cs]
    have e2 := cat_set L j 0 x { x with C := x.C.set k { q with a := u } } hx (.int .u32 (x.id : Int)) (by rw [e]; simp [EnE.cs]) (by decide)
    rw [e2, Nat.add_zero]
    apply List.ext_getElem?
    intro i
    rw [List.getElem?_set]
    split
    · rename_i hij
      subst hij
      split
      · have := cat_at EnE.cs 2 (fun _ => rfl) L j 0 x hx (by decide)
        rw [Nat.add_zero] at this
        rw [this]; rfl
      · rename_i hl
        rw [List.getElem?_eq_none (Nat.le_of_not_lt hl)]
    · rfl
  have e2 : (L.set j { x with C := x.C.set k { q with a := u } }).length = L.length := by simp
  refine Own.ents ?_
  rw [e1, e2]
  exact h5
theorem Own.entRow {w0 w : World} {l : List Thing} {ao : Option Addr} {cap : Nat} {L : List EnE} (h : Own w0 w (EntsT ao cap L :: l)) {j : Nat} {x : EnE} (hx : L[j]? = some x) : w.ownsRow 0 46 4 (.slice x.ao x.C.length x.cap) x.C.length (ccat x.C) := by
  obtain ⟨_, h1⟩ := Own.ex_iff.1 h
  obtain ⟨L1, L2, rfl⟩ := List.append_of_mem (List.mem_of_getElem? hx)
  have h2 : Own w0 w (erow x :: (L1.map erow ++ (L2.map erow ++ l))) := by
    have h3 : Own w0 w ((L1 ++ x :: L2).map erow ++ l) := h1.tail
    refine h3.perm ?_
    have e : (L1 ++ x :: L2).map erow ++ l = L1.map erow ++ (erow x :: (L2.map erow ++ l)) := by simp
    rw [e]
    exact List.perm_middle
  exact h2.row
end Go.Proofs.YtfhfcfobgemcpaaGreatDoor
