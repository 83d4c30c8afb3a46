/-
  The document's table: a list of entities, each with components of its own; New, Row, Add.
-/
import Derived.Test.YtibdgdbkdnifbaaGreatDoorUj
namespace Go.Proofs.YtibdgdbkdnifbaaGreatDoor
open Go.RowKit Go.Maps
set_option linter.unusedVariables false
set_option maxRecDepth 100000

/-- something that is so -/
def Fact (p : Prop) : Thing := ⟨fun _ A => p ∧ ∀ k, ¬ A k, fun h a => (h.2 _ a).elim, fun h _ _ => h⟩
theorem Own.fact {w0 w : World} {p : Prop} {l : List Thing} : Own w0 w (Fact p :: l) ↔ p ∧ Own w0 w l := by
  constructor
  · intro h
    refine ⟨?_, h.tail⟩
    obtain ⟨A, ⟨B, C, hB, _⟩, _⟩ := h
    exact hB.1
  · rintro ⟨hp, h⟩
    exact h.new (Fact p) (fun _ => False) ⟨hp, fun _ h => h⟩ (Fr.refl _ _) (fun _ h => h.elim)
/-- an entity with the slice that holds its components -/
abbrev REnt := Nat × List Cp × Option Addr × Nat
def REnt.v (e : REnt) : Value := .slice e.2.2.1 e.2.1.length e.2.2.2
def REnt.e (e : REnt) : Ent := (e.1, e.2.1)
def rcells (e : REnt) : List Value := [.int .u32 (e.1 : Int), e.v]
theorem rcells_len (e : REnt) : (rcells e).length = 2 := rfl
theorem rcells_one (e : REnt) : ∀ u ∈ rcells e, u.oneCell' = true := by
  intro u hu; simp [rcells, REnt.v] at hu; rcases hu with rfl | rfl <;> rfl
def rrow (e : REnt) : Thing := Row 48 4 e.v e.2.1.length (ccat e.2.1)
def RT (v : Value) (L : List Ent) : Thing := Ex (fun E : List REnt => Fact (E.map REnt.e = L) :: Row 94 2 v E.length (cat rcells E) :: E.map rrow)
/-- a table within a block: its make at o, its rows at o + 1 -/
def RTab (b o : Nat) (cur : Array Value) (m : Nat) (L : List Ent) : Thing :=
  Ex (fun v : Value => [Fact (cur[o]? = some (.int .u8 (m : Int)) ∧ o + 1 < cur.size), Cells b (cur.setIfInBounds (o + 1) v) 83, RT v L])
section
variable {w0 w : World} {l : List Thing} {b o m : Nat} {cur : Array Value} {L : List Ent}
theorem RT.open {v : Value} (h : Own w0 w (RT v L :: l)) : ∃ E, E.map REnt.e = L ∧ Own w0 w (Row 94 2 v E.length (cat rcells E) :: (E.map rrow ++ l)) := by
  obtain ⟨E, h⟩ := Own.ex_iff.1 h
  have h' : Own w0 w (Fact (E.map REnt.e = L) :: Row 94 2 v E.length (cat rcells E) :: (E.map rrow ++ l)) := h
  exact ⟨E, (Own.fact.1 h').1, (Own.fact.1 h').2⟩
theorem RT.shut {v : Value} {E : List REnt} (hE : E.map REnt.e = L) (h : Own w0 w (Row 94 2 v E.length (cat rcells E) :: (E.map rrow ++ l))) : Own w0 w (RT v L :: l) :=
  Own.ex_iff.2 ⟨E, Own.fact.2 ⟨hE, h⟩⟩
theorem RTab.open (h : Own w0 w (RTab b o cur m L :: l)) : ∃ v E, E.map REnt.e = L ∧ Own w0 w (Cells b (cur.setIfInBounds (o + 1) v) 83 :: Row 94 2 v E.length (cat rcells E) :: (E.map rrow ++ l)) := by
  obtain ⟨v, h⟩ := Own.ex_iff.1 h
  have h' : Own w0 w (Fact (cur[o]? = some (.int .u8 (m : Int)) ∧ o + 1 < cur.size) :: Cells b (cur.setIfInBounds (o + 1) v) 83 :: RT v L :: l) := h
  obtain ⟨E, hE, h2⟩ := RT.open (Own.fact.1 h').2.two
  refine ⟨v, E, hE, h2.perm ?_⟩
  exact (List.perm_middle (l₁ := Row 94 2 v E.length (cat rcells E) :: E.map rrow)).trans (List.Perm.refl _)
theorem RTab.facts (h : Own w0 w (RTab b o cur m L :: l)) : cur[o]? = some (.int .u8 (m : Int)) ∧ o + 1 < cur.size := by
  obtain ⟨v, h⟩ := Own.ex_iff.1 h
  have h' : Own w0 w (Fact (cur[o]? = some (.int .u8 (m : Int)) ∧ o + 1 < cur.size) :: Cells b (cur.setIfInBounds (o + 1) v) 83 :: RT v L :: l) := h
  exact (Own.fact.1 h').1
theorem RTab.shut {v : Value} {E : List REnt} (hE : E.map REnt.e = L) (hc : cur[o]? = some (.int .u8 (m : Int)) ∧ o + 1 < cur.size) (h : Own w0 w (Cells b (cur.setIfInBounds (o + 1) v) 83 :: Row 94 2 v E.length (cat rcells E) :: (E.map rrow ++ l))) : Own w0 w (RTab b o cur m L :: l) := by
  refine Own.ex_iff.2 ⟨v, Own.fact.2 ⟨hc, ?_⟩⟩
  have h2 : Own w0 w (RT v L :: Cells b (cur.setIfInBounds (o + 1) v) 83 :: l) := by
    refine RT.shut hE (h.perm ?_)
    exact (List.perm_middle (l₁ := Row 94 2 v E.length (cat rcells E) :: E.map rrow)).symm
  exact h2.two
theorem tcur_at {cur : Array Value} {o : Nat} (ho : o + 1 < cur.size) (v : Value) : (cur.setIfInBounds (o + 1) v)[o + 1]? = some v := by simp [ho]
theorem tcur_m {cur : Array Value} {o : Nat} (v : Value) : (cur.setIfInBounds (o + 1) v)[o]? = cur[o]? := by rw [Array.getElem?_setIfInBounds, if_neg (by omega)]
theorem map_pick {α : Type} (f : α → Thing) (E : List α) (i : Nat) (e : α) (he : E[i]? = some e) : (E.map f).Perm (f e :: (E.eraseIdx i).map f) := by
  induction E generalizing i with
  | nil => simp at he
  | cons a E ih =>
    cases i with
    | zero => simp at he; subst he; exact List.Perm.refl _
    | succ i =>
      have := ih i (by simpa using he)
      exact (this.cons (f a)).trans (List.Perm.swap _ _ _)
theorem Own.pick {P Q : Thing} {E : List REnt} (i : Nat) (e : REnt) (he : E[i]? = some e) (h : Own w0 w (P :: Q :: (E.map rrow ++ l))) : Own w0 w (rrow e :: P :: Q :: ((E.eraseIdx i).map rrow ++ l)) := by
  refine h.perm ?_
  have := (((map_pick rrow E i e he).append_right l).cons Q).cons P
  exact this.trans (List.perm_middle (l₁ := [P, Q]))
theorem Own.unpick {P Q : Thing} {E E' : List REnt} (i : Nat) (e : REnt) (he : E'[i]? = some e) (hee : E'.eraseIdx i = E.eraseIdx i) (h : Own w0 w (rrow e :: P :: Q :: ((E.eraseIdx i).map rrow ++ l))) : Own w0 w (P :: Q :: (E'.map rrow ++ l)) := by
  rw [← hee] at h
  refine h.perm ?_
  have := (((map_pick rrow E' i e he).append_right l).cons Q).cons P
  exact (this.trans (List.perm_middle (l₁ := [P, Q]))).symm
/-- the cells of entity i -/
theorem ecell {g n cap : Nat} {E : List REnt} (h : Own w0 w (Row 94 2 (.slice (some ⟨g, 0, none⟩) n cap) E.length (cat rcells E) :: l)) (i : Nat) (e : REnt) (he : E[i]? = some e) :
    w.cell? ⟨g, i * 2, none⟩ = some (.int .u32 (e.1 : Int)) ∧ w.cell? ⟨g, i * 2 + 1, none⟩ = some (.slice e.2.2.1 e.2.1.length e.2.2.2) := by
  have hn := (row_cap h.row).1
  subst hn
  have hi := (List.getElem?_eq_some_iff.1 he).1
  refine ⟨?_, ?_⟩
  · rw [h.row.cellAt _ (by omega)]
    exact (cat_at rcells 2 rcells_len E i 0 e he (by decide)).trans rfl
  · rw [h.row.cellAt _ (by omega)]
    exact (cat_at rcells 2 rcells_len E i 1 e he (by decide)).trans rfl
end
theorem Tryz.infoEnt : (Tryz.prog.info? 94).map (fun i => (i.zero, i.size, i.bytes)) = some (some (.agg #[.int .u32 0, .slice none 0 0]), 2, 32) := by kernel_rfl

section
variable (w0 w : World) (l : List Thing) (b o : Nat) (cur : Array Value) (m : Nat) (L : List Ent)
/-- a place, or -1 -/
def pl1 (p : Option Nat) : Int := match p with
  | none => -1
  | some r => r
set_option maxHeartbeats 1000000 in
theorem rtrow (h : Own w0 w (RTab b o cur m L :: l)) (hA : Apart L) (hL : L.length ≤ 1000000) (id : Nat) :
    Calls Tryz.prog 76 #[.pointer (some ⟨b, o, none⟩), .int .u32 (id : Int)] w fun e w' => e = .returned (.int .i64 (pl1 (plc L id))) ∧ Fr Nobody w w' := by
  have HCU : Hid (cur[o]? = some (.int .u8 (m : Int)) ∧ o + 1 < cur.size) := RTab.facts h
  obtain ⟨v, E, hE, h⟩ := RTab.open h
  obtain ⟨ao, cap, rfl⟩ := row_any h.two.row
  have hlen : E.length = L.length := by rw [← hE, List.length_map]
  have q1 := h.cell (o + 1)
  rw [tcur_at HCU.out.2] at q1
  have H : Hid (Own w0 w (Cells b (cur.setIfInBounds (o + 1) (.slice ao E.length cap)) 83 :: Row 94 2 (.slice ao E.length cap) E.length (cat rcells E) :: (E.map rrow ++ l))) := h
  have HE : Hid (E.map REnt.e = L ∧ Apart L) := ⟨hE, hA⟩
  generalize hn : E.length = n at *
  have HN : Hid (E.length = n ∧ L.length = n) := ⟨hn, hlen.symm⟩
  rw [← hlen] at hL
  clear h hE hA hlen hn
  go_enter Tryz.func76, Tryz.ntmps76
  go_wp2
  go_loopw [14] (fun cv wr => ∃ j : Nat, j ≤ n ∧ cv = .int .i64 j ∧ Fr Nobody w wr ∧ ∀ i e, i < j → L[i]? = some e → e.1 ≠ id) (fun cv _ => n - (intOf cv).toNat)
  case atStart => exact ⟨0, Nat.zero_le _, rfl, Fr.refl _ _, fun i e hi => by omega⟩
  case round =>
    obtain ⟨j, hj, rfl, hf, hno⟩ := hrel
    have HF : Hid (Fr Nobody w wr) := hf
    have HNO : Hid (∀ i e, i < j → L[i]? = some e → e.1 ≠ id) := hno
    clear hno
    by_cases hlt : j < n
    · have hlt' : (j : Int) < (n : Int) := by omega
      obtain ⟨e, he⟩ : ∃ e, E[j]? = some e := ⟨_, List.getElem?_eq_getElem (by rw [HN.out.1]; exact hlt)⟩
      obtain ⟨g, cap', hv, _⟩ := row_shape H.out.two.row (by omega)
      have hg := (Value.slice.inj hv).1
      subst hg
      have hh := (H.out.quiet hf).two
      rw [← HN.out.1] at hh
      obtain ⟨c0, c1⟩ := ecell hh j e he
      have heL : L[j]? = some e.e := by rw [← HE.out.1, List.getElem?_map, he]; rfl
      by_cases hid : e.1 = id
      · have HV : Hid (plc L id = some j) := (plc_some HE.out.2 id j).2 ⟨e.e, heL, hid⟩
        rw [hid] at c0
        have hii : ((id : Int) == (id : Int)) = true := by simp
        clear he hv hh heL hid hf
        go_wp2
        go_ret
        rw [HV.out]
        exact ⟨rfl, HF.out.alloc _⟩
      · have hii : ((e.1 : Int) == (id : Int)) = false := by rw [beq_eq_false_iff_ne]; omega
        have HN2 : Hid (∀ i e, i < j + 1 → L[i]? = some e → e.1 ≠ id) := by
          intro i d hi hd
          by_cases hij : i = j
          · subst hij; rw [heL] at hd; cases hd; exact hid
          · exact HNO.out i d (by omega) hd
        clear he hv hh heL hid hf
        go_wp2
        go_roundw
        case rel => exact ⟨j + 1, by omega, by go_num, HF.out.alloc _, HN2.out⟩
        case measure => simp [intOf]; omega
    · have hlt' : ¬ (j : Int) < (n : Int) := by omega
      have HV : Hid (plc L id = none) := by
        show _ = _
        rw [plc_none]
        intro e he
        obtain ⟨i, hi⟩ := List.getElem?_of_mem he
        exact HNO.out i e (by have := (List.getElem?_eq_some_iff.1 hi).1; rw [HN.out.2] at this; omega) hi
      clear hf
      go_wp2
      go_ret
      rw [HV.out]
      exact ⟨rfl, HF.out⟩
end
end Go.Proofs.YtibdgdbkdnifbaaGreatDoor
