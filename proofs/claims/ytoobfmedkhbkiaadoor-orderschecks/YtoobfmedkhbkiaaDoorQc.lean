/-
  Orders one by one; results that are alike.
-/
import Derived.Test.YtoobfmedkhbkiaaDoorQb
namespace Go.Proofs.YtoobfmedkhbkiaaDoor
open Go.RowKit
set_option linter.unusedVariables false
set_option maxRecDepth 100000

def O4 (w : World) (g p : Nat) (x : OrdE) : Prop := w.cell? ⟨g, p, none⟩ = some (.int .u8 (x.d : Int)) ∧ w.cell? ⟨g, p + 1, none⟩ = some (.int .u32 (x.id : Int)) ∧ w.cell? ⟨g, p + 2, none⟩ = some (.int .u8 (x.k : Int)) ∧ w.cell? ⟨g, p + 3, none⟩ = some (.slice x.ao x.C.length x.cap)
/-- a list of orders that can be read -/
def Ords (w : World) (ao : Option Addr) (L : List OrdE) : Prop := (L = [] ∨ ∃ g o, ao = some ⟨g, o, none⟩ ∧ ∀ (j : Nat) x, L[j]? = some x → O4 w g (o + j * 4) x) ∧ ∀ x ∈ L, Cs w x.ao x.C
theorem Ords.at {w : World} {ao : Option Addr} {L : List OrdE} (h : Ords w ao L) (j : Nat) (x : OrdE) (hx : L[j]? = some x) : ∃ g o, ao = some ⟨g, o, none⟩ ∧ O4 w g (o + j * 4) x := by
  rcases h.1 with h | ⟨g, o, ha, hc⟩
  · subst h; simp at hx
  · exact ⟨g, o, ha, hc j x hx⟩
theorem O4.quiet {w w' : World} {g p : Nat} {x : OrdE} (h : O4 w g p x) (hf : Fr Nobody w w') : O4 w' g p x := by
  obtain ⟨h0, h1, h2, h3⟩ := h
  have hb := World.block_lt_of_cell? w _ h0
  exact ⟨(hf.cell (p := ⟨g, p, none⟩) hb id).trans h0, (hf.cell (p := ⟨g, p + 1, none⟩) hb id).trans h1, (hf.cell (p := ⟨g, p + 2, none⟩) hb id).trans h2, (hf.cell (p := ⟨g, p + 3, none⟩) hb id).trans h3⟩
theorem Ords.quiet {w w' : World} {ao : Option Addr} {L : List OrdE} (h : Ords w ao L) (hf : Fr Nobody w w') : Ords w' ao L := by
  refine ⟨?_, fun x hx => (h.2 x hx).quiet hf⟩
  rcases h.1 with h | ⟨g, o, ha, hc⟩
  · exact .inl h
  · exact .inr ⟨g, o, ha, fun j x hx => (hc j x hx).quiet hf⟩

def runs {α : Type} (step : α → OrdE → (Int × Nat) × α) : α → List OrdE → List (Int × Nat) × α
  | s, [] => ([], s)
  | s, o :: L => ((step s o).1 :: (runs step (step s o).2 L).1, (runs step (step s o).2 L).2)
theorem runs_snoc {α : Type} (step : α → OrdE → (Int × Nat) × α) (L : List OrdE) (o : OrdE) : ∀ s, runs step s (L ++ [o]) = ((runs step s L).1 ++ [(step (runs step s L).2 o).1], (step (runs step s L).2 o).2) := by
  induction L with
  | nil => intro s; rfl
  | cons x L ih => intro s; simp [runs, ih]
theorem Tryd.infoRes : (Tryd.prog.info? 44).map (fun i => (i.zero, i.size, i.bytes)) = some (some (.agg #[.int .i64 0, .int .u32 0]), 2, 16) := by kernel_rfl

set_option maxHeartbeats 2000000 in
theorem all_of {α : Type} (P : α → Thing) (Inv : Nat → α → Prop) (step : α → OrdE → (Int × Nat) × α) (w0 w : World) (l : List Thing) (p : Option Addr) (s0 : α) (h : Own w0 w (P s0 :: l)) (ao : Option Addr) (n cap : Nat) (L : List OrdE) (hn : L.length = n) (hL : n ≤ 100000) (hOrds : ∀ w', Own w0 w' l → Ords w' ao L) (hInv : Inv 0 s0)
    (HD : ∀ j s o w' l', L[j]? = some o → Inv j s → Own w0 w' (P s :: l') → (∀ w'', Own w0 w'' l' → Cs w'' o.ao o.C) → Calls Tryd.prog 16 #[.pointer p, o.ag] w' fun e w'' => e = .returned (rag (step s o).1) ∧ Own w0 w'' (P (step s o).2 :: l'))
    (HI : ∀ j s o, L[j]? = some o → Inv j s → Inv (j + 1) (step s o).2) :
    Calls Tryd.prog 18 #[.pointer p, .slice ao n cap] w fun e w' => ∃ ra rc, e = .returned (.slice ra n rc) ∧ Own w0 w' (Row 44 2 (.slice ra n rc) n (cat rcel (runs step s0 L).1) :: P (runs step s0 L).2 :: l) ∧ Inv n (runs step s0 L).2 := by
  obtain ⟨i0, hi, hz0, hz1, hz2⟩ := info_parts Tryd.infoRes
  obtain ⟨w1, hmk, hO, hf⟩ := make_own (P := Tryd.prog) h 51 44 i0 (.agg #[.int .i64 0, .int .u32 0]) 2 Tryd.underlying51 hi hz0 hz1 n (by rw [hz2]; omega) (by unfold maxLen; omega)
  have H1 : Hid (Own w0 w1 (Row 44 2 (.slice (some ⟨w.heap.size, 0, none⟩) 0 n) 0 (cat rcel (runs step s0 (L.take 0)).1) :: P (runs step s0 (L.take 0)).2 :: l)) := hO
  have HV : Hid (Inv 0 (runs step s0 (L.take 0)).2) := hInv
  have HN : Hid (L.length = n) := hn
  have HDD : Hid _ := HD
  have HII : Hid _ := HI
  have HOS : Hid _ := hOrds
  clear h hO hf hInv hn HD HI hOrds
  go_enter Tryd.func18, Tryd.ntmps18
  go_wp2
  go_loopw [5, 13] (fun rv cc wr => ∃ j : Nat, j ≤ n ∧ cc = .int .i64 j ∧ ∃ ra rc, rv = .slice ra j rc ∧ Own w0 wr (Row 44 2 (.slice ra j rc) j (cat rcel (runs step s0 (L.take j)).1) :: P (runs step s0 (L.take j)).2 :: l) ∧ Inv j (runs step s0 (L.take j)).2) (fun _ cc _ => n - (intOf cc).toNat)
  case atStart => exact ⟨0, Nat.zero_le _, rfl, _, _, rfl, H1.out, HV.out⟩
  case round =>
    obtain ⟨j, hj, rfl, ra, rc, rfl, hO, hI⟩ := hrel
    have HO : Hid (Own w0 wr _) := hO
    clear H1 HV
    by_cases hlt : j < n
    · obtain ⟨o, ho⟩ : ∃ o, L[j]? = some o := ⟨_, List.getElem?_eq_getElem (by rw [HN.out]; exact hlt)⟩
      obtain ⟨g, off, hao, c0, c1, c2, c3⟩ := (HOS.out wr hO.tail.tail).at j o ho
      have hlt' : (j : Int) < (n : Int) := by omega
      have hst : runs step s0 (L.take (j + 1)) = ((runs step s0 (L.take j)).1 ++ [(step (runs step s0 (L.take j)).2 o).1], (step (runs step s0 (L.take j)).2 o).2) := by
        rw [List.take_add_one, ho]; exact runs_snoc step _ _ _
      have HDO : Hid (∀ w', Own w0 w' (Row 44 2 (.slice ra j rc) j (cat rcel (runs step s0 (L.take j)).1) :: P (runs step s0 (L.take j)).2 :: l) → Calls Tryd.prog 16 #[.pointer p, o.ag] w' fun e w'' => e = .returned (rag (step (runs step s0 (L.take j)).2 o).1) ∧ Own w0 w'' (Row 44 2 (.slice ra j rc) j (cat rcel (runs step s0 (L.take j)).1) :: P (runs step s0 (L.take (j + 1))).2 :: l)) := by
        intro w' h'
        refine (HDD.out j _ o w' _ ho hI h'.two (fun w'' h'' => (HOS.out _ h''.tail).2 o (List.mem_of_getElem? ho))).mono ?_
        rintro e w'' ⟨rfl, h2⟩
        rw [hst]
        exact ⟨rfl, h2.two⟩
      have HI2 : Hid (Inv (j + 1) (runs step s0 (L.take (j + 1))).2) := by
        show Inv _ _
        rw [hst]; exact HII.out j _ o ho hI
      have HST : Hid (cat rcel (runs step s0 (L.take (j + 1))).1 = cat rcel (runs step s0 (L.take j)).1 ++ rcel (step (runs step s0 (L.take j)).2 o).1) := by
        show _ = _
        rw [hst, cat_append]; simp [cat]
      clear hst hO hI ho HDD HII
      subst hao
      unfold OrdE.ag at HDO
      obtain ⟨d, oid, k, C, oa, oc⟩ := o
      simp only at c0 c1 c2 c3 HDO
      generalize hr : (step (runs step s0 (L.take j)).2 ⟨d, oid, k, C, oa, oc⟩).1 = r at *
      obtain ⟨r1, r2⟩ := r
      unfold rag at HDO
      simp only at HDO
      clear hr
      go_wp2_with fail
      refine (HDO.out _ (HO.out.alloc _)).mono ?_
      rintro e w2 ⟨rfl, hO2⟩
      have H2 : Hid (Own w0 w2 _) := hO2
      clear hO2 HDO HO c0 c1 c2 c3
      go_wp2_with (at_builtin; refine append1_own rfl _ _ 51 rfl 44 i0 (.agg #[.int .i64 0, .int .u32 0]) 2 16 Tryd.underlying51 hi hz0 hz1 hz2 rfl (by decide) _ _ _ rfl H2.out _ #[.int .i64 r1, .int .u32 (r2 : Int)] (by simp) rfl rfl (by intro u hu; simp at hu; rcases hu with rfl | rfl <;> rfl) (by unfold maxLen; omega) (by omega) ?_)
      intro g3 cap3 w3 hO3 hsz3
      have H3 : Hid (Own w0 w3 (Row 44 2 (.slice (some ⟨g3, 0, none⟩) (j + 1) cap3) (j + 1) (cat rcel (runs step s0 (L.take (j + 1))).1) :: P (runs step s0 (L.take (j + 1))).2 :: l)) := by
        show Own _ _ _
        rw [HST.out]; exact hO3
      clear hO3 hsz3 H2
      go_wp2
      go_roundw
      case rel => exact ⟨j + 1, by omega, by go_num, _, _, rfl, H3.out, HI2.out⟩
      case measure => simp [intOf]; omega
    · have hlt' : ¬ (j : Int) < (n : Int) := by omega
      have hjn : j = n := by omega
      subst hjn
      have hT : L.take j = L := List.take_of_length_le (by rw [HN.out]; exact Nat.le_refl _)
      rw [hT] at hI
      have HI2 : Hid (Inv j _) := hI
      have H2 : Hid (Own w0 wr _) := hO
      rw [hT] at H2
      clear hT hO hI HO
      go_wp2
      go_ret
      exact ⟨_, _, rfl, H2.out, HI2.out⟩
end Go.Proofs.YtoobfmedkhbkiaaDoor
