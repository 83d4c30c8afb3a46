/-
  Orders that wait: New, Push, Take, Len; results that are alike.
-/
import Derived.Test.YtoobfmedkhbkiaaDoorQc
namespace Go.Proofs.YtoobfmedkhbkiaaDoor
open Go.RowKit
set_option linter.unusedVariables false
set_option maxRecDepth 100000

/-- a list of results that can be read -/
def Rs (w : World) (ao : Option Addr) (L : List (Int × Nat)) : Prop := L = [] ∨ ∃ g o, ao = some ⟨g, o, none⟩ ∧ ∀ (j : Nat) x, L[j]? = some x → w.cell? ⟨g, o + j * 2, none⟩ = some (.int .i64 x.1) ∧ w.cell? ⟨g, o + j * 2 + 1, none⟩ = some (.int .u32 (x.2 : Int))
theorem Rs.quiet {w w' : World} {ao : Option Addr} {L : List (Int × Nat)} (h : Rs w ao L) (hf : Fr Nobody w w') : Rs w' ao L := by
  rcases h with h | ⟨g, o, ha, hc⟩
  · exact .inl h
  · refine .inr ⟨g, o, ha, fun j x hx => ?_⟩
    obtain ⟨h0, h1⟩ := hc j x hx
    have hb := World.block_lt_of_cell? w _ h0
    exact ⟨(hf.cell (p := ⟨g, o + j * 2, none⟩) hb id).trans h0, (hf.cell (p := ⟨g, o + j * 2 + 1, none⟩) hb id).trans h1⟩
theorem rcel_len (x : Int × Nat) : (rcel x).length = 2 := rfl
theorem Own.rs {w0 w : World} {l : List Thing} {ao : Option Addr} {n cap : Nat} {L : List (Int × Nat)} (h : Own w0 w (Row 44 2 (.slice ao n cap) n (cat rcel L) :: l)) (hn : L.length = n) : Rs w ao L := by
  have r := h.row
  rcases Nat.eq_zero_or_pos n with h0 | h0
  · exact .inl (List.eq_nil_of_length_eq_zero (by omega))
  · obtain ⟨g, c, hv, _⟩ := row_shape r h0
    have ha := (Value.slice.inj hv).1
    subst ha
    refine .inr ⟨g, 0, rfl, fun j x hx => ?_⟩
    have hj := (List.getElem?_eq_some_iff.1 hx).1
    have e0 := cat_at rcel 2 rcel_len L j 0 x hx (by decide)
    have e1 := cat_at rcel 2 rcel_len L j 1 x hx (by decide)
    exact ⟨by rw [show 0 + j * 2 = j * 2 + 0 by omega, r.cellAt _ (by omega), e0]; rfl, by rw [show 0 + j * 2 + 1 = j * 2 + 1 by omega, r.cellAt _ (by omega), e1]; rfl⟩
set_option maxHeartbeats 2000000 in
theorem same_res (w : World) (a1 a2 : Option Addr) (n c1 c2 : Nat) (L : List (Int × Nat)) (h1 : Rs w a1 L) (h2 : Rs w a2 L) (hn : L.length = n) (hm : n ≤ 1000000) :
    Calls Tryd.prog 19 #[.slice a1 n c1, .slice a2 n c2] w fun e w' => e = .returned (.bool true) ∧ Fr Nobody w w' := by
  have H1 : Hid (Rs w a1 L ∧ Rs w a2 L ∧ L.length = n) := ⟨h1, h2, hn⟩
  clear h1 h2 hn
  have hne : ((n : Int) != (n : Int)) = false := by simp
  go_enter Tryd.func19, Tryd.ntmps19
  go_wp2
  clear hne
  go_loopw [13] (fun cc wr => ∃ k : Nat, k ≤ n ∧ cc = .int .i64 k ∧ Fr Nobody w wr) (fun cc _ => n - (intOf cc).toNat)
  case atStart => exact ⟨0, Nat.zero_le _, rfl, Fr.refl _ _⟩
  case round =>
    obtain ⟨k, hk, rfl, hf⟩ := hrel
    have HF : Hid (Fr Nobody w wr) := hf
    clear hf
    by_cases hlt : k < n
    · obtain ⟨x, hx⟩ : ∃ x, L[k]? = some x := ⟨_, List.getElem?_eq_getElem (by rw [H1.out.2.2]; exact hlt)⟩
      obtain ⟨g1, o1, rfl, p0, p1⟩ : ∃ g o, a1 = some ⟨g, o, none⟩ ∧ wr.cell? ⟨g, o + k * 2, none⟩ = some (.int .i64 x.1) ∧ wr.cell? ⟨g, o + k * 2 + 1, none⟩ = some (.int .u32 (x.2 : Int)) := by
        rcases H1.out.1.quiet HF.out with h | ⟨g, o, ha, hc⟩
        · subst h; simp at hx
        · exact ⟨g, o, ha, hc k x hx⟩
      obtain ⟨g2, o2, rfl, q0, q1⟩ : ∃ g o, a2 = some ⟨g, o, none⟩ ∧ wr.cell? ⟨g, o + k * 2, none⟩ = some (.int .i64 x.1) ∧ wr.cell? ⟨g, o + k * 2 + 1, none⟩ = some (.int .u32 (x.2 : Int)) := by
        rcases H1.out.2.1.quiet HF.out with h | ⟨g, o, ha, hc⟩
        · subst h; simp at hx
        · exact ⟨g, o, ha, hc k x hx⟩
      have hlt' : (k : Int) < (n : Int) := by omega
      clear hx
      obtain ⟨x0, x1⟩ := x
      simp only at p0 p1 q0 q1
      have e0 : (x0 == x0) = true := by simp
      have e1 : ((x1 : Int) == (x1 : Int)) = true := by simp
      go_wp2
      go_quiet (fail)
      go_wp2
      go_roundw
      case rel => exact ⟨k + 1, by omega, by go_num, HF.out.drewN _⟩
      case measure => simp [intOf]; omega
    · have hlt' : ¬ (k : Int) < (n : Int) := by omega
      go_wp2
      go_ret
      exact ⟨rfl, HF.out⟩

/-- where an order's components lie -/
def orow (x : OrdE) : Thing := Row 38 4 (.slice x.ao x.C.length x.cap) x.C.length (ccat x.C)
/-- orders that wait -/
def Buf (b : Nat) (E : List OrdE) : Thing := Ex (fun v : Value => Cells b #[v] 55 :: Row 32 4 v E.length (cat OrdE.cs E) :: E.map orow)
theorem Tryd.infoOrd : (Tryd.prog.info? 32).map (fun i => (i.zero, i.size, i.bytes)) = some (some (.agg #[.int .u8 0, .int .u32 0, .int .u8 0, .slice none 0 0]), 4, 40) := by kernel_rfl
set_option maxHeartbeats 400000 in
theorem onew (w0 w : World) (l : List Thing) (h : Own w0 w l) : Calls Tryd.prog 8 #[] w fun e w' => ∃ b, e = .returned (.pointer (some ⟨b, 0, none⟩)) ∧ Own w0 w' (Buf b [] :: l) := by
  have H : Hid (Own w0 w l) := h
  clear h
  go_enter Tryd.func8, Tryd.ntmps8
  go_wp2
  go_ret
  refine ⟨_, rfl, Own.ex_iff.2 ⟨.slice none 0 0, ?_⟩⟩
  exact ((H.out.nilRow 32 4).allocC #[.slice none 0 0] 55)
set_option maxHeartbeats 400000 in
theorem push_nil (w : World) (o : OrdE) : Calls Tryd.prog 12 #[.pointer none, o.ag] w fun e w' => e = .returned (.int .i64 10) ∧ Fr Nobody w w' := by
  unfold OrdE.ag
  go_enter Tryd.func12, Tryd.ntmps12
  go_wp2
  go_ret
  exact ⟨rfl, (Fr.refl _ _).alloc _⟩
set_option maxHeartbeats 1000000 in
theorem push_bad (w0 w : World) (l : List Thing) (b : Nat) (ht : Tab w0) (h : Own w0 w l) (o : OrdE) (hi : o.In) (hCs : ∀ w', Own w0 w' l → Cs w' o.ao o.C) (hb : o.ck ≠ 0) :
    Calls Tryd.prog 12 #[.pointer (some ⟨b, 0, none⟩), o.ag] w fun e w' => e = .returned (.int .i64 (o.ck : Int)) ∧ Own w0 w' l := by
  have hA := h.alloc (.cells #[.int .u8 (o.d : Int), .int .u32 (o.id : Int), .int .u8 (o.k : Int), .slice o.ao o.C.length o.cap] 32)
  have HC : Hid (Calls _ _ _ _ _) := o.check _ (ht.quiet hA.fr) hi (hCs _ hA)
  have HA : Hid (Own w0 _ _) := hA
  have hx : ¬ ((o.ck : Nat) : Int) = 0 := by omega
  unfold OrdE.ag at HC ⊢
  obtain ⟨d, id, k, C, ao, cap⟩ := o
  generalize OrdE.ck ⟨d, id, k, C, ao, cap⟩ = x at *
  simp only at HC HA ⊢
  clear h hA hb hCs hi
  go_enter Tryd.func12, Tryd.ntmps12
  go_wp2_with fail
  refine HC.out.mono ?_
  rintro e w1 ⟨rfl, hf⟩
  go_wp2
  go_ret
  exact ⟨rfl, HA.out.quiet hf⟩
set_option maxHeartbeats 1000000 in
theorem clone_cs (w0 w : World) (l : List Thing) (h : Own w0 w l) (ao : Option Addr) (len cap : Nat) (C : List Cp) (hl : C.length = len) (hs : Cs w ao C) (hm : len ≤ 1000000) :
    Calls Tryd.prog 27 #[.slice ao len cap] w fun e w' => ∃ ao' cap', e = .returned (.slice ao' len cap') ∧ Own w0 w' (Row 38 4 (.slice ao' len cap') len (ccat C) :: l) := by
  obtain ⟨i0, hi, hz0, hz1, hz2⟩ := info_parts Tryd.infoComp
  have qn : ∀ (w : World) (a : Option Addr) (n c n' c' : Nat), (binOp .eql 30 (.slice a n c) (.slice none n' c')).run Tryd.prog w = .ok (.bool a.isNone) w := fun w a n c n' c' => Lib.run_eql_slice_nil w _ _ a n c n' c' Tryd.underlying30
  have H : Hid (Own w0 w l) := h
  cases ao with
  | none =>
    have hC : C = [] := by
      rcases hs with hs | ⟨g, o, ha, _⟩
      · exact hs
      · cases ha
    subst hC
    simp at hl
    subst hl
    clear h hs
    go_enter Tryd.func27, Tryd.ntmps27
    go_wp2
    go_ret
    exact ⟨none, 0, rfl, H.out.nilRow _ _⟩
  | some a =>
    have HL : Hid (C.length = len ∧ Cs w (some a) C) := ⟨hl, hs⟩
    clear h hl hs
    go_enter Tryd.func27, Tryd.ntmps27
    go_wp2_with (at_builtin; refine append_cs rfl _ _ rfl i0 hi _ hz0 hz1 hz2 rfl _ 0 [] rfl (some a) len cap C rfl HL.out.1 (HL.out.2.quiet ((Fr.refl _ _).alloc _)) (H.out.litRow #[] 38 4 0 (by decide) rfl) (by unfold maxLen; omega) (by omega) ?_)
    intro a1 c1 w1 hO1 hsz1
    have H1 : Hid (Own w0 w1 (Row 38 4 (.slice a1 len c1) len (ccat C) :: l)) := by
      show Own _ _ _
      simpa using hO1
    clear hO1 H hsz1
    go_wp2
    go_ret
    exact ⟨_, _, rfl, H1.out⟩
end Go.Proofs.YtoobfmedkhbkiaaDoor
