/-
  Where the component of a kind stands; changes in lists.
-/
import Derived.Test.YtgflloebebggnaaDoorEna
import Derived.Test.YtgflloebebggnaaDoorDtb
namespace Go.Proofs.YtgflloebebggnaaDoor
open Go.RowKit
set_option linter.unusedVariables false
set_option maxRecDepth 100000

set_option maxHeartbeats 400000 in
theorem placeP_any (w : World) (bk k : Nat) (hk : w.cell? ⟨bk, 0, none⟩ = some (.int .u8 (k : Int))) (q : Cp) :
    Calls Tryd.prog 72 #[.agg #[.int .u8 (q.k : Int), .int .i32 q.a, .int .i32 q.b, .int .i32 q.c], .pointer (some ⟨bk, 0, none⟩)] w fun e w' => e = .returned (.bool (decide (q.k = k))) ∧ Fr Nobody w w' := by
  have hlt : bk < w.heap.size := World.block_lt_of_cell? w _ hk
  have hne : bk ≠ w.heap.size := by omega
  have hne2 : w.heap.size ≠ bk := by omega
  by_cases h : q.k = k
  · subst h
    go_enter Tryd.func72, Tryd.ntmps72
    go_wp2
    go_ret
    exact ⟨by simp, (Fr.refl _ _).alloc _⟩
  · have h' : ((q.k : Int) == (k : Int)) = false := by simp; omega
    rw [decide_eq_false h]
    go_enter Tryd.func72, Tryd.ntmps72
    go_wp2
    go_ret
    exact ⟨rfl, (Fr.refl _ _).alloc _⟩
/-- where the component of a kind stands, or -1 -/
def PlR (C : List Cp) (k : Nat) (r : Int) : Prop := (r = -1 ∧ fst C k = none) ∨ ∃ (j : Nat) (q : Cp), r = (j : Int) ∧ C[j]? = some q ∧ fst C k = some q
theorem fst_hit {C : List Cp} {j k : Nat} {q : Cp} (hq : C[j]? = some q) (hn : fst (C.take j) k = none) (h : q.k = k) : fst C k = some q := by
  have hj := List.getElem?_eq_some_iff.1 hq
  have e : C = C.take j ++ q :: C.drop (j + 1) := by
    rw [← hj.2, ← List.drop_eq_getElem_cons hj.1, List.take_append_drop]
  unfold fst at hn ⊢
  rw [e, List.find?_append, hn]
  simp [h]
theorem fst_miss {C : List Cp} {j k : Nat} {q : Cp} (hq : C[j]? = some q) (hn : fst (C.take j) k = none) (h : q.k ≠ k) : fst (C.take (j + 1)) k = none := by
  unfold fst at hn ⊢
  rw [take_snoc C j q hq, List.find?_append, hn]
  simp [h]
set_option maxHeartbeats 2000000 in
theorem idxK_any (w : World) (ao : Option Addr) (n cap : Nat) (C : List Cp) (hn : C.length = n) (hs : Cs w ao C) (hm : n ≤ 2097152) (bk k : Nat) (hk : w.cell? ⟨bk, 0, none⟩ = some (.int .u8 (k : Int))) :
    Calls Tryd.prog 53 #[.slice ao n cap, .func (.func 72) #[] #[.pointer (some ⟨bk, 0, none⟩)]] w fun e w' => ∃ r : Int, e = .returned (.int .i64 r) ∧ PlR C k r ∧ Fr Nobody w w' := by
  have HL : Hid (C.length = n ∧ Cs w ao C ∧ w.cell? ⟨bk, 0, none⟩ = some (.int .u8 (k : Int)) ∧ bk < w.heap.size) := ⟨hn, hs, hk, World.block_lt_of_cell? w _ hk⟩
  clear hn hs hk
  go_enter Tryd.func53, Tryd.ntmps53
  go_wp2
  go_loopw [8] (fun cc wr => ∃ j : Nat, j ≤ n ∧ cc = .int .i64 j ∧ Fr Nobody w wr ∧ fst (C.take j) k = none) (fun cc _ => n - (intOf cc).toNat)
  case atStart => exact ⟨0, Nat.zero_le _, rfl, Fr.refl _ _, by simp [fst]⟩
  case round =>
    obtain ⟨j, hj, rfl, hf, hno⟩ := hrel
    have HF : Hid (Fr Nobody w wr) := hf
    have HN : Hid (fst (C.take j) k = none) := hno
    clear hf hno
    by_cases hlt : j < n
    · obtain ⟨q, hq⟩ : ∃ q, C[j]? = some q := ⟨_, List.getElem?_eq_getElem (by rw [HL.out.1]; exact hlt)⟩
      obtain ⟨g, o, hao, _, c0, c1, c2, c3⟩ := (HL.out.2.1.quiet HF.out).at j q hq
      subst hao
      have hlt' : (j : Int) < (n : Int) := by omega
      have HP : Hid (Calls _ _ _ _ _) := placeP_any wr bk k ((HF.out.cell (p := ⟨bk, 0, none⟩) HL.out.2.2.2 id).trans HL.out.2.2.1) q
      have HQ : Hid (C[j]? = some q) := hq
      clear hq
      by_cases he : q.k = k
      · have HH : Hid (PlR C k (j : Int)) := .inr ⟨j, q, rfl, HQ.out, fst_hit HQ.out HN.out he⟩
        rw [decide_eq_true he] at HP
        clear he HQ
        obtain ⟨qk, qa, qb, qc⟩ := q
        simp only at c0 c1 c2 c3 HP
        go_wp2_with fail
        refine HP.out.mono ?_
        rintro e w2 ⟨rfl, hf⟩
        have HF2 : Hid (Fr Nobody w w2) := HF.out.trans hf
        clear hf HP
        go_wp2
        go_ret
        exact ⟨(j : Int), rfl, HH.out, HF2.out⟩
      · have HH : Hid (fst (C.take (j + 1)) k = none) := fst_miss HQ.out HN.out he
        rw [decide_eq_false he] at HP
        clear he HQ
        obtain ⟨qk, qa, qb, qc⟩ := q
        simp only at c0 c1 c2 c3 HP
        go_wp2_with fail
        refine HP.out.mono ?_
        rintro e w2 ⟨rfl, hf⟩
        have HF2 : Hid (Fr Nobody w w2) := HF.out.trans hf
        clear hf HP
        go_wp2
        go_roundw
        case rel => exact ⟨j + 1, by omega, by go_num, HF2.out, HH.out⟩
        case measure => simp [intOf]; omega
    · have hlt' : ¬ (j : Int) < (n : Int) := by omega
      have HU : Hid (PlR C k (-1)) := .inl ⟨rfl, by have := HN.out; rw [List.take_of_length_le (by rw [HL.out.1]; omega)] at this; exact this⟩
      go_wp2
      go_ret
      exact ⟨-1, rfl, HU.out, HF.out⟩
set_option maxHeartbeats 1000000 in
theorem place_any (w : World) (ao : Option Addr) (n cap : Nat) (C : List Cp) (hn : C.length = n) (hs : Cs w ao C) (hm : n ≤ 2097152) (k : Nat) :
    Calls Tryd.prog 56 #[.slice ao n cap, .int .u8 (k : Int)] w fun e w' => ∃ r : Int, e = .returned (.int .i64 r) ∧ PlR C k r ∧ Fr Nobody w w' := by
  have h0 := ((Own.start w).allocC #[.int .u8 (k : Int)] 5).cell 0
  have HI : Hid (Calls _ _ _ _ _) := idxK_any (w.alloc (.cells #[.int .u8 (k : Int)] 5)) ao n cap C hn (hs.quiet ((Fr.refl _ _).alloc _)) hm w.heap.size k h0
  have HF : Hid (Fr Nobody w (w.alloc (.cells #[.int .u8 (k : Int)] 5))) := (Fr.refl _ _).alloc _
  clear hn hs h0
  go_enter Tryd.func56, Tryd.ntmps56
  go_wp2_with fail
  refine HI.out.mono ?_
  rintro e w2 ⟨r, rfl, hr, hf⟩
  have HR : Hid (PlR C k r) := hr
  have HF2 : Hid (Fr Nobody w w2) := HF.out.trans hf
  clear hf HI hr
  go_wp2
  go_ret
  exact ⟨r, rfl, HR.out, HF2.out⟩
/-- a change in a list: its parts, and where they lie -/
structure ChE where
  id : Nat
  lost : Nat
  N : List Cp
  na : Option Addr
  nc : Nat
  S : List Cp
  sa : Option Addr
  sc : Nat
def ChE.cs (x : ChE) : List Value := [.int .u32 (x.id : Int), .int .u8 (x.lost : Int), .slice x.na x.N.length x.nc, .slice x.sa x.S.length x.sc]
def ChE.v (x : ChE) : Chg := ⟨x.id, x.lost, x.N, x.S⟩
def ChE.nrow (x : ChE) : Thing := Row 50 4 (.slice x.na x.N.length x.nc) x.N.length (ccat x.N)
def ChE.srow (x : ChE) : Thing := Row 50 4 (.slice x.sa x.S.length x.sc) x.S.length (ccat x.S)
def ChE.rows (x : ChE) : List Thing := [x.nrow, x.srow]
theorem Tryd.infoChg : (Tryd.prog.info? 54).map (fun i => (i.zero, i.size, i.bytes)) = some (some (.agg #[.int .u32 0, .int .u8 0, .slice none 0 0, .slice none 0 0]), 4, 56) := by kernel_rfl
end Go.Proofs.YtgflloebebggnaaDoor
