/-
  Scripts of who comes and goes: what comes in, and what becomes of it.
-/
import Derived.Test.YthokgjkgfolojabDoorCel
import Derived.Test.YthokgjkgfolojabDoorZo
namespace Go.Proofs.YthokgjkgfolojabDoor
open Go.RowKit Go.ChangeShapes Go.WideShapes Go.Deep
set_option linter.unusedVariables false

/-- a step: what is done, who, where -/
structure Opq where
  d : Nat
  i : Nat
  x : Int
  y : Int
  deriving Inhabited
def OpIs (cs : List Value) (o : Opq) : Prop := cs = [.int .u32 (o.i : Int), .int .i32 o.x, .int .i32 o.y] ∧ o.d < 256 ∧ o.i < 4294967296 ∧ I32 o.x ∧ I32 o.y
theorem cellsOp : Tryd.prog.cellsOf 31 = 3 := by kernel_rfl
theorem cellsID : Tryd.prog.cellsOf 29 = 1 := by kernel_rfl
theorem cellsI32 : Tryd.prog.cellsOf 21 = 1 := by kernel_rfl
theorem list3 {β : Type} {l : List β} (h : l.length = 3) : ∃ a b c, l = [a, b, c] := by
  match l, h with
  | [a, b, c], _ => exact ⟨a, b, c, rfl⟩
theorem op_is {H : Type} {enc : TypeId × Value → H} {W : World} {base : Nat} {sp : Nat → Bool} {held : Bool} (fuel : Nat) (cs : List Value) (x : DataW H × List MemPlace)
    (h : DataW.trod enc Tryd.prog W base sp held fuel 31 cs = some x) : ∃ o, OpIs cs o := by
  obtain ⟨xs, n, _, hx, hl, hlen, hf⟩ := DataW.trod_struct Tryd.underlying31 h
  rw [cellsOp] at hl
  obtain ⟨c0, c1, c2, rfl⟩ := list3 hl
  obtain ⟨y0, y1, y2, rfl⟩ := list3 hlen
  · have h0 := hf 0 _ rfl
    have h1 := hf 1 _ rfl
    have h2 := hf 2 _ rfl
    simp [cellsID, cellsI32] at h0 h1 h2
    obtain ⟨b, b0, _, wb⟩ := DataW.trod_int Tryd.underlying29 h0
    obtain ⟨c, k0, _, wc⟩ := DataW.trod_int Tryd.underlying21 h1
    obtain ⟨d, d0, _, wd⟩ := DataW.trod_int Tryd.underlying21 h2
    simp at b0 k0 d0
    subst b0 k0 d0
    have hb : 0 ≤ b ∧ b ≤ 4294967295 := by simpa [Lit.wf, IntKind.min, IntKind.max, IntKind.signed, IntKind.bits] using wb
    have hc : I32 c := by unfold I32; simpa [Lit.wf, IntKind.min, IntKind.max, IntKind.signed, IntKind.bits] using wc
    have hd : I32 d := by unfold I32; simpa [Lit.wf, IntKind.min, IntKind.max, IntKind.signed, IntKind.bits] using wd
    obtain ⟨bn, rfl⟩ := Int.eq_ofNat_of_zero_le hb.1
    exact ⟨⟨0, bn, c, d⟩, rfl, by show 0 < _; omega, by show bn < _; omega, hc, hd⟩
def IsOps (w : World) (ao : Option Addr) (len cap : Nat) (Q : List Opq) : Prop := Q.length = len ∧ len ≤ cap ∧ cap ≤ maxLen ∧ RowsAt OpIs 3 w ao Q
set_option maxRecDepth 100000 in
theorem open_ops {H : Type} {enc : TypeId × Value → H} {W : World} {base : Nat} {ao : Option Addr} {len cap : Nat} {d : DataW H} {p : List MemPlace}
    (hv : Value.okWide Tryd.prog W .any base 22 (.slice ao len cap)) (h : DataW.Trod enc Tryd.prog W 0 (fun _ => true) true 22 (.slice ao len cap) d p) : ∃ Q, IsOps W ao len cap Q :=
  open_rows 3 Tryd.underlying22 cellsOp (by decide) OpIs (fun fuel cs x hx => op_is fuel cs x hx) h
/-- a step's cells -/
theorem op_cells {w0 w : World} {ao : Option Addr} {len cap : Nat} {Q : List Opq} (h : IsOps w0 ao len cap Q) (hf : Fr Nobody w0 w) {j : Nat} (hj : j < len) : ∃ g o q, ao = some ⟨g, o, none⟩ ∧ Q[j]? = some q ∧ q.d < 256 ∧ q.i < 4294967296 ∧ I32 q.x ∧ I32 q.y ∧ w.cell? ⟨g, o + j * 3, none⟩ = some (.int .u32 (q.i : Int)) ∧ w.cell? ⟨g, o + j * 3 + 1, none⟩ = some (.int .i32 q.x) ∧ w.cell? ⟨g, o + j * 3 + 2, none⟩ = some (.int .i32 q.y) := by
  obtain ⟨h1, h2, h3, h4⟩ := h
  have h4' := h4.quiet hf
  obtain ⟨q, hq⟩ : ∃ q, Q[j]? = some q := ⟨_, List.getElem?_eq_getElem (by omega)⟩
  rcases h4' with h5 | ⟨g, o, ha, hc⟩
  · rw [h5] at hq; simp at hq
  · obtain ⟨cs, ⟨rfl, d1, d2, d3, d4⟩, _, hcell⟩ := hc j _ hq
    have c0 := hcell 0 (by decide)
    have c1 := hcell 1 (by decide)
    have c2 := hcell 2 (by decide)
    exact ⟨g, o, _, ha, hq, d1, d2, d3, d4, c0, c1, c2⟩
/-- one who comes -/
def pstep (L : List Spt) (q : Opq) : List Spt := if putE q.i q.x q.y = 0 then putL L (q.i, q.x, q.y) else L
def plays (Q : List Opq) : List Spt := Q.foldl pstep []
theorem putE_zero {id : Nat} {x y : Int} (h : putE id x y = 0) : id ≠ 0 ∧ inW x y = true := by
  unfold putE at h
  by_cases h0 : id = 0
  · rw [if_pos h0] at h; cases h
  · rw [if_neg h0] at h
    cases hw : inW x y with
    | false => rw [hw] at h; cases h
    | true => exact ⟨h0, rfl⟩
theorem len_put_le {L : List Spt} (h : Rise L) (s : Spt) : (putL L s).length ≤ L.length + 1 := by
  have h1 : putL L s = putL (dropL L s.1) s := (put_drop s).symm
  have h2 : hom (dropL L s.1) s.1 = none := by rw [hom_drop h]; simp
  rw [h1, len_put (h.drop _) s h2]
  have := List.length_filter_le (fun t : Spt => decide (t.1 ≠ s.1)) L
  unfold dropL
  omega
structure GAll (L : List Spt) (n : Nat) : Prop where
  ok : GOk L
  inn : GIn L
  len : L.length ≤ n
theorem GAll.nil : GAll [] 0 := ⟨GOk.nil, GIn.nil, Nat.le_refl _⟩
theorem GAll.put {L : List Spt} {n : Nat} (h : GAll L n) (q : Opq) (hq : q.i < 4294967296) : GAll (pstep L q) (n + 1) := by
  unfold pstep
  by_cases hp : putE q.i q.x q.y = 0
  · rw [if_pos hp]
    obtain ⟨h0, hw⟩ := putE_zero hp
    exact ⟨h.ok.put _ _ _ hq hw, h.inn.put _ _ _ hw, by have := len_put_le h.ok.1 (q.i, q.x, q.y); have := h.len; omega⟩
  · rw [if_neg hp]
    exact ⟨h.ok, h.inn, by have := h.len; omega⟩
theorem GAll.drop {L : List Spt} {n : Nat} (h : GAll L n) (id : Nat) : GAll (dropL L id) n := ⟨h.ok.drop id, h.inn.drop id, Nat.le_trans (List.length_filter_le _ _) h.len⟩
theorem GAll.mono {L : List Spt} {n m : Nat} (h : GAll L n) (hm : n ≤ m) : GAll L m := ⟨h.ok, h.inn, Nat.le_trans h.len hm⟩
theorem take_step {Q : List Opq} {j : Nat} {q : Opq} (h : Q[j]? = some q) (hj : j < 60) : plays (Q.take (min (j + 1) 60)) = pstep (plays (Q.take (min j 60))) q := by
  rw [Nat.min_eq_left (by omega), Nat.min_eq_left (by omega), List.take_add_one, h]
  unfold plays
  rw [List.foldl_append]
  rfl
theorem take_stay {Q : List Opq} {j : Nat} (hj : ¬ j < 60) : plays (Q.take (min (j + 1) 60)) = plays (Q.take (min j 60)) := by
  rw [Nat.min_eq_right (by omega), Nat.min_eq_right (by omega)]
theorem plays_all {w : World} {ao : Option Addr} {len cap : Nat} {Q : List Opq} (h : IsOps w ao len cap Q) {j : Nat} (hj : j ≤ 60) : GAll (plays (Q.take (min j 60))) j := by
  rw [Nat.min_eq_left hj]
  clear hj
  induction j with
  | zero => exact GAll.nil
  | succ j ih =>
    by_cases hl : j < len
    · obtain ⟨_, _, q, _, hq, _, d2, _⟩ := op_cells h (Fr.refl _ _) hl
      have e : plays (Q.take (j + 1)) = pstep (plays (Q.take j)) q := by
        unfold plays
        rw [List.take_add_one, hq, List.foldl_append]
        rfl
      rw [e]
      exact ih.put q d2
    · have e : Q.take (j + 1) = Q.take j := by rw [List.take_of_length_le (by have := h.1; omega), List.take_of_length_le (by have := h.1; omega)]
      rw [e]
      exact ih.mono (by omega)
theorem put_put {L : List Spt} (s t : Spt) (h : t.1 = s.1) : putL (putL L t) s = putL L s := by
  unfold putL
  rw [h]
  have e1 : ∀ M : List Spt, (M.filter (fun u => decide (s.1 < u.1))).filter (fun u => decide (u.1 < s.1)) = [] := fun M => by
    rw [List.filter_filter, List.filter_eq_nil_iff]
    intro u _
    simp
    omega
  have e2 : ∀ M : List Spt, (M.filter (fun u => decide (u.1 < s.1))).filter (fun u => decide (s.1 < u.1)) = [] := fun M => by
    rw [List.filter_filter, List.filter_eq_nil_iff]
    intro u _
    simp
    omega
  have e3 : ∀ M : List Spt, (M.filter (fun u => decide (u.1 < s.1))).filter (fun u => decide (u.1 < s.1)) = M.filter (fun u => decide (u.1 < s.1)) := fun M => by rw [List.filter_filter]; simp
  have e4 : ∀ M : List Spt, (M.filter (fun u => decide (s.1 < u.1))).filter (fun u => decide (s.1 < u.1)) = M.filter (fun u => decide (s.1 < u.1)) := fun M => by rw [List.filter_filter]; simp
  rw [List.filter_append, List.filter_append, List.filter_cons, List.filter_cons, e1, e2, e3, e4]
  have n1 : ¬ t.1 < s.1 := by omega
  have n2 : ¬ s.1 < t.1 := by omega
  simp [n1, n2]
end Go.Proofs.YthokgjkgfolojabDoor
