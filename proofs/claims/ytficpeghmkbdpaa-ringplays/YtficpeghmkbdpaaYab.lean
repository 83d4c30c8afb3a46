/-
  Rings that may be nil: the calls of both sides; a script's steps as they come in.
-/
import Derived.Test.YtficpeghmkbdpaaYaa
import Derived.Test.YtficpeghmkbdpaaZo
namespace Go.Proofs.Ytficpeghmkbdpaa
open Go.RowKit Go.ChangeShapes Go.WideShapes
set_option linter.unusedVariables false

def pE (z : Bool) (k : Nat) (L : List (Nat × Int)) (t : Nat) (x : Int) : Int := if z then 10 else (rput k L t x).1
def pS (z : Bool) (k : Nat) (L : List (Nat × Int)) (t : Nat) (x : Int) : List (Nat × Int) := if z then L else (rput k L t x).2
theorem Both.put {z : Bool} {k : Nat} {L : List (Nat × Int)} (h : Both z k L) (t : Nat) (x : Int) (ht : t < 4294967296) : Both z k (pS z k L t x) := by
  unfold pS
  cases z
  · exact ⟨rput_ok h.1 t x ht, fun q => by cases q⟩
  · exact h
theorem Both.drop {z : Bool} {k : Nat} {L : List (Nat × Int)} (h : Both z k L) (n : Nat) : Both z k (L.drop n) := ⟨h.1.drop n, fun q => by rw [h.2 q]; simp⟩
theorem Both.nil {z : Bool} {k : Nat} {L : List (Nat × Int)} (h : Both z k L) : Both z k [] := ⟨ROk.nil h.1.k1 h.1.k2, fun _ => rfl⟩

section
variable (w0 w : World) (l : List Thing) (p q : Option Nat) (k : Nat) (L : List (Nat × Int)) (z : Bool) (t : Nat)
theorem put_o (x : Int) (h : Own w0 w (RiO p k L :: l)) (hB : Both z k L) (hz : p.isNone = z) (ht : t < 4294967296) :
    Calls Try.prog 32 #[.pointer (pp p), .int .u32 (t : Int), .int .i64 x] w fun e w' => e = .returned (.int .i64 (pE z k L t x)) ∧ Own w0 w' (RiO p k (pS z k L t x) :: l) := by
  subst hz
  cases p with
  | none =>
    refine (putnila w t x).mono ?_
    rintro e w' ⟨rfl, rfl⟩
    exact ⟨rfl, h⟩
  | some b => exact puta w0 w l b k L t x h hB.1 ht
theorem rput_o (x : Int) (h : Own w0 w (RRiO q k L :: l)) (hB : Both z k L) (hz : q.isNone = z) (ht : t < 4294967296) :
    Calls Try.prog 33 #[.pointer (pp q), .int .u32 (t : Int), .int .i64 x] w fun e w' => e = .returned (.int .i64 (pE z k L t x)) ∧ Own w0 w' (RRiO q k (pS z k L t x) :: l) := by
  subst hz
  cases q with
  | none =>
    refine (rrput_nil w t x).mono ?_
    rintro e w' ⟨rfl, rfl⟩
    exact ⟨rfl, h⟩
  | some c => exact rrput w0 w l c k L t x h hB.1 ht
theorem get_o (h : Own w0 w (RiO p k L :: l)) (hB : Both z k L) (hz : p.isNone = z) :
    Calls Try.prog 34 #[.pointer (pp p), .int .u32 (t : Int)] w fun e w' => e = .returned (gva (rget L t)) ∧ Own w0 w' (RiO p k L :: l) := by
  subst hz
  cases p with
  | none =>
    have := hB.2 rfl
    subst this
    refine (getnila w t).mono ?_
    rintro e w' ⟨rfl, rfl⟩
    exact ⟨rfl, h⟩
  | some b => exact geta w0 w l b k L t h hB.1
theorem rget_o (h : Own w0 w (RRiO q k L :: l)) (hB : Both z k L) (hz : q.isNone = z) :
    Calls Try.prog 35 #[.pointer (pp q), .int .u32 (t : Int)] w fun e w' => e = .returned (gva (rget L t)) ∧ Own w0 w' (RRiO q k L :: l) := by
  subst hz
  cases q with
  | none =>
    have := hB.2 rfl
    subst this
    refine (rrget_nil w t).mono ?_
    rintro e w' ⟨rfl, rfl⟩
    exact ⟨rfl, h⟩
  | some c => exact rrget w0 w l c k L t h hB.1
theorem cut_o (h : Own w0 w (RiO p k L :: l)) (hB : Both z k L) (hz : p.isNone = z) :
    Calls Try.prog 36 #[.pointer (pp p), .int .u32 (t : Int)] w fun e w' => e = .returned (.int .i64 (below t L : Int)) ∧ Own w0 w' (RiO p k (L.drop (below t L)) :: l) := by
  subst hz
  cases p with
  | none =>
    have := hB.2 rfl
    subst this
    refine (cutnila w t).mono ?_
    rintro e w' ⟨rfl, rfl⟩
    exact ⟨rfl, h⟩
  | some b => exact cuta w0 w l b k L t h hB.1
theorem rcut_o (h : Own w0 w (RRiO q k L :: l)) (hB : Both z k L) (hz : q.isNone = z) :
    Calls Try.prog 37 #[.pointer (pp q), .int .u32 (t : Int)] w fun e w' => e = .returned (.int .i64 (below t L : Int)) ∧ Own w0 w' (RRiO q k (L.drop (below t L)) :: l) := by
  subst hz
  cases q with
  | none =>
    have := hB.2 rfl
    subst this
    refine (rrcut_nil w t).mono ?_
    rintro e w' ⟨rfl, rfl⟩
    exact ⟨rfl, h⟩
  | some c => exact rrcut w0 w l c k L t h hB.1
theorem same_o (h : Own w0 w (RiO p k L :: RRiO q k L :: l)) (hB : Both z k L) (hz : p.isNone = z) (hy : q.isNone = z) :
    Calls Try.prog 39 #[.pointer (pp p), .pointer (pp q)] w fun e w' => e = .returned (.bool true) ∧ Own w0 w' (RiO p k L :: RRiO q k L :: l) := by
  subst hz
  cases p with
  | none =>
    cases q with
    | none => exact same_nil w0 w _ h
    | some c => cases hy
  | some b =>
    cases q with
    | none => cases hy
    | some c => exact same_some w0 w l b c k L h hB.1
end
/-- New of both sides -/
theorem new_o (w0 w : World) (l : List Thing) (n : Int) (h : Own w0 w l) : ∃ z k, Both z k [] ∧
    (Calls Try.prog 30 #[.int .i64 n] w fun e w' => ∃ p, e = .returned (.tuple #[.pointer (pp p), .int .i64 (if z then 1 else 0)]) ∧ p.isNone = z ∧ Own w0 w' (RiO p k [] :: l)) ∧
    ∀ w' l', Own w0 w' l' → Calls Try.prog 31 #[.int .i64 n] w' fun e w'' => ∃ q, e = .returned (.tuple #[.pointer (pp q), .int .i64 (if z then 1 else 0)]) ∧ q.isNone = z ∧ Own w0 w'' (RRiO q k [] :: l') := by
  by_cases hb : n < 1 ∨ 64 < n
  · refine ⟨true, 1, ⟨ROk.nil (by decide) (by decide), fun _ => rfl⟩, ?_, ?_⟩
    · refine (newnoa w n hb).mono ?_
      rintro e w' ⟨rfl, rfl⟩
      exact ⟨none, rfl, rfl, h.emp⟩
    · intro w' l' h'
      refine (rrnew_no w' n hb).mono ?_
      rintro e w'' ⟨rfl, rfl⟩
      exact ⟨none, rfl, rfl, h'.emp⟩
  · obtain ⟨a, rfl⟩ : ∃ a : Nat, n = a := ⟨n.toNat, by omega⟩
    refine ⟨false, a, ⟨ROk.nil (by omega) (by omega), fun q => by cases q⟩, ?_, ?_⟩
    · refine (newa w0 w l a h (by omega) (by omega)).mono ?_
      rintro e w' ⟨bb, rfl, hO⟩
      exact ⟨some bb, rfl, rfl, hO⟩
    · intro w' l' h'
      refine (rrnew w0 w' l' a h' (by omega) (by omega)).mono ?_
      rintro e w'' ⟨c, rfl, hO⟩
      exact ⟨some c, rfl, rfl, hO⟩

/-- a script's step -/
def OpIs (cs : List Value) (o : Nat × Nat × Int) : Prop := cs = [.int .u8 (o.1 : Int), .int .u32 (o.2.1 : Int), .int .i64 o.2.2] ∧ o.1 < 256 ∧ o.2.1 < 4294967296
theorem cellsOp : Try.prog.cellsOf 65 = 3 := by kernel_rfl
theorem cellsB : Try.prog.cellsOf 5 = 1 := by kernel_rfl
theorem cellsU32 : Try.prog.cellsOf 22 = 1 := by kernel_rfl
theorem cellsI64 : Try.prog.cellsOf 2 = 1 := by kernel_rfl
theorem list3 {β : Type} {l : List β} (h : l.length = 3) : ∃ a b c, l = [a, b, c] := by
  match l, h with
  | [a, b, c], _ => exact ⟨a, b, c, rfl⟩
theorem op_is {H : Type} {enc : TypeId × Value → H} {W : World} {base : Nat} {sp : Nat → Bool} {held : Bool} (fuel : Nat) (cs : List Value) (x : DataW H × List MemPlace)
    (h : DataW.trod enc Try.prog W base sp held fuel 65 cs = some x) : ∃ o, OpIs cs o := by
  obtain ⟨xs, n, _, hx, hl, hlen, hf⟩ := DataW.trod_struct Try.underlying65 h
  rw [cellsOp] at hl
  obtain ⟨c0, c1, c2, rfl⟩ := list3 hl
  obtain ⟨y0, y1, y2, rfl⟩ := list3 hlen
  · have h0 := hf 0 _ rfl
    have h1 := hf 1 _ rfl
    have h2 := hf 2 _ rfl
    simp [cellsB, cellsU32, cellsI64] at h0 h1 h2
    obtain ⟨a, a0, _, wa⟩ := DataW.trod_int Try.underlying5 h0
    obtain ⟨b, b0, _, wb⟩ := DataW.trod_int Try.underlying22 h1
    obtain ⟨c, k0, _, wc⟩ := DataW.trod_int Try.underlying2 h2
    simp at a0 b0 k0
    subst a0 b0 k0
    have ha : 0 ≤ a ∧ a ≤ 255 := by simpa [Lit.wf, IntKind.min, IntKind.max, IntKind.signed, IntKind.bits] using wa
    have hb : 0 ≤ b ∧ b ≤ 4294967295 := by simpa [Lit.wf, IntKind.min, IntKind.max, IntKind.signed, IntKind.bits] using wb
    obtain ⟨an, rfl⟩ := Int.eq_ofNat_of_zero_le ha.1
    obtain ⟨bn, rfl⟩ := Int.eq_ofNat_of_zero_le hb.1
    exact ⟨(an, bn, c), rfl, by show an < _; omega, by show bn < _; omega⟩
def IsOps (w : World) (ao : Option Addr) (len cap : Nat) (Q : List (Nat × Nat × Int)) : Prop := Q.length = len ∧ len ≤ cap ∧ cap ≤ maxLen ∧ RowsAt OpIs 3 w ao Q
set_option maxRecDepth 100000 in
theorem open_ops {H : Type} {enc : TypeId × Value → H} {W : World} {base : Nat} {ao : Option Addr} {len cap : Nat} {d : DataW H} {p : List MemPlace}
    (hv : Value.okWide Try.prog W .any base 57 (.slice ao len cap)) (h : DataW.Trod enc Try.prog W 0 (fun _ => true) true 57 (.slice ao len cap) d p) : ∃ Q, IsOps W ao len cap Q :=
  open_rows 3 Try.underlying57 cellsOp (by decide) OpIs (fun fuel cs x hx => op_is fuel cs x hx) h
end Go.Proofs.Ytficpeghmkbdpaa
