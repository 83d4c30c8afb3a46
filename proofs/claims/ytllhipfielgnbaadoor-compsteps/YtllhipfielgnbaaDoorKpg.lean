/-
  Get of package comp: a component that is read.
-/
import Derived.Test.YtllhipfielgnbaaDoorKmg
import Derived.Test.YtllhipfielgnbaaDoorKvg
import Derived.Test.YtllhipfielgnbaaDoorKfg
namespace Go.Proofs.YtllhipfielgnbaaDoor
open Go.RowKit
set_option linter.unusedVariables false
set_option maxRecDepth 100000

/-- field j of a kind, read from place t on: error, number, bits -/
def gf (k : Nat) (P : List Nat) (t j : Nat) : Int × Int × Nat := gi (lo k j) (hi k j) ((bitsB P).drop t)
theorem gi_rng (x y : Int) (L : List Bool) : (gi x y L).2.1 = 0 ∨ (x ≤ (gi x y L).2.1 ∧ (gi x y L).2.1 ≤ y) := by
  unfold gi
  split
  · exact .inl rfl
  · split
    · exact .inl rfl
    · split
      · exact .inl rfl
      · right
        show x ≤ x + _ ∧ x + _ ≤ y
        omega
theorem gi_code (x y : Int) (L : List Bool) : (gi x y L).1 = 0 ∨ (gi x y L).1 = 1 ∨ (gi x y L).1 = 2 ∨ (gi x y L).1 = 5 := by
  unfold gi
  split
  · exact .inr (.inl rfl)
  · split
    · exact .inr (.inr (.inl rfl))
    · split
      · exact .inr (.inr (.inr rfl))
      · exact .inl rfl

theorem Tab.fr1 {w w' : World} {br : Nat} (h : Tab w) (hf : Fr (At br none) w w') (hb : br ≠ 0) : Tab w' := h.keep hf (by rintro (e | e); exact hb e.symm; cases e)

set_option maxHeartbeats 1000000 in
theorem getField_any (B : Nat) (w : World) (ht : Tab w) (br : Nat) (g : Option Nat) (P : List Nat) (t k j : Nat) (hk : k < 256) (hj : j < cnt k) (h : Rd B w br g P t) :
    Calls Tryd.prog 58 #[.pointer (some ⟨br, 0, none⟩), .int .u8 (k : Int), .int .i64 (j : Int)] w fun e w' => e = .returned (.tuple #[.int .i32 (gf k P t j).2.1, .int .i64 (gf k P t j).1]) ∧ Rd B w' br g P (t + (gf k P t j).2.2) ∧ Fr (At br none) w w' := by
  obtain ⟨l0, l1, l2, l3⟩ := rng_ok k j hj
  have R : Hid (∀ _ : Unit, _) := fun _ => range_ok w ht k hk j hj
  have G : Hid (∀ w, Rd B w br g P t → _) := fun w hw => getIn_rd B w br g P t (lo k j) (hi k j) hw (by omega) (by omega) (by omega) (by omega)
  have H : Hid (Rd B w br g P t) := h
  have hv := gi_rng (lo k j) (hi k j) ((bitsB P).drop t)
  have hr : -524288 ≤ (gi (lo k j) (hi k j) ((bitsB P).drop t)).2.1 ∧ (gi (lo k j) (hi k j) ((bitsB P).drop t)).2.1 ≤ 524287 := by omega
  obtain ⟨r0, r1⟩ := hr
  unfold gf
  generalize (gi (lo k j) (hi k j) ((bitsB P).drop t)).2.1 = v at *
  generalize (gi (lo k j) (hi k j) ((bitsB P).drop t)).1 = cd at *
  generalize (gi (lo k j) (hi k j) ((bitsB P).drop t)).2.2 = n at *
  generalize lo k j = x at *
  generalize hi k j = y at *
  clear ht h hv hj
  go_enter Tryd.func58, Tryd.ntmps58
  go_wp2_with fail
  refine (R.out ()).mono ?_
  rintro e w1 ⟨rfl, hf1⟩
  have HF1 : Hid (Fr Nobody w w1) := hf1
  clear hf1
  go_wp2_with fail
  refine (G.out _ (H.out.quiet HF1.out)).mono ?_
  rintro e w2 ⟨rfl, hR, hf2⟩
  have HR : Hid (Rd B w2 br g P (t + n)) := hR
  have HF2 : Hid (Fr (At br none) w w2) := (HF1.out.mono (fun _ _ k => k.elim)).trans hf2
  clear hR hf2
  go_wp2
  go_ret2
  exact ⟨rfl, HR.out, HF2.out⟩

/-- the component of a kind from place t on: error, fields, bits -/
def gcode (k : Nat) (P : List Nat) (t : Nat) : Int := if cnt k = 0 then 1 else (rat (fun t j => (gf k P t j).1) (fun t j => (gf k P t j).2.2) t (cnt k)).1
def gfld (k : Nat) (P : List Nat) (t : Nat) : Nat → Int := upd (fun t j => (gf k P t j).1) (fun t j => (gf k P t j).2.1) (fun t j => (gf k P t j).2.2) t (f3 0 0 0) (cnt k)
def gcons (k : Nat) (P : List Nat) (t : Nat) : Nat := if gcode k P t = 0 then (rat (fun t j => (gf k P t j).1) (fun t j => (gf k P t j).2.2) t (cnt k)).2 - t else 0

end Go.Proofs.YtllhipfielgnbaaDoor

/-
  The document's Get of components, on lists of bits.
-/
namespace Go.Proofs.YtllhipfielgnbaaDoor
open Go.RowKit
set_option linter.unusedVariables false
set_option maxRecDepth 100000

theorem Bs.setBox {w : World} {v : Value} {L : List Bool} {b k o : Nat} {F : Nat → Int} (h : Bs w v L) (hb : Box w b k F) (x : Value) : Bs (w.setCell ⟨b, o, none⟩ x) v L := by
  refine h.keep (Fr.setCell (S := fun k => k = b) (Fr.refl _ _) (p := ⟨b, o, none⟩) (.inl rfl) x) ?_
  rintro k cur hk rfl
  unfold Box at hb
  rw [hk] at hb
  simp at hb
theorem Bs.put4 {w : World} {v : Value} {L : List Bool} {b k k0 : Nat} {F F0 : Nat → Int} (h : Bs w v L) (hb : Box w b k0 F0) : Bs (put4 w b k F) v L := by
  refine h.keep (put4_fr (S := fun k => k = b) (Fr.refl _ _) (.inl rfl)) ?_
  rintro k cur hk rfl
  unfold Box at hb
  rw [hk] at hb
  simp at hb

end Go.Proofs.YtllhipfielgnbaaDoor

/-
  Get of package comp on an owned reader.
-/
namespace Go.Proofs.YtllhipfielgnbaaDoor
open Go.RowKit
set_option linter.unusedVariables false
set_option maxRecDepth 100000

theorem Or.low {w0 w : World} {br : Nat} {P : List Nat} {t : Nat} (h : Or w0 w br P t) (ht : Tab w0) : br ≠ 0 := by
  obtain ⟨g, hR, _⟩ := h
  have := hR.low
  have := ht.size
  omega
theorem Or.ne_box {w0 w : World} {br : Nat} {P : List Nat} {t b k : Nat} {F : Nat → Int} (h : Or w0 w br P t) (hb : Box w b k F) : b ≠ br := by
  rintro rfl
  obtain ⟨g, hR, _⟩ := h
  obtain ⟨v, hv, _⟩ := hR.obj
  unfold Box at hb
  rw [hv] at hb
  simp at hb
theorem Or.of_rd {w0 w w' : World} {br : Nat} {g : Option Nat} {P : List Nat} {t t' : Nat} (h : Rd w0.heap.size w br g P t) (hf : Fr Nobody w0 w) (h' : Rd w0.heap.size w' br g P t') (hf' : Fr (At br none) w w') : Or w0 w' br P t' :=
  ⟨g, h', hf.fresh hf' (fun k hk => by rcases hk with rfl | e; exact h.low; cases e)⟩

/-- the component's cells that are answered -/
def gout (k : Nat) (P : List Nat) (t : Nat) : Array Value := if gcode k P t = 0 then cmp k (gfld k P t) else cmp 0 (f3 0 0 0)
theorem gout_1 (k : Nat) (P : List Nat) (t : Nat) (h : gcode k P t = 0) : gout k P t = cmp k (gfld k P t) := by unfold gout; rw [if_pos h]
theorem gout_2 (k : Nat) (P : List Nat) (t : Nat) (h : gcode k P t ≠ 0) : gout k P t = cmp 0 (f3 0 0 0) := by unfold gout; rw [if_neg h]
theorem gout_cmp (k : Nat) (P : List Nat) (t : Nat) : ∃ k' F', gout k P t = cmp k' F' := by
  by_cases h : gcode k P t = 0
  · exact ⟨_, _, gout_1 k P t h⟩
  · exact ⟨_, _, gout_2 k P t h⟩
end Go.Proofs.YtllhipfielgnbaaDoor
