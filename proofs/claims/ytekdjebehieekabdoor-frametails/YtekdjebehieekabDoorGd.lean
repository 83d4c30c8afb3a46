/-
  The table that the program's text lays: what its reading gives.
-/
import Derived.Test.YtekdjebehieekabDoorGc
import Derived.Test.YtekdjebehieekabDoorTie
import Derived.Test.YtekdjebehieekabDoorCards
import Derived.ProofKit
import Derived.OpenShut
import Derived.LaidMore
import Derived.SevenTiedAt
import Derived.Stop.Joined
namespace Go.Proofs.YtekdjebehieekabDoor
open Go.ChangeShapes Go.WideShapes Go.ChangeAt Go.WideMaps Go.WideElems Go.RowKit
set_option linter.unusedVariables false

theorem own : ownKnob Tryd.prog.godebug = none := by kernel_rfl
theorem gSteps : Tryd.prog.globalNamed "pinnace/frame.steps" = some 0 := by kernel_rfl
theorem tSteps : (Tryd.prog.globals[0]?).map (·.type) = some 36 := by kernel_rfl
def laid1 {H : Type} : List (String × DataW H) := [("pinnace/frame.steps", Rows.laid_pinnace_frame_steps)]

theorem door_met (os : Os) (args : Array Value) : laidMetH Tryd.prog laid1 ((World.doorLaid Tryd.prog 400 os).forCall (fun _ _ => 0) ⟨#[], args, []⟩).memory :=
  laidMetH_of_parts3 (fuel := 8) (laidMet_of_run' 8 (by kernel_rfl) (by kernel_rfl)) (by kernel_rfl) (by kernel_rfl)

theorem tbl_vals : (List.range 16).map tbl = [0, 498536548, 997073096, 651767980, 1994146192, 1802195444, 1303535960, 1342533948, 3988292384, 4027552580, 3604390888, 3412177804, 2607071920, 2262029012, 2685067896, 3183342108] := by decide +kernel
theorem steps_at (i : Nat) (hi : i < 16) : ([DataW.lit (Lit.int IntKind.u32 0), DataW.lit (Lit.int IntKind.u32 498536548), DataW.lit (Lit.int IntKind.u32 997073096), DataW.lit (Lit.int IntKind.u32 651767980), DataW.lit (Lit.int IntKind.u32 1994146192), DataW.lit (Lit.int IntKind.u32 1802195444), DataW.lit (Lit.int IntKind.u32 1303535960), DataW.lit (Lit.int IntKind.u32 1342533948), DataW.lit (Lit.int IntKind.u32 3988292384), DataW.lit (Lit.int IntKind.u32 4027552580), DataW.lit (Lit.int IntKind.u32 3604390888), DataW.lit (Lit.int IntKind.u32 3412177804), DataW.lit (Lit.int IntKind.u32 2607071920), DataW.lit (Lit.int IntKind.u32 2262029012), DataW.lit (Lit.int IntKind.u32 2685067896), DataW.lit (Lit.int IntKind.u32 3183342108)] : List (DataW Unit))[i]? = some (DataW.lit (Lit.int IntKind.u32 ((tbl i : Nat) : Int))) := by
  have e : (tbl i) = ((List.range 16).map tbl)[i]?.getD 0 := by simp [hi]
  rw [e, tbl_vals]
  clear e
  match i, hi with
  | 0, _ => rfl
  | 1, _ => rfl
  | 2, _ => rfl
  | 3, _ => rfl
  | 4, _ => rfl
  | 5, _ => rfl
  | 6, _ => rfl
  | 7, _ => rfl
  | 8, _ => rfl
  | 9, _ => rfl
  | 10, _ => rfl
  | 11, _ => rfl
  | 12, _ => rfl
  | 13, _ => rfl
  | 14, _ => rfl
  | 15, _ => rfl
  | n + 16, h => exact absurd h (by omega)
theorem of_laid {W : World} (h : laidMetH Tryd.prog laid1 W) : Tab W := by
  rw [MakeChecks.laidMetH_plain _ _ _ (by kernel_rfl)] at h
  obtain ⟨ps, ⟨g0, t0, cs0, f0, p0, q0, hg0, ht0, hv0, hd0, _, _⟩, _, _⟩ := h
  obtain rfl := Option.some.inj (gSteps.symm.trans hg0)
  obtain rfl := Option.some.inj (tSteps.symm.trans ht0)
  obtain ⟨xs, m1, rfl, hx1, hlen, hn3, hel⟩ := DataW.trod_array Tryd.underlying36 hd0
  have c3 : Tryd.prog.cellsOf 25 = 1 := by kernel_rfl
  have c24 : Tryd.prog.cellsOf 36 = 16 := by kernel_rfl
  simp only [Prod.mk.injEq, DataW.agg.injEq, Rows.laid_pinnace_frame_steps] at hx1
  intro i hi
  have h0 := hel i hi
  have hxi : xs[i]? = some xs[i] := List.getElem?_eq_getElem (by rw [hn3]; exact hi)
  obtain ⟨k, e1, e2, _⟩ := DataW.trod_int Tryd.underlying25 (h0.trans hxi)
  have hk : k = ((tbl i : Nat) : Int) := by
    have h1 := steps_at i hi
    rw [hx1.1, List.getElem?_map, hxi] at h1
    simp only [Option.map_some, Option.some.injEq] at h1
    rw [e2] at h1
    simpa using h1
  subst hk
  have := World.var?_cell hg0 hv0 i
  rw [this]
  rw [c3, Nat.mul_one] at e1
  have h2 : (List.take 1 (List.drop i cs0.toList))[0]? = some (Value.int IntKind.u32 ((tbl i : Nat) : Int)) := by rw [e1]; rfl
  rw [List.getElem?_take, if_pos (by decide), List.getElem?_drop, Nat.add_zero, Array.getElem?_toList] at h2
  exact h2

theorem in_row {w : World} {ao : Option Addr} {len cap : Nat} {zs : List Int} (h : IsRow .u8 w ao len cap zs) : len ≤ maxLen ∧ ∃ P, In w ao len cap P := by
  obtain ⟨hl, hm, hI, hw⟩ := h.ints
  have hb : ∀ x ∈ zs.take len, 0 ≤ x ∧ x ≤ 255 := fun x hx => by
    have := hw x hx
    simpa [Lit.wf, IntKind.min, IntKind.max, IntKind.signed, IntKind.bits] using this
  have hc : (ao = none → cap = 0) ∧ len ≤ cap := by
    rcases h with ⟨rfl, rfl, rfl, rfl⟩ | ⟨x, rfl, hl, _⟩
    · exact ⟨fun _ => rfl, Nat.le_refl _⟩
    · exact ⟨(fun e => by cases e), hl⟩
  refine ⟨hm, (zs.take len).map Int.toNat, ?_, by rw [List.length_map, hl], ?_, hc.1, hc.2⟩
  · rcases hI with h0 | ⟨g, o, h1, h2⟩
    · left; rw [h0]; rfl
    · right
      refine ⟨g, o, h1, fun j x hx => ?_⟩
      rw [List.getElem?_map] at hx
      cases hz : (zs.take len)[j]? with
      | none => rw [hz] at hx; cases hx
      | some y =>
        rw [hz] at hx
        have hy := hb y (List.mem_of_getElem? hz)
        have hxy : y.toNat = x := by simpa using hx
        rw [h2 j y hz]
        have : y = (x : Int) := by omega
        rw [this]
  · intro x hx
    rw [List.mem_map] at hx
    obtain ⟨y, hy, rfl⟩ := hx
    have := hb y hy
    omega
theorem u16_rng {n : Int} (h : (Lit.int .u16 n).wf = true) : ∃ k : Nat, n = k ∧ k < 65536 := by
  have : 0 ≤ n ∧ n ≤ 65535 := by simpa [Lit.wf, IntKind.min, IntKind.max, IntKind.signed, IntKind.bits] using h
  exact ⟨n.toNat, by omega, by omega⟩
theorem u32_rng {n : Int} (h : (Lit.int .u32 n).wf = true) : ∃ k : Nat, n = k ∧ k < 4294967296 := by
  have : 0 ≤ n ∧ n ≤ 4294967295 := by simpa [Lit.wf, IntKind.min, IntKind.max, IntKind.signed, IntKind.bits] using h
  exact ⟨n.toNat, by omega, by omega⟩
theorem u8_rng {n : Int} (h : (Lit.int .u8 n).wf = true) : ∃ k : Nat, n = k ∧ k < 256 := by
  have : 0 ≤ n ∧ n ≤ 255 := by simpa [Lit.wf, IntKind.min, IntKind.max, IntKind.signed, IntKind.bits] using h
  exact ⟨n.toNat, by omega, by omega⟩
end Go.Proofs.YtekdjebehieekabDoor
