/- What a client reads is what the server played or a code: LaneReads returns true, whatever its arguments of bulk at most 1048576, where the two tables (of the sum and of the components) lie as the program's text lays them, and changes nothing that was there. -/
import Derived.Test.YtgifeckbflkkpaaGreatDoorQr49
import Derived.OpenShut
import Derived.SevenTiedAt
import Derived.Deep.DeepHandedRow
namespace Go.Proofs.YtgifeckbflkkpaaGreatDoor
open Go.ChangeShapes Go.WideShapes Go.ChangeAt Go.RowKit
set_option linter.unusedVariables false
set_option maxRecDepth 100000
theorem in_row {w : World} {ao : Option Addr} {len cap : Nat} {zs : List Int} (h : IsRow .u8 w ao len cap zs) : len ≤ maxLen ∧ ∃ P,In w ao len cap P := by
 obtain ⟨hl,hm,hI,hw⟩ := h.ints
 have hb : ∀ x ∈ zs.take len,0 ≤ x ∧ x ≤ 255 := fun x hx => by
  have := hw x hx
  simpa [Lit.wf,IntKind.min,IntKind.max,IntKind.signed,IntKind.bits] using this
 have hc : (ao = none → cap = 0) ∧ len ≤ cap := by
  rcases h with ⟨rfl,rfl,rfl,rfl⟩ | ⟨x,rfl,hl,_⟩
  ·exact ⟨fun _ => rfl,Nat.le_refl _⟩
  ·exact ⟨(fun e => by cases e),hl⟩
 refine ⟨hm,(zs.take len).map Int.toNat,?_,by rw [List.length_map,hl],?_,hc.1,hc.2⟩
 ·rcases hI with h0 | ⟨g,o,h1,h2⟩
  ·left; rw [h0]; rfl
  ·right
   refine ⟨g,o,h1,fun j x hx => ?_⟩
   rw [List.getElem?_map] at hx
   cases hz : (zs.take len)[j]? with
   | none => rw [hz] at hx; cases hx
   | some y =>
    rw [hz] at hx
    have hy := hb y (List.mem_of_getElem? hz)
    have hxy : y.toNat = x := by simpa using hx
    rw [h2 j y hz]
    have : y = (x : Int) := by omega
    rw [this]
 ·intro x hx
  rw [List.mem_map] at hx
  obtain ⟨y,hy,rfl⟩ := hx
  have := hb y hy
  omega
theorem u8r {n : Int} (h : (Lit.int .u8 n).wf = true) : ∃ k : Nat,n = k ∧ k < 256 := by
 have : 0 ≤ n ∧ n ≤ 255 := by simpa [Lit.wf,IntKind.min,IntKind.max,IntKind.signed,IntKind.bits] using h
 exact ⟨n.toNat,by omega,by omega⟩
theorem laneReads_walk (w : World) (ht : Tab w ∧ Tabf w) (a0 : Int) (w0 : (Lit.int .u8 a0).wf = true) (a1 : Option Addr) (len1 cap1 : Nat) (z1 : List LeE) (w1 : IsLents w a1 len1 cap1 z1) (hb1 : (z1.map (fun x => esz x.L)).sum ≤ 1048576) (a2 : Option Addr) (len2 cap2 : Nat) (z2 : List Nat) (w2 : In w a2 len2 cap2 z2) :
  Calls Tryz.prog 7 #[.int .u8 a0,.slice a1 len1 cap1,.slice a2 len2 cap2] w fun e w' => e = .returned (.bool true) ∧ Below w.heap.size w w' := by
 obtain ⟨k0,rfl,hk⟩ := u8r w0
 refine (laneReads_fr w ht k0 hk a1 len1 cap1 z1 w1 hb1 a2 len2 cap2 z2 w2).mono ?_
 rintro e w' ⟨rfl,hf⟩
 exact ⟨rfl,hf.below (Nat.le_refl _) (fun _ _ h => h)⟩
end Go.Proofs.YtgifeckbflkkpaaGreatDoor
