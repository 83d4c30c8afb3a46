/- Who never answers is sent Fulls alone, who answers each time Steps alone behind the first: LaneFull returns true, whatever its arguments of bulk at most 1048576, where the two tables (of the sum and of the components) lie as the program's text lays them, and changes nothing that was there. -/
import Derived.Test.YtgifeckbflkkpaaGreatDoorQf48
import Derived.Test.YtgifeckbflkkpaaGreatDoorQf49
import Derived.OpenShut
import Derived.SevenTiedAt
import Derived.Deep.DeepHandedRow
namespace Go.Proofs.YtgifeckbflkkpaaGreatDoor
open Go.ChangeShapes Go.WideShapes Go.ChangeAt Go.RowKit
set_option linter.unusedVariables false
set_option maxRecDepth 100000
theorem u8r {n : Int} (h : (Lit.int .u8 n).wf = true) : ∃ k : Nat,n = k ∧ k < 256 := by
 have : 0 ≤ n ∧ n ≤ 255 := by simpa [Lit.wf,IntKind.min,IntKind.max,IntKind.signed,IntKind.bits] using h
 exact ⟨n.toNat,by omega,by omega⟩
theorem laneFull_walk (w : World) (ht : Tab w ∧ Tabf w) (a0 : Int) (w0 : (Lit.int .u8 a0).wf = true) (a1 : Option Addr) (len1 cap1 : Nat) (z1 : List LeE) (w1 : IsLents w a1 len1 cap1 z1) (hb1 : (z1.map (fun x => esz x.L)).sum ≤ 1048576) :
  Calls Tryz.prog 8 #[.int .u8 a0,.slice a1 len1 cap1] w fun e w' => e = .returned (.bool true) ∧ Below w.heap.size w w' := by
 obtain ⟨k0,rfl,hk⟩ := u8r w0
 refine (laneFull_fr w ht k0 hk a1 len1 cap1 z1 w1 hb1).mono ?_
 rintro e w' ⟨rfl,hf⟩
 exact ⟨rfl,hf.below (Nat.le_refl _) (fun _ _ h => h)⟩
end Go.Proofs.YtgifeckbflkkpaaGreatDoor
