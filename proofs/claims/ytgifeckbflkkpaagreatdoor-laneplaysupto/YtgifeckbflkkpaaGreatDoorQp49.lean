/- The table that the program's text lays: what its reading gives. -/
import Derived.Test.YtgifeckbflkkpaaGreatDoorQp13
import Derived.Test.YtgifeckbflkkpaaGreatDoorQp03
import Derived.Test.YtgifeckbflkkpaaGreatDoorTie
import Derived.Test.YtgifeckbflkkpaaGreatDoorCards
import Derived.ProofKit
import Derived.OpenShut
import Derived.LaidMore
import Derived.SevenTiedAt
import Derived.Stop.Joined
namespace Go.Proofs.YtgifeckbflkkpaaGreatDoor
open Go.ChangeShapes Go.WideShapes Go.ChangeAt Go.WideMaps Go.WideElems Go.RowKit
set_option linter.unusedVariables false
set_option maxRecDepth 100000
theorem gSteps : Tryz.prog.globalNamed "pinnace/frame.steps" = some 0 := by kernel_rfl
theorem tSteps : (Tryz.prog.globals[0]?).map (·.type) = some 218 := by kernel_rfl
theorem tbl_vals : (List.range 16).map tbl = [0,498536548,997073096,651767980,1994146192,1802195444,1303535960,1342533948,3988292384,4027552580,3604390888,3412177804,2607071920,2262029012,2685067896,3183342108] := by decide +kernel
theorem steps_at (i : Nat) (hi : i < 16) : ([DataW.lit (Lit.int IntKind.u32 0),DataW.lit (Lit.int IntKind.u32 498536548),DataW.lit (Lit.int IntKind.u32 997073096),DataW.lit (Lit.int IntKind.u32 651767980),DataW.lit (Lit.int IntKind.u32 1994146192),DataW.lit (Lit.int IntKind.u32 1802195444),DataW.lit (Lit.int IntKind.u32 1303535960),DataW.lit (Lit.int IntKind.u32 1342533948),DataW.lit (Lit.int IntKind.u32 3988292384),DataW.lit (Lit.int IntKind.u32 4027552580),DataW.lit (Lit.int IntKind.u32 3604390888),DataW.lit (Lit.int IntKind.u32 3412177804),DataW.lit (Lit.int IntKind.u32 2607071920),DataW.lit (Lit.int IntKind.u32 2262029012),DataW.lit (Lit.int IntKind.u32 2685067896),DataW.lit (Lit.int IntKind.u32 3183342108)] : List (DataW Unit))[i]? = some (DataW.lit (Lit.int IntKind.u32 ((tbl i : Nat) : Int))) := by
 have e : (tbl i) = ((List.range 16).map tbl)[i]?.getD 0 := by simp [hi]
 rw [e,tbl_vals]
 clear e
 match i,hi with
 | 0,_ => rfl
 | 1,_ => rfl
 | 2,_ => rfl
 | 3,_ => rfl
 | 4,_ => rfl
 | 5,_ => rfl
 | 6,_ => rfl
 | 7,_ => rfl
 | 8,_ => rfl
 | 9,_ => rfl
 | 10,_ => rfl
 | 11,_ => rfl
 | 12,_ => rfl
 | 13,_ => rfl
 | 14,_ => rfl
 | 15,_ => rfl
 | n + 16,h => exact absurd h (by omega)
theorem of_laidf {W : World} (h : laidMetH Tryz.prog laid1 W) : Tabf W := by
 rw [MakeChecks.laidMetH_plain _ _ _ (by kernel_rfl)] at h
 obtain ⟨ps,⟨g0,t0,cs0,f0,p0,q0,hg0,ht0,hv0,hd0,_,_⟩,_,_⟩ := h
 obtain rfl := Option.some.inj (gSteps.symm.trans hg0)
 obtain rfl := Option.some.inj (tSteps.symm.trans ht0)
 obtain ⟨xs,m1,rfl,hx1,hlen,hn3,hel⟩ := DataW.trod_array Tryz.underlying218 hd0
 have c3 : Tryz.prog.cellsOf 27 = 1 := by kernel_rfl
 have c24 : Tryz.prog.cellsOf 218 = 16 := by kernel_rfl
 simp only [Prod.mk.injEq,DataW.agg.injEq,Rows.laid_pinnace_frame_steps] at hx1
 intro i hi
 have h0 := hel i hi
 have hxi : xs[i]? = some xs[i] := List.getElem?_eq_getElem (by rw [hn3]; exact hi)
 obtain ⟨k,e1,e2,_⟩ := DataW.trod_int Tryz.underlying27 (h0.trans hxi)
 have hk : k = ((tbl i : Nat) : Int) := by
  have h1 := steps_at i hi
  rw [hx1.1,List.getElem?_map,hxi] at h1
  simp only [Option.map_some,Option.some.injEq] at h1
  rw [e2] at h1
  simpa using h1
 subst hk
 have := World.var?_cell hg0 hv0 i
 rw [this]
 rw [c3,Nat.mul_one] at e1
 have h2 : (List.take 1 (List.drop i cs0.toList))[0]? = some (Value.int IntKind.u32 ((tbl i : Nat) : Int)) := by rw [e1]; rfl
 rw [List.getElem?_take,if_pos (by decide),List.getElem?_drop,Nat.add_zero,Array.getElem?_toList] at h2
 exact h2
end Go.Proofs.YtgifeckbflkkpaaGreatDoor
