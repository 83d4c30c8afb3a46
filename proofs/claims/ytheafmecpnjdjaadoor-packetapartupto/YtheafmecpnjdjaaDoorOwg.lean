/-
  Two entities that are alike.
-/
import Derived.Test.YtheafmecpnjdjaaDoorSmg
namespace Go.Proofs.YtheafmecpnjdjaaDoor
open Go.RowKit
set_option linter.unusedVariables false
set_option maxRecDepth 100000

set_option maxHeartbeats 1000000 in
theorem sameEnt_any (w : World) (id : Nat) (a1 a2 : Option Addr) (n c1 c2 : Nat) (C : List Cp) (h1 : Cs w a1 C) (h2 : Cs w a2 C) (hn : C.length = n) (hm : n ≤ 1000000) :
    Calls Tryd.prog 24 #[.agg #[.int .u32 (id : Int), .slice a1 n c1], .agg #[.int .u32 (id : Int), .slice a2 n c2]] w fun e w' => e = .returned (.bool true) ∧ Fr Nobody w w' := by
  have HF : Hid (Fr Nobody w ((w.alloc (.cells #[.int .u32 (id : Int), .slice a1 n c1] 43)).alloc (.cells #[.int .u32 (id : Int), .slice a2 n c2] 43))) := ((Fr.refl _ _).alloc _).alloc _
  have HS : Hid (Calls _ _ _ _ _) := same_cs _ a1 a2 n c1 c2 C (h1.quiet HF.out) (h2.quiet HF.out) hn hm
  have hii : ((id : Int) == (id : Int)) = true := by simp
  clear h1 h2 hn
  go_enter Tryd.func24, Tryd.ntmps24
  go_wp2_with fail
  refine HS.out.mono ?_
  rintro e w1 ⟨rfl, hf⟩
  have H1 : Hid (Fr Nobody w w1) := HF.out.trans hf
  clear hf HS
  go_wp2
  go_ret
  exact ⟨rfl, H1.out⟩

end Go.Proofs.YtheafmecpnjdjaaDoor

