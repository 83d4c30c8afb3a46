/-
  The document's Check.
-/
import Derived.Test.YtlbbljjfejhniaaDoorSg
namespace Go.Proofs.YtlbbljjfejhniaaDoor
open Go.RowKit
set_option linter.unusedVariables false
set_option maxRecDepth 100000

/-- three fields -/
def f3 (a b c : Int) : Nat → Int
  | 0 => a
  | 1 => b
  | 2 => c
  | _ => 0
theorem check3 (w : World) (ht : Tab w) (k : Nat) (hk : k < 256) (a b c : Int) :
    Calls Tryd.prog 37 #[.agg #[.int .u8 (k : Int), .int .i32 a, .int .i32 b, .int .i32 c]] w fun e w' => e = .returned (.int .i64 ((chk k (f3 a b c) : Nat) : Int)) ∧ Fr Nobody w w' := check_any w ht k hk (f3 a b c)
end Go.Proofs.YtlbbljjfejhniaaDoor
