/-
  NetPlays: the piece of its text in which a step is done, and what holds ahead of it and behind it.
-/
import Derived.Test.YtiphkndahoageaaNto
namespace Go.Proofs.Ytiphkndahoageaa
open Go.RowKit
set_option linter.unusedVariables false

def cfst : Code → Code
  | .seq a _ => a
  | c => c
def csnd : Code → Code
  | .seq _ b => b
  | c => c
def cinn : Code → Code
  | .block _ c => c
  | .loop c => c
  | c => c
/-- the loop's round, from the step's copy on; where a step is done -/
def npRound (c : Code) : Code := cinn (cfst (csnd (csnd (cinn (cinn (csnd (cfst (csnd (csnd (csnd (csnd (csnd c))))))))))))
def npSw (c : Code) : Code := csnd (cfst (csnd (csnd (csnd (csnd (npRound c))))))
end Go.Proofs.Ytiphkndahoageaa
