/- The document's Seal of any packet; Peek and Open of what isn't a frame. -/
import Derived.Test.YtgifeckbflkkpaaGreatDoorQp44
import Derived.Test.YtgifeckbflkkpaaGreatDoorQp14
namespace Go.Proofs.YtgifeckbflkkpaaGreatDoor
open Go.RowKit
set_option linter.unusedVariables false
set_option maxRecDepth 100000
theorem rseal20 (w0 w : World) (l : List Thing) (h : Own w0 w l) (k c e t s : Nat) (hI : HIn k c e t s) (aw an : Option Addr) (nw nn cw cn : Nat) (W N : List EnE) (hQ : ∀ w',Own w0 w' l → EntsAt w' aw W ∧ EntsAt w' an N) (hW : W.length = nw) (hN : N.length = nn) (hIW : EIn W) (hIN : EIn N) (hzW : esz W ≤ 400) (hzN : esz N ≤ 400) :
  Calls Tryz.prog 32 #[.agg (hvs k c e t s),.slice aw nw cw,.slice an nn cn] w fun x w' => ∃ v code P,x = .returned (.tuple #[v,.int .i64 ((code : Nat) : Int)]) ∧ SealR k c e t s (evs W) (evs N) code P ∧ Own w0 w' (Row 5 1 v P.length (vrow P) :: l) := by
 by_cases hc : hchk k c e t s = 0
 ·by_cases k1 : k = 1
  ·subst k1
   exact rseal_1 w0 w l h c e t s hI hc aw an nw nn cw cn W N hQ hW hN hIW hIN hzW hzN
  ·by_cases k2 : k = 2
   ·subst k2
    exact rseal_2 w0 w l h c e t s hI hc aw an nw nn cw cn W N hQ hW hN hIW hIN hzW hzN
   ·exact rseal_3 w0 w l h k c e t s hI hc k1 k2 aw an nw nn cw cn W N hQ hW hN hIW hIN hzW hzN
 ·exact rseal_bad w0 w l h k c e t s hI hc aw an nw nn cw cn W N hQ hW hN hIW hIN hzW hzN
end Go.Proofs.YtgifeckbflkkpaaGreatDoor
