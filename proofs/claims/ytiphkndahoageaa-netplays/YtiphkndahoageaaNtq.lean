/-
  Nothing beside other things.
-/
import Derived.Test.YtiphkndahoageaaNtp
namespace Go.Proofs.Ytiphkndahoageaa
open Go.RowKit

theorem Own.emp {w0 w : World} {l : List Thing} (h : Own w0 w l) : Own w0 w (Emp :: l) := h.new Emp (fun _ => False) (fun _ h => h) (Fr.refl _ _) (fun _ h => h.elim)
end Go.Proofs.Ytiphkndahoageaa
