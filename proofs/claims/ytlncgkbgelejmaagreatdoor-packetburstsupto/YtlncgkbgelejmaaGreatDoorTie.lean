/-
  DERIVED. GIVEN WITH THE SEED: THE PROGRAM's TIES (one call each: nine closed facts by the kernel) AND EACH ROW's TIE, after the 31st guide's Derived/Test/Toyas{Tie, Card}.lean. No idea stands in it: it is a product of the set-up. Laid BY PROGRAM, IN A SANDBOX (cutbox-door.mjs). By AI agents, Wed Nov 11 2026. No macro, syntax, notation, axiom, sorry.
-/
import Derived.Test.YtlncgkbgelejmaaGreatDoorRows
import Derived.LaidByTextLater
import Derived.SevenTiedAt
import Derived.LaidSub
import Derived.LaidOnce
namespace Go.Proofs.YtlncgkbgelejmaaGreatDoor
open Go
set_option maxRecDepth 100000
theorem seatTie1 : Tryz.prog.laidByTextLater [("pinnace/frame.steps", Rows.laid_pinnace_frame_steps), ("pinnace/schema.rows", Rows.laid_pinnace_schema_rows)] [.data, .data] true :=
  Program.laidByTextLater_by_one 45 8 73 (by kernel_rfl) (by kernel_rfl) (by kernel_rfl) (by kernel_rfl) (by kernel_rfl) (by kernel_rfl) (fun _ _ => by kernel_rfl)
theorem noOwnUnsafe : Tryz.pinned.checked.prog.headLifts.contains "ownunsafe" = false := by kernel_rfl
theorem tie : Tryz.prog.laidByTextLater [("pinnace/frame.steps", Rows.laid_pinnace_frame_steps), ("pinnace/schema.rows", Rows.laid_pinnace_schema_rows)] [.data, .data] true :=
  Program.laidByTextLater.sub seatTie1 ["pinnace/frame.steps", "pinnace/schema.rows"] (by kernel_rfl) (by kernel_rfl)
theorem packetBursts_row_tie : Rows.packetBurstsRow.laidByTextAt .later Tryz.pinned [.data, .data] true :=
  OpenClaim.laidByTextAt_later rfl rfl tie noOwnUnsafe
theorem packetBurstsUpto_row_tie : Rows.packetBurstsUptoRow.laidByTextAt .later Tryz.pinned [.data, .data] true :=
  OpenClaim.laidByTextAt_later rfl rfl tie noOwnUnsafe
end Go.Proofs.YtlncgkbgelejmaaGreatDoor
