/-
  DERIVED. GIVEN WITH THE SEED: THE PROGRAM's TIES (one call each: nine closed facts by the kernel) AND EACH ROW's TIE, after the 31st guide's Derived/Test/Toyas{Tie, Card}.lean. No idea stands in it: it is a product of the set-up. Laid BY PROGRAM, IN A SANDBOX (cutbox-door.mjs). By AI agents, Wed Nov 11 2026. No macro, syntax, notation, axiom, sorry.
-/
import Derived.Test.YtjfifmadldcjjaaGreatDoorRows
import Derived.LaidByTextLater
import Derived.SevenTiedAt
import Derived.LaidSub
import Derived.LaidOnce
namespace Go.Proofs.YtjfifmadldcjjaaGreatDoor
open Go
set_option maxRecDepth 100000
theorem seatTie1 : Tryz.prog.laidByTextLater [("errors.errorType", Rows.laid_errors_errorType), ("vellum/fault.End", Rows.laid_vellum_fault_End), ("vellum/unpack.lengthOrder", Rows.laid_vellum_unpack_lengthOrder)] [.handle, .sentinel, .data] true :=
  Program.laidByTextLater_by_one 40 8 20 (by kernel_rfl) (by kernel_rfl) (by kernel_rfl) (by kernel_rfl) (by kernel_rfl) (by kernel_rfl) (fun _ _ => by kernel_rfl)
theorem noOwnUnsafe : Tryz.pinned.checked.prog.headLifts.contains "ownunsafe" = false := by kernel_rfl
theorem tie : Tryz.prog.laidByTextLater [("errors.errorType", Rows.laid_errors_errorType), ("vellum/fault.End", Rows.laid_vellum_fault_End), ("vellum/unpack.lengthOrder", Rows.laid_vellum_unpack_lengthOrder)] [.handle, .sentinel, .data] true :=
  Program.laidByTextLater.sub seatTie1 ["errors.errorType", "vellum/fault.End", "vellum/unpack.lengthOrder"] (by kernel_rfl) (by kernel_rfl)
theorem inflates_row_tie : Rows.inflatesRow.laidByTextAt .later Tryz.pinned [.handle, .sentinel, .data] true :=
  OpenClaim.laidByTextAt_later rfl rfl tie noOwnUnsafe
theorem unwraps_row_tie : Rows.unwrapsRow.laidByTextAt .later Tryz.pinned [.handle, .sentinel, .data] true :=
  OpenClaim.laidByTextAt_later rfl rfl tie noOwnUnsafe
theorem inflatesUpto_row_tie : Rows.inflatesUptoRow.laidByTextAt .later Tryz.pinned [.handle, .sentinel, .data] true :=
  OpenClaim.laidByTextAt_later rfl rfl tie noOwnUnsafe
theorem unwrapsUpto_row_tie : Rows.unwrapsUptoRow.laidByTextAt .later Tryz.pinned [.handle, .sentinel, .data] true :=
  OpenClaim.laidByTextAt_later rfl rfl tie noOwnUnsafe
end Go.Proofs.YtjfifmadldcjjaaGreatDoor
