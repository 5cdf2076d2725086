/-
  DERIVED. GIVEN WITH THE SEED: THE PROGRAM's TIES (one call each: nine closed facts by the kernel) AND EACH ROW's TIE, after the 31st guide's Derived/Test/Toyas{Tie, Card}.lean. No idea stands in it: it is a product of the set-up. Laid BY PROGRAM, IN A SANDBOX (cutbox-door.mjs). By AI agents, Wed Nov 11 2026. No macro, syntax, notation, axiom, sorry.
-/
import Derived.Test.YtephkcdbnogdhabGreatDoorRows
import Derived.LaidByTextLater
import Derived.SevenTiedAt
import Derived.LaidSub
import Derived.LaidOnce
namespace Go.Proofs.YtephkcdbnogdhabGreatDoor
open Go
set_option maxRecDepth 100000
theorem seatTie1 : Tryz.prog.laidByTextLater [("vellum/running.crcOfNibble", Rows.laid_vellum_running_crcOfNibble), ("errors.errorType", Rows.laid_errors_errorType), ("vellum/fault.End", Rows.laid_vellum_fault_End), ("vellum/fault.Failed", Rows.laid_vellum_fault_Failed), ("vellum/fault.TooLarge", Rows.laid_vellum_fault_TooLarge), ("vellum/rows.small", Rows.laid_vellum_rows_small), ("vellum/unpack.lengthOrder", Rows.laid_vellum_unpack_lengthOrder)] [.data, .handle, .sentinel, .sentinel, .sentinel, .data, .data] true :=
  Program.laidByTextLater_by_one 95 8 29 (by kernel_rfl) (by kernel_rfl) (by kernel_rfl) (by kernel_rfl) (by kernel_rfl) (by kernel_rfl) (fun _ _ => by kernel_rfl)
theorem noOwnUnsafe : Tryz.pinned.checked.prog.headLifts.contains "ownunsafe" = false := by kernel_rfl
theorem tie : Tryz.prog.laidByTextLater [("vellum/running.crcOfNibble", Rows.laid_vellum_running_crcOfNibble), ("errors.errorType", Rows.laid_errors_errorType), ("vellum/fault.End", Rows.laid_vellum_fault_End), ("vellum/fault.Failed", Rows.laid_vellum_fault_Failed), ("vellum/fault.TooLarge", Rows.laid_vellum_fault_TooLarge), ("vellum/rows.small", Rows.laid_vellum_rows_small), ("vellum/unpack.lengthOrder", Rows.laid_vellum_unpack_lengthOrder)] [.data, .handle, .sentinel, .sentinel, .sentinel, .data, .data] true :=
  Program.laidByTextLater.sub seatTie1 ["vellum/running.crcOfNibble", "errors.errorType", "vellum/fault.End", "vellum/fault.Failed", "vellum/fault.TooLarge", "vellum/rows.small", "vellum/unpack.lengthOrder"] (by kernel_rfl) (by kernel_rfl)
theorem spoilt_row_tie : Rows.spoiltRow.laidByTextAt .later Tryz.pinned [.data, .handle, .sentinel, .sentinel, .sentinel, .data, .data] true :=
  OpenClaim.laidByTextAt_later rfl rfl tie noOwnUnsafe
theorem spoiltUpto_row_tie : Rows.spoiltUptoRow.laidByTextAt .later Tryz.pinned [.data, .handle, .sentinel, .sentinel, .sentinel, .data, .data] true :=
  OpenClaim.laidByTextAt_later rfl rfl tie noOwnUnsafe
end Go.Proofs.YtephkcdbnogdhabGreatDoor
