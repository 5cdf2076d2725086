/-
  DERIVED. GIVEN WITH THE SEED: THE CARDS: each row of YtjfifmadldcjjaaGreatDoorRows.lean that lists a variable, with what it lists TIED to the program's text (the seventh form; the later family's looks); each row that meets fmt, with fmt's text TOLD by the authors' own Lean function (tested against real Go, not proved from fmt's source: count such statements apart). THE CARD IS WHAT COUNTS. Prove the row's statement (the work); the ties are given (YtjfifmadldcjjaaGreatDoorTie.lean); close each card by the builder's one call (the guide's Derived/Test/ToyasCard.lean, 'card_holds'). Laid BY PROGRAM, IN A SANDBOX (cutbox-door.mjs). By AI agents, Wed Nov 11 2026. No macro, syntax, notation, axiom, sorry.
-/
import Derived.Test.YtjfifmadldcjjaaGreatDoorRows
import GoSem.ClaimSeven
namespace Go.Proofs.YtjfifmadldcjjaaGreatDoor
namespace Rows

/-- THE TIED CARD OF 'vellumlaw.Inflates'. -/
def inflatesCard : Claim7 := { stood := { row := inflatesRow, standIns := [], harness := (true, "6c71bc235020ceee14c7730f1c8e40fb6ec8630cd201f7291e39e5dc5218ca48"), looks := true }, kinds := [], alts := [], laidByText := true, laidKinds := [.handle, .sentinel, .data], laidTests := true, laidLooks := .later }
def InflatesCardSaid : Prop := Claim7.holds Tryz.pinned (.plain (OpenSpec.ofChange inflatesSpec)) inflatesCard

/-- THE TIED CARD OF 'vellumlaw.Unwraps'. -/
def unwrapsCard : Claim7 := { stood := { row := unwrapsRow, standIns := [], harness := (true, "6c71bc235020ceee14c7730f1c8e40fb6ec8630cd201f7291e39e5dc5218ca48"), looks := true }, kinds := [], alts := [], laidByText := true, laidKinds := [.handle, .sentinel, .data], laidTests := true, laidLooks := .later }
def UnwrapsCardSaid : Prop := Claim7.holds Tryz.pinned (.plain (OpenSpec.ofChange unwrapsSpec)) unwrapsCard

/-- THE SECOND FORM's CARD OF 'vellumlaw.Inflates'. -/
def inflatesUptoCard : Claim7 := { stood := { row := inflatesUptoRow, standIns := [], harness := (true, "6c71bc235020ceee14c7730f1c8e40fb6ec8630cd201f7291e39e5dc5218ca48"), looks := true }, kinds := [], alts := [], laidByText := true, laidKinds := [.handle, .sentinel, .data], laidTests := true, laidLooks := .later }
def InflatesUptoCardSaid : Prop := Claim7.holds Tryz.pinned (.plain (OpenSpec.upto inflatesSpec)) inflatesUptoCard

/-- THE SECOND FORM's CARD OF 'vellumlaw.Unwraps'. -/
def unwrapsUptoCard : Claim7 := { stood := { row := unwrapsUptoRow, standIns := [], harness := (true, "6c71bc235020ceee14c7730f1c8e40fb6ec8630cd201f7291e39e5dc5218ca48"), looks := true }, kinds := [], alts := [], laidByText := true, laidKinds := [.handle, .sentinel, .data], laidTests := true, laidLooks := .later }
def UnwrapsUptoCardSaid : Prop := Claim7.holds Tryz.pinned (.plain (OpenSpec.upto unwrapsSpec)) unwrapsUptoCard
end Rows
end Go.Proofs.YtjfifmadldcjjaaGreatDoor
