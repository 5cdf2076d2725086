/-
  DERIVED. GIVEN WITH THE SEED: THE CARDS: each row of YtephkcdbnogdhaaGreatDoorRows.lean that lists a variable, with what it lists TIED to the program's text (the seventh form; the later family's looks); each row that meets fmt, with fmt's text TOLD by the authors' own Lean function (tested against real Go, not proved from fmt's source: count such statements apart). THE CARD IS WHAT COUNTS. Prove the row's statement (the work); the ties are given (YtephkcdbnogdhaaGreatDoorTie.lean); close each card by the builder's one call (the guide's Derived/Test/ToyasCard.lean, 'card_holds'). Laid BY PROGRAM, IN A SANDBOX (cutbox-door.mjs). By AI agents, Wed Nov 11 2026. No macro, syntax, notation, axiom, sorry.
-/
import Derived.Test.YtephkcdbnogdhaaGreatDoorRows
import GoSem.ClaimSeven
namespace Go.Proofs.YtephkcdbnogdhaaGreatDoor
namespace Rows

/-- THE TIED CARD OF 'vellumlaw.Inflates'. -/
def inflatesCard : Claim7 := { stood := { row := inflatesRow, standIns := [], harness := (true, "2e3f9270758ae21e698f49797578a958a6831d537dbc3c8810530139e0af1668"), looks := true }, kinds := [], alts := [], laidByText := true, laidKinds := [.handle, .sentinel, .sentinel, .sentinel, .data], laidTests := true, laidLooks := .later }
def InflatesCardSaid : Prop := Claim7.holds Tryz.pinned (.plain (OpenSpec.ofChange inflatesSpec)) inflatesCard

/-- THE TIED CARD OF 'vellumlaw.Unwraps'. -/
def unwrapsCard : Claim7 := { stood := { row := unwrapsRow, standIns := [], harness := (true, "2e3f9270758ae21e698f49797578a958a6831d537dbc3c8810530139e0af1668"), looks := true }, kinds := [], alts := [], laidByText := true, laidKinds := [.handle, .sentinel, .sentinel, .sentinel, .data], laidTests := true, laidLooks := .later }
def UnwrapsCardSaid : Prop := Claim7.holds Tryz.pinned (.plain (OpenSpec.ofChange unwrapsSpec)) unwrapsCard

/-- THE TIED CARD OF 'vellumlaw.Decodes'. -/
def decodesCard : Claim7 := { stood := { row := decodesRow, standIns := [], harness := (true, "2e3f9270758ae21e698f49797578a958a6831d537dbc3c8810530139e0af1668"), looks := true }, kinds := [], alts := [], laidByText := true, laidKinds := [.data, .handle, .sentinel, .sentinel, .sentinel, .data, .data], laidTests := true, laidLooks := .later }
def DecodesCardSaid : Prop := Claim7.holds Tryz.pinned (.plain (OpenSpec.ofChange decodesSpec)) decodesCard

/-- THE TIED CARD OF 'vellumlaw.Fails'. -/
def failsCard : Claim7 := { stood := { row := failsRow, standIns := [], harness := (true, "2e3f9270758ae21e698f49797578a958a6831d537dbc3c8810530139e0af1668"), looks := true }, kinds := [], alts := [], laidByText := true, laidKinds := [.data, .handle, .sentinel, .sentinel, .sentinel, .data, .data], laidTests := true, laidLooks := .later }
def FailsCardSaid : Prop := Claim7.holds Tryz.pinned (.plain (OpenSpec.ofChange failsSpec)) failsCard

/-- THE TIED CARD OF 'vellumkeep.Packed'. -/
def packedCard : Claim7 := { stood := { row := packedRow, standIns := [], harness := (true, "2e3f9270758ae21e698f49797578a958a6831d537dbc3c8810530139e0af1668"), looks := true }, kinds := [], alts := [], laidByText := true, laidKinds := [.handle, .sentinel, .sentinel, .sentinel, .data], laidTests := true, laidLooks := .later }
def PackedCardSaid : Prop := Claim7.holds Tryz.pinned (.plain (OpenSpec.ofChange packedSpec)) packedCard

/-- THE TIED CARD OF 'vellumkeep.Drawn'. -/
def drawnCard : Claim7 := { stood := { row := drawnRow, standIns := [], harness := (true, "2e3f9270758ae21e698f49797578a958a6831d537dbc3c8810530139e0af1668"), looks := true }, kinds := [], alts := [], laidByText := true, laidKinds := [.data, .handle, .sentinel, .sentinel, .sentinel, .data, .data], laidTests := true, laidLooks := .later }
def DrawnCardSaid : Prop := Claim7.holds Tryz.pinned (.plain (OpenSpec.ofChange drawnSpec)) drawnCard

/-- THE TIED CARD OF 'vellumkeep.Slowly'. -/
def slowlyCard : Claim7 := { stood := { row := slowlyRow, standIns := [], harness := (true, "2e3f9270758ae21e698f49797578a958a6831d537dbc3c8810530139e0af1668"), looks := true }, kinds := [], alts := [], laidByText := true, laidKinds := [.data, .handle, .sentinel, .sentinel, .sentinel, .data, .data], laidTests := true, laidLooks := .later }
def SlowlyCardSaid : Prop := Claim7.holds Tryz.pinned (.plain (OpenSpec.ofChange slowlySpec)) slowlyCard

/-- THE TIED CARD OF 'vellumkeep.Early'. -/
def earlyCard : Claim7 := { stood := { row := earlyRow, standIns := [], harness := (true, "2e3f9270758ae21e698f49797578a958a6831d537dbc3c8810530139e0af1668"), looks := true }, kinds := [], alts := [], laidByText := true, laidKinds := [.data, .handle, .sentinel, .sentinel, .sentinel, .data, .data], laidTests := true, laidLooks := .later }
def EarlyCardSaid : Prop := Claim7.holds Tryz.pinned (.plain (OpenSpec.ofChange earlySpec)) earlyCard

/-- THE TIED CARD OF 'vellumkeep.Idle'. -/
def idleCard : Claim7 := { stood := { row := idleRow, standIns := [], harness := (true, "2e3f9270758ae21e698f49797578a958a6831d537dbc3c8810530139e0af1668"), looks := true }, kinds := [], alts := [], laidByText := true, laidKinds := [.data, .handle, .sentinel, .sentinel, .sentinel, .data, .data], laidTests := true, laidLooks := .later }
def IdleCardSaid : Prop := Claim7.holds Tryz.pinned (.plain (OpenSpec.ofChange idleSpec)) idleCard

/-- THE SECOND FORM's CARD OF 'vellumlaw.Inflates'. -/
def inflatesUptoCard : Claim7 := { stood := { row := inflatesUptoRow, standIns := [], harness := (true, "2e3f9270758ae21e698f49797578a958a6831d537dbc3c8810530139e0af1668"), looks := true }, kinds := [], alts := [], laidByText := true, laidKinds := [.handle, .sentinel, .sentinel, .sentinel, .data], laidTests := true, laidLooks := .later }
def InflatesUptoCardSaid : Prop := Claim7.holds Tryz.pinned (.plain (OpenSpec.upto inflatesSpec)) inflatesUptoCard

/-- THE SECOND FORM's CARD OF 'vellumlaw.Unwraps'. -/
def unwrapsUptoCard : Claim7 := { stood := { row := unwrapsUptoRow, standIns := [], harness := (true, "2e3f9270758ae21e698f49797578a958a6831d537dbc3c8810530139e0af1668"), looks := true }, kinds := [], alts := [], laidByText := true, laidKinds := [.handle, .sentinel, .sentinel, .sentinel, .data], laidTests := true, laidLooks := .later }
def UnwrapsUptoCardSaid : Prop := Claim7.holds Tryz.pinned (.plain (OpenSpec.upto unwrapsSpec)) unwrapsUptoCard

/-- THE SECOND FORM's CARD OF 'vellumlaw.Decodes'. -/
def decodesUptoCard : Claim7 := { stood := { row := decodesUptoRow, standIns := [], harness := (true, "2e3f9270758ae21e698f49797578a958a6831d537dbc3c8810530139e0af1668"), looks := true }, kinds := [], alts := [], laidByText := true, laidKinds := [.data, .handle, .sentinel, .sentinel, .sentinel, .data, .data], laidTests := true, laidLooks := .later }
def DecodesUptoCardSaid : Prop := Claim7.holds Tryz.pinned (.plain (OpenSpec.upto decodesSpec)) decodesUptoCard

/-- THE SECOND FORM's CARD OF 'vellumlaw.Fails'. -/
def failsUptoCard : Claim7 := { stood := { row := failsUptoRow, standIns := [], harness := (true, "2e3f9270758ae21e698f49797578a958a6831d537dbc3c8810530139e0af1668"), looks := true }, kinds := [], alts := [], laidByText := true, laidKinds := [.data, .handle, .sentinel, .sentinel, .sentinel, .data, .data], laidTests := true, laidLooks := .later }
def FailsUptoCardSaid : Prop := Claim7.holds Tryz.pinned (.plain (OpenSpec.upto failsSpec)) failsUptoCard

/-- THE SECOND FORM's CARD OF 'vellumkeep.Packed'. -/
def packedUptoCard : Claim7 := { stood := { row := packedUptoRow, standIns := [], harness := (true, "2e3f9270758ae21e698f49797578a958a6831d537dbc3c8810530139e0af1668"), looks := true }, kinds := [], alts := [], laidByText := true, laidKinds := [.handle, .sentinel, .sentinel, .sentinel, .data], laidTests := true, laidLooks := .later }
def PackedUptoCardSaid : Prop := Claim7.holds Tryz.pinned (.plain (OpenSpec.upto packedSpec)) packedUptoCard

/-- THE SECOND FORM's CARD OF 'vellumkeep.Drawn'. -/
def drawnUptoCard : Claim7 := { stood := { row := drawnUptoRow, standIns := [], harness := (true, "2e3f9270758ae21e698f49797578a958a6831d537dbc3c8810530139e0af1668"), looks := true }, kinds := [], alts := [], laidByText := true, laidKinds := [.data, .handle, .sentinel, .sentinel, .sentinel, .data, .data], laidTests := true, laidLooks := .later }
def DrawnUptoCardSaid : Prop := Claim7.holds Tryz.pinned (.plain (OpenSpec.upto drawnSpec)) drawnUptoCard

/-- THE SECOND FORM's CARD OF 'vellumkeep.Slowly'. -/
def slowlyUptoCard : Claim7 := { stood := { row := slowlyUptoRow, standIns := [], harness := (true, "2e3f9270758ae21e698f49797578a958a6831d537dbc3c8810530139e0af1668"), looks := true }, kinds := [], alts := [], laidByText := true, laidKinds := [.data, .handle, .sentinel, .sentinel, .sentinel, .data, .data], laidTests := true, laidLooks := .later }
def SlowlyUptoCardSaid : Prop := Claim7.holds Tryz.pinned (.plain (OpenSpec.upto slowlySpec)) slowlyUptoCard

/-- THE SECOND FORM's CARD OF 'vellumkeep.Early'. -/
def earlyUptoCard : Claim7 := { stood := { row := earlyUptoRow, standIns := [], harness := (true, "2e3f9270758ae21e698f49797578a958a6831d537dbc3c8810530139e0af1668"), looks := true }, kinds := [], alts := [], laidByText := true, laidKinds := [.data, .handle, .sentinel, .sentinel, .sentinel, .data, .data], laidTests := true, laidLooks := .later }
def EarlyUptoCardSaid : Prop := Claim7.holds Tryz.pinned (.plain (OpenSpec.upto earlySpec)) earlyUptoCard

/-- THE SECOND FORM's CARD OF 'vellumkeep.Idle'. -/
def idleUptoCard : Claim7 := { stood := { row := idleUptoRow, standIns := [], harness := (true, "2e3f9270758ae21e698f49797578a958a6831d537dbc3c8810530139e0af1668"), looks := true }, kinds := [], alts := [], laidByText := true, laidKinds := [.data, .handle, .sentinel, .sentinel, .sentinel, .data, .data], laidTests := true, laidLooks := .later }
def IdleUptoCardSaid : Prop := Claim7.holds Tryz.pinned (.plain (OpenSpec.upto idleSpec)) idleUptoCard
end Rows
end Go.Proofs.YtephkcdbnogdhaaGreatDoor
