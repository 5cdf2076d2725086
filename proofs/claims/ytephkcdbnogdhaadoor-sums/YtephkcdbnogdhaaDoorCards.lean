/-
  DERIVED. GIVEN WITH THE SEED: THE CARDS: each row of YtephkcdbnogdhaaDoorRows.lean that lists a variable, with what it lists TIED to the program's text (the seventh form; the later family's looks); each row that meets fmt, with fmt's text TOLD by the authors' own Lean function (tested against real Go, not proved from fmt's source: count such statements apart). THE CARD IS WHAT COUNTS. Prove the row's statement (the work); the ties are given (YtephkcdbnogdhaaDoorTie.lean); close each card by the builder's one call (the guide's Derived/Test/ToyasCard.lean, 'card_holds'). Laid BY PROGRAM, IN A SANDBOX (cutbox-door.mjs). By AI agents, Wed Nov 11 2026. No macro, syntax, notation, axiom, sorry.
-/
import Derived.Test.YtephkcdbnogdhaaDoorRows
import GoSem.ClaimSeven
namespace Go.Proofs.YtephkcdbnogdhaaDoor
namespace Rows

/-- THE TIED CARD OF 'vellumlaw.Crcs'. -/
def crcsCard : Claim7 := { stood := { row := crcsRow, standIns := [], harness := (true, "89964b63044bbabbaca0f4013827ead6941b8eb7760a92aedf2e81575ca557d3"), looks := false }, kinds := [], alts := [], laidByText := true, laidKinds := [.data], laidTests := true, laidLooks := .later }
def CrcsCardSaid : Prop := Claim7.holds Tryd.pinned (.plain (OpenSpec.ofChange crcsSpec)) crcsCard

/-- THE TIED CARD OF 'vellumkeep.Sums'. -/
def sumsCard : Claim7 := { stood := { row := sumsRow, standIns := [], harness := (true, "89964b63044bbabbaca0f4013827ead6941b8eb7760a92aedf2e81575ca557d3"), looks := false }, kinds := [], alts := [], laidByText := true, laidKinds := [.data], laidTests := true, laidLooks := .later }
def SumsCardSaid : Prop := Claim7.holds Tryd.pinned (.plain (OpenSpec.ofChange sumsSpec)) sumsCard

/-- THE SECOND FORM's CARD OF 'vellumlaw.Crcs'. -/
def crcsUptoCard : Claim7 := { stood := { row := crcsUptoRow, standIns := [], harness := (true, "89964b63044bbabbaca0f4013827ead6941b8eb7760a92aedf2e81575ca557d3"), looks := false }, kinds := [], alts := [], laidByText := true, laidKinds := [.data], laidTests := true, laidLooks := .later }
def CrcsUptoCardSaid : Prop := Claim7.holds Tryd.pinned (.plain (OpenSpec.upto crcsSpec)) crcsUptoCard

/-- THE SECOND FORM's CARD OF 'vellumkeep.Sums'. -/
def sumsUptoCard : Claim7 := { stood := { row := sumsUptoRow, standIns := [], harness := (true, "89964b63044bbabbaca0f4013827ead6941b8eb7760a92aedf2e81575ca557d3"), looks := false }, kinds := [], alts := [], laidByText := true, laidKinds := [.data], laidTests := true, laidLooks := .later }
def SumsUptoCardSaid : Prop := Claim7.holds Tryd.pinned (.plain (OpenSpec.upto sumsSpec)) sumsUptoCard
end Rows
end Go.Proofs.YtephkcdbnogdhaaDoor
