/- What the row's condition on the table of sum.Crc gives the walks: its sixteen cells hold what four steps of the division leave of 0 to 15; and the start that meets the condition. -/
import Derived.Test.YtephkcdbnogdhaaDoorRows
import Derived.Test.YtephkcdbnogdhaaDoorCrcMath
import Derived.Test.YtephkcdbnogdhaaDoorCrcWalks
import Derived.ProofKit
import Derived.LaidMore
import Derived.Lib.LaidTab
import Derived.OpenShut
import Derived.Stop.Joined
namespace Go.Proofs.YtephkcdbnogdhaaDoor
open Go.RowKit Cr
theorem own : ownKnob Tryd.prog.godebug = none := by kernel_rfl
theorem gTab : Tryd.prog.globalNamed "vellum/running.crcOfNibble" = some 0 := by kernel_rfl
theorem tTab : (Tryd.prog.globals[0]?).map (·.type) = some 34 := by kernel_rfl
def laidTab : List (String × DataW Unit) := [("vellum/running.crcOfNibble", Rows.laid_vellum_running_crcOfNibble)]
theorem door_met (os : Os) (args : Array Value) : laidMetH Tryd.prog laidTab ((World.doorLaid Tryd.prog 14 os).forCall (fun _ _ => 0) ⟨#[], args, []⟩).memory :=
  laidMetH_of_parts3 (fuel := 8) (laidMet_of_run' 8 (by kernel_rfl) (by kernel_rfl)) (by kernel_rfl) (by kernel_rfl)
def tabNums : List Int := (List.range 16).map fun i => ((steps 4 i : Nat) : Int)
theorem tab_is : (Rows.laid_vellum_running_crcOfNibble : DataW Unit) = Lib.tabData .u32 tabNums := by kernel_rfl
theorem tab_at (i : Nat) (h : i < 16) : tabNums.getD i 0 = ((steps 4 i : Nat) : Int) := by
  unfold tabNums; simp [List.getD_eq_getElem?_getD, h]
theorem tab_of_laid {W : World} (h : laidMetH Tryd.prog laidTab W) : Tab W := by
  rw [MakeChecks.laidMetH_plain _ _ _ (by kernel_rfl)] at h
  unfold laidTab at h
  rw [tab_is] at h
  have hT : Lib.TabIs Tryd.prog W "vellum/running.crcOfNibble" .u32 tabNums := Lib.tabIs_of_head gTab tTab Tryd.underlying34 Tryd.underlying22 (by kernel_rfl) (by kernel_rfl) h
  intro i hi
  have := hT.cell gTab i (by simpa [tabNums] using hi)
  rw [tab_at i hi] at this
  exact this
end Go.Proofs.YtephkcdbnogdhaaDoor
