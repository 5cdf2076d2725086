/- Proved: at every plan of a picture, every script and every number that can be read, vellumkeep.Slowly returns true and leaves them as they were: however few bytes come at a time, and if none comes for a while, vellum.Decode gives the image that was drawn; of a source that fails ahead of the last byte it says that the source failed and gives no image, also where the last byte, or the first one that did not come, would have been wrong; a source that gives nothing 101 times has failed. Its condition: the package-level variables running.crcOfNibble, errors.errorType, fault.End, fault.Failed, fault.TooLarge, rows.small and unpack.lengthOrder read as the program's own text lays them (the card ties them to that text; that nothing else writes them is the translator's report). -/
import Derived.Test.YtephkcdbnogdhaaGreatDoorCards
import Derived.Test.YtephkcdbnogdhaaGreatDoorTie
import Derived.Test.YtephkcdbnogdhaaGreatDoorSl
set_option linter.unusedVariables false
set_option maxHeartbeats 40000000
set_option maxRecDepth 10000
namespace Go.Proofs.YtephkcdbnogdhaaGreatDoor
open Go.Proofs.Tryz
namespace slowly
open Go.ChangeShapes Go.WideShapes Go.ChangeAt Go.RowKit
theorem WG:Rows.SlowlySaid:=
 OpenClaim.holds_of_wide 9 f9 rfl rfl rfl rfl rfl rfl rfl ⟨rfl,rfl,rfl,rfl,rfl⟩ rfl rfl rfl rfl rfl (by kernel_rfl) func9 (by kernel_rfl)
  (lW (by kernel_rfl)) (by unfold Func.isWrapper;first|(rw[aG (by decide+kernel)];kernel_rfl)|(rw[ax (by decide+kernel)];exact⟨rfl,rfl⟩))
  (fun os started H enc _=>lifted os started H enc)
end slowly
open Go
theorem slowly_card:Rows.SlowlyCardSaid:=
 Claim7.holds_tied_plain_at .later [] [.data,.handle,.sentinel,.sentinel,.sentinel,.data,.data] true (true,"2e3f9270758ae21e698f49797578a958a6831d537dbc3c8810530139e0af1668") true
  slowly.WG (fun _ h=>by cases h) (by kernel_rfl) (fun _ h=>by cases h) slowly_row_tie rfl ⟨rfl,rfl⟩ (by kernel_rfl) rfl
  (fun f fn d b=>by
    obtain rfl:f=9:=eu ((show prog.funcNamed "vellum/vellumkeep.Slowly" =some 9 by kernel_rfl).symm.trans d)|>.symm;obtain rfl:fn=f9:=(eu (func9.symm.trans b)).symm;exact⟨by kernel_rfl,fun j t c=>by
     rw[params9]at c;have hm:t∈[56,29,3]:=by simpa using Array.mem_of_getElem? c
     have a:([56,29,3].all fun u=> !prog.wantsStandIn u)=true:=by kernel_rfl
     exact(show prog.wantsStandIn t=false by simpa using List.all_eq_true.1 a t hm)⟩)
  (by kernel_rfl)
#print axioms slowly_card
end Go.Proofs.YtephkcdbnogdhaaGreatDoor
