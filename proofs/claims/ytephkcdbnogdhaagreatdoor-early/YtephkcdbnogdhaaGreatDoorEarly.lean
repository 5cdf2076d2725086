/- Proved: at every plan of a picture and every number that can be read, vellumkeep.Early returns true and leaves them as they were: the picture that was made is seen; with a limit of one pixel and a source that stops behind so many bytes, vellum.Decode says that the source failed, or, where 33 bytes came and there is more than one pixel, that it is too large, and gives no image; where the rows' sum is wrong in its last byte the text is malformed, and a source that stops ahead of that byte has failed. Its condition: the package-level variables running.crcOfNibble, errors.errorType, fault.End, fault.Failed, fault.TooLarge, rows.small and unpack.lengthOrder read as the program's own text lays them (the card ties them to that text; that nothing else writes them is the translator's report). -/
import Derived.Test.YtephkcdbnogdhaaGreatDoorCards
import Derived.Test.YtephkcdbnogdhaaGreatDoorTie
import Derived.Test.YtephkcdbnogdhaaGreatDoorEa
set_option linter.unusedVariables false
set_option maxHeartbeats 40000000
set_option maxRecDepth 10000
namespace Go.Proofs.YtephkcdbnogdhaaGreatDoor
open Go.Proofs.Tryz
namespace early
open Go.ChangeShapes Go.WideShapes Go.ChangeAt Go.RowKit
theorem WG:Rows.EarlySaid:=
 OpenClaim.holds_of_wide 10 f10 rfl rfl rfl rfl rfl rfl rfl ⟨rfl,rfl,rfl,rfl,rfl⟩ rfl rfl rfl rfl rfl (by kernel_rfl) func10 (by kernel_rfl)
  (lW (by kernel_rfl)) (by unfold Func.isWrapper;first|(rw[aG (by decide+kernel)];kernel_rfl)|(rw[ax (by decide+kernel)];exact⟨rfl,rfl⟩))
  (fun os started H enc _=>lifted os started H enc)
end early
open Go
theorem early_card:Rows.EarlyCardSaid:=
 Claim7.holds_tied_plain_at .later [] [.data,.handle,.sentinel,.sentinel,.sentinel,.data,.data] true (true,"2e3f9270758ae21e698f49797578a958a6831d537dbc3c8810530139e0af1668") true
  early.WG (fun _ h=>by cases h) (by kernel_rfl) (fun _ h=>by cases h) early_row_tie rfl ⟨rfl,rfl⟩ (by kernel_rfl) rfl
  (fun f fn d b=>by
    obtain rfl:f=10:=eu ((show prog.funcNamed "vellum/vellumkeep.Early" =some 10 by kernel_rfl).symm.trans d)|>.symm;obtain rfl:fn=f10:=(eu (func10.symm.trans b)).symm;exact⟨by kernel_rfl,fun j t c=>by
     rw[params10]at c;have hm:t∈[56,3]:=by simpa using Array.mem_of_getElem? c
     have a:([56,3].all fun u=> !prog.wantsStandIn u)=true:=by kernel_rfl
     exact(show prog.wantsStandIn t=false by simpa using List.all_eq_true.1 a t hm)⟩)
  (by kernel_rfl)
#print axioms early_card
end Go.Proofs.YtephkcdbnogdhaaGreatDoor
