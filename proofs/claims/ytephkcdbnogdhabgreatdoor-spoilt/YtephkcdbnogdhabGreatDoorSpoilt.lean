/- Proved: at every plan of a picture and every three numbers that can be read, vellumkeep.Spoilt returns true and leaves them as they were: the picture that was made is seen; where it ends spoilt, at any place, and where one byte of a type, of data or of a sum in any of its chunks is another one, the text is malformed. Its condition: the package-level variables running.crcOfNibble, errors.errorType, fault.End, fault.Failed, fault.TooLarge, rows.small and unpack.lengthOrder read as the program's own text lays them (the card ties them to that text; that nothing else writes them is the translator's report). -/
import Derived.Test.YtephkcdbnogdhabGreatDoorCards
import Derived.Test.YtephkcdbnogdhabGreatDoorTie
import Derived.Test.YtephkcdbnogdhabGreatDoorSp
set_option linter.unusedVariables false
set_option maxHeartbeats 40000000
set_option maxRecDepth 10000
namespace Go.Proofs.YtephkcdbnogdhabGreatDoor
open Go.Proofs.Tryz
namespace spoilt
open Go.ChangeShapes Go.WideShapes Go.ChangeAt Go.RowKit
theorem WG:Rows.SpoiltSaid:=
 OpenClaim.holds_of_wide 3 f3 rfl rfl rfl rfl rfl rfl rfl ⟨rfl,rfl,rfl,rfl,rfl⟩ rfl rfl rfl rfl rfl (by kernel_rfl) func3 (by kernel_rfl)
  (lW (by kernel_rfl)) (by unfold Func.isWrapper;first|(rw[aG (by decide+kernel)];kernel_rfl)|(rw[ax (by decide+kernel)];exact⟨rfl,rfl⟩))
  (fun os started H enc _=>lifted os started H enc)
end spoilt
open Go
theorem spoilt_card:Rows.SpoiltCardSaid:=
 Claim7.holds_tied_plain_at .later [] [.data,.handle,.sentinel,.sentinel,.sentinel,.data,.data] true (true,"f3336a1a6141631e349a3718422d9a0dc6245c0d18974353cca83ee87235d4d4") true
  spoilt.WG (fun _ h=>by cases h) (by kernel_rfl) (fun _ h=>by cases h) spoilt_row_tie rfl ⟨rfl,rfl⟩ (by kernel_rfl) rfl
  (fun f fn d b=>by
    obtain rfl:f=3:=eu ((show prog.funcNamed "vellum/vellumkeep.Spoilt" =some 3 by kernel_rfl).symm.trans d)|>.symm;obtain rfl:fn=f3:=(eu (func3.symm.trans b)).symm;exact⟨by kernel_rfl,fun j t c=>by
     rw[params3]at c;have hm:t∈[24,3,3,3]:=by simpa using Array.mem_of_getElem? c
     have a:([24,3,3,3].all fun u=> !prog.wantsStandIn u)=true:=by kernel_rfl
     exact(show prog.wantsStandIn t=false by simpa using List.all_eq_true.1 a t hm)⟩)
  (by kernel_rfl)
#print axioms spoilt_card
end Go.Proofs.YtephkcdbnogdhabGreatDoor
