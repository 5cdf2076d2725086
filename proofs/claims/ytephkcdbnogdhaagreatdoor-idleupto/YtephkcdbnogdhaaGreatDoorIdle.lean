/- Proved: at every plan of a picture, every number, every row of numbers and every text that can be read and are together of bulk at most 1048576, vellumkeep.Idle returns true and leaves them as they were: the picture that was made is seen; with a chunk that says nothing, of any name and of these data, at any of its places, the same image is seen; where that chunk's first letter is Z, where its third letter is small, where a byte stands behind the end, and where it stands between two IDATs, the text is malformed. Its condition: the bulk (a chunk's data are at most 2147483647 bytes: beyond that the law is false, by size), and that the package-level variables running.crcOfNibble, errors.errorType, fault.End, fault.Failed, fault.TooLarge, rows.small and unpack.lengthOrder read as the program's own text lays them (the card ties them to that text; that nothing else writes them is the translator's report). -/
import Derived.Test.YtephkcdbnogdhaaGreatDoorCards
import Derived.Test.YtephkcdbnogdhaaGreatDoorTie
import Derived.Test.YtephkcdbnogdhaaGreatDoorId
set_option linter.unusedVariables false
set_option maxHeartbeats 40000000
set_option maxRecDepth 10000
namespace Go.Proofs.YtephkcdbnogdhaaGreatDoor
open Go.Proofs.Tryz
namespace idle
open Go.ChangeShapes Go.WideShapes Go.ChangeAt Go.RowKit
theorem agb:Rows.IdleUptoSaid:=
 OpenClaim.holds_of_cond 11 f11 rfl rfl rfl rfl rfl rfl rfl ⟨rfl,rfl,rfl,rfl,rfl⟩ rfl rfl rfl rfl rfl (by kernel_rfl) func11 (by kernel_rfl)
  (lW (by kernel_rfl)) (by unfold Func.isWrapper;first|(rw[aG (by decide+kernel)];kernel_rfl)|(rw[ax (by decide+kernel)];exact⟨rfl,rfl⟩))
  (fun os started H enc _ F=>by rw[OpenClaim.pre_eq_preRow];exact afU os started H enc F)
end idle
open Go
theorem idle_card:Rows.IdleUptoCardSaid:=
 Claim7.holds_tied_plain_at .later [] [.data,.handle,.sentinel,.sentinel,.sentinel,.data,.data] true (true,"2e3f9270758ae21e698f49797578a958a6831d537dbc3c8810530139e0af1668") true
  idle.agb (fun _ h=>by cases h) (by kernel_rfl) (fun _ h=>by cases h) idleUpto_row_tie rfl ⟨rfl,rfl⟩ (by kernel_rfl) rfl
  (fun f fn d b=>by
    obtain rfl:f=11:=eu ((show prog.funcNamed "vellum/vellumkeep.Idle" =some 11 by kernel_rfl).symm.trans d)|>.symm;obtain rfl:fn=f11:=(eu (func11.symm.trans b)).symm;exact⟨by kernel_rfl,fun j t c=>by
     rw[params11]at c;have hm:t∈[56,3,29,9]:=by simpa using Array.mem_of_getElem? c
     have a:([56,3,29,9].all fun u=> !prog.wantsStandIn u)=true:=by kernel_rfl
     exact(show prog.wantsStandIn t=false by simpa using List.all_eq_true.1 a t hm)⟩)
  (by kernel_rfl)
#print axioms idle_card
end Go.Proofs.YtephkcdbnogdhaaGreatDoor
