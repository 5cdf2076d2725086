/-
  NARROWER THAN 'FOR EVERY INPUT', by the rows' own cells (each row's printed sentence says how): Spoilt: laid.
  DERIVED. THE GIVEN ROWS OF THIS SEAT. 1 by the template 'for every input the law returns true; each argument reads behind the call as it read before'; 0 by the template 'total and deterministic' (their statements: YtephkcdbnogdhabGreatDoorTotals.lean).
  GIVEN WITH THE SEED: the statements are not yours to turn. If you find one false, say at which input.
  Laid BY PROGRAM, IN A SANDBOX (cutbox-rows.mjs): the forced cells as the released guide's own fill.sh prints them over the translation 948b8aba7d5337cc… (all of the seat's roots in one cut). By AI agents, Wed Nov 11 2026. No macro, syntax, notation, axiom, sorry.
-/
import Derived.Test.YtephkcdbnogdhabGreatDoorChecked
import GoSem.Claim
import GoSem.ClaimJoined
import GoSem.ClaimMapViews
import Derived.JoinedTies
import Derived.KernelRfl
namespace Go.Proofs.YtephkcdbnogdhabGreatDoor
/- THE CELL 'sum', in the pinned program and in every row, IS THE sha256 OF THE DUMP (.gsa) THAT YtephkcdbnogdhabGreatDoorProg.lean LOADS. Nothing in Lean hashes anything: it is a label: what it is worth is what the hold of that sum in a sandbox is worth. -/
noncomputable def Tryz.pinned : Pinned := { name := "ytephkcdbnogdhabgreatdoor", sum := "948b8aba7d5337cc18fa833c9c51c6c338936bc41cb033bccfa11b3ded5a88cc", checked := Tryz.checked }
namespace Rows
def none {H : Type} : Left H := { results := [], args := [] }

/- WHAT THE LISTED PACKAGE-LEVEL VARIABLES READ AS WHEN THE CALL BEGINS. Each datum BY PROGRAM (the guide's laid-datum.mjs) off the statement by which the dump's own 'gosem.cut.vars' lays the variable. In a bare row this is a premise. The card (YtephkcdbnogdhabGreatDoorCards.lean) ties it to the program's text. -/
def laid_vellum_running_crcOfNibble {H : Type} : DataW H := .agg [.lit (.int .u32 0), .lit (.int .u32 498536548), .lit (.int .u32 997073096), .lit (.int .u32 651767980), .lit (.int .u32 1994146192), .lit (.int .u32 1802195444), .lit (.int .u32 1303535960), .lit (.int .u32 1342533948), .lit (.int .u32 3988292384), .lit (.int .u32 4027552580), .lit (.int .u32 3604390888), .lit (.int .u32 3412177804), .lit (.int .u32 2607071920), .lit (.int .u32 2262029012), .lit (.int .u32 2685067896), .lit (.int .u32 3183342108)]
def laid_errors_errorType {H : Type} : DataW H := .iface "internal/reflectlite.rtype" (.agg [.ptr (.lit (.string [101, 114, 114, 111, 114]))])
def laid_vellum_fault_End {H : Type} : DataW H := .iface "*errors.errorString" (.ptr (.agg [.lit (.string [116, 104, 101, 32, 115, 111, 117, 114, 99, 101, 32, 105, 115, 32, 97, 116, 32, 105, 116, 115, 32, 101, 110, 100])]))
def laid_vellum_fault_Failed {H : Type} : DataW H := .iface "*errors.errorString" (.ptr (.agg [.lit (.string [116, 104, 101, 32, 115, 111, 117, 114, 99, 101, 32, 104, 97, 115, 32, 102, 97, 105, 108, 101, 100])]))
def laid_vellum_fault_TooLarge {H : Type} : DataW H := .iface "*errors.errorString" (.ptr (.agg [.lit (.string [109, 111, 114, 101, 32, 112, 105, 120, 101, 108, 115, 32, 116, 104, 97, 110, 32, 116, 104, 101, 114, 101, 32, 109, 97, 121, 32, 98, 101])]))
def laid_vellum_rows_small {H : Type} : DataW H := .agg [.agg [.lit (.int .u8 0), .lit (.int .u8 8), .lit (.int .u8 0), .lit (.int .u8 8)], .agg [.lit (.int .u8 4), .lit (.int .u8 8), .lit (.int .u8 0), .lit (.int .u8 8)], .agg [.lit (.int .u8 0), .lit (.int .u8 4), .lit (.int .u8 4), .lit (.int .u8 8)], .agg [.lit (.int .u8 2), .lit (.int .u8 4), .lit (.int .u8 0), .lit (.int .u8 4)], .agg [.lit (.int .u8 0), .lit (.int .u8 2), .lit (.int .u8 2), .lit (.int .u8 4)], .agg [.lit (.int .u8 1), .lit (.int .u8 2), .lit (.int .u8 0), .lit (.int .u8 2)], .agg [.lit (.int .u8 0), .lit (.int .u8 1), .lit (.int .u8 1), .lit (.int .u8 2)]]
def laid_vellum_unpack_lengthOrder {H : Type} : DataW H := .agg [.lit (.int .u8 16), .lit (.int .u8 17), .lit (.int .u8 18), .lit (.int .u8 0), .lit (.int .u8 8), .lit (.int .u8 7), .lit (.int .u8 9), .lit (.int .u8 6), .lit (.int .u8 10), .lit (.int .u8 5), .lit (.int .u8 11), .lit (.int .u8 4), .lit (.int .u8 12), .lit (.int .u8 3), .lit (.int .u8 13), .lit (.int .u8 2), .lit (.int .u8 14), .lit (.int .u8 1), .lit (.int .u8 15)]

/-- 'vellumkeep.Spoilt': WHATEVER THE INPUT: true; the input reads as it did. -/
def spoiltSpec : ChangeSpec := { name := "spoilt", fn := fun _ => fun
  | [d1, d2, d3, d4] => { results := [.lit (.bool true)], args := [d1, d2, d3, d4] }
  | _ => none }
def spoiltRow : OpenClaim := { program := "ytephkcdbnogdhabgreatdoor", sum := "948b8aba7d5337cc18fa833c9c51c6c338936bc41cb033bccfa11b3ded5a88cc", func := "vellum/vellumkeep.Spoilt", spec := "spoilt", inPlace := ["internal/reflectlite.TypeOf", "internal/reflectlite.ValueOf", "(internal/reflectlite.Value).Type", "(internal/reflectlite.Value).IsNil", "(internal/reflectlite.Value).Elem", "(internal/reflectlite.Value).Set"], unfollowed := true, recurses := true, named := ["vellum/running.crcOfNibble", "vellum/fault.TooLarge", "vellum/fault.End", "vellum/rows.small", "vellum/unpack.lengthOrder", "vellum/fault.Failed", "errors.errorType"], apart := false, laid := [("vellum/running.crcOfNibble", laid_vellum_running_crcOfNibble), ("errors.errorType", laid_errors_errorType), ("vellum/fault.End", laid_vellum_fault_End), ("vellum/fault.Failed", laid_vellum_fault_Failed), ("vellum/fault.TooLarge", laid_vellum_fault_TooLarge), ("vellum/rows.small", laid_vellum_rows_small), ("vellum/unpack.lengthOrder", laid_vellum_unpack_lengthOrder)] }
def SpoiltSaid : Prop := spoiltRow.holds Tryz.pinned (OpenSpec.ofChange spoiltSpec)

/-- ITS FALSE NEIGHBOUR: 'it returns false'. Refute it at one input. -/
def spoiltWrong : ChangeSpec := { name := "spoilt", fn := fun _ => fun
  | [d1, d2, d3, d4] => { results := [.lit (.bool false)], args := [d1, d2, d3, d4] }
  | _ => none }
def SpoiltWrongFalsely : Prop := spoiltRow.holds Tryz.pinned (OpenSpec.ofChange spoiltWrong)

/- THE SECOND FORM. 'bulk': how many values and letters a reading holds, each counted each time it is reached (what is shared counts as often as it is met; a slice's spare places count too). A statement '..UptoSaid' is the law's where the arguments, and the package variables that the reading takes, are together of bulk at most 1048576: NARROWER than '..Said'. Prove '..Said' where nothing that the law and all that it calls make is longer than what came in: it says more and counts as full. Else prove '..UptoSaid'. A law counts once. -/
mutual
def uptoBulk {H : Type} : DataW H → Nat
  | .lit (.string bytes) => bytes.length + 1
  | .lit _ => 1
  | .nil => 1
  | .ptr d => uptoBulk d + 1
  | .slice elems spare => uptoBulkAll elems + uptoBulkAll spare + 1
  | .agg parts => uptoBulkAll parts + 1
  | .iface _ d => uptoBulk d + 1
  | .map entries => uptoBulkEntries entries + 1
  | .held _ => 1
def uptoBulkAll {H : Type} : List (DataW H) → Nat
  | [] => 0
  | d :: r => uptoBulk d + uptoBulkAll r
def uptoBulkEntries {H : Type} : List (Lit × DataW H) → Nat
  | [] => 0
  | x :: r => uptoBulkEntry x + uptoBulkEntries r
def uptoBulkEntry {H : Type} : Lit × DataW H → Nat
  | (.string bytes, d) => bytes.length + uptoBulk d + 1
  | (_, d) => uptoBulk d + 1
 end
def uptoSmall : (H : Type) → List (DataW H) → Bool := fun _ ds => decide (uptoBulkAll ds ≤ 1048576)
def OpenSpec.upto (s : _root_.Go.ChangeSpec) : _root_.Go.OpenSpec := { _root_.Go.OpenSpec.ofChange s with cond := some uptoSmall }

/-- 'vellumkeep.Spoilt', WHERE WHAT IT READS IS OF BULK AT MOST 1048576: true; the input reads as it did. -/
def spoiltUptoRow : OpenClaim := { program := "ytephkcdbnogdhabgreatdoor", sum := "948b8aba7d5337cc18fa833c9c51c6c338936bc41cb033bccfa11b3ded5a88cc", func := "vellum/vellumkeep.Spoilt", spec := "spoilt", inPlace := ["internal/reflectlite.TypeOf", "internal/reflectlite.ValueOf", "(internal/reflectlite.Value).Type", "(internal/reflectlite.Value).IsNil", "(internal/reflectlite.Value).Elem", "(internal/reflectlite.Value).Set"], unfollowed := true, recurses := true, named := ["vellum/running.crcOfNibble", "vellum/fault.TooLarge", "vellum/fault.End", "vellum/rows.small", "vellum/unpack.lengthOrder", "vellum/fault.Failed", "errors.errorType"], apart := false, laid := [("vellum/running.crcOfNibble", laid_vellum_running_crcOfNibble), ("errors.errorType", laid_errors_errorType), ("vellum/fault.End", laid_vellum_fault_End), ("vellum/fault.Failed", laid_vellum_fault_Failed), ("vellum/fault.TooLarge", laid_vellum_fault_TooLarge), ("vellum/rows.small", laid_vellum_rows_small), ("vellum/unpack.lengthOrder", laid_vellum_unpack_lengthOrder)], narrowed := true }
def SpoiltUptoSaid : Prop := spoiltUptoRow.holds Tryz.pinned (OpenSpec.upto spoiltSpec)

end Rows
end Go.Proofs.YtephkcdbnogdhabGreatDoor
