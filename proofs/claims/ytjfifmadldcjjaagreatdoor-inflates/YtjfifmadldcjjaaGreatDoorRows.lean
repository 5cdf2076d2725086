/-
  NARROWER THAN 'FOR EVERY INPUT', by the rows' own cells (each row's printed sentence says how): Inflates: laid · Unwraps: laid.
  DERIVED. THE GIVEN ROWS OF THIS SEAT. 2 by the template 'for every input the law returns true; each argument reads behind the call as it read before'; 0 by the template 'total and deterministic' (their statements: YtjfifmadldcjjaaGreatDoorTotals.lean).
  GIVEN WITH THE SEED: the statements are not yours to turn. If you find one false, say at which input.
  Laid BY PROGRAM, IN A SANDBOX (cutbox-rows.mjs): the forced cells as the released guide's own fill.sh prints them over the translation b79ed18a1c10dd57… (all of the seat's roots in one cut). By AI agents, Wed Nov 11 2026. No macro, syntax, notation, axiom, sorry.
-/
import Derived.Test.YtjfifmadldcjjaaGreatDoorChecked
import GoSem.Claim
import GoSem.ClaimJoined
import GoSem.ClaimMapViews
import Derived.JoinedTies
import Derived.KernelRfl
namespace Go.Proofs.YtjfifmadldcjjaaGreatDoor
/- THE CELL 'sum', in the pinned program and in every row, IS THE sha256 OF THE DUMP (.gsa) THAT YtjfifmadldcjjaaGreatDoorProg.lean LOADS. Nothing in Lean hashes anything: it is a label: what it is worth is what the hold of that sum in a sandbox is worth. -/
noncomputable def Tryz.pinned : Pinned := { name := "ytjfifmadldcjjaagreatdoor", sum := "b79ed18a1c10dd578493cf14ca544881f1052c3e8117ec69fc562854e3f4e1a1", checked := Tryz.checked }
namespace Rows
def none {H : Type} : Left H := { results := [], args := [] }

/- WHAT THE LISTED PACKAGE-LEVEL VARIABLES READ AS WHEN THE CALL BEGINS. Each datum BY PROGRAM (the guide's laid-datum.mjs) off the statement by which the dump's own 'gosem.cut.vars' lays the variable. In a bare row this is a premise. The card (YtjfifmadldcjjaaGreatDoorCards.lean) ties it to the program's text. -/
def laid_errors_errorType {H : Type} : DataW H := .iface "internal/reflectlite.rtype" (.agg [.ptr (.lit (.string [101, 114, 114, 111, 114]))])
def laid_vellum_fault_End {H : Type} : DataW H := .iface "*errors.errorString" (.ptr (.agg [.lit (.string [116, 104, 101, 32, 115, 111, 117, 114, 99, 101, 32, 105, 115, 32, 97, 116, 32, 105, 116, 115, 32, 101, 110, 100])]))
def laid_vellum_unpack_lengthOrder {H : Type} : DataW H := .agg [.lit (.int .u8 16), .lit (.int .u8 17), .lit (.int .u8 18), .lit (.int .u8 0), .lit (.int .u8 8), .lit (.int .u8 7), .lit (.int .u8 9), .lit (.int .u8 6), .lit (.int .u8 10), .lit (.int .u8 5), .lit (.int .u8 11), .lit (.int .u8 4), .lit (.int .u8 12), .lit (.int .u8 3), .lit (.int .u8 13), .lit (.int .u8 2), .lit (.int .u8 14), .lit (.int .u8 1), .lit (.int .u8 15)]

/-- 'vellumlaw.Inflates': WHATEVER THE INPUT: true; the input reads as it did. -/
def inflatesSpec : ChangeSpec := { name := "inflates", fn := fun _ => fun
  | [d1, d2, d3] => { results := [.lit (.bool true)], args := [d1, d2, d3] }
  | _ => none }
def inflatesRow : OpenClaim := { program := "ytjfifmadldcjjaagreatdoor", sum := "b79ed18a1c10dd578493cf14ca544881f1052c3e8117ec69fc562854e3f4e1a1", func := "vellum/vellumlaw.Inflates", spec := "inflates", inPlace := ["internal/abi.NoEscape", "internal/reflectlite.TypeOf", "internal/reflectlite.ValueOf", "(internal/reflectlite.Value).Type", "(internal/reflectlite.Value).IsNil", "(internal/reflectlite.Value).Elem", "(internal/reflectlite.Value).Set"], unfollowed := true, recurses := true, named := ["vellum/fault.End", "vellum/unpack.lengthOrder", "errors.errorType"], apart := false, laid := [("errors.errorType", laid_errors_errorType), ("vellum/fault.End", laid_vellum_fault_End), ("vellum/unpack.lengthOrder", laid_vellum_unpack_lengthOrder)] }
def InflatesSaid : Prop := inflatesRow.holds Tryz.pinned (OpenSpec.ofChange inflatesSpec)

/-- ITS FALSE NEIGHBOUR: 'it returns false'. Refute it at one input. -/
def inflatesWrong : ChangeSpec := { name := "inflates", fn := fun _ => fun
  | [d1, d2, d3] => { results := [.lit (.bool false)], args := [d1, d2, d3] }
  | _ => none }
def InflatesWrongFalsely : Prop := inflatesRow.holds Tryz.pinned (OpenSpec.ofChange inflatesWrong)

/-- 'vellumlaw.Unwraps': WHATEVER THE INPUT: true; the input reads as it did. -/
def unwrapsSpec : ChangeSpec := { name := "unwraps", fn := fun _ => fun
  | [d1, d2] => { results := [.lit (.bool true)], args := [d1, d2] }
  | _ => none }
def unwrapsRow : OpenClaim := { program := "ytjfifmadldcjjaagreatdoor", sum := "b79ed18a1c10dd578493cf14ca544881f1052c3e8117ec69fc562854e3f4e1a1", func := "vellum/vellumlaw.Unwraps", spec := "unwraps", inPlace := ["internal/abi.NoEscape", "internal/reflectlite.TypeOf", "internal/reflectlite.ValueOf", "(internal/reflectlite.Value).Type", "(internal/reflectlite.Value).IsNil", "(internal/reflectlite.Value).Elem", "(internal/reflectlite.Value).Set"], unfollowed := true, recurses := true, named := ["vellum/fault.End", "vellum/unpack.lengthOrder", "errors.errorType"], apart := false, laid := [("errors.errorType", laid_errors_errorType), ("vellum/fault.End", laid_vellum_fault_End), ("vellum/unpack.lengthOrder", laid_vellum_unpack_lengthOrder)] }
def UnwrapsSaid : Prop := unwrapsRow.holds Tryz.pinned (OpenSpec.ofChange unwrapsSpec)

/-- ITS FALSE NEIGHBOUR: 'it returns false'. Refute it at one input. -/
def unwrapsWrong : ChangeSpec := { name := "unwraps", fn := fun _ => fun
  | [d1, d2] => { results := [.lit (.bool false)], args := [d1, d2] }
  | _ => none }
def UnwrapsWrongFalsely : Prop := unwrapsRow.holds Tryz.pinned (OpenSpec.ofChange unwrapsWrong)

/- THE SECOND FORM. 'bulk': how many values and letters a reading holds, each counted each time it is reached (what is shared counts as often as it is met; a slice's spare places count too). A statement '..UptoSaid' is the law's where the arguments, and the package variables that the reading takes, are together of bulk at most 1048576: NARROWER than '..Said'. Prove '..Said' where nothing that the law and all that it calls make is longer than what came in: it says more and counts as full. Else prove '..UptoSaid'. A law counts once. -/
mutual
def uptoBulk {H : Type} : DataW H → Nat
  | .lit (.string bytes) => bytes.length + 1
  | .lit _ => 1
  | .nil => 1
  | .ptr d => uptoBulk d + 1
  | .slice elems spare => uptoBulkAll elems + uptoBulkAll spare + 1
  | .agg parts => uptoBulkAll parts + 1
  | .iface _ d => uptoBulk d + 1
  | .map entries => uptoBulkEntries entries + 1
  | .held _ => 1
def uptoBulkAll {H : Type} : List (DataW H) → Nat
  | [] => 0
  | d :: r => uptoBulk d + uptoBulkAll r
def uptoBulkEntries {H : Type} : List (Lit × DataW H) → Nat
  | [] => 0
  | x :: r => uptoBulkEntry x + uptoBulkEntries r
def uptoBulkEntry {H : Type} : Lit × DataW H → Nat
  | (.string bytes, d) => bytes.length + uptoBulk d + 1
  | (_, d) => uptoBulk d + 1
 end
def uptoSmall : (H : Type) → List (DataW H) → Bool := fun _ ds => decide (uptoBulkAll ds ≤ 1048576)
def OpenSpec.upto (s : _root_.Go.ChangeSpec) : _root_.Go.OpenSpec := { _root_.Go.OpenSpec.ofChange s with cond := some uptoSmall }

/-- 'vellumlaw.Inflates', WHERE WHAT IT READS IS OF BULK AT MOST 1048576: true; the input reads as it did. -/
def inflatesUptoRow : OpenClaim := { program := "ytjfifmadldcjjaagreatdoor", sum := "b79ed18a1c10dd578493cf14ca544881f1052c3e8117ec69fc562854e3f4e1a1", func := "vellum/vellumlaw.Inflates", spec := "inflates", inPlace := ["internal/abi.NoEscape", "internal/reflectlite.TypeOf", "internal/reflectlite.ValueOf", "(internal/reflectlite.Value).Type", "(internal/reflectlite.Value).IsNil", "(internal/reflectlite.Value).Elem", "(internal/reflectlite.Value).Set"], unfollowed := true, recurses := true, named := ["vellum/fault.End", "vellum/unpack.lengthOrder", "errors.errorType"], apart := false, laid := [("errors.errorType", laid_errors_errorType), ("vellum/fault.End", laid_vellum_fault_End), ("vellum/unpack.lengthOrder", laid_vellum_unpack_lengthOrder)], narrowed := true }
def InflatesUptoSaid : Prop := inflatesUptoRow.holds Tryz.pinned (OpenSpec.upto inflatesSpec)

/-- 'vellumlaw.Unwraps', WHERE WHAT IT READS IS OF BULK AT MOST 1048576: true; the input reads as it did. -/
def unwrapsUptoRow : OpenClaim := { program := "ytjfifmadldcjjaagreatdoor", sum := "b79ed18a1c10dd578493cf14ca544881f1052c3e8117ec69fc562854e3f4e1a1", func := "vellum/vellumlaw.Unwraps", spec := "unwraps", inPlace := ["internal/abi.NoEscape", "internal/reflectlite.TypeOf", "internal/reflectlite.ValueOf", "(internal/reflectlite.Value).Type", "(internal/reflectlite.Value).IsNil", "(internal/reflectlite.Value).Elem", "(internal/reflectlite.Value).Set"], unfollowed := true, recurses := true, named := ["vellum/fault.End", "vellum/unpack.lengthOrder", "errors.errorType"], apart := false, laid := [("errors.errorType", laid_errors_errorType), ("vellum/fault.End", laid_vellum_fault_End), ("vellum/unpack.lengthOrder", laid_vellum_unpack_lengthOrder)], narrowed := true }
def UnwrapsUptoSaid : Prop := unwrapsUptoRow.holds Tryz.pinned (OpenSpec.upto unwrapsSpec)

end Rows
end Go.Proofs.YtjfifmadldcjjaaGreatDoor
