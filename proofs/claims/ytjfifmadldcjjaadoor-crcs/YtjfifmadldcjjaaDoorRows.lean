/-
  NARROWER THAN 'FOR EVERY INPUT', by the rows' own cells (each row's printed sentence says how): Crcs: laid · Sums: laid · Packed: laid.
  DERIVED. THE GIVEN ROWS OF THIS SEAT. 3 by the template 'for every input the law returns true; each argument reads behind the call as it read before'; 0 by the template 'total and deterministic' (their statements: YtjfifmadldcjjaaDoorTotals.lean).
  GIVEN WITH THE SEED: the statements are not yours to turn. If you find one false, say at which input.
  Laid BY PROGRAM, IN A SANDBOX (cutbox-rows.mjs): the forced cells as the released guide's own fill.sh prints them over the translation 6668d20f1ffcc26c… (all of the seat's roots in one cut). By AI agents, Wed Nov 11 2026. No macro, syntax, notation, axiom, sorry.
-/
import Derived.Test.YtjfifmadldcjjaaDoorChecked
import GoSem.Claim
import GoSem.ClaimJoined
import GoSem.ClaimMapViews
import Derived.JoinedTies
import Derived.KernelRfl
namespace Go.Proofs.YtjfifmadldcjjaaDoor
/- THE CELL 'sum', in the pinned program and in every row, IS THE sha256 OF THE DUMP (.gsa) THAT YtjfifmadldcjjaaDoorProg.lean LOADS. Nothing in Lean hashes anything: it is a label: what it is worth is what the hold of that sum in a sandbox is worth. -/
noncomputable def Tryd.pinned : Pinned := { name := "ytjfifmadldcjjaadoor", sum := "6668d20f1ffcc26c5f0f047f16a850178ce7c6bf38a1138e5e4aff93e8490f7a", checked := Tryd.checked }
namespace Rows
def none {H : Type} : Left H := { results := [], args := [] }

/- WHAT THE LISTED PACKAGE-LEVEL VARIABLES READ AS WHEN THE CALL BEGINS. Each datum BY PROGRAM (the guide's laid-datum.mjs) off the statement by which the dump's own 'gosem.cut.vars' lays the variable. In a bare row this is a premise. The card (YtjfifmadldcjjaaDoorCards.lean) ties it to the program's text. -/
def laid_vellum_sum_crcOfNibble {H : Type} : DataW H := .agg [.lit (.int .u32 0), .lit (.int .u32 498536548), .lit (.int .u32 997073096), .lit (.int .u32 651767980), .lit (.int .u32 1994146192), .lit (.int .u32 1802195444), .lit (.int .u32 1303535960), .lit (.int .u32 1342533948), .lit (.int .u32 3988292384), .lit (.int .u32 4027552580), .lit (.int .u32 3604390888), .lit (.int .u32 3412177804), .lit (.int .u32 2607071920), .lit (.int .u32 2262029012), .lit (.int .u32 2685067896), .lit (.int .u32 3183342108)]
def laid_errors_errorType {H : Type} : DataW H := .iface "internal/reflectlite.rtype" (.agg [.ptr (.lit (.string [101, 114, 114, 111, 114]))])
def laid_vellum_fault_End {H : Type} : DataW H := .iface "*errors.errorString" (.ptr (.agg [.lit (.string [116, 104, 101, 32, 115, 111, 117, 114, 99, 101, 32, 105, 115, 32, 97, 116, 32, 105, 116, 115, 32, 101, 110, 100])]))
def laid_vellum_unpack_lengthOrder {H : Type} : DataW H := .agg [.lit (.int .u8 16), .lit (.int .u8 17), .lit (.int .u8 18), .lit (.int .u8 0), .lit (.int .u8 8), .lit (.int .u8 7), .lit (.int .u8 9), .lit (.int .u8 6), .lit (.int .u8 10), .lit (.int .u8 5), .lit (.int .u8 11), .lit (.int .u8 4), .lit (.int .u8 12), .lit (.int .u8 3), .lit (.int .u8 13), .lit (.int .u8 2), .lit (.int .u8 14), .lit (.int .u8 1), .lit (.int .u8 15)]

/-- 'vellumlaw.Crcs': WHATEVER THE INPUT: true; the input reads as it did. -/
def crcsSpec : ChangeSpec := { name := "crcs", fn := fun _ => fun
  | [d] => { results := [.lit (.bool true)], args := [d] }
  | _ => none }
def crcsRow : OpenClaim := { program := "ytjfifmadldcjjaadoor", sum := "6668d20f1ffcc26c5f0f047f16a850178ce7c6bf38a1138e5e4aff93e8490f7a", func := "vellum/vellumlaw.Crcs", spec := "crcs", named := ["vellum/sum.crcOfNibble"], apart := false, laid := [("vellum/sum.crcOfNibble", laid_vellum_sum_crcOfNibble)] }
def CrcsSaid : Prop := crcsRow.holds Tryd.pinned (OpenSpec.ofChange crcsSpec)

/-- ITS FALSE NEIGHBOUR: 'it returns false'. Refute it at one input. -/
def crcsWrong : ChangeSpec := { name := "crcs", fn := fun _ => fun
  | [d] => { results := [.lit (.bool false)], args := [d] }
  | _ => none }
def CrcsWrongFalsely : Prop := crcsRow.holds Tryd.pinned (OpenSpec.ofChange crcsWrong)

/-- 'vellumkeep.Sums': WHATEVER THE INPUT: true; the input reads as it did. -/
def sumsSpec : ChangeSpec := { name := "sums", fn := fun _ => fun
  | [d1, d2, d3, d4] => { results := [.lit (.bool true)], args := [d1, d2, d3, d4] }
  | _ => none }
def sumsRow : OpenClaim := { program := "ytjfifmadldcjjaadoor", sum := "6668d20f1ffcc26c5f0f047f16a850178ce7c6bf38a1138e5e4aff93e8490f7a", func := "vellum/vellumkeep.Sums", spec := "sums", named := ["vellum/sum.crcOfNibble"], apart := false, laid := [("vellum/sum.crcOfNibble", laid_vellum_sum_crcOfNibble)] }
def SumsSaid : Prop := sumsRow.holds Tryd.pinned (OpenSpec.ofChange sumsSpec)

/-- ITS FALSE NEIGHBOUR: 'it returns false'. Refute it at one input. -/
def sumsWrong : ChangeSpec := { name := "sums", fn := fun _ => fun
  | [d1, d2, d3, d4] => { results := [.lit (.bool false)], args := [d1, d2, d3, d4] }
  | _ => none }
def SumsWrongFalsely : Prop := sumsRow.holds Tryd.pinned (OpenSpec.ofChange sumsWrong)

/-- 'vellumkeep.Packed': WHATEVER THE INPUT: true; the input reads as it did. -/
def packedSpec : ChangeSpec := { name := "packed", fn := fun _ => fun
  | [d1, d2] => { results := [.lit (.bool true)], args := [d1, d2] }
  | _ => none }
def packedRow : OpenClaim := { program := "ytjfifmadldcjjaadoor", sum := "6668d20f1ffcc26c5f0f047f16a850178ce7c6bf38a1138e5e4aff93e8490f7a", func := "vellum/vellumkeep.Packed", spec := "packed", inPlace := ["internal/abi.NoEscape", "internal/reflectlite.TypeOf", "internal/reflectlite.ValueOf", "(internal/reflectlite.Value).Type", "(internal/reflectlite.Value).IsNil", "(internal/reflectlite.Value).Elem", "(internal/reflectlite.Value).Set"], unfollowed := true, recurses := true, named := ["vellum/fault.End", "vellum/unpack.lengthOrder", "errors.errorType"], apart := false, laid := [("errors.errorType", laid_errors_errorType), ("vellum/fault.End", laid_vellum_fault_End), ("vellum/unpack.lengthOrder", laid_vellum_unpack_lengthOrder)] }
def PackedSaid : Prop := packedRow.holds Tryd.pinned (OpenSpec.ofChange packedSpec)

/-- ITS FALSE NEIGHBOUR: 'it returns false'. Refute it at one input. -/
def packedWrong : ChangeSpec := { name := "packed", fn := fun _ => fun
  | [d1, d2] => { results := [.lit (.bool false)], args := [d1, d2] }
  | _ => none }
def PackedWrongFalsely : Prop := packedRow.holds Tryd.pinned (OpenSpec.ofChange packedWrong)

/- THE SECOND FORM. 'bulk': how many values and letters a reading holds, each counted each time it is reached (what is shared counts as often as it is met; a slice's spare places count too). A statement '..UptoSaid' is the law's where the arguments, and the package variables that the reading takes, are together of bulk at most 1048576: NARROWER than '..Said'. Prove '..Said' where nothing that the law and all that it calls make is longer than what came in: it says more and counts as full. Else prove '..UptoSaid'. A law counts once. -/
mutual
def uptoBulk {H : Type} : DataW H → Nat
  | .lit (.string bytes) => bytes.length + 1
  | .lit _ => 1
  | .nil => 1
  | .ptr d => uptoBulk d + 1
  | .slice elems spare => uptoBulkAll elems + uptoBulkAll spare + 1
  | .agg parts => uptoBulkAll parts + 1
  | .iface _ d => uptoBulk d + 1
  | .map entries => uptoBulkEntries entries + 1
  | .held _ => 1
def uptoBulkAll {H : Type} : List (DataW H) → Nat
  | [] => 0
  | d :: r => uptoBulk d + uptoBulkAll r
def uptoBulkEntries {H : Type} : List (Lit × DataW H) → Nat
  | [] => 0
  | x :: r => uptoBulkEntry x + uptoBulkEntries r
def uptoBulkEntry {H : Type} : Lit × DataW H → Nat
  | (.string bytes, d) => bytes.length + uptoBulk d + 1
  | (_, d) => uptoBulk d + 1
 end
def uptoSmall : (H : Type) → List (DataW H) → Bool := fun _ ds => decide (uptoBulkAll ds ≤ 1048576)
def OpenSpec.upto (s : _root_.Go.ChangeSpec) : _root_.Go.OpenSpec := { _root_.Go.OpenSpec.ofChange s with cond := some uptoSmall }

/-- 'vellumlaw.Crcs', WHERE WHAT IT READS IS OF BULK AT MOST 1048576: true; the input reads as it did. -/
def crcsUptoRow : OpenClaim := { program := "ytjfifmadldcjjaadoor", sum := "6668d20f1ffcc26c5f0f047f16a850178ce7c6bf38a1138e5e4aff93e8490f7a", func := "vellum/vellumlaw.Crcs", spec := "crcs", named := ["vellum/sum.crcOfNibble"], apart := false, laid := [("vellum/sum.crcOfNibble", laid_vellum_sum_crcOfNibble)], narrowed := true }
def CrcsUptoSaid : Prop := crcsUptoRow.holds Tryd.pinned (OpenSpec.upto crcsSpec)

/-- 'vellumkeep.Sums', WHERE WHAT IT READS IS OF BULK AT MOST 1048576: true; the input reads as it did. -/
def sumsUptoRow : OpenClaim := { program := "ytjfifmadldcjjaadoor", sum := "6668d20f1ffcc26c5f0f047f16a850178ce7c6bf38a1138e5e4aff93e8490f7a", func := "vellum/vellumkeep.Sums", spec := "sums", named := ["vellum/sum.crcOfNibble"], apart := false, laid := [("vellum/sum.crcOfNibble", laid_vellum_sum_crcOfNibble)], narrowed := true }
def SumsUptoSaid : Prop := sumsUptoRow.holds Tryd.pinned (OpenSpec.upto sumsSpec)

/-- 'vellumkeep.Packed', WHERE WHAT IT READS IS OF BULK AT MOST 1048576: true; the input reads as it did. -/
def packedUptoRow : OpenClaim := { program := "ytjfifmadldcjjaadoor", sum := "6668d20f1ffcc26c5f0f047f16a850178ce7c6bf38a1138e5e4aff93e8490f7a", func := "vellum/vellumkeep.Packed", spec := "packed", inPlace := ["internal/abi.NoEscape", "internal/reflectlite.TypeOf", "internal/reflectlite.ValueOf", "(internal/reflectlite.Value).Type", "(internal/reflectlite.Value).IsNil", "(internal/reflectlite.Value).Elem", "(internal/reflectlite.Value).Set"], unfollowed := true, recurses := true, named := ["vellum/fault.End", "vellum/unpack.lengthOrder", "errors.errorType"], apart := false, laid := [("errors.errorType", laid_errors_errorType), ("vellum/fault.End", laid_vellum_fault_End), ("vellum/unpack.lengthOrder", laid_vellum_unpack_lengthOrder)], narrowed := true }
def PackedUptoSaid : Prop := packedUptoRow.holds Tryd.pinned (OpenSpec.upto packedSpec)

end Rows
end Go.Proofs.YtjfifmadldcjjaaDoor
