/-
  NARROWER THAN 'FOR EVERY INPUT', by the rows' own cells (each row's printed sentence says how): Inflates: laid · Unwraps: laid · Decodes: laid · Fails: laid · Packed: laid · Drawn: laid · Slowly: laid · Early: laid · Idle: laid.
  DERIVED. THE GIVEN ROWS OF THIS SEAT. 9 by the template 'for every input the law returns true; each argument reads behind the call as it read before'; 0 by the template 'total and deterministic' (their statements: YtephkcdbnogdhaaGreatDoorTotals.lean).
  GIVEN WITH THE SEED: the statements are not yours to turn. If you find one false, say at which input.
  Laid BY PROGRAM, IN A SANDBOX (cutbox-rows.mjs): the forced cells as the released guide's own fill.sh prints them over the translation bff84b109cfb3042… (all of the seat's roots in one cut). By AI agents, Wed Nov 11 2026. No macro, syntax, notation, axiom, sorry.
-/
import Derived.Test.YtephkcdbnogdhaaGreatDoorChecked
import GoSem.Claim
import GoSem.ClaimJoined
import GoSem.ClaimMapViews
import Derived.JoinedTies
import Derived.KernelRfl
namespace Go.Proofs.YtephkcdbnogdhaaGreatDoor
/- THE CELL 'sum', in the pinned program and in every row, IS THE sha256 OF THE DUMP (.gsa) THAT YtephkcdbnogdhaaGreatDoorProg.lean LOADS. Nothing in Lean hashes anything: it is a label: what it is worth is what the hold of that sum in a sandbox is worth. -/
noncomputable def Tryz.pinned : Pinned := { name := "ytephkcdbnogdhaagreatdoor", sum := "bff84b109cfb304255d5b55273eb30cf9e22b5d617ed921f1dce6f088518bc25", checked := Tryz.checked }
namespace Rows
def none {H : Type} : Left H := { results := [], args := [] }

/- WHAT THE LISTED PACKAGE-LEVEL VARIABLES READ AS WHEN THE CALL BEGINS. Each datum BY PROGRAM (the guide's laid-datum.mjs) off the statement by which the dump's own 'gosem.cut.vars' lays the variable. In a bare row this is a premise. The card (YtephkcdbnogdhaaGreatDoorCards.lean) ties it to the program's text. -/
def laid_errors_errorType {H : Type} : DataW H := .iface "internal/reflectlite.rtype" (.agg [.ptr (.lit (.string [101, 114, 114, 111, 114]))])
def laid_vellum_fault_End {H : Type} : DataW H := .iface "*errors.errorString" (.ptr (.agg [.lit (.string [116, 104, 101, 32, 115, 111, 117, 114, 99, 101, 32, 105, 115, 32, 97, 116, 32, 105, 116, 115, 32, 101, 110, 100])]))
def laid_vellum_fault_Failed {H : Type} : DataW H := .iface "*errors.errorString" (.ptr (.agg [.lit (.string [116, 104, 101, 32, 115, 111, 117, 114, 99, 101, 32, 104, 97, 115, 32, 102, 97, 105, 108, 101, 100])]))
def laid_vellum_fault_TooLarge {H : Type} : DataW H := .iface "*errors.errorString" (.ptr (.agg [.lit (.string [109, 111, 114, 101, 32, 112, 105, 120, 101, 108, 115, 32, 116, 104, 97, 110, 32, 116, 104, 101, 114, 101, 32, 109, 97, 121, 32, 98, 101])]))
def laid_vellum_unpack_lengthOrder {H : Type} : DataW H := .agg [.lit (.int .u8 16), .lit (.int .u8 17), .lit (.int .u8 18), .lit (.int .u8 0), .lit (.int .u8 8), .lit (.int .u8 7), .lit (.int .u8 9), .lit (.int .u8 6), .lit (.int .u8 10), .lit (.int .u8 5), .lit (.int .u8 11), .lit (.int .u8 4), .lit (.int .u8 12), .lit (.int .u8 3), .lit (.int .u8 13), .lit (.int .u8 2), .lit (.int .u8 14), .lit (.int .u8 1), .lit (.int .u8 15)]
def laid_vellum_running_crcOfNibble {H : Type} : DataW H := .agg [.lit (.int .u32 0), .lit (.int .u32 498536548), .lit (.int .u32 997073096), .lit (.int .u32 651767980), .lit (.int .u32 1994146192), .lit (.int .u32 1802195444), .lit (.int .u32 1303535960), .lit (.int .u32 1342533948), .lit (.int .u32 3988292384), .lit (.int .u32 4027552580), .lit (.int .u32 3604390888), .lit (.int .u32 3412177804), .lit (.int .u32 2607071920), .lit (.int .u32 2262029012), .lit (.int .u32 2685067896), .lit (.int .u32 3183342108)]
def laid_vellum_rows_small {H : Type} : DataW H := .agg [.agg [.lit (.int .u8 0), .lit (.int .u8 8), .lit (.int .u8 0), .lit (.int .u8 8)], .agg [.lit (.int .u8 4), .lit (.int .u8 8), .lit (.int .u8 0), .lit (.int .u8 8)], .agg [.lit (.int .u8 0), .lit (.int .u8 4), .lit (.int .u8 4), .lit (.int .u8 8)], .agg [.lit (.int .u8 2), .lit (.int .u8 4), .lit (.int .u8 0), .lit (.int .u8 4)], .agg [.lit (.int .u8 0), .lit (.int .u8 2), .lit (.int .u8 2), .lit (.int .u8 4)], .agg [.lit (.int .u8 1), .lit (.int .u8 2), .lit (.int .u8 0), .lit (.int .u8 2)], .agg [.lit (.int .u8 0), .lit (.int .u8 1), .lit (.int .u8 1), .lit (.int .u8 2)]]

/-- 'vellumlaw.Inflates': WHATEVER THE INPUT: true; the input reads as it did. -/
def inflatesSpec : ChangeSpec := { name := "inflates", fn := fun _ => fun
  | [d1, d2, d3] => { results := [.lit (.bool true)], args := [d1, d2, d3] }
  | _ => none }
def inflatesRow : OpenClaim := { program := "ytephkcdbnogdhaagreatdoor", sum := "bff84b109cfb304255d5b55273eb30cf9e22b5d617ed921f1dce6f088518bc25", func := "vellum/vellumlaw.Inflates", spec := "inflates", inPlace := ["internal/abi.NoEscape", "internal/reflectlite.TypeOf", "internal/reflectlite.ValueOf", "(internal/reflectlite.Value).Type", "(internal/reflectlite.Value).IsNil", "(internal/reflectlite.Value).Elem", "(internal/reflectlite.Value).Set"], unfollowed := true, recurses := true, named := ["vellum/fault.End", "vellum/unpack.lengthOrder", "vellum/fault.Failed", "vellum/fault.TooLarge", "errors.errorType"], apart := false, laid := [("errors.errorType", laid_errors_errorType), ("vellum/fault.End", laid_vellum_fault_End), ("vellum/fault.Failed", laid_vellum_fault_Failed), ("vellum/fault.TooLarge", laid_vellum_fault_TooLarge), ("vellum/unpack.lengthOrder", laid_vellum_unpack_lengthOrder)] }
def InflatesSaid : Prop := inflatesRow.holds Tryz.pinned (OpenSpec.ofChange inflatesSpec)

/-- ITS FALSE NEIGHBOUR: 'it returns false'. Refute it at one input. -/
def inflatesWrong : ChangeSpec := { name := "inflates", fn := fun _ => fun
  | [d1, d2, d3] => { results := [.lit (.bool false)], args := [d1, d2, d3] }
  | _ => none }
def InflatesWrongFalsely : Prop := inflatesRow.holds Tryz.pinned (OpenSpec.ofChange inflatesWrong)

/-- 'vellumlaw.Unwraps': WHATEVER THE INPUT: true; the input reads as it did. -/
def unwrapsSpec : ChangeSpec := { name := "unwraps", fn := fun _ => fun
  | [d1, d2] => { results := [.lit (.bool true)], args := [d1, d2] }
  | _ => none }
def unwrapsRow : OpenClaim := { program := "ytephkcdbnogdhaagreatdoor", sum := "bff84b109cfb304255d5b55273eb30cf9e22b5d617ed921f1dce6f088518bc25", func := "vellum/vellumlaw.Unwraps", spec := "unwraps", inPlace := ["internal/abi.NoEscape", "internal/reflectlite.TypeOf", "internal/reflectlite.ValueOf", "(internal/reflectlite.Value).Type", "(internal/reflectlite.Value).IsNil", "(internal/reflectlite.Value).Elem", "(internal/reflectlite.Value).Set"], unfollowed := true, recurses := true, named := ["vellum/fault.End", "vellum/unpack.lengthOrder", "vellum/fault.Failed", "vellum/fault.TooLarge", "errors.errorType"], apart := false, laid := [("errors.errorType", laid_errors_errorType), ("vellum/fault.End", laid_vellum_fault_End), ("vellum/fault.Failed", laid_vellum_fault_Failed), ("vellum/fault.TooLarge", laid_vellum_fault_TooLarge), ("vellum/unpack.lengthOrder", laid_vellum_unpack_lengthOrder)] }
def UnwrapsSaid : Prop := unwrapsRow.holds Tryz.pinned (OpenSpec.ofChange unwrapsSpec)

/-- ITS FALSE NEIGHBOUR: 'it returns false'. Refute it at one input. -/
def unwrapsWrong : ChangeSpec := { name := "unwraps", fn := fun _ => fun
  | [d1, d2] => { results := [.lit (.bool false)], args := [d1, d2] }
  | _ => none }
def UnwrapsWrongFalsely : Prop := unwrapsRow.holds Tryz.pinned (OpenSpec.ofChange unwrapsWrong)

/-- 'vellumlaw.Decodes': WHATEVER THE INPUT: true; the input reads as it did. -/
def decodesSpec : ChangeSpec := { name := "decodes", fn := fun _ => fun
  | [d1, d2, d3, d4] => { results := [.lit (.bool true)], args := [d1, d2, d3, d4] }
  | _ => none }
def decodesRow : OpenClaim := { program := "ytephkcdbnogdhaagreatdoor", sum := "bff84b109cfb304255d5b55273eb30cf9e22b5d617ed921f1dce6f088518bc25", func := "vellum/vellumlaw.Decodes", spec := "decodes", inPlace := ["internal/reflectlite.TypeOf", "internal/reflectlite.ValueOf", "(internal/reflectlite.Value).Type", "(internal/reflectlite.Value).IsNil", "(internal/reflectlite.Value).Elem", "(internal/reflectlite.Value).Set"], unfollowed := true, recurses := true, named := ["vellum/fault.TooLarge", "vellum/fault.End", "vellum/running.crcOfNibble", "vellum/rows.small", "vellum/unpack.lengthOrder", "vellum/fault.Failed", "errors.errorType"], apart := false, laid := [("vellum/running.crcOfNibble", laid_vellum_running_crcOfNibble), ("errors.errorType", laid_errors_errorType), ("vellum/fault.End", laid_vellum_fault_End), ("vellum/fault.Failed", laid_vellum_fault_Failed), ("vellum/fault.TooLarge", laid_vellum_fault_TooLarge), ("vellum/rows.small", laid_vellum_rows_small), ("vellum/unpack.lengthOrder", laid_vellum_unpack_lengthOrder)] }
def DecodesSaid : Prop := decodesRow.holds Tryz.pinned (OpenSpec.ofChange decodesSpec)

/-- ITS FALSE NEIGHBOUR: 'it returns false'. Refute it at one input. -/
def decodesWrong : ChangeSpec := { name := "decodes", fn := fun _ => fun
  | [d1, d2, d3, d4] => { results := [.lit (.bool false)], args := [d1, d2, d3, d4] }
  | _ => none }
def DecodesWrongFalsely : Prop := decodesRow.holds Tryz.pinned (OpenSpec.ofChange decodesWrong)

/-- 'vellumlaw.Fails': WHATEVER THE INPUT: true; the input reads as it did. -/
def failsSpec : ChangeSpec := { name := "fails", fn := fun _ => fun
  | [d1, d2, d3] => { results := [.lit (.bool true)], args := [d1, d2, d3] }
  | _ => none }
def failsRow : OpenClaim := { program := "ytephkcdbnogdhaagreatdoor", sum := "bff84b109cfb304255d5b55273eb30cf9e22b5d617ed921f1dce6f088518bc25", func := "vellum/vellumlaw.Fails", spec := "fails", inPlace := ["internal/reflectlite.TypeOf", "internal/reflectlite.ValueOf", "(internal/reflectlite.Value).Type", "(internal/reflectlite.Value).IsNil", "(internal/reflectlite.Value).Elem", "(internal/reflectlite.Value).Set"], unfollowed := true, recurses := true, named := ["vellum/fault.TooLarge", "vellum/fault.End", "vellum/running.crcOfNibble", "vellum/rows.small", "vellum/unpack.lengthOrder", "vellum/fault.Failed", "errors.errorType"], apart := false, laid := [("vellum/running.crcOfNibble", laid_vellum_running_crcOfNibble), ("errors.errorType", laid_errors_errorType), ("vellum/fault.End", laid_vellum_fault_End), ("vellum/fault.Failed", laid_vellum_fault_Failed), ("vellum/fault.TooLarge", laid_vellum_fault_TooLarge), ("vellum/rows.small", laid_vellum_rows_small), ("vellum/unpack.lengthOrder", laid_vellum_unpack_lengthOrder)] }
def FailsSaid : Prop := failsRow.holds Tryz.pinned (OpenSpec.ofChange failsSpec)

/-- ITS FALSE NEIGHBOUR: 'it returns false'. Refute it at one input. -/
def failsWrong : ChangeSpec := { name := "fails", fn := fun _ => fun
  | [d1, d2, d3] => { results := [.lit (.bool false)], args := [d1, d2, d3] }
  | _ => none }
def FailsWrongFalsely : Prop := failsRow.holds Tryz.pinned (OpenSpec.ofChange failsWrong)

/-- 'vellumkeep.Packed': WHATEVER THE INPUT: true; the input reads as it did. -/
def packedSpec : ChangeSpec := { name := "packed", fn := fun _ => fun
  | [d1, d2] => { results := [.lit (.bool true)], args := [d1, d2] }
  | _ => none }
def packedRow : OpenClaim := { program := "ytephkcdbnogdhaagreatdoor", sum := "bff84b109cfb304255d5b55273eb30cf9e22b5d617ed921f1dce6f088518bc25", func := "vellum/vellumkeep.Packed", spec := "packed", inPlace := ["internal/abi.NoEscape", "internal/reflectlite.TypeOf", "internal/reflectlite.ValueOf", "(internal/reflectlite.Value).Type", "(internal/reflectlite.Value).IsNil", "(internal/reflectlite.Value).Elem", "(internal/reflectlite.Value).Set"], unfollowed := true, recurses := true, named := ["vellum/fault.End", "vellum/unpack.lengthOrder", "vellum/fault.Failed", "vellum/fault.TooLarge", "errors.errorType"], apart := false, laid := [("errors.errorType", laid_errors_errorType), ("vellum/fault.End", laid_vellum_fault_End), ("vellum/fault.Failed", laid_vellum_fault_Failed), ("vellum/fault.TooLarge", laid_vellum_fault_TooLarge), ("vellum/unpack.lengthOrder", laid_vellum_unpack_lengthOrder)] }
def PackedSaid : Prop := packedRow.holds Tryz.pinned (OpenSpec.ofChange packedSpec)

/-- ITS FALSE NEIGHBOUR: 'it returns false'. Refute it at one input. -/
def packedWrong : ChangeSpec := { name := "packed", fn := fun _ => fun
  | [d1, d2] => { results := [.lit (.bool false)], args := [d1, d2] }
  | _ => none }
def PackedWrongFalsely : Prop := packedRow.holds Tryz.pinned (OpenSpec.ofChange packedWrong)

/-- 'vellumkeep.Drawn': WHATEVER THE INPUT: true; the input reads as it did. -/
def drawnSpec : ChangeSpec := { name := "drawn", fn := fun _ => fun
  | [d] => { results := [.lit (.bool true)], args := [d] }
  | _ => none }
def drawnRow : OpenClaim := { program := "ytephkcdbnogdhaagreatdoor", sum := "bff84b109cfb304255d5b55273eb30cf9e22b5d617ed921f1dce6f088518bc25", func := "vellum/vellumkeep.Drawn", spec := "drawn", inPlace := ["internal/reflectlite.TypeOf", "internal/reflectlite.ValueOf", "(internal/reflectlite.Value).Type", "(internal/reflectlite.Value).IsNil", "(internal/reflectlite.Value).Elem", "(internal/reflectlite.Value).Set"], unfollowed := true, recurses := true, named := ["vellum/running.crcOfNibble", "vellum/fault.TooLarge", "vellum/fault.End", "vellum/rows.small", "vellum/unpack.lengthOrder", "vellum/fault.Failed", "errors.errorType"], apart := false, laid := [("vellum/running.crcOfNibble", laid_vellum_running_crcOfNibble), ("errors.errorType", laid_errors_errorType), ("vellum/fault.End", laid_vellum_fault_End), ("vellum/fault.Failed", laid_vellum_fault_Failed), ("vellum/fault.TooLarge", laid_vellum_fault_TooLarge), ("vellum/rows.small", laid_vellum_rows_small), ("vellum/unpack.lengthOrder", laid_vellum_unpack_lengthOrder)] }
def DrawnSaid : Prop := drawnRow.holds Tryz.pinned (OpenSpec.ofChange drawnSpec)

/-- ITS FALSE NEIGHBOUR: 'it returns false'. Refute it at one input. -/
def drawnWrong : ChangeSpec := { name := "drawn", fn := fun _ => fun
  | [d] => { results := [.lit (.bool false)], args := [d] }
  | _ => none }
def DrawnWrongFalsely : Prop := drawnRow.holds Tryz.pinned (OpenSpec.ofChange drawnWrong)

/-- 'vellumkeep.Slowly': WHATEVER THE INPUT: true; the input reads as it did. -/
def slowlySpec : ChangeSpec := { name := "slowly", fn := fun _ => fun
  | [d1, d2, d3] => { results := [.lit (.bool true)], args := [d1, d2, d3] }
  | _ => none }
def slowlyRow : OpenClaim := { program := "ytephkcdbnogdhaagreatdoor", sum := "bff84b109cfb304255d5b55273eb30cf9e22b5d617ed921f1dce6f088518bc25", func := "vellum/vellumkeep.Slowly", spec := "slowly", inPlace := ["internal/reflectlite.TypeOf", "internal/reflectlite.ValueOf", "(internal/reflectlite.Value).Type", "(internal/reflectlite.Value).IsNil", "(internal/reflectlite.Value).Elem", "(internal/reflectlite.Value).Set"], unfollowed := true, recurses := true, named := ["vellum/running.crcOfNibble", "vellum/fault.TooLarge", "vellum/fault.End", "vellum/rows.small", "vellum/unpack.lengthOrder", "vellum/fault.Failed", "errors.errorType"], apart := false, laid := [("vellum/running.crcOfNibble", laid_vellum_running_crcOfNibble), ("errors.errorType", laid_errors_errorType), ("vellum/fault.End", laid_vellum_fault_End), ("vellum/fault.Failed", laid_vellum_fault_Failed), ("vellum/fault.TooLarge", laid_vellum_fault_TooLarge), ("vellum/rows.small", laid_vellum_rows_small), ("vellum/unpack.lengthOrder", laid_vellum_unpack_lengthOrder)] }
def SlowlySaid : Prop := slowlyRow.holds Tryz.pinned (OpenSpec.ofChange slowlySpec)

/-- ITS FALSE NEIGHBOUR: 'it returns false'. Refute it at one input. -/
def slowlyWrong : ChangeSpec := { name := "slowly", fn := fun _ => fun
  | [d1, d2, d3] => { results := [.lit (.bool false)], args := [d1, d2, d3] }
  | _ => none }
def SlowlyWrongFalsely : Prop := slowlyRow.holds Tryz.pinned (OpenSpec.ofChange slowlyWrong)

/-- 'vellumkeep.Early': WHATEVER THE INPUT: true; the input reads as it did. -/
def earlySpec : ChangeSpec := { name := "early", fn := fun _ => fun
  | [d1, d2] => { results := [.lit (.bool true)], args := [d1, d2] }
  | _ => none }
def earlyRow : OpenClaim := { program := "ytephkcdbnogdhaagreatdoor", sum := "bff84b109cfb304255d5b55273eb30cf9e22b5d617ed921f1dce6f088518bc25", func := "vellum/vellumkeep.Early", spec := "early", inPlace := ["internal/reflectlite.TypeOf", "internal/reflectlite.ValueOf", "(internal/reflectlite.Value).Type", "(internal/reflectlite.Value).IsNil", "(internal/reflectlite.Value).Elem", "(internal/reflectlite.Value).Set"], unfollowed := true, recurses := true, named := ["vellum/running.crcOfNibble", "vellum/fault.TooLarge", "vellum/fault.End", "vellum/rows.small", "vellum/unpack.lengthOrder", "vellum/fault.Failed", "errors.errorType"], apart := false, laid := [("vellum/running.crcOfNibble", laid_vellum_running_crcOfNibble), ("errors.errorType", laid_errors_errorType), ("vellum/fault.End", laid_vellum_fault_End), ("vellum/fault.Failed", laid_vellum_fault_Failed), ("vellum/fault.TooLarge", laid_vellum_fault_TooLarge), ("vellum/rows.small", laid_vellum_rows_small), ("vellum/unpack.lengthOrder", laid_vellum_unpack_lengthOrder)] }
def EarlySaid : Prop := earlyRow.holds Tryz.pinned (OpenSpec.ofChange earlySpec)

/-- ITS FALSE NEIGHBOUR: 'it returns false'. Refute it at one input. -/
def earlyWrong : ChangeSpec := { name := "early", fn := fun _ => fun
  | [d1, d2] => { results := [.lit (.bool false)], args := [d1, d2] }
  | _ => none }
def EarlyWrongFalsely : Prop := earlyRow.holds Tryz.pinned (OpenSpec.ofChange earlyWrong)

/-- 'vellumkeep.Idle': WHATEVER THE INPUT: true; the input reads as it did. -/
def idleSpec : ChangeSpec := { name := "idle", fn := fun _ => fun
  | [d1, d2, d3, d4] => { results := [.lit (.bool true)], args := [d1, d2, d3, d4] }
  | _ => none }
def idleRow : OpenClaim := { program := "ytephkcdbnogdhaagreatdoor", sum := "bff84b109cfb304255d5b55273eb30cf9e22b5d617ed921f1dce6f088518bc25", func := "vellum/vellumkeep.Idle", spec := "idle", inPlace := ["internal/reflectlite.TypeOf", "internal/reflectlite.ValueOf", "(internal/reflectlite.Value).Type", "(internal/reflectlite.Value).IsNil", "(internal/reflectlite.Value).Elem", "(internal/reflectlite.Value).Set"], unfollowed := true, recurses := true, named := ["vellum/running.crcOfNibble", "vellum/fault.TooLarge", "vellum/fault.End", "vellum/rows.small", "vellum/unpack.lengthOrder", "vellum/fault.Failed", "errors.errorType"], apart := false, laid := [("vellum/running.crcOfNibble", laid_vellum_running_crcOfNibble), ("errors.errorType", laid_errors_errorType), ("vellum/fault.End", laid_vellum_fault_End), ("vellum/fault.Failed", laid_vellum_fault_Failed), ("vellum/fault.TooLarge", laid_vellum_fault_TooLarge), ("vellum/rows.small", laid_vellum_rows_small), ("vellum/unpack.lengthOrder", laid_vellum_unpack_lengthOrder)] }
def IdleSaid : Prop := idleRow.holds Tryz.pinned (OpenSpec.ofChange idleSpec)

/-- ITS FALSE NEIGHBOUR: 'it returns false'. Refute it at one input. -/
def idleWrong : ChangeSpec := { name := "idle", fn := fun _ => fun
  | [d1, d2, d3, d4] => { results := [.lit (.bool false)], args := [d1, d2, d3, d4] }
  | _ => none }
def IdleWrongFalsely : Prop := idleRow.holds Tryz.pinned (OpenSpec.ofChange idleWrong)

/- THE SECOND FORM. 'bulk': how many values and letters a reading holds, each counted each time it is reached (what is shared counts as often as it is met; a slice's spare places count too). A statement '..UptoSaid' is the law's where the arguments, and the package variables that the reading takes, are together of bulk at most 1048576: NARROWER than '..Said'. Prove '..Said' where nothing that the law and all that it calls make is longer than what came in: it says more and counts as full. Else prove '..UptoSaid'. A law counts once. -/
mutual
def uptoBulk {H : Type} : DataW H → Nat
  | .lit (.string bytes) => bytes.length + 1
  | .lit _ => 1
  | .nil => 1
  | .ptr d => uptoBulk d + 1
  | .slice elems spare => uptoBulkAll elems + uptoBulkAll spare + 1
  | .agg parts => uptoBulkAll parts + 1
  | .iface _ d => uptoBulk d + 1
  | .map entries => uptoBulkEntries entries + 1
  | .held _ => 1
def uptoBulkAll {H : Type} : List (DataW H) → Nat
  | [] => 0
  | d :: r => uptoBulk d + uptoBulkAll r
def uptoBulkEntries {H : Type} : List (Lit × DataW H) → Nat
  | [] => 0
  | x :: r => uptoBulkEntry x + uptoBulkEntries r
def uptoBulkEntry {H : Type} : Lit × DataW H → Nat
  | (.string bytes, d) => bytes.length + uptoBulk d + 1
  | (_, d) => uptoBulk d + 1
 end
def uptoSmall : (H : Type) → List (DataW H) → Bool := fun _ ds => decide (uptoBulkAll ds ≤ 1048576)
def OpenSpec.upto (s : _root_.Go.ChangeSpec) : _root_.Go.OpenSpec := { _root_.Go.OpenSpec.ofChange s with cond := some uptoSmall }

/-- 'vellumlaw.Inflates', WHERE WHAT IT READS IS OF BULK AT MOST 1048576: true; the input reads as it did. -/
def inflatesUptoRow : OpenClaim := { program := "ytephkcdbnogdhaagreatdoor", sum := "bff84b109cfb304255d5b55273eb30cf9e22b5d617ed921f1dce6f088518bc25", func := "vellum/vellumlaw.Inflates", spec := "inflates", inPlace := ["internal/abi.NoEscape", "internal/reflectlite.TypeOf", "internal/reflectlite.ValueOf", "(internal/reflectlite.Value).Type", "(internal/reflectlite.Value).IsNil", "(internal/reflectlite.Value).Elem", "(internal/reflectlite.Value).Set"], unfollowed := true, recurses := true, named := ["vellum/fault.End", "vellum/unpack.lengthOrder", "vellum/fault.Failed", "vellum/fault.TooLarge", "errors.errorType"], apart := false, laid := [("errors.errorType", laid_errors_errorType), ("vellum/fault.End", laid_vellum_fault_End), ("vellum/fault.Failed", laid_vellum_fault_Failed), ("vellum/fault.TooLarge", laid_vellum_fault_TooLarge), ("vellum/unpack.lengthOrder", laid_vellum_unpack_lengthOrder)], narrowed := true }
def InflatesUptoSaid : Prop := inflatesUptoRow.holds Tryz.pinned (OpenSpec.upto inflatesSpec)

/-- 'vellumlaw.Unwraps', WHERE WHAT IT READS IS OF BULK AT MOST 1048576: true; the input reads as it did. -/
def unwrapsUptoRow : OpenClaim := { program := "ytephkcdbnogdhaagreatdoor", sum := "bff84b109cfb304255d5b55273eb30cf9e22b5d617ed921f1dce6f088518bc25", func := "vellum/vellumlaw.Unwraps", spec := "unwraps", inPlace := ["internal/abi.NoEscape", "internal/reflectlite.TypeOf", "internal/reflectlite.ValueOf", "(internal/reflectlite.Value).Type", "(internal/reflectlite.Value).IsNil", "(internal/reflectlite.Value).Elem", "(internal/reflectlite.Value).Set"], unfollowed := true, recurses := true, named := ["vellum/fault.End", "vellum/unpack.lengthOrder", "vellum/fault.Failed", "vellum/fault.TooLarge", "errors.errorType"], apart := false, laid := [("errors.errorType", laid_errors_errorType), ("vellum/fault.End", laid_vellum_fault_End), ("vellum/fault.Failed", laid_vellum_fault_Failed), ("vellum/fault.TooLarge", laid_vellum_fault_TooLarge), ("vellum/unpack.lengthOrder", laid_vellum_unpack_lengthOrder)], narrowed := true }
def UnwrapsUptoSaid : Prop := unwrapsUptoRow.holds Tryz.pinned (OpenSpec.upto unwrapsSpec)

/-- 'vellumlaw.Decodes', WHERE WHAT IT READS IS OF BULK AT MOST 1048576: true; the input reads as it did. -/
def decodesUptoRow : OpenClaim := { program := "ytephkcdbnogdhaagreatdoor", sum := "bff84b109cfb304255d5b55273eb30cf9e22b5d617ed921f1dce6f088518bc25", func := "vellum/vellumlaw.Decodes", spec := "decodes", inPlace := ["internal/reflectlite.TypeOf", "internal/reflectlite.ValueOf", "(internal/reflectlite.Value).Type", "(internal/reflectlite.Value).IsNil", "(internal/reflectlite.Value).Elem", "(internal/reflectlite.Value).Set"], unfollowed := true, recurses := true, named := ["vellum/fault.TooLarge", "vellum/fault.End", "vellum/running.crcOfNibble", "vellum/rows.small", "vellum/unpack.lengthOrder", "vellum/fault.Failed", "errors.errorType"], apart := false, laid := [("vellum/running.crcOfNibble", laid_vellum_running_crcOfNibble), ("errors.errorType", laid_errors_errorType), ("vellum/fault.End", laid_vellum_fault_End), ("vellum/fault.Failed", laid_vellum_fault_Failed), ("vellum/fault.TooLarge", laid_vellum_fault_TooLarge), ("vellum/rows.small", laid_vellum_rows_small), ("vellum/unpack.lengthOrder", laid_vellum_unpack_lengthOrder)], narrowed := true }
def DecodesUptoSaid : Prop := decodesUptoRow.holds Tryz.pinned (OpenSpec.upto decodesSpec)

/-- 'vellumlaw.Fails', WHERE WHAT IT READS IS OF BULK AT MOST 1048576: true; the input reads as it did. -/
def failsUptoRow : OpenClaim := { program := "ytephkcdbnogdhaagreatdoor", sum := "bff84b109cfb304255d5b55273eb30cf9e22b5d617ed921f1dce6f088518bc25", func := "vellum/vellumlaw.Fails", spec := "fails", inPlace := ["internal/reflectlite.TypeOf", "internal/reflectlite.ValueOf", "(internal/reflectlite.Value).Type", "(internal/reflectlite.Value).IsNil", "(internal/reflectlite.Value).Elem", "(internal/reflectlite.Value).Set"], unfollowed := true, recurses := true, named := ["vellum/fault.TooLarge", "vellum/fault.End", "vellum/running.crcOfNibble", "vellum/rows.small", "vellum/unpack.lengthOrder", "vellum/fault.Failed", "errors.errorType"], apart := false, laid := [("vellum/running.crcOfNibble", laid_vellum_running_crcOfNibble), ("errors.errorType", laid_errors_errorType), ("vellum/fault.End", laid_vellum_fault_End), ("vellum/fault.Failed", laid_vellum_fault_Failed), ("vellum/fault.TooLarge", laid_vellum_fault_TooLarge), ("vellum/rows.small", laid_vellum_rows_small), ("vellum/unpack.lengthOrder", laid_vellum_unpack_lengthOrder)], narrowed := true }
def FailsUptoSaid : Prop := failsUptoRow.holds Tryz.pinned (OpenSpec.upto failsSpec)

/-- 'vellumkeep.Packed', WHERE WHAT IT READS IS OF BULK AT MOST 1048576: true; the input reads as it did. -/
def packedUptoRow : OpenClaim := { program := "ytephkcdbnogdhaagreatdoor", sum := "bff84b109cfb304255d5b55273eb30cf9e22b5d617ed921f1dce6f088518bc25", func := "vellum/vellumkeep.Packed", spec := "packed", inPlace := ["internal/abi.NoEscape", "internal/reflectlite.TypeOf", "internal/reflectlite.ValueOf", "(internal/reflectlite.Value).Type", "(internal/reflectlite.Value).IsNil", "(internal/reflectlite.Value).Elem", "(internal/reflectlite.Value).Set"], unfollowed := true, recurses := true, named := ["vellum/fault.End", "vellum/unpack.lengthOrder", "vellum/fault.Failed", "vellum/fault.TooLarge", "errors.errorType"], apart := false, laid := [("errors.errorType", laid_errors_errorType), ("vellum/fault.End", laid_vellum_fault_End), ("vellum/fault.Failed", laid_vellum_fault_Failed), ("vellum/fault.TooLarge", laid_vellum_fault_TooLarge), ("vellum/unpack.lengthOrder", laid_vellum_unpack_lengthOrder)], narrowed := true }
def PackedUptoSaid : Prop := packedUptoRow.holds Tryz.pinned (OpenSpec.upto packedSpec)

/-- 'vellumkeep.Drawn', WHERE WHAT IT READS IS OF BULK AT MOST 1048576: true; the input reads as it did. -/
def drawnUptoRow : OpenClaim := { program := "ytephkcdbnogdhaagreatdoor", sum := "bff84b109cfb304255d5b55273eb30cf9e22b5d617ed921f1dce6f088518bc25", func := "vellum/vellumkeep.Drawn", spec := "drawn", inPlace := ["internal/reflectlite.TypeOf", "internal/reflectlite.ValueOf", "(internal/reflectlite.Value).Type", "(internal/reflectlite.Value).IsNil", "(internal/reflectlite.Value).Elem", "(internal/reflectlite.Value).Set"], unfollowed := true, recurses := true, named := ["vellum/running.crcOfNibble", "vellum/fault.TooLarge", "vellum/fault.End", "vellum/rows.small", "vellum/unpack.lengthOrder", "vellum/fault.Failed", "errors.errorType"], apart := false, laid := [("vellum/running.crcOfNibble", laid_vellum_running_crcOfNibble), ("errors.errorType", laid_errors_errorType), ("vellum/fault.End", laid_vellum_fault_End), ("vellum/fault.Failed", laid_vellum_fault_Failed), ("vellum/fault.TooLarge", laid_vellum_fault_TooLarge), ("vellum/rows.small", laid_vellum_rows_small), ("vellum/unpack.lengthOrder", laid_vellum_unpack_lengthOrder)], narrowed := true }
def DrawnUptoSaid : Prop := drawnUptoRow.holds Tryz.pinned (OpenSpec.upto drawnSpec)

/-- 'vellumkeep.Slowly', WHERE WHAT IT READS IS OF BULK AT MOST 1048576: true; the input reads as it did. -/
def slowlyUptoRow : OpenClaim := { program := "ytephkcdbnogdhaagreatdoor", sum := "bff84b109cfb304255d5b55273eb30cf9e22b5d617ed921f1dce6f088518bc25", func := "vellum/vellumkeep.Slowly", spec := "slowly", inPlace := ["internal/reflectlite.TypeOf", "internal/reflectlite.ValueOf", "(internal/reflectlite.Value).Type", "(internal/reflectlite.Value).IsNil", "(internal/reflectlite.Value).Elem", "(internal/reflectlite.Value).Set"], unfollowed := true, recurses := true, named := ["vellum/running.crcOfNibble", "vellum/fault.TooLarge", "vellum/fault.End", "vellum/rows.small", "vellum/unpack.lengthOrder", "vellum/fault.Failed", "errors.errorType"], apart := false, laid := [("vellum/running.crcOfNibble", laid_vellum_running_crcOfNibble), ("errors.errorType", laid_errors_errorType), ("vellum/fault.End", laid_vellum_fault_End), ("vellum/fault.Failed", laid_vellum_fault_Failed), ("vellum/fault.TooLarge", laid_vellum_fault_TooLarge), ("vellum/rows.small", laid_vellum_rows_small), ("vellum/unpack.lengthOrder", laid_vellum_unpack_lengthOrder)], narrowed := true }
def SlowlyUptoSaid : Prop := slowlyUptoRow.holds Tryz.pinned (OpenSpec.upto slowlySpec)

/-- 'vellumkeep.Early', WHERE WHAT IT READS IS OF BULK AT MOST 1048576: true; the input reads as it did. -/
def earlyUptoRow : OpenClaim := { program := "ytephkcdbnogdhaagreatdoor", sum := "bff84b109cfb304255d5b55273eb30cf9e22b5d617ed921f1dce6f088518bc25", func := "vellum/vellumkeep.Early", spec := "early", inPlace := ["internal/reflectlite.TypeOf", "internal/reflectlite.ValueOf", "(internal/reflectlite.Value).Type", "(internal/reflectlite.Value).IsNil", "(internal/reflectlite.Value).Elem", "(internal/reflectlite.Value).Set"], unfollowed := true, recurses := true, named := ["vellum/running.crcOfNibble", "vellum/fault.TooLarge", "vellum/fault.End", "vellum/rows.small", "vellum/unpack.lengthOrder", "vellum/fault.Failed", "errors.errorType"], apart := false, laid := [("vellum/running.crcOfNibble", laid_vellum_running_crcOfNibble), ("errors.errorType", laid_errors_errorType), ("vellum/fault.End", laid_vellum_fault_End), ("vellum/fault.Failed", laid_vellum_fault_Failed), ("vellum/fault.TooLarge", laid_vellum_fault_TooLarge), ("vellum/rows.small", laid_vellum_rows_small), ("vellum/unpack.lengthOrder", laid_vellum_unpack_lengthOrder)], narrowed := true }
def EarlyUptoSaid : Prop := earlyUptoRow.holds Tryz.pinned (OpenSpec.upto earlySpec)

/-- 'vellumkeep.Idle', WHERE WHAT IT READS IS OF BULK AT MOST 1048576: true; the input reads as it did. -/
def idleUptoRow : OpenClaim := { program := "ytephkcdbnogdhaagreatdoor", sum := "bff84b109cfb304255d5b55273eb30cf9e22b5d617ed921f1dce6f088518bc25", func := "vellum/vellumkeep.Idle", spec := "idle", inPlace := ["internal/reflectlite.TypeOf", "internal/reflectlite.ValueOf", "(internal/reflectlite.Value).Type", "(internal/reflectlite.Value).IsNil", "(internal/reflectlite.Value).Elem", "(internal/reflectlite.Value).Set"], unfollowed := true, recurses := true, named := ["vellum/running.crcOfNibble", "vellum/fault.TooLarge", "vellum/fault.End", "vellum/rows.small", "vellum/unpack.lengthOrder", "vellum/fault.Failed", "errors.errorType"], apart := false, laid := [("vellum/running.crcOfNibble", laid_vellum_running_crcOfNibble), ("errors.errorType", laid_errors_errorType), ("vellum/fault.End", laid_vellum_fault_End), ("vellum/fault.Failed", laid_vellum_fault_Failed), ("vellum/fault.TooLarge", laid_vellum_fault_TooLarge), ("vellum/rows.small", laid_vellum_rows_small), ("vellum/unpack.lengthOrder", laid_vellum_unpack_lengthOrder)], narrowed := true }
def IdleUptoSaid : Prop := idleUptoRow.holds Tryz.pinned (OpenSpec.upto idleSpec)

end Rows
end Go.Proofs.YtephkcdbnogdhaaGreatDoor
