/- What errors.Is and errors.As answer at the program's own errors: fault.End itself; a *Malformed beneath any number of *Place. -/
import Derived.Test.YtjfifmadldcjjaaGreatDoorRows
import Derived.WalkKit
import Derived.LaidEql
import Derived.Stop.Asserts
import Derived.RowKitTokens
namespace Go.Proofs.YtjfifmadldcjjaaGreatDoor.Er
open Go.RowKit Go.Extern.Stop Go.Stop Go.Extern
/-- what the model has for a function without a body -/
noncomputable def ext (fn : Func) : Array Value → Sem Value := (Extern.find fn).getD (fun _ => pure (.tuple #[]))
theorem ext_run {f : FuncId} {fn : Func} (hf : Tryz.prog.funcs[f]? = some fn) (h1 : (fn.name == "runtime.NumGoroutine") = false) (h2 : fn.body.isNone = true) (h3 : Extern.findNext fn = none) (h4 : (Extern.find fn).isSome = true) (args : Array Value) (w : World) :
    (callFunc f args).run Tryz.prog w = ((ext fn args).run Tryz.prog w).andThen fun v w' => .ok (.value v) w' := by
  refine run_callFunc_extern hf h1 h2 h3 ?_ args w
  unfold ext
  cases h : Extern.find fn with
  | none => rw [h] at h4; simp at h4
  | some g => rfl
theorem isTypeOf (v : Value) (w : World) : (ext Tryz.f41 #[.iface 182 v]).run Tryz.prog w = .ok (.iface 120 (.agg #[.pointer (some ⟨3, 182, none⟩)])) w := by kernel_rfl
theorem isComparable (w : World) : (ext Tryz.f120 #[.agg #[.pointer (some ⟨3, 182, none⟩)]]).run Tryz.prog w = .ok (.bool true) w := by kernel_rfl
theorem isMethodComparable (v : Value) (w : World) : (Go.method 311 120 v "Comparable").run Tryz.prog w = .ok (120, v) w := by kernel_rfl
theorem isComp : (Tryz.prog.info? 182).map (·.comparable) = some true := by kernel_rfl
theorem isSize : (Tryz.prog.info? 200).map (·.size) = some 1 := by kernel_rfl
theorem run_TypeOf (args : Array Value) (w : World) : (callFunc 41 args).run Tryz.prog w = ((ext Tryz.f41 args).run Tryz.prog w).andThen fun v w' => .ok (.value v) w' :=
  ext_run Tryz.func41 (by kernel_rfl) (by kernel_rfl) (by kernel_rfl) (by kernel_rfl) args w
theorem run_Comparable (args : Array Value) (w : World) : (callFunc 120 args).run Tryz.prog w = ((ext Tryz.f120 args).run Tryz.prog w).andThen fun v w' => .ok (.value v) w' :=
  ext_run Tryz.func120 (by kernel_rfl) (by kernel_rfl) (by kernel_rfl) (by kernel_rfl) args w
set_option maxRecDepth 100000 in
/-- errors.Is(x, x), x a pointer to an errors.errorString. -/
theorem is_same (a : Addr) (w : World) :
    Calls Tryz.prog 23 #[.iface 182 (.pointer (some a)), .iface 182 (.pointer (some a))] w fun e w' => e = .returned (.bool true) ∧ w' = w := by
  obtain ⟨i, hi, hcmp⟩ := Option.map_eq_some_iff.1 isComp
  obtain ⟨j, hj, hjs⟩ := Option.map_eq_some_iff.1 isSize
  have h8 := run_TypeOf
  have h32 := run_Comparable
  have tT := isTypeOf
  have cT := isComparable
  have mR := isMethodComparable
  have heq := run_eql_iface_ptr_same (P := Tryz.prog) w a Tryz.underlying34 Tryz.underlying182 hi hcmp hj
  go_enter Tryz.func23, Tryz.ntmps23
  go_wp2
  refine wp_loop_rounds 1 ?_
  rw [rounds_succ]
  go_wp2
  go_ret
  exact ⟨rfl, rfl⟩
end Go.Proofs.YtjfifmadldcjjaaGreatDoor.Er
