/- What the rows' condition on the package-level variables gives the walks: the type of errors, fault.End, the order of the nineteen lengths; and the start that meets the condition. -/
import Derived.Test.YtephkcdbnogdhaaGreatDoorRows
import Derived.Test.YtephkcdbnogdhaaGreatDoorMQ
import Derived.ProofKit
import Derived.LaidMore
import Derived.LaidHandle
import Derived.Lib.LaidTab
import Derived.Stop.LaidErr
import Derived.OpenShut
import Derived.Stop.Joined
set_option linter.unusedVariables false
namespace Go.Proofs.YtephkcdbnogdhaaGreatDoor
open Go.RowKit
theorem own : ownKnob Tryz.prog.godebug = none := by kernel_rfl
theorem gType : Tryz.prog.globalNamed "errors.errorType" = some 3 := by kernel_rfl
theorem gEnd : Tryz.prog.globalNamed "vellum/fault.End" = some 2 := by kernel_rfl
theorem gFailed : Tryz.prog.globalNamed "vellum/fault.Failed" = some 0 := by kernel_rfl
theorem gOrder : Tryz.prog.globalNamed "vellum/unpack.lengthOrder" = some 6 := by kernel_rfl
theorem tEnd : (Tryz.prog.globals[2]?).map (·.type) = some 80 := by kernel_rfl
theorem tFailed : (Tryz.prog.globals[0]?).map (·.type) = some 80 := by kernel_rfl
theorem tOrder : (Tryz.prog.globals[6]?).map (·.type) = some 347 := by kernel_rfl
theorem rType : (Tryz.prog.cutTypes.find? (·.1 == "internal/reflectlite.rtype")).map (·.2) = some 238 := by kernel_rfl
theorem nTypes : Tryz.prog.types.size = 394 := by kernel_rfl
theorem oneRow : ((List.range 394).filter fun t => Tryz.prog.rowNamed t [101, 114, 114, 111, 114]) = [80] := by kernel_rfl
theorem star : "*" ++ "errors.errorString" = "*errors.errorString" := by decide
theorem rowEnd (u : TypeId) (h : Tryz.prog.typeName? 3 u = some "*errors.errorString") : u = 362 :=
  typeName_ptr_named (nm := "errors.errorString") (by rw [star]; kernel_rfl) (by kernel_rfl) (by decide) u (by rw [star]; exact h)
theorem cellsES : Tryz.prog.cellsOf 384 = 1 := by kernel_rfl
theorem cellsStr : Tryz.prog.cellsOf 9 = 1 := by kernel_rfl
def laid : List (String × DataW Unit) := [("errors.errorType", Rows.laid_errors_errorType), ("vellum/fault.End", Rows.laid_vellum_fault_End), ("vellum/fault.Failed", Rows.laid_vellum_fault_Failed), ("vellum/fault.TooLarge", Rows.laid_vellum_fault_TooLarge), ("vellum/unpack.lengthOrder", Rows.laid_vellum_unpack_lengthOrder)]
theorem door_met (os : Os) (args : Array Value) : laidMetH Tryz.prog laid ((World.doorLaid Tryz.prog 95 os).forCall (fun _ _ => 0) ⟨#[], args, []⟩).memory :=
  laidMetH_of_parts3 (fuel := 8) (laidMet_of_run' 8 (by kernel_rfl) (by kernel_rfl)) (by kernel_rfl) (by kernel_rfl)
def orderNums : List Int := Rf.order.map fun (i : Nat) => (i : Int)
theorem order_is : (Rows.laid_vellum_unpack_lengthOrder : DataW Unit) = Lib.tabData .u8 orderNums := by kernel_rfl
theorem type_of_laid {W : World} (h : laidMetH Tryz.prog laid W) : Pr.TypeIs W := by
  have h' : laidMet Tryz.prog [("vellum/fault.End", Rows.laid_vellum_fault_End), ("vellum/fault.Failed", Rows.laid_vellum_fault_Failed), ("vellum/fault.TooLarge", Rows.laid_vellum_fault_TooLarge), ("vellum/unpack.lengthOrder", Rows.laid_vellum_unpack_lengthOrder)] W ∧ handlesMet Tryz.prog [("errors.errorType", Rows.laid_errors_errorType)] W := h
  obtain ⟨name, u, ty, e1, e2, e3, e4, e5⟩ := h'.2 _ (List.mem_singleton.2 rfl)
  have en : name = [101, 114, 114, 111, 114] := (Option.some.inj e1).symm
  subst en
  obtain rfl := Option.some.inj (rType.symm.trans e2)
  have hm : ty ∈ (List.range 394).filter fun t => Tryz.prog.rowNamed t [101, 114, 114, 111, 114] := List.mem_filter.2 ⟨List.mem_range.2 (by rw [← nTypes]; exact e3), e4⟩
  rw [oneRow] at hm
  obtain rfl := List.mem_singleton.1 hm
  have hh : typeHandle Tryz.prog 80 = .pointer (some ⟨7, 80, none⟩) := by kernel_rfl
  rw [hh] at e5
  refine ⟨?_, by simpa using World.var?_cell gType e5 0⟩
  obtain ⟨a, s, hv, _, _, _⟩ := laid_sentinel h'.1.tail gFailed tFailed Tryz.underlying80 rowEnd Tryz.underlying362 Tryz.underlying384 rfl rfl Tryz.underlying9 cellsES cellsStr
  exact ⟨a, by simpa [Pr.FailedIs] using World.var?_cell gFailed hv 0⟩
theorem end_of_laid {W : World} (h : laidMetH Tryz.prog laid W) : ∃ a, Pr.EndIs W a := by
  have h' : laidMet Tryz.prog [("vellum/fault.End", Rows.laid_vellum_fault_End), ("vellum/fault.Failed", Rows.laid_vellum_fault_Failed), ("vellum/fault.TooLarge", Rows.laid_vellum_fault_TooLarge), ("vellum/unpack.lengthOrder", Rows.laid_vellum_unpack_lengthOrder)] W ∧ handlesMet Tryz.prog [("errors.errorType", Rows.laid_errors_errorType)] W := h
  obtain ⟨a, s, hv, _, _, _⟩ := laid_sentinel h'.1 gEnd tEnd Tryz.underlying80 rowEnd Tryz.underlying362 Tryz.underlying384 rfl rfl Tryz.underlying9 cellsES cellsStr
  exact ⟨a, by simpa [Pr.EndIs] using World.var?_cell gEnd hv 0⟩
theorem order_of_laid {W : World} (h : laidMetH Tryz.prog laid W) : Pr.OrderIs W := by
  have h' : laidMet Tryz.prog [("vellum/fault.End", Rows.laid_vellum_fault_End), ("vellum/fault.Failed", Rows.laid_vellum_fault_Failed), ("vellum/fault.TooLarge", Rows.laid_vellum_fault_TooLarge), ("vellum/unpack.lengthOrder", Rows.laid_vellum_unpack_lengthOrder)] W ∧ handlesMet Tryz.prog [("errors.errorType", Rows.laid_errors_errorType)] W := h
  have h2 := h'.1.tail.tail.tail
  rw [order_is] at h2
  have hT : Lib.TabIs Tryz.prog W "vellum/unpack.lengthOrder" .u8 orderNums := Lib.tabIs_of_head gOrder tOrder Tryz.underlying347 Tryz.underlying5 (by kernel_rfl) (by kernel_rfl) h2
  intro i hi
  have hl : orderNums.length = 19 := by decide
  have := hT.cell gOrder i (by omega)
  rw [this]
  have e : orderNums.getD i 0 = ((Rf.order.getD i 0 : Nat) : Int) := by
    unfold orderNums
    rw [List.getD_eq_getElem?_getD, List.getElem?_map, List.getD_eq_getElem?_getD]
    cases Rf.order[i]? <;> rfl
  rw [e]
end Go.Proofs.YtephkcdbnogdhaaGreatDoor
