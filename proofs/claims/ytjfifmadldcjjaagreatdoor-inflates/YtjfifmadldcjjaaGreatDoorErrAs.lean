/- What errors.as and errors.As answer at a *Malformed beneath *Place: the target is a *Malformed. -/
import Derived.Test.YtjfifmadldcjjaaGreatDoorErr
namespace Go.Proofs.YtjfifmadldcjjaaGreatDoor.Er
open Go.RowKit Go.Extern.Stop Go.Stop Go.Extern
theorem run_ValueOf (args : Array Value) (w : World) : (callFunc 37 args).run Tryz.prog w = ((ext Tryz.f37 args).run Tryz.prog w).andThen fun v w' => .ok (.value v) w' :=
  ext_run Tryz.func37 (by kernel_rfl) (by kernel_rfl) (by kernel_rfl) (by kernel_rfl) args w
theorem run_VType (args : Array Value) (w : World) : (callFunc 38 args).run Tryz.prog w = ((ext Tryz.f38 args).run Tryz.prog w).andThen fun v w' => .ok (.value v) w' :=
  ext_run Tryz.func38 (by kernel_rfl) (by kernel_rfl) (by kernel_rfl) (by kernel_rfl) args w
theorem run_IsNil (args : Array Value) (w : World) : (callFunc 39 args).run Tryz.prog w = ((ext Tryz.f39 args).run Tryz.prog w).andThen fun v w' => .ok (.value v) w' :=
  ext_run Tryz.func39 (by kernel_rfl) (by kernel_rfl) (by kernel_rfl) (by kernel_rfl) args w
theorem run_Kind (args : Array Value) (w : World) : (callFunc 107 args).run Tryz.prog w = ((ext Tryz.f107 args).run Tryz.prog w).andThen fun v w' => .ok (.value v) w' :=
  ext_run Tryz.func107 (by kernel_rfl) (by kernel_rfl) (by kernel_rfl) (by kernel_rfl) args w
theorem run_Elem (args : Array Value) (w : World) : (callFunc 121 args).run Tryz.prog w = ((ext Tryz.f121 args).run Tryz.prog w).andThen fun v w' => .ok (.value v) w' :=
  ext_run Tryz.func121 (by kernel_rfl) (by kernel_rfl) (by kernel_rfl) (by kernel_rfl) args w
theorem run_Implements (args : Array Value) (w : World) : (callFunc 122 args).run Tryz.prog w = ((ext Tryz.f122 args).run Tryz.prog w).andThen fun v w' => .ok (.value v) w' :=
  ext_run Tryz.func122 (by kernel_rfl) (by kernel_rfl) (by kernel_rfl) (by kernel_rfl) args w
theorem run_AssignableTo (args : Array Value) (w : World) : (callFunc 119 args).run Tryz.prog w = ((ext Tryz.f119 args).run Tryz.prog w).andThen fun v w' => .ok (.value v) w' :=
  ext_run Tryz.func119 (by kernel_rfl) (by kernel_rfl) (by kernel_rfl) (by kernel_rfl) args w
theorem run_VElem (args : Array Value) (w : World) : (callFunc 61 args).run Tryz.prog w = ((ext Tryz.f61 args).run Tryz.prog w).andThen fun v w' => .ok (.value v) w' :=
  ext_run Tryz.func61 (by kernel_rfl) (by kernel_rfl) (by kernel_rfl) (by kernel_rfl) args w
theorem run_VSet (args : Array Value) (w : World) : (callFunc 62 args).run Tryz.prog w = ((ext Tryz.f62 args).run Tryz.prog w).andThen fun v w' => .ok (.value v) w' :=
  ext_run Tryz.func62 (by kernel_rfl) (by kernel_rfl) (by kernel_rfl) (by kernel_rfl) args w
/-- the Value of a pointer to the target variable -/
def vv (a : Addr) : Value := .agg #[.pointer (some ⟨3, 64, none⟩), .pointer (some a), .int .u64 150]
/-- the Value of the target variable -/
def vt (a : Addr) : Value := .agg #[.pointer (some ⟨3, 62, none⟩), .pointer (some a), .int .u64 406]
/-- the Value of an error -/
def ve (a : Addr) : Value := .agg #[.pointer (some ⟨3, 62, none⟩), .pointer (some a), .int .u64 150]
/-- the type of the target variable -/
def tyM : Value := .iface 120 (.agg #[.pointer (some ⟨3, 62, none⟩)])
theorem valueOfT (t : Addr) (w : World) : (ext Tryz.f37 #[.iface 64 (.pointer (some t))]).run Tryz.prog w = .ok (.agg #[.pointer (some ⟨3, 64, none⟩), .pointer (some ⟨w.heap.size, 0, none⟩), .int .u64 150]) (w.alloc (.cells #[.pointer (some t)] 64)) := by kernel_rfl
theorem typeT (a : Addr) (w : World) : (ext Tryz.f38 #[.agg #[.pointer (some ⟨3, 64, none⟩), .pointer (some a), .int .u64 150]]).run Tryz.prog w = .ok (.iface 120 (.agg #[.pointer (some ⟨3, 64, none⟩)])) w := by kernel_rfl
theorem methodKind (h : Value) (w : World) : (Go.method 311 120 (.agg #[h]) "Kind").run Tryz.prog w = .ok (107, h) w := by kernel_rfl
theorem kindT (w : World) : (ext Tryz.f107 #[.pointer (some ⟨3, 64, none⟩)]).run Tryz.prog w = .ok (.int .u8 22) w := by kernel_rfl
theorem kindM (w : World) : (ext Tryz.f107 #[.pointer (some ⟨3, 62, none⟩)]).run Tryz.prog w = .ok (.int .u8 22) w := by kernel_rfl
theorem methodElem (h : Value) (w : World) : (Go.method 311 120 (.agg #[h]) "Elem").run Tryz.prog w = .ok (121, .agg #[h]) w := by kernel_rfl
theorem methodImplements (h : Value) (w : World) : (Go.method 311 120 (.agg #[h]) "Implements").run Tryz.prog w = .ok (122, .agg #[h]) w := by kernel_rfl
theorem methodAssignableTo (h : Value) (w : World) : (Go.method 311 120 (.agg #[h]) "AssignableTo").run Tryz.prog w = .ok (119, .agg #[h]) w := by kernel_rfl
theorem elemT (w : World) : (ext Tryz.f121 #[.agg #[.pointer (some ⟨3, 64, none⟩)]]).run Tryz.prog w = .ok (.iface 120 (.agg #[.pointer (some ⟨3, 62, none⟩)])) w := by kernel_rfl
theorem implementsM (w : World) : (ext Tryz.f122 #[.agg #[.pointer (some ⟨3, 62, none⟩)], .iface 120 (.agg #[.pointer (some ⟨3, 34, none⟩)])]).run Tryz.prog w = .ok (.bool true) w := by kernel_rfl
theorem typeOfM (v : Value) (w : World) : (ext Tryz.f41 #[.iface 62 v]).run Tryz.prog w = .ok (.iface 120 (.agg #[.pointer (some ⟨3, 62, none⟩)])) w := by kernel_rfl
theorem typeOfP (v : Value) (w : World) : (ext Tryz.f41 #[.iface 112 v]).run Tryz.prog w = .ok (.iface 120 (.agg #[.pointer (some ⟨3, 112, none⟩)])) w := by kernel_rfl
theorem assignM (w : World) : (ext Tryz.f119 #[.agg #[.pointer (some ⟨3, 62, none⟩)], .iface 120 (.agg #[.pointer (some ⟨3, 62, none⟩)])]).run Tryz.prog w = .ok (.bool true) w := by kernel_rfl
theorem assignP (w : World) : (ext Tryz.f119 #[.agg #[.pointer (some ⟨3, 112, none⟩)], .iface 120 (.agg #[.pointer (some ⟨3, 62, none⟩)])]).run Tryz.prog w = .ok (.bool false) w := by kernel_rfl
theorem valueOfM (e : Addr) (w : World) : (ext Tryz.f37 #[.iface 62 (.pointer (some e))]).run Tryz.prog w = .ok (.agg #[.pointer (some ⟨3, 62, none⟩), .pointer (some ⟨w.heap.size, 0, none⟩), .int .u64 150]) (w.alloc (.cells #[.pointer (some e)] 62)) := by kernel_rfl
theorem noAsP (v : Value) (xT : TypeId) (w : World) : (Instr.typeAssert (.iface 112 v) xT 124 true).run Tryz.prog w = .ok (.tuple #[.nilIface, .bool false]) w := run_typeAssert_lacksB Tryz.underlying124 (by kernel_rfl) (by kernel_rfl) v xT w
theorem hasUnwrapP (v : Value) (xT : TypeId) (w : World) : (Instr.typeAssert (.iface 112 v) xT 127 true).run Tryz.prog w = .ok (.tuple #[.iface 112 v, .bool true]) w := run_typeAssert_hasB Tryz.underlying127 (by kernel_rfl) v xT w
theorem methodUnwrap (v : Value) (w : World) : (Go.method 311 112 v "Unwrap").run Tryz.prog w = .ok (117, v) w := by kernel_rfl
theorem partsT (a : Addr) (w : World) : (ReflectliteValue.parts (.agg #[.pointer (some ⟨3, 64, none⟩), .pointer (some a), .int .u64 150])).run Tryz.prog w = .ok (some (64, a, 150)) w := by kernel_rfl
theorem partsV (a : Addr) (w : World) : (ReflectliteValue.parts (.agg #[.pointer (some ⟨3, 62, none⟩), .pointer (some a), .int .u64 406])).run Tryz.prog w = .ok (some (62, a, 406)) w := by kernel_rfl
theorem partsE (a : Addr) (w : World) : (ReflectliteValue.parts (.agg #[.pointer (some ⟨3, 62, none⟩), .pointer (some a), .int .u64 150])).run Tryz.prog w = .ok (some (62, a, 150)) w := by kernel_rfl
theorem elemOfT (w : World) : (Rtype.elem? 64).run Tryz.prog w = .ok (some 62) w := by kernel_rfl
theorem mkM (p : Addr) (w : World) : (ReflectliteValue.mk 62 p ReflectliteValue.flagAddr).run Tryz.prog w = .ok (.agg #[.pointer (some ⟨3, 62, none⟩), .pointer (some p), .int .u64 406]) w := by kernel_rfl
theorem directM (w : World) : (Rtype.directlyAssignable 62 62).run Tryz.prog w = .ok true w := by kernel_rfl
theorem isNilExt : ext Tryz.f39 = ReflectliteValue.method (ReflectliteValue.valueError "reflectlite.Value.IsNil" 0) ReflectliteValue.isNil := by kernel_rfl
theorem elemExt : ext Tryz.f61 = ReflectliteValue.method (ReflectliteValue.valueError "reflectlite.Value.Elem" 0) ReflectliteValue.elem := by kernel_rfl
theorem setExt : ext Tryz.f62 = ReflectliteValue.set := by kernel_rfl
/-- a method of a Value whose parts are known -/
theorem method_on (z : Sem Value) (f : TypeId → Addr → Nat → Nat → Sem Value) (v : Value) (t : TypeId) (a : Addr) (fl : Nat) (W : World) (h : (ReflectliteValue.parts v).run Tryz.prog W = .ok (some (t, a, fl)) W) :
    (ReflectliteValue.method z f #[v]).run Tryz.prog W = (f t a fl (fl % 32)).run Tryz.prog W := by
  obtain ⟨g, h1, h2⟩ : ∃ g : Option (TypeId × Addr × Nat) → Sem Value, ReflectliteValue.method z f #[v] = ReflectliteValue.parts v >>= g ∧ g (some (t, a, fl)) = f t a fl (fl % 32) := ⟨_, rfl, rfl⟩
  rw [h1, Sem.run_bind, h]
  simp only [Result.andThen, h2]
theorem isNilT (a p : Addr) (W : World) (ha : W.cell? a = some (.pointer (some p))) :
    (ext Tryz.f39 #[.agg #[.pointer (some ⟨3, 64, none⟩), .pointer (some a), .int .u64 150]]).run Tryz.prog W = .ok (.bool false) W := by
  rw [isNilExt, method_on _ _ _ _ _ _ _ (partsT a W)]
  simp [ReflectliteValue.isNil, loadVar, isAgg, underlying, Tryz.underlying64, ha, Result.andThen]
theorem elemV (a p : Addr) (W : World) (ha : W.cell? a = some (.pointer (some p))) :
    (ext Tryz.f61 #[.agg #[.pointer (some ⟨3, 64, none⟩), .pointer (some a), .int .u64 150]]).run Tryz.prog W = .ok (.agg #[.pointer (some ⟨3, 62, none⟩), .pointer (some p), .int .u64 406]) W := by
  rw [elemExt, method_on _ _ _ _ _ _ _ (partsT a W)]
  simp [ReflectliteValue.elem, loadVar, isAgg, underlying, Tryz.underlying64, ha, Result.andThen, elemOfT, mkM]
theorem set_on : ∃ (g : Option (TypeId × Addr × Nat) → Option (TypeId × Addr × Nat) → Sem Value) (k : Addr → Value → Bool → Sem Value), (∀ v x, ReflectliteValue.set #[v, x] = ReflectliteValue.parts v >>= fun o => ReflectliteValue.parts x >>= g o) ∧
    (∀ a b, g (some (62, a, 406)) (some (62, b, 150)) = loadVar 62 b >>= fun val => Rtype.directlyAssignable 62 62 >>= k a val) ∧ ∀ a val, k a val true = storeVar 62 a val >>= fun _ => pure (.tuple #[]) := ⟨_, _, fun _ _ => rfl, fun _ _ => rfl, fun _ _ => rfl⟩
theorem setM (ta b e : Addr) (old : Value) (W : World) (hb : W.cell? b = some (.pointer (some e))) (ht : W.cell? ta = some old) (hf : W.frozen? ta = false) :
    (ext Tryz.f62 #[.agg #[.pointer (some ⟨3, 62, none⟩), .pointer (some ta), .int .u64 406], .agg #[.pointer (some ⟨3, 62, none⟩), .pointer (some b), .int .u64 150]]).run Tryz.prog W = .ok (.tuple #[]) (W.setCell ta (.pointer (some e))) := by
  obtain ⟨g, k, h1, h2, h3⟩ := set_on
  rw [setExt, h1]
  simp only [Sem.run_bind, partsV, partsE, Result.andThen, h2]
  simp [loadVar, isAgg, underlying, Tryz.underlying62, hb, Result.andThen, directM, h3, storeVar, Value.cells, storeCells, Addr.add]
  rw [run_store Tryz.prog W ta _ _ (by rfl)]
  simp [ht, hf]
end Go.Proofs.YtjfifmadldcjjaaGreatDoor.Er
