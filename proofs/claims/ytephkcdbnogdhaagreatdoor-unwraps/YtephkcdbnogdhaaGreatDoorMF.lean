/- What errors.Is and errors.As answer at the program's own errors: fault.End itself; a *Malformed beneath any number of *Place. -/
import Derived.Test.YtephkcdbnogdhaaGreatDoorRows
import Derived.WalkKit
import Derived.LaidEql
import Derived.Stop.Asserts
import Derived.RowKitTokens
import Derived.BigQuiet
import Derived.Deep.QuietTactic
import Derived.Deep.RegionWith
import Derived.Deep.DeepCutAuto
set_option linter.unusedVariables false
namespace Go.Proofs.YtephkcdbnogdhaaGreatDoor.Er
open Go.RowKit Go.Extern.Stop Go.Stop Go.Extern
/-- what the model has for a function without a body -/
noncomputable def ext (fn : Func) : Array Value → Sem Value := (Extern.find fn).getD (fun _ => pure (.tuple #[]))
theorem ext_run {f : FuncId} {fn : Func} (hf : Tryz.prog.funcs[f]? = some fn) (h1 : (fn.name == "runtime.NumGoroutine") = false) (h2 : fn.body.isNone = true) (h3 : Extern.findNext fn = none) (h4 : (Extern.find fn).isSome = true) (args : Array Value) (w : World) :
    (callFunc f args).run Tryz.prog w = ((ext fn args).run Tryz.prog w).andThen fun v w' => .ok (.value v) w' := by
  refine run_callFunc_extern hf h1 h2 h3 ?_ args w
  unfold ext
  cases h : Extern.find fn with
  | none => rw [h] at h4; simp at h4
  | some g => rfl
theorem isTypeOf (v : Value) (w : World) : (ext Tryz.f108 #[.iface 362 v]).run Tryz.prog w = .ok (.iface 238 (.agg #[.pointer (some ⟨7, 362, none⟩)])) w := by kernel_rfl
theorem isComparable (w : World) : (ext Tryz.f274 #[.agg #[.pointer (some ⟨7, 362, none⟩)]]).run Tryz.prog w = .ok (.bool true) w := by kernel_rfl
theorem isMethodComparable (v : Value) (w : World) : (Go.method 494 238 v "Comparable").run Tryz.prog w = .ok (274, v) w := by kernel_rfl
theorem isComp : (Tryz.prog.info? 362).map (·.comparable) = some true := by kernel_rfl
theorem isSize : (Tryz.prog.info? 384).map (·.size) = some 1 := by kernel_rfl
theorem run_TypeOf (args : Array Value) (w : World) : (callFunc 108 args).run Tryz.prog w = ((ext Tryz.f108 args).run Tryz.prog w).andThen fun v w' => .ok (.value v) w' :=
  ext_run Tryz.func108 (by kernel_rfl) (by kernel_rfl) (by kernel_rfl) (by kernel_rfl) args w
theorem run_Comparable (args : Array Value) (w : World) : (callFunc 274 args).run Tryz.prog w = ((ext Tryz.f274 args).run Tryz.prog w).andThen fun v w' => .ok (.value v) w' :=
  ext_run Tryz.func274 (by kernel_rfl) (by kernel_rfl) (by kernel_rfl) (by kernel_rfl) args w
set_option maxRecDepth 100000 in
/-- errors.Is(x, x), x a pointer to an errors.errorString. -/
theorem is_same (a : Addr) (w : World) :
    Calls Tryz.prog 76 #[.iface 362 (.pointer (some a)), .iface 362 (.pointer (some a))] w fun e w' => e = .returned (.bool true) ∧ w' = w := by
  obtain ⟨i, hi, hcmp⟩ := Option.map_eq_some_iff.1 isComp
  obtain ⟨j, hj, hjs⟩ := Option.map_eq_some_iff.1 isSize
  have h8 := run_TypeOf
  have h32 := run_Comparable
  have tT := isTypeOf
  have cT := isComparable
  have mR := isMethodComparable
  have heq := run_eql_iface_ptr_same (P := Tryz.prog) w a Tryz.underlying80 Tryz.underlying362 hi hcmp hj
  go_enter Tryz.func76, Tryz.ntmps76
  go_wp2
  refine wp_loop_rounds 1 ?_
  rw [rounds_succ]
  go_wp2
  go_ret
  exact ⟨rfl, rfl⟩
end Go.Proofs.YtephkcdbnogdhaaGreatDoor.Er
/- What errors.as and errors.As answer at a *Malformed beneath *Place: the target is a *Malformed. -/
namespace Go.Proofs.YtephkcdbnogdhaaGreatDoor.Er
open Go.RowKit Go.Extern.Stop Go.Stop Go.Extern
theorem run_ValueOf (args : Array Value) (w : World) : (callFunc 110 args).run Tryz.prog w = ((ext Tryz.f110 args).run Tryz.prog w).andThen fun v w' => .ok (.value v) w' :=
  ext_run Tryz.func110 (by kernel_rfl) (by kernel_rfl) (by kernel_rfl) (by kernel_rfl) args w
theorem run_VType (args : Array Value) (w : World) : (callFunc 111 args).run Tryz.prog w = ((ext Tryz.f111 args).run Tryz.prog w).andThen fun v w' => .ok (.value v) w' :=
  ext_run Tryz.func111 (by kernel_rfl) (by kernel_rfl) (by kernel_rfl) (by kernel_rfl) args w
theorem run_IsNil (args : Array Value) (w : World) : (callFunc 112 args).run Tryz.prog w = ((ext Tryz.f112 args).run Tryz.prog w).andThen fun v w' => .ok (.value v) w' :=
  ext_run Tryz.func112 (by kernel_rfl) (by kernel_rfl) (by kernel_rfl) (by kernel_rfl) args w
theorem run_Kind (args : Array Value) (w : World) : (callFunc 255 args).run Tryz.prog w = ((ext Tryz.f255 args).run Tryz.prog w).andThen fun v w' => .ok (.value v) w' :=
  ext_run Tryz.func255 (by kernel_rfl) (by kernel_rfl) (by kernel_rfl) (by kernel_rfl) args w
theorem run_Elem (args : Array Value) (w : World) : (callFunc 275 args).run Tryz.prog w = ((ext Tryz.f275 args).run Tryz.prog w).andThen fun v w' => .ok (.value v) w' :=
  ext_run Tryz.func275 (by kernel_rfl) (by kernel_rfl) (by kernel_rfl) (by kernel_rfl) args w
theorem run_Implements (args : Array Value) (w : World) : (callFunc 276 args).run Tryz.prog w = ((ext Tryz.f276 args).run Tryz.prog w).andThen fun v w' => .ok (.value v) w' :=
  ext_run Tryz.func276 (by kernel_rfl) (by kernel_rfl) (by kernel_rfl) (by kernel_rfl) args w
theorem run_AssignableTo (args : Array Value) (w : World) : (callFunc 273 args).run Tryz.prog w = ((ext Tryz.f273 args).run Tryz.prog w).andThen fun v w' => .ok (.value v) w' :=
  ext_run Tryz.func273 (by kernel_rfl) (by kernel_rfl) (by kernel_rfl) (by kernel_rfl) args w
theorem run_VElem (args : Array Value) (w : World) : (callFunc 139 args).run Tryz.prog w = ((ext Tryz.f139 args).run Tryz.prog w).andThen fun v w' => .ok (.value v) w' :=
  ext_run Tryz.func139 (by kernel_rfl) (by kernel_rfl) (by kernel_rfl) (by kernel_rfl) args w
theorem run_VSet (args : Array Value) (w : World) : (callFunc 140 args).run Tryz.prog w = ((ext Tryz.f140 args).run Tryz.prog w).andThen fun v w' => .ok (.value v) w' :=
  ext_run Tryz.func140 (by kernel_rfl) (by kernel_rfl) (by kernel_rfl) (by kernel_rfl) args w
/-- the Value of a pointer to the target variable -/
def vv (a : Addr) : Value := .agg #[.pointer (some ⟨7, 145, none⟩), .pointer (some a), .int .u64 150]
/-- the Value of the target variable -/
def vt (a : Addr) : Value := .agg #[.pointer (some ⟨7, 142, none⟩), .pointer (some a), .int .u64 406]
/-- the Value of an error -/
def ve (a : Addr) : Value := .agg #[.pointer (some ⟨7, 142, none⟩), .pointer (some a), .int .u64 150]
/-- the type of the target variable -/
def tyM : Value := .iface 238 (.agg #[.pointer (some ⟨7, 142, none⟩)])
theorem valueOfT (t : Addr) (w : World) : (ext Tryz.f110 #[.iface 145 (.pointer (some t))]).run Tryz.prog w = .ok (.agg #[.pointer (some ⟨7, 145, none⟩), .pointer (some ⟨w.heap.size, 0, none⟩), .int .u64 150]) (w.alloc (.cells #[.pointer (some t)] 145)) := by kernel_rfl
theorem typeT (a : Addr) (w : World) : (ext Tryz.f111 #[.agg #[.pointer (some ⟨7, 145, none⟩), .pointer (some a), .int .u64 150]]).run Tryz.prog w = .ok (.iface 238 (.agg #[.pointer (some ⟨7, 145, none⟩)])) w := by kernel_rfl
theorem methodKind (h : Value) (w : World) : (Go.method 494 238 (.agg #[h]) "Kind").run Tryz.prog w = .ok (255, h) w := by kernel_rfl
theorem kindT (w : World) : (ext Tryz.f255 #[.pointer (some ⟨7, 145, none⟩)]).run Tryz.prog w = .ok (.int .u8 22) w := by kernel_rfl
theorem kindM (w : World) : (ext Tryz.f255 #[.pointer (some ⟨7, 142, none⟩)]).run Tryz.prog w = .ok (.int .u8 22) w := by kernel_rfl
theorem methodElem (h : Value) (w : World) : (Go.method 494 238 (.agg #[h]) "Elem").run Tryz.prog w = .ok (275, .agg #[h]) w := by kernel_rfl
theorem methodImplements (h : Value) (w : World) : (Go.method 494 238 (.agg #[h]) "Implements").run Tryz.prog w = .ok (276, .agg #[h]) w := by kernel_rfl
theorem methodAssignableTo (h : Value) (w : World) : (Go.method 494 238 (.agg #[h]) "AssignableTo").run Tryz.prog w = .ok (273, .agg #[h]) w := by kernel_rfl
theorem elemT (w : World) : (ext Tryz.f275 #[.agg #[.pointer (some ⟨7, 145, none⟩)]]).run Tryz.prog w = .ok (.iface 238 (.agg #[.pointer (some ⟨7, 142, none⟩)])) w := by kernel_rfl
theorem implementsM (w : World) : (ext Tryz.f276 #[.agg #[.pointer (some ⟨7, 142, none⟩)], .iface 238 (.agg #[.pointer (some ⟨7, 80, none⟩)])]).run Tryz.prog w = .ok (.bool true) w := by kernel_rfl
theorem typeOfM (v : Value) (w : World) : (ext Tryz.f108 #[.iface 142 v]).run Tryz.prog w = .ok (.iface 238 (.agg #[.pointer (some ⟨7, 142, none⟩)])) w := by kernel_rfl
theorem typeOfP (v : Value) (w : World) : (ext Tryz.f108 #[.iface 214 v]).run Tryz.prog w = .ok (.iface 238 (.agg #[.pointer (some ⟨7, 214, none⟩)])) w := by kernel_rfl
theorem assignM (w : World) : (ext Tryz.f273 #[.agg #[.pointer (some ⟨7, 142, none⟩)], .iface 238 (.agg #[.pointer (some ⟨7, 142, none⟩)])]).run Tryz.prog w = .ok (.bool true) w := by kernel_rfl
theorem assignP (w : World) : (ext Tryz.f273 #[.agg #[.pointer (some ⟨7, 214, none⟩)], .iface 238 (.agg #[.pointer (some ⟨7, 142, none⟩)])]).run Tryz.prog w = .ok (.bool false) w := by kernel_rfl
theorem valueOfM (e : Addr) (w : World) : (ext Tryz.f110 #[.iface 142 (.pointer (some e))]).run Tryz.prog w = .ok (.agg #[.pointer (some ⟨7, 142, none⟩), .pointer (some ⟨w.heap.size, 0, none⟩), .int .u64 150]) (w.alloc (.cells #[.pointer (some e)] 142)) := by kernel_rfl
theorem noAsP (v : Value) (xT : TypeId) (w : World) : (Instr.typeAssert (.iface 214 v) xT 249 true).run Tryz.prog w = .ok (.tuple #[.nilIface, .bool false]) w := run_typeAssert_lacksB Tryz.underlying249 (by kernel_rfl) (by kernel_rfl) v xT w
theorem hasUnwrapP (v : Value) (xT : TypeId) (w : World) : (Instr.typeAssert (.iface 214 v) xT 243 true).run Tryz.prog w = .ok (.tuple #[.iface 214 v, .bool true]) w := run_typeAssert_hasB Tryz.underlying243 (by kernel_rfl) v xT w
theorem methodUnwrap (v : Value) (w : World) : (Go.method 494 214 v "Unwrap").run Tryz.prog w = .ok (271, v) w := by kernel_rfl
theorem partsT (a : Addr) (w : World) : (ReflectliteValue.parts (.agg #[.pointer (some ⟨7, 145, none⟩), .pointer (some a), .int .u64 150])).run Tryz.prog w = .ok (some (145, a, 150)) w := by kernel_rfl
theorem partsV (a : Addr) (w : World) : (ReflectliteValue.parts (.agg #[.pointer (some ⟨7, 142, none⟩), .pointer (some a), .int .u64 406])).run Tryz.prog w = .ok (some (142, a, 406)) w := by kernel_rfl
theorem partsE (a : Addr) (w : World) : (ReflectliteValue.parts (.agg #[.pointer (some ⟨7, 142, none⟩), .pointer (some a), .int .u64 150])).run Tryz.prog w = .ok (some (142, a, 150)) w := by kernel_rfl
theorem elemOfT (w : World) : (Rtype.elem? 145).run Tryz.prog w = .ok (some 142) w := by kernel_rfl
theorem mkM (p : Addr) (w : World) : (ReflectliteValue.mk 142 p ReflectliteValue.flagAddr).run Tryz.prog w = .ok (.agg #[.pointer (some ⟨7, 142, none⟩), .pointer (some p), .int .u64 406]) w := by kernel_rfl
theorem directM (w : World) : (Rtype.directlyAssignable 142 142).run Tryz.prog w = .ok true w := by kernel_rfl
theorem isNilExt : ext Tryz.f112 = ReflectliteValue.method (ReflectliteValue.valueError "reflectlite.Value.IsNil" 0) ReflectliteValue.isNil := by kernel_rfl
theorem elemExt : ext Tryz.f139 = ReflectliteValue.method (ReflectliteValue.valueError "reflectlite.Value.Elem" 0) ReflectliteValue.elem := by kernel_rfl
theorem setExt : ext Tryz.f140 = ReflectliteValue.set := by kernel_rfl
/-- a method of a Value whose parts are known -/
theorem method_on (z : Sem Value) (f : TypeId → Addr → Nat → Nat → Sem Value) (v : Value) (t : TypeId) (a : Addr) (fl : Nat) (W : World) (h : (ReflectliteValue.parts v).run Tryz.prog W = .ok (some (t, a, fl)) W) :
    (ReflectliteValue.method z f #[v]).run Tryz.prog W = (f t a fl (fl % 32)).run Tryz.prog W := by
  obtain ⟨g, h1, h2⟩ : ∃ g : Option (TypeId × Addr × Nat) → Sem Value, ReflectliteValue.method z f #[v] = ReflectliteValue.parts v >>= g ∧ g (some (t, a, fl)) = f t a fl (fl % 32) := ⟨_, rfl, rfl⟩
  rw [h1, Sem.run_bind, h]
  simp only [Result.andThen, h2]
theorem isNilT (a p : Addr) (W : World) (ha : W.cell? a = some (.pointer (some p))) :
    (ext Tryz.f112 #[.agg #[.pointer (some ⟨7, 145, none⟩), .pointer (some a), .int .u64 150]]).run Tryz.prog W = .ok (.bool false) W := by
  rw [isNilExt, method_on _ _ _ _ _ _ _ (partsT a W)]
  simp [ReflectliteValue.isNil, loadVar, isAgg, underlying, Tryz.underlying145, ha, Result.andThen]
theorem elemV (a p : Addr) (W : World) (ha : W.cell? a = some (.pointer (some p))) :
    (ext Tryz.f139 #[.agg #[.pointer (some ⟨7, 145, none⟩), .pointer (some a), .int .u64 150]]).run Tryz.prog W = .ok (.agg #[.pointer (some ⟨7, 142, none⟩), .pointer (some p), .int .u64 406]) W := by
  rw [elemExt, method_on _ _ _ _ _ _ _ (partsT a W)]
  simp [ReflectliteValue.elem, loadVar, isAgg, underlying, Tryz.underlying145, ha, Result.andThen, elemOfT, mkM]
theorem set_on : ∃ (g : Option (TypeId × Addr × Nat) → Option (TypeId × Addr × Nat) → Sem Value) (k : Addr → Value → Bool → Sem Value), (∀ v x, ReflectliteValue.set #[v, x] = ReflectliteValue.parts v >>= fun o => ReflectliteValue.parts x >>= g o) ∧
    (∀ a b, g (some (142, a, 406)) (some (142, b, 150)) = loadVar 142 b >>= fun val => Rtype.directlyAssignable 142 142 >>= k a val) ∧ ∀ a val, k a val true = storeVar 142 a val >>= fun _ => pure (.tuple #[]) := ⟨_, _, fun _ _ => rfl, fun _ _ => rfl, fun _ _ => rfl⟩
theorem setM (ta b e : Addr) (old : Value) (W : World) (hb : W.cell? b = some (.pointer (some e))) (ht : W.cell? ta = some old) (hf : W.frozen? ta = false) :
    (ext Tryz.f140 #[.agg #[.pointer (some ⟨7, 142, none⟩), .pointer (some ta), .int .u64 406], .agg #[.pointer (some ⟨7, 142, none⟩), .pointer (some b), .int .u64 150]]).run Tryz.prog W = .ok (.tuple #[]) (W.setCell ta (.pointer (some e))) := by
  obtain ⟨g, k, h1, h2, h3⟩ := set_on
  rw [setExt, h1]
  simp only [Sem.run_bind, partsV, partsE, Result.andThen, h2]
  simp [loadVar, isAgg, underlying, Tryz.underlying142, hb, Result.andThen, directM, h3, storeVar, Value.cells, storeCells, Addr.add]
  rw [run_store Tryz.prog W ta _ _ (by rfl)]
  simp [ht, hf]
end Go.Proofs.YtephkcdbnogdhaaGreatDoor.Er
/- Errors with where they were, in memory; what may turn. -/
set_option linter.unusedVariables false
namespace Go.Proofs.YtephkcdbnogdhaaGreatDoor.Er
open Go.RowKit
theorem cell_lt {w : World} {a : Addr} {v : Value} (h : w.cell? a = some v) : a.block < w.heap.size := by
  rcases Nat.lt_or_ge a.block w.heap.size with h' | h'
  · exact h'
  · simp [World.cell?, Array.getElem?_eq_none h'] at h
theorem cell_alloc {w : World} {a : Addr} {v : Value} (h : w.cell? a = some v) (o : Obj) : (w.alloc o).cell? a = some v := by
  rw [World.cell?_alloc_lt _ _ a (cell_lt h)]; exact h
theorem frozen_alloc {w : World} {a : Addr} {v : Value} (h : w.cell? a = some v) (o : Obj) (hf : w.frozen? a = false) : (w.alloc o).frozen? a = false := by
  rw [World.frozen?_alloc_old _ _ a (Nat.ne_of_lt (cell_lt h))]; exact hf
end Go.Proofs.YtephkcdbnogdhaaGreatDoor.Er
namespace Go.Proofs.YtephkcdbnogdhaaGreatDoor.Pr
open Go.RowKit
theorem cell_of {w : World} {b : Nat} {cur : Array Value} {T : TypeId} (h : w.heap[b]? = some (.cells cur T (0, 0))) (o : Nat) : w.cell? ⟨b, o, none⟩ = cur[o]? ∧ w.frozen? ⟨b, o, none⟩ = false := by
  constructor
  · simp [World.cell?, h]
  · simp [World.frozen?, h]
theorem set_of {w : World} {b : Nat} {cur : Array Value} {T : TypeId} (h : w.heap[b]? = some (.cells cur T (0, 0))) (o : Nat) (x : Value) : (w.setCell ⟨b, o, none⟩ x).heap[b]? = some (.cells (cur.setIfInBounds o x) T (0, 0)) := by
  simp [World.setCell, Array.getElem?_modify, h]
theorem set_other {w : World} {b k : Nat} (o : Nat) (x : Value) (hk : k ≠ b) : (w.setCell ⟨b, o, none⟩ x).heap[k]? = w.heap[k]? := Below.heap_setCell w ⟨b, o, none⟩ x k hk
theorem lt_of_some {w : World} {b : Nat} {o : Obj} (h : w.heap[b]? = some o) : b < w.heap.size := (Array.getElem?_eq_some_iff.1 h).1
/-- but for the blocks of S nothing old has turned -/
structure Fr (S : Nat → Prop) (w w' : World) : Prop where
  os : w'.os = w.os
  tape : w'.tape = w.tape
  output : w'.output = w.output
  size : w.heap.size ≤ w'.heap.size
  block : ∀ k, k < w.heap.size → ¬ S k → w'.heap[k]? = w.heap[k]?
theorem Fr.refl (S : Nat → Prop) (w : World) : Fr S w w := ⟨rfl, rfl, rfl, Nat.le_refl _, fun _ _ _ => rfl⟩
theorem Fr.trans {S : Nat → Prop} {u v w : World} (h : Fr S u v) (k : Fr S v w) : Fr S u w :=
  ⟨k.os.trans h.os, k.tape.trans h.tape, k.output.trans h.output, Nat.le_trans h.size k.size, fun i hi a => (k.block i (Nat.lt_of_lt_of_le hi h.size) a).trans (h.block i hi a)⟩
theorem Fr.drewN {S : Nat → Prop} {u v : World} (h : Fr S u v) (n : Nat) : Fr S u (v.drewN n) := ⟨h.os, h.tape, h.output, h.size, h.block⟩
theorem Fr.drew {S : Nat → Prop} {u v : World} (h : Fr S u v) : Fr S u v.drew := ⟨h.os, h.tape, h.output, h.size, h.block⟩
theorem Fr.set {S : Nat → Prop} {u v : World} (h : Fr S u v) (b o : Nat) (hb : S b) (x : Value) : Fr S u (v.setCell ⟨b, o, none⟩ x) :=
  ⟨h.os, h.tape, h.output, by simpa using h.size, fun k hk a => (Below.heap_setCell v ⟨b, o, none⟩ x k (fun e => a (e ▸ hb))).trans (h.block k hk a)⟩
theorem Fr.setNew {S : Nat → Prop} {u v : World} (h : Fr S u v) (b o : Nat) (hb : u.heap.size ≤ b) (x : Value) : Fr S u (v.setCell ⟨b, o, none⟩ x) :=
  ⟨h.os, h.tape, h.output, by simpa using h.size, fun k hk a => (Below.heap_setCell v ⟨b, o, none⟩ x k (show k ≠ b by omega)).trans (h.block k hk a)⟩
theorem Fr.alloc {S : Nat → Prop} {u v : World} (h : Fr S u v) (o : Obj) : Fr S u (v.alloc o) :=
  ⟨h.os, h.tape, h.output, by have := h.size; simp; omega, fun k hk a => (Below.heap_alloc v o k (Nat.lt_of_lt_of_le hk h.size)).trans (h.block k hk a)⟩
theorem Fr.mono {S R : Nat → Prop} {u v : World} (h : Fr S u v) (hs : ∀ k, S k → R k) : Fr R u v := ⟨h.os, h.tape, h.output, h.size, fun k hk a => h.block k hk (fun e => a (hs k e))⟩
theorem Fr.of_below {S : Nat → Prop} {u v : World} (h : Below u.heap.size u v) : Fr S u v := ⟨h.os, h.tape, h.output, h.size, fun k hk _ => h.block k hk⟩
/-- places around an error of a kind -/
def Lay (Q : TypeId → Addr → Prop) (w : World) : Nat → TypeId → Addr → Prop
  | 0, T, a => Q T a
  | n + 1, T, a => T = 214 ∧ ∃ b u m T' a', a = ⟨b, 0, none⟩ ∧ w.heap[b]? = some (.cells #[u, m, .iface T' (.pointer (some a'))] 216 (0, 0)) ∧ Lay Q w n T' a'
theorem Lay.over {Q : TypeId → Addr → Prop} {w w' : World} (hb : ∀ (k : Nat) (cur : Array Value) (f : Nat × Nat), w.heap[k]? = some (Obj.cells cur 216 f) → w'.heap[k]? = w.heap[k]?) : ∀ {n : Nat} {T : TypeId} {a : Addr}, Lay Q w n T a → Lay Q w' n T a
  | 0, _, _, h => h
  | n + 1, _, _, ⟨h1, b, u, m, T', a', h2, h3, h4⟩ => ⟨h1, b, u, m, T', a', h2, (hb b _ _ h3).trans h3, Lay.over hb h4⟩
theorem Lay.grow {Q : TypeId → Addr → Prop} {w w' : World} (hb : ∀ k, k < w.heap.size → w'.heap[k]? = w.heap[k]?) {n : Nat} {T : TypeId} {a : Addr} (h : Lay Q w n T a) : Lay Q w' n T a := h.over (fun k _ _ e => hb k (lt_of_some e))
/-- a stream that is not as it must be -/
def IsMal (w : World) (T : TypeId) (a : Addr) : Prop := ∃ n, Lay (fun T _ => T = 142) w n T a
/-- a source that has failed -/
def IsFld (fb : Addr) (w : World) (T : TypeId) (a : Addr) : Prop := ∃ n, Lay (fun T a => (T = 362 ∧ a = fb) ∨ T = 376) w n T a
theorem IsMal.mk (w : World) (a : Addr) : IsMal w 142 a := ⟨0, rfl⟩
theorem IsMal.over {w w' : World} {T : TypeId} {a : Addr} (h : IsMal w T a) (hb : ∀ (k : Nat) (cur : Array Value) (f : Nat × Nat), w.heap[k]? = some (Obj.cells cur 216 f) → w'.heap[k]? = w.heap[k]?) : IsMal w' T a := by
  obtain ⟨n, h⟩ := h; exact ⟨n, h.over hb⟩
theorem IsFld.over {fb : Addr} {w w' : World} {T : TypeId} {a : Addr} (h : IsFld fb w T a) (hb : ∀ (k : Nat) (cur : Array Value) (f : Nat × Nat), w.heap[k]? = some (Obj.cells cur 216 f) → w'.heap[k]? = w.heap[k]?) : IsFld fb w' T a := by
  obtain ⟨n, h⟩ := h; exact ⟨n, h.over hb⟩
theorem IsMal.grow {w w' : World} {T : TypeId} {a : Addr} (h : IsMal w T a) (hb : ∀ k, k < w.heap.size → w'.heap[k]? = w.heap[k]?) : IsMal w' T a := h.over (fun k _ _ e => hb k (lt_of_some e))
theorem IsFld.grow {fb : Addr} {w w' : World} {T : TypeId} {a : Addr} (h : IsFld fb w T a) (hb : ∀ k, k < w.heap.size → w'.heap[k]? = w.heap[k]?) : IsFld fb w' T a := h.over (fun k _ _ e => hb k (lt_of_some e))
/-- two blocks of different types are two -/
theorem ne_of_type {w : World} {a b : Nat} {x y : Array Value} {S T : TypeId} {f g : Nat × Nat} (h1 : w.heap[a]? = some (.cells x S f)) (h2 : w.heap[b]? = some (.cells y T g)) (h : S ≠ T) : a ≠ b := by
  rintro rfl
  rw [h1] at h2
  simp at h2
  exact h h2.2.1
end Go.Proofs.YtephkcdbnogdhaaGreatDoor.Pr
/- The walks of errors.as and errors.As at places around a *Malformed, however many; of fault.Errno. -/
set_option linter.unusedVariables false
namespace Go.Proofs.YtephkcdbnogdhaaGreatDoor.Pr
open Go.RowKit
/-- that which is no place -/
def Bare (Q : TypeId → Addr → Prop) : Prop := ∀ T a, Q T a → T ≠ 214
theorem Lay.unique {Q : TypeId → Addr → Prop} (hQ : Bare Q) {w : World} : ∀ {n m : Nat} {T : TypeId} {a : Addr}, Lay Q w n T a → Lay Q w m T a → n = m
  | 0, 0, _, _, _, _ => rfl
  | 0, m + 1, T, a, h, h' => absurd h'.1 (hQ T a h)
  | n + 1, 0, T, a, h, h' => absurd h.1 (hQ T a h')
  | n + 1, m + 1, T, a, ⟨_, b, u, k, T', a', h2, h3, h4⟩, ⟨_, b', u', k', T'', a'', h2', h3', h4'⟩ => by
    rw [h2] at h2'
    injection h2' with e1
    subst e1
    rw [h3] at h3'
    simp at h3'
    obtain ⟨_, _, e2, e3⟩ := h3'
    subst e2 e3
    rw [Lay.unique hQ h4 h4']
open Classical in
/-- how many places are around it -/
noncomputable def depV (Q : TypeId → Addr → Prop) (w : World) (v : Value) : Nat := if h : ∃ n T a, v = .iface T (.pointer (some a)) ∧ Lay Q w n T a then h.choose else 0
theorem depV_of {Q : TypeId → Addr → Prop} (hQ : Bare Q) {w : World} {n : Nat} {T : TypeId} {a : Addr} (h : Lay Q w n T a) : depV Q w (.iface T (.pointer (some a))) = n := by
  have hx : ∃ n T' a', Value.iface T (.pointer (some a)) = .iface T' (.pointer (some a')) ∧ Lay Q w n T' a' := ⟨n, T, a, rfl, h⟩
  unfold depV
  rw [dif_pos hx]
  obtain ⟨T', a', e, h'⟩ := hx.choose_spec
  injection e with e1 e2
  injection e2 with e2
  injection e2 with e2
  subst e1 e2
  exact Lay.unique hQ h' h
def QM (T : TypeId) (_ : Addr) : Prop := T = 142
theorem QM_bare : Bare QM := fun T a h => by unfold QM at h; rw [h]; decide
end Go.Proofs.YtephkcdbnogdhaaGreatDoor.Pr
namespace Go.Proofs.YtephkcdbnogdhaaGreatDoor.Er
open Go.RowKit Go.Extern.Stop Go.Stop Go.Extern
open Pr (Lay QM depV depV_of QM_bare)
set_option maxRecDepth 100000 in
set_option maxHeartbeats 4000000 in
theorem as_any (B : Nat) (n : Nat) (T : TypeId) (a t va : Addr) (old : Value) (w : World) (h : Lay QM w n T a) (hv : w.cell? va = some (.pointer (some t))) (ht : w.cell? t = some old) (hf : w.frozen? t = false) (hB : B ≤ t.block) :
    Calls Tryz.prog 113 #[.iface T (.pointer (some a)), .iface 145 (.pointer (some t)), .agg #[.pointer (some ⟨7, 145, none⟩), .pointer (some va), .int .u64 150], .iface 238 (.agg #[.pointer (some ⟨7, 142, none⟩)])] w fun e w' => e = .returned (.bool true) ∧ Below B w w' := by
  have hBs : B ≤ w.heap.size := Nat.le_trans hB (Nat.le_of_lt (cell_lt ht))
  have r1 := run_TypeOf
  have r2 := run_AssignableTo
  have r3 := run_VElem
  have r4 := run_ValueOf
  have r5 := run_VSet
  have m1 := methodAssignableTo
  have m2 := methodUnwrap
  have f1 := typeOfM
  have f2 := typeOfP
  have f3 := assignM
  have f4 := assignP
  have f5 := valueOfM
  have f6 := noAsP
  have f7 := hasUnwrapP
  have el := elemV va t (w.alloc (.cells #[.pointer (some ⟨7, 145, none⟩), .pointer (some va), .int .u64 150] 197)) (cell_alloc hv _)
  have st := fun m => setM t ⟨w.heap.size + 1, 0, none⟩ m old ((w.alloc (.cells #[.pointer (some ⟨7, 145, none⟩), .pointer (some va), .int .u64 150] 197)).alloc (.cells #[.pointer (some m)] 142))
    (by rw [World.cell?_alloc_at _ _ _ _ (by simp)]; rfl) (cell_alloc (cell_alloc ht _) _) (frozen_alloc (cell_alloc ht _) _ (frozen_alloc ht _ hf))
  have h0 : Lay QM (w.alloc (.cells #[.pointer (some ⟨7, 145, none⟩), .pointer (some va), .int .u64 150] 197)) n T a := h.grow (fun k hk => Below.heap_alloc w _ k hk)
  clear h
  go_enter Tryz.func113, Tryz.ntmps113
  go_wp2_with fail
  go_loop [0] (fun v => ∃ n T a, v = .iface T (.pointer (some a)) ∧ Lay QM (w.alloc (.cells #[.pointer (some ⟨7, 145, none⟩), .pointer (some va), .int .u64 150] 197)) n T a) (fun v => depV QM (w.alloc (.cells #[.pointer (some ⟨7, 145, none⟩), .pointer (some va), .int .u64 150] 197)) v)
  case atStart => exact ⟨n, T, a, rfl, h0⟩
  case round =>
    clear h0
    obtain ⟨n, T, a, rfl, h⟩ := hrel
    have HD : Hid _ := depV_of QM_bare h
    cases n with
    | zero =>
      have hT : T = 142 := h
      subst hT
      clear h
      go_wp2
      go_ret
      exact ⟨rfl, (((Below.refl _ _).alloc hBs _).alloc (by simp; omega) _).setCell hB _⟩
    | succ n =>
      obtain ⟨hT, b, u, k, T', a', rfl, h3, h4⟩ := h
      subst hT
      have c0 : (w.alloc (.cells #[.pointer (some ⟨7, 145, none⟩), .pointer (some va), .int .u64 150] 197)).cell? ⟨b, 2, none⟩ = some (.iface T' (.pointer (some a'))) := by simpa using (Pr.cell_of h3 2).1
      have HD2 : Hid _ := depV_of QM_bare h4
      have H4 : Hid _ := h4
      clear h3 h4
      go_wp2
      go_round
      case rel => exact ⟨n, T', a', rfl, H4.out⟩
      case measure =>
        show depV QM _ (Value.iface T' (.pointer (some a'))) < _
        rw [HD2.out, HD.out]; omega
set_option maxRecDepth 100000 in
set_option maxHeartbeats 4000000 in
theorem As_any (B : Nat) (n : Nat) (T : TypeId) (a t : Addr) (old : Value) (w : World) (hE : w.cell? ⟨3, 0, none⟩ = some (.iface 238 (.agg #[.pointer (some ⟨7, 80, none⟩)]))) (h : Lay QM w n T a) (ht : w.cell? t = some old) (hf : w.frozen? t = false) (hB : B ≤ t.block) :
    Calls Tryz.prog 77 #[.iface T (.pointer (some a)), .iface 145 (.pointer (some t))] w fun e w' => e = .returned (.bool true) ∧ Below B w w' := by
  have hBs : B ≤ w.heap.size := Nat.le_trans hB (Nat.le_of_lt (cell_lt ht))
  have r4 := run_ValueOf
  have r6 := run_VType
  have r7 := run_Kind
  have r8 := run_IsNil
  have r9 := run_Elem
  have r10 := run_Implements
  have m1 := methodKind
  have m2 := methodElem
  have m3 := methodImplements
  have f1 := valueOfT
  have f2 := typeT
  have f3 := kindT
  have f4 := kindM
  have f5 := elemT
  have f6 := implementsM
  have nl := isNilT ⟨w.heap.size, 0, none⟩ t ((w.alloc (.cells #[.pointer (some t)] 145)).alloc (.cells #[.pointer (some ⟨7, 145, none⟩), .pointer (some ⟨w.heap.size, 0, none⟩), .int .u64 150] 197)) (by simp)
  have hE2 := cell_alloc (cell_alloc hE (.cells #[.pointer (some t)] 145)) (.cells #[.pointer (some ⟨7, 145, none⟩), .pointer (some ⟨w.heap.size, 0, none⟩), .int .u64 150] 197)
  have H : Hid _ := h
  clear h
  go_enter Tryz.func77, Tryz.ntmps77
  go_wp2_with fail
  refine (as_any B n T a t _ old _ ?_ ?_ ?_ ?_ hB).mono ?_
  · exact H.out.grow (fun k hk => (Below.heap_alloc _ _ k (by simp; omega)).trans (Below.heap_alloc w _ k hk))
  · simp
  · exact cell_alloc (cell_alloc ht _) _
  · exact frozen_alloc (cell_alloc ht _) _ (frozen_alloc ht _ hf)
  rintro e w' ⟨rfl, hb⟩
  go_wp2
  go_ret
  exact ⟨rfl, (((Below.refl _ _).alloc hBs _).alloc (by simp; omega) _).trans hb⟩
end Go.Proofs.YtephkcdbnogdhaaGreatDoor.Er
namespace Go.Proofs.YtephkcdbnogdhaaGreatDoor.Pr
open Go.RowKit
/-- fault.Failed as the program's text lays it -/
def FailedIs (w : World) (fb : Addr) : Prop := w.cell? ⟨0, 0, none⟩ = some (.iface 362 (.pointer (some fb)))
/-- the type of errors as the program's text lays it, and fault.Failed -/
def TypeIs (w : World) : Prop := (∃ fb, FailedIs w fb) ∧ w.cell? ⟨3, 0, none⟩ = some (.iface 238 (.agg #[.pointer (some ⟨7, 80, none⟩)]))
theorem cell_same {w w' : World} {k o : Nat} (h : w'.heap[k]? = w.heap[k]?) : w'.cell? ⟨k, o, none⟩ = w.cell? ⟨k, o, none⟩ := by simp [World.cell?, h]
theorem FailedIs.over {w w' : World} {fb : Addr} (h : FailedIs w fb) (e : w'.heap[0]? = w.heap[0]?) : FailedIs w' fb := (cell_same e).trans h
theorem TypeIs.over {w w' : World} (h : TypeIs w) (e : ∀ k, k < 7 → w'.heap[k]? = w.heap[k]?) : TypeIs w' := ⟨h.1.imp (fun fb h => h.over (e _ (by decide))), (cell_same (e _ (by decide))).trans h.2⟩
end Go.Proofs.YtephkcdbnogdhaaGreatDoor.Pr
/- The walks of errors.is and errors.Is at places around a *Malformed or around what says that a source has failed; of fault.Errno. -/
set_option linter.unusedVariables false
namespace Go.Proofs.YtephkcdbnogdhaaGreatDoor.Er
open Go.RowKit Go.Extern.Stop Go.Stop Go.Extern
open Pr (Lay QM depV depV_of QM_bare Bare)
theorem eqlP (v v' : Value) (w : World) : (binOp .eql 80 (.iface 214 v) (.iface 362 v')).run Tryz.prog w = .ok (.bool false) w := run_eql_iface_types _ _ v v' Tryz.underlying80 (by decide) w
theorem eqlM (v v' : Value) (w : World) : (binOp .eql 80 (.iface 142 v) (.iface 362 v')).run Tryz.prog w = .ok (.bool false) w := run_eql_iface_types _ _ v v' Tryz.underlying80 (by decide) w
theorem eqlS (v v' : Value) (w : World) : (binOp .eql 80 (.iface 376 v) (.iface 362 v')).run Tryz.prog w = .ok (.bool false) w := run_eql_iface_types _ _ v v' Tryz.underlying80 (by decide) w
theorem eqlE (a : Addr) (w : World) : (binOp .eql 80 (.iface 362 (.pointer (some a))) (.iface 362 (.pointer (some a)))).run Tryz.prog w = .ok (.bool true) w := by
  obtain ⟨i, hi, hcmp⟩ := Option.map_eq_some_iff.1 isComp
  obtain ⟨j, hj, hjs⟩ := Option.map_eq_some_iff.1 isSize
  exact run_eql_iface_ptr_same (P := Tryz.prog) w a Tryz.underlying80 Tryz.underlying362 hi hcmp hj
theorem noIsP (v : Value) (xT : TypeId) (w : World) : (Instr.typeAssert (.iface 214 v) xT 240 true).run Tryz.prog w = .ok (.tuple #[.nilIface, .bool false]) w := run_typeAssert_lacksB Tryz.underlying240 (by kernel_rfl) (by kernel_rfl) v xT w
theorem noIsM (v : Value) (xT : TypeId) (w : World) : (Instr.typeAssert (.iface 142 v) xT 240 true).run Tryz.prog w = .ok (.tuple #[.nilIface, .bool false]) w := run_typeAssert_lacksB Tryz.underlying240 (by kernel_rfl) (by kernel_rfl) v xT w
theorem noIsS (v : Value) (xT : TypeId) (w : World) : (Instr.typeAssert (.iface 376 v) xT 240 true).run Tryz.prog w = .ok (.tuple #[.nilIface, .bool false]) w := run_typeAssert_lacksB Tryz.underlying240 (by kernel_rfl) (by kernel_rfl) v xT w
theorem noUnwrapM (v : Value) (xT : TypeId) (w : World) : (Instr.typeAssert (.iface 142 v) xT 243 true).run Tryz.prog w = .ok (.tuple #[.nilIface, .bool false]) w := run_typeAssert_lacksB Tryz.underlying243 (by kernel_rfl) (by kernel_rfl) v xT w
theorem noUnwrapsM (v : Value) (xT : TypeId) (w : World) : (Instr.typeAssert (.iface 142 v) xT 244 true).run Tryz.prog w = .ok (.tuple #[.nilIface, .bool false]) w := run_typeAssert_lacksB Tryz.underlying244 (by kernel_rfl) (by kernel_rfl) v xT w
theorem hasUnwrapS (v : Value) (xT : TypeId) (w : World) : (Instr.typeAssert (.iface 376 v) xT 243 true).run Tryz.prog w = .ok (.tuple #[.iface 376 v, .bool true]) w := run_typeAssert_hasB Tryz.underlying243 (by kernel_rfl) v xT w
theorem methodUnwrapS (v : Value) (w : World) : (Go.method 494 376 v "Unwrap").run Tryz.prog w = .ok (288, v) w := by kernel_rfl
set_option maxRecDepth 100000 in
set_option maxHeartbeats 4000000 in
/-- places around a *Malformed are no sentinel -/
theorem is_mal (n : Nat) (T : TypeId) (a t : Addr) (w : World) (h : Lay QM w n T a) :
    Calls Tryz.prog 109 #[.iface T (.pointer (some a)), .iface 362 (.pointer (some t)), .bool true] w fun e w' => e = .returned (.bool false) ∧ w' = w := by
  have e1 := eqlP
  have e2 := eqlM
  have i1 := noIsP
  have i2 := noIsM
  have u1 := hasUnwrapP
  have u2 := noUnwrapM
  have u3 := noUnwrapsM
  have m2 := methodUnwrap
  go_enter Tryz.func109, Tryz.ntmps109
  go_wp2_with fail
  go_loop [0] (fun v => ∃ n T a, v = .iface T (.pointer (some a)) ∧ Lay QM w n T a) (fun v => depV QM w v)
  case atStart => exact ⟨n, T, a, rfl, h⟩
  case round =>
    clear h
    obtain ⟨n, T, a, rfl, h⟩ := hrel
    have HD : Hid _ := depV_of QM_bare h
    cases n with
    | zero =>
      have hT : T = 142 := h
      subst hT
      clear h
      go_wp2
      go_ret
      exact ⟨rfl, rfl⟩
    | succ n =>
      obtain ⟨hT, b, u, k, T', a', rfl, h3, h4⟩ := h
      subst hT
      have c0 : w.cell? ⟨b, 2, none⟩ = some (.iface T' (.pointer (some a'))) := by simpa using (Pr.cell_of h3 2).1
      have HD2 : Hid _ := depV_of QM_bare h4
      have H4 : Hid _ := h4
      clear h3 h4
      go_wp2
      go_round
      case rel => exact ⟨n, T', a', rfl, H4.out⟩
      case measure =>
        show depV QM _ (Value.iface T' (.pointer (some a'))) < _
        rw [HD2.out, HD.out]; omega
/-- what says that a source has failed, itself -/
def QF (fb : Addr) (T : TypeId) (a : Addr) : Prop := (T = 362 ∧ a = fb) ∨ T = 376
theorem QF_bare (fb : Addr) : Bare (QF fb) := fun T a h => by
  rcases h with ⟨h, _⟩ | h
  · rw [h]; decide
  · rw [h]; decide
open Classical in
/-- how many rounds there are -/
noncomputable def depF (fb : Addr) (w : World) (v : Value) : Nat := 2 * depV (QF fb) w v + if v = .iface 362 (.pointer (some fb)) then 0 else 1
set_option maxRecDepth 100000 in
set_option maxHeartbeats 4000000 in
theorem is_fld (n : Nat) (T : TypeId) (a fb : Addr) (w : World) (h : Lay (QF fb) w n T a) (hF : w.cell? ⟨0, 0, none⟩ = some (.iface 362 (.pointer (some fb)))) :
    Calls Tryz.prog 109 #[.iface T (.pointer (some a)), .iface 362 (.pointer (some fb)), .bool true] w fun e w' => e = .returned (.bool true) ∧ w' = w := by
  have e1 := eqlP
  have e2 := eqlE fb
  have e3 := eqlS
  have i1 := noIsP
  have i2 := noIsS
  have u1 := hasUnwrapP
  have u2 := hasUnwrapS
  have m2 := methodUnwrap
  have m3 := methodUnwrapS
  go_enter Tryz.func109, Tryz.ntmps109
  go_wp2_with fail
  go_loop [0] (fun v => ∃ n T a, v = .iface T (.pointer (some a)) ∧ Lay (QF fb) w n T a) (fun v => depF fb w v)
  case atStart => exact ⟨n, T, a, rfl, h⟩
  case round =>
    clear h
    obtain ⟨n, T, a, rfl, h⟩ := hrel
    have HD : Hid _ := depV_of (QF_bare fb) h
    cases n with
    | zero =>
      rcases h with ⟨hT, ha⟩ | hT
      · subst hT ha
        go_wp2
        go_ret
        exact ⟨rfl, rfl⟩
      · subst hT
        have H4 : Hid (Lay (QF fb) w 0 362 fb) := (.inl ⟨rfl, rfl⟩ : QF fb _ _)
        have HD2 : Hid _ := depV_of (QF_bare fb) H4.out
        go_wp2
        go_round
        case rel => exact ⟨0, _, fb, rfl, H4.out⟩
        case measure =>
          show depF fb _ (Value.iface 362 (.pointer (some fb))) < _
          unfold depF
          rw [HD2.out, HD.out, if_pos rfl, if_neg (fun e => by injection e with e _; revert e; decide)]; omega
    | succ n =>
      obtain ⟨hT, b, u, k, T', a', rfl, h3, h4⟩ := h
      subst hT
      have c0 : w.cell? ⟨b, 2, none⟩ = some (.iface T' (.pointer (some a'))) := by simpa using (Pr.cell_of h3 2).1
      have HD2 : Hid _ := depV_of (QF_bare fb) h4
      have H4 : Hid _ := h4
      clear h3 h4
      go_wp2
      go_round
      case rel => exact ⟨n, T', a', rfl, H4.out⟩
      case measure =>
        show depF fb _ (Value.iface T' (.pointer (some a'))) < _
        unfold depF
        rw [HD2.out, HD.out, if_neg (c := Value.iface 214 _ = _) (fun e => by injection e with e _; revert e; decide)]
        split <;> omega
set_option maxRecDepth 100000 in
theorem Is_by (r : Bool) (T : TypeId) (a t : Addr) (w : World) (h : Calls Tryz.prog 109 #[.iface T (.pointer (some a)), .iface 362 (.pointer (some t)), .bool true] w fun e w' => e = .returned (.bool r) ∧ w' = w) :
    Calls Tryz.prog 76 #[.iface T (.pointer (some a)), .iface 362 (.pointer (some t))] w fun e w' => e = .returned (.bool r) ∧ w' = w := by
  have h8 := run_TypeOf
  have h32 := run_Comparable
  have tT := isTypeOf
  have cT := isComparable
  have mR := isMethodComparable
  go_enter Tryz.func76, Tryz.ntmps76
  go_wp2_with fail
  refine h.mono ?_
  rintro e w' ⟨rfl, rfl⟩
  go_wp2_with fail
  go_ret
  exact ⟨rfl, rfl⟩
end Go.Proofs.YtephkcdbnogdhaaGreatDoor.Er
namespace Go.Proofs.YtephkcdbnogdhaaGreatDoor.Pr
open Go.RowKit
set_option maxRecDepth 10000 in
set_option maxHeartbeats 2000000 in
theorem errno_mal (T : TypeId) (a : Addr) (w : World) (hE : TypeIs w) (h : IsMal w T a) :
    Calls Tryz.prog 42 #[.iface T (.pointer (some a))] w fun e w' => e = .returned (.int .i64 3) ∧ Below w.heap.size w w' := by
  obtain ⟨n, h⟩ := h
  obtain ⟨⟨fb, hF⟩, hE⟩ := hE
  have hE2 := Er.cell_alloc hE (.cells #[.pointer none] 142)
  have hF2 := Er.cell_alloc hF (.cells #[.pointer none] 142)
  have H0 : Hid (Lay QM (w.alloc (.cells #[.pointer none] 142)) n T a) := Lay.grow (fun k hk => Below.heap_alloc w _ k hk) h
  have HB : Hid (Below w.heap.size w (w.alloc (.cells #[.pointer none] 142))) := (Below.refl _ _).alloc (Nat.le_refl _) _
  clear h
  go_enter Tryz.func42, Tryz.ntmps42
  go_wp2_with fail
  refine (Er.Is_by false T a fb _ (Er.is_mal n T a fb _ H0.out)).mono ?_
  rintro e w' ⟨rfl, rfl⟩
  go_wp2_with fail
  refine (Er.As_any w.heap.size n T a ⟨w.heap.size, 0, none⟩ (.pointer none) _ hE2 H0.out (by simp) (by simp) (Nat.le_refl _)).mono ?_
  rintro e w' ⟨rfl, hb⟩
  go_wp2_with fail
  go_ret
  exact ⟨rfl, HB.out.trans hb⟩
set_option maxRecDepth 10000 in
set_option maxHeartbeats 2000000 in
theorem errno_fld (T : TypeId) (a fb : Addr) (w : World) (hF : FailedIs w fb) (h : IsFld fb w T a) :
    Calls Tryz.prog 42 #[.iface T (.pointer (some a))] w fun e w' => e = .returned (.int .i64 4) ∧ Below w.heap.size w w' := by
  obtain ⟨n, h⟩ := h
  have hF2 := Er.cell_alloc hF (.cells #[.pointer none] 142)
  have H0 : Hid (Lay (Er.QF fb) (w.alloc (.cells #[.pointer none] 142)) n T a) := Lay.grow (fun k hk => Below.heap_alloc w _ k hk) h
  have HB : Hid (Below w.heap.size w (w.alloc (.cells #[.pointer none] 142))) := (Below.refl _ _).alloc (Nat.le_refl _) _
  clear h
  go_enter Tryz.func42, Tryz.ntmps42
  go_wp2_with fail
  refine (Er.Is_by true T a fb _ (Er.is_fld n T a fb _ H0.out hF2)).mono ?_
  rintro e w' ⟨rfl, rfl⟩
  go_wp2_with fail
  go_ret
  exact ⟨rfl, HB.out⟩
end Go.Proofs.YtephkcdbnogdhaaGreatDoor.Pr
