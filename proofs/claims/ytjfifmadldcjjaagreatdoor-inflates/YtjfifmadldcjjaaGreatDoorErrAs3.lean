/- The walk of errors.As at a *Malformed beneath one, two or three *Place. -/
import Derived.Test.YtjfifmadldcjjaaGreatDoorErrAs2
namespace Go.Proofs.YtjfifmadldcjjaaGreatDoor.Er
open Go.RowKit Go.Extern.Stop Go.Stop Go.Extern
set_option maxRecDepth 100000 in
set_option maxHeartbeats 4000000 in
theorem As_1 (B p0 : Nat) (m t : Addr) (old : Value) (w : World) (hE : w.cell? ⟨1, 0, none⟩ = some (.iface 120 (.agg #[.pointer (some ⟨3, 34, none⟩)]))) (h0 : w.cell? ⟨p0, 2, none⟩ = some (.iface 62 (.pointer (some m)))) (ht : w.cell? t = some old) (hf : w.frozen? t = false) (hB : B ≤ t.block) :
    Calls Tryz.prog 22 #[.iface 112 (.pointer (some ⟨p0, 0, none⟩)), .iface 64 (.pointer (some t))] w fun e w' => e = .returned (.bool true) ∧ Below B w w' := by
  have hBs : B ≤ w.heap.size := Nat.le_trans hB (Nat.le_of_lt (cell_lt ht))
  have r4 := run_ValueOf
  have r6 := run_VType
  have r7 := run_Kind
  have r8 := run_IsNil
  have r9 := run_Elem
  have r10 := run_Implements
  have m1 := methodKind
  have m2 := methodElem
  have m3 := methodImplements
  have f1 := valueOfT
  have f2 := typeT
  have f3 := kindT
  have f4 := kindM
  have f5 := elemT
  have f6 := implementsM
  have nl := isNilT ⟨w.heap.size, 0, none⟩ t ((w.alloc (.cells #[.pointer (some t)] 64)).alloc (.cells #[.pointer (some ⟨3, 64, none⟩), .pointer (some ⟨w.heap.size, 0, none⟩), .int .u64 150] 86)) (by simp)
  have hE2 := cell_alloc (cell_alloc hE (.cells #[.pointer (some t)] 64)) (.cells #[.pointer (some ⟨3, 64, none⟩), .pointer (some ⟨w.heap.size, 0, none⟩), .int .u64 150] 86)
  go_enter Tryz.func22, Tryz.ntmps22
  go_wp2_with fail
  refine (as_1 B p0 m t _ old _ ?_ ?_ ?_ ?_ hB).mono ?_
  · exact cell_alloc (cell_alloc h0 _) _
  · simp
  · exact cell_alloc (cell_alloc ht _) _
  · exact frozen_alloc (cell_alloc ht _) _ (frozen_alloc ht _ hf)
  rintro e w' ⟨rfl, hb⟩
  go_wp2
  go_ret
  exact ⟨rfl, (((Below.refl _ _).alloc hBs _).alloc (by simp; omega) _).trans hb⟩
set_option maxRecDepth 100000 in
set_option maxHeartbeats 4000000 in
theorem As_2 (B p0 p1 : Nat) (m t : Addr) (old : Value) (w : World) (hE : w.cell? ⟨1, 0, none⟩ = some (.iface 120 (.agg #[.pointer (some ⟨3, 34, none⟩)]))) (h0 : w.cell? ⟨p0, 2, none⟩ = some (.iface 112 (.pointer (some ⟨p1, 0, none⟩)))) (h1 : w.cell? ⟨p1, 2, none⟩ = some (.iface 62 (.pointer (some m)))) (ht : w.cell? t = some old) (hf : w.frozen? t = false) (hB : B ≤ t.block) :
    Calls Tryz.prog 22 #[.iface 112 (.pointer (some ⟨p0, 0, none⟩)), .iface 64 (.pointer (some t))] w fun e w' => e = .returned (.bool true) ∧ Below B w w' := by
  have hBs : B ≤ w.heap.size := Nat.le_trans hB (Nat.le_of_lt (cell_lt ht))
  have r4 := run_ValueOf
  have r6 := run_VType
  have r7 := run_Kind
  have r8 := run_IsNil
  have r9 := run_Elem
  have r10 := run_Implements
  have m1 := methodKind
  have m2 := methodElem
  have m3 := methodImplements
  have f1 := valueOfT
  have f2 := typeT
  have f3 := kindT
  have f4 := kindM
  have f5 := elemT
  have f6 := implementsM
  have nl := isNilT ⟨w.heap.size, 0, none⟩ t ((w.alloc (.cells #[.pointer (some t)] 64)).alloc (.cells #[.pointer (some ⟨3, 64, none⟩), .pointer (some ⟨w.heap.size, 0, none⟩), .int .u64 150] 86)) (by simp)
  have hE2 := cell_alloc (cell_alloc hE (.cells #[.pointer (some t)] 64)) (.cells #[.pointer (some ⟨3, 64, none⟩), .pointer (some ⟨w.heap.size, 0, none⟩), .int .u64 150] 86)
  go_enter Tryz.func22, Tryz.ntmps22
  go_wp2_with fail
  refine (as_2 B p0 p1 m t _ old _ ?_ ?_ ?_ ?_ ?_ hB).mono ?_
  · exact cell_alloc (cell_alloc h0 _) _
  · exact cell_alloc (cell_alloc h1 _) _
  · simp
  · exact cell_alloc (cell_alloc ht _) _
  · exact frozen_alloc (cell_alloc ht _) _ (frozen_alloc ht _ hf)
  rintro e w' ⟨rfl, hb⟩
  go_wp2
  go_ret
  exact ⟨rfl, (((Below.refl _ _).alloc hBs _).alloc (by simp; omega) _).trans hb⟩
set_option maxRecDepth 100000 in
set_option maxHeartbeats 4000000 in
theorem As_3 (B p0 p1 p2 : Nat) (m t : Addr) (old : Value) (w : World) (hE : w.cell? ⟨1, 0, none⟩ = some (.iface 120 (.agg #[.pointer (some ⟨3, 34, none⟩)]))) (h0 : w.cell? ⟨p0, 2, none⟩ = some (.iface 112 (.pointer (some ⟨p1, 0, none⟩)))) (h1 : w.cell? ⟨p1, 2, none⟩ = some (.iface 112 (.pointer (some ⟨p2, 0, none⟩)))) (h2 : w.cell? ⟨p2, 2, none⟩ = some (.iface 62 (.pointer (some m)))) (ht : w.cell? t = some old) (hf : w.frozen? t = false) (hB : B ≤ t.block) :
    Calls Tryz.prog 22 #[.iface 112 (.pointer (some ⟨p0, 0, none⟩)), .iface 64 (.pointer (some t))] w fun e w' => e = .returned (.bool true) ∧ Below B w w' := by
  have hBs : B ≤ w.heap.size := Nat.le_trans hB (Nat.le_of_lt (cell_lt ht))
  have r4 := run_ValueOf
  have r6 := run_VType
  have r7 := run_Kind
  have r8 := run_IsNil
  have r9 := run_Elem
  have r10 := run_Implements
  have m1 := methodKind
  have m2 := methodElem
  have m3 := methodImplements
  have f1 := valueOfT
  have f2 := typeT
  have f3 := kindT
  have f4 := kindM
  have f5 := elemT
  have f6 := implementsM
  have nl := isNilT ⟨w.heap.size, 0, none⟩ t ((w.alloc (.cells #[.pointer (some t)] 64)).alloc (.cells #[.pointer (some ⟨3, 64, none⟩), .pointer (some ⟨w.heap.size, 0, none⟩), .int .u64 150] 86)) (by simp)
  have hE2 := cell_alloc (cell_alloc hE (.cells #[.pointer (some t)] 64)) (.cells #[.pointer (some ⟨3, 64, none⟩), .pointer (some ⟨w.heap.size, 0, none⟩), .int .u64 150] 86)
  go_enter Tryz.func22, Tryz.ntmps22
  go_wp2_with fail
  refine (as_3 B p0 p1 p2 m t _ old _ ?_ ?_ ?_ ?_ ?_ ?_ hB).mono ?_
  · exact cell_alloc (cell_alloc h0 _) _
  · exact cell_alloc (cell_alloc h1 _) _
  · exact cell_alloc (cell_alloc h2 _) _
  · simp
  · exact cell_alloc (cell_alloc ht _) _
  · exact frozen_alloc (cell_alloc ht _) _ (frozen_alloc ht _ hf)
  rintro e w' ⟨rfl, hb⟩
  go_wp2
  go_ret
  exact ⟨rfl, (((Below.refl _ _).alloc hBs _).alloc (by simp; omega) _).trans hb⟩
end Go.Proofs.YtjfifmadldcjjaaGreatDoor.Er
