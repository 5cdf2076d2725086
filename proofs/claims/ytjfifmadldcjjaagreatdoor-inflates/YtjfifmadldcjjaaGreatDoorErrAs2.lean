/- The walks of errors.as and errors.As at a *Malformed beneath one, two or three *Place. -/
import Derived.Test.YtjfifmadldcjjaaGreatDoorErrAs
namespace Go.Proofs.YtjfifmadldcjjaaGreatDoor.Er
open Go.RowKit Go.Extern.Stop Go.Stop Go.Extern
theorem cell_lt {w : World} {a : Addr} {v : Value} (h : w.cell? a = some v) : a.block < w.heap.size := by
  rcases Nat.lt_or_ge a.block w.heap.size with h' | h'
  · exact h'
  · simp [World.cell?, Array.getElem?_eq_none h'] at h
theorem cell_alloc {w : World} {a : Addr} {v : Value} (h : w.cell? a = some v) (o : Obj) : (w.alloc o).cell? a = some v := by
  rw [World.cell?_alloc_lt _ _ a (cell_lt h)]; exact h
theorem frozen_alloc {w : World} {a : Addr} {v : Value} (h : w.cell? a = some v) (o : Obj) (hf : w.frozen? a = false) : (w.alloc o).frozen? a = false := by
  rw [World.frozen?_alloc_old _ _ a (Nat.ne_of_lt (cell_lt h))]; exact hf
set_option maxRecDepth 100000 in
set_option maxHeartbeats 4000000 in
theorem as_1 (B p0 : Nat) (m t va : Addr) (old : Value) (w : World) (h0 : w.cell? ⟨p0, 2, none⟩ = some (.iface 62 (.pointer (some m)))) (hv : w.cell? va = some (.pointer (some t))) (ht : w.cell? t = some old) (hf : w.frozen? t = false) (hB : B ≤ t.block) :
    Calls Tryz.prog 40 #[.iface 112 (.pointer (some ⟨p0, 0, none⟩)), .iface 64 (.pointer (some t)), .agg #[.pointer (some ⟨3, 64, none⟩), .pointer (some va), .int .u64 150], .iface 120 (.agg #[.pointer (some ⟨3, 62, none⟩)])] w fun e w' => e = .returned (.bool true) ∧ Below B w w' := by
  have hBs : B ≤ w.heap.size := Nat.le_trans hB (Nat.le_of_lt (cell_lt ht))
  have r1 := run_TypeOf
  have r2 := run_AssignableTo
  have r3 := run_VElem
  have r4 := run_ValueOf
  have r5 := run_VSet
  have m1 := methodAssignableTo
  have m2 := methodUnwrap
  have f1 := typeOfM
  have f2 := typeOfP
  have f3 := assignM
  have f4 := assignP
  have f5 := valueOfM
  have f6 := noAsP
  have f7 := hasUnwrapP
  have el := elemV va t (w.alloc (.cells #[.pointer (some ⟨3, 64, none⟩), .pointer (some va), .int .u64 150] 86)) (cell_alloc hv _)
  have st := setM t ⟨w.heap.size + 1, 0, none⟩ m old ((w.alloc (.cells #[.pointer (some ⟨3, 64, none⟩), .pointer (some va), .int .u64 150] 86)).alloc (.cells #[.pointer (some m)] 62))
    (by rw [World.cell?_alloc_at _ _ _ _ (by simp)]; rfl) (cell_alloc (cell_alloc ht _) _) (frozen_alloc (cell_alloc ht _) _ (frozen_alloc ht _ hf))
  have c0 := cell_alloc h0 (.cells #[.pointer (some ⟨3, 64, none⟩), .pointer (some va), .int .u64 150] 86)
  go_enter Tryz.func40, Tryz.ntmps40
  go_wp2
  refine wp_loop_rounds 2 ?_
  rw [rounds_succ]
  go_wp2
  rw [rounds_succ]
  go_wp2
  go_ret
  exact ⟨rfl, (((Below.refl _ _).alloc hBs _).alloc (by simp; omega) _).setCell hB _⟩
set_option maxRecDepth 100000 in
set_option maxHeartbeats 4000000 in
theorem as_2 (B p0 p1 : Nat) (m t va : Addr) (old : Value) (w : World) (h0 : w.cell? ⟨p0, 2, none⟩ = some (.iface 112 (.pointer (some ⟨p1, 0, none⟩)))) (h1 : w.cell? ⟨p1, 2, none⟩ = some (.iface 62 (.pointer (some m)))) (hv : w.cell? va = some (.pointer (some t))) (ht : w.cell? t = some old) (hf : w.frozen? t = false) (hB : B ≤ t.block) :
    Calls Tryz.prog 40 #[.iface 112 (.pointer (some ⟨p0, 0, none⟩)), .iface 64 (.pointer (some t)), .agg #[.pointer (some ⟨3, 64, none⟩), .pointer (some va), .int .u64 150], .iface 120 (.agg #[.pointer (some ⟨3, 62, none⟩)])] w fun e w' => e = .returned (.bool true) ∧ Below B w w' := by
  have hBs : B ≤ w.heap.size := Nat.le_trans hB (Nat.le_of_lt (cell_lt ht))
  have r1 := run_TypeOf
  have r2 := run_AssignableTo
  have r3 := run_VElem
  have r4 := run_ValueOf
  have r5 := run_VSet
  have m1 := methodAssignableTo
  have m2 := methodUnwrap
  have f1 := typeOfM
  have f2 := typeOfP
  have f3 := assignM
  have f4 := assignP
  have f5 := valueOfM
  have f6 := noAsP
  have f7 := hasUnwrapP
  have el := elemV va t (w.alloc (.cells #[.pointer (some ⟨3, 64, none⟩), .pointer (some va), .int .u64 150] 86)) (cell_alloc hv _)
  have st := setM t ⟨w.heap.size + 1, 0, none⟩ m old ((w.alloc (.cells #[.pointer (some ⟨3, 64, none⟩), .pointer (some va), .int .u64 150] 86)).alloc (.cells #[.pointer (some m)] 62))
    (by rw [World.cell?_alloc_at _ _ _ _ (by simp)]; rfl) (cell_alloc (cell_alloc ht _) _) (frozen_alloc (cell_alloc ht _) _ (frozen_alloc ht _ hf))
  have c0 := cell_alloc h0 (.cells #[.pointer (some ⟨3, 64, none⟩), .pointer (some va), .int .u64 150] 86)
  have c1 := cell_alloc h1 (.cells #[.pointer (some ⟨3, 64, none⟩), .pointer (some va), .int .u64 150] 86)
  go_enter Tryz.func40, Tryz.ntmps40
  go_wp2
  refine wp_loop_rounds 3 ?_
  rw [rounds_succ]
  go_wp2
  rw [rounds_succ]
  go_wp2
  rw [rounds_succ]
  go_wp2
  go_ret
  exact ⟨rfl, (((Below.refl _ _).alloc hBs _).alloc (by simp; omega) _).setCell hB _⟩
set_option maxRecDepth 100000 in
set_option maxHeartbeats 4000000 in
theorem as_3 (B p0 p1 p2 : Nat) (m t va : Addr) (old : Value) (w : World) (h0 : w.cell? ⟨p0, 2, none⟩ = some (.iface 112 (.pointer (some ⟨p1, 0, none⟩)))) (h1 : w.cell? ⟨p1, 2, none⟩ = some (.iface 112 (.pointer (some ⟨p2, 0, none⟩)))) (h2 : w.cell? ⟨p2, 2, none⟩ = some (.iface 62 (.pointer (some m)))) (hv : w.cell? va = some (.pointer (some t))) (ht : w.cell? t = some old) (hf : w.frozen? t = false) (hB : B ≤ t.block) :
    Calls Tryz.prog 40 #[.iface 112 (.pointer (some ⟨p0, 0, none⟩)), .iface 64 (.pointer (some t)), .agg #[.pointer (some ⟨3, 64, none⟩), .pointer (some va), .int .u64 150], .iface 120 (.agg #[.pointer (some ⟨3, 62, none⟩)])] w fun e w' => e = .returned (.bool true) ∧ Below B w w' := by
  have hBs : B ≤ w.heap.size := Nat.le_trans hB (Nat.le_of_lt (cell_lt ht))
  have r1 := run_TypeOf
  have r2 := run_AssignableTo
  have r3 := run_VElem
  have r4 := run_ValueOf
  have r5 := run_VSet
  have m1 := methodAssignableTo
  have m2 := methodUnwrap
  have f1 := typeOfM
  have f2 := typeOfP
  have f3 := assignM
  have f4 := assignP
  have f5 := valueOfM
  have f6 := noAsP
  have f7 := hasUnwrapP
  have el := elemV va t (w.alloc (.cells #[.pointer (some ⟨3, 64, none⟩), .pointer (some va), .int .u64 150] 86)) (cell_alloc hv _)
  have st := setM t ⟨w.heap.size + 1, 0, none⟩ m old ((w.alloc (.cells #[.pointer (some ⟨3, 64, none⟩), .pointer (some va), .int .u64 150] 86)).alloc (.cells #[.pointer (some m)] 62))
    (by rw [World.cell?_alloc_at _ _ _ _ (by simp)]; rfl) (cell_alloc (cell_alloc ht _) _) (frozen_alloc (cell_alloc ht _) _ (frozen_alloc ht _ hf))
  have c0 := cell_alloc h0 (.cells #[.pointer (some ⟨3, 64, none⟩), .pointer (some va), .int .u64 150] 86)
  have c1 := cell_alloc h1 (.cells #[.pointer (some ⟨3, 64, none⟩), .pointer (some va), .int .u64 150] 86)
  have c2 := cell_alloc h2 (.cells #[.pointer (some ⟨3, 64, none⟩), .pointer (some va), .int .u64 150] 86)
  go_enter Tryz.func40, Tryz.ntmps40
  go_wp2
  refine wp_loop_rounds 4 ?_
  rw [rounds_succ]
  go_wp2
  rw [rounds_succ]
  go_wp2
  rw [rounds_succ]
  go_wp2
  rw [rounds_succ]
  go_wp2
  go_ret
  exact ⟨rfl, (((Below.refl _ _).alloc hBs _).alloc (by simp; omega) _).setCell hB _⟩
end Go.Proofs.YtjfifmadldcjjaaGreatDoor.Er
