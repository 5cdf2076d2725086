/- The walks of readCounts and readLengthTable. -/
import Derived.Test.YtjfifmadldcjjaaGreatDoorAmount
import Derived.Test.YtjfifmadldcjjaaGreatDoorOwnMath
set_option linter.unusedVariables false
namespace Go.Proofs.YtjfifmadldcjjaaGreatDoor.Pr
open Go.RowKit Rf
theorem RdE.allocE {w : World} {tb rb : Nat} {s : ByteArray} {pos : Nat} (h : Rd w tb rb s pos) (o : Obj) : RdE (w.alloc o) tb rb s := by
  obtain ⟨c, hc, h⟩ := h; exact ⟨pos, c, by omega, h.alloc o⟩
set_option maxRecDepth 10000 in
set_option maxHeartbeats 8000000 in
theorem counts_any (tb rb : Nat) (eb : Addr) (s : ByteArray) (pos : Nat) (w : World) (h : Rd w tb rb s pos) (hend : EndIs w eb) (hs : s.size ≤ 140737488351232) (hg1 : 0 ≠ tb) (hg2 : 0 ≠ rb) :
    Calls Tryz.prog 78 #[.pointer (some ⟨rb, 0, none⟩)] w fun e w' =>
      (∃ a b n : Nat, hdrT s ⟨pos, false⟩ = (a, b, n, ⟨pos + 14, false⟩) ∧ 257 ≤ a ∧ a ≤ 286 ∧ 1 ≤ b ∧ b ≤ 30 ∧ 4 ≤ n ∧ n ≤ 19 ∧ e = .returned (.tuple #[.int .i64 (a : Int), .int .i64 (b : Int), .int .i64 (n : Int), .nilIface]) ∧ Rd w' tb rb s (pos + 14) ∧ RF tb rb w w') ∨
      ((hdrT s ⟨pos, false⟩).2.2.2.bad = true ∧ (∃ a, e = .returned (.tuple #[.int .i64 0, .int .i64 0, .int .i64 0, .iface 62 (.pointer (some a))])) ∧ RdE w' tb rb s ∧ RF tb rb w w') := by
  go_enter Tryz.func78, Tryz.ntmps78
  go_wp2_with fail
  refine (number_any tb rb eb s pos 5 _ h hend hs (by omega) hg1 hg2).mono ?_
  rintro e w1 (⟨a1, a2, rfl, a3, a4, _⟩ | ⟨a1, ⟨a, rfl⟩, a3, a4⟩)
  rotate_left
  · go_wp2_with fail
    refine bodyPost_ret (v := .tuple #[.int .i64 0, .int .i64 0, .int .i64 0, .iface 62 (.pointer (some a))]) (by simp [results, Tryz.results78, go_sem]) rfl (.inr ⟨hdrSt_keep _ _ _ (numT_keep s 4 _ (numT_keep s 5 _ a1)), ⟨a, rfl⟩, a3, a4⟩)
  have N1 : Hid (numT s 5 ⟨pos, false⟩ = (bitsV s pos 5, ⟨pos + 5, false⟩)) := numT_ok s 5 pos a2
  have hb1 : bitsV s pos 5 < 32 := bitsV_lt s pos 5
  have hend1 : EndIs w1 eb := hend.over (a4.block _ hend.lt hg1 hg2)
  generalize bitsV s pos 5 = n1 at *
  by_cases h1 : n1 + 257 ≤ 286
  rotate_left
  · have d1 : decide ((286 : Int) < (n1 : Int) + 257) = true := decide_eq_true (by omega)
    go_wp2_with fail
    refine (mal_any _ _).mono ?_
    rintro e w2 ⟨rfl, rfl⟩
    go_wp2_with fail
    refine bodyPost_ret (v := .tuple #[.int .i64 0, .int .i64 0, .int .i64 0, .iface 62 (.pointer (some ⟨w1.heap.size, 0, none⟩))]) (by simp [results, Tryz.results78, go_sem]) rfl (.inr ⟨?_, ⟨_, rfl⟩, RdE.allocE a3 _, a4.alloc _⟩)
    unfold hdrT
    dsimp only
    rw [N1.out]
    unfold hdrSt
    rw [if_pos (.inl (by dsimp only; omega))]
  have d1 : decide ((286 : Int) < (n1 : Int) + 257) = false := decide_eq_false (by omega)
  go_wp2_with fail
  refine (number_any tb rb eb s (pos + 5) 5 _ a3 hend1 hs (by omega) hg1 hg2).mono ?_
  rintro e w2 (⟨b1, b2, rfl, b3, b4, _⟩ | ⟨b1, ⟨a, rfl⟩, b3, b4⟩)
  rotate_left
  · go_wp2_with fail
    refine bodyPost_ret (v := .tuple #[.int .i64 0, .int .i64 0, .int .i64 0, .iface 62 (.pointer (some a))]) (by simp [results, Tryz.results78, go_sem]) rfl (.inr ⟨?_, ⟨a, rfl⟩, b3, a4.trans b4⟩)
    unfold hdrT
    dsimp only
    rw [N1.out]
    exact hdrSt_keep _ _ _ (numT_keep s 4 _ b1)
  have N2 : Hid (numT s 5 ⟨pos + 5, false⟩ = (bitsV s (pos + 5) 5, ⟨pos + 5 + 5, false⟩)) := numT_ok s 5 (pos + 5) b2
  have hb2 : bitsV s (pos + 5) 5 < 32 := bitsV_lt s (pos + 5) 5
  have hend2 : EndIs w2 eb := hend1.over (b4.block _ hend1.lt hg1 hg2)
  generalize bitsV s (pos + 5) 5 = n2 at *
  by_cases h2 : n2 + 1 ≤ 30
  rotate_left
  · have d2 : decide ((30 : Int) < (n2 : Int) + 1) = true := decide_eq_true (by omega)
    go_wp2_with fail
    refine (mal_any _ _).mono ?_
    rintro e w3 ⟨rfl, rfl⟩
    go_wp2_with fail
    refine bodyPost_ret (v := .tuple #[.int .i64 0, .int .i64 0, .int .i64 0, .iface 62 (.pointer (some ⟨w2.heap.size, 0, none⟩))]) (by simp [results, Tryz.results78, go_sem]) rfl (.inr ⟨?_, ⟨_, rfl⟩, RdE.allocE b3 _, (a4.trans b4).alloc _⟩)
    unfold hdrT
    dsimp only
    rw [N1.out]
    dsimp only
    rw [N2.out]
    unfold hdrSt
    rw [if_pos (.inr (by dsimp only; omega))]
  have d2 : decide ((30 : Int) < (n2 : Int) + 1) = false := decide_eq_false (by omega)
  go_wp2_with fail
  refine (number_any tb rb eb s (pos + 5 + 5) 4 _ b3 hend2 hs (by omega) hg1 hg2).mono ?_
  rintro e w3 (⟨c1, c2, rfl, c3, c4, _⟩ | ⟨c1, ⟨a, rfl⟩, c3, c4⟩)
  rotate_left
  · go_wp2_with fail
    refine bodyPost_ret (v := .tuple #[.int .i64 0, .int .i64 0, .int .i64 0, .iface 62 (.pointer (some a))]) (by simp [results, Tryz.results78, go_sem]) rfl (.inr ⟨?_, ⟨a, rfl⟩, c3, (a4.trans b4).trans c4⟩)
    unfold hdrT
    dsimp only
    rw [N1.out]
    dsimp only
    rw [N2.out]
    exact hdrSt_keep _ _ _ c1
  have N3 : Hid (numT s 4 ⟨pos + 5 + 5, false⟩ = (bitsV s (pos + 5 + 5) 4, ⟨pos + 5 + 5 + 4, false⟩)) := numT_ok s 4 (pos + 5 + 5) c2
  have hb3 : bitsV s (pos + 5 + 5) 4 < 16 := bitsV_lt s (pos + 5 + 5) 4
  generalize bitsV s (pos + 5 + 5) 4 = n3 at *
  go_wp2_with fail
  refine bodyPost_ret (v := .tuple #[.int .i64 ((n1 + 257 : Nat) : Int), .int .i64 ((n2 + 1 : Nat) : Int), .int .i64 ((n3 + 4 : Nat) : Int), .nilIface]) (by simp [results, Tryz.results78, go_sem]) rfl (.inl ⟨n1 + 257, n2 + 1, n3 + 4, ?_, by omega, h1, by omega, h2, by omega, by omega, rfl, c3, (a4.trans b4).trans c4⟩)
  unfold hdrT
  (try dsimp only)
  rw [N1.out]
  (try dsimp only)
  rw [N2.out]
  (try dsimp only)
  rw [N3.out]
  unfold hdrSt
  rw [if_neg (by first | omega | (dsimp only; omega))]
end Go.Proofs.YtjfifmadldcjjaaGreatDoor.Pr
