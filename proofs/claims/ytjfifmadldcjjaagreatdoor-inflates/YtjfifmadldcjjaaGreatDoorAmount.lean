/- The walk of amount. -/
import Derived.Test.YtjfifmadldcjjaaGreatDoorUp2
set_option linter.unusedVariables false
namespace Go.Proofs.YtjfifmadldcjjaaGreatDoor.Pr
open Go.RowKit Rf
/-- a meaning that lies in block b -/
def MeanAt (w : World) (b : Nat) (m : Nat × Nat × Nat) : Prop := w.heap[b]? = some (.cells #[.int .u8 (m.1 : Int), .int .i64 (m.2.1 : Int), .int .u64 (m.2.2 : Int)] 149 (0, 0))
theorem MeanAt.c {w : World} {b : Nat} {m : Nat × Nat × Nat} (h : MeanAt w b m) : w.cell? ⟨b, 0, none⟩ = some (.int .u8 (m.1 : Int)) ∧ w.cell? ⟨b, 1, none⟩ = some (.int .i64 (m.2.1 : Int)) ∧ w.cell? ⟨b, 2, none⟩ = some (.int .u64 (m.2.2 : Int)) :=
  ⟨by simpa using (cell_of h 0).1, by simpa using (cell_of h 1).1, by simpa using (cell_of h 2).1⟩
theorem MeanAt.rf {w w' : World} {b tb rb : Nat} {m : Nat × Nat × Nat} {s : ByteArray} {pos : Nat} (h : MeanAt w b m) (hr : Rd w tb rb s pos) (hf : RF tb rb w w') : MeanAt w' b m := by
  have hn := hr.types h (by decide) (by decide)
  exact (hf.block b (lt_of_some h) hn.1 hn.2).trans h
theorem number_yes (tb rb : Nat) (eb : Addr) (s : ByteArray) (pos n : Nat) (w : World) (h : Rd w tb rb s pos) (hend : EndIs w eb) (hs : s.size ≤ 140737488351232) (hn : n ≤ 16) (hg1 : 0 ≠ tb) (hg2 : 0 ≠ rb) (hfit : pos + n ≤ 8 * s.size) :
    Calls Tryz.prog 57 #[.pointer (some ⟨rb, 0, none⟩), .int .u64 (n : Int)] w fun e w' => e = .returned (.tuple #[.int .i64 ((bitsV s pos n : Nat) : Int), .nilIface]) ∧ Rd w' tb rb s (pos + n) ∧ RF tb rb w w' := by
  refine (number_any tb rb eb s pos n w h hend hs hn hg1 hg2).mono ?_
  rintro e w' (⟨_, _, k3, k4, k5, _⟩ | ⟨k1, _⟩)
  · exact ⟨k3, k4, k5⟩
  · rw [numT_ok s n pos hfit] at k1; cases k1
theorem number_no (tb rb : Nat) (eb : Addr) (s : ByteArray) (pos n : Nat) (w : World) (h : Rd w tb rb s pos) (hend : EndIs w eb) (hs : s.size ≤ 140737488351232) (hn : n ≤ 16) (hg1 : 0 ≠ tb) (hg2 : 0 ≠ rb) (hfit : ¬ pos + n ≤ 8 * s.size) :
    Calls Tryz.prog 57 #[.pointer (some ⟨rb, 0, none⟩), .int .u64 (n : Int)] w fun e w' => (∃ a, e = .returned (.tuple #[.int .i64 0, .iface 62 (.pointer (some a))])) ∧ RdE w' tb rb s ∧ RF tb rb w w' := by
  refine (number_any tb rb eb s pos n w h hend hs hn hg1 hg2).mono ?_
  rintro e w' (⟨_, k2, _⟩ | ⟨_, k2, k3, k4⟩)
  · exact absurd k2 hfit
  · exact ⟨k2, k3, k4⟩
theorem Rd.end_le {w : World} {tb rb : Nat} {s : ByteArray} {pos : Nat} (h : Rd w tb rb s pos) : pos ≤ 8 * s.size := by
  obtain ⟨c, hc, t, h1, h2, _⟩ := h; omega
set_option maxRecDepth 10000 in
set_option maxHeartbeats 4000000 in
theorem amount_any (S : Sink) (A : Adr) (s : ByteArray) (win most : Nat) (u : US) (m : Nat × Nat × Nat) (w : World) (hS : S.Ok) (h : UP S w A s win most u) (hs : s.size ≤ 140737488351232) (hx : m.2.2 ≤ 16) (hl : m.2.1 ≤ 1000000) :
    Calls Tryz.prog 85 #[.pointer (some ⟨A.ub, 0, none⟩), .agg #[.int .u8 (m.1 : Int), .int .i64 (m.2.1 : Int), .int .u64 (m.2.2 : Int)]] w fun e w' =>
      ((numT s m.2.2 u.st).2.bad = false ∧ u.st.pos + m.2.2 ≤ 8 * s.size ∧ e = .returned (.tuple #[.int .i64 ((m.2.1 + bitsV s u.st.pos m.2.2 : Nat) : Int), .nilIface]) ∧ UP S w' A s win most ⟨⟨u.st.pos + m.2.2, false⟩, u.out⟩ ∧ PE A.base w w' ∧ RF A.tb A.rb w w') ∨
      ((numT s m.2.2 u.st).2.bad = true ∧ (∃ n a, e = .returned (.tuple #[.int .i64 n, .iface 62 (.pointer (some a))])) ∧ UE w' A s ∧ PE A.base w w') := by
  obtain ⟨k, l, x⟩ := m
  dsimp only at hx hl ⊢
  have hbad := h.facts.1
  obtain ⟨⟨pos, bad⟩, out⟩ := u
  dsimp only at hbad ⊢
  subst hbad
  have hA := h.alloc hS (.cells #[.int .u8 (k : Int), .int .i64 (l : Int), .int .u64 (x : Int)] 149)
  have hRF0 : RF A.tb A.rb w (w.alloc (.cells #[.int .u8 (k : Int), .int .i64 (l : Int), .int .u64 (x : Int)] 149)) := (RF.refl _ _ w).alloc _
  have hM : MeanAt (w.alloc (.cells #[.int .u8 (k : Int), .int .i64 (l : Int), .int .u64 (x : Int)] 149)) w.heap.size (k, l, x) := alloc_new w _ _ rfl
  obtain ⟨hU0, hP0⟩ := hA
  go_enter Tryz.func85, Tryz.ntmps85
  go_wp2_with fail
  generalize (w.alloc (.cells #[.int .u8 (k : Int), .int .i64 (l : Int), .int .u64 (x : Int)] 149)) = w0 at *
  obtain ⟨c0, c1, c2, c3⟩ := hU0.cells
  obtain ⟨m0, m1, m2⟩ := hM.c
  obtain ⟨f1, f2, f3, f4, f5, f6⟩ := hU0.facts
  have hpe := f2.end_le
  have hb16 : bitsV s pos x < 65536 := Nat.lt_of_lt_of_le (bitsV_lt s pos x) (show 2 ^ x ≤ 2 ^ 16 from Nat.pow_le_pow_right (by omega) hx)
  by_cases hfit : pos + x ≤ 8 * s.size
  · have HF : Hid (pos + x ≤ 8 * s.size) := hfit
    clear hfit
    go_upto_region 1 with fail
    go_cut [6, 7] (fun v6 v7 wx => v6 = .int .i64 ((bitsV s pos x : Nat) : Int) ∧ v7 = .nilIface ∧ Rd wx A.tb A.rb s (pos + x) ∧ RF A.tb A.rb w0 wx)
    case first =>
      go_region_with ((go_at_call 57; refine (number_yes A.tb A.rb A.eb s pos x _ (by exact f2) (by exact f4) hs hx f5 f6 HF.out).mono ?_; rintro e w3 ⟨rfl, g1, g2⟩))
      all_goals
        go_wp2_with fail
        go_meet
        case rel => exact ⟨rfl, rfl, g1, ⟨g2.os, g2.tape, g2.output, g2.size, g2.block⟩⟩
    case rest =>
      obtain ⟨rfl, rfl, g1, g2⟩ := hcut
      obtain ⟨m0', m1', m2'⟩ := (hM.rf f2 g2).c
      have hfin := hU0.rd hS (pos + x) g1 g2
      clear c0 c1 c2 c3 m0 m1 m2
      go_wp2_with fail
      go_ret2
      exact .inl ⟨by rw [numT_ok s x pos HF.out], HF.out, ret_iv (by omega), hfin.1, hP0.trans hfin.2, hRF0.trans g2⟩
  · have HF : Hid (¬ pos + x ≤ 8 * s.size) := hfit
    clear hfit
    go_upto_region 1 with fail
    go_cut [6, 7] (fun v6 v7 wx => v6 = .int .i64 0 ∧ (∃ a, v7 = .iface 62 (.pointer (some a))) ∧ RdE wx A.tb A.rb s ∧ RF A.tb A.rb w0 wx)
    case first =>
      go_region_with ((go_at_call 57; refine (number_no A.tb A.rb A.eb s pos x _ (by exact f2) (by exact f4) hs hx f5 f6 HF.out).mono ?_; rintro e w3 ⟨⟨a, rfl⟩, g1, g2⟩))
      all_goals
        go_wp2_with fail
        go_meet
        case rel => exact ⟨rfl, ⟨_, rfl⟩, g1, ⟨g2.os, g2.tape, g2.output, g2.size, g2.block⟩⟩
    case rest =>
      obtain ⟨rfl, ⟨a, rfl⟩, g1, g2⟩ := hcut
      obtain ⟨m0', m1', m2'⟩ := (hM.rf f2 g2).c
      have hfin := hU0.rdE g1 g2
      clear c0 c1 c2 c3 m0 m1 m2
      go_wp2_with fail
      go_ret2
      exact .inr ⟨numT_short s x pos hpe HF.out, ⟨_, a, rfl⟩, hfin.1, hP0.trans hfin.2⟩
end Go.Proofs.YtjfifmadldcjjaaGreatDoor.Pr
