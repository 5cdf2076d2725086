/- The walk of readRun. -/
import Derived.Test.YtjfifmadldcjjaaGreatDoorLTab
set_option linter.unusedVariables false
namespace Go.Proofs.YtjfifmadldcjjaaGreatDoor.Pr
open Go.RowKit Rf
/-- a step of lengths that is bad -/
def lsBad (r : (Nat × Nat × RS) ⊕ RS) : Prop := match r with
  | .inl (_, _, st) => st.bad = true
  | .inr st => st.bad = true
set_option maxRecDepth 10000 in
set_option maxHeartbeats 8000000 in
theorem run_any (tb rb : Nat) (eb : Addr) (s : ByteArray) (pos y g cap : Nat) (L : List Nat) (w : World) (h : Rd w tb rb s pos) (hend : EndIs w eb) (hs : s.size ≤ 140737488351232) (hg1 : 0 ≠ tb) (hg2 : 0 ≠ rb) (hy : y ≤ 18) (hL : L.length ≤ 400) (hx : ∀ x ∈ L, x ≤ 15)
    (hlast : 0 < L.length → w.cell? ⟨g, L.length - 1, none⟩ = some (.int .u8 ((L.getD (L.length - 1) 0 : Nat) : Int))) :
    Calls Tryz.prog 91 #[.pointer (some ⟨rb, 0, none⟩), .int .i64 (y : Int), .slice (some ⟨g, 0, none⟩) L.length cap] w fun e w' =>
      (∃ v k p, lenStep s L y ⟨pos, false⟩ = .inl (v, k, ⟨p, false⟩) ∧ v ≤ 15 ∧ 1 ≤ k ∧ k ≤ 200 ∧ e = .returned (.tuple #[.int .u8 (v : Int), .int .i64 (k : Int), .nilIface]) ∧ Rd w' tb rb s p ∧ RF tb rb w w') ∨
      (lsBad (lenStep s L y ⟨pos, false⟩) ∧ (∃ x n a, e = .returned (.tuple #[x, .int .i64 n, .iface 62 (.pointer (some a))])) ∧ RdE w' tb rb s ∧ RF tb rb w w') := by
  by_cases h16 : y = 16
  · subst h16
    by_cases h0 : L.length = 0
    · have d0 : ((L.length : Int) == 0) = true := by rw [beq_iff_eq]; omega
      have HB : Hid (lsBad (lenStep s L 16 ⟨pos, false⟩)) := (by unfold lenStep; rw [if_pos rfl, if_pos h0]; rfl : lsBad _)
      clear hlast
      generalize L.length = n at *
      subst h0
      go_enter Tryz.func91, Tryz.ntmps91
      go_wp2_with fail
      refine (mal_any _ _).mono ?_
      rintro e w1 ⟨rfl, rfl⟩
      go_wp2_with fail
      go_ret3
      exact .inr ⟨HB.out, ⟨_, _, _, rfl⟩, RdE.allocE h _, (RF.refl _ _ w).alloc _⟩
    · have hl := hlast (by omega)
      have hv : L.getD (L.length - 1) 0 ≤ 15 := getD_le L 15 hx _
      have hn1 : (L.length : Int) - 1 = ((L.length - 1 : Nat) : Int) := by omega
      have d0 : ((L.length : Int) == 0) = false := by rw [beq_eq_false_iff_ne]; omega
      have HB : Hid (lenStep s L 16 ⟨pos, false⟩ = .inl (L.getD (L.length - 1) 0, 3 + (numT s 2 ⟨pos, false⟩).1, (numT s 2 ⟨pos, false⟩).2)) := (by unfold lenStep; rw [if_pos rfl, if_neg h0] : _ = _)
      have hidx : (((L.length - 1 : Nat) : Int)) < (L.length : Int) := by omega
      clear hlast
      generalize L.getD (L.length - 1) 0 = v at *
      have hp : 1 ≤ L.length := by omega
      obtain ⟨n1, hn10⟩ : ∃ n1, n1 = L.length - 1 := ⟨_, rfl⟩
      rw [← hn10] at hl hn1 hidx
      clear hn10
      go_enter Tryz.func91, Tryz.ntmps91
      go_wp2_with fail
      refine (number_any tb rb eb s pos 2 _ h hend hs (by omega) hg1 hg2).mono ?_
      rintro e w1 (⟨a1, a2, rfl, a3, a4, _⟩ | ⟨a1, ⟨a, rfl⟩, a3, a4⟩)
      · have N1 : Hid (numT s 2 ⟨pos, false⟩ = (bitsV s pos 2, ⟨pos + 2, false⟩)) := numT_ok s 2 pos a2
        have hb1 : bitsV s pos 2 < 4 := bitsV_lt s pos 2
        generalize bitsV s pos 2 = x at *
        go_wp2_with fail
        go_ret3
        refine .inl ⟨v, 3 + x, pos + 2, by rw [HB.out, N1.out], hv, by omega, by omega, ?_, a3, a4⟩
        rw [show ((3 + x : Nat) : Int) = (x : Int) + 3 by omega]; rfl
      · go_wp2_with fail
        go_ret3
        exact .inr ⟨by rw [HB.out]; exact a1, ⟨_, _, a, rfl⟩, a3, a4⟩
  · have d16 : ((y : Int) == 16) = false := by rw [beq_eq_false_iff_ne]; omega
    clear hlast
    by_cases h17 : y = 17
    · subst h17
      have HB : Hid (lenStep s L 17 ⟨pos, false⟩ = .inl (0, 3 + (numT s 3 ⟨pos, false⟩).1, (numT s 3 ⟨pos, false⟩).2)) := (by unfold lenStep; rw [if_neg (by omega), if_pos rfl] : _ = _)
      go_enter Tryz.func91, Tryz.ntmps91
      go_wp2_with fail
      refine (number_any tb rb eb s pos 3 _ h hend hs (by omega) hg1 hg2).mono ?_
      rintro e w1 (⟨a1, a2, rfl, a3, a4, _⟩ | ⟨a1, ⟨a, rfl⟩, a3, a4⟩)
      · have N1 : Hid (numT s 3 ⟨pos, false⟩ = (bitsV s pos 3, ⟨pos + 3, false⟩)) := numT_ok s 3 pos a2
        have hb1 : bitsV s pos 3 < 8 := bitsV_lt s pos 3
        generalize bitsV s pos 3 = x at *
        go_wp2_with fail
        go_ret3
        refine .inl ⟨0, 3 + x, pos + 3, by rw [HB.out, N1.out], by omega, by omega, by omega, ?_, a3, a4⟩
        rw [show ((3 + x : Nat) : Int) = (x : Int) + 3 by omega]; rfl
      · go_wp2_with fail
        go_ret3
        exact .inr ⟨by rw [HB.out]; exact a1, ⟨_, _, a, rfl⟩, a3, a4⟩
    · have d17 : ((y : Int) == 17) = false := by rw [beq_eq_false_iff_ne]; omega
      by_cases h18 : y = 18
      · subst h18
        have HB : Hid (lenStep s L 18 ⟨pos, false⟩ = .inl (0, 11 + (numT s 7 ⟨pos, false⟩).1, (numT s 7 ⟨pos, false⟩).2)) := (by unfold lenStep; rw [if_neg (by omega), if_neg (by omega), if_pos rfl] : _ = _)
        go_enter Tryz.func91, Tryz.ntmps91
        go_wp2_with fail
        refine (number_any tb rb eb s pos 7 _ h hend hs (by omega) hg1 hg2).mono ?_
        rintro e w1 (⟨a1, a2, rfl, a3, a4, _⟩ | ⟨a1, ⟨a, rfl⟩, a3, a4⟩)
        · have N1 : Hid (numT s 7 ⟨pos, false⟩ = (bitsV s pos 7, ⟨pos + 7, false⟩)) := numT_ok s 7 pos a2
          have hb1 : bitsV s pos 7 < 128 := bitsV_lt s pos 7
          generalize bitsV s pos 7 = x at *
          go_wp2_with fail
          go_ret3
          refine .inl ⟨0, 11 + x, pos + 7, by rw [HB.out, N1.out], by omega, by omega, by omega, ?_, a3, a4⟩
          rw [show ((11 + x : Nat) : Int) = (x : Int) + 11 by omega]; rfl
        · go_wp2_with fail
          go_ret3
          exact .inr ⟨by rw [HB.out]; exact a1, ⟨_, _, a, rfl⟩, a3, a4⟩
      · have d18 : ((y : Int) == 18) = false := by rw [beq_eq_false_iff_ne]; omega
        have HB : Hid (lenStep s L y ⟨pos, false⟩ = .inl (y, 1, ⟨pos, false⟩)) := (by unfold lenStep; rw [if_neg h16, if_neg h17, if_neg h18] : _ = _)
        go_enter Tryz.func91, Tryz.ntmps91
        go_wp2_with fail
        go_ret3
        exact .inl ⟨y, 1, pos, HB.out, by omega, by omega, by omega, rfl, h, RF.refl _ _ _⟩
end Go.Proofs.YtjfifmadldcjjaaGreatDoor.Pr
