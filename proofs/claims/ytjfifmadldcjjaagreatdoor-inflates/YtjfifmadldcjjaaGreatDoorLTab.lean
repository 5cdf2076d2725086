/- The walk of readLengthTable. -/
import Derived.Test.YtjfifmadldcjjaaGreatDoorCounts
import Derived.Test.YtjfifmadldcjjaaGreatDoorAgain
set_option linter.unusedVariables false
namespace Go.Proofs.YtjfifmadldcjjaaGreatDoor.Pr
open Go.RowKit Rf
theorem fit_full (L : List Nat) : fitT L = 1 ↔ muchL L = 32768 := by
  unfold fitT
  constructor
  · intro h
    by_cases h0 : cnt L = 0
    · rw [if_pos h0] at h; omega
    · rw [if_neg h0] at h
      by_cases h1 : muchL L = 32768
      · exact h1
      · rw [if_neg h1] at h; split at h <;> omega
  · intro h
    have h0 : cnt L ≠ 0 := fun e => by rw [cnt_zero_much L e] at h; omega
    rw [if_neg h0, if_pos h]
theorem rep0 (n k : Nat) : (List.replicate n 0).getD k 0 = 0 := by
  rw [List.getD_eq_getElem?_getD, List.getElem?_replicate]
  split <;> rfl
theorem order_lt19 (k : Nat) : order.getD k 0 < 19 := Nat.lt_succ_of_le (getD_le order 18 (by decide) k)
theorem set_getD (L : List Nat) (i x k : Nat) (hk : k < L.length) : (L.set i x).getD k 0 = upd (fun k => L.getD k 0) i x k := by
  unfold upd
  simp only [List.getD_eq_getElem?_getD, List.getElem?_set]
  by_cases e : k = i
  · subst e; simp [hk]
  · rw [if_neg (fun h => e h.symm), if_neg e]
set_option maxRecDepth 10000 in
set_option maxHeartbeats 8000000 in
theorem ltab_any (tb rb : Nat) (eb : Addr) (s : ByteArray) (pos n : Nat) (w : World) (h : Rd w tb rb s pos) (hend : EndIs w eb) (hord : OrderIs w) (hs : s.size ≤ 140737488351232) (hn : n ≤ 19) (hg1 : 0 ≠ tb) (hg2 : 0 ≠ rb) (hg3 : 2 ≠ tb) (hg4 : 2 ≠ rb) (hg5 : 2 < w.heap.size) :
    Calls Tryz.prog 79 #[.pointer (some ⟨rb, 0, none⟩), .int .i64 (n : Int)] w fun e w' =>
      (∃ k p, smT s n ⟨pos, false⟩ = ((smT s n ⟨pos, false⟩).1, ⟨p, false⟩) ∧ muchL (smT s n ⟨pos, false⟩).1 = 32768 ∧ e = .returned (.tuple #[.pointer (some ⟨k, 0, none⟩), .nilIface]) ∧ TabI w' k (smT s n ⟨pos, false⟩).1 ∧ Rd w' tb rb s p ∧ RF tb rb w w') ∨
      ((smSt (codesT (smT s n ⟨pos, false⟩).1).much (smT s n ⟨pos, false⟩).2).bad = true ∧ (∃ a, e = .returned (.tuple #[.pointer none, .iface 62 (.pointer (some a))])) ∧ RdE w' tb rb s ∧ RF tb rb w w') := by
  have hmk : (Instr.makeSlice 30 (.int .i64 19) (.int .i64 19)).run Tryz.prog w = .ok (.slice (some ⟨w.heap.size, 0, none⟩) 19 19) (w.alloc (.cells (madeCells #[.int .u8 0] 19) 5)) := make_bytes w 19 (by omega)
  have hR0 := rowB_begin w 19 _ rfl
  have hl := h.lts
  have hbt : w.heap.size ≠ tb ∧ w.heap.size ≠ rb := by omega
  have HSM : Hid (smT s n ⟨pos, false⟩ = smallL s n 0 (List.replicate 19 0) ⟨pos, false⟩) := rfl
  have hsmlen := smT_len s n ⟨pos, false⟩
  have hsmle := smT_le s n ⟨pos, false⟩
  generalize smT s n ⟨pos, false⟩ = SM at *
  go_enter Tryz.func79, Tryz.ntmps79
  go_wp2_with fail
  go_loopw [12] (fun iv wr => ∃ (j p : Nat) (L : List Nat), j ≤ n ∧ iv = .int .i64 (j : Int) ∧ SM = smallL s (n - j) j L ⟨p, false⟩ ∧ L.length = 19 ∧ RowB wr w.heap.size 19 (fun k => L.getD k 0) ∧ Rd wr tb rb s p ∧ RF tb rb w wr) (fun iv _ => n - (intOf iv).toNat)
  case atStart =>
    refine ⟨0, pos, List.replicate 19 0, Nat.zero_le _, rfl, HSM.out, by simp, hR0.congr (fun k hk => ?_), h.alloc _, (RF.refl _ _ w).alloc _⟩
    exact (rep0 19 k).symm
  case round =>
    clear hmk hR0
    obtain ⟨j, p, L, hj, rfl, hSM, hL, hR, hRd, hF⟩ := hrel
    have HS : Hid _ := hSM
    clear hSM
    have hend1 : EndIs wr eb := hend.over (hF.block _ hend.lt hg1 hg2)
    have hord1 : OrderIs wr := hord.over (hF.block _ hg5 hg3 hg4)
    by_cases hlt : j < n
    · have H1 : Hid (smallL s (n - j) j L ⟨p, false⟩ = smallL s (n - (j + 1)) (j + 1) (L.set (order.getD j 0) (numT s 3 ⟨p, false⟩).1) (numT s 3 ⟨p, false⟩).2) := (by rw [show n - j = (n - (j + 1)) + 1 by omega]; rfl : _ = _)
      go_wp2_with fail
      refine (number_any tb rb eb s p 3 _ hRd hend1 hs (by omega) hg1 hg2).mono ?_
      rintro e w2 (⟨a1, a2, rfl, a3, a4, _⟩ | ⟨a1, ⟨a, rfl⟩, a3, a4⟩)
      · have N1 : Hid (numT s 3 ⟨p, false⟩ = (bitsV s p 3, ⟨p + 3, false⟩)) := numT_ok s 3 p a2
        have hb1 : bitsV s p 3 < 8 := bitsV_lt s p 3
        have hR2 : RowB w2 w.heap.size 19 (fun k => L.getD k 0) := hR.over (a4.block _ hR.lt hbt.1 hbt.2)
        have hord2 : OrderIs w2 := hord1.over (a4.block _ (Nat.lt_of_lt_of_le hg5 hF.size) hg3 hg4)
        have ho := hord2 j (by omega)
        have hol := order_lt19 j
        generalize bitsV s p 3 = x at *
        obtain ⟨oj, hoj⟩ : ∃ oj, oj = order.getD j 0 := ⟨_, rfl⟩
        rw [← hoj] at ho hol
        have HO : Hid (oj = order.getD j 0) := hoj
        clear hoj
        obtain ⟨cl1, cl2⟩ := hR2.cn oj hol
        have hR3 := hR2.set oj x hol (x : Int) rfl
        go_wp2_with fail
        go_roundw
        case rel =>
          refine ⟨j + 1, p + 3, L.set oj x, by omega, by go_num, ?_, by simpa using hL, hR3.congr (fun k hk => ?_), a3.setNew _ _ _ hbt.1 hbt.2, (hF.trans a4).setNew _ _ (Nat.le_refl _) _⟩
          · rw [HS.out, H1.out, N1.out, ← HO.out]
          · rw [set_getD L oj x k (by omega)]
        case measure => simp [intOf]; omega
      · have HB : Hid (SM.2.bad = true) := (by rw [HS.out, H1.out]; exact smallL_keep s _ _ _ _ a1 : _ = _)
        go_wp2_with fail
        go_ret2
        exact .inr ⟨smSt_keep _ _ HB.out, ⟨a, rfl⟩, a3, hF.trans a4⟩
    · have HS2 : Hid (SM = (L, ⟨p, false⟩)) := (by rw [HS.out, show n - j = 0 by omega]; rfl : _ = _)
      have hLe : ∀ x ∈ L, x ≤ 15 := by have := hsmle; rw [HS2.out] at this; exact this
      have hBt : BytesAt wr w.heap.size 0 L := hR.bytes L hL (fun k _ => rfl)
      have hfit := fit_any w.heap.size 0 19 L wr hBt (by omega) hLe
      rw [hL] at hfit
      have hrl := hR.lt
      go_wp2_with fail
      refine hfit.mono ?_
      rintro e w2 ⟨rfl, hw⟩
      have hw := hw.symm
      subst hw
      by_cases hff : fitT L = 1
      · have hnew := newI_any w.heap.size 0 19 L wr hBt hrl (by omega) hLe
        rw [hL] at hnew
        have d1 : ((fitT L : Int) == 1) = true := by rw [hff]; rfl
        have d2 : decide ((fitT L : Int) = 1) = true := decide_eq_true (by omega)
        have HM : Hid (muchL L = 32768) := (fit_full L).1 hff
        rw [hff]
        go_wp2_with fail
        refine hnew.mono ?_
        rintro e w3 ⟨⟨k, rfl, g1, g2⟩, g3⟩
        have hl2 := hRd.lts
        have hRd3 : Rd w3 tb rb s p := by
          obtain ⟨c, hc, hq⟩ := hRd
          exact ⟨c, hc, hq.over (g3.block _ hl2.1) (g3.block _ hl2.2)⟩
        have hF3 : RF tb rb w w3 := hF.trans ⟨g3.os, g3.tape, g3.output, g3.size, fun k hk _ _ => g3.block k hk⟩
        go_wp2_with fail
        go_ret2
        exact .inl ⟨k, p, by rw [HS2.out], by rw [HS2.out]; exact HM.out, rfl, by rw [HS2.out]; exact g1, hRd3, hF3⟩
      · have d1 : ((fitT L : Int) == 1) = false := by rw [beq_eq_false_iff_ne]; omega
        have d2 : decide ((fitT L : Int) = 1) = false := decide_eq_false (by omega)
        have HM : Hid (¬ muchL L = 32768) := (fun e => hff ((fit_full L).2 e) : ¬ _)
        go_wp2_with fail
        refine (mal_any _ _).mono ?_
        rintro e w3 ⟨rfl, rfl⟩
        go_wp2_with fail
        go_ret2
        refine .inr ⟨?_, ⟨_, rfl⟩, RdE.allocE hRd _, hF.alloc _⟩
        rw [HS2.out]
        dsimp only
        unfold smSt
        rw [codesT_muchL L hLe, if_neg HM.out]
end Go.Proofs.YtjfifmadldcjjaaGreatDoor.Pr
