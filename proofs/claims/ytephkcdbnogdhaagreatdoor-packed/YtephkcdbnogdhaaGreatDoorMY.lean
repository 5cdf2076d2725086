/- The walk of the writer's again: a length's symbol, a distance's symbol. -/
import Derived.Test.YtephkcdbnogdhaaGreatDoorMX
import Derived.Test.YtephkcdbnogdhaaGreatDoorMS
set_option linter.unusedVariables false
namespace Go.Proofs.YtephkcdbnogdhaaGreatDoor.Rf
theorem lenL_snoc (j : Nat) : ∀ k a, lenL (j + 1) k a = lenL j k a + pw (lenBits (k + j)) := by
  induction j with
  | zero => intro k a; rfl
  | succ j ih => intro k a; rw [lenL, ih]; conv => rhs; rw [lenL]
                 rw [show k + 1 + j = k + (j + 1) by omega]
theorem distL_snoc (j : Nat) : ∀ k a, distL (j + 1) k a = distL j k a + pw (distBits (k + j)) := by
  induction j with
  | zero => intro k a; rfl
  | succ j ih => intro k a; rw [distL, ih]; conv => rhs; rw [distL]
                 rw [show k + 1 + j = k + (j + 1) by omega]
/-- where the lengths of symbol s begin -/
def lenAt (s : Nat) : Nat := lenL (s - 257) 257 3
theorem lenAt_succ (s : Nat) (h : 257 ≤ s) : lenAt (s + 1) = lenAt s + pw (lenBits s) := by
  unfold lenAt
  rw [show s + 1 - 257 = (s - 257) + 1 by omega, lenL_snoc, show 257 + (s - 257) = s by omega]
def distAt (d : Nat) : Nat := distL d 0 1
theorem distAt_succ (d : Nat) : distAt (d + 1) = distAt d + pw (distBits d) := by
  unfold distAt; rw [distL_snoc, Nat.zero_add]
theorem lenBits_284 : lenBits 284 = 5 := by decide +kernel
theorem distBits_29 : distBits 29 = 13 := by decide +kernel
theorem lenAt_284 : lenAt 284 = 227 := by decide +kernel
theorem distAt_29 : distAt 29 = 24577 := by decide +kernel
theorem lenT_at (s : Nat) (h : s ≠ 285) : lenT s = (lenAt s, lenBits s) := by unfold lenT lenAt; rw [if_neg h]
theorem distT_at (d : Nat) : distT d = (distAt d, distBits d) := rfl
theorem lenBits_le5 (s : Nat) (h : s ≤ 284) : lenBits s ≤ 5 := by unfold lenBits; split <;> omega
theorem distBits_le13 (d : Nat) (h : d ≤ 29) : distBits d ≤ 13 := by unfold distBits; split <;> omega
/-- the loops' ends are symbols -/
theorem len_found (n s : Nat) (h1 : 257 ≤ s) (h2 : s ≤ 284) (h3 : lenAt s ≤ n) (h4 : n ≤ 257) (h5 : s = 284 ∨ ¬ lenAt s + pw (lenBits s) ≤ n) : LenOk n s := by
  refine ⟨h1, by omega, ?_, ?_⟩
  · rw [lenT_at s (by omega)]; dsimp only; exact h3
  · rw [lenT_at s (by omega)]
    dsimp only
    rcases h5 with rfl | h5
    · rw [lenAt_284, lenBits_284, show 2 ^ 5 = 32 from rfl]; omega
    · unfold pw at h5; omega
theorem lenT_285 : lenT 285 = (258, 0) := by unfold lenT; rw [if_pos rfl]
theorem len_258 : LenOk 258 285 := ⟨by omega, by omega, by rw [lenT_285]; show 258 ≤ 258; omega, by rw [lenT_285]; show 258 - 258 < 2 ^ 0; omega⟩
theorem dist_found (far d : Nat) (h2 : d ≤ 29) (h3 : distAt d ≤ far) (h4 : far ≤ 32768) (h5 : d = 29 ∨ ¬ distAt d + pw (distBits d) ≤ far) : DistOk far d := by
  refine ⟨h2, by rw [distT_at]; exact h3, ?_⟩
  rw [distT_at]
  dsimp only
  rcases h5 with rfl | h5
  · rw [distAt_29, distBits_29, show 2 ^ 13 = 8192 from rfl]; omega
  · unfold pw at h5; omega
end Go.Proofs.YtephkcdbnogdhaaGreatDoor.Rf
namespace Go.Proofs.YtephkcdbnogdhaaGreatDoor.Pr
open Go.RowKit Rf
set_option maxRecDepth 10000 in
set_option maxHeartbeats 8000000 in
theorem againW_any (wb base : Nat) (rv : Value) (B : List Nat) (n far : Nat) (w : World) (h : WrAt w wb base rv B) (hn1 : 3 ≤ n) (hn2 : n ≤ 258) (hf1 : 1 ≤ far) (hf2 : far ≤ 32768) (hl : B.length ≤ 9999000) :
    Calls Tryz.prog 24 #[.pointer (some ⟨wb, 0, none⟩), .int .i64 (n : Int), .int .i64 (far : Int)] w fun e w' => ∃ y d, LenOk n y ∧ DistOk far d ∧ WrR wb base rv w (B ++ matB n far y d) e w' := by
  go_enter Tryz.func24, Tryz.ntmps24
  go_wp2_with fail
  go_loop [6, 7] (fun sv av => ∃ s a : Nat, 257 ≤ s ∧ s ≤ 284 ∧ a = lenAt s ∧ a ≤ n ∧ sv = .int .i64 (s : Int) ∧ av = .int .i64 (a : Int)) (fun sv _ => 300 - (intOf sv).toNat)
  case atStart => exact ⟨257, 3, by omega, by omega, rfl, hn1, rfl, rfl⟩
  case round =>
    obtain ⟨s, a, h1, h2, h3, h4, rfl, rfl⟩ := hrel
    have hb5 := lenBits_le5 s h2
    have hp : pw (lenBits s) ≤ 32 := by unfold pw; exact Nat.pow_le_pow_right (n := 2) (by omega) hb5
    have hpc : (2 : Int) ^ lenBits s = ((pw (lenBits s) : Nat) : Int) := by simp [pw]
    have HA : Hid (a = lenAt s) := h3
    have ha : a ≤ 300 := by omega
    have hlm := fun w' => lengthMore_any s w' (by omega)
    clear h3
    by_cases hc : s < 284 ∧ a + pw (lenBits s) ≤ n
    · have d1 : decide ((a : Int) + ((pw (lenBits s) : Nat) : Int) ≤ (n : Int)) = true := decide_eq_true (by omega)
      have hlt := hc.1
      have hle := hc.2
      have HNX : Hid (a + pw (lenBits s) = lenAt (s + 1)) := (by rw [lenAt_succ s h1, ← HA.out] : _ = _)
      clear hc
      generalize lenBits s = lb at *
      generalize pw lb = pp at *
      go_wp2_with (go_at_call 57; refine (hlm _).mono ?_; rintro e wz ⟨rfl, hwz⟩; have hwz := hwz.symm; subst hwz)
      go_round
      case rel => exact ⟨s + 1, a + pp, by omega, by omega, HNX.out, hle, by go_num, by go_num⟩
      case measure => simp [intOf]; omega
    by_cases h258 : n = 258
    · -- the longest
      have dd : ((n : Int) == 258) = true := by rw [beq_iff_eq]; omega
      have dd2 : decide ((n : Int) = 258) = true := decide_eq_true (by omega)
      obtain ⟨y, hy0⟩ : ∃ y, y = 285 := ⟨_, rfl⟩
      have HY : Hid (LenOk n y) := (by rw [h258, hy0]; exact len_258 : LenOk n y)
      have HY0 : Hid (y = 285 ∧ n = 258) := (⟨hy0, h258⟩ : _ ∧ _)
      have hlit := literal_any wb base rv B 285 w h (by omega) (by omega)
      clear h258 hy0
      by_cases hs : s < 284
      all_goals
        try (have hnle : ¬ a + pw (lenBits s) ≤ n := fun hh => hc ⟨hs, hh⟩)
        try (have d1 : decide ((a : Int) + ((pw (lenBits s) : Nat) : Int) ≤ (n : Int)) = false := decide_eq_false (by omega))
        clear hc
        generalize lenBits s = lb at *
        generalize pw lb = pp at *
        go_wp2_with (go_at_call 57; refine (hlm _).mono ?_; rintro e wz ⟨rfl, hwz⟩; have hwz := hwz.symm; subst hwz)
        refine hlit.mono ?_
        rintro e w1 ⟨rfl, rv1, hW1, hF1, hO1⟩
        obtain ⟨B1, hB1⟩ : ∃ B1, B1 = B ++ litB 285 := ⟨_, rfl⟩
        rw [← hB1] at hW1
        have hL1 : B1.length ≤ 9999900 := by rw [hB1, List.length_append, litB_len]; show B.length + 8 ≤ _; omega
        have HB1 : Hid (∀ d, B ++ matB n far y d = B1 ++ codeB d 5 ++ lowB (far - (distT d).1) (distT d).2) := (fun d => by
          rw [hB1, HY0.out.1, HY0.out.2]; unfold matB
          rw [lenT_285, show lowB (258 - ((258, 0) : Nat × Nat).1) ((258, 0) : Nat × Nat).2 = [] from rfl]
          simp : ∀ _, _)
        clear hB1 hlit
        go_wp2_with fail
        go_loop [7, 8] (fun av dv => ∃ d a : Nat, d ≤ 29 ∧ a = distAt d ∧ a ≤ far ∧ dv = .int .i64 (d : Int) ∧ av = .int .i64 (a : Int)) (fun _ dv => 30 - (intOf dv).toNat)
        case atStart => exact ⟨0, 1, by omega, rfl, hf1, rfl, rfl⟩
        case round =>
          obtain ⟨d, a, e2, e3, e4, rfl, rfl⟩ := hrel
          have hb13 := distBits_le13 d e2
          have hpd : pw (distBits d) ≤ 8192 := by unfold pw; exact Nat.pow_le_pow_right (n := 2) (by omega) hb13
          have hpc : (2 : Int) ^ distBits d = ((pw (distBits d) : Nat) : Int) := by simp [pw]
          have HAD : Hid (a = distAt d) := e3
          have hfm := fun w' => farMore_any d w' (by omega)
          clear e3
          by_cases hd : d < 29 ∧ a + pw (distBits d) ≤ far
          · have d1 : decide ((a : Int) + ((pw (distBits d) : Nat) : Int) ≤ (far : Int)) = true := decide_eq_true (by omega)
            have hd1 := hd.1
            have HNX : Hid (a + pw (distBits d) = distAt (d + 1)) := (by rw [distAt_succ, ← HAD.out] : _ = _)
            have hle := hd.2
            clear hd
            generalize distBits d = lb at *
            generalize pw lb = pp at *
            go_wp2_with (go_at_call 58; refine (hfm _).mono ?_; rintro e wz ⟨rfl, hwz⟩; have hwz := hwz.symm; subst hwz)
            go_round
            case rel => exact ⟨d + 1, a + pp, by omega, HNX.out, hle, by go_num, by go_num⟩
            case measure => simp [intOf]; omega
          · have HD : Hid (DistOk far d) := dist_found far d e2 (by rw [← HAD.out]; exact e4) hf2 (by
              rcases Nat.lt_or_ge d 29 with h | h
              · exact .inr (fun hh => hd ⟨h, by rw [HAD.out]; exact hh⟩)
              · exact .inl (by omega))
            have hds := HD.out.2.2
            rw [distT_at] at hds
            dsimp only at hds
            have hfd : (far : Int) - (a : Int) = ((far - a : Nat) : Int) := by omega
            have HFD : Hid (far - a = far - (distT d).1 ∧ distBits d = (distT d).2) := (⟨by rw [distT_at, ← HAD.out], by rw [distT_at]⟩ : _ ∧ _)
            rw [← HAD.out] at hds
            clear hds
            have hcode := fun B1 rv1 w1 h1 h2 => code_any wb base rv1 B1 d 5 (d : Int) rfl w1 h1 (by omega) (by omega) h2
            by_cases hd29 : d < 29
            all_goals
              try (have hnle : ¬ a + pw (distBits d) ≤ far := fun hh => hd ⟨hd29, hh⟩)
              try (have d1 : decide ((a : Int) + ((pw (distBits d) : Nat) : Int) ≤ (far : Int)) = false := decide_eq_false (by omega))
              clear hd
              generalize distBits d = lb at *
              generalize pw lb = pp at *
              go_wp2_with (go_at_call 58; refine (hfm _).mono ?_; rintro e wz ⟨rfl, hwz⟩; have hwz := hwz.symm; subst hwz)
              refine (hcode _ _ _ hW1 hL1).mono ?_
              rintro e w2 ⟨rfl, rv2, q1, q2, q3⟩
              have ht2 := wr_trans hF1 hO1 q2 q3
              have hL2 : (B1 ++ codeB d 5).length ≤ 10000000 := by rw [List.length_append, codeB_len]; omega
              go_wp2_with (go_at_call 58; refine (hfm _).mono ?_; rintro e wz ⟨rfl, hwz⟩; have hwz := hwz.symm; subst hwz)
              refine (low_any wb base rv2 (B1 ++ codeB d 5) (far - a) lb _ q1 (by omega) (by omega) hL2).mono ?_
              rintro e w3 ⟨rfl, rv3, x1, x2, x3⟩
              have ht3 := wr_trans ht2.1 ht2.2 x2 x3
              go_wp2_with fail
              go_end0
              refine ⟨y, d, HY.out, HD.out, rfl, rv3, ?_, ht3.1, ht3.2⟩
              rw [HB1.out d, ← HFD.out.1, ← HFD.out.2]
              exact x1
    · have dd : ((n : Int) == 258) = false := by rw [beq_eq_false_iff_ne]; omega
      have dd2 : decide ((n : Int) = 258) = false := decide_eq_false (by omega)
      obtain ⟨y, hy0⟩ : ∃ y, y = s := ⟨_, rfl⟩
      have HY : Hid (LenOk n y) := (by
        rw [hy0]
        refine len_found n s h1 h2 (by rw [← HA.out]; exact h4) (by omega) ?_
        rcases Nat.lt_or_ge s 284 with h | h
        · exact .inr (fun hh => hc ⟨h, by rw [HA.out]; exact hh⟩)
        · exact .inl (by omega) : LenOk n y)
      have HLT : Hid (lenT y = (a, lenBits s)) := (by rw [hy0, lenT_at s (by omega), ← HA.out] : _ = _)
      have hlit := literal_any wb base rv B s w h (by omega) (by omega)
      have HYS : Hid (y = s) := hy0
      have hna : (n : Int) - (a : Int) = ((n - a : Nat) : Int) := by omega
      clear h258 hy0
      by_cases hs : s < 284
      all_goals
        try (have hnle : ¬ a + pw (lenBits s) ≤ n := fun hh => hc ⟨hs, hh⟩)
        try (have d1 : decide ((a : Int) + ((pw (lenBits s) : Nat) : Int) ≤ (n : Int)) = false := decide_eq_false (by omega))
        clear hc
        generalize lenBits s = lb at *
        generalize pw lb = pp at *
        go_wp2_with (go_at_call 57; refine (hlm _).mono ?_; rintro e wz ⟨rfl, hwz⟩; have hwz := hwz.symm; subst hwz)
        refine hlit.mono ?_
        rintro e w0 ⟨rfl, rv0, hW0, hF0, hO0⟩
        have hll := litB_len s
        have hlb := (litC_bd s (by omega)).2.1
        have hL0 : (B ++ litB s).length ≤ 10000000 := by rw [List.length_append]; omega
        clear hlit
        go_wp2_with (go_at_call 57; refine (hlm _).mono ?_; rintro e wz ⟨rfl, hwz⟩; have hwz := hwz.symm; subst hwz)
        refine (low_any wb base rv0 (B ++ litB s) (n - a) lb _ hW0 (by omega) (by omega) hL0).mono ?_
        rintro e w1 ⟨rfl, rv1, hW1, hF1', hO1'⟩
        obtain ⟨hF1, hO1⟩ := wr_trans hF0 hO0 hF1' hO1'
        obtain ⟨B1, hB1⟩ : ∃ B1, B1 = B ++ litB s ++ lowB (n - a) lb := ⟨_, rfl⟩
        rw [← hB1] at hW1
        have hL1 : B1.length ≤ 9999900 := by rw [hB1, List.length_append, List.length_append, lowB_len]; omega
        have HB1 : Hid (∀ d, B ++ matB n far y d = B1 ++ codeB d 5 ++ lowB (far - (distT d).1) (distT d).2) := (fun d => by
          rw [hB1, HYS.out]; unfold matB
          rw [← HYS.out, HLT.out, HYS.out]
          simp : ∀ _, _)
        clear hB1 hF1' hO1' hW0 hF0 hO0 hll hlb
        go_wp2_with fail
        go_loop [7, 8] (fun av dv => ∃ d a : Nat, d ≤ 29 ∧ a = distAt d ∧ a ≤ far ∧ dv = .int .i64 (d : Int) ∧ av = .int .i64 (a : Int)) (fun _ dv => 30 - (intOf dv).toNat)
        case atStart => exact ⟨0, 1, by omega, rfl, hf1, rfl, rfl⟩
        case round =>
          obtain ⟨d, a, e2, e3, e4, rfl, rfl⟩ := hrel
          have hb13 := distBits_le13 d e2
          have hpd : pw (distBits d) ≤ 8192 := by unfold pw; exact Nat.pow_le_pow_right (n := 2) (by omega) hb13
          have hpc : (2 : Int) ^ distBits d = ((pw (distBits d) : Nat) : Int) := by simp [pw]
          have HAD : Hid (a = distAt d) := e3
          have hfm := fun w' => farMore_any d w' (by omega)
          clear e3
          by_cases hd : d < 29 ∧ a + pw (distBits d) ≤ far
          · have d1 : decide ((a : Int) + ((pw (distBits d) : Nat) : Int) ≤ (far : Int)) = true := decide_eq_true (by omega)
            have hd1 := hd.1
            have HNX : Hid (a + pw (distBits d) = distAt (d + 1)) := (by rw [distAt_succ, ← HAD.out] : _ = _)
            have hle := hd.2
            clear hd
            generalize distBits d = lb at *
            generalize pw lb = pp at *
            go_wp2_with (go_at_call 58; refine (hfm _).mono ?_; rintro e wz ⟨rfl, hwz⟩; have hwz := hwz.symm; subst hwz)
            go_round
            case rel => exact ⟨d + 1, a + pp, by omega, HNX.out, hle, by go_num, by go_num⟩
            case measure => simp [intOf]; omega
          · have HD : Hid (DistOk far d) := dist_found far d e2 (by rw [← HAD.out]; exact e4) hf2 (by
              rcases Nat.lt_or_ge d 29 with h | h
              · exact .inr (fun hh => hd ⟨h, by rw [HAD.out]; exact hh⟩)
              · exact .inl (by omega))
            have hds := HD.out.2.2
            rw [distT_at] at hds
            dsimp only at hds
            have hfd : (far : Int) - (a : Int) = ((far - a : Nat) : Int) := by omega
            have HFD : Hid (far - a = far - (distT d).1 ∧ distBits d = (distT d).2) := (⟨by rw [distT_at, ← HAD.out], by rw [distT_at]⟩ : _ ∧ _)
            rw [← HAD.out] at hds
            clear hds
            have hcode := fun B1 rv1 w1 h1 h2 => code_any wb base rv1 B1 d 5 (d : Int) rfl w1 h1 (by omega) (by omega) h2
            by_cases hd29 : d < 29
            all_goals
              try (have hnle : ¬ a + pw (distBits d) ≤ far := fun hh => hd ⟨hd29, hh⟩)
              try (have d1 : decide ((a : Int) + ((pw (distBits d) : Nat) : Int) ≤ (far : Int)) = false := decide_eq_false (by omega))
              clear hd
              generalize distBits d = lb at *
              generalize pw lb = pp at *
              go_wp2_with (go_at_call 58; refine (hfm _).mono ?_; rintro e wz ⟨rfl, hwz⟩; have hwz := hwz.symm; subst hwz)
              refine (hcode _ _ _ hW1 hL1).mono ?_
              rintro e w2 ⟨rfl, rv2, q1, q2, q3⟩
              have ht2 := wr_trans hF1 hO1 q2 q3
              have hL2 : (B1 ++ codeB d 5).length ≤ 10000000 := by rw [List.length_append, codeB_len]; omega
              go_wp2_with (go_at_call 58; refine (hfm _).mono ?_; rintro e wz ⟨rfl, hwz⟩; have hwz := hwz.symm; subst hwz)
              refine (low_any wb base rv2 (B1 ++ codeB d 5) (far - a) lb _ q1 (by omega) (by omega) hL2).mono ?_
              rintro e w3 ⟨rfl, rv3, x1, x2, x3⟩
              have ht3 := wr_trans ht2.1 ht2.2 x2 x3
              go_wp2_with fail
              go_end0
              refine ⟨y, d, HY.out, HD.out, rfl, rv3, ?_, ht3.1, ht3.2⟩
              rw [HB1.out d, ← HFD.out.1, ← HFD.out.2]
              exact x1
end Go.Proofs.YtephkcdbnogdhaaGreatDoor.Pr
/- The walk of the program's Adler sum: what sum.Adler returns. -/
namespace Go.Proofs.YtephkcdbnogdhaaGreatDoor.AdW
open Go.RowKit Ad
set_option maxHeartbeats 400000 in
theorem adler_any (s : ByteArray) (w : World) (hs : s.size ≤ maxLen) :
    Calls Tryz.prog 60 #[.string s] w fun e w' => e = .returned (.int .u32 ((65536 * (adl 1 0 s.data.toList).2 + (adl 1 0 s.data.toList).1 : Nat) : Int)) ∧ w' = w := by
  unfold maxLen at hs
  go_enter Tryz.func60, Tryz.ntmps60
  go_wp2
  go_loop [3, 7] (fun c i => ∃ k : Nat, k ≤ s.size ∧ i = .int .i64 k ∧ c = .int .u32 ((one (adl 1 0 (s.data.toList.take k)) : Nat) : Int)) (fun _ i => s.size - (intOf i).toNat)
  case atStart => exact ⟨0, Nat.zero_le _, rfl, rfl⟩
  case round =>
    obtain ⟨k, hk, rfl, rfl⟩ := hrel
    by_cases hlt : k < s.size
    · obtain ⟨hb1, hb2⟩ := adl_bd (s.data.toList.take k) 1 0 (by omega) (by omega)
      have HS : Hid _ := adl_one s k hlt
      have hbyte : s[k].toNat ≤ 255 := by have := s[k].toNat_lt; omega
      have H1 : Hid (one (adl 1 0 (s.data.toList.take k)) % 65536 ≤ 65520) := (by rw [one_lo _ hb1]; exact hb1 : _ ≤ _)
      have H2 : Hid (one (adl 1 0 (s.data.toList.take k)) / 65536 ≤ 65520) := (by rw [one_hi _ hb1]; exact hb2 : _ ≤ _)
      clear hb1 hb2
      generalize one (adl 1 0 (s.data.toList.take k)) = A at *
      go_wp2_with fail
      refine (add_any A s[k].toNat _ H1.out H2.out hbyte).mono ?_
      rintro e w' ⟨rfl, rfl⟩
      go_wp2_with fail
      go_round
      case rel => exact ⟨k + 1, by omega, by go_num, by rw [HS.out]⟩
      case measure => simp [intOf]; omega
    · rw [take_all s k hlt]
      generalize HA : one (adl 1 0 s.data.toList) = A
      have HA' : Hid _ := HA
      clear HA
      go_wp2
      go_ret
      exact ⟨ret_int (by rw [← HA'.out]; rfl), rfl⟩
end Go.Proofs.YtephkcdbnogdhaaGreatDoor.AdW
/- The walks of pick, four and wrapped; the row of bytes the law keeps. -/
set_option linter.unusedVariables false
namespace Go.Proofs.YtephkcdbnogdhaaGreatDoor.Pr
open Go.RowKit Rf
open RfW (byteCells byteCells_snoc)
open AdW (one)
open Ad (adl)
/-- which of n things a number speaks of -/
def pk (c n : Int) : Int := if c < 0 then (-(c + 1)) % n else c % n
theorem pk_bd (c n : Int) (h : 0 < n) : 0 ≤ pk c n ∧ pk c n < n := by
  unfold pk; split
  · exact ⟨Int.emod_nonneg _ (by omega), Int.emod_lt_of_pos _ h⟩
  · exact ⟨Int.emod_nonneg _ (by omega), Int.emod_lt_of_pos _ h⟩
set_option maxHeartbeats 400000 in
theorem pick_any (c n : Int) (w : World) (h0 : -9223372036854775808 ≤ c) (h1 : c ≤ 9223372036854775807) (hn0 : 0 < n) (hn1 : n ≤ 9223372036854775807) :
    Calls Tryz.prog 22 #[.int .i64 c, .int .i64 n] w fun e w' => e = .returned (.int .i64 (pk c n)) ∧ w' = w := by
  by_cases hc : c < 0
  · go_enter Tryz.func22, Tryz.ntmps22
    go_wp2
    go_ret
    refine ⟨ret_int ?_, rfl⟩
    unfold pk
    rw [if_pos hc, ← Int.neg_tmod, Int.tmod_eq_emod_of_nonneg (by omega)]
  · go_enter Tryz.func22, Tryz.ntmps22
    go_wp2
    go_ret
    refine ⟨ret_int ?_, rfl⟩
    unfold pk
    rw [if_neg (by omega)]
theorem pick_nat (c : Int) (n : Int) (h0 : -9223372036854775808 ≤ c) (h1 : c ≤ 9223372036854775807) (hn0 : 0 < n) (hn1 : n ≤ 9223372036854775807) :
    ∃ d : Nat, (d : Int) < n ∧ ∀ w : World, Calls Tryz.prog 22 #[.int .i64 c, .int .i64 n] w fun e w' => e = .returned (.int .i64 (d : Int)) ∧ w' = w := by
  have hb := pk_bd c n hn0
  refine ⟨(pk c n).toNat, by omega, fun w => ?_⟩
  rw [Int.toNat_of_nonneg hb.1]
  exact pick_any c n w h0 h1 hn0 hn1
/-- the cells of a block hold these bytes -/
def Bytes (w : World) (b : Nat) (l : List UInt8) : Prop := ∀ i, i < l.length → w.cell? ⟨b, i, none⟩ = some (.int .u8 (((l.getD i 0).toNat : Nat) : Int))
theorem conv (w : World) (b cap : Nat) (l : List UInt8) (h : Bytes w b l) : (convert 45 9 (.slice (some ⟨b, 0, none⟩) l.length cap)).run Tryz.prog w = .ok (.string ⟨l.toArray⟩) w := by
  have h1 := run_convert_bytes_arg (P := Tryz.prog) w 45 5 Tryz.underlying45 Tryz.underlying5 b 0 l.length cap (l.map fun x => ((x.toNat : Nat) : Int)) (by simp) (fun i hi => by
    rw [Nat.zero_add, h i hi]; simp [List.getD, List.getElem?_eq_getElem hi]) 9 Tryz.underlying9
  rw [h1]
  have : strOfNums (l.map fun x => ((x.toNat : Nat) : Int)) = ⟨l.toArray⟩ := by
    unfold strOfNums; simp [List.map_map, Function.comp_def]
  rw [this]
theorem conv' (w : World) (b n cap : Nat) (l : List UInt8) (hl : l.length = n) (h : Bytes w b l) : (convert 45 9 (.slice (some ⟨b, 0, none⟩) n cap)).run Tryz.prog w = .ok (.string ⟨l.toArray⟩) w := by
  subst hl; exact conv w b cap l h
/-- a row of the call's own, as a text -/
theorem conv_own {w : World} {base : Nat} {v : Value} (l : List UInt8) (h : w.ownsRow base 5 1 v l.length (byteCells l)) (nq : Nat) : (convert 45 9 v).run Tryz.prog (w.drewN nq) = .ok (.string ⟨l.toArray⟩) (w.drewN nq) := by
  rcases h.2 with ⟨rfl, h0⟩ | ⟨g, cap, cur, rfl, _⟩
  · have e0 : l = [] := List.eq_nil_of_length_eq_zero h0
    subst e0
    exact run_convert_bytes_nil (P := Tryz.prog) (w.drewN nq) 45 5 Tryz.underlying45 Tryz.underlying5 0 0 9 Tryz.underlying9
  · exact conv _ g cap l (fun i hi => (h.cellAt i (by omega)).trans (byteCells_at l i hi))
/-- a number as four bytes -/
def fourB (n : Nat) : List UInt8 := [UInt8.ofNat (n / 16777216), UInt8.ofNat (n / 65536), UInt8.ofNat (n / 256), UInt8.ofNat n]
set_option maxRecDepth 10000 in
set_option maxHeartbeats 2000000 in
theorem four_any (n : Nat) (w : World) (hn : n < 4294967296) :
    Calls Tryz.prog 59 #[.int .i64 (n : Int)] w fun e w' => e = .returned (.string ⟨(fourB n).toArray⟩) ∧ Below w.heap.size w w' := by
  have hcv : (convert 45 9 (.slice (some ⟨w.heap.size, 0, none⟩) 4 4)).run Tryz.prog (w.alloc (.cells #[.int .u8 ((n : Int) / 16777216), .int .u8 ((n : Int) / 65536 % 256), .int .u8 ((n : Int) / 256 % 256), .int .u8 ((n : Int) % 256)] 5)) = .ok (.string ⟨(fourB n).toArray⟩) (w.alloc (.cells #[.int .u8 ((n : Int) / 16777216), .int .u8 ((n : Int) / 65536 % 256), .int .u8 ((n : Int) / 256 % 256), .int .u8 ((n : Int) % 256)] 5)) :=
    conv' _ _ 4 4 (fourB n) rfl (fun i hi => by
      have hi : i < 4 := hi
      have := World.cell?_alloc_mark w #[.int .u8 ((n : Int) / 16777216), .int .u8 ((n : Int) / 65536 % 256), .int .u8 ((n : Int) / 256 % 256), .int .u8 ((n : Int) % 256)] 5 (0, 0) i
      refine this.trans ?_
      rcases (by omega : i = 0 ∨ i = 1 ∨ i = 2 ∨ i = 3) with rfl | rfl | rfl | rfl
      · show some (Value.int .u8 ((n : Int) / 16777216)) = some (.int .u8 (((UInt8.ofNat (n / 16777216)).toNat : Nat) : Int))
        rw [UInt8.toNat_ofNat', show ((n : Int) / 16777216 : Int) = ((n / 16777216 % 2 ^ 8 : Nat) : Int) by omega]
      · show some (Value.int .u8 ((n : Int) / 65536 % 256)) = some (.int .u8 (((UInt8.ofNat (n / 65536)).toNat : Nat) : Int))
        rw [UInt8.toNat_ofNat', show ((n : Int) / 65536 % 256 : Int) = ((n / 65536 % 2 ^ 8 : Nat) : Int) by omega]
      · show some (Value.int .u8 ((n : Int) / 256 % 256)) = some (.int .u8 (((UInt8.ofNat (n / 256)).toNat : Nat) : Int))
        rw [UInt8.toNat_ofNat', show ((n : Int) / 256 % 256 : Int) = ((n / 256 % 2 ^ 8 : Nat) : Int) by omega]
      · show some (Value.int .u8 ((n : Int) % 256)) = some (.int .u8 (((UInt8.ofNat (n)).toNat : Nat) : Int))
        rw [UInt8.toNat_ofNat', show ((n : Int) % 256 : Int) = ((n % 2 ^ 8 : Nat) : Int) by omega])
  go_enter Tryz.func59, Tryz.ntmps59
  go_wp2_with fail
  go_ret
  exact ⟨rfl, (Below.refl _ _).alloc (Nat.le_refl _) _⟩
/-- packed bytes, wrapped -/
def wrB (p o : ByteArray) : ByteArray := (⟨#[120, 1]⟩ : ByteArray) ++ p ++ ⟨(fourB (one (adl 1 0 o.data.toList))).toArray⟩
theorem one_lt4 (l : List UInt8) : one (adl 1 0 l) < 4294967296 := by have := Ad.adl_bd l 1 0 (by omega) (by omega); unfold one; omega
set_option maxRecDepth 10000 in
set_option maxHeartbeats 2000000 in
theorem wrapped_any (p o : ByteArray) (w : World) (hp : p.size ≤ 100000000) (ho : o.size ≤ 100000000) :
    Calls Tryz.prog 25 #[.string p, .string o] w fun e w' => e = .returned (.string (wrB p o)) ∧ Below w.heap.size w w' := by
  have hom : o.size ≤ maxLen := by unfold maxLen; omega
  have had := fun w' => AdW.adler_any o w' hom
  have h4 := one_lt4 o.data.toList
  have hone : 65536 * (adl 1 0 o.data.toList).2 + (adl 1 0 o.data.toList).1 = one (adl 1 0 o.data.toList) := rfl
  simp only [hone] at had
  unfold wrB
  generalize one (adl 1 0 o.data.toList) = A at *
  have hfl : (⟨(fourB A).toArray⟩ : ByteArray).size = 4 := rfl
  have hfour := fun w' => four_any A w' h4
  generalize (⟨(fourB A).toArray⟩ : ByteArray) = X at *
  clear hone hom
  go_enter Tryz.func25, Tryz.ntmps25
  go_wp2_with fail
  refine (had _).mono ?_
  rintro e w1 ⟨rfl, rfl⟩
  go_wp2_with fail
  refine (hfour _).mono ?_
  rintro e w2 ⟨rfl, hb⟩
  clear had hfour
  go_wp2_with fail
  go_ret
  exact ⟨rfl, hb⟩
end Go.Proofs.YtephkcdbnogdhaaGreatDoor.Pr
