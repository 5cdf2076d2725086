/- The walk of stored. -/
import Derived.Test.YtjfifmadldcjjaaGreatDoorAmount
set_option linter.unusedVariables false
namespace Go.Proofs.YtjfifmadldcjjaaGreatDoor.Rf
theorem turn16 (c : Nat) (h : c < 65536) : 65535 ^^^ c = 65535 - c := by
  apply Nat.eq_of_testBit_eq
  intro i
  have e := Nat.testBit_two_pow_sub_succ (n := 16) (x := c) h i
  have f := Nat.testBit_two_pow_sub_one 16 i
  rw [show (65535 : Nat) - c = 2 ^ 16 - (c + 1) by omega, Nat.testBit_xor, e, show (65535 : Nat) = 2 ^ 16 - 1 by omega, f]
  by_cases hi : i < 16
  · simp [hi]
  · have : c.testBit i = false := Nat.testBit_lt_two_pow (Nat.lt_of_lt_of_le h (Nat.pow_le_pow_right (n := 2) (by omega) (show 16 ≤ i by omega)))
    simp [hi, this]
theorem xor_sum (a b : Nat) (ha : a < 65536) (hb : b < 65536) : a ^^^ b = 65535 ↔ a + b = 65535 := by
  constructor
  · intro h
    have h2 : b = 65535 ^^^ a := by
      rw [← h, Nat.xor_comm a b, Nat.xor_assoc, Nat.xor_self, Nat.xor_zero]
    rw [turn16 a ha] at h2
    omega
  · intro h
    have h2 : b = 65535 ^^^ a := by rw [turn16 a ha]; omega
    rw [h2, Nat.xor_comm 65535 a, ← Nat.xor_assoc, Nat.xor_self, Nat.zero_xor]
theorem storedT_bad (s : ByteArray) (most : Nat) (u : US) (h : (headT s u.st).2.bad = true) : (storedT s most u).st.bad = true := by
  unfold storedT
  rw [stL_bad s most _ _ h]; exact h
theorem stL_over (s : ByteArray) (most : Nat) (n : Nat) : ∀ u : US, most < u.out.length + n → u.out.length ≤ most → (stL s most n u).st.bad = true := by
  induction n with
  | zero => intro u h h2; omega
  | succ n ih =>
    intro u h h2
    by_cases hb : u.st.bad = true
    · rw [stL_bad s most _ _ hb]; exact hb
    · have hb' : u.st.bad = false := by simpa using hb
      rw [stL_go s most n u hb']
      by_cases hn : (numT s 8 u.st).2.bad = true
      · by_cases hf : most ≤ u.out.length
        · rw [putT_full most _ ⟨(numT s 8 u.st).2, u.out⟩ hf, stL_bad s most _ _ rfl]
        · rw [putT_bad most _ ⟨(numT s 8 u.st).2, u.out⟩ hf hn, stL_bad s most _ _ hn]; exact hn
      · have hn' : (numT s 8 u.st).2.bad = false := by simpa using hn
        by_cases hf : most ≤ u.out.length
        · rw [putT_full most _ ⟨(numT s 8 u.st).2, u.out⟩ hf, stL_bad s most _ _ rfl]
        · rw [putT_go most _ ⟨(numT s 8 u.st).2, u.out⟩ hf hn']
          exact ih _ (by simp; omega) (by simp; omega)
end Go.Proofs.YtjfifmadldcjjaaGreatDoor.Rf
namespace Go.Proofs.YtjfifmadldcjjaaGreatDoor.Pr
open Go.RowKit Rf
set_option maxRecDepth 10000 in
set_option maxHeartbeats 8000000 in
theorem stored_any (S : Sink) (A : Adr) (s : ByteArray) (win most : Nat) (u : US) (w : World) (hS : S.Ok) (hP : PutOk S) (h : UP S w A s win most u) (hs : s.size ≤ 140737488351232) (hm : most ≤ 16777216) (hw1 : 1 ≤ win) (hw2 : win ≤ 32768) :
    Calls Tryz.prog 58 #[.pointer (some ⟨A.ub, 0, none⟩)] w fun e w' => Res S A s win most w (storedT s most u) e w' := by
  have hbad := h.facts.1
  obtain ⟨⟨pos, bad⟩, out⟩ := u
  dsimp only at hbad
  subst hbad
  obtain ⟨c0, _, _, _⟩ := h.cells
  obtain ⟨f1, f2, f3, f4, f5, f6⟩ := h.facts
  dsimp only at f2
  have hal : alignT ⟨pos, false⟩ = ⟨(pos + 7) / 8 * 8, false⟩ := rfl
  go_enter Tryz.func58, Tryz.ntmps58
  go_wp2_with fail
  refine (align_any A.tb A.rb s pos _ f2).mono ?_
  rintro e w1 ⟨rfl, g1, g2, _⟩
  have hU1 := h.rd hS _ g1 g2
  obtain ⟨p0, hp0⟩ : ∃ p0, p0 = (pos + 7) / 8 * 8 := ⟨_, rfl⟩
  rw [← hp0] at hU1 g1
  have HH : Hid (headT s ⟨pos, false⟩ = ((numT s 16 ⟨p0, false⟩).1, if (numT s 16 ⟨p0, false⟩).1 + (numT s 16 (numT s 16 ⟨p0, false⟩).2).1 = 65535 then (numT s 16 (numT s 16 ⟨p0, false⟩).2).2 else ⟨(numT s 16 (numT s 16 ⟨p0, false⟩).2).2.pos, true⟩)) := (by unfold headT; rw [hal, ← hp0] : _ = _)
  clear hp0 c0 hal
  obtain ⟨hU1, hP1⟩ := hU1
  obtain ⟨c0, _, _, _⟩ := hU1.cells
  obtain ⟨_, f2, _, f4, _, _⟩ := hU1.facts
  go_wp2_with fail
  refine (number_any A.tb A.rb A.eb s p0 16 _ f2 f4 hs (by omega) f5 f6).mono ?_
  rintro e w2 (⟨a1, a2, rfl, a3, a4, _⟩ | ⟨a1, ⟨a, rfl⟩, a3, a4⟩)
  rotate_left
  · go_wp2_with fail
    go_ret
    have hfin := hU1.rdE a3 a4
    refine .inr ⟨storedT_bad s most _ ?_, ⟨a, rfl⟩, hfin.1, hP1.trans hfin.2⟩
    dsimp only
    rw [HH.out]
    dsimp only
    split
    · exact numT_keep s 16 _ a1
    · rfl
  obtain ⟨hU2, hP2⟩ := hU1.rd hS _ a3 a4
  have N1 : Hid (numT s 16 ⟨p0, false⟩ = (bitsV s p0 16, ⟨p0 + 16, false⟩)) := numT_ok s 16 p0 a2
  have hb1 : bitsV s p0 16 < 65536 := bitsV_lt s p0 16
  clear c0 f2 f4
  obtain ⟨c0, _, _, _⟩ := hU2.cells
  obtain ⟨_, f2, _, f4, _, _⟩ := hU2.facts
  dsimp only at f2
  generalize hb10 : bitsV s p0 16 = n1 at *
  go_wp2_with fail
  refine (number_any A.tb A.rb A.eb s (p0 + 16) 16 _ f2 f4 hs (by omega) f5 f6).mono ?_
  rintro e w3 (⟨b1, b2, rfl, b3, b4, _⟩ | ⟨b1, ⟨a, rfl⟩, b3, b4⟩)
  rotate_left
  · go_wp2_with fail
    go_ret
    have hfin := hU2.rdE b3 b4
    refine .inr ⟨storedT_bad s most _ ?_, ⟨a, rfl⟩, hfin.1, (hP1.trans hP2).trans hfin.2⟩
    dsimp only
    rw [HH.out, N1.out]
    dsimp only
    split
    · exact b1
    · rfl
  obtain ⟨hU3, hP3⟩ := hU2.rd hS _ b3 b4
  have N2 : Hid (numT s 16 ⟨p0 + 16, false⟩ = (bitsV s (p0 + 16) 16, ⟨p0 + 16 + 16, false⟩)) := numT_ok s 16 (p0 + 16) b2
  have hb2 : bitsV s (p0 + 16) 16 < 65536 := bitsV_lt s (p0 + 16) 16
  clear c0 f2 f4
  generalize hb20 : bitsV s (p0 + 16) 16 = n2 at *
  have hxor := i64_xor_nat n1 n2 (by omega) (by omega)
  have HX : Hid _ := xor_sum n1 n2 hb1 hb2
  obtain ⟨xx, hxx⟩ : ∃ xx, xx = n1 ^^^ n2 := ⟨_, rfl⟩
  rw [← hxx] at hxor
  have HX2 : Hid (xx = 65535 ↔ n1 + n2 = 65535) := (by rw [hxx]; exact HX.out : _ ↔ _)
  clear hxx
  have hP123 := (hP1.trans hP2).trans hP3
  by_cases hfit : xx = 65535
  rotate_left
  · have dx : ((xx : Int) == 65535) = false := by rw [beq_eq_false_iff_ne]; omega
    have dx2 : decide ((xx : Int) = 65535) = false := decide_eq_false (by omega)
    go_wp2_with fail
    refine (mal_any _ _).mono ?_
    rintro e w4 ⟨rfl, rfl⟩
    go_wp2_with fail
    go_ret
    refine .inr ⟨storedT_bad s most _ ?_, ⟨_, rfl⟩, hU3.ue.alloc _, hP123.trans (PE.alloc _ _ _ hU3.base)⟩
    dsimp only
    rw [HH.out, N1.out]
    dsimp only
    rw [N2.out]
    dsimp only
    rw [if_neg (fun e => hfit (HX2.out.2 e))]
  have dx : ((xx : Int) == 65535) = true := by rw [beq_iff_eq]; omega
  have dx2 : decide ((xx : Int) = 65535) = true := decide_eq_true (by omega)
  have HT : Hid (storedT s most ⟨⟨pos, false⟩, out⟩ = stL s most n1 ⟨⟨p0 + 16 + 16, false⟩, out⟩) := (by
    unfold storedT
    rw [HH.out, N1.out]
    dsimp only
    rw [N2.out]
    dsimp only
    rw [if_pos (HX2.out.1 hfit)] : _ = _)
  clear hfit
  go_wp2_with fail
  refine (room_any S A s win most n1 _ _ hS hU3 hm (by omega)).mono ?_
  rintro e w4 (⟨k1, rfl, hw⟩ | ⟨k1, ⟨a, rfl⟩, k2, k3⟩)
  rotate_left
  · go_wp2_with fail
    go_ret
    exact .inr ⟨by rw [HT.out]; exact stL_over s most n1 _ (by dsimp only at k1 ⊢; omega) hU3.facts.2.2.1, ⟨a, rfl⟩, k2, hP123.trans k3⟩
  have hw := hw.symm
  subst hw
  dsimp only at k1
  go_wp2_with fail
  go_loopw [49] (fun iv wr => ∃ (j : Nat) (t : US), j ≤ n1 ∧ iv = .int .i64 (j : Int) ∧ stL s most n1 ⟨⟨p0 + 16 + 16, false⟩, out⟩ = stL s most (n1 - j) t ∧ t.out.length = out.length + j ∧ UP S wr A s win most t ∧ PE A.base w wr) (fun iv _ => n1 - (intOf iv).toNat)
  case atStart => exact ⟨0, ⟨⟨p0 + 16 + 16, false⟩, out⟩, Nat.zero_le _, rfl, rfl, rfl, hU3, hP123⟩
  case round =>
    clear hU3 hP123 hU2 hU1 hP1 hP2 hP3
    obtain ⟨j, t, hj, rfl, ht1, ht2, hU, hPE⟩ := hrel
    have HTT : Hid _ := ht1
    have HL : Hid (t.out.length = out.length + j) := ht2
    clear ht1 ht2
    have hbad := hU.facts.1
    obtain ⟨⟨tp, bad⟩, tout⟩ := t
    dsimp only at hbad
    subst hbad
    by_cases hlt : j < n1
    · obtain ⟨c0, _, _, _⟩ := hU.cells
      obtain ⟨_, f2, _, f4, _, _⟩ := hU.facts
      dsimp only at f2
      have H1 : Hid (stL s most (n1 - j) ⟨⟨tp, false⟩, tout⟩ = stL s most (n1 - (j + 1)) (putT most (UInt8.ofNat (numT s 8 ⟨tp, false⟩).1) ⟨(numT s 8 ⟨tp, false⟩).2, tout⟩)) := (by
        rw [show n1 - j = (n1 - (j + 1)) + 1 by omega]; exact stL_go s most _ _ rfl : _ = _)
      go_wp2_with fail
      refine (number_any A.tb A.rb A.eb s tp 8 _ f2 f4 hs (by omega) f5 f6).mono ?_
      rintro e w2 (⟨a1, a2, rfl, a3, a4, _⟩ | ⟨a1, ⟨a, rfl⟩, a3, a4⟩)
      · obtain ⟨hU2, hP2⟩ := hU.rd hS _ a3 a4
        have hb8 : bitsV s tp 8 < 256 := bitsV_lt s tp 8
        have N8 : Hid (numT s 8 ⟨tp, false⟩ = (bitsV s tp 8, ⟨tp + 8, false⟩)) := numT_ok s 8 tp a2
        have hto : (UInt8.ofNat (bitsV s tp 8)).toNat = bitsV s tp 8 := by simp; omega
        have hlm : tout.length < most := by have := HL.out; (try dsimp only at this); omega
        have H2 : Hid (putT most (UInt8.ofNat (numT s 8 ⟨tp, false⟩).1) ⟨(numT s 8 ⟨tp, false⟩).2, tout⟩ = ⟨⟨tp + 8, false⟩, tout ++ [UInt8.ofNat (bitsV s tp 8)]⟩) := (by
          rw [N8.out]; exact putT_go most _ _ (by dsimp only; omega) rfl : _ = _)
        have hput := hP A s win most ⟨⟨tp + 8, false⟩, tout⟩ (UInt8.ofNat (bitsV s tp 8)) w2 hU2 hlm hm hw1 hw2
        rw [hto] at hput
        clear hto c0 f2 f4
        go_wp2_with fail
        refine hput.mono ?_
        rintro e w3 ⟨rfl, g1, g2⟩
        go_wp2_with fail
        go_roundw
        case rel => exact ⟨j + 1, _, by omega, by go_num, HTT.out.trans (H1.out.trans (by rw [H2.out])), by simp only [List.length_append, List.length_singleton]; have := HL.out; (try dsimp only at this); omega, g1, hPE.trans (hP2.trans g2)⟩
        case measure => simp [intOf]; omega
      · have hfin := hU.rdE a3 a4
        have HB : Hid ((stL s most n1 ⟨⟨p0 + 16 + 16, false⟩, out⟩).st.bad = true) := (by
          rw [HTT.out, H1.out]
          by_cases hf : most ≤ tout.length
          · rw [putT_full most _ _ hf, stL_bad s most _ _ rfl]
          · rw [putT_bad most _ _ hf a1, stL_bad s most _ _ a1]; exact a1 : _ = _)
        go_wp2_with fail
        go_ret
        exact .inr ⟨by rw [HT.out]; exact HB.out, ⟨a, rfl⟩, hfin.1, hPE.trans hfin.2⟩
    · have H2 : Hid (stL s most n1 ⟨⟨p0 + 16 + 16, false⟩, out⟩ = ⟨⟨tp, false⟩, tout⟩) := (by rw [HTT.out, show n1 - j = 0 by omega]; rfl : _ = _)
      go_wp2_with fail
      go_ret
      exact .inl ⟨by rw [HT.out, H2.out], rfl, by rw [HT.out, H2.out]; exact hU, hPE⟩
end Go.Proofs.YtjfifmadldcjjaaGreatDoor.Pr
