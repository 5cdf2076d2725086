/- The walks of withFixedCodes, withOwnCodes, block, blocks; of bitrow.New, newUnpacker; the unpacker at the beginning. -/
import Derived.Test.YtephkcdbnogdhaaGreatDoorMF
import Derived.Test.YtephkcdbnogdhaaGreatDoorMG
import Derived.Test.YtephkcdbnogdhaaGreatDoorMP
import Derived.Test.YtephkcdbnogdhaaGreatDoorME
set_option linter.unusedVariables false
namespace Go.Proofs.YtephkcdbnogdhaaGreatDoor.Pr
open Go.RowKit Rf
theorem fix_len : fixList.length = 288 := by simp [fixList]
theorem fix_le : ∀ x ∈ fixList, x ≤ 15 := by
  intro x hx
  simp only [fixList, List.mem_map] at hx
  obtain ⟨i, _, rfl⟩ := hx
  unfold fixLen; split <;> (try split) <;> omega
theorem fix_much : muchL fixList = 32768 := by decide +kernel
theorem fives_much : muchL (List.replicate 32 5) = 32768 := by decide +kernel
theorem fives_le : ∀ x ∈ List.replicate 32 5, x ≤ 15 := fun x hx => by rw [List.eq_of_mem_replicate hx]; omega
theorem fix_fit : Fit fixList := ⟨by rw [fix_len]; omega, fix_le, by rw [kN_much _ fix_le, fix_much]; omega, by rw [fix_len]; omega⟩
theorem fives_fit : Fit (List.replicate 32 5) := ⟨by simp, fives_le, by rw [kN_much _ fives_le, fives_much]; omega, by simp⟩
theorem UP.fx {S : Sink} {w : World} {A : Adr} {s : ByteArray} {win most : Nat} {u : US} (h : UP S w A s win most u) : (w.cell? ⟨A.ub, 5, none⟩ = some (.pointer none) ∨ ∃ kf, w.cell? ⟨A.ub, 5, none⟩ = some (.pointer (some ⟨kf, 0, none⟩)) ∧ TabsIs w kf fixList (List.replicate 32 5)) ∧ w.frozen? ⟨A.ub, 5, none⟩ = false := by
  obtain ⟨vr, F, fx, h1, h2, h3, h4, h5, h6, h7, h8, h9, h10, h11, h12, h13, h14, h15⟩ := h
  have c4 : w.cell? ⟨A.ub, 5, none⟩ = some (.pointer fx) := by simpa using (cell_of h5 5).1
  refine ⟨?_, (cell_of h5 5).2⟩
  rcases h6 with rfl | ⟨kf, rfl, ht⟩
  · exact .inl c4
  · exact .inr ⟨kf, c4, ht⟩
theorem UP.setFx {S : Sink} {w : World} {A : Adr} {s : ByteArray} {win most : Nat} {u : US} (h : UP S w A s win most u) (kf : Nat) (hk : TabsIs w kf fixList (List.replicate 32 5)) :
    UP S (w.setCell ⟨A.ub, 5, none⟩ (.pointer (some ⟨kf, 0, none⟩))) A s win most u ∧ PE A.base w (w.setCell ⟨A.ub, 5, none⟩ (.pointer (some ⟨kf, 0, none⟩))) ∧ (w.setCell ⟨A.ub, 5, none⟩ (.pointer (some ⟨kf, 0, none⟩))).cell? ⟨A.ub, 5, none⟩ = some (.pointer (some ⟨kf, 0, none⟩)) := by
  obtain ⟨vr, F, fx, h1, h2, h3, h4, h5, h6, h7, h8, h9, h10, h11, h12, h13, h14, h15⟩ := h
  have g5 := set_of h5 5 (.pointer (some ⟨kf, 0, none⟩))
  have hut := h2.types h5 (by decide) (by decide)
  have hug : A.gb ≠ A.ub := ne_of_type h4.1 h5 (by decide)
  have hp : PE A.base w (w.setCell ⟨A.ub, 5, none⟩ (.pointer (some ⟨kf, 0, none⟩))) := ⟨rfl, rfl, rfl, by simp, fun k hk => set_other 5 _ (by omega), fun k cur T f e hT => set_other 5 _ (fun e2 => by rw [e2, h5] at e; simp at e; rw [← e.2.1] at hT; revert hT; decide)⟩
  refine ⟨⟨vr, F, some ⟨kf, 0, none⟩, h1, h2.setNew _ _ _ h15 hut.1 hut.2, h3, ⟨(set_other 5 _ hug).trans h4.1, ownsRow_over h4.2.1 (fun k hk => set_other 5 _ (fun e => row_ne h4.2.1 h5 (by decide) (e ▸ hk))), by simpa using h4.2.2⟩, g5.trans (by simp), .inr ⟨kf, rfl, hk.pe hp⟩, h12.stable h7 (fun k hk => hk.elim (fun hk => set_other 5 _ (h8 k hk).2.2.2.2.1) (fun hk => hp.low k hk)) (by simp), h8, h9, h10.over (hp.low _ (by omega)), h11, h12, h13, h14, h15⟩, hp, by simpa using (cell_of g5 5).1⟩
theorem UP.allf {S : Sink} {w : World} {A : Adr} {s : ByteArray} {win most : Nat} {u : US} (h : UP S w A s win most u) : w.frozen? ⟨A.ub, 3, none⟩ = false := by
  obtain ⟨vr, F, fx, h1, h2, h3, h4, h5, h6, h7, h8, h9, h10, h11, h12, h13, h14, h15⟩ := h
  exact (cell_of h5 3).2
/-- 'u.all = true' -/
theorem UP.setAll {S : Sink} {w : World} {A : Adr} {s : ByteArray} {win most : Nat} {u : US} (h : UP S w A s win most u) :
    UP S (w.setCell ⟨A.ub, 3, none⟩ (.bool true)) ⟨A.tb, A.rb, A.gb, A.ub, true⟩ s win most u ∧ PE A.base w (w.setCell ⟨A.ub, 3, none⟩ (.bool true)) := by
  obtain ⟨vr, F, fx, h1, h2, h3, h4, h5, h6, h7, h8, h9, h10, h11, h12, h13, h14, h15⟩ := h
  have g5 := set_of h5 3 (.bool true)
  have hut := h2.types h5 (by decide) (by decide)
  have hug : A.gb ≠ A.ub := ne_of_type h4.1 h5 (by decide)
  have hp : PE A.base w (w.setCell ⟨A.ub, 3, none⟩ (.bool true)) := ⟨rfl, rfl, rfl, by simp, fun k hk => set_other 3 _ (by omega), fun k cur T f e hT => set_other 3 _ (fun e2 => by rw [e2, h5] at e; simp at e; rw [← e.2.1] at hT; revert hT; decide)⟩
  exact ⟨⟨vr, F, fx, h1, h2.setNew _ _ _ h15 hut.1 hut.2, h3, ⟨(set_other 3 _ hug).trans h4.1, ownsRow_over h4.2.1 (fun k hk => set_other 3 _ (fun e => row_ne h4.2.1 h5 (by decide) (e ▸ hk))), by simpa using h4.2.2⟩, g5.trans (by simp), h6.imp id (fun ⟨kf, e, ht⟩ => ⟨kf, e, ht.pe hp⟩), h12.stable h7 (fun k hk => hk.elim (fun hk => set_other 3 _ (h8 k hk).2.2.2.2.1) (fun hk => hp.low k hk)) (by simp), h8, h9, h10.over (hp.low _ (by omega)), h11, h12, h13, h14, h15⟩, hp⟩
set_option maxRecDepth 10000 in
set_option maxHeartbeats 4000000 in
theorem fixedCodes_any (S : Sink) (A : Adr) (s : ByteArray) (win most : Nat) (u : US) (w : World) (hP : PutOk S A.base) (h : UP S w A s win most u) (hs : s.size ≤ 140737488354000) (hm : most ≤ 16777216) (hw1 : 1 ≤ win) (hw2 : win ≤ 32768) :
    Calls Tryz.prog 135 #[.pointer (some ⟨A.ub, 0, none⟩)] w fun e w' => Res S A s win most w (symsF s win most (codesT fixList).cs (codesT (List.replicate 32 5)).cs (8 * s.size + 1) u) e w' := by
  obtain ⟨hfx, hfr⟩ := h.fx
  rcases hfx with c4 | ⟨kf, c4, hT⟩
  · go_enter Tryz.func135, Tryz.ntmps135
    go_wp2_with fail
    refine (fixed_any _).mono ?_
    rintro e w1 ⟨⟨k, rfl, g1, g2⟩, g3⟩
    obtain ⟨hU1, hP1⟩ := h.grow g3
    obtain ⟨hfx1, hfr1⟩ := hU1.fx
    obtain ⟨hU2, hP2, c4'⟩ := hU1.setFx k g1
    have hT2 := g1.pe hP2
    have c41 : ∃ v, w1.cell? ⟨A.ub, 5, none⟩ = some v := by
      rcases hfx1 with h | ⟨_, h, _⟩
      · exact ⟨_, h⟩
      · exact ⟨_, h⟩
    obtain ⟨v4, hv4⟩ := c41
    clear c4 hfr hfx1
    go_wp2_with fail
    refine (symbols_any S A s win most k fixList (List.replicate 32 5) u _ hP hU2 hT2 fix_fit fives_fit hs hm hw1 hw2).mono ?_
    rintro e w3 (⟨r1, rfl, r3, r4⟩ | ⟨⟨T, a, rfl, r1⟩, r3, r4⟩)
    · go_wp2_with fail
      go_ret
      exact .inl ⟨r1, rfl, r3, (hP1.trans hP2).trans r4⟩
    · go_wp2_with fail
      go_ret
      exact .inr ⟨⟨T, a, rfl, r1⟩, r3, (hP1.trans hP2).trans r4⟩
  · go_enter Tryz.func135, Tryz.ntmps135
    go_wp2_with fail
    refine (symbols_any S A s win most kf fixList (List.replicate 32 5) u _ hP h hT fix_fit fives_fit hs hm hw1 hw2).mono ?_
    rintro e w3 (⟨r1, rfl, r3, r4⟩ | ⟨⟨T, a, rfl, r1⟩, r3, r4⟩)
    · go_wp2_with fail
      go_ret
      exact .inl ⟨r1, rfl, r3, r4⟩
    · go_wp2_with fail
      go_ret
      exact .inr ⟨⟨T, a, rfl, r1⟩, r3, r4⟩
theorem UP.order {S : Sink} {w : World} {A : Adr} {s : ByteArray} {win most : Nat} {u : US} (h : UP S w A s win most u) : OrderIs w ∧ ¬ A.tb.F 6 ∧ 6 ≠ A.rb ∧ 6 < w.heap.size := by
  have hb := h.base
  obtain ⟨vr, F, fx, h1, h2, h3, h4, h5, h6, h7, h8, h9, h10, h11, h12, h13, h14, h15⟩ := h
  exact ⟨h10, fun e => by have := h9.low _ e; have h11' : 7 ≤ A.tb.base := h11; omega, by omega, by omega⟩
set_option maxRecDepth 10000 in
set_option maxHeartbeats 4000000 in
theorem ownCodes_any (S : Sink) (A : Adr) (s : ByteArray) (win most : Nat) (u : US) (w : World) (hP : PutOk S A.base) (h : UP S w A s win most u) (hs : s.size ≤ 140737488354000) (hm : most ≤ 16777216) (hw1 : 1 ≤ win) (hw2 : win ≤ 32768) :
    Calls Tryz.prog 136 #[.pointer (some ⟨A.ub, 0, none⟩)] w fun e w' => Res S A s win most w (ownT s win most u) e w' := by
  have hbad := h.facts.1
  obtain ⟨⟨pos, bad⟩, out⟩ := u
  dsimp only at hbad
  subst hbad
  obtain ⟨c0, _, _, _⟩ := h.cells
  obtain ⟨_, f2, _⟩ := h.facts
  obtain ⟨o1, o2, o3, o4⟩ := h.order
  go_enter Tryz.func136, Tryz.ntmps136
  go_wp2_with fail
  refine (rtab_any A.tb A.rb s pos _ f2 o1 hs o2 o3 o4).mono ?_
  rintro e w1 (⟨LA, LB, p, k, r1, r2, r3, r4, rfl, r5, r6, r7⟩ | ⟨⟨T, a, rfl, r1⟩, r3, r4⟩)
  · obtain ⟨hU1, hP1⟩ := h.rd p r6 r7
    have HO : Hid _ := r1 win most out
    clear r1
    go_wp2_with fail
    refine (symbols_any S A s win most k LA LB _ _ hP hU1 r5 r2 r3 hs hm hw1 hw2).mono ?_
    rintro e w3 (⟨q1, rfl, q3, q4⟩ | ⟨⟨T, a, rfl, q1⟩, q3, q4⟩)
    · go_wp2_with fail
      go_ret
      exact .inl ⟨by rw [HO.out]; exact q1, rfl, by rw [HO.out]; exact q3, hP1.trans q4⟩
    · go_wp2_with fail
      go_ret
      exact .inr ⟨⟨T, a, rfl, by rw [HO.out]; exact q1⟩, q3, hP1.trans q4⟩
  · have hfin := h.rdE r3 r4
    have HO : Why A.tb w1 T a (Stop S (ownT s win most ⟨⟨pos, false⟩, out⟩)) := r1.imp (fun r1 => .inl (r1 win most out))
    clear r1
    go_wp2_with fail
    go_ret
    exact .inr ⟨⟨T, a, rfl, HO⟩, hfin.1, hfin.2⟩
theorem sortT_keep (s : ByteArray) (win most y : Nat) (u : US) (h : u.st.bad = true) : (sortT s win most y u).st.bad = true := by
  unfold sortT; rw [if_pos h]; exact h
theorem enough0 (S : Sink) (A : Adr) (s : ByteArray) (win most : Nat) (u : US) (w : World) (h : UP S w A s win most u) (hm : most ≤ 16777216) :
    Calls Tryz.prog 138 #[.pointer (some ⟨A.ub, 0, none⟩), .int .i64 0] w fun e w' =>
      ((A.al = true → most ≤ u.out.length) ∧ e = .returned .nilIface ∧ w' = w) ∨ ((∃ T a, e = .returned (.iface T (.pointer (some a))) ∧ Why A.tb w' T a (Short A most u)) ∧ UE w' A s ∧ PE A.base w w') := enough_any S A s win most 0 u w h hm (by omega)
set_option maxRecDepth 10000 in
set_option maxHeartbeats 4000000 in
theorem block_0 (S : Sink) (A : Adr) (s : ByteArray) (win most pos : Nat) (out : List UInt8) (w : World) (hP : PutOk S A.base) (h : UP S w A s win most ⟨⟨pos, false⟩, out⟩) (hs : s.size ≤ 140737488354000) (hm : most ≤ 16777216) (hw1 : 1 ≤ win) (hw2 : win ≤ 32768) (hbit : bitsV s pos 1 = 0) :
    Calls Tryz.prog 105 #[.pointer (some ⟨A.ub, 0, none⟩)] w fun e w' =>
      ((blkT s win most ⟨⟨pos, false⟩, out⟩).1 = 0 ∧ pos + 3 ≤ 8 * s.size ∧ (blkT s win most ⟨⟨pos, false⟩, out⟩).2.st.bad = false ∧ pos + 3 ≤ (blkT s win most ⟨⟨pos, false⟩, out⟩).2.st.pos ∧ e = .returned (.tuple #[.bool false, .nilIface]) ∧ UP S w' A s win most (blkT s win most ⟨⟨pos, false⟩, out⟩).2 ∧ PE A.base w w') ∨
      ((∃ b T a, e = .returned (.tuple #[.bool b, .iface T (.pointer (some a))]) ∧ Why A.tb w' T a (Stop S (blkT s win most ⟨⟨pos, false⟩, out⟩).2)) ∧ UE w' A s ∧ PE A.base w w') := by
  obtain ⟨c0, _, _, _⟩ := h.cells
  obtain ⟨_, f2, _⟩ := h.facts
  dsimp only at f2
  have hN := bit_any A.tb A.rb s pos w f2 hs
  have hO := oneT_ok s pos
  rw [hbit] at hN hO
  have HO : Hid _ := hO
  clear hbit hO
  go_enter Tryz.func105, Tryz.ntmps105
  go_wp2_with fail
  refine hN.mono ?_
  rintro e w1 (⟨a1, a2, rfl, a3, a4⟩ | ⟨⟨T, a, rfl, a1⟩, a3, a4⟩)
  rotate_left
  · have hfin := h.rdE a3 a4
    have HW : Why A.tb w1 T a (Stop S (blkT s win most ⟨⟨pos, false⟩, out⟩).2) := a1.imp (fun a1 => .inl (sortT_keep _ _ _ _ _ (numT_keep s 2 _ a1)))
    clear a1
    go_wp2_with fail
    go_ret2
    exact .inr ⟨⟨_, T, a, rfl, HW⟩, hfin.1, hfin.2⟩
  obtain ⟨hU1, hP1⟩ := h.rd _ a3 a4
  have O1 : Hid (oneT s ⟨pos, false⟩ = (0, ⟨pos + 1, false⟩)) := HO.out a2
  clear c0 f2 hN
  obtain ⟨c0, _, _, _⟩ := hU1.cells
  obtain ⟨_, f2, _⟩ := hU1.facts
  dsimp only at f2
  go_wp2_with fail
  refine (number_any A.tb A.rb s (pos + 1) 2 _ f2 hs (by omega)).mono ?_
  rintro e w2 (⟨b1, b2, rfl, b3, b4⟩ | ⟨⟨T, a, rfl, b1⟩, b3, b4⟩)
  rotate_left
  · have hfin := hU1.rdE b3 b4
    have HW : Why A.tb w2 T a (Stop S (blkT s win most ⟨⟨pos, false⟩, out⟩).2) := b1.imp (fun b1 => (.inl (by
      unfold blkT
      dsimp only
      rw [O1.out]
      exact sortT_keep _ _ _ _ _ b1)))
    clear b1
    go_wp2_with fail
    go_ret2
    exact .inr ⟨⟨_, T, a, rfl, HW⟩, hfin.1, hP1.trans hfin.2⟩
  obtain ⟨hU2, hP2⟩ := hU1.rd _ b3 b4
  have N2 : Hid (numT s 2 ⟨pos + 1, false⟩ = (bitsV s (pos + 1) 2, ⟨pos + 1 + 2, false⟩)) := numT_ok s 2 (pos + 1) b2
  have hy4 : bitsV s (pos + 1) 2 < 4 := bitsV_lt s (pos + 1) 2
  generalize bitsV s (pos + 1) 2 = y at *
  have HBK : Hid (blkT s win most ⟨⟨pos, false⟩, out⟩ = (0, sortT s win most y ⟨⟨pos + 1 + 2, false⟩, out⟩)) := (by
    unfold blkT
    dsimp only
    rw [O1.out]
    dsimp only
    rw [N2.out] : _ = _)
  have HGE : Hid (pos + 1 + 2 ≤ (sortT s win most y ⟨⟨pos + 1 + 2, false⟩, out⟩).st.pos) := sortT_ge s win most y ⟨⟨pos + 1 + 2, false⟩, out⟩
  have HPE : Hid (pos + 3 ≤ 8 * s.size) := (by omega : _ ≤ _)
  have hP12 := hP1.trans hP2
  clear c0 f2 a2 b2
  rcases (by omega : y = 0 ∨ y = 1 ∨ y = 2 ∨ y = 3) with rfl | rfl | rfl | rfl
  · have HS : Hid (sortT s win most 0 ⟨⟨pos + 1 + 2, false⟩, out⟩ = storedT s most ⟨⟨pos + 1 + 2, false⟩, out⟩) := rfl
    go_wp2_with fail
    refine (stored_any S A s win most _ false _ hP hU2 hs hm hw1 hw2).mono ?_
    rintro e w3 (⟨q1, rfl, q3, q4⟩ | ⟨⟨T, a, rfl, q1⟩, q3, q4⟩)
    · go_wp2_with fail
      go_ret2
      exact .inl ⟨by rw [HBK.out], HPE.out, by rw [HBK.out, HS.out]; exact q1, by rw [HBK.out]; have := HGE.out; omega, rfl, by rw [HBK.out, HS.out]; exact q3, hP12.trans q4⟩
    · have HW : Why A.tb w3 T a (Stop S (blkT s win most ⟨⟨pos, false⟩, out⟩).2) := q1.imp (fun q1 => by rw [HBK.out, HS.out]; exact q1.elim id (fun e => by cases e.1))
      clear q1
      go_wp2_with fail
      go_ret2
      exact .inr ⟨⟨_, T, a, rfl, HW⟩, q3, hP12.trans q4⟩
  · have HS : Hid (sortT s win most 1 ⟨⟨pos + 1 + 2, false⟩, out⟩ = symsF s win most (codesT fixList).cs (codesT (List.replicate 32 5)).cs (8 * s.size + 1) ⟨⟨pos + 1 + 2, false⟩, out⟩) := rfl
    go_wp2_with fail
    refine (fixedCodes_any S A s win most _ _ hP hU2 hs hm hw1 hw2).mono ?_
    rintro e w3 (⟨q1, rfl, q3, q4⟩ | ⟨⟨T, a, rfl, q1⟩, q3, q4⟩)
    · go_wp2_with fail
      go_ret2
      exact .inl ⟨by rw [HBK.out], HPE.out, by rw [HBK.out, HS.out]; exact q1, by rw [HBK.out]; have := HGE.out; omega, rfl, by rw [HBK.out, HS.out]; exact q3, hP12.trans q4⟩
    · have HW : Why A.tb w3 T a (Stop S (blkT s win most ⟨⟨pos, false⟩, out⟩).2) := q1.imp (fun q1 => by rw [HBK.out, HS.out]; exact q1)
      clear q1
      go_wp2_with fail
      go_ret2
      exact .inr ⟨⟨_, T, a, rfl, HW⟩, q3, hP12.trans q4⟩
  · have HS : Hid (sortT s win most 2 ⟨⟨pos + 1 + 2, false⟩, out⟩ = ownT s win most ⟨⟨pos + 1 + 2, false⟩, out⟩) := rfl
    go_wp2_with fail
    refine (ownCodes_any S A s win most _ _ hP hU2 hs hm hw1 hw2).mono ?_
    rintro e w3 (⟨q1, rfl, q3, q4⟩ | ⟨⟨T, a, rfl, q1⟩, q3, q4⟩)
    · go_wp2_with fail
      go_ret2
      exact .inl ⟨by rw [HBK.out], HPE.out, by rw [HBK.out, HS.out]; exact q1, by rw [HBK.out]; have := HGE.out; omega, rfl, by rw [HBK.out, HS.out]; exact q3, hP12.trans q4⟩
    · have HW : Why A.tb w3 T a (Stop S (blkT s win most ⟨⟨pos, false⟩, out⟩).2) := q1.imp (fun q1 => by rw [HBK.out, HS.out]; exact q1)
      clear q1
      go_wp2_with fail
      go_ret2
      exact .inr ⟨⟨_, T, a, rfl, HW⟩, q3, hP12.trans q4⟩
  · go_wp2_with fail
    refine (mal_any _ _).mono ?_
    rintro e w3 ⟨rfl, rfl⟩
    go_wp2_with fail
    go_ret2
    exact .inr ⟨⟨_, _, _, rfl, Why.mal (.inl (by rw [HBK.out]; rfl))⟩, hU2.ue.alloc _, hP12.trans (PE.alloc _ _ _ hU2.base)⟩
set_option maxRecDepth 10000 in
set_option maxHeartbeats 4000000 in
theorem block_1 (S : Sink) (A : Adr) (s : ByteArray) (win most pos : Nat) (out : List UInt8) (w : World) (hP : PutOk S A.base) (h : UP S w A s win most ⟨⟨pos, false⟩, out⟩) (hs : s.size ≤ 140737488354000) (hm : most ≤ 16777216) (hw1 : 1 ≤ win) (hw2 : win ≤ 32768) (hbit : bitsV s pos 1 = 1) :
    Calls Tryz.prog 105 #[.pointer (some ⟨A.ub, 0, none⟩)] w fun e w' =>
      ((blkT s win most ⟨⟨pos, false⟩, out⟩).1 = 1 ∧ pos + 3 ≤ 8 * s.size ∧ (blkT s win most ⟨⟨pos, false⟩, out⟩).2.st.bad = false ∧ pos + 3 ≤ (blkT s win most ⟨⟨pos, false⟩, out⟩).2.st.pos ∧ e = .returned (.tuple #[.bool true, .nilIface]) ∧ UP S w' A s win most (blkT s win most ⟨⟨pos, false⟩, out⟩).2 ∧ PE A.base w w' ∧ (A.al = true → most ≤ (blkT s win most ⟨⟨pos, false⟩, out⟩).2.out.length)) ∨
      ((∃ b T a, e = .returned (.tuple #[.bool b, .iface T (.pointer (some a))]) ∧ Why A.tb w' T a (Stop S (blkT s win most ⟨⟨pos, false⟩, out⟩).2 ∨ Short A most (blkT s win most ⟨⟨pos, false⟩, out⟩).2)) ∧ UE w' A s ∧ PE A.base w w') := by
  obtain ⟨c0, _, _, _⟩ := h.cells
  obtain ⟨_, f2, _⟩ := h.facts
  dsimp only at f2
  have hN := bit_any A.tb A.rb s pos w f2 hs
  have hO := oneT_ok s pos
  rw [hbit] at hN hO
  have HO : Hid _ := hO
  clear hbit hO
  go_enter Tryz.func105, Tryz.ntmps105
  go_wp2_with fail
  refine hN.mono ?_
  rintro e w1 (⟨a1, a2, rfl, a3, a4⟩ | ⟨⟨T, a, rfl, a1⟩, a3, a4⟩)
  rotate_left
  · have hfin := h.rdE a3 a4
    have HW : Why A.tb w1 T a (Stop S (blkT s win most ⟨⟨pos, false⟩, out⟩).2 ∨ Short A most (blkT s win most ⟨⟨pos, false⟩, out⟩).2) := a1.imp (fun a1 => .inl (.inl (sortT_keep _ _ _ _ _ (numT_keep s 2 _ a1))))
    clear a1
    go_wp2_with fail
    go_ret2
    exact .inr ⟨⟨_, T, a, rfl, HW⟩, hfin.1, hfin.2⟩
  obtain ⟨hU1, hP1⟩ := h.rd _ a3 a4
  have O1 : Hid (oneT s ⟨pos, false⟩ = (1, ⟨pos + 1, false⟩)) := HO.out a2
  clear c0 f2 hN
  obtain ⟨c0, _, _, _⟩ := hU1.cells
  obtain ⟨_, f2, _⟩ := hU1.facts
  dsimp only at f2
  go_wp2_with fail
  refine (number_any A.tb A.rb s (pos + 1) 2 _ f2 hs (by omega)).mono ?_
  rintro e w2 (⟨b1, b2, rfl, b3, b4⟩ | ⟨⟨T, a, rfl, b1⟩, b3, b4⟩)
  rotate_left
  · have hfin := hU1.rdE b3 b4
    have HW : Why A.tb w2 T a (Stop S (blkT s win most ⟨⟨pos, false⟩, out⟩).2 ∨ Short A most (blkT s win most ⟨⟨pos, false⟩, out⟩).2) := b1.imp (fun b1 => .inl ((.inl (by
      unfold blkT
      dsimp only
      rw [O1.out]
      exact sortT_keep _ _ _ _ _ b1))))
    clear b1
    go_wp2_with fail
    go_ret2
    exact .inr ⟨⟨_, T, a, rfl, HW⟩, hfin.1, hP1.trans hfin.2⟩
  obtain ⟨hU2, hP2⟩ := hU1.rd _ b3 b4
  have N2 : Hid (numT s 2 ⟨pos + 1, false⟩ = (bitsV s (pos + 1) 2, ⟨pos + 1 + 2, false⟩)) := numT_ok s 2 (pos + 1) b2
  have hy4 : bitsV s (pos + 1) 2 < 4 := bitsV_lt s (pos + 1) 2
  generalize bitsV s (pos + 1) 2 = y at *
  have HBK : Hid (blkT s win most ⟨⟨pos, false⟩, out⟩ = (1, sortT s win most y ⟨⟨pos + 1 + 2, false⟩, out⟩)) := (by
    unfold blkT
    dsimp only
    rw [O1.out]
    dsimp only
    rw [N2.out] : _ = _)
  have HGE : Hid (pos + 1 + 2 ≤ (sortT s win most y ⟨⟨pos + 1 + 2, false⟩, out⟩).st.pos) := sortT_ge s win most y ⟨⟨pos + 1 + 2, false⟩, out⟩
  have HPE : Hid (pos + 3 ≤ 8 * s.size) := (by omega : _ ≤ _)
  have hP12 := hP1.trans hP2
  clear c0 f2 a2 b2
  rcases (by omega : y = 0 ∨ y = 1 ∨ y = 2 ∨ y = 3) with rfl | rfl | rfl | rfl
  · have HS : Hid (sortT s win most 0 ⟨⟨pos + 1 + 2, false⟩, out⟩ = storedT s most ⟨⟨pos + 1 + 2, false⟩, out⟩) := rfl
    go_wp2_with fail
    refine (stored_any S A s win most _ true _ hP hU2 hs hm hw1 hw2).mono ?_
    rintro e w3 (⟨q1, rfl, q3, q4⟩ | ⟨⟨T, a, rfl, q1⟩, q3, q4⟩)
    · have hE := enough0 S A s win most _ _ q3 hm
      go_wp2_with fail
      refine hE.mono ?_
      rintro e w5 (⟨k1, rfl, hw⟩ | ⟨⟨T, a, rfl, k1⟩, k2, k3⟩)
      · have HK : Hid _ := k1
        clear k1
        subst hw
        go_wp2_with fail
        go_ret2
        exact .inl ⟨by rw [HBK.out], HPE.out, by rw [HBK.out, HS.out]; exact q1, by rw [HBK.out]; have := HGE.out; omega, rfl, by rw [HBK.out, HS.out]; exact q3, hP12.trans q4, by rw [HBK.out, HS.out]; exact HK.out⟩
      · have HW : Why A.tb w5 T a (Stop S (blkT s win most ⟨⟨pos, false⟩, out⟩).2 ∨ Short A most (blkT s win most ⟨⟨pos, false⟩, out⟩).2) := k1.imp (fun k1 => .inr (by rw [HBK.out, HS.out]; exact k1))
        clear k1
        go_wp2_with fail
        go_ret2
        exact .inr ⟨⟨_, T, a, rfl, HW⟩, k2, (hP12.trans q4).trans k3⟩
    · have HW : Why A.tb w3 T a (Stop S (blkT s win most ⟨⟨pos, false⟩, out⟩).2 ∨ Short A most (blkT s win most ⟨⟨pos, false⟩, out⟩).2) := q1.imp (fun q1 => by rw [HBK.out, HS.out]; exact q1.imp id And.right)
      clear q1
      go_wp2_with fail
      go_ret2
      exact .inr ⟨⟨_, T, a, rfl, HW⟩, q3, hP12.trans q4⟩
  · have HS : Hid (sortT s win most 1 ⟨⟨pos + 1 + 2, false⟩, out⟩ = symsF s win most (codesT fixList).cs (codesT (List.replicate 32 5)).cs (8 * s.size + 1) ⟨⟨pos + 1 + 2, false⟩, out⟩) := rfl
    go_wp2_with fail
    refine (fixedCodes_any S A s win most _ _ hP hU2 hs hm hw1 hw2).mono ?_
    rintro e w3 (⟨q1, rfl, q3, q4⟩ | ⟨⟨T, a, rfl, q1⟩, q3, q4⟩)
    · have hE := enough0 S A s win most _ _ q3 hm
      go_wp2_with fail
      refine hE.mono ?_
      rintro e w5 (⟨k1, rfl, hw⟩ | ⟨⟨T, a, rfl, k1⟩, k2, k3⟩)
      · have HK : Hid _ := k1
        clear k1
        subst hw
        go_wp2_with fail
        go_ret2
        exact .inl ⟨by rw [HBK.out], HPE.out, by rw [HBK.out, HS.out]; exact q1, by rw [HBK.out]; have := HGE.out; omega, rfl, by rw [HBK.out, HS.out]; exact q3, hP12.trans q4, by rw [HBK.out, HS.out]; exact HK.out⟩
      · have HW : Why A.tb w5 T a (Stop S (blkT s win most ⟨⟨pos, false⟩, out⟩).2 ∨ Short A most (blkT s win most ⟨⟨pos, false⟩, out⟩).2) := k1.imp (fun k1 => .inr (by rw [HBK.out, HS.out]; exact k1))
        clear k1
        go_wp2_with fail
        go_ret2
        exact .inr ⟨⟨_, T, a, rfl, HW⟩, k2, (hP12.trans q4).trans k3⟩
    · have HW : Why A.tb w3 T a (Stop S (blkT s win most ⟨⟨pos, false⟩, out⟩).2 ∨ Short A most (blkT s win most ⟨⟨pos, false⟩, out⟩).2) := q1.imp (fun q1 => .inl (by rw [HBK.out, HS.out]; exact q1))
      clear q1
      go_wp2_with fail
      go_ret2
      exact .inr ⟨⟨_, T, a, rfl, HW⟩, q3, hP12.trans q4⟩
  · have HS : Hid (sortT s win most 2 ⟨⟨pos + 1 + 2, false⟩, out⟩ = ownT s win most ⟨⟨pos + 1 + 2, false⟩, out⟩) := rfl
    go_wp2_with fail
    refine (ownCodes_any S A s win most _ _ hP hU2 hs hm hw1 hw2).mono ?_
    rintro e w3 (⟨q1, rfl, q3, q4⟩ | ⟨⟨T, a, rfl, q1⟩, q3, q4⟩)
    · have hE := enough0 S A s win most _ _ q3 hm
      go_wp2_with fail
      refine hE.mono ?_
      rintro e w5 (⟨k1, rfl, hw⟩ | ⟨⟨T, a, rfl, k1⟩, k2, k3⟩)
      · have HK : Hid _ := k1
        clear k1
        subst hw
        go_wp2_with fail
        go_ret2
        exact .inl ⟨by rw [HBK.out], HPE.out, by rw [HBK.out, HS.out]; exact q1, by rw [HBK.out]; have := HGE.out; omega, rfl, by rw [HBK.out, HS.out]; exact q3, hP12.trans q4, by rw [HBK.out, HS.out]; exact HK.out⟩
      · have HW : Why A.tb w5 T a (Stop S (blkT s win most ⟨⟨pos, false⟩, out⟩).2 ∨ Short A most (blkT s win most ⟨⟨pos, false⟩, out⟩).2) := k1.imp (fun k1 => .inr (by rw [HBK.out, HS.out]; exact k1))
        clear k1
        go_wp2_with fail
        go_ret2
        exact .inr ⟨⟨_, T, a, rfl, HW⟩, k2, (hP12.trans q4).trans k3⟩
    · have HW : Why A.tb w3 T a (Stop S (blkT s win most ⟨⟨pos, false⟩, out⟩).2 ∨ Short A most (blkT s win most ⟨⟨pos, false⟩, out⟩).2) := q1.imp (fun q1 => .inl (by rw [HBK.out, HS.out]; exact q1))
      clear q1
      go_wp2_with fail
      go_ret2
      exact .inr ⟨⟨_, T, a, rfl, HW⟩, q3, hP12.trans q4⟩
  · go_wp2_with fail
    refine (mal_any _ _).mono ?_
    rintro e w3 ⟨rfl, rfl⟩
    go_wp2_with fail
    go_ret2
    exact .inr ⟨⟨_, _, _, rfl, Why.mal (.inl (.inl (by rw [HBK.out]; rfl)))⟩, hU2.ue.alloc _, hP12.trans (PE.alloc _ _ _ hU2.base)⟩
theorem block_any (S : Sink) (A : Adr) (s : ByteArray) (win most : Nat) (u : US) (w : World) (hP : PutOk S A.base) (h : UP S w A s win most u) (hs : s.size ≤ 140737488354000) (hm : most ≤ 16777216) (hw1 : 1 ≤ win) (hw2 : win ≤ 32768) :
    Calls Tryz.prog 105 #[.pointer (some ⟨A.ub, 0, none⟩)] w fun e w' =>
      (∃ l : Nat, l ≤ 1 ∧ (blkT s win most u).1 = l ∧ u.st.pos + 3 ≤ 8 * s.size ∧ (blkT s win most u).2.st.bad = false ∧ u.st.pos + 3 ≤ (blkT s win most u).2.st.pos ∧ e = .returned (.tuple #[.bool (decide (l = 1)), .nilIface]) ∧ UP S w' A s win most (blkT s win most u).2 ∧ PE A.base w w' ∧ (l = 1 → A.al = true → most ≤ (blkT s win most u).2.out.length)) ∨
      ((∃ b T a, e = .returned (.tuple #[.bool b, .iface T (.pointer (some a))]) ∧ Why A.tb w' T a (Stop S (blkT s win most u).2 ∨ (bitsV s u.st.pos 1 = 1 ∧ Short A most (blkT s win most u).2))) ∧ UE w' A s ∧ PE A.base w w') := by
  have hbad := h.facts.1
  obtain ⟨⟨pos, bad⟩, out⟩ := u
  dsimp only at hbad ⊢
  subst hbad
  have hl := bitsV_lt s pos 1
  rcases (by omega : bitsV s pos 1 = 0 ∨ bitsV s pos 1 = 1) with h0 | h0
  · refine (block_0 S A s win most pos out w hP h hs hm hw1 hw2 h0).mono ?_
    rintro e w' (⟨k1, k2, k3, k4, k5, k6, k7⟩ | ⟨⟨b, T, a, k1, k2⟩, k3, k4⟩)
    · exact .inl ⟨0, by omega, k1, k2, k3, k4, k5, k6, k7, fun e => by cases e⟩
    · exact .inr ⟨⟨b, T, a, k1, k2.imp .inl⟩, k3, k4⟩
  · refine (block_1 S A s win most pos out w hP h hs hm hw1 hw2 h0).mono ?_
    rintro e w' (⟨k1, k2, k3, k4, k5, k6, k7, k8⟩ | ⟨⟨b, T, a, k1, k2⟩, k3, k4⟩)
    · exact .inl ⟨1, by omega, k1, k2, k3, k4, k5, k6, k7, fun _ => k8⟩
    · exact .inr ⟨⟨b, T, a, k1, k2.imp (Or.imp id (fun k => ⟨h0, k⟩))⟩, k3, k4⟩
/-- how all blocks end -/
def BRes (S : Sink) (A : Adr) (s : ByteArray) (win most : Nat) (w : World) (U : US) (e : Ending) (w' : World) : Prop :=
  (U.st.bad = false ∧ e = .returned .nilIface ∧ UP S w' A s win most U ∧ PE A.base w w' ∧ (A.al = true → most ≤ U.out.length)) ∨
  ((∃ T a, e = .returned (.iface T (.pointer (some a))) ∧ Why A.tb w' T a (Stop S U ∨ Short A most U)) ∧ UE w' A s ∧ PE A.base w w')
theorem blk_bit (s : ByteArray) (win most : Nat) (u : US) (h : u.st.bad = false) (h1 : u.st.pos ≤ 8 * s.size) (hb : bitsV s u.st.pos 1 = 1) : (blkT s win most u).1 ≠ 0 ∨ (blkT s win most u).2.st.bad = true := by
  obtain ⟨⟨pos, bad⟩, out⟩ := u
  dsimp only at h h1 hb
  subst h
  by_cases h2 : pos < 8 * s.size
  · refine .inl ?_
    show (oneT s ⟨pos, false⟩).1 ≠ 0
    rw [oneT_ok s pos h2, hb]; exact Nat.one_ne_zero
  · refine .inr (sortT_keep _ _ _ _ _ (numT_keep s 2 _ ?_))
    exact oneT_short s pos h2
set_option maxRecDepth 10000 in
set_option maxHeartbeats 2000000 in
theorem at_any (unit : ByteArray) (n : Int) (T : TypeId) (a : Addr) (w : World) :
    Calls Tryz.prog 86 #[.string unit, .int .i64 n, .iface T (.pointer (some a))] w fun e w' => e = .returned (.iface 214 (.pointer (some ⟨w.heap.size, 0, none⟩))) ∧ w' = w.alloc (.cells #[.string unit, .int .i64 n, .iface T (.pointer (some a))] 216) := by
  go_enter Tryz.func86, Tryz.ntmps86
  go_wp2
  go_ret
  exact ⟨rfl, rfl⟩
theorem Why.placeAt {S : Src} {w : World} {T : TypeId} {a : Addr} {P : Prop} (h : Why S w T a P) (u m : Value) (b : Nat) (hb : b = w.heap.size) : Why S (w.alloc (.cells #[u, m, .iface T (.pointer (some a))] 216)) 214 ⟨b, 0, none⟩ P := by
  subst hb; exact h.place u m
set_option maxRecDepth 10000 in
set_option maxHeartbeats 4000000 in
theorem blocks_any (S : Sink) (A : Adr) (s : ByteArray) (win most : Nat) (u : US) (w : World) (hP : PutOk S A.base) (h : UP S w A s win most u) (hs : s.size ≤ 140737488354000) (hm : most ≤ 16777216) (hw1 : 1 ≤ win) (hw2 : win ≤ 32768) :
    Calls Tryz.prog 73 #[.pointer (some ⟨A.ub, 0, none⟩)] w fun e w' => BRes S A s win most w (blkF s win most (8 * s.size + 1) u) e w' := by
  obtain ⟨R, hR0⟩ : ∃ R, R = blkF s win most (8 * s.size + 1) u := ⟨_, rfl⟩
  rw [← hR0]
  have HR0 : Hid _ := hR0
  clear hR0
  go_enter Tryz.func73, Tryz.ntmps73
  go_wp2_with fail
  go_loopw [3] (fun nv wr => ∃ (n : Int) (f : Nat) (t : US), nv = .int .i64 n ∧ R = blkF s win most f t ∧ 8 * s.size - t.st.pos < f ∧ UP S wr A s win most t ∧ PE A.base w wr) (fun _ wr => 8 * s.size - posIn wr A.tb A.rb)
  case atStart => exact ⟨0, 8 * s.size + 1, u, rfl, HR0.out, by omega, h, PE.refl _ _⟩
  case round =>
    obtain ⟨n, f, t, rfl, hR, hf, hU, hPE⟩ := hrel
    have HR : Hid _ := hR
    clear hR
    obtain ⟨f', hf'⟩ : ∃ f', f = f' + 1 := ⟨f - 1, by omega⟩
    subst hf'
    have hbad := hU.facts.1
    have HPOS : Hid (posIn wr A.tb A.rb = t.st.pos) := posIn_of hU.facts.2.1
    go_wp2_with fail
    refine (block_any S A s win most t _ hP hU hs hm hw1 hw2).mono ?_
    rintro e w1 (⟨l, k1, k2, k3, k4, k5, rfl, k6, k7, k8⟩ | ⟨⟨b, T, a, rfl, k1⟩, k3, k4⟩)
    · have HK8 : Hid _ := k8
      clear k8
      have hle := k6.facts.2.1.end_le
      have HP1 : Hid (posIn w1 A.tb A.rb = (blkT s win most t).2.st.pos) := posIn_of k6.facts.2.1
      rcases (by omega : l = 0 ∨ l = 1) with rfl | rfl
      · have HN : Hid (R = blkF s win most f' (blkT s win most t).2) := (by rw [HR.out]; exact blkF_go s win most f' t hbad k2 : _ = _)
        clear k2
        go_wp2_with fail
        go_roundw
        case rel => exact ⟨_, f', _, rfl, HN.out, by omega, k6, hPE.trans k7⟩
        case measure => rw [HP1.out, HPOS.out]; omega
      · have HN : Hid (R = (blkT s win most t).2) := (by rw [HR.out]; exact blkF_end s win most f' t hbad (by rw [k2]; omega) : _ = _)
        clear k2
        go_wp2_with fail
        go_ret
        exact .inl ⟨by rw [HN.out]; exact k4, rfl, by rw [HN.out]; exact k6, hPE.trans k7, by rw [HN.out]; exact HK8.out (by first | exact trivial | rfl)⟩
    · obtain ⟨hre, g, lf, bb, fv, x, hub⟩ := k3
      have c0 : w1.cell? ⟨A.ub, 0, none⟩ = some (.pointer (some ⟨A.rb, 0, none⟩)) := by simpa using (cell_of hub 0).1
      have HB : Why A.tb w1 T a (Stop S R ∨ Short A most R) := k1.imp (fun k1 => by
        rw [HR.out]
        by_cases hz : (blkT s win most t).1 = 0
        · rw [blkF_go s win most f' t hbad hz]
          rcases k1 with k1 | ⟨k0, k1⟩
          · exact .inl (k1.mono (fun k1 => by rw [blkF_bad _ _ _ _ _ k1]; exact k1) (blkF_pre s win most f' _))
          · rcases blk_bit s win most t hbad hU.facts.2.1.end_le k0 with hb | hb
            · exact absurd hz hb
            · exact .inl (.inl (by rw [blkF_bad _ _ _ _ _ hb]; exact hb))
        · rw [blkF_end s win most f' t hbad hz]; exact k1.imp id And.right)
      have hbase : A.base ≤ w1.heap.size := Nat.le_trans hU.base k4.size
      clear k1
      go_wp2_with fail
      refine (position_any A.tb A.rb s _ hre hs).mono ?_
      rintro e w2 ⟨⟨n2, rfl⟩, nq, hw2'⟩
      have hue : UE w2 A s := by rw [hw2']; exact UE.drewN ⟨hre, g, lf, bb, fv, x, hub⟩ nq
      have hp2 : PE A.base w1 w2 := by rw [hw2']; exact PE.drewN _ _ _
      have HB2 : Why A.tb w2 T a (Stop S R ∨ Short A most R) := by rw [hw2']; exact HB.grow (fun _ _ => rfl)
      have hz2 : w2.heap.size = w1.heap.size := by rw [hw2']; rfl
      have HZ2 : Hid _ := hz2
      clear hw2' hz2 c0 hub hre HB
      go_wp2_with fail
      refine (at_any _ _ _ _ _).mono ?_
      rintro e w3 ⟨rfl, rfl⟩
      go_wp2_with fail
      refine (at_any _ _ _ _ _).mono ?_
      rintro e w4 ⟨rfl, rfl⟩
      go_wp2_with fail
      go_ret
      exact .inr ⟨⟨_, _, rfl, (HB2.placeAt _ _ _ rfl).placeAt _ _ _ (by simp)⟩, (hue.alloc _).alloc _, hPE.trans (k4.trans (hp2.trans ((PE.alloc _ _ _ (by rw [HZ2.out]; exact hbase)).trans (PE.alloc _ _ _ (by simp; rw [HZ2.out]; omega)))))⟩
set_option maxRecDepth 10000 in
set_option maxHeartbeats 2000000 in
theorem bitNew_any (T : TypeId) (a : Addr) (w : World) :
    Calls Tryz.prog 71 #[.iface T (.pointer (some a))] w fun e w' => e = .returned (.pointer (some ⟨w.heap.size, 0, none⟩)) ∧ w' = w.alloc (.cells #[.iface T (.pointer (some a)), .int .u32 0, .int .u64 0, .int .i64 0] 180) := by
  go_enter Tryz.func71, Tryz.ntmps71
  go_wp2
  go_ret
  exact ⟨rfl, rfl⟩
set_option maxRecDepth 10000 in
set_option maxHeartbeats 2000000 in
theorem newU_any (rb win most : Nat) (f : Fn) (bs cs : Array Value) (w : World) :
    Calls Tryz.prog 72 #[.pointer (some ⟨rb, 0, none⟩), .int .i64 (win : Int), .int .i64 (most : Int), .func f bs cs] w fun e w' => e = .returned (.pointer (some ⟨w.heap.size + 1, 0, none⟩)) ∧ w' = (w.alloc (.cells #[.int .i64 (win : Int), .slice none 0 0, .int .i64 0] 231)).alloc (.cells #[.pointer (some ⟨rb, 0, none⟩), .pointer (some ⟨w.heap.size, 0, none⟩), .int .i64 (most : Int), .bool false, .func f bs cs, .pointer none] 185) := by
  go_enter Tryz.func72, Tryz.ntmps72
  go_wp2_with fail
  refine (ringNew_any win _).mono ?_
  rintro e w1 ⟨rfl, rfl⟩
  go_wp2_with fail
  go_ret
  exact ⟨by simp, rfl⟩
/-- a reader at the beginning of a source -/
theorem Rd.first {tb : Src} {s : ByteArray} {w : World} (hS : tb.Ok) (hK : tb.K w s 0) (hz : tb.z = 0) : Rd (w.alloc (.cells #[.iface tb.T (.pointer (some tb.a)), .int .u32 0, .int .u64 0, .int .i64 0] 180)) tb w.heap.size s 0 := by
  have hke := hS.ke hK
  have hb := hS.hb hke
  refine ⟨0, by omega, 0, rfl, Nat.zero_le _, hb, hS.stable hK (fun k hk => alloc_old (hk.elim (fun hk => hS.lt hke hk) (fun hk => by omega))), hS, ?_⟩
  rw [hz]
  exact (MapKept.heap_alloc w _).1
/-- the unpacker at the beginning: a reader, a window and an unpacker behind it -/
theorem UP.start {S : Sink} (tb : Src) (rb : Nat) (s : ByteArray) (win most p : Nat) (w : World) (F : Nat → Prop) (f : Fn) (bs cs : Array Value) (hfv : S.fv = .func f bs cs) (hOk : S.Ok tb.base) (hK : S.K w [] F) (hF : ∀ k, F k → tb.base ≤ k ∧ ¬ tb.F k ∧ k ≠ rb) (hR : Rd w tb rb s p) (hO : OrderIs w) :
    UP S ((w.alloc (.cells #[.int .i64 (win : Int), .slice none 0 0, .int .i64 0] 231)).alloc (.cells #[.pointer (some ⟨rb, 0, none⟩), .pointer (some ⟨w.heap.size, 0, none⟩), .int .i64 (most : Int), .bool false, .func f bs cs, .pointer none] 185)) ⟨tb, rb, w.heap.size, w.heap.size + 1, false⟩ s win most ⟨⟨p, false⟩, []⟩ := by
  have hl := hR.lts
  have htb : tb.Ok := by obtain ⟨_, _, _, _, _, _, _, h5, _⟩ := hR; exact h5
  have hng := htb.ng
  have hsz : w.heap.size + 2 = ((w.alloc (.cells #[.int .i64 (win : Int), .slice none 0 0, .int .i64 0] 231)).alloc (.cells #[.pointer (some ⟨rb, 0, none⟩), .pointer (some ⟨w.heap.size, 0, none⟩), .int .i64 (most : Int), .bool false, .func f bs cs, .pointer none] 185)).heap.size := by simp
  have old : ∀ k, k < w.heap.size → ((w.alloc (.cells #[.int .i64 (win : Int), .slice none 0 0, .int .i64 0] 231)).alloc (.cells #[.pointer (some ⟨rb, 0, none⟩), .pointer (some ⟨w.heap.size, 0, none⟩), .int .i64 (most : Int), .bool false, .func f bs cs, .pointer none] 185)).heap[k]? = w.heap[k]? := fun k hk => by
    rw [alloc_old (by simp; omega), alloc_old hk]
  have n1 : ((w.alloc (.cells #[.int .i64 (win : Int), .slice none 0 0, .int .i64 0] 231)).alloc (.cells #[.pointer (some ⟨rb, 0, none⟩), .pointer (some ⟨w.heap.size, 0, none⟩), .int .i64 (most : Int), .bool false, .func f bs cs, .pointer none] 185)).heap[w.heap.size]? = some (.cells #[.int .i64 (win : Int), .slice none 0 0, .int .i64 0] 231 (0, 0)) := by
    rw [alloc_old (by simp)]; exact (MapKept.heap_alloc w _).1
  have n2 := (MapKept.heap_alloc (w.alloc (.cells #[.int .i64 (win : Int), .slice none 0 0, .int .i64 0] 231)) (.cells #[.pointer (some ⟨rb, 0, none⟩), .pointer (some ⟨w.heap.size, 0, none⟩), .int .i64 (most : Int), .bool false, .func f bs cs, .pointer none] 185)).1
  rw [World.size_alloc] at n2
  generalize ((w.alloc (.cells #[.int .i64 (win : Int), .slice none 0 0, .int .i64 0] 231)).alloc (.cells #[.pointer (some ⟨rb, 0, none⟩), .pointer (some ⟨w.heap.size, 0, none⟩), .int .i64 (most : Int), .bool false, .func f bs cs, .pointer none] 185)) = w3 at *
  have hFl := hOk.lt hK
  refine ⟨.slice none 0 0, F, none, rfl, hR.grow old, Nat.zero_le _, ⟨?_, ?_, ?_⟩, ?_, .inl rfl, hOk.stable hK (fun k hk => old k (hk.elim (fun hk => hFl k hk) (fun hk => by omega))) (by omega), ?_, htb, hO.over (old _ (by omega)), hng, hOk, hl.2.2.1, by show tb.base ≤ w.heap.size; omega, by show tb.base ≤ w.heap.size + 1; omega⟩
  · show _ = some (Obj.cells #[.int .i64 (win : Int), .slice none 0 0, .int .i64 ((0 % win : Nat) : Int)] 231 (0, 0))
    rw [Nat.zero_mod]; exact n1
  · show w3.ownsRow tb.base 5 1 _ (min 0 win) (ringCells [] win)
    have e : ringCells [] win = [] := by simp [ringCells]
    rw [Nat.zero_min, e]
    exact World.ownsRow_nil _ _ _ _
  · show tb.base ≤ w3.heap.size; omega
  · show _ = some (Obj.cells #[.pointer (some ⟨rb, 0, none⟩), .pointer (some ⟨w.heap.size, 0, none⟩), .int .i64 ((most - 0 : Nat) : Int), .bool false, S.fv, .pointer none] 185 (0, 0))
    rw [hfv]; exact n2
  · intro k hk
    have h1 := hF k hk
    have h2 := hFl k hk
    refine ⟨h1.1, h1.2.1, h1.2.2, ?_, ?_, ?_⟩
    · show k ≠ w.heap.size; omega
    · show k ≠ w.heap.size + 1; omega
    · simp [Value.ownBlock]
end Go.Proofs.YtephkcdbnogdhaaGreatDoor.Pr
/- The walks of Packed and of the program's Inflate. -/
set_option linter.unusedVariables false
namespace Go.Proofs.YtephkcdbnogdhaaGreatDoor.Pr
open Go.RowKit Rf
open RfW (byteCells byteCells_snoc inflU inflV)
theorem extract_all (s : ByteArray) : s.extract 0 s.size = s := by
  apply ByteArray.ext
  rw [ByteArray.data_extract]
  have : s.size = s.data.size := rfl
  rw [this]
  exact Array.extract_size
set_option maxRecDepth 10000 in
set_option maxHeartbeats 4000000 in
theorem packed_go {S : Sink} (tb : Src) (hS : S.Ok tb.base) (hP : PutOk S tb.base) (htb : tb.Ok) (s : ByteArray) (win most : Nat) (w : World) (F : Nat → Prop) (f : Fn) (bs cs : Array Value) (hfv : S.fv = .func f bs cs) (hK : S.K w [] F) (hF : ∀ k, F k → tb.base ≤ k ∧ ¬ tb.F k) (ht : tb.K w s 0) (hz : tb.z = 0) (hO : OrderIs w) (hs : s.size ≤ 140737488354000) (h1 : 1 ≤ win) (h2 : win ≤ 32768) (h3 : most ≤ 16777216) :
    Calls Tryz.prog 39 #[.iface tb.T (.pointer (some tb.a)), .int .i64 (win : Int), .int .i64 (most : Int), .func f bs cs] w fun e w' =>
      ((inflU s win most).st.bad = false ∧ e = .returned (.tuple #[.int .i64 ((((inflU s win most).st.pos + 7) / 8 : Nat) : Int), .nilIface]) ∧ (∃ F', S.K w' (inflU s win most).out F') ∧ PE tb.base w w') ∨
      ((∃ T a, e = .returned (.tuple #[.int .i64 0, .iface T (.pointer (some a))]) ∧ Why tb w' T a (Stop S (inflU s win most))) ∧ PE tb.base w w') := by
  have hR0 := Rd.first htb ht hz
  have hbs := htb.hb (htb.ke ht)
  have hng := htb.ng
  have hp0 := PE.alloc tb.base w (.cells #[.iface tb.T (.pointer (some tb.a)), .int .u32 0, .int .u64 0, .int .i64 0] 180) hbs
  have hFl := hS.lt hK
  have hU0 := UP.start tb w.heap.size s win most 0 (w.alloc (.cells #[.iface tb.T (.pointer (some tb.a)), .int .u32 0, .int .u64 0, .int .i64 0] 180)) F f bs cs hfv hS
    (hS.stable hK (fun k hk => hk.elim (fun hk => alloc_old (hFl k hk)) (fun hk => hp0.low k hk)) (by simp)) (fun k hk => ⟨(hF k hk).1, (hF k hk).2, by have := hFl k hk; omega⟩) hR0 (hO.over (hp0.low _ (by omega)))
  have hp1 := (hp0.trans (PE.alloc tb.base _ (.cells #[.int .i64 (win : Int), .slice none 0 0, .int .i64 0] 231) (by simp; omega))).trans (PE.alloc tb.base _ (.cells #[.pointer (some ⟨w.heap.size, 0, none⟩), .pointer (some ⟨w.heap.size + 1, 0, none⟩), .int .i64 (most : Int), .bool false, .func f bs cs, .pointer none] 185) (by simp; omega))
  rw [World.size_alloc] at hU0
  have HI : Hid (inflU s win most = blkF s win most (8 * s.size + 1) ⟨⟨0, false⟩, []⟩) := rfl
  generalize inflU s win most = U at *
  clear hR0 hp0
  go_enter Tryz.func39, Tryz.ntmps39
  go_wp2_with fail
  refine (bitNew_any _ _ _).mono ?_
  rintro e w1 ⟨rfl, rfl⟩
  go_wp2_with fail
  refine (newU_any _ win most f bs cs _).mono ?_
  rintro e w2 ⟨rfl, hw2⟩
  rw [World.size_alloc] at hw2 ⊢
  rw [← hw2] at hU0 hp1
  have HW : Hid _ := hw2
  clear hw2
  go_wp2_with fail
  refine (blocks_any S ⟨tb, w.heap.size, w.heap.size + 1, w.heap.size + 2, false⟩ s win most ⟨⟨0, false⟩, []⟩ _ hP hU0 hs h3 h1 h2).mono ?_
  rintro e w3 (⟨q1, rfl, q3, q4, _⟩ | ⟨⟨T, a, rfl, q1⟩, _, q4⟩)
  · rw [← HI.out] at q1 q3
    have HP3 : Hid (PE tb.base w w3) := hp1.trans q4
    have hr : Rd w3 tb w.heap.size s U.st.pos := q3.facts.2.1
    have hk : ∃ F', S.K w3 U.out F' := by obtain ⟨_, F, _, _, _, _, _, _, _, h7, _⟩ := q3; exact ⟨F, h7⟩
    have HQ : Hid (U.st.bad = false) := q1
    have HT := taken_any tb w.heap.size s U.st.pos w3 hr
    rw [hz, Nat.add_zero] at HT
    clear q1 q3 q4 hU0 hp1
    go_wp2_with fail
    refine HT.mono ?_
    rintro e w4 ⟨rfl, rfl⟩
    go_wp2_with fail
    go_ret2
    exact .inl ⟨HQ.out, rfl, hk, HP3.out⟩
  · rw [← HI.out] at q1
    replace q1 := q1.imp (fun h => h.elim id (fun e => by cases e.1))
    have HP3 : Hid (PE tb.base w w3) := hp1.trans q4
    clear q4 hU0 hp1
    go_wp2_with fail
    go_ret2
    exact .inr ⟨⟨T, a, rfl, q1⟩, HP3.out⟩
set_option maxRecDepth 10000 in
set_option maxHeartbeats 2000000 in
theorem inflate_limit (s : ByteArray) (win most : Int) (w : World) (h : win < 1 ∨ 32768 < win ∨ most < 0 ∨ 16777216 < most) :
    Calls Tryz.prog 12 #[.string s, .int .i64 win, .int .i64 most] w fun e w' => e = .returned (.tuple #[.string ⟨#[]⟩, .int .i64 0, .int .i64 1]) ∧ w' = w := by
  by_cases h1 : win < 1
  · go_enter Tryz.func12, Tryz.ntmps12
    go_wp2
    go_ret3
    exact ⟨rfl, rfl⟩
  · by_cases h2 : 32768 < win
    · go_enter Tryz.func12, Tryz.ntmps12
      go_wp2
      go_ret3
      exact ⟨rfl, rfl⟩
    · by_cases h3 : most < 0
      · go_enter Tryz.func12, Tryz.ntmps12
        go_wp2
        go_ret3
        exact ⟨rfl, rfl⟩
      · have h4 : 16777216 < most := by omega
        go_enter Tryz.func12, Tryz.ntmps12
        go_wp2
        go_ret3
        exact ⟨rfl, rfl⟩
/-- a text and a Builder that are laid new -/
theorem text_new (w : World) (s : ByteArray) (eb : Addr) (hEnd : EndIs w eb) (hO : OrderIs w) (hT : TypeIs w) (hg : 7 ≤ w.heap.size) :
    ∃ w2, w2 = (w.alloc (.cells #[.pointer none, .slice none 0 0] 78)).alloc (.cells #[.string s] 141) ∧ Below w.heap.size w w2 ∧ (srcTx (w.heap.size + 1) w.heap.size eb).K w2 s 0 ∧ OrderIs w2 ∧ TypeIs w2 ∧ (srcTx (w.heap.size + 1) w.heap.size eb).Ok ∧ w2.heap.size = w.heap.size + 2 ∧
      (innB w.heap.size w.heap.size).K w2 [] (fun k => k = w.heap.size ∨ (Value.slice none 0 0).ownBlock = some k) := by
  refine ⟨_, rfl, ?_⟩
  have hB0 : Below w.heap.size w ((w.alloc (.cells #[.pointer none, .slice none 0 0] 78)).alloc (.cells #[.string s] 141)) := ((Below.refl _ _).alloc (Nat.le_refl _) _).alloc (by simp) _
  have hbb : ((w.alloc (.cells #[.pointer none, .slice none 0 0] 78)).alloc (.cells #[.string s] 141)).heap[w.heap.size]? = some (.cells #[.pointer none, .slice none 0 0] 78 (0, 0)) := by
    rw [alloc_old (by simp)]; exact (MapKept.heap_alloc w _).1
  have htb := (MapKept.heap_alloc (w.alloc (.cells #[.pointer none, .slice none 0 0] 78)) (.cells #[.string s] 141)).1
  rw [World.size_alloc] at htb
  refine ⟨hB0, ⟨Nat.zero_le _, by rw [extract_all]; exact htb, hEnd.over (hB0.block _ (by omega))⟩, hO.over (hB0.block _ (by omega)), hT.over (fun k hk => hB0.block k (by omega)), srcTx_ok _ _ _ hg (by omega), by simp, ?_⟩
  exact ⟨.slice none 0 0, ⟨none, hbb, .inl rfl, World.ownsRow_nil _ _ _ _, fun _ => rfl, by simp; omega, Nat.le_refl _⟩, rfl⟩
set_option maxRecDepth 10000 in
set_option maxHeartbeats 2000000 in
theorem ofText_any (s : ByteArray) (w : World) :
    Calls Tryz.prog 40 #[.string s] w fun e w' => e = .returned (.pointer (some ⟨w.heap.size, 0, none⟩)) ∧ w' = w.alloc (.cells #[.string s] 141) := by
  go_enter Tryz.func40, Tryz.ntmps40
  go_wp2
  go_ret
  exact ⟨rfl, rfl⟩
set_option maxRecDepth 10000 in
set_option maxHeartbeats 4000000 in
theorem inflate_go (s : ByteArray) (win most : Nat) (eb : Addr) (w : World) (hs : s.size ≤ 140737488354000) (h1 : 1 ≤ win) (h2 : win ≤ 32768) (h3 : most ≤ 16777216) (hEnd : EndIs w eb) (hO : OrderIs w) (hT : TypeIs w) (hg : 7 ≤ w.heap.size) :
    Calls Tryz.prog 12 #[.string s, .int .i64 (win : Int), .int .i64 (most : Int)] w fun e w' => e = .returned (inflV (inflU s win most)) ∧ Below w.heap.size w w' := by
  obtain ⟨V, hV0⟩ : ∃ V, V = inflV (inflU s win most) := ⟨_, rfl⟩
  rw [← hV0]
  have HV0 : Hid _ := hV0
  clear hV0
  obtain ⟨w2, hw2, t1, t2, t3, t4, t5, t6, t7⟩ := text_new w s eb hEnd hO hT hg
  have HPK := packed_go (S := sinkB w.heap.size w.heap.size) (srcTx (w.heap.size + 1) w.heap.size eb) (sinkB_ok _ _) (putB _ _) t5 s win most w2 _ _ _ _ rfl t7 (fun k hk => by
    rcases hk with rfl | hk
    · exact ⟨Nat.le_refl _, fun e => by have e : w.heap.size = w.heap.size + 1 := e; omega⟩
    · simp [Value.ownBlock] at hk) t2 rfl t3 hs h1 h2 h3
  have HB0 : Hid _ := t1
  have HT4 : Hid _ := t4
  clear t1 t2 t3 t4 t5 t6 t7
  have HPK' : Calls Tryz.prog 39 #[.iface 83 (.pointer (some ⟨w.heap.size + 1, 0, none⟩)), .int .i64 (win : Int), .int .i64 (most : Int), .func (.func 41) #[.pointer (some ⟨w.heap.size, 0, none⟩)] #[]] w2 _ := HPK
  clear HPK
  go_enter Tryz.func12, Tryz.ntmps12
  go_wp2_with fail
  refine (ofText_any _ _).mono ?_
  rintro e w1 ⟨rfl, hw1⟩
  rw [← hw2] at hw1
  subst hw1
  rw [World.size_alloc]
  clear hw2
  go_wp2_with fail
  refine HPK'.mono ?_
  rintro e w1 (⟨q1, rfl, ⟨F', v, q3, _⟩, q4⟩ | ⟨⟨T, a, rfl, q1⟩, q4⟩)
  · have HB1 : Hid (Below w.heap.size w w1) := HB0.out.trans q4.below
    have HV : Hid (V = .tuple #[.string ⟨(inflU s win most).out.toArray⟩, .int .i64 ((((inflU s win most).st.pos : Nat) + 7 : Int) / 8), .int .i64 0]) := (by rw [HV0.out]; unfold inflV; rw [if_neg (by rw [q1]; simp)]; simp : _ = _)
    clear q1 q4 HB0 HV0 HPK'
    generalize inflU s win most = U at *
    go_wp2_with fail
    refine (string_any w.heap.size w.heap.size v U.out _ q3).mono ?_
    rintro e w2 ⟨rfl, hb⟩
    go_wp2_with fail
    go_ret3
    exact ⟨(congrArg Ending.returned HV.out).symm, HB1.out.trans hb⟩
  · have HB1 : Hid (Below w.heap.size w w1) := HB0.out.trans q4.below
    have hT1 : TypeIs w1 := TypeIs.over HT4.out (fun k hk => q4.low k (by show k < w.heap.size; omega))
    have hM : IsMal w1 T a ∧ (inflU s win most).st.bad = true := by
      rcases q1 with ⟨q1, q2 | ⟨p, q2, _⟩⟩ | ⟨_, q2⟩
      · exact ⟨q1, q2⟩
      · exact absurd q2 id
      · exact absurd q2 id
    have HV : Hid (V = .tuple #[.string ⟨#[]⟩, .int .i64 0, .int .i64 3]) := (by rw [HV0.out]; unfold inflV; rw [if_pos hM.2] : _ = _)
    have hle : w.heap.size ≤ w1.heap.size := HB1.out.size
    have hM1 := hM.1
    clear q1 q4 HB0 HV0 hM HPK'
    go_wp2_with fail
    refine (errno_mal T a _ hT1 hM1).mono ?_
    rintro e w2 ⟨rfl, hb⟩
    go_wp2_with fail
    go_ret3
    exact ⟨(congrArg Ending.returned HV.out).symm, HB1.out.trans (hb.mono hle)⟩
end Go.Proofs.YtephkcdbnogdhaaGreatDoor.Pr
