/- The walk of again. -/
import Derived.Test.YtjfifmadldcjjaaGreatDoorAmount
import Derived.Test.YtjfifmadldcjjaaGreatDoorAgainMath
set_option linter.unusedVariables false
namespace Go.Proofs.YtjfifmadldcjjaaGreatDoor.Pr
open Go.RowKit Rf
theorem readM_yes (k tb rb : Nat) (eb : Addr) (L : List Nat) (s : ByteArray) (pos y p : Nat) (w : World) (mean : Nat → Nat × Nat × Nat) (h : TabM w k mean L) (hR : Rd w tb rb s pos) (hend : EndIs w eb) (hs : s.size ≤ 140737488351232) (hl : L.length ≤ 400) (hx : ∀ x ∈ L, x ≤ 15) (hK : kN L 16 ≤ 32768) (hg1 : 0 ≠ tb) (hg2 : 0 ≠ rb) (hy : symT s (codesT L).cs ⟨pos, false⟩ = (y, ⟨p, false⟩)) :
    Calls Tryz.prog 75 #[.pointer (some ⟨k, 0, none⟩), .pointer (some ⟨rb, 0, none⟩)] w fun e w' => e = .returned (.tuple #[.agg #[.int .u8 ((mean y).1 : Int), .int .i64 ((mean y).2.1 : Int), .int .u64 ((mean y).2.2 : Int)], .nilIface]) ∧ Rd w' tb rb s p ∧ RF tb rb w w' := by
  refine (readM_any k tb rb eb L s pos w mean h hR hend hs hl hx hK hg1 hg2).mono ?_
  rintro e w' (⟨y', p', k1, k2, k3, k4⟩ | ⟨k1, _⟩)
  · rw [hy] at k1
    have e1 : y' = y := (congrArg Prod.fst k1).symm
    have e2 : p' = p := (congrArg (fun q => q.2.pos) k1).symm
    rw [e1] at k2
    rw [e2] at k3
    exact ⟨k2, k3, k4⟩
  · rw [hy] at k1; cases k1
theorem readM_no (k tb rb : Nat) (eb : Addr) (L : List Nat) (s : ByteArray) (pos : Nat) (w : World) (mean : Nat → Nat × Nat × Nat) (h : TabM w k mean L) (hR : Rd w tb rb s pos) (hend : EndIs w eb) (hs : s.size ≤ 140737488351232) (hl : L.length ≤ 400) (hx : ∀ x ∈ L, x ≤ 15) (hK : kN L 16 ≤ 32768) (hg1 : 0 ≠ tb) (hg2 : 0 ≠ rb) (hy : (symT s (codesT L).cs ⟨pos, false⟩).2.bad = true) :
    Calls Tryz.prog 75 #[.pointer (some ⟨k, 0, none⟩), .pointer (some ⟨rb, 0, none⟩)] w fun e w' => (∃ a, e = .returned (.tuple #[.agg #[.int .u8 0, .int .i64 0, .int .u64 0], .iface 62 (.pointer (some a))])) ∧ RdE w' tb rb s ∧ RF tb rb w w' := by
  refine (readM_any k tb rb eb L s pos w mean h hR hend hs hl hx hK hg1 hg2).mono ?_
  rintro e w' (⟨y', p', k1, k2, k3, k4⟩ | ⟨_, k2, k3, k4⟩)
  · rw [k1] at hy; cases hy
  · exact ⟨k2, k3, k4⟩
/-- how a search ends -/
theorem symT_cases (s : ByteArray) (cs : List (Nat × List UInt8)) (st : RS) : (∃ y p, symT s cs st = (y, ⟨p, false⟩)) ∨ (symT s cs st).2.bad = true := by
  cases hb : (symT s cs st).2.bad with
  | true => exact .inr rfl
  | false => exact .inl ⟨(symT s cs st).1, (symT s cs st).2.pos, by rw [← hb]⟩
theorem TabM.rf {w w' : World} {k tb rb : Nat} {mean : Nat → Nat × Nat × Nat} {L : List Nat} {s : ByteArray} {pos : Nat} (h : TabM w k mean L) (hr : Rd w tb rb s pos) (hf : RF tb rb w w') : TabM w' k mean L := h.over hr hf
theorem Rd.alloc {w : World} {tb rb : Nat} {s : ByteArray} {pos : Nat} (h : Rd w tb rb s pos) (o : Obj) : Rd (w.alloc o) tb rb s pos := by
  obtain ⟨c, hc, h⟩ := h; exact ⟨c, hc, h.alloc o⟩
theorem EndIs.alloc {w : World} {eb : Addr} (h : EndIs w eb) (o : Obj) : EndIs (w.alloc o) eb := Er.cell_alloc h o
/-- lengths by which a table can be made -/
structure Fit (L : List Nat) : Prop where
  len : L.length ≤ 400
  le : ∀ x ∈ L, x ≤ 15
  few : kN L 16 ≤ 32768
  some : 0 < L.length
theorem zero_kept {tb rb b : Nat} {W w3 : World} (g : RF tb rb W w3) (hz : W.heap[b]? = some (.cells #[.int .u8 0, .int .i64 0, .int .u64 0] 149 (0, 0))) (h1 : b ≠ tb) (h2 : b ≠ rb) :
    w3.heap[b]? = some (.cells #[.int .u8 0, .int .i64 0, .int .u64 0] 149 (0, 0)) ∧ w3.cell? ⟨b, 0, none⟩ = some (.int .u8 0) ∧ w3.cell? ⟨b, 1, none⟩ = some (.int .i64 0) ∧ w3.cell? ⟨b, 2, none⟩ = some (.int .u64 0) ∧ w3.frozen? ⟨b, 0, none⟩ = false ∧ w3.frozen? ⟨b, 1, none⟩ = false ∧ w3.frozen? ⟨b, 2, none⟩ = false := by
  have h := (g.block b (lt_of_some hz) h1 h2).trans hz
  exact ⟨h, by simpa using (cell_of h 0).1, by simpa using (cell_of h 1).1, by simpa using (cell_of h 2).1, (cell_of h 0).2, (cell_of h 1).2, (cell_of h 2).2⟩
set_option maxRecDepth 10000 in
set_option maxHeartbeats 8000000 in
theorem again_any (S : Sink) (A : Adr) (s : ByteArray) (win most kt y : Nat) (LA LB : List Nat) (u : US) (w : World) (hS : S.Ok) (hP : PutOk S) (h : UP S w A s win most u) (hT : TabsIs w kt LA LB) (hB : Fit LB) (hs : s.size ≤ 140737488351232) (hm : most ≤ 16777216) (hw1 : 1 ≤ win) (hw2 : win ≤ 32768) (hy1 : 257 ≤ y) (hy2 : y ≤ 285) :
    Calls Tryz.prog 77 #[.pointer (some ⟨A.ub, 0, none⟩), .agg #[.int .u8 ((litM y).1 : Int), .int .i64 ((litM y).2.1 : Int), .int .u64 ((litM y).2.2 : Int)], .pointer (some ⟨kt, 0, none⟩)] w fun e w' => Res S A s win most w (againT s win most (codesT LB).cs y u) e w' := by
  have hbad := h.facts.1
  obtain ⟨⟨pos, bad⟩, out⟩ := u
  dsimp only at hbad
  subst hbad
  have hlit := litM_len y hy1 hy2
  have hlb := lenT_le y hy1 hy2
  obtain ⟨hU0, hP0⟩ := h.alloc hS (meanO (litM y))
  have hT0 := hT.keep (w' := w.alloc (meanO (litM y))) (fun b hb => alloc_old hb)
  have hM : MeanAt (w.alloc (meanO (litM y))) w.heap.size (litM y) := alloc_new w _ _ rfl
  have hlen : (litM y).2 = lenT y := by rw [hlit]
  have hx16 : (litM y).2.2 ≤ 16 := by rw [hlen]; omega
  have hl16 : (litM y).2.1 ≤ 1000000 := by rw [hlen]; omega
  have HL : Hid ((litM y).2 = lenT y) := hlen
  have hmo : (w.alloc (meanO (litM y))) = w.alloc (.cells #[.int .u8 ((litM y).1 : Int), .int .i64 ((litM y).2.1 : Int), .int .u64 ((litM y).2.2 : Int)] 149) := rfl
  rw [hmo] at hU0 hP0 hT0 hM
  clear hlit hlen hmo
  generalize litM y = lm at *
  go_enter Tryz.func77, Tryz.ntmps77
  go_wp2_with fail
  generalize (w.alloc (.cells #[.int .u8 (lm.1 : Int), .int .i64 (lm.2.1 : Int), .int .u64 (lm.2.2 : Int)] 149)) = w0 at *
  refine (amount_any S A s win most ⟨⟨pos, false⟩, out⟩ lm _ hS hU0 hs hx16 hl16).mono ?_
  rintro e w1 (⟨a1, a2, rfl, a3, a4, a5⟩ | ⟨a1, ⟨n, a, rfl⟩, a2, a3⟩)
  rotate_left
  · go_wp2_with fail
    go_ret
    exact .inr ⟨again_len (by rw [← HL.out]; exact a1), ⟨a, rfl⟩, a2, hP0.trans a3⟩
  dsimp only at a1 a2 a3
  have hb16 : bitsV s pos lm.2.2 < 65536 := Nat.lt_of_lt_of_le (bitsV_lt s pos _) (show 2 ^ lm.2.2 ≤ 2 ^ 16 from Nat.pow_le_pow_right (by omega) hx16)
  have N1 : Hid (numT s (lenT y).2 ⟨pos, false⟩ = (bitsV s pos lm.2.2, ⟨pos + lm.2.2, false⟩)) := (by rw [← HL.out]; exact numT_ok s _ pos a2 : _ = _)
  have hT1 := hT0.pe a4
  have hP1 := hP0.trans a4
  have HN : Hid (lm.2.1 + bitsV s pos lm.2.2 = (lenT y).1 + (numT s (lenT y).2 ⟨pos, false⟩).1) := (by rw [N1.out, ← HL.out] : _ = _)
  have hn1 : 1 ≤ lm.2.1 + bitsV s pos lm.2.2 ∧ lm.2.1 + bitsV s pos lm.2.2 ≤ 100000 := by
    have h3 : 3 ≤ (lenT y).1 := lenT_ge y hy1 hy2
    have h4 := congrArg Prod.fst HL.out
    have := lenT_le y hy1 hy2
    omega
  obtain ⟨nn, hnn⟩ : ∃ nn, nn = lm.2.1 + bitsV s pos lm.2.2 := ⟨_, rfl⟩
  rw [← hnn] at hn1 ⊢
  have HNN : Hid (nn = lm.2.1 + bitsV s pos lm.2.2) := hnn
  clear hnn hU0 hP0 hT0 hM hb16
  go_wp2_with fail
  refine (room_any S A s win most nn _ _ hS a3 hm (by omega)).mono ?_
  rintro e w2 (⟨k1, rfl, hw⟩ | ⟨k1, ⟨a, rfl⟩, k2, k3⟩)
  rotate_left
  · go_wp2_with fail
    go_ret
    refine .inr ⟨again_over (u := ⟨⟨pos, false⟩, out⟩) h.facts.2.2.1 ?_, ⟨a, rfl⟩, k2, hP1.trans k3⟩
    rw [← HN.out, ← HNN.out]; exact k1
  have hw := hw.symm
  subst hw
  obtain ⟨c0, c1, c2, c3⟩ := a3.cells
  obtain ⟨f1, f2, f3, f4, f5, f6⟩ := a3.facts
  obtain ⟨ka, kb, t1, t2, t3⟩ := hT1
  have tc1 : w1.cell? ⟨kt, 1, none⟩ = some (.pointer (some ⟨kb, 0, none⟩)) := by simpa using (cell_of t1 1).1
  have o1 : ∀ o : Obj, (w1.alloc o).cell? ⟨kt, 1, none⟩ = some (.pointer (some ⟨kb, 0, none⟩)) := fun o => Er.cell_alloc tc1 o
  have o2 : ∀ o : Obj, (w1.alloc o).cell? ⟨A.ub, 0, none⟩ = some (.pointer (some ⟨A.rb, 0, none⟩)) := fun o => Er.cell_alloc c0 o
  dsimp only at f2
  obtain ⟨p1, hp1⟩ : ∃ p1, p1 = pos + lm.2.2 := ⟨_, rfl⟩
  rw [← hp1] at a3 f2
  have HP1 : Hid (p1 = pos + lm.2.2) := hp1
  have hb1 : w1.heap.size ≠ A.tb := by have := f2.lts; omega
  have hb2 : w1.heap.size ≠ A.rb := by have := f2.lts; omega
  clear hp1 c1 c2 c3 t1 t2
  have t3o : TabM (w1.alloc (.cells #[.int .u8 0, .int .i64 0, .int .u64 0] 149)).drew kb distM LB := t3.keep (w' := w1.alloc (.cells #[.int .u8 0, .int .i64 0, .int .u64 0] 149)) (fun b hb => alloc_old hb)
  have f2o : Rd (w1.alloc (.cells #[.int .u8 0, .int .i64 0, .int .u64 0] 149)).drew A.tb A.rb s p1 := f2.alloc _
  have f4o : EndIs (w1.alloc (.cells #[.int .u8 0, .int .i64 0, .int .u64 0] 149)).drew A.eb := f4.alloc _
  have hz0 : (w1.alloc (.cells #[.int .u8 0, .int .i64 0, .int .u64 0] 149)).drew.heap[w1.heap.size]? = some (.cells #[.int .u8 0, .int .i64 0, .int .u64 0] 149 (0, 0)) := alloc_new w1 _ _ rfl
  have hRo : RF A.tb A.rb w1 (w1.alloc (.cells #[.int .u8 0, .int .i64 0, .int .u64 0] 149)).drew := ((RF.refl _ _ w1).alloc _).drew
  have hRd : RF A.tb A.rb w1 w1.drew := (RF.refl _ _ w1).drew
  have hbu : ∀ k, k < w1.heap.size → k ≠ w1.heap.size := fun k hk => by omega
  rcases symT_cases s (codesT LB).cs ⟨p1, false⟩ with ⟨d, p2, hsy⟩ | hsy
  rotate_left
  · have HSY : Hid _ := hsy
    clear hsy
    go_upto_region 7 with fail
    go_cut [8] (fun v8 wx => (∃ a, v8 = .iface 62 (.pointer (some a))) ∧ RdE wx A.tb A.rb s ∧ RF A.tb A.rb w1 wx)
    case first =>
      go_region_with (first
        | (go_at_call 75; refine (readM_no kb A.tb A.rb A.eb LB s p1 (w1.alloc (.cells #[.int .u8 0, .int .i64 0, .int .u64 0] 149)).drew distM t3o f2o f4o hs hB.len hB.le hB.few f5 f6 HSY.out).mono ?_; rintro e w3 ⟨⟨a, rfl⟩, g1, g2⟩; obtain ⟨zz, z0, z1, z2, y0, y1, y2⟩ := zero_kept g2 hz0 hb1 hb2; replace g2 := hRo.trans g2)
        | (go_at_call 75; refine (readM_no kb A.tb A.rb A.eb LB s p1 _ distM (by exact t3) (by exact f2) (by exact f4) hs hB.len hB.le hB.few f5 f6 HSY.out).mono ?_; rintro e w3 ⟨⟨a, rfl⟩, g1, g2⟩; replace g2 := hRd.trans g2))
      all_goals
        go_wp2_with fail
        go_meet
        case rel => first
          | exact ⟨⟨_, rfl⟩, g1.alloc _, g2.alloc _⟩
          | exact ⟨⟨_, rfl⟩, ((g1.setNew _ 0 _ hb1 hb2).setNew _ 1 _ hb1 hb2).setNew _ 2 _ hb1 hb2, ((g2.setNew _ 0 (Nat.le_refl _) _).setNew _ 1 (Nat.le_refl _) _).setNew _ 2 (Nat.le_refl _) _⟩
    case rest =>
      obtain ⟨⟨a, rfl⟩, g1, g2⟩ := hcut
      have hfin := a3.rdE g1 g2
      go_wp2_with fail
      go_ret
      exact .inr ⟨again_dist (by rw [N1.out, ← HP1.out]; exact HSY.out), ⟨a, rfl⟩, hfin.1, hP1.trans hfin.2⟩
  · have HSY : Hid _ := hsy
    clear hsy
    have HD : Hid (distM d = if d ≤ 29 then (4, distT d) else (0, 0, 0)) := (by
      by_cases h : d ≤ 29
      · rw [if_pos h]; exact distM_dist d h
      · rw [if_neg h]; unfold distM; rw [if_neg (by omega), if_neg (by omega)] : _ = _)
    generalize hdm : distM d = dm at *
    go_upto_region 7 with fail
    go_cut [8, 10] (fun v8 v10 wx => v8 = .nilIface ∧ ∃ b, v10 = .pointer (some ⟨b, 0, none⟩) ∧ MeanAt wx b dm ∧ Rd wx A.tb A.rb s p2 ∧ RF A.tb A.rb w1 wx)
    case first =>
      go_region_with (first
        | (go_at_call 75; refine (readM_yes kb A.tb A.rb A.eb LB s p1 d p2 (w1.alloc (.cells #[.int .u8 0, .int .i64 0, .int .u64 0] 149)).drew distM t3o f2o f4o hs hB.len hB.le hB.few f5 f6 HSY.out).mono ?_; rw [hdm]; rintro e w3 ⟨rfl, g1, g2⟩; obtain ⟨zz, z0, z1, z2, y0, y1, y2⟩ := zero_kept g2 hz0 hb1 hb2; replace g2 := hRo.trans g2)
        | (go_at_call 75; refine (readM_yes kb A.tb A.rb A.eb LB s p1 d p2 _ distM (by exact t3) (by exact f2) (by exact f4) hs hB.len hB.le hB.few f5 f6 HSY.out).mono ?_; rw [hdm]; rintro e w3 ⟨rfl, g1, g2⟩; replace g2 := hRd.trans g2))
      all_goals
        go_wp2_with fail
        go_meet
        case rel => first
          | exact ⟨rfl, _, rfl, alloc_new w3 _ _ rfl, g1.alloc _, g2.alloc _⟩
          | exact ⟨rfl, _, rfl, (set_of (set_of (set_of zz 0 _) 1 _) 2 _).trans (by simp), ((g1.setNew _ 0 _ hb1 hb2).setNew _ 1 _ hb1 hb2).setNew _ 2 _ hb1 hb2, ((g2.setNew _ 0 (Nat.le_refl _) _).setNew _ 1 (Nat.le_refl _) _).setNew _ 2 (Nat.le_refl _) _⟩
    case rest =>
      obtain ⟨rfl, b, rfl, hMb, g1, g2⟩ := hcut
      have hU2 := a3.rd hS p2 g1 g2
      obtain ⟨m0, m1, m2⟩ := hMb.c
      clear t3o f2o f4o hz0 hRo hRd o1 o2 tc1 c0 t3
      by_cases hd : d ≤ 29
      · have hdm2 : dm = (4, distT d) := by rw [HD.out, if_pos hd]
        have hdl := distT_le d hd
        subst hdm2
        go_wp2_with fail
        refine (amount_any S A s win most ⟨⟨p2, false⟩, out⟩ (4, distT d) _ hS hU2.1 hs (by dsimp only; omega) (by dsimp only; omega)).mono ?_
        rintro e w4 (⟨b1, b2, rfl, b3, b4, b5⟩ | ⟨b1, ⟨n, a, rfl⟩, b2, b3⟩)
        · dsimp only at b1 b2 b3
          have hb13 : bitsV s p2 (distT d).2 < 65536 := Nat.lt_of_lt_of_le (bitsV_lt s p2 _) (show 2 ^ (distT d).2 ≤ 2 ^ 16 from Nat.pow_le_pow_right (by omega) (by omega))
          go_wp2_with fail
          refine (copyBack_any S A s win most ((distT d).1 + bitsV s p2 (distT d).2) nn _ _ hS hP b3 hm hw1 hw2 (by omega) (by omega) hn1.1 hn1.2 k1).mono ?_
          intro e w5 hres
          have hfin : againT s win most (codesT LB).cs y ⟨⟨pos, false⟩, out⟩ = backT win most ((distT d).1 + bitsV s p2 (distT d).2) nn ⟨⟨p2 + (distT d).2, false⟩, out⟩ := by
            rw [again_go (by rw [N1.out, ← HP1.out]) HSY.out hd (numT_ok s _ p2 b2)]
            unfold backT
            have := HN.out
            rw [N1.out] at this
            rw [HNN.out, this]
          have hres' : Res S A s win most w (againT s win most (codesT LB).cs y ⟨⟨pos, false⟩, out⟩) e w5 := by
            rw [hfin]
            rcases hres with ⟨r1, r2, r3, r4⟩ | ⟨r1, r2, r3, r4⟩
            · exact .inl ⟨r1, r2, r3, (hP1.trans hU2.2).trans (b4.trans r4)⟩
            · exact .inr ⟨r1, r2, r3, (hP1.trans hU2.2).trans (b4.trans r4)⟩
          rcases hres' with ⟨r1, rfl, r3, r4⟩ | ⟨r1, ⟨a, rfl⟩, r3, r4⟩
          · go_wp2_with fail
            go_ret
            exact .inl ⟨r1, rfl, r3, r4⟩
          · go_wp2_with fail
            go_ret
            exact .inr ⟨r1, ⟨a, rfl⟩, r3, r4⟩
        · go_wp2_with fail
          go_ret
          refine .inr ⟨again_more ?_ ?_, ⟨a, rfl⟩, b2, (hP1.trans hU2.2).trans b3⟩
          · dsimp only; rw [N1.out, ← HP1.out, HSY.out]; exact Nat.not_lt.2 hd
          · dsimp only; rw [N1.out, ← HP1.out, HSY.out]; exact b1
      · have hdm2 : dm = (0, 0, 0) := by rw [HD.out, if_neg hd]
        subst hdm2
        go_wp2_with fail
        refine (mal_any _ _).mono ?_
        rintro e w4 ⟨rfl, rfl⟩
        go_wp2_with fail
        go_ret
        refine .inr ⟨again_far ?_, ⟨_, rfl⟩, hU2.1.ue.alloc _, (hP1.trans hU2.2).trans (PE.alloc _ _ _ hU2.1.base)⟩
        dsimp only; rw [N1.out, ← HP1.out, HSY.out]; exact Nat.lt_of_not_le hd
end Go.Proofs.YtjfifmadldcjjaaGreatDoor.Pr
