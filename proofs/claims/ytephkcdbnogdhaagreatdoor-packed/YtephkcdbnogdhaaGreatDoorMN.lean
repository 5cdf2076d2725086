/- The walk of again. -/
import Derived.Test.YtephkcdbnogdhaaGreatDoorMA
import Derived.Test.YtephkcdbnogdhaaGreatDoorMM
set_option linter.unusedVariables false
namespace Go.Proofs.YtephkcdbnogdhaaGreatDoor.Pr
open Go.RowKit Rf
/-- how a table's Read ends, in one -/
def ReadR (tb : Src) (rb : Nat) (s : ByteArray) (cs : List (Nat × List UInt8)) (pos : Nat) (mean : Nat → Nat × Nat × Nat) (w : World) (m : Nat × Nat × Nat) (v : Value) (w' : World) : Prop :=
  (∃ y p, symT s cs ⟨pos, false⟩ = (y, ⟨p, false⟩) ∧ m = mean y ∧ v = .nilIface ∧ Rd w' tb rb s p ∧ RF tb rb w w') ∨
  (m = (0, 0, 0) ∧ (∃ T a, v = .iface T (.pointer (some a)) ∧ Why tb w' T a ((symT s cs ⟨pos, false⟩).2.bad = true)) ∧ RdE w' tb rb s ∧ RF tb rb w w')
theorem ReadR.rf {tb : Src} {rb : Nat} {s : ByteArray} {cs : List (Nat × List UInt8)} {pos : Nat} {mean : Nat → Nat × Nat × Nat} {w w' : World} {m : Nat × Nat × Nat} {v : Value} (h : ReadR tb rb s cs pos mean w m v w') : RF tb rb w w' := by
  rcases h with ⟨y, p, _, _, _, _, h⟩ | ⟨_, _, _, h⟩
  · exact h
  · exact h
theorem ReadR.from {tb : Src} {rb : Nat} {s : ByteArray} {cs : List (Nat × List UInt8)} {pos : Nat} {mean : Nat → Nat × Nat × Nat} {w0 w w' : World} {m : Nat × Nat × Nat} {v : Value} (h0 : RF tb rb w0 w) (h : ReadR tb rb s cs pos mean w m v w') : ReadR tb rb s cs pos mean w0 m v w' := by
  rcases h with ⟨y, p, h1, h2, h3, h4, h5⟩ | ⟨h1, h2, h3, h4⟩
  · exact .inl ⟨y, p, h1, h2, h3, h4, h0.trans h5⟩
  · exact .inr ⟨h1, h2, h3, h0.trans h4⟩
theorem ReadR.alloc {tb : Src} {rb : Nat} {s : ByteArray} {cs : List (Nat × List UInt8)} {pos : Nat} {mean : Nat → Nat × Nat × Nat} {w w' : World} {m : Nat × Nat × Nat} {v : Value} (h : ReadR tb rb s cs pos mean w m v w') (o : Obj) : ReadR tb rb s cs pos mean w m v (w'.alloc o) := by
  rcases h with ⟨y, p, h1, h2, h3, h4, h5⟩ | ⟨h1, ⟨T, a, h2, h2'⟩, h3, h4⟩
  · exact .inl ⟨y, p, h1, h2, h3, h4.alloc o, h5.alloc o⟩
  · exact .inr ⟨h1, ⟨T, a, h2, h2'.alloc o⟩, h3.alloc o, h4.alloc o⟩
theorem ReadR.set {tb : Src} {rb : Nat} {s : ByteArray} {cs : List (Nat × List UInt8)} {pos : Nat} {mean : Nat → Nat × Nat × Nat} {w w' : World} {m : Nat × Nat × Nat} {v : Value} (h : ReadR tb rb s cs pos mean w m v w') {b : Nat} (hb : w.heap.size ≤ b) (h0 : tb.base ≤ b) (h1 : ¬ tb.F b) (h2 : b ≠ rb)
    {cur : Array Value} {T' : TypeId} {f : Nat × Nat} (e : w'.heap[b]? = some (.cells cur T' f)) (hT : T' ≠ 216) (o : Nat) (x : Value) : ReadR tb rb s cs pos mean w m v (w'.setCell ⟨b, o, none⟩ x) := by
  rcases h with ⟨y, p, k1, k2, k3, k4, k5⟩ | ⟨k1, ⟨T, a, k2, k2'⟩, k3, k4⟩
  · exact .inl ⟨y, p, k1, k2, k3, k4.setNew b o x h0 h1 h2, k5.setNew b o hb x⟩
  · exact .inr ⟨k1, ⟨T, a, k2, k2'.set e hT o x⟩, k3.setNew b o x h0 h1 h2, k4.setNew b o hb x⟩
theorem readM_one (k : Nat) (tb : Src) (rb : Nat) (L : List Nat) (s : ByteArray) (pos : Nat) (w : World) (mean : Nat → Nat × Nat × Nat) (h : TabM w k mean L) (hR : Rd w tb rb s pos) (hs : s.size ≤ 140737488354000) (hl : L.length ≤ 400) (hx : ∀ x ∈ L, x ≤ 15) (hK : kN L 16 ≤ 32768) :
    Calls Tryz.prog 198 #[.pointer (some ⟨k, 0, none⟩), .pointer (some ⟨rb, 0, none⟩)] w fun e w' => ∃ (m : Nat × Nat × Nat) (v : Value), e = .returned (.tuple #[.agg #[.int .u8 (m.1 : Int), .int .i64 (m.2.1 : Int), .int .u64 (m.2.2 : Int)], v]) ∧ ReadR tb rb s (codesT L).cs pos mean w m v w' := by
  refine (readM_any k tb rb L s pos w mean h hR hs hl hx hK).mono ?_
  rintro e w' (⟨y, p, k1, rfl, k3, k4⟩ | ⟨⟨T, a, rfl, k1⟩, k3, k4⟩)
  · exact ⟨mean y, _, rfl, .inl ⟨y, p, k1, rfl, rfl, k3, k4⟩⟩
  · exact ⟨(0, 0, 0), _, rfl, .inr ⟨rfl, ⟨T, a, rfl, k1⟩, k3, k4⟩⟩
/-- how a search ends -/
theorem symT_cases (s : ByteArray) (cs : List (Nat × List UInt8)) (st : RS) : (∃ y p, symT s cs st = (y, ⟨p, false⟩)) ∨ (symT s cs st).2.bad = true := by
  cases hb : (symT s cs st).2.bad with
  | true => exact .inr rfl
  | false => exact .inl ⟨(symT s cs st).1, (symT s cs st).2.pos, by rw [← hb]⟩
theorem TabM.rf {w w' : World} {k : Nat} {tb : Src} {rb : Nat} {mean : Nat → Nat × Nat × Nat} {L : List Nat} {s : ByteArray} {pos : Nat} (h : TabM w k mean L) (hr : Rd w tb rb s pos) (hf : RF tb rb w w') : TabM w' k mean L := h.over hr hf
/-- lengths by which a table can be made -/
structure Fit (L : List Nat) : Prop where
  len : L.length ≤ 400
  le : ∀ x ∈ L, x ≤ 15
  few : kN L 16 ≤ 32768
  some : 0 < L.length
theorem zero_kept {tb : Src} {rb b : Nat} {W w3 : World} (g : RF tb rb W w3) (hz : W.heap[b]? = some (.cells #[.int .u8 0, .int .i64 0, .int .u64 0] 314 (0, 0))) (h1 : ¬ tb.F b) (h2 : b ≠ rb) :
    w3.heap[b]? = some (.cells #[.int .u8 0, .int .i64 0, .int .u64 0] 314 (0, 0)) ∧ w3.cell? ⟨b, 0, none⟩ = some (.int .u8 0) ∧ w3.cell? ⟨b, 1, none⟩ = some (.int .i64 0) ∧ w3.cell? ⟨b, 2, none⟩ = some (.int .u64 0) ∧ w3.frozen? ⟨b, 0, none⟩ = false ∧ w3.frozen? ⟨b, 1, none⟩ = false ∧ w3.frozen? ⟨b, 2, none⟩ = false := by
  have h := (g.block b (lt_of_some hz) h1 h2).trans hz
  exact ⟨h, by simpa using (cell_of h 0).1, by simpa using (cell_of h 1).1, by simpa using (cell_of h 2).1, (cell_of h 0).2, (cell_of h 1).2, (cell_of h 2).2⟩
set_option maxRecDepth 10000 in
set_option maxHeartbeats 8000000 in
theorem again_any (S : Sink) (A : Adr) (s : ByteArray) (win most kt y : Nat) (LA LB : List Nat) (u : US) (w : World) (hP : PutOk S A.base) (h : UP S w A s win most u) (hT : TabsIs w kt LA LB) (hB : Fit LB) (hs : s.size ≤ 140737488354000) (hm : most ≤ 16777216) (hw1 : 1 ≤ win) (hw2 : win ≤ 32768) (hy1 : 257 ≤ y) (hy2 : y ≤ 285) :
    Calls Tryz.prog 200 #[.pointer (some ⟨A.ub, 0, none⟩), .agg #[.int .u8 ((litM y).1 : Int), .int .i64 ((litM y).2.1 : Int), .int .u64 ((litM y).2.2 : Int)], .pointer (some ⟨kt, 0, none⟩)] w fun e w' => Res S A s win most w (againT s win most (codesT LB).cs y u) e w' := by
  have hbad := h.facts.1
  obtain ⟨⟨pos, bad⟩, out⟩ := u
  dsimp only at hbad
  subst hbad
  have hlit := litM_len y hy1 hy2
  have hlb := lenT_le y hy1 hy2
  obtain ⟨hU0, hP0⟩ := h.alloc (meanO (litM y))
  have hT0 := hT.keep (w' := w.alloc (meanO (litM y))) (fun b hb => alloc_old hb)
  have hM : MeanAt (w.alloc (meanO (litM y))) w.heap.size (litM y) := alloc_new w _ _ rfl
  have hlen : (litM y).2 = lenT y := by rw [hlit]
  have hx16 : (litM y).2.2 ≤ 16 := by rw [hlen]; omega
  have hl16 : (litM y).2.1 ≤ 900000 := by rw [hlen]; omega
  have HL : Hid ((litM y).2 = lenT y) := hlen
  have hl1 : 1 ≤ (litM y).2.1 := by rw [hlen]; have := lenT_ge y hy1 hy2; omega
  have hmo : (w.alloc (meanO (litM y))) = w.alloc (.cells #[.int .u8 ((litM y).1 : Int), .int .i64 ((litM y).2.1 : Int), .int .u64 ((litM y).2.2 : Int)] 314) := rfl
  rw [hmo] at hU0 hP0 hT0 hM
  clear hlit hlen hmo
  generalize litM y = lm at *
  go_enter Tryz.func200, Tryz.ntmps200
  go_wp2_with fail
  generalize (w.alloc (.cells #[.int .u8 (lm.1 : Int), .int .i64 (lm.2.1 : Int), .int .u64 (lm.2.2 : Int)] 314)) = w0 at *
  refine (amount_any S A s win most ⟨⟨pos, false⟩, out⟩ lm _ _ _ hU0 (room_fits S A s win most hm) hs hx16 hl16 hl1).mono ?_
  rintro e w1 (⟨a1, a2, k1, rfl, a3, a4, a5⟩ | ⟨⟨n, T, a, rfl, a1⟩, a2, a3⟩)
  rotate_left
  · have HW : Why A.tb w1 T a (Stop S (againT s win most (codesT LB).cs y ⟨⟨pos, false⟩, out⟩)) := a1.imp (fun a1 => .inl (by
      by_cases hb : (numT s (lenT y).2 ⟨pos, false⟩).2.bad = true
      · exact again_len hb
      · have hb2 : pos + (lenT y).2 ≤ 8 * s.size := Nat.le_of_not_lt (fun hc => hb (numT_short s _ pos h.facts.2.1.end_le (by omega)))
        rcases a1 with a1 | a1
        · exact absurd (by rw [← HL.out]; exact a1) hb
        · refine again_over (u := ⟨⟨pos, false⟩, out⟩) h.facts.2.2 ?_
          have N := numT_ok s (lenT y).2 pos hb2
          rw [N]
          rw [HL.out] at a1
          exact a1))
    clear a1
    go_wp2_with fail
    go_ret
    exact .inr ⟨⟨T, a, rfl, HW⟩, a2, hP0.trans a3⟩
  dsimp only at a1 a2 a3
  have hb16 : bitsV s pos lm.2.2 < 65536 := Nat.lt_of_lt_of_le (bitsV_lt s pos _) (show 2 ^ lm.2.2 ≤ 2 ^ 16 from Nat.pow_le_pow_right (by omega) hx16)
  have N1 : Hid (numT s (lenT y).2 ⟨pos, false⟩ = (bitsV s pos lm.2.2, ⟨pos + lm.2.2, false⟩)) := (by rw [← HL.out]; exact numT_ok s _ pos a2 : _ = _)
  have hT1 := hT0.pe a4
  have hP1 := hP0.trans a4
  have HN : Hid (lm.2.1 + bitsV s pos lm.2.2 = (lenT y).1 + (numT s (lenT y).2 ⟨pos, false⟩).1) := (by rw [N1.out, ← HL.out] : _ = _)
  have hn1 : 1 ≤ lm.2.1 + bitsV s pos lm.2.2 ∧ lm.2.1 + bitsV s pos lm.2.2 ≤ 100000 := by
    have h3 : 3 ≤ (lenT y).1 := lenT_ge y hy1 hy2
    have h4 := congrArg Prod.fst HL.out
    have := lenT_le y hy1 hy2
    omega
  obtain ⟨nn, hnn⟩ : ∃ nn, nn = lm.2.1 + bitsV s pos lm.2.2 := ⟨_, rfl⟩
  rw [← hnn] at hn1 ⊢
  have HNN : Hid (nn = lm.2.1 + bitsV s pos lm.2.2) := hnn
  dsimp only at k1
  rw [← hnn] at k1
  clear hnn hU0 hP0 hT0 hM hb16
  obtain ⟨c0, c1, c2, c3⟩ := a3.cells
  obtain ⟨f1, f2, f3⟩ := a3.facts
  obtain ⟨ka, kb, t1, t2, t3⟩ := hT1
  have tc1 : w1.cell? ⟨kt, 1, none⟩ = some (.pointer (some ⟨kb, 0, none⟩)) := by simpa using (cell_of t1 1).1
  have o1 : ∀ o : Obj, (w1.alloc o).cell? ⟨kt, 1, none⟩ = some (.pointer (some ⟨kb, 0, none⟩)) := fun o => Er.cell_alloc tc1 o
  have o2 : ∀ o : Obj, (w1.alloc o).cell? ⟨A.ub, 0, none⟩ = some (.pointer (some ⟨A.rb, 0, none⟩)) := fun o => Er.cell_alloc c0 o
  dsimp only at f2
  obtain ⟨p1, hp1⟩ : ∃ p1, p1 = pos + lm.2.2 := ⟨_, rfl⟩
  rw [← hp1] at a3 f2
  have HP1 : Hid (p1 = pos + lm.2.2) := hp1
  have hbn := f2.new (Nat.le_refl w1.heap.size)
  clear hp1 c1 c2 c3 t1 t2
  have t3o : TabM (w1.alloc (.cells #[.int .u8 0, .int .i64 0, .int .u64 0] 314)).drew kb distM LB := t3.keep (w' := w1.alloc (.cells #[.int .u8 0, .int .i64 0, .int .u64 0] 314)) (fun b hb => alloc_old hb)
  have f2o : Rd (w1.alloc (.cells #[.int .u8 0, .int .i64 0, .int .u64 0] 314)).drew A.tb A.rb s p1 := (f2.alloc _).drew
  have hz0 : (w1.alloc (.cells #[.int .u8 0, .int .i64 0, .int .u64 0] 314)).drew.heap[w1.heap.size]? = some (.cells #[.int .u8 0, .int .i64 0, .int .u64 0] 314 (0, 0)) := alloc_new w1 _ _ rfl
  have hRo : RF A.tb A.rb w1 (w1.alloc (.cells #[.int .u8 0, .int .i64 0, .int .u64 0] 314)).drew := ((RF.refl _ _ w1).alloc _).drew
  have hRd : RF A.tb A.rb w1 w1.drew := (RF.refl _ _ w1).drew
  have hbu : ∀ k, k < w1.heap.size → k ≠ w1.heap.size := fun k hk => by omega
  go_upto_region 4 with fail
  go_cut [8, 9] (fun v8 v10 wx => ∃ (m : Nat × Nat × Nat) (v : Value) (b : Nat), v8 = v ∧ v10 = .pointer (some ⟨b, 0, none⟩) ∧ MeanAt wx b m ∧ ReadR A.tb A.rb s (codesT LB).cs p1 distM w1 m v wx)
  case first =>
    go_region_with (first
      | (go_at_call 198; refine (readM_one kb A.tb A.rb LB s p1 (w1.alloc (.cells #[.int .u8 0, .int .i64 0, .int .u64 0] 314)).drew distM t3o f2o hs hB.len hB.le hB.few).mono ?_; rintro e w3 ⟨m, v, rfl, g1⟩; obtain ⟨zz, z0, z1, z2, y0, y1, y2⟩ := zero_kept g1.rf hz0 hbn.2.1 hbn.2.2; replace g1 := ReadR.from hRo g1)
      | (go_at_call 198; refine (readM_one kb A.tb A.rb LB s p1 _ distM (by exact t3) (by exact f2.drew) hs hB.len hB.le hB.few).mono ?_; rintro e w3 ⟨m, v, rfl, g1⟩; replace g1 := ReadR.from hRd g1))
    all_goals
      go_wp2_with fail
      go_meet
      case rel => first
        | exact ⟨m, v, _, rfl, rfl, alloc_new w3 _ _ rfl, g1.alloc _⟩
        | exact ⟨m, v, _, rfl, rfl, (set_of (set_of (set_of zz 0 _) 1 _) 2 _).trans (by simp), ((g1.set (Nat.le_refl _) hbn.1 hbn.2.1 hbn.2.2 zz (by decide) 0 _).set (Nat.le_refl _) hbn.1 hbn.2.1 hbn.2.2 (set_of zz 0 _) (by decide) 1 _).set (Nat.le_refl _) hbn.1 hbn.2.1 hbn.2.2 (set_of (set_of zz 0 _) 1 _) (by decide) 2 _⟩
  case rest =>
    obtain ⟨m, v, b, rfl, rfl, hMb, hR⟩ := hcut
    rcases hR with ⟨d, p2, hsy, hdm, rfl, g1, g2⟩ | ⟨hm0, ⟨T, a, rfl, g0⟩, g1, g2⟩
    rotate_left
    · have hfin := a3.rdE g1 g2
      have HW : Why A.tb _ T a (Stop S (againT s win most (codesT LB).cs y ⟨⟨pos, false⟩, out⟩)) := g0.imp (fun g0 => .inl (again_dist (by rw [N1.out, ← HP1.out]; exact g0)))
      clear g0 hMb
      go_wp2_with fail
      go_ret
      exact .inr ⟨⟨T, a, rfl, HW⟩, hfin.1, hP1.trans hfin.2⟩
    · have HSY : Hid _ := hsy
      have HDM : Hid _ := hdm
      clear hsy hdm
      have hU2 := a3.rd p2 g1 g2
      obtain ⟨m0, m1, m2⟩ := hMb.c
      clear t3o f2o hz0 hRo hRd o1 o2 tc1 c0 t3
      by_cases hd : d ≤ 29
      · have hdm2 : m = (4, distT d) := by rw [HDM.out]; exact distM_dist d hd
        have hdl := distT_le d hd
        subst hdm2
        go_wp2_with fail
        refine (amount_any S A s win most ⟨⟨p2, false⟩, out⟩ (4, distT d) _ _ _ hU2.1 (reach_fits S A s win most hw1 hw2) hs (by dsimp only; omega) (by dsimp only; omega) (by dsimp only; omega)).mono ?_
        rintro e w4 (⟨b1, b2, kr, rfl, b3, b4, b5⟩ | ⟨⟨n, T, a, rfl, b1⟩, b2, b3⟩)
        · dsimp only at b1 b2 b3
          have hb13 : bitsV s p2 (distT d).2 < 65536 := Nat.lt_of_lt_of_le (bitsV_lt s p2 _) (show 2 ^ (distT d).2 ≤ 2 ^ 16 from Nat.pow_le_pow_right (by omega) (by omega))
          obtain ⟨back, hback⟩ : ∃ back, back = (distT d).1 + bitsV s p2 (distT d).2 := ⟨_, rfl⟩
          dsimp only at kr
          rw [← hback] at kr ⊢
          have hfin : againT s win most (codesT LB).cs y ⟨⟨pos, false⟩, out⟩ = cpL most back nn ⟨⟨p2 + (distT d).2, false⟩, out⟩ := by
            rw [again_go (by rw [N1.out, ← HP1.out]) HSY.out hd (numT_ok s _ p2 b2), ← hback, if_neg (by omega)]
            have := HN.out
            rw [N1.out] at this
            rw [HNN.out, this]
          have HFIN : Hid _ := hfin
          have HPP := (hP1.trans hU2.2).trans b4
          have hb1 : 1 ≤ back := by omega
          clear hfin hback hU2 hP1 b4 b5 a3 hMb m0 m1 m2
          go_wp2_with fail
          go_loopw [56] (fun iv wr => ∃ (j : Nat) (t : US), j ≤ nn ∧ iv = .int .i64 (j : Int) ∧ cpL most back nn ⟨⟨p2 + (distT d).2, false⟩, out⟩ = cpL most back (nn - j) t ∧ t.out.length = out.length + j ∧ UP S wr A s win most t ∧ PE A.base w wr) (fun iv _ => nn - (intOf iv).toNat)
          case atStart => exact ⟨0, ⟨⟨p2 + (distT d).2, false⟩, out⟩, Nat.zero_le _, rfl, rfl, rfl, b3, HPP⟩
          case round =>
            clear b3 HPP
            obtain ⟨j, t, hj, rfl, ht1, ht2, hU, hPE⟩ := hrel
            have HT : Hid _ := ht1
            have HLn : Hid (t.out.length = out.length + j) := ht2
            clear ht1 ht2
            by_cases hlt : j < nn
            · obtain ⟨c0, c1, c2, c3⟩ := hU.cells
              obtain ⟨vr, hr⟩ := hU.ring
              have hbad : t.st.bad = false := hU.facts.1
              have H1 : Hid (back ≤ min t.out.length win ∧ t.out.length < most) := (by have := HLn.out; omega : _ ∧ _)
              have H2 : Hid (cpL most back (nn - j) t = cpL most back (nn - (j + 1)) ⟨t.st, t.out ++ [t.out.getD (t.out.length - back) 0]⟩) := (by
                rw [show nn - j = (nn - (j + 1)) + 1 by omega, cpL_go most back _ t hbad, putT_go most _ t (by have := H1.out; omega) hbad] : _ = _)
              go_wp2_with fail
              refine (back_some A.gb A.base vr win back t.out _ hr hw1 hw2 hb1 H1.out.1).mono ?_
              rintro e w1 ⟨rfl, hw1'⟩
              have hw1' := hw1'.symm
              subst hw1'
              go_wp2_with fail
              refine (hP A s win most t (t.out.getD (t.out.length - back) 0) _ rfl hU H1.out.2 hm hw1 hw2).mono ?_
              rintro e w2 (⟨rfl, g1, g2⟩ | ⟨⟨T, a, rfl, g0⟩, g1, g2⟩)
              rotate_left
              · have HW : Why A.tb w2 T a (Stop S (againT s win most (codesT LB).cs y ⟨⟨pos, false⟩, out⟩)) := g0.imp (fun hst => .inr ⟨_, hst, by
                  rw [HFIN.out, HT.out, H2.out]; exact cpL_pre most back _ ⟨t.st, t.out ++ [t.out.getD (t.out.length - back) 0]⟩⟩)
                clear c0 c1 c2 c3 hr g0
                go_wp2_with fail
                go_ret
                exact .inr ⟨⟨T, a, rfl, HW⟩, g1, hPE.trans g2⟩
              clear c0 c1 c2 c3 hr
              go_wp2_with fail
              go_roundw
              case rel => exact ⟨j + 1, _, by omega, by go_num, HT.out.trans H2.out, by simp only [List.length_append, List.length_singleton]; have := HLn.out; omega, g1, hPE.trans g2⟩
              case measure => simp [intOf]; omega
            · have H2 : Hid (cpL most back nn ⟨⟨p2 + (distT d).2, false⟩, out⟩ = t) := (by rw [HT.out, show nn - j = 0 by omega]; rfl : _ = _)
              go_wp2_with fail
              go_ret
              exact .inl ⟨by rw [HFIN.out, H2.out]; exact hU.facts.1, rfl, by rw [HFIN.out, H2.out]; exact hU, hPE⟩
        · have HW : Why A.tb w4 T a (Stop S (againT s win most (codesT LB).cs y ⟨⟨pos, false⟩, out⟩)) := b1.imp (fun b1 => .inl (by
            by_cases hb : (numT s (distT d).2 ⟨p2, false⟩).2.bad = true
            · refine again_more ?_ ?_
              · dsimp only; rw [N1.out, ← HP1.out, HSY.out]; exact Nat.not_lt.2 hd
              · dsimp only; rw [N1.out, ← HP1.out, HSY.out]; exact hb
            · have hb2 : p2 + (distT d).2 ≤ 8 * s.size := Nat.le_of_not_lt (fun hc => hb (numT_short s _ p2 g1.end_le (by omega)))
              rcases b1 with b1 | b1
              · exact absurd b1 hb
              · dsimp only at b1
                rw [again_go (by rw [N1.out, ← HP1.out]) HSY.out hd (numT_ok s _ p2 hb2), if_pos (by omega)]))
          clear b1
          go_wp2_with fail
          go_ret
          exact .inr ⟨⟨T, a, rfl, HW⟩, b2, (hP1.trans hU2.2).trans b3⟩
      · have hdm2 : m = (0, 0, 0) := by rw [HDM.out]; unfold distM; rw [if_neg (by omega), if_neg (by omega)]
        subst hdm2
        go_wp2_with fail
        refine (mal_any _ _).mono ?_
        rintro e w4 ⟨rfl, rfl⟩
        go_wp2_with fail
        go_ret
        refine .inr ⟨⟨_, _, rfl, Why.mal (.inl (again_far ?_))⟩, hU2.1.ue.alloc _, (hP1.trans hU2.2).trans (PE.alloc _ _ _ hU2.1.base)⟩
        dsimp only; rw [N1.out, ← HP1.out, HSY.out]; exact Nat.lt_of_not_le hd
end Go.Proofs.YtephkcdbnogdhaaGreatDoor.Pr
/- The walk of readLengthTable. -/
set_option linter.unusedVariables false
namespace Go.Proofs.YtephkcdbnogdhaaGreatDoor.Pr
open Go.RowKit Rf
theorem fit_full (L : List Nat) : fitT L = 1 ↔ muchL L = 32768 := by
  unfold fitT
  constructor
  · intro h
    by_cases h0 : cnt L = 0
    · rw [if_pos h0] at h; omega
    · rw [if_neg h0] at h
      by_cases h1 : muchL L = 32768
      · exact h1
      · rw [if_neg h1] at h; split at h <;> omega
  · intro h
    have h0 : cnt L ≠ 0 := fun e => by rw [cnt_zero_much L e] at h; omega
    rw [if_neg h0, if_pos h]
theorem rep0 (n k : Nat) : (List.replicate n 0).getD k 0 = 0 := by
  rw [List.getD_eq_getElem?_getD, List.getElem?_replicate]
  split <;> rfl
theorem order_lt19 (k : Nat) : order.getD k 0 < 19 := Nat.lt_succ_of_le (getD_le order 18 (by decide) k)
theorem set_getD (L : List Nat) (i x k : Nat) (hk : k < L.length) : (L.set i x).getD k 0 = upd (fun k => L.getD k 0) i x k := by
  unfold upd
  simp only [List.getD_eq_getElem?_getD, List.getElem?_set]
  by_cases e : k = i
  · subst e; simp [hk]
  · rw [if_neg (fun h => e h.symm), if_neg e]
set_option maxRecDepth 10000 in
set_option maxHeartbeats 8000000 in
theorem ltab_any (tb : Src) (rb : Nat) (s : ByteArray) (pos n : Nat) (w : World) (h : Rd w tb rb s pos) (hord : OrderIs w) (hs : s.size ≤ 140737488354000) (hn : n ≤ 19) (hg3 : ¬ tb.F 6) (hg4 : 6 ≠ rb) (hg5 : 6 < w.heap.size) :
    Calls Tryz.prog 202 #[.pointer (some ⟨rb, 0, none⟩), .int .i64 (n : Int)] w fun e w' =>
      (∃ k p, smT s n ⟨pos, false⟩ = ((smT s n ⟨pos, false⟩).1, ⟨p, false⟩) ∧ muchL (smT s n ⟨pos, false⟩).1 = 32768 ∧ e = .returned (.tuple #[.pointer (some ⟨k, 0, none⟩), .nilIface]) ∧ TabI w' k (smT s n ⟨pos, false⟩).1 ∧ Rd w' tb rb s p ∧ RF tb rb w w') ∨
      ((∃ T a, e = .returned (.tuple #[.pointer none, .iface T (.pointer (some a))]) ∧ Why tb w' T a ((smSt (codesT (smT s n ⟨pos, false⟩).1).much (smT s n ⟨pos, false⟩).2).bad = true)) ∧ RdE w' tb rb s ∧ RF tb rb w w') := by
  have hmk : (Instr.makeSlice 45 (.int .i64 19) (.int .i64 19)).run Tryz.prog w = .ok (.slice (some ⟨w.heap.size, 0, none⟩) 19 19) (w.alloc (.cells (madeCells #[.int .u8 0] 19) 5)) := make_bytes w 19 (by omega)
  have hR0 := rowB_begin w 19 _ rfl
  have hbt := h.new (Nat.le_refl w.heap.size)
  have HSM : Hid (smT s n ⟨pos, false⟩ = smallL s n 0 (List.replicate 19 0) ⟨pos, false⟩) := rfl
  have hsmlen := smT_len s n ⟨pos, false⟩
  have hsmle := smT_le s n ⟨pos, false⟩
  generalize smT s n ⟨pos, false⟩ = SM at *
  go_enter Tryz.func202, Tryz.ntmps202
  go_wp2_with fail
  go_loopw [12] (fun iv wr => ∃ (j p : Nat) (L : List Nat), j ≤ n ∧ iv = .int .i64 (j : Int) ∧ SM = smallL s (n - j) j L ⟨p, false⟩ ∧ L.length = 19 ∧ RowB wr w.heap.size 19 (fun k => L.getD k 0) ∧ Rd wr tb rb s p ∧ RF tb rb w wr) (fun iv _ => n - (intOf iv).toNat)
  case atStart =>
    refine ⟨0, pos, List.replicate 19 0, Nat.zero_le _, rfl, HSM.out, by simp, hR0.congr (fun k hk => ?_), h.alloc _, (RF.refl _ _ w).alloc _⟩
    exact (rep0 19 k).symm
  case round =>
    clear hmk hR0
    obtain ⟨j, p, L, hj, rfl, hSM, hL, hR, hRd, hF⟩ := hrel
    have HS : Hid _ := hSM
    clear hSM
    have hord1 : OrderIs wr := hord.over (hF.block _ hg5 hg3 hg4)
    by_cases hlt : j < n
    · have H1 : Hid (smallL s (n - j) j L ⟨p, false⟩ = smallL s (n - (j + 1)) (j + 1) (L.set (order.getD j 0) (numT s 3 ⟨p, false⟩).1) (numT s 3 ⟨p, false⟩).2) := (by rw [show n - j = (n - (j + 1)) + 1 by omega]; rfl : _ = _)
      go_wp2_with fail
      refine (number_any tb rb s p 3 _ hRd hs (by omega)).mono ?_
      rintro e w2 (⟨a1, a2, rfl, a3, a4⟩ | ⟨⟨T, a, rfl, a1⟩, a3, a4⟩)
      · have N1 : Hid (numT s 3 ⟨p, false⟩ = (bitsV s p 3, ⟨p + 3, false⟩)) := numT_ok s 3 p a2
        have hb1 : bitsV s p 3 < 8 := bitsV_lt s p 3
        have hR2 : RowB w2 w.heap.size 19 (fun k => L.getD k 0) := hR.over (a4.block _ hR.lt hbt.2.1 hbt.2.2)
        have hord2 : OrderIs w2 := hord1.over (a4.block _ (Nat.lt_of_lt_of_le hg5 hF.size) hg3 hg4)
        have ho := hord2 j (by omega)
        have hol := order_lt19 j
        generalize bitsV s p 3 = x at *
        obtain ⟨oj, hoj⟩ : ∃ oj, oj = order.getD j 0 := ⟨_, rfl⟩
        rw [← hoj] at ho hol
        have HO : Hid (oj = order.getD j 0) := hoj
        clear hoj
        obtain ⟨cl1, cl2⟩ := hR2.cn oj hol
        have hR3 := hR2.set oj x hol (x : Int) rfl
        go_wp2_with fail
        go_roundw
        case rel =>
          refine ⟨j + 1, p + 3, L.set oj x, by omega, by go_num, ?_, by simpa using hL, hR3.congr (fun k hk => ?_), a3.setNew _ _ _ hbt.1 hbt.2.1 hbt.2.2, (hF.trans a4).setNew _ _ (Nat.le_refl _) _⟩
          · rw [HS.out, H1.out, N1.out, ← HO.out]
          · rw [set_getD L oj x k (by omega)]
        case measure => simp [intOf]; omega
      · have HB : Why tb w2 T a ((smSt (codesT SM.1).much SM.2).bad = true) := a1.imp (fun a1 => smSt_keep _ _ (by rw [HS.out, H1.out]; exact smallL_keep s _ _ _ _ a1))
        clear a1
        go_wp2_with fail
        go_ret2
        exact .inr ⟨⟨T, a, rfl, HB⟩, a3, hF.trans a4⟩
    · have HS2 : Hid (SM = (L, ⟨p, false⟩)) := (by rw [HS.out, show n - j = 0 by omega]; rfl : _ = _)
      have hLe : ∀ x ∈ L, x ≤ 15 := by have := hsmle; rw [HS2.out] at this; exact this
      have hBt : BytesAt wr w.heap.size 0 L := hR.bytes L hL (fun k _ => rfl)
      have hfit := fit_any w.heap.size 0 19 L wr hBt (by omega) hLe
      rw [hL] at hfit
      have hrl := hR.lt
      go_wp2_with fail
      refine hfit.mono ?_
      rintro e w2 ⟨rfl, hw⟩
      have hw := hw.symm
      subst hw
      by_cases hff : fitT L = 1
      · have hnew := newI_any w.heap.size 0 19 L wr hBt hrl (by omega) hLe
        rw [hL] at hnew
        have d1 : ((fitT L : Int) == 1) = true := by rw [hff]; rfl
        have d2 : decide ((fitT L : Int) = 1) = true := decide_eq_true (by omega)
        have HM : Hid (muchL L = 32768) := (fit_full L).1 hff
        rw [hff]
        go_wp2_with fail
        refine hnew.mono ?_
        rintro e w3 ⟨⟨k, rfl, g1, g2⟩, g3⟩
        have hRd3 : Rd w3 tb rb s p := hRd.grow (fun k hk => g3.block k hk)
        have hF3 : RF tb rb w w3 := hF.trans ⟨g3.os, g3.tape, g3.output, g3.size, fun k hk _ _ => g3.block k hk⟩
        go_wp2_with fail
        go_ret2
        exact .inl ⟨k, p, by rw [HS2.out], by rw [HS2.out]; exact HM.out, rfl, by rw [HS2.out]; exact g1, hRd3, hF3⟩
      · have d1 : ((fitT L : Int) == 1) = false := by rw [beq_eq_false_iff_ne]; omega
        have d2 : decide ((fitT L : Int) = 1) = false := decide_eq_false (by omega)
        have HM : Hid (¬ muchL L = 32768) := (fun e => hff ((fit_full L).2 e) : ¬ _)
        go_wp2_with fail
        refine (mal_any _ _).mono ?_
        rintro e w3 ⟨rfl, rfl⟩
        go_wp2_with fail
        go_ret2
        refine .inr ⟨⟨_, _, rfl, Why.mal ?_⟩, RdE.allocE hRd _, hF.alloc _⟩
        rw [HS2.out]
        dsimp only
        unfold smSt
        rw [codesT_muchL L hLe, if_neg HM.out]
end Go.Proofs.YtephkcdbnogdhaaGreatDoor.Pr
/- The walk of readRun. -/
set_option linter.unusedVariables false
namespace Go.Proofs.YtephkcdbnogdhaaGreatDoor.Pr
open Go.RowKit Rf
/-- a step of lengths that is bad -/
def lsBad (r : (Nat × Nat × RS) ⊕ RS) : Prop := match r with
  | .inl (_, _, st) => st.bad = true
  | .inr st => st.bad = true
set_option maxRecDepth 10000 in
set_option maxHeartbeats 8000000 in
theorem run_any (tb : Src) (rb : Nat) (s : ByteArray) (pos y g cap : Nat) (L : List Nat) (w : World) (h : Rd w tb rb s pos) (hs : s.size ≤ 140737488354000) (hy : y ≤ 18) (hL : L.length ≤ 400) (hx : ∀ x ∈ L, x ≤ 15)
    (hlast : 0 < L.length → w.cell? ⟨g, L.length - 1, none⟩ = some (.int .u8 ((L.getD (L.length - 1) 0 : Nat) : Int))) :
    Calls Tryz.prog 232 #[.pointer (some ⟨rb, 0, none⟩), .int .i64 (y : Int), .slice (some ⟨g, 0, none⟩) L.length cap] w fun e w' =>
      (∃ v k p, lenStep s L y ⟨pos, false⟩ = .inl (v, k, ⟨p, false⟩) ∧ v ≤ 15 ∧ 1 ≤ k ∧ k ≤ 200 ∧ e = .returned (.tuple #[.int .u8 (v : Int), .int .i64 (k : Int), .nilIface]) ∧ Rd w' tb rb s p ∧ RF tb rb w w') ∨
      ((∃ x n T a, e = .returned (.tuple #[x, .int .i64 n, .iface T (.pointer (some a))]) ∧ Why tb w' T a (lsBad (lenStep s L y ⟨pos, false⟩))) ∧ RdE w' tb rb s ∧ RF tb rb w w') := by
  by_cases h16 : y = 16
  · subst h16
    by_cases h0 : L.length = 0
    · have d0 : ((L.length : Int) == 0) = true := by rw [beq_iff_eq]; omega
      have HB : Hid (lsBad (lenStep s L 16 ⟨pos, false⟩)) := (by unfold lenStep; rw [if_pos rfl, if_pos h0]; rfl : lsBad _)
      clear hlast
      generalize L.length = n at *
      subst h0
      go_enter Tryz.func232, Tryz.ntmps232
      go_wp2_with fail
      refine (mal_any _ _).mono ?_
      rintro e w1 ⟨rfl, rfl⟩
      go_wp2_with fail
      go_ret3
      exact .inr ⟨⟨_, _, _, _, rfl, Why.mal HB.out⟩, RdE.allocE h _, (RF.refl _ _ w).alloc _⟩
    · have hl := hlast (by omega)
      have hv : L.getD (L.length - 1) 0 ≤ 15 := getD_le L 15 hx _
      have hn1 : (L.length : Int) - 1 = ((L.length - 1 : Nat) : Int) := by omega
      have d0 : ((L.length : Int) == 0) = false := by rw [beq_eq_false_iff_ne]; omega
      have HB : Hid (lenStep s L 16 ⟨pos, false⟩ = .inl (L.getD (L.length - 1) 0, 3 + (numT s 2 ⟨pos, false⟩).1, (numT s 2 ⟨pos, false⟩).2)) := (by unfold lenStep; rw [if_pos rfl, if_neg h0] : _ = _)
      have hidx : (((L.length - 1 : Nat) : Int)) < (L.length : Int) := by omega
      clear hlast
      generalize L.getD (L.length - 1) 0 = v at *
      have hp : 1 ≤ L.length := by omega
      obtain ⟨n1, hn10⟩ : ∃ n1, n1 = L.length - 1 := ⟨_, rfl⟩
      rw [← hn10] at hl hn1 hidx
      clear hn10
      go_enter Tryz.func232, Tryz.ntmps232
      go_wp2_with fail
      refine (number_any tb rb s pos 2 _ h hs (by omega)).mono ?_
      rintro e w1 (⟨a1, a2, rfl, a3, a4⟩ | ⟨⟨T, a, rfl, a1⟩, a3, a4⟩)
      · have N1 : Hid (numT s 2 ⟨pos, false⟩ = (bitsV s pos 2, ⟨pos + 2, false⟩)) := numT_ok s 2 pos a2
        have hb1 : bitsV s pos 2 < 4 := bitsV_lt s pos 2
        generalize bitsV s pos 2 = x at *
        go_wp2_with fail
        go_ret3
        refine .inl ⟨v, 3 + x, pos + 2, by rw [HB.out, N1.out], hv, by omega, by omega, ?_, a3, a4⟩
        rw [show ((3 + x : Nat) : Int) = (x : Int) + 3 by omega]; rfl
      · go_wp2_with fail
        go_ret3
        exact .inr ⟨⟨_, _, T, a, rfl, a1.imp (fun a1 => by rw [HB.out]; exact a1)⟩, a3, a4⟩
  · have d16 : ((y : Int) == 16) = false := by rw [beq_eq_false_iff_ne]; omega
    clear hlast
    by_cases h17 : y = 17
    · subst h17
      have HB : Hid (lenStep s L 17 ⟨pos, false⟩ = .inl (0, 3 + (numT s 3 ⟨pos, false⟩).1, (numT s 3 ⟨pos, false⟩).2)) := (by unfold lenStep; rw [if_neg (by omega), if_pos rfl] : _ = _)
      go_enter Tryz.func232, Tryz.ntmps232
      go_wp2_with fail
      refine (number_any tb rb s pos 3 _ h hs (by omega)).mono ?_
      rintro e w1 (⟨a1, a2, rfl, a3, a4⟩ | ⟨⟨T, a, rfl, a1⟩, a3, a4⟩)
      · have N1 : Hid (numT s 3 ⟨pos, false⟩ = (bitsV s pos 3, ⟨pos + 3, false⟩)) := numT_ok s 3 pos a2
        have hb1 : bitsV s pos 3 < 8 := bitsV_lt s pos 3
        generalize bitsV s pos 3 = x at *
        go_wp2_with fail
        go_ret3
        refine .inl ⟨0, 3 + x, pos + 3, by rw [HB.out, N1.out], by omega, by omega, by omega, ?_, a3, a4⟩
        rw [show ((3 + x : Nat) : Int) = (x : Int) + 3 by omega]; rfl
      · go_wp2_with fail
        go_ret3
        exact .inr ⟨⟨_, _, T, a, rfl, a1.imp (fun a1 => by rw [HB.out]; exact a1)⟩, a3, a4⟩
    · have d17 : ((y : Int) == 17) = false := by rw [beq_eq_false_iff_ne]; omega
      by_cases h18 : y = 18
      · subst h18
        have HB : Hid (lenStep s L 18 ⟨pos, false⟩ = .inl (0, 11 + (numT s 7 ⟨pos, false⟩).1, (numT s 7 ⟨pos, false⟩).2)) := (by unfold lenStep; rw [if_neg (by omega), if_neg (by omega), if_pos rfl] : _ = _)
        go_enter Tryz.func232, Tryz.ntmps232
        go_wp2_with fail
        refine (number_any tb rb s pos 7 _ h hs (by omega)).mono ?_
        rintro e w1 (⟨a1, a2, rfl, a3, a4⟩ | ⟨⟨T, a, rfl, a1⟩, a3, a4⟩)
        · have N1 : Hid (numT s 7 ⟨pos, false⟩ = (bitsV s pos 7, ⟨pos + 7, false⟩)) := numT_ok s 7 pos a2
          have hb1 : bitsV s pos 7 < 128 := bitsV_lt s pos 7
          generalize bitsV s pos 7 = x at *
          go_wp2_with fail
          go_ret3
          refine .inl ⟨0, 11 + x, pos + 7, by rw [HB.out, N1.out], by omega, by omega, by omega, ?_, a3, a4⟩
          rw [show ((11 + x : Nat) : Int) = (x : Int) + 11 by omega]; rfl
        · go_wp2_with fail
          go_ret3
          exact .inr ⟨⟨_, _, T, a, rfl, a1.imp (fun a1 => by rw [HB.out]; exact a1)⟩, a3, a4⟩
      · have d18 : ((y : Int) == 18) = false := by rw [beq_eq_false_iff_ne]; omega
        have HB : Hid (lenStep s L y ⟨pos, false⟩ = .inl (y, 1, ⟨pos, false⟩)) := (by unfold lenStep; rw [if_neg h16, if_neg h17, if_neg h18] : _ = _)
        go_enter Tryz.func232, Tryz.ntmps232
        go_wp2_with fail
        go_ret3
        exact .inl ⟨y, 1, pos, HB.out, by omega, by omega, by omega, rfl, h, RF.refl _ _ _⟩
end Go.Proofs.YtephkcdbnogdhaaGreatDoor.Pr
/- The walk of readLengths. -/
set_option linter.unusedVariables false
namespace Go.Proofs.YtephkcdbnogdhaaGreatDoor.Pr
open Go.RowKit Rf
/-- lengths as cells -/
def lenCells (L : List Nat) : List Value := L.map fun x => .int .u8 ((x : Nat) : Int)
theorem lenCells_snoc (L : List Nat) (x : Nat) : lenCells (L ++ [x]) = lenCells L ++ [.int .u8 ((x : Nat) : Int)] := by simp [lenCells]
theorem lensF_step_bad (s : ByteArray) (N : Nat) (cs : List (Nat × List UInt8)) (f : Nat) (L : List Nat) (p : Nat) (h : L.length < N) (hb : lsBad (lenStep s L (symT s cs ⟨p, false⟩).1 (symT s cs ⟨p, false⟩).2)) : (lensF s N cs (f + 1) L ⟨p, false⟩).2.bad = true := by
  cases e : lenStep s L (symT s cs ⟨p, false⟩).1 (symT s cs ⟨p, false⟩).2 with
  | inl r =>
    obtain ⟨v, k, st'⟩ := r
    rw [e] at hb
    rw [lensF_go s N cs f L _ h rfl v k st' e, lensF_bad _ _ _ _ _ _ hb]; exact hb
  | inr st' =>
    rw [e] at hb
    rw [lensF_stop s N cs f L _ h rfl st' e]; exact hb
theorem lensF_sym_bad (s : ByteArray) (N : Nat) (cs : List (Nat × List UInt8)) (f : Nat) (L : List Nat) (p : Nat) (h : L.length < N) (hb : (symT s cs ⟨p, false⟩).2.bad = true) : (lensF s N cs (f + 1) L ⟨p, false⟩).2.bad = true := by
  apply lensF_step_bad s N cs f L p h
  rw [symT_zero s cs _ hb]
  unfold lenStep
  rw [if_neg (by omega), if_neg (by omega), if_neg (by omega)]
  exact hb
theorem rf_grown {tb : Src} {rb g : Nat} {w wr w2 : World} {o : Obj} (hf : RF tb rb w wr) (hg : (wr.alloc o).grownBy w2 (some g)) (h : w.heap.size ≤ g) : RF tb rb w w2 :=
  ⟨hg.os.trans hf.os, hg.tape.trans hf.tape, hg.output.trans hf.output, by have := hg.size; have := hf.size; simp at *; omega, fun k hk h1 h2 => (hg.block k (by have := hf.size; simp; omega) (by intro e; injection e with e; omega)).trans ((alloc_old (by have := hf.size; omega)).trans (hf.block k hk h1 h2))⟩
theorem rd_grown {tb : Src} {rb g : Nat} {wr w2 : World} {o : Obj} {s : ByteArray} {p : Nat} (h : Rd wr tb rb s p) (hg : (wr.alloc o).grownBy w2 (some g)) (h0 : tb.base ≤ g) (h1 : ¬ tb.F g) (h2 : g ≠ rb) : Rd w2 tb rb s p := by
  have hl := h.lts
  refine h.over (fun k hk => ?_) ((hg.block _ (by simp; omega) (by intro e; injection e with e; exact h2 e.symm)).trans (alloc_old hl.2.1))
  have hkl := hl.1 k hk
  refine (hg.block k (by simp; omega) (fun e => ?_)).trans (alloc_old hkl)
  injection e with e
  subst e
  rcases hk with hk | hk
  · exact h1 hk
  · omega
set_option maxRecDepth 10000 in
set_option maxHeartbeats 8000000 in
theorem lens_any (tb : Src) (rb kt : Nat) (s : ByteArray) (pos N : Nat) (SM : List Nat) (w : World) (h : Rd w tb rb s pos) (hT : TabI w kt SM) (hl19 : SM.length = 19) (hx : ∀ x ∈ SM, x ≤ 15) (hK : kN SM 16 ≤ 32768) (hs : s.size ≤ 140737488354000) (hN : N ≤ 320) :
    Calls Tryz.prog 203 #[.pointer (some ⟨rb, 0, none⟩), .pointer (some ⟨kt, 0, none⟩), .int .i64 (N : Int)] w fun e w' =>
      (∃ L p g cap, lensF s N (codesT SM).cs (N + 1) [] ⟨pos, false⟩ = (L, ⟨p, false⟩) ∧ L.length = N ∧ (∀ x ∈ L, x ≤ 15) ∧ e = .returned (.tuple #[.slice (some ⟨g, 0, none⟩) N cap, .nilIface]) ∧ w'.ownsRow w.heap.size 5 1 (.slice (some ⟨g, 0, none⟩) N cap) N (lenCells L) ∧ Rd w' tb rb s p ∧ RF tb rb w w') ∨
      ((∃ T a, e = .returned (.tuple #[.slice none 0 0, .iface T (.pointer (some a))]) ∧ Why tb w' T a ((lensF s N (codesT SM).cs (N + 1) [] ⟨pos, false⟩).2.bad = true ∨ (lensF s N (codesT SM).cs (N + 1) [] ⟨pos, false⟩).1.length ≠ N)) ∧ RdE w' tb rb s ∧ RF tb rb w w') := by
  obtain ⟨i0, hi, hz0, hz1, hz2⟩ := info_parts infoB
  have hmk : (Instr.makeSlice 45 (.int .i64 0) (.int .i64 (N : Int))).run Tryz.prog w = .ok (.slice (some ⟨w.heap.size, 0, none⟩) 0 N) (w.alloc (.cells (madeCells #[.int .u8 0] N) 5)) := by
    have h := run_make (P := Tryz.prog) w 45 5 i0 _ Tryz.underlying45 hi hz0 .i64 .i64 0 (N : Int) (by omega) (by omega) (by rw [hz2]; omega) (by omega)
    rw [h, hz1]
    simp [Value.cells]
  clear hi hz0 hz1 hz2
  have hlt := h.lts
  have hO0 : (w.alloc (.cells (madeCells #[.int .u8 0] N) 5)).ownsRow w.heap.size 5 1 (.slice (some ⟨w.heap.size, 0, none⟩) 0 N) 0 [] := ⟨rfl, .inr ⟨w.heap.size, N, _, rfl, Nat.le_refl _, alloc_new w _ _ rfl, Nat.zero_le _, by unfold maxLen; omega, by rw [size_madeCells]; omega, by simp⟩⟩
  obtain ⟨R, hR0⟩ : ∃ R, R = lensF s N (codesT SM).cs (N + 1) [] ⟨pos, false⟩ := ⟨_, rfl⟩
  rw [← hR0]
  have HR0 : Hid _ := hR0
  clear hR0
  go_enter Tryz.func203, Tryz.ntmps203
  go_wp2_with fail
  go_loopw [8] (fun v wr => ∃ (f p g cap : Nat) (L : List Nat), R = lensF s N (codesT SM).cs f L ⟨p, false⟩ ∧ N - L.length < f ∧ L.length ≤ N ∧ (∀ x ∈ L, x ≤ 15) ∧ v = .slice (some ⟨g, 0, none⟩) L.length cap ∧ wr.ownsRow w.heap.size 5 1 v L.length (lenCells L) ∧ Rd wr tb rb s p ∧ RF tb rb w wr) (fun v _ => match v with | .slice _ n _ => N - n | _ => 0)
  case atStart => exact ⟨N + 1, pos, w.heap.size, N, [], HR0.out, by simp, Nat.zero_le _, by simp, rfl, hO0, h.alloc _, (RF.refl _ _ w).alloc _⟩
  case round =>
    clear hmk hO0
    obtain ⟨f, p, g, cap, L, hR, hf, hLN, hLx, rfl, hown, hRd, hF⟩ := hrel
    have HR : Hid _ := hR
    clear hR
    have hgb := hown.lt g rfl
    have hgt := h.new hgb.1
    have hT1 : TabI wr kt SM := hT.over h hF
    by_cases hlt2 : L.length < N
    · obtain ⟨f', hf'⟩ : ∃ f', f = f' + 1 := ⟨f - 1, by omega⟩
      subst hf'
      go_wp2_with fail
      refine (readI_any kt tb rb SM s p _ hT1 hRd hs (by omega) hx hK).mono ?_
      rintro e w1 (⟨y, p1, k1, rfl, k2, k3⟩ | ⟨⟨T, a, rfl, k1⟩, k2, k3⟩)
      rotate_left
      · have HW : Why tb w1 T a (R.2.bad = true ∨ R.1.length ≠ N) := k1.imp (fun k1 => .inl (by rw [HR.out]; exact lensF_sym_bad s N _ _ L p hlt2 k1))
        clear k1
        go_wp2_with fail
        go_ret2
        exact .inr ⟨⟨T, a, rfl, HW⟩, k2, hF.trans k3⟩
      have hy : y < 19 := by have := symT_sym s SM ⟨p, false⟩ (by omega); rw [k1] at this; omega
      have K1 : Hid _ := k1
      have hown1 : w1.ownsRow w.heap.size 5 1 (.slice (some ⟨g, 0, none⟩) L.length cap) L.length (lenCells L) := ownsRow_over hown (fun k hk => by
        simp [Value.ownBlock] at hk; subst hk; exact k3.block _ hgb.2 hgt.2.1 hgt.2.2)
      have hlast : 0 < L.length → w1.cell? ⟨g, L.length - 1, none⟩ = some (.int .u8 ((L.getD (L.length - 1) 0 : Nat) : Int)) := fun h0 => by
        rw [hown1.cellAt (L.length - 1) (by omega)]
        simp [lenCells, List.getD_eq_getElem?_getD, List.getElem?_eq_getElem (show L.length - 1 < L.length by omega)]
      clear k1
      go_wp2_with fail
      refine (run_any tb rb s p1 y g cap L _ k2 hs (by omega) (by omega) hLx hlast).mono ?_
      rintro e w2 (⟨v, k, p2, r1, r2, r3, r4, rfl, r5, r6⟩ | ⟨⟨x, n, T, a, rfl, r1⟩, r3, r4⟩)
      rotate_left
      · have HW : Why tb w2 T a (R.2.bad = true ∨ R.1.length ≠ N) := r1.imp (fun r1 => .inl (by
          rw [HR.out]
          refine lensF_step_bad s N _ _ L p hlt2 ?_
          rw [K1.out]
          exact r1))
        clear hlast r1
        go_wp2_with fail
        go_ret2
        exact .inr ⟨⟨T, a, rfl, HW⟩, r3, (hF.trans k3).trans r4⟩
      have HR2 : Hid (R = lensF s N (codesT SM).cs f' (L ++ List.replicate k v) ⟨p2, false⟩) := (by
        rw [HR.out]
        exact lensF_go s N _ f' L _ hlt2 rfl v k ⟨p2, false⟩ (by rw [K1.out]; exact r1) : _ = _)
      have hown2 : w2.ownsRow w.heap.size 5 1 (.slice (some ⟨g, 0, none⟩) L.length cap) L.length (lenCells L) := ownsRow_over hown1 (fun k hk => by
        simp [Value.ownBlock] at hk; subst hk; exact r6.block _ (Nat.lt_of_lt_of_le hgb.2 k3.size) hgt.2.1 hgt.2.2)
      have hF2 := (hF.trans k3).trans r6
      clear hlast r1 hown hown1
      have hLi : (L.length : Int) ≤ 400 := by omega
      have hki : (k : Int) ≤ 200 := by omega
      by_cases hkk : k ≤ N - L.length
      rotate_left
      · have d1 : decide ((N : Int) - (L.length : Int) < (k : Int)) = true := decide_eq_true (by omega)
        have HB : Hid (R.1.length ≠ N) := (by
          rw [HR2.out, lensF_full s N _ _ _ _ (by simp; omega)]
          simp; omega : _ ≠ _)
        go_wp2_with fail
        refine (mal_any _ _).mono ?_
        rintro e w3 ⟨rfl, rfl⟩
        go_wp2_with fail
        go_ret2
        exact .inr ⟨⟨_, _, rfl, Why.mal (.inr HB.out)⟩, RdE.allocE r5 _, hF2.alloc _⟩
      have d1 : decide ((N : Int) - (L.length : Int) < (k : Int)) = false := decide_eq_false (by omega)
      go_wp2_with fail
      go_loopw [8, 47] (fun vv iv wx => ∃ (i g cap : Nat), i ≤ k ∧ iv = .int .i64 (i : Int) ∧ vv = .slice (some ⟨g, 0, none⟩) (L.length + i) cap ∧ wx.ownsRow w.heap.size 5 1 vv (L.length + i) (lenCells (L ++ List.replicate i v)) ∧ Rd wx tb rb s p2 ∧ RF tb rb w wx) (fun _ iv _ => k - (intOf iv).toNat)
      case atStart => exact ⟨0, g, cap, Nat.zero_le _, rfl, rfl, by simpa using hown2, r5, hF2⟩
      case round =>
        clear hown2 hF2 r5
        obtain ⟨i, g3, cap3, hi, rfl, rfl, hown3, hRd3, hF3⟩ := hrel
        have hg3 := hown3.lt g3 rfl
        have hgt3 := h.new hg3.1
        by_cases hik : i < k
        · have hn8 : L.length + i ≤ 100000000 := by omega
          have hbs : w.heap.size ≤ wr.heap.size := hF3.size
          have HLR : Hid (lenCells (L ++ List.replicate i v) ++ [.int .u8 ((v : Nat) : Int)] = lenCells (L ++ List.replicate (i + 1) v)) := (by
            rw [← lenCells_snoc, List.append_assoc, List.replicate_succ'] : _ = _)
          go_wp2_with (first
            | (at_builtin; refine append_byte2 rfl _ _ rfl w.heap.size _ (L.length + i) (lenCells (L ++ List.replicate i v)) ((v : Nat) : Int) hown3 rfl rfl hn8 hbs ?_; go_must (intro v' w4 hown' hg hw; obtain ⟨g', cap', rfl⟩ := RfW.own_shape hown'))
            | go_in)
          go_roundw
          case rel =>
            refine ⟨i + 1, g', cap', by omega, by go_num, rfl, ?_, rd_grown (g := g3) hRd3 hg hgt3.1 hgt3.2.1 hgt3.2.2, rf_grown (g := g3) hF3 hg hg3.1⟩
            rw [← HLR.out]; exact hown'
          case measure => simp [intOf]; omega
        · have hik2 : i = k := by omega
          subst hik2
          have hlen : (L ++ List.replicate i v).length = L.length + i := by simp
          go_wp2_with fail
          go_roundw
          case rel =>
            refine ⟨f', p2, g3, cap3, L ++ List.replicate i v, HR2.out, by omega, by omega, ?_, by rw [hlen], by rw [hlen]; exact hown3, hRd3, hF3⟩
            intro x hx'
            rcases List.mem_append.1 hx' with hx' | hx'
            · exact hLx x hx'
            · rw [List.eq_of_mem_replicate hx']; exact r2
          case measure => simp; omega
    · have hLe : L.length = N := by omega
      have HB : Hid (R = (L, ⟨p, false⟩)) := (by rw [HR.out]; exact lensF_full s N _ _ L _ hlt2 : _ = _)
      go_wp2_with fail
      go_ret2
      exact .inl ⟨L, p, g, cap, HB.out, hLe, hLx, by rw [← hLe]; rfl, by rw [← hLe]; exact hown, hRd, hF⟩
end Go.Proofs.YtephkcdbnogdhaaGreatDoor.Pr
/- Which lengths a block may have; the walk of checkLengths. -/
set_option linter.unusedVariables false
namespace Go.Proofs.YtephkcdbnogdhaaGreatDoor.Rf
theorem cnt_cons (x : Nat) (L : List Nat) : cnt (x :: L) = (if 0 < x then 1 else 0) + cnt L := by
  unfold cnt
  by_cases h : 0 < x
  · simp [h]; omega
  · simp [h]
theorem muchL_cons (x : Nat) (L : List Nat) : muchL (x :: L) = (if 0 < x then pw (15 - x) else 0) + muchL L := by
  unfold muchL; rw [List.map_cons, List.sum_cons]
theorem much_zero_cnt (L : List Nat) (h : muchL L = 0) : cnt L = 0 := by
  induction L with
  | nil => rfl
  | cons x L ih =>
    rw [muchL_cons] at h
    have hx : ¬ 0 < x := by
      intro hx
      rw [if_pos hx] at h
      have := pw_pos (15 - x)
      omega
    rw [if_neg hx] at h
    rw [cnt_cons, if_neg hx, ih (by omega)]
theorem cnt_pos (L : List Nat) : ∀ i, L.getD i 0 ≠ 0 → 0 < cnt L := by
  induction L with
  | nil => intro i h; simp at h
  | cons x L ih =>
    intro i h
    rw [cnt_cons]
    cases i with
    | zero => simp at h; rw [if_pos (by omega)]; omega
    | succ i => have := ih i (by simpa using h); omega
theorem single_much (L : List Nat) : ∀ i, cnt L = 1 → L.getD i 0 ≠ 0 → muchL L = pw (15 - L.getD i 0) := by
  induction L with
  | nil => intro i h; cases h
  | cons x L ih =>
    intro i h h2
    rw [cnt_cons] at h
    rw [muchL_cons]
    cases i with
    | zero =>
      simp at h2
      rw [if_pos (by omega)] at h ⊢
      rw [cnt_zero_much L (by omega)]
      simp
    | succ i =>
      have h3 : L.getD i 0 ≠ 0 := by simpa using h2
      have h4 := cnt_pos L i h3
      have hx : ¬ 0 < x := by
        intro hx; rw [if_pos hx] at h; omega
      rw [if_neg hx] at h ⊢
      have := ih i (by omega) h3
      simp only [List.getD_cons_succ]
      omega
theorem pw_14 (x : Nat) (h0 : x ≠ 0) (h : x ≤ 15) (e : pw (15 - x) = 16384) : x = 1 := by
  by_cases h1 : x = 1
  · exact h1
  · have h2 : pw (15 - x) ≤ pw 13 := pw_le _ _ (by omega)
    have h3 : pw 13 = 8192 := rfl
    omega
end Go.Proofs.YtephkcdbnogdhaaGreatDoor.Rf
namespace Go.Proofs.YtephkcdbnogdhaaGreatDoor.Pr
open Go.RowKit Rf
theorem fitT_le (L : List Nat) : fitT L ≤ 3 := by
  unfold fitT; split
  · omega
  · split
    · omega
    · split <;> omega
/-- lengths that a block may have -/
def okAB (A B : List Nat) : Prop := (fitT A = 1 ∨ fitT A = 2) ∧ A.getD 256 0 ≠ 0 ∧ fitT B ≠ 0
theorem wrong_iff (a : Nat) (L : List Nat) (ha : 257 ≤ a) (hl : a ≤ L.length) (hx : ∀ x ∈ L, x ≤ 15) : wrongT a L = false ↔ okAB (L.take a) (L.drop a) := by
  have hA : ∀ x ∈ L.take a, x ≤ 15 := fun x h => hx x (List.mem_of_mem_take h)
  have hB : ∀ x ∈ L.drop a, x ≤ 15 := fun x h => hx x (List.mem_of_mem_drop h)
  have e256 : L.getD 256 0 = (L.take a).getD 256 0 := by
    rw [List.getD_eq_getElem?_getD, List.getD_eq_getElem?_getD, List.getElem?_take_of_lt (by omega)]
  unfold wrongT okAB loneT noneT singleT
  rw [codesT_muchL _ hA, codesT_muchL _ hB, e256]
  generalize hAA : L.take a = A at *
  generalize hBB : L.drop a = B at *
  have hA15 : A.getD 256 0 ≤ 15 := getD_le A 15 hA 256
  have k1 : A.getD 256 0 ≠ 0 → cnt A = 1 → muchL A = 16384 → A.getD 256 0 = 1 := fun h1 h2 h3 => by
    have := single_much A 256 h2 h1
    exact pw_14 _ h1 hA15 (by omega)
  have k2 : cnt A = 0 → A.getD 256 0 = 0 := fun h => by
    by_cases h0 : A.getD 256 0 = 0
    · exact h0
    · have := cnt_pos A 256 h0; omega
  have k3 : cnt B = 0 ↔ muchL B = 0 := ⟨cnt_zero_much B, much_zero_cnt B⟩
  have k4 : cnt A = 0 → muchL A = 0 := cnt_zero_much A
  unfold fitT
  generalize A.getD 256 0 = x at *
  generalize cnt A = ca at *
  generalize muchL A = ma at *
  generalize cnt B = cb at *
  generalize muchL B = mb at *
  clear hAA hBB hA hB e256 hx hl ha
  simp only [Bool.or_eq_false_iff, Bool.and_eq_false_iff, beq_eq_false_iff_ne, bne_eq_false_iff_eq, Bool.not_eq_false', Bool.and_eq_true, beq_iff_eq, Bool.or_eq_true, ne_eq]
  constructor
  · rintro ⟨⟨h1, h2⟩, h3⟩
    refine ⟨?_, h1, ?_⟩
    · by_cases c0 : ca = 0
      · exact absurd (k2 c0) h1
      · rw [if_neg c0]
        by_cases c1 : ma = 32768
        · rw [if_pos c1]; exact .inl rfl
        · rw [if_neg c1]
          rcases h2 with h2 | ⟨⟨h4, _⟩, h5⟩
          · exact absurd h2 c1
          · rw [if_pos ⟨h5, h4⟩]; exact .inr rfl
    · by_cases c0 : cb = 0
      · rw [if_pos c0]; omega
      · rw [if_neg c0]
        by_cases c1 : mb = 32768
        · rw [if_pos c1]; omega
        · rw [if_neg c1]
          rcases h3 with h3 | h3 | ⟨h4, h5⟩
          · exact absurd h3 c1
          · exact absurd (k3.2 h3) c0
          · rw [if_pos ⟨h5, h4⟩]; omega
  · rintro ⟨h1, h2, h3⟩
    refine ⟨⟨h2, ?_⟩, ?_⟩
    · by_cases c0 : ca = 0
      · exact absurd (k2 c0) h2
      · rw [if_neg c0] at h1
        by_cases c1 : ma = 32768
        · exact .inl c1
        · rw [if_neg c1] at h1
          by_cases c2 : ca = 1 ∧ ma = 16384
          · exact .inr ⟨⟨c2.2, k1 h2 c2.1 c2.2⟩, c2.1⟩
          · rw [if_neg c2] at h1; omega
    · by_cases c0 : cb = 0
      · exact .inr (.inl (k3.1 c0))
      · rw [if_neg c0] at h3
        by_cases c1 : mb = 32768
        · exact .inl c1
        · rw [if_neg c1] at h3
          by_cases c2 : cb = 1 ∧ mb = 16384
          · exact .inr (.inr ⟨c2.2, c2.1⟩)
          · rw [if_neg c2] at h3; omega
theorem fit_few (L : List Nat) (hx : ∀ x ∈ L, x ≤ 15) (h : fitT L ≠ 0) : kN L 16 ≤ 32768 := by
  rw [kN_much L hx]
  unfold fitT at h
  by_cases c0 : cnt L = 0
  · rw [cnt_zero_much L c0]; omega
  · rw [if_neg c0] at h
    by_cases c1 : muchL L = 32768
    · omega
    · rw [if_neg c1] at h
      by_cases c2 : cnt L = 1 ∧ muchL L = 16384
      · omega
      · rw [if_neg c2] at h; omega
set_option maxRecDepth 10000 in
set_option maxHeartbeats 4000000 in
theorem check_ok (b o cap b2 o2 cap2 : Nat) (A B : List Nat) (w : World) (hA : BytesAt w b o A) (hla : A.length ≤ 400) (hl2 : 257 ≤ A.length) (hxa : ∀ x ∈ A, x ≤ 15) (hB : BytesAt w b2 o2 B) (hlb : B.length ≤ 400) (hxb : ∀ x ∈ B, x ≤ 15) (hok : okAB A B) :
    Calls Tryz.prog 204 #[.slice (some ⟨b, o, none⟩) A.length cap, .slice (some ⟨b2, o2, none⟩) B.length cap2] w fun e w' => e = .returned .nilIface ∧ w' = w := by
  obtain ⟨h1, h2, h3⟩ := hok
  have hc := hA 256 (by omega)
  have hx15 : A.getD 256 0 ≤ 15 := getD_le A 15 hxa 256
  have hbl := fitT_le B
  have hfa := fit_any b o cap A w hA hla hxa
  have hfb := fit_any b2 o2 cap2 B w hB hlb hxb
  generalize A.getD 256 0 = x at *
  generalize fitT A = fa at *
  generalize fitT B = fb at *
  have dx : ((x : Int) == 0) = false := by rw [beq_eq_false_iff_ne]; omega
  have db : ((fb : Int) == 0) = false := by rw [beq_eq_false_iff_ne]; omega
  rcases h1 with rfl | rfl
  · go_enter Tryz.func204, Tryz.ntmps204
    go_wp2_with fail
    refine hfa.mono ?_
    rintro e w1 ⟨rfl, hw⟩
    have hw := hw.symm
    subst hw
    go_wp2_with fail
    refine hfb.mono ?_
    rintro e w1 ⟨rfl, hw⟩
    have hw := hw.symm
    subst hw
    go_wp2_with fail
    go_ret
    exact ⟨rfl, rfl⟩
  · go_enter Tryz.func204, Tryz.ntmps204
    go_wp2_with fail
    refine hfa.mono ?_
    rintro e w1 ⟨rfl, hw⟩
    have hw := hw.symm
    subst hw
    go_wp2_with fail
    refine hfb.mono ?_
    rintro e w1 ⟨rfl, hw⟩
    have hw := hw.symm
    subst hw
    go_wp2_with fail
    go_ret
    exact ⟨rfl, rfl⟩
set_option maxRecDepth 10000 in
set_option maxHeartbeats 4000000 in
theorem check_no (b o cap b2 o2 cap2 : Nat) (A B : List Nat) (w : World) (hA : BytesAt w b o A) (hla : A.length ≤ 400) (hl2 : 257 ≤ A.length) (hxa : ∀ x ∈ A, x ≤ 15) (hB : BytesAt w b2 o2 B) (hlb : B.length ≤ 400) (hxb : ∀ x ∈ B, x ≤ 15) (hok : ¬ okAB A B) :
    Calls Tryz.prog 204 #[.slice (some ⟨b, o, none⟩) A.length cap, .slice (some ⟨b2, o2, none⟩) B.length cap2] w fun e w' => (∃ a, e = .returned (.iface 142 (.pointer (some a)))) ∧ ∃ o, w' = w.alloc o := by
  have hc := hA 256 (by omega)
  have hx15 : A.getD 256 0 ≤ 15 := getD_le A 15 hxa 256
  have hal := fitT_le A
  have hbl := fitT_le B
  have hfa := fit_any b o cap A w hA hla hxa
  have hfb := fit_any b2 o2 cap2 B w hB hlb hxb
  have HK : Hid (¬ ((fitT A = 1 ∨ fitT A = 2) ∧ A.getD 256 0 ≠ 0 ∧ fitT B ≠ 0)) := hok
  clear hok
  generalize A.getD 256 0 = x at *
  generalize fitT A = fa at *
  generalize fitT B = fb at *
  by_cases h1 : fa = 1 ∨ fa = 2
  · have d12 : (fa = 1 → ((fa : Int) == 1) = true) ∧ True := ⟨fun h => by subst h; rfl, trivial⟩
    by_cases h2 : x = 0
    · subst h2
      rcases h1 with rfl | rfl
      all_goals
        go_enter Tryz.func204, Tryz.ntmps204
        go_wp2_with fail
        refine hfa.mono ?_
        rintro e w1 ⟨rfl, hw⟩
        have hw := hw.symm
        subst hw
        go_wp2_with fail
        refine (mal_any _ _).mono ?_
        rintro e w2 ⟨rfl, rfl⟩
        go_wp2_with fail
        go_ret
        exact ⟨⟨_, rfl⟩, _, rfl⟩
    · have h3 : fb = 0 := by
        by_cases h3 : fb = 0
        · exact h3
        · exact absurd ⟨h1, h2, h3⟩ HK.out
      subst h3
      have dx : ((x : Int) == 0) = false := by rw [beq_eq_false_iff_ne]; omega
      rcases h1 with rfl | rfl
      all_goals
        go_enter Tryz.func204, Tryz.ntmps204
        go_wp2_with fail
        refine hfa.mono ?_
        rintro e w1 ⟨rfl, hw⟩
        have hw := hw.symm
        subst hw
        go_wp2_with fail
        refine hfb.mono ?_
        rintro e w1 ⟨rfl, hw⟩
        have hw := hw.symm
        subst hw
        go_wp2_with fail
        refine (mal_any _ _).mono ?_
        rintro e w2 ⟨rfl, rfl⟩
        go_wp2_with fail
        go_ret
        exact ⟨⟨_, rfl⟩, _, rfl⟩
  · have h1' : fa = 0 ∨ fa = 3 := by omega
    clear h1
    rcases h1' with rfl | rfl
    all_goals
      go_enter Tryz.func204, Tryz.ntmps204
      go_wp2_with fail
      refine hfa.mono ?_
      rintro e w1 ⟨rfl, hw⟩
      have hw := hw.symm
      subst hw
      go_wp2_with fail
      refine (mal_any _ _).mono ?_
      rintro e w2 ⟨rfl, rfl⟩
      go_wp2_with fail
      go_ret
      exact ⟨⟨_, rfl⟩, _, rfl⟩
end Go.Proofs.YtephkcdbnogdhaaGreatDoor.Pr
