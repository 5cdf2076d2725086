/- The walk of symbols. -/
import Derived.Test.YtephkcdbnogdhaaGreatDoorMM
import Derived.Test.YtephkcdbnogdhaaGreatDoorMO
set_option linter.unusedVariables false
namespace Go.Proofs.YtephkcdbnogdhaaGreatDoor.Pr
open Go.RowKit Rf
/-- where the reader stands, as memory has it -/
def posIn (w : World) (tb : Src) (rb : Nat) : Nat := (match w.cell? ⟨rb, 3, none⟩ with
  | some (.int _ n) => 8 * n.toNat
  | _ => 0) - heldIn w rb - 8 * tb.z
theorem posIn_of {w : World} {tb : Src} {rb : Nat} {s : ByteArray} {pos : Nat} (h : Rd w tb rb s pos) : posIn w tb rb = pos := by
  obtain ⟨c, hc, h⟩ := h
  have hh := heldIn_of h
  obtain ⟨t, h1, h2, h3, h4, h5, h6⟩ := h
  have d3 : w.cell? ⟨rb, 3, none⟩ = some (.int .i64 ((t + tb.z : Nat) : Int)) := by simpa using (cell_of h6 3).1
  unfold posIn
  rw [d3, hh]
  simp only [Int.toNat_natCast]
  omega
theorem litM_cases (y : Nat) : (y < 256 ∧ litM y = (1, y, 0)) ∨ (y = 256 ∧ litM y = (2, 0, 0)) ∨ (257 ≤ y ∧ y ≤ 285 ∧ litM y = (3, lenT y)) ∨ (285 < y ∧ litM y = (0, 0, 0)) := by
  by_cases h1 : y < 256
  · exact .inl ⟨h1, by unfold litM; rw [if_pos h1]⟩
  · by_cases h2 : y = 256
    · exact .inr (.inl ⟨h2, by unfold litM; rw [if_neg h1, if_pos h2]⟩)
    · by_cases h3 : y ≤ 285
      · exact .inr (.inr (.inl ⟨by omega, h3, litM_len y (by omega) h3⟩))
      · exact .inr (.inr (.inr ⟨by omega, by unfold litM; rw [if_neg h1, if_neg h2, if_neg (by omega), if_neg (by omega), if_neg (by omega)]⟩))
set_option maxRecDepth 10000 in
set_option maxHeartbeats 16000000 in
theorem symbols_any (S : Sink) (A : Adr) (s : ByteArray) (win most kt : Nat) (LA LB : List Nat) (u : US) (w : World) (hP : PutOk S A.base) (h : UP S w A s win most u) (hT : TabsIs w kt LA LB) (hA : Fit LA) (hB : Fit LB) (hs : s.size ≤ 140737488354000) (hm : most ≤ 16777216) (hw1 : 1 ≤ win) (hw2 : win ≤ 32768) :
    Calls Tryz.prog 172 #[.pointer (some ⟨A.ub, 0, none⟩), .pointer (some ⟨kt, 0, none⟩)] w fun e w' => Res S A s win most w (symsF s win most (codesT LA).cs (codesT LB).cs (8 * s.size + 1) u) e w' := by
  obtain ⟨R, hR0⟩ : ∃ R, R = symsF s win most (codesT LA).cs (codesT LB).cs (8 * s.size + 1) u := ⟨_, rfl⟩
  rw [← hR0]
  have HR0 : Hid _ := hR0
  clear hR0
  go_enter Tryz.func172, Tryz.ntmps172
  go_wp2_with fail
  go_loopw [6] (fun _ wr => ∃ (f : Nat) (t : US), R = symsF s win most (codesT LA).cs (codesT LB).cs f t ∧ 8 * s.size - t.st.pos < f ∧ UP S wr A s win most t ∧ PE A.base w wr) (fun _ wr => 8 * s.size - posIn wr A.tb A.rb)
  case atStart => exact ⟨8 * s.size + 1, u, HR0.out, by omega, h, PE.refl _ _⟩
  case round =>
    obtain ⟨f, t, hR, hf, hU, hPE⟩ := hrel
    have hbad := hU.facts.1
    obtain ⟨⟨tp, bad⟩, tout⟩ := t
    dsimp only at hbad hf
    subst hbad
    obtain ⟨f', hf'⟩ : ∃ f', f = f' + 1 := ⟨f - 1, by omega⟩
    subst hf'
    have HR : Hid _ := hR
    clear hR
    obtain ⟨ka, kb, t1, t2, t3⟩ := hT.pe hPE
    have hTw : TabsIs wr kt LA LB := hT.pe hPE
    obtain ⟨c0, _, _, _⟩ := hU.cells
    obtain ⟨_, f2, f3⟩ := hU.facts
    dsimp only at f2 f3
    have HPOS : Hid (posIn wr A.tb A.rb = tp) := posIn_of f2
    have tc0 : wr.cell? ⟨kt, 0, none⟩ = some (.pointer (some ⟨ka, 0, none⟩)) := by simpa using (cell_of t1 0).1
    have o1 : ∀ o : Obj, (wr.alloc o).cell? ⟨kt, 0, none⟩ = some (.pointer (some ⟨ka, 0, none⟩)) := fun o => Er.cell_alloc tc0 o
    have o2 : ∀ o : Obj, (wr.alloc o).cell? ⟨A.ub, 0, none⟩ = some (.pointer (some ⟨A.rb, 0, none⟩)) := fun o => Er.cell_alloc c0 o
    have hbn := f2.new (Nat.le_refl wr.heap.size)
    have t2o : TabM (wr.alloc (.cells #[.int .u8 0, .int .i64 0, .int .u64 0] 314)).drew ka litM LA := t2.keep (w' := wr.alloc (.cells #[.int .u8 0, .int .i64 0, .int .u64 0] 314)) (fun b hb => alloc_old hb)
    have f2o : Rd (wr.alloc (.cells #[.int .u8 0, .int .i64 0, .int .u64 0] 314)).drew A.tb A.rb s tp := (f2.alloc _).drew
    have hz0 : (wr.alloc (.cells #[.int .u8 0, .int .i64 0, .int .u64 0] 314)).drew.heap[wr.heap.size]? = some (.cells #[.int .u8 0, .int .i64 0, .int .u64 0] 314 (0, 0)) := alloc_new wr _ _ rfl
    have hRo : RF A.tb A.rb wr (wr.alloc (.cells #[.int .u8 0, .int .i64 0, .int .u64 0] 314)).drew := ((RF.refl _ _ wr).alloc _).drew
    have hRd : RF A.tb A.rb wr wr.drew := (RF.refl _ _ wr).drew
    clear t1 t3
    go_upto_region 1 with fail
    go_cut [5, 6] (fun v10 v8 wx => ∃ (m : Nat × Nat × Nat) (v : Value) (b : Nat), v8 = v ∧ v10 = .pointer (some ⟨b, 0, none⟩) ∧ MeanAt wx b m ∧ ReadR A.tb A.rb s (codesT LA).cs tp litM wr m v wx)
    case first =>
      go_region_with (first
        | (go_at_call 198; refine (readM_one ka A.tb A.rb LA s tp (wr.alloc (.cells #[.int .u8 0, .int .i64 0, .int .u64 0] 314)).drew litM t2o f2o hs hA.len hA.le hA.few).mono ?_; rintro e w3 ⟨m, v, rfl, g1⟩; obtain ⟨zz, z0, z1, z2, y0, y1, y2⟩ := zero_kept g1.rf hz0 hbn.2.1 hbn.2.2; replace g1 := ReadR.from hRo g1)
        | (go_at_call 198; refine (readM_one ka A.tb A.rb LA s tp _ litM (by exact t2) (by exact f2.drew) hs hA.len hA.le hA.few).mono ?_; rintro e w3 ⟨m, v, rfl, g1⟩; replace g1 := ReadR.from hRd g1))
      all_goals
        go_wp2_with fail
        go_meet
        case rel => first
          | exact ⟨m, v, _, rfl, rfl, alloc_new w3 _ _ rfl, g1.alloc _⟩
          | exact ⟨m, v, _, rfl, rfl, (set_of (set_of (set_of zz 0 _) 1 _) 2 _).trans (by simp), ((g1.set (Nat.le_refl _) hbn.1 hbn.2.1 hbn.2.2 zz (by decide) 0 _).set (Nat.le_refl _) hbn.1 hbn.2.1 hbn.2.2 (set_of zz 0 _) (by decide) 1 _).set (Nat.le_refl _) hbn.1 hbn.2.1 hbn.2.2 (set_of (set_of zz 0 _) 1 _) (by decide) 2 _⟩
    case rest =>
      obtain ⟨lm, v, b, rfl, rfl, hMb, hRR⟩ := hcut
      rcases hRR with ⟨y, p2, hsy, hlm, rfl, g1, g2⟩ | ⟨hm0, ⟨T, a, rfl, g0⟩, g1, g2⟩
      rotate_left
      · have hfin := hU.rdE g1 g2
        have HW : Why A.tb wc T a (Stop S R) := g0.imp (fun g0 => .inl (by rw [HR.out, symsF_end s win most _ _ f' _ rfl g0]; exact g0))
        clear g0 hMb
        go_wp2_with fail
        go_ret
        exact .inr ⟨⟨T, a, rfl, HW⟩, hfin.1, hPE.trans hfin.2⟩
      · have HSY : Hid _ := hsy
        have hmore : tp + 1 ≤ p2 := by
          have := symT_more s (codesT LA).cs ⟨tp, false⟩
          rw [hsy] at this
          rcases this with h | h
          · cases h
          · exact h
        have HLM : Hid _ := hlm
        clear hsy hlm
        have HLIT : Hid _ := litM_cases y
        obtain ⟨hU2, hP2⟩ := hU.rd p2 g1 g2
        have hT2 := hTw.pe hP2
        have hp2e := g1.end_le
        obtain ⟨m0, m1, m2⟩ := hMb.c
        clear t2o f2o hz0 hRo hRd o1 o2 tc0 c0 t2
        rcases HLIT.out with ⟨q1, q2⟩ | ⟨q1, q2⟩ | ⟨q1, q1', q2⟩ | ⟨q1, q2⟩
        all_goals rw [← HLM.out] at q2
        · subst q2
          have hto : (y : Int) = (((UInt8.ofNat y).toNat : Nat) : Int) := by simp; omega
          have HNX : Hid (R = symsF s win most (codesT LA).cs (codesT LB).cs f' (putT most (UInt8.ofNat y) ⟨⟨p2, false⟩, tout⟩)) := (by
            rw [HR.out, symsF_put s win most _ _ f' _ rfl (by rw [HSY.out]) (by rw [HSY.out]; exact q1), HSY.out] : _ = _)
          have hsing := single_int S A s win most ⟨⟨p2, false⟩, tout⟩ (UInt8.ofNat y) (y : Int) hto wc hP hU2 hm hw1 hw2
          have HPP : Hid ((putT most (UInt8.ofNat y) ⟨⟨p2, false⟩, tout⟩).st.pos = p2) := putT_pos most _ _
          clear hto
          go_wp2_with fail
          refine hsing.mono ?_
          rintro e w5 (⟨r1, rfl, r3, r4⟩ | ⟨⟨T, a, rfl, r1⟩, r3, r4⟩)
          · have HP5 : Hid (posIn w5 A.tb A.rb = p2) := (by have := posIn_of r3.facts.2.1; rw [this]; exact HPP.out : _ = _)
            go_wp2_with fail
            go_roundw
            case rel => exact ⟨f', _, HNX.out, by rw [HPP.out]; omega, r3, hPE.trans (hP2.trans r4)⟩
            case measure => rw [HP5.out, HPOS.out]; omega
          · have HW : Why A.tb w5 T a (Stop S R) := r1.imp (fun r1 => r1.mono (fun r1 => by rw [HNX.out, symsF_bad _ _ _ _ _ _ _ r1]; exact r1) (by rw [HNX.out]; exact symsF_pre s win most _ _ _ _))
            clear r1
            go_wp2_with fail
            go_ret
            exact .inr ⟨⟨T, a, rfl, HW⟩, r3, hPE.trans (hP2.trans r4)⟩
        · subst q2
          go_wp2_with fail
          go_ret
          refine .inl ⟨?_, rfl, ?_, hPE.trans hP2⟩
          · rw [HR.out, symsF_stop s win most _ _ f' _ rfl (by rw [HSY.out]) (by rw [HSY.out]; exact q1), HSY.out]
          · rw [HR.out, symsF_stop s win most _ _ f' _ rfl (by rw [HSY.out]) (by rw [HSY.out]; exact q1), HSY.out]; exact hU2
        · have HNX : Hid (R = if (matchT s win tout.length (codesT LB).cs y ⟨p2, false⟩).stop = true then againT s win most (codesT LB).cs y ⟨⟨p2, false⟩, tout⟩ else symsF s win most (codesT LA).cs (codesT LB).cs f' (againT s win most (codesT LB).cs y ⟨⟨p2, false⟩, tout⟩)) := (by
            rw [HR.out, symsF_again s win most _ _ f' _ rfl (by rw [HSY.out]) (by rw [HSY.out]; exact q1) (by rw [HSY.out]; exact q1'), HSY.out] : _ = _)
          have hag := again_any S A s win most kt y LA LB ⟨⟨p2, false⟩, tout⟩ wc hP hU2 hT2 hB hs hm hw1 hw2 q1 q1'
          rw [← HLM.out, q2] at hag
          have HGE : Hid (p2 ≤ (againT s win most (codesT LB).cs y ⟨⟨p2, false⟩, tout⟩).st.pos) := (by
            have h1 := matchT_ge s win tout.length (codesT LB).cs y ⟨p2, false⟩
            unfold againT
            split
            · exact h1
            · rw [cpL_pos]; exact h1 : _ ≤ _)
          subst q2
          go_wp2_with fail
          refine hag.mono ?_
          rintro e w5 (⟨r1, rfl, r3, r4⟩ | ⟨⟨T, a, rfl, r1⟩, r3, r4⟩)
          · have hns : ¬ (matchT s win tout.length (codesT LB).cs y ⟨p2, false⟩).stop = true := fun e => by
              have h1 := matchT_stop s win tout.length (codesT LB).cs y ⟨p2, false⟩ e
              have h2 := again_bad (most := most) (u := ⟨⟨p2, false⟩, tout⟩) h1
              rw [h2] at r1; cases r1
            have HN2 : Hid (R = symsF s win most (codesT LA).cs (codesT LB).cs f' (againT s win most (codesT LB).cs y ⟨⟨p2, false⟩, tout⟩)) := (by rw [HNX.out, if_neg hns] : _ = _)
            have hle := r3.facts.2.1.end_le
            have HP5 : Hid (posIn w5 A.tb A.rb = (againT s win most (codesT LB).cs y ⟨⟨p2, false⟩, tout⟩).st.pos) := posIn_of r3.facts.2.1
            clear hns
            go_wp2_with fail
            go_roundw
            case rel => exact ⟨f', _, HN2.out, by have := HGE.out; omega, r3, hPE.trans (hP2.trans r4)⟩
            case measure => rw [HP5.out, HPOS.out]; have := HGE.out; omega
          · have HW : Why A.tb w5 T a (Stop S R) := r1.imp (fun r1 => by
              rw [HNX.out]
              split
              · exact r1
              · exact r1.mono (fun r1 => by rw [symsF_bad _ _ _ _ _ _ _ r1]; exact r1) (symsF_pre s win most _ _ _ _))
            clear r1
            go_wp2_with fail
            go_ret
            exact .inr ⟨⟨T, a, rfl, HW⟩, r3, hPE.trans (hP2.trans r4)⟩
        · subst q2
          go_wp2_with fail
          refine (mal_any _ _).mono ?_
          rintro e w5 ⟨rfl, rfl⟩
          go_wp2_with fail
          go_ret
          refine .inr ⟨⟨_, _, rfl, Why.mal (.inl ?_)⟩, hU2.ue.alloc _, hPE.trans (hP2.trans (PE.alloc _ _ _ hU2.base))⟩
          rw [HR.out, symsF_none s win most _ _ f' _ rfl (by rw [HSY.out]) (by rw [HSY.out]; exact q1)]
end Go.Proofs.YtephkcdbnogdhaaGreatDoor.Pr
