/- The walk of symbols. -/
import Derived.Test.YtjfifmadldcjjaaGreatDoorRTab
import Derived.Test.YtjfifmadldcjjaaGreatDoorStored
set_option linter.unusedVariables false
namespace Go.Proofs.YtjfifmadldcjjaaGreatDoor.Pr
open Go.RowKit Rf
/-- where the reader stands, as memory has it -/
def posIn (w : World) (rb : Nat) : Nat := (match w.cell? ⟨rb, 3, none⟩ with
  | some (.int _ n) => 8 * n.toNat
  | _ => 0) - heldIn w rb
theorem posIn_of {w : World} {tb rb : Nat} {s : ByteArray} {pos : Nat} (h : Rd w tb rb s pos) : posIn w rb = pos := by
  obtain ⟨c, hc, h⟩ := h
  have hh := heldIn_of h
  obtain ⟨t, h1, h2, h3, h4, h5⟩ := h
  have d3 : w.cell? ⟨rb, 3, none⟩ = some (.int .i64 (t : Int)) := by simpa using (cell_of h5 3).1
  unfold posIn
  rw [d3, hh]
  simp
  omega
theorem litM_cases (y : Nat) : (y < 256 ∧ litM y = (1, y, 0)) ∨ (y = 256 ∧ litM y = (2, 0, 0)) ∨ (257 ≤ y ∧ y ≤ 285 ∧ litM y = (3, lenT y)) ∨ (285 < y ∧ litM y = (0, 0, 0)) := by
  by_cases h1 : y < 256
  · exact .inl ⟨h1, by unfold litM; rw [if_pos h1]⟩
  · by_cases h2 : y = 256
    · exact .inr (.inl ⟨h2, by unfold litM; rw [if_neg h1, if_pos h2]⟩)
    · by_cases h3 : y ≤ 285
      · exact .inr (.inr (.inl ⟨by omega, h3, litM_len y (by omega) h3⟩))
      · exact .inr (.inr (.inr ⟨by omega, by unfold litM; rw [if_neg h1, if_neg h2, if_neg (by omega), if_neg (by omega), if_neg (by omega)]⟩))
set_option maxRecDepth 10000 in
set_option maxHeartbeats 16000000 in
theorem symbols_any (S : Sink) (A : Adr) (s : ByteArray) (win most kt : Nat) (LA LB : List Nat) (u : US) (w : World) (hS : S.Ok) (hP : PutOk S) (h : UP S w A s win most u) (hT : TabsIs w kt LA LB) (hA : Fit LA) (hB : Fit LB) (hs : s.size ≤ 140737488351232) (hm : most ≤ 16777216) (hw1 : 1 ≤ win) (hw2 : win ≤ 32768) :
    Calls Tryz.prog 71 #[.pointer (some ⟨A.ub, 0, none⟩), .pointer (some ⟨kt, 0, none⟩)] w fun e w' => Res S A s win most w (symsF s win most (codesT LA).cs (codesT LB).cs (8 * s.size + 1) u) e w' := by
  obtain ⟨R, hR0⟩ : ∃ R, R = symsF s win most (codesT LA).cs (codesT LB).cs (8 * s.size + 1) u := ⟨_, rfl⟩
  rw [← hR0]
  have HR0 : Hid _ := hR0
  clear hR0
  go_enter Tryz.func71, Tryz.ntmps71
  go_wp2_with fail
  go_loopw [6] (fun _ wr => ∃ (f : Nat) (t : US), R = symsF s win most (codesT LA).cs (codesT LB).cs f t ∧ 8 * s.size - t.st.pos < f ∧ UP S wr A s win most t ∧ PE A.base w wr) (fun _ wr => 8 * s.size - posIn wr A.rb)
  case atStart => exact ⟨8 * s.size + 1, u, HR0.out, by omega, h, PE.refl _ _⟩
  case round =>
    obtain ⟨f, t, hR, hf, hU, hPE⟩ := hrel
    have hbad := hU.facts.1
    obtain ⟨⟨tp, bad⟩, tout⟩ := t
    dsimp only at hbad hf
    subst hbad
    obtain ⟨f', hf'⟩ : ∃ f', f = f' + 1 := ⟨f - 1, by omega⟩
    subst hf'
    have HR : Hid _ := hR
    clear hR
    obtain ⟨ka, kb, t1, t2, t3⟩ := hT.pe hPE
    have hTw : TabsIs wr kt LA LB := hT.pe hPE
    obtain ⟨c0, _, _, _⟩ := hU.cells
    obtain ⟨_, f2, f3, f4, f5, f6⟩ := hU.facts
    dsimp only at f2 f3
    have HPOS : Hid (posIn wr A.rb = tp) := posIn_of f2
    have tc0 : wr.cell? ⟨kt, 0, none⟩ = some (.pointer (some ⟨ka, 0, none⟩)) := by simpa using (cell_of t1 0).1
    have o1 : ∀ o : Obj, (wr.alloc o).cell? ⟨kt, 0, none⟩ = some (.pointer (some ⟨ka, 0, none⟩)) := fun o => Er.cell_alloc tc0 o
    have o2 : ∀ o : Obj, (wr.alloc o).cell? ⟨A.ub, 0, none⟩ = some (.pointer (some ⟨A.rb, 0, none⟩)) := fun o => Er.cell_alloc c0 o
    have hb1 : wr.heap.size ≠ A.tb := by have := f2.lts; omega
    have hb2 : wr.heap.size ≠ A.rb := by have := f2.lts; omega
    have t2o : TabM (wr.alloc (.cells #[.int .u8 0, .int .i64 0, .int .u64 0] 149)).drew ka litM LA := t2.keep (w' := wr.alloc (.cells #[.int .u8 0, .int .i64 0, .int .u64 0] 149)) (fun b hb => alloc_old hb)
    have f2o : Rd (wr.alloc (.cells #[.int .u8 0, .int .i64 0, .int .u64 0] 149)).drew A.tb A.rb s tp := f2.alloc _
    have f4o : EndIs (wr.alloc (.cells #[.int .u8 0, .int .i64 0, .int .u64 0] 149)).drew A.eb := f4.alloc _
    have hz0 : (wr.alloc (.cells #[.int .u8 0, .int .i64 0, .int .u64 0] 149)).drew.heap[wr.heap.size]? = some (.cells #[.int .u8 0, .int .i64 0, .int .u64 0] 149 (0, 0)) := alloc_new wr _ _ rfl
    have hRo : RF A.tb A.rb wr (wr.alloc (.cells #[.int .u8 0, .int .i64 0, .int .u64 0] 149)).drew := ((RF.refl _ _ wr).alloc _).drew
    have hRd : RF A.tb A.rb wr wr.drew := (RF.refl _ _ wr).drew
    clear t1 t3
    rcases symT_cases s (codesT LA).cs ⟨tp, false⟩ with ⟨y, p2, hsy⟩ | hsy
    rotate_left
    · have HSY : Hid _ := hsy
      clear hsy
      go_upto_region 1 with fail
      go_cut [6] (fun v8 wx => (∃ a, v8 = .iface 62 (.pointer (some a))) ∧ RdE wx A.tb A.rb s ∧ RF A.tb A.rb wr wx)
      case first =>
        go_region_with (first
          | (go_at_call 75; refine (readM_no ka A.tb A.rb A.eb LA s tp (wr.alloc (.cells #[.int .u8 0, .int .i64 0, .int .u64 0] 149)).drew litM t2o f2o f4o hs hA.len hA.le hA.few f5 f6 HSY.out).mono ?_; rintro e w3 ⟨⟨a, rfl⟩, g1, g2⟩; obtain ⟨zz, z0, z1, z2, y0, y1, y2⟩ := zero_kept g2 hz0 hb1 hb2; replace g2 := hRo.trans g2)
          | (go_at_call 75; refine (readM_no ka A.tb A.rb A.eb LA s tp _ litM (by exact t2) (by exact f2) (by exact f4) hs hA.len hA.le hA.few f5 f6 HSY.out).mono ?_; rintro e w3 ⟨⟨a, rfl⟩, g1, g2⟩; replace g2 := hRd.trans g2))
        all_goals
          go_wp2_with fail
          go_meet
          case rel => first
            | exact ⟨⟨_, rfl⟩, g1.alloc _, g2.alloc _⟩
            | exact ⟨⟨_, rfl⟩, ((g1.setNew _ 0 _ hb1 hb2).setNew _ 1 _ hb1 hb2).setNew _ 2 _ hb1 hb2, ((g2.setNew _ 0 (Nat.le_refl _) _).setNew _ 1 (Nat.le_refl _) _).setNew _ 2 (Nat.le_refl _) _⟩
      case rest =>
        obtain ⟨⟨a, rfl⟩, g1, g2⟩ := hcut
        have hfin := hU.rdE g1 g2
        go_wp2_with fail
        go_ret
        refine .inr ⟨?_, ⟨a, rfl⟩, hfin.1, hPE.trans hfin.2⟩
        rw [HR.out, symsF_end s win most _ _ f' _ rfl HSY.out]; exact HSY.out
    · have HSY : Hid _ := hsy
      have hmore : tp + 1 ≤ p2 := by
        have := symT_more s (codesT LA).cs ⟨tp, false⟩
        rw [hsy] at this
        rcases this with h | h
        · cases h
        · exact h
      clear hsy
      have HLIT : Hid _ := litM_cases y
      generalize hlm : litM y = lm at *
      go_upto_region 1 with fail
      go_cut [5, 6] (fun v10 v8 wx => v8 = .nilIface ∧ ∃ b, v10 = .pointer (some ⟨b, 0, none⟩) ∧ MeanAt wx b lm ∧ Rd wx A.tb A.rb s p2 ∧ RF A.tb A.rb wr wx)
      case first =>
        go_region_with (first
          | (go_at_call 75; refine (readM_yes ka A.tb A.rb A.eb LA s tp y p2 (wr.alloc (.cells #[.int .u8 0, .int .i64 0, .int .u64 0] 149)).drew litM t2o f2o f4o hs hA.len hA.le hA.few f5 f6 HSY.out).mono ?_; rw [hlm]; rintro e w3 ⟨rfl, g1, g2⟩; obtain ⟨zz, z0, z1, z2, y0, y1, y2⟩ := zero_kept g2 hz0 hb1 hb2; replace g2 := hRo.trans g2)
          | (go_at_call 75; refine (readM_yes ka A.tb A.rb A.eb LA s tp y p2 _ litM (by exact t2) (by exact f2) (by exact f4) hs hA.len hA.le hA.few f5 f6 HSY.out).mono ?_; rw [hlm]; rintro e w3 ⟨rfl, g1, g2⟩; replace g2 := hRd.trans g2))
        all_goals
          go_wp2_with fail
          go_meet
          case rel => first
            | exact ⟨rfl, _, rfl, alloc_new w3 _ _ rfl, g1.alloc _, g2.alloc _⟩
            | exact ⟨rfl, _, rfl, (set_of (set_of (set_of zz 0 _) 1 _) 2 _).trans (by simp), ((g1.setNew _ 0 _ hb1 hb2).setNew _ 1 _ hb1 hb2).setNew _ 2 _ hb1 hb2, ((g2.setNew _ 0 (Nat.le_refl _) _).setNew _ 1 (Nat.le_refl _) _).setNew _ 2 (Nat.le_refl _) _⟩
      case rest =>
        obtain ⟨rfl, b, rfl, hMb, g1, g2⟩ := hcut
        obtain ⟨hU2, hP2⟩ := hU.rd hS p2 g1 g2
        have hT2 := hTw.pe hP2
        have hp2e := g1.end_le
        obtain ⟨m0, m1, m2⟩ := hMb.c
        clear t2o f2o f4o hz0 hRo hRd o1 o2 tc0 c0 t2
        rcases HLIT.out with ⟨q1, q2⟩ | ⟨q1, q2⟩ | ⟨q1, q1', q2⟩ | ⟨q1, q2⟩
        · subst q2
          have hto : (y : Int) = (((UInt8.ofNat y).toNat : Nat) : Int) := by simp; omega
          have HNX : Hid (R = symsF s win most (codesT LA).cs (codesT LB).cs f' (putT most (UInt8.ofNat y) ⟨⟨p2, false⟩, tout⟩)) := (by
            rw [HR.out, symsF_put s win most _ _ f' _ rfl (by rw [HSY.out]) (by rw [HSY.out]; exact q1), HSY.out] : _ = _)
          have hsing := single_int S A s win most ⟨⟨p2, false⟩, tout⟩ (UInt8.ofNat y) (y : Int) hto wc hS hP hU2 hm hw1 hw2
          have HPP : Hid ((putT most (UInt8.ofNat y) ⟨⟨p2, false⟩, tout⟩).st.pos = p2) := putT_pos most _ _
          clear hto
          go_wp2_with fail
          refine hsing.mono ?_
          rintro e w5 (⟨r1, rfl, r3, r4⟩ | ⟨r1, ⟨a, rfl⟩, r3, r4⟩)
          · have HP5 : Hid (posIn w5 A.rb = p2) := (by have := posIn_of r3.facts.2.1; rw [this]; exact HPP.out : _ = _)
            go_wp2_with fail
            go_roundw
            case rel => exact ⟨f', _, HNX.out, by rw [HPP.out]; omega, r3, hPE.trans (hP2.trans r4)⟩
            case measure => rw [HP5.out, HPOS.out]; omega
          · go_wp2_with fail
            go_ret
            refine .inr ⟨?_, ⟨a, rfl⟩, r3, hPE.trans (hP2.trans r4)⟩
            rw [HNX.out, symsF_bad _ _ _ _ _ _ _ r1]; exact r1
        · subst q2
          go_wp2_with fail
          go_ret
          refine .inl ⟨?_, rfl, ?_, hPE.trans hP2⟩
          · rw [HR.out, symsF_stop s win most _ _ f' _ rfl (by rw [HSY.out]) (by rw [HSY.out]; exact q1), HSY.out]
          · rw [HR.out, symsF_stop s win most _ _ f' _ rfl (by rw [HSY.out]) (by rw [HSY.out]; exact q1), HSY.out]; exact hU2
        · have HNX : Hid (R = if (matchT s win tout.length (codesT LB).cs y ⟨p2, false⟩).stop = true then againT s win most (codesT LB).cs y ⟨⟨p2, false⟩, tout⟩ else symsF s win most (codesT LA).cs (codesT LB).cs f' (againT s win most (codesT LB).cs y ⟨⟨p2, false⟩, tout⟩)) := (by
            rw [HR.out, symsF_again s win most _ _ f' _ rfl (by rw [HSY.out]) (by rw [HSY.out]; exact q1) (by rw [HSY.out]; exact q1'), HSY.out] : _ = _)
          have hag := again_any S A s win most kt y LA LB ⟨⟨p2, false⟩, tout⟩ wc hS hP hU2 hT2 hB hs hm hw1 hw2 q1 q1'
          rw [hlm, q2] at hag
          have HGE : Hid (p2 ≤ (againT s win most (codesT LB).cs y ⟨⟨p2, false⟩, tout⟩).st.pos) := (by
            have h1 := matchT_ge s win tout.length (codesT LB).cs y ⟨p2, false⟩
            unfold againT
            split
            · exact h1
            · rw [cpL_pos]; exact h1 : _ ≤ _)
          subst q2
          go_wp2_with fail
          refine hag.mono ?_
          rintro e w5 (⟨r1, rfl, r3, r4⟩ | ⟨r1, ⟨a, rfl⟩, r3, r4⟩)
          · have hns : ¬ (matchT s win tout.length (codesT LB).cs y ⟨p2, false⟩).stop = true := fun e => by
              have h1 := matchT_stop s win tout.length (codesT LB).cs y ⟨p2, false⟩ e
              have h2 := again_bad (most := most) (u := ⟨⟨p2, false⟩, tout⟩) h1
              rw [h2] at r1; cases r1
            have HN2 : Hid (R = symsF s win most (codesT LA).cs (codesT LB).cs f' (againT s win most (codesT LB).cs y ⟨⟨p2, false⟩, tout⟩)) := (by rw [HNX.out, if_neg hns] : _ = _)
            have hle := r3.facts.2.1.end_le
            have HP5 : Hid (posIn w5 A.rb = (againT s win most (codesT LB).cs y ⟨⟨p2, false⟩, tout⟩).st.pos) := posIn_of r3.facts.2.1
            clear hns
            go_wp2_with fail
            go_roundw
            case rel => exact ⟨f', _, HN2.out, by have := HGE.out; omega, r3, hPE.trans (hP2.trans r4)⟩
            case measure => rw [HP5.out, HPOS.out]; have := HGE.out; omega
          · go_wp2_with fail
            go_ret
            refine .inr ⟨?_, ⟨a, rfl⟩, r3, hPE.trans (hP2.trans r4)⟩
            rw [HNX.out]
            split
            · exact r1
            · rw [symsF_bad _ _ _ _ _ _ _ r1]; exact r1
        · subst q2
          go_wp2_with fail
          refine (mal_any _ _).mono ?_
          rintro e w5 ⟨rfl, rfl⟩
          go_wp2_with fail
          go_ret
          refine .inr ⟨?_, ⟨_, rfl⟩, hU2.ue.alloc _, hPE.trans (hP2.trans (PE.alloc _ _ _ hU2.base))⟩
          rw [HR.out, symsF_none s win most _ _ f' _ rfl (by rw [HSY.out]) (by rw [HSY.out]; exact q1)]
end Go.Proofs.YtjfifmadldcjjaaGreatDoor.Pr
