/- The walk of the document's block of sort 0. -/
import Derived.Test.YtjfifmadldcjjaaGreatDoorRefPut
namespace Go.Proofs.YtjfifmadldcjjaaGreatDoor.RfW
open Go.RowKit Rf
theorem UIs.u0 {w : World} {base rb ub win most : Nat} {s : ByteArray} {u : US} (h : UIs w base rb ub s win most u) : w.cell? ⟨ub, 0, none⟩ = some (.pointer (some ⟨rb, 0, none⟩)) := by
  obtain ⟨_, _, _, _, _, _, v, h6, _⟩ := h; simp [World.cell?, h6]
theorem UIs.u2 {w : World} {base rb ub win most : Nat} {s : ByteArray} {u : US} (h : UIs w base rb ub s win most u) : w.cell? ⟨ub, 2, none⟩ = some (.int .i64 (win : Int)) := by
  obtain ⟨_, _, _, _, _, _, v, h6, _⟩ := h; simp [World.cell?, h6]
theorem UIs.drewN {w : World} {base rb ub win most : Nat} {s : ByteArray} {u : US} (h : UIs w base rb ub s win most u) (n : Nat) : UIs (w.drewN n) base rb ub s win most u := h
set_option maxRecDepth 10000 in
set_option maxHeartbeats 4000000 in
theorem stored_any (base rb ub : Nat) (s : ByteArray) (win most : Nat) (u : US) (w : World) (hU : UIs w base rb ub s win most u) (hs : s.size ≤ 140737488351232) (hm : most ≤ 16777216) :
    Calls Tryz.prog 26 #[.pointer (some ⟨ub, 0, none⟩)] w fun e w' => e = .returned (.tuple #[]) ∧ UIs w' base rb ub s win most (storedT s most u) ∧ Eff base rb ub w w' := by
  obtain ⟨⟨p, bad⟩, out⟩ := u
  go_enter Tryz.func26, Tryz.ntmps26
  go_wp2
  go_loopw [] (fun wr => ∃ q : Nat, p ≤ q ∧ q ≤ (p + 7) / 8 * 8 ∧ UIs wr base rb ub s win most ⟨⟨q, bad⟩, out⟩ ∧ Eff base rb ub w wr) (fun wr => 8 * s.size - (intOf ((wr.cell? ⟨rb, 1, none⟩).getD undef)).toNat)
  case atStart => exact ⟨p, Nat.le_refl _, by omega, hU, Eff.refl _ _ _ _⟩
  case round =>
    obtain ⟨q, hq1, hq2, hUq, hEq⟩ := hrel
    have hu0 := hUq.u0
    have hr1 := hUq.1.c1
    have hf1 := hUq.1.free 1
    have hq8 : q ≤ 8 * s.size := hUq.1.2
    by_cases hmod : q % 8 = 0
    · have ht : ((q : Int) % 8 != 0) = false := by rw [bne_eq_false_iff_eq]; omega
      have HA : Hid (alignT ⟨p, bad⟩ = ⟨q, bad⟩) := (by unfold alignT; rw [show (p + 7) / 8 * 8 = q by omega] : _ = _)
      clear hq1 hq2
      go_wp2_with fail
      refine (number_any rb s ⟨q, bad⟩ 16 _ rfl _ hUq.1 hs (by omega)).mono ?_
      rintro e w1 ⟨rfl, hR1, hO1⟩
      have hU1 := hUq.row hO1 _ hR1
      have hE1 := hEq.trans (hO1.eff (base := base) (ub := ub))
      have hb1 := numT_lt s 16 ⟨q, bad⟩
      have hv0 := hU1.u0
      clear hu0 hr1 hf1 hR1 hO1
      go_wp2_with fail
      refine (number_any rb s _ 16 _ rfl _ hU1.1 hs (by omega)).mono ?_
      rintro e w2 ⟨rfl, hR2, hO2⟩
      have hU2 := hU1.row hO2 _ hR2
      have hE2 := hE1.trans (hO2.eff (base := base) (ub := ub))
      have hb2 := numT_lt s 16 (numT s 16 ⟨q, bad⟩).2
      have HH : Hid (headT s ⟨p, bad⟩ = ((numT s 16 ⟨q, bad⟩).1, if (numT s 16 ⟨q, bad⟩).1 + (numT s 16 (numT s 16 ⟨q, bad⟩).2).1 = 65535 then (numT s 16 (numT s 16 ⟨q, bad⟩).2).2 else ⟨(numT s 16 (numT s 16 ⟨q, bad⟩).2).2.pos, true⟩)) := (by unfold headT; rw [HA.out] : _ = _)
      clear hv0 hR2 hO2 hU1 hE1
      generalize numT s 16 (numT s 16 ⟨q, bad⟩).2 = M at *
      generalize (numT s 16 ⟨q, bad⟩).1 = n at *
      obtain ⟨m, mst⟩ := M
      simp only at hU2 hb2
      have hv0 := hU2.u0
      have hg2 := hU2.1.free 2
      have hg3 := hU2.1.c2
      have hn16 : n < 65536 := hb1
      have hm16 : m < 65536 := hb2
      clear hb1 hb2
      go_upto_if 38 with fail
      go_cut [] (fun wx => UIs wx base rb ub s win most ⟨(headT s ⟨p, bad⟩).2, out⟩ ∧ Eff base rb ub w wx)
      case first =>
        by_cases hsum : n + m = 65535
        · have hc : ((n : Int) + (m : Int) != 65535) = false := by rw [bne_eq_false_iff_eq]; omega
          have HS : Hid ((headT s ⟨p, bad⟩).2 = mst) := (by rw [HH.out]; exact if_pos hsum : _ = _)
          clear hsum
          go_wp2
          go_meet
          case rel => exact ⟨by rw [HS.out]; exact hU2, hE2⟩
        · have hc : ((n : Int) + (m : Int) != 65535) = true := by rw [bne_iff_ne]; omega
          have HS : Hid ((headT s ⟨p, bad⟩).2 = ⟨mst.pos, true⟩) := (by rw [HH.out]; exact if_neg hsum : _ = _)
          clear hsum
          go_wp2
          go_meet
          case rel => exact ⟨by rw [HS.out]; exact hU2.row ((Only.refl rb w2).setCell 2 _) _ (hU2.1.set2 true), hE2.set rb 2 (.inl rfl) _⟩
      case rest =>
        obtain ⟨hU3, hE3⟩ := hcut
        have HN : Hid ((headT s ⟨p, bad⟩).1 = n) := (by rw [HH.out] : _ = _)
        clear hU2 hE2 hv0 hg2 hg3 HH HA
        have HT : Hid (storedT s most ⟨⟨p, bad⟩, out⟩ = stL s most n ⟨(headT s ⟨p, bad⟩).2, out⟩) := (by unfold storedT; rw [HN.out] : _ = _)
        generalize (headT s ⟨p, bad⟩).2 = h0 at *
        go_wp2
        go_loopw [4] (fun i wr => ∃ (k j : Nat) (t : US), k + j = n ∧ storedT s most ⟨⟨p, bad⟩, out⟩ = stL s most j t ∧ i = .int .i64 k ∧ UIs wr base rb ub s win most t ∧ Eff base rb ub w wr) (fun i _ => n - (intOf i).toNat)
        case atStart => exact ⟨0, n, _, by omega, HT.out, rfl, hU3, hE3⟩
        case round =>
          obtain ⟨k, j, t, hkj, hL, rfl, hUt, hEt⟩ := hrel
          have ht0 := hUt.u0
          have ht2 := hUt.1.c2
          obtain ⟨⟨tp, tb⟩, tout⟩ := t
          cases j with
          | zero =>
            have HL : Hid (storedT s most ⟨⟨p, bad⟩, out⟩ = ⟨⟨tp, tb⟩, tout⟩) := hL
            have hkn : ¬ k < n := by omega
            clear hL hkj
            go_wp2
            go_end0
            exact ⟨rfl, by rw [HL.out]; exact hUt, hEt⟩
          | succ j =>
            have hkn : k < n := by omega
            cases tb
            · have HL : Hid (storedT s most ⟨⟨p, bad⟩, out⟩ = stL s most j (putT most (UInt8.ofNat (numT s 8 ⟨tp, false⟩).1) ⟨(numT s 8 ⟨tp, false⟩).2, tout⟩) ∧ k + 1 + j = n) := (⟨hL.trans (stL_go s most j _ rfl), by omega⟩ : _ ∧ _)
              clear hL hkj
              go_wp2_with fail
              refine (number_any rb s ⟨tp, false⟩ 8 _ rfl _ hUt.1 hs (by omega)).mono ?_
              rintro e w4 ⟨rfl, hR4, hO4⟩
              have hU4 := hUt.row hO4 _ hR4
              have hE4 := hEt.trans (hO4.eff (base := base) (ub := ub))
              have hb4 := numT_lt s 8 ⟨tp, false⟩
              have hx : (((UInt8.ofNat (numT s 8 ⟨tp, false⟩).1).toNat : Nat) : Int) = (((numT s 8 ⟨tp, false⟩).1 : Nat) : Int) := by rw [UInt8.toNat_ofNat']; omega
              generalize numT s 8 ⟨tp, false⟩ = B at *
              obtain ⟨bv, bst⟩ := B
              have HX : Hid _ := hx
              have hbv : bv ≤ 255 := by simp at hb4; omega
              clear hx hb4 ht0 ht2
              go_wp2_with fail
              refine (put_int base rb ub s win most ⟨bst, tout⟩ (UInt8.ofNat bv) _ HX.out _ hU4 hm).mono ?_
              rintro e w5 ⟨rfl, hU5, hE5⟩
              go_wp2
              go_roundw
              case rel => exact ⟨k + 1, j, _, HL.out.2, HL.out.1, by go_num, hU5, hE4.trans hE5⟩
              case measure => simp [intOf]; omega
            · have HL : Hid (storedT s most ⟨⟨p, bad⟩, out⟩ = ⟨⟨tp, true⟩, tout⟩) := hL.trans (stL_bad s most _ _ rfl)
              clear hL hkj
              go_wp2
              go_end0
              exact ⟨rfl, by rw [HL.out]; exact hUt, hEt⟩
    · have ht : ((q : Int) % 8 != 0) = true := by rw [bne_iff_ne]; omega
      go_wp2
      go_roundw
      case rel => exact ⟨q + 1, by omega, by omega, hUq.row ((Only.refl rb wr).setCell 1 _) _ (hUq.1.set1 (q + 1) (by omega) _ (by go_num)), hEq.set rb 1 (.inl rfl) _⟩
      case measure => rw [World.cell?_setCell_same _ _ _ hr1, hr1]; simp [intOf]; omega
end Go.Proofs.YtjfifmadldcjjaaGreatDoor.RfW
