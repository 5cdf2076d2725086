/- The walk of readTables. -/
import Derived.Test.YtephkcdbnogdhaaGreatDoorMN
set_option linter.unusedVariables false
namespace Go.Proofs.YtephkcdbnogdhaaGreatDoor.Pr
open Go.RowKit Rf
theorem bytes_take {w : World} {base g N cap a : Nat} {L : List Nat} (h : w.ownsRow base 5 1 (.slice (some ⟨g, 0, none⟩) N cap) N (lenCells L)) (hl : L.length = N) (ha : a ≤ N) : BytesAt w g 0 (L.take a) := by
  intro i hi
  simp at hi
  rw [Nat.zero_add, h.cellAt i (by omega)]
  simp [lenCells, List.getD_eq_getElem?_getD, List.getElem?_take_of_lt (show i < a by omega), List.getElem?_eq_getElem (show i < L.length by omega)]
theorem bytes_drop {w : World} {base g N cap a : Nat} {L : List Nat} (h : w.ownsRow base 5 1 (.slice (some ⟨g, 0, none⟩) N cap) N (lenCells L)) (hl : L.length = N) (ha : a ≤ N) : BytesAt w g a (L.drop a) := by
  intro i hi
  simp at hi
  rw [h.cellAt (a + i) (by omega)]
  simp [lenCells, List.getD_eq_getElem?_getD, List.getElem?_drop, List.getElem?_eq_getElem (show a + i < L.length by omega)]
set_option maxRecDepth 10000 in
set_option maxHeartbeats 8000000 in
theorem rtab_any (tb : Src) (rb : Nat) (s : ByteArray) (pos : Nat) (w : World) (h : Rd w tb rb s pos) (hord : OrderIs w) (hs : s.size ≤ 140737488354000) (hg3 : ¬ tb.F 6) (hg4 : 6 ≠ rb) (hg5 : 6 < w.heap.size) :
    Calls Tryz.prog 173 #[.pointer (some ⟨rb, 0, none⟩)] w fun e w' =>
      (∃ LA LB p k, (∀ win most out, ownT s win most ⟨⟨pos, false⟩, out⟩ = symsF s win most (codesT LA).cs (codesT LB).cs (8 * s.size + 1) ⟨⟨p, false⟩, out⟩) ∧ Fit LA ∧ Fit LB ∧ LA.length ≤ 286 ∧ e = .returned (.tuple #[.pointer (some ⟨k, 0, none⟩), .nilIface]) ∧ TabsIs w' k LA LB ∧ Rd w' tb rb s p ∧ RF tb rb w w') ∨
      ((∃ T a, e = .returned (.tuple #[.pointer none, .iface T (.pointer (some a))]) ∧ Why tb w' T a (∀ win most out, (ownT s win most ⟨⟨pos, false⟩, out⟩).st.bad = true)) ∧ RdE w' tb rb s ∧ RF tb rb w w') := by
  go_enter Tryz.func173, Tryz.ntmps173
  go_wp2_with fail
  refine (counts_any tb rb s pos _ h hs).mono ?_
  rintro e w1 (⟨a, b, n, c1, c2, c3, c4, c5, c6, c7, rfl, c8, c9⟩ | ⟨⟨T, a, rfl, c1⟩, c3, c4⟩)
  rotate_left
  · go_wp2_with fail
    go_ret2
    exact .inr ⟨⟨T, a, rfl, c1.imp (fun c1 win most out => own_hdr s win most _ c1)⟩, c3, c4⟩
  have C1 : Hid _ := c1
  have hord1 : OrderIs w1 := hord.over (c9.block _ hg5 hg3 hg4)
  have hsm19 := smT_len s n ⟨pos + 14, false⟩
  have hsmle := smT_le s n ⟨pos + 14, false⟩
  clear c1
  go_wp2_with fail
  refine (ltab_any tb rb s (pos + 14) n _ c8 hord1 hs c7 hg3 hg4 (Nat.lt_of_lt_of_le hg5 c9.size)).mono ?_
  rintro e w2 (⟨k, p1, d1, d2, rfl, d3, d4, d5⟩ | ⟨⟨T, x, rfl, d1⟩, d3, d4⟩)
  rotate_left
  · go_wp2_with fail
    go_ret2
    exact .inr ⟨⟨T, x, rfl, d1.imp (fun d1 win most out => own_small s win most _ (by dsimp only; rw [C1.out]; exact d1))⟩, d3, c9.trans d4⟩
  have HLT : Hid (∀ a b, lensT s a b n ⟨pos + 14, false⟩ = lensF s (a + b) (codesT (smT s n ⟨pos + 14, false⟩).1).cs (a + b + 1) [] ⟨p1, false⟩) := fun a b => by
    have e1 : lensT s a b n ⟨pos + 14, false⟩ = lensF s (a + b) (codesT (smT s n ⟨pos + 14, false⟩).1).cs (a + b + 1) [] (smSt (codesT (smT s n ⟨pos + 14, false⟩).1).much (smT s n ⟨pos + 14, false⟩).2) := rfl
    rw [e1, codesT_muchL _ hsmle]
    unfold smSt
    rw [if_pos d2]
    have e2 := congrArg Prod.snd d1
    dsimp only at e2
    rw [e2]
  have hkN : kN (smT s n ⟨pos + 14, false⟩).1 16 ≤ 32768 := by rw [kN_much _ hsmle]; omega
  clear d1 d2
  generalize (smT s n ⟨pos + 14, false⟩).1 = SM at *
  have hab : (a : Int) + (b : Int) = ((a + b : Nat) : Int) := by omega
  have habl : a + b ≤ 320 := by omega
  obtain ⟨N, hN⟩ : ∃ N, N = a + b := ⟨_, rfl⟩
  rw [← hN] at hab habl
  have HN : Hid (N = a + b) := hN
  have haN : a ≤ N := by omega
  have hbN : N - a ≤ 30 := by omega
  clear hN
  go_wp2_with fail
  refine (lens_any tb rb k s p1 N SM _ d4 d3 hsm19 hsmle hkN hs habl).mono ?_
  rintro e w3 (⟨L, p2, g, cap, e1, e2, e3, rfl, e4, e5, e6⟩ | ⟨⟨T, x, rfl, e1⟩, e3, e4⟩)
  rotate_left
  · go_wp2_with fail
    go_ret2
    refine .inr ⟨⟨T, x, rfl, e1.imp (fun e1 win most out => ?_)⟩, e3, (c9.trans d5).trans e4⟩
    rw [ownT_is]
    dsimp only
    rw [C1.out]
    dsimp only
    refine finT_badly _ _ _ _ _ _ _ _ ?_
    rw [HLT.out a b, ← HN.out]
    exact e1
  have HO : Hid (∀ win most out, ownT s win most ⟨⟨pos, false⟩, out⟩ = finT s win most a b out L ⟨p2, false⟩) := fun win most out => by
    rw [ownT_is]
    dsimp only
    rw [C1.out]
    dsimp only
    rw [HLT.out a b, ← HN.out, e1]
  clear e1
  have hla : (L.take a).length = a := by simp; omega
  have hlb : (L.drop a).length = N - a := by simp; omega
  have hxa : ∀ x ∈ L.take a, x ≤ 15 := fun x hx => e3 x (List.mem_of_mem_take hx)
  have hxb : ∀ x ∈ L.drop a, x ≤ 15 := fun x hx => e3 x (List.mem_of_mem_drop hx)
  have hBa := bytes_take e4 e2 haN
  have hBb := bytes_drop e4 e2 haN
  have hgl := (e4.lt g rfl).2
  have hcap : N ≤ cap := by
    rcases e4.2 with ⟨h, _⟩ | ⟨g', cap', cur, h, _, _, h2, _⟩
    · cases h
    · injection h with _ _ h3; omega
  have hF3 := (c9.trans d5).trans e6
  have HW : Hid (wrongT a L = false ↔ okAB (L.take a) (L.drop a)) := wrong_iff a L (by omega) (by omega) e3
  have HN2 : Hid (L.length = a + b) := (by rw [e2]; exact HN.out : _ = _)
  clear e2 e4
  by_cases hok : okAB (L.take a) (L.drop a)
  · have hchk := check_ok g 0 cap g a (cap - a) (L.take a) (L.drop a) w3.drew (by exact hBa) (by omega) (by omega) hxa (by exact hBb) (by omega) hxb hok
    have hnt := newTables_any g 0 cap g a (cap - a) (L.take a) (L.drop a) w3.drew.drew (by exact hBa) (by exact hgl) (by omega) hxa (by exact hBb) (by exact hgl) (by omega) hxb
    rw [hla, hlb] at hchk hnt
    have hfA : Fit (L.take a) := ⟨by omega, hxa, fit_few _ hxa (by rcases hok.1 with h | h <;> omega), by omega⟩
    have hfB : Fit (L.drop a) := ⟨by omega, hxb, fit_few _ hxb hok.2.2, by omega⟩
    have HOK : Hid (wrongT a L = false) := HW.out.2 hok
    clear hok
    go_upto_region 10 with fail
    go_cut [10] (fun v wx => v = .nilIface ∧ wx = w3.drew)
    case first =>
      go_region_with ((go_at_call 204; refine hchk.mono ?_; rintro e wz ⟨rfl, rfl⟩))
      all_goals
        go_wp2_with fail
        go_meet
        case rel => exact ⟨rfl, rfl⟩
    case rest =>
      obtain ⟨rfl, rfl⟩ := hcut
      go_upto_region 13 with fail
      go_cut [2, 3] (fun v v3 wx => (∃ k, v = .pointer (some ⟨k, 0, none⟩) ∧ TabsIs wx k (L.take a) (L.drop a)) ∧ v3 = .nilIface ∧ Below w3.heap.size w3 wx)
      case first =>
        go_region_with ((go_at_call 197; refine hnt.mono ?_; rintro e wz ⟨⟨kk, rfl, t1, t2⟩, t3⟩))
        all_goals
          go_wp2_with fail
          go_meet
          case rel => exact ⟨⟨kk, rfl, t1⟩, rfl, ⟨t3.os, t3.tape, t3.output, t3.size, t3.block⟩⟩
      case rest =>
        obtain ⟨⟨kk, rfl, t1⟩, rfl, t3⟩ := hcut
        have hRd4 : Rd wc tb rb s p2 := e5.grow (fun k hk => t3.block k hk)
        have hF4 : RF tb rb w wc := hF3.trans ⟨t3.os, t3.tape, t3.output, t3.size, fun k hk _ _ => t3.block k hk⟩
        go_wp2_with fail
        go_ret2
        exact .inl ⟨L.take a, L.drop a, p2, kk, fun win most out => by rw [HO.out, finT_go s win most a b out L _ rfl HN2.out HOK.out], hfA, hfB, by omega, rfl, t1, hRd4, hF4⟩
  · have hchk := check_no g 0 cap g a (cap - a) (L.take a) (L.drop a) w3.drew (by exact hBa) (by omega) (by omega) hxa (by exact hBb) (by omega) hxb hok
    rw [hla, hlb] at hchk
    have HOK : Hid (wrongT a L = true) := (by
      cases hw : wrongT a L with
      | true => rfl
      | false => exact absurd (HW.out.1 hw) hok : _ = _)
    clear hok
    go_upto_region 10 with fail
    go_cut [10] (fun v wx => (∃ x, v = .iface 142 (.pointer (some x))) ∧ RdE wx tb rb s ∧ RF tb rb w wx)
    case first =>
      go_region_with ((go_at_call 204; refine hchk.mono ?_; rintro e wz ⟨⟨x, rfl⟩, o, rfl⟩))
      all_goals
        go_wp2_with fail
        go_meet
        case rel => exact ⟨⟨x, rfl⟩, RdE.alloc (RdE.drew e5.rdE) _, hF3.drew.alloc _⟩
    case rest =>
      obtain ⟨⟨x, rfl⟩, g1, g2⟩ := hcut
      go_wp2_with fail
      go_ret2
      exact .inr ⟨⟨_, x, rfl, Why.mal (fun win most out => by rw [HO.out, finT_wrong s win most a b out L _ rfl HN2.out HOK.out])⟩, g1, g2⟩
end Go.Proofs.YtephkcdbnogdhaaGreatDoor.Pr
