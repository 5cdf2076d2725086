/- The walk of the document's symbols up to 256. -/
import Derived.Test.YtephkcdbnogdhaaGreatDoorMA
import Derived.Test.YtephkcdbnogdhaaGreatDoorMB
set_option linter.unusedVariables false
namespace Go.Proofs.YtephkcdbnogdhaaGreatDoor.RfW
open Go.RowKit Rf
theorem eff_of_below {base rb ub : Nat} {w w' : World} (hb : base ≤ w.heap.size) (h : Below w.heap.size w w') : Eff base rb ub w w' :=
  ⟨h.os, h.tape, h.output, h.size, fun k hk _ _ => h.block k (by omega), fun k _ _ _ e _ _ _ => h.block k (Array.getElem?_eq_some_iff.1 e).1⟩
theorem UIs.below {w w' : World} {base rb ub win most : Nat} {s : ByteArray} {u : US} (h : UIs w base rb ub s win most u) (hb : Below w.heap.size w w') : UIs w' base rb ub s win most u := by
  obtain ⟨hR, h1, h2, h3, h4, h5, v, h6, h7⟩ := h
  refine ⟨hR.over (hb.block rb (by omega)), h1, h2, h3, Nat.le_trans h4 hb.size, h5, v, (hb.block ub (by omega)).trans h6, ?_⟩
  obtain ⟨a, b⟩ := h7
  refine ⟨a, ?_⟩
  rcases b with b | ⟨g, cap, cur, e1, e2, e3, r⟩
  · exact .inl b
  · exact .inr ⟨g, cap, cur, e1, e2, (hb.block g (lt_of_blk e3)).trans e3, r⟩
theorem UIs.ne {w : World} {base rb ub win most g : Nat} {s : ByteArray} {u : US} {cur : Array Value} {T : TypeId} (h : UIs w base rb ub s win most u) (e : w.heap[g]? = some (.cells cur T (0, 0))) (h1 : T ≠ 91) (h2 : T ≠ 93) : g ≠ rb ∧ g ≠ ub := by
  refine ⟨row_ne h.1 e h1, fun x => ?_⟩
  subst x
  obtain ⟨_, _, _, _, _, _, v, h6, _⟩ := h
  rw [e] at h6
  simp at h6
  exact h2 h6.2
theorem CodesAt.over {w w' : World} {v : Value} {cs : List (Nat × List UInt8)} (h : CodesAt w v cs) (e : ∀ (k : Nat) (cur : Array Value), w.heap[k]? = some (Obj.cells cur 254 (0, 0)) → w'.heap[k]? = w.heap[k]?) : CodesAt w' v cs := by
  rcases h with h | ⟨g, cap, cur, e1, e2, e3, r⟩
  · exact .inl h
  · exact .inr ⟨g, cap, cur, e1, e2, (e g cur e3).trans e3, r⟩
theorem CodesAt.below {w w' : World} {v : Value} {cs : List (Nat × List UInt8)} (h : CodesAt w v cs) (hb : Below w.heap.size w w') : CodesAt w' v cs := CodesAt.over h fun k _ e => hb.block k (lt_of_blk e)
theorem CodesAt.eff {w w' : World} {v : Value} {cs : List (Nat × List UInt8)} {base rb ub win most : Nat} {s : ByteArray} {u : US} (h : CodesAt w v cs) (hU : UIs w base rb ub s win most u) (hE : Eff base rb ub w w') : CodesAt w' v cs :=
  CodesAt.over h fun k cur e => have hn := hU.ne e (by decide) (by decide); hE.other k cur _ _ e (by decide) hn.1 hn.2
theorem IntsAt.over {w w' : World} {v : Value} {L : List Nat} (h : IntsAt w v L) (e : ∀ (k : Nat) (cur : Array Value), w.heap[k]? = some (Obj.cells cur 3 (0, 0)) → w'.heap[k]? = w.heap[k]?) : IntsAt w' v L := by
  obtain ⟨g, off, cap, cur, e1, e2, e3, r⟩ := h
  exact ⟨g, off, cap, cur, e1, e2, (e g cur e3).trans e3, r⟩
theorem IntsAt.below {w w' : World} {v : Value} {L : List Nat} (h : IntsAt w v L) (hb : Below w.heap.size w w') : IntsAt w' v L := IntsAt.over h fun k _ e => hb.block k (lt_of_blk e)
theorem IntsAt.eff {w w' : World} {v : Value} {L : List Nat} {base rb ub win most : Nat} {s : ByteArray} {u : US} (h : IntsAt w v L) (hU : UIs w base rb ub s win most u) (hE : Eff base rb ub w w') : IntsAt w' v L :=
  IntsAt.over h fun k cur e => have hn := hU.ne e (by decide) (by decide); hE.other k cur _ _ e (by decide) hn.1 hn.2
/-- a distance that is too great -/
def farSt (win len far : Nat) (st : RS) : RS := if win < far ∨ len < far then ⟨st.pos, true⟩ else st
theorem UIs.u1 {w : World} {base rb ub win most : Nat} {s : ByteArray} {u : US} (h : UIs w base rb ub s win most u) : ∃ ao cap, w.cell? ⟨ub, 1, none⟩ = some (.slice ao u.out.length cap) ∧
    (0 < u.out.length → ∃ g, ao = some ⟨g, 0, none⟩ ∧ u.out.length ≤ cap ∧ ∀ i, i < u.out.length → w.cell? ⟨g, i, none⟩ = some (.int .u8 (((u.out.getD i 0).toNat : Nat) : Int))) := by
  obtain ⟨_, _, _, _, _, _, v, h6, h7⟩ := h
  rcases h7.2 with ⟨rfl, e⟩ | ⟨g, cap, cur, rfl, _, hh, hc, _, _, htake⟩
  · exact ⟨none, 0, by simp [World.cell?, h6, e], fun h => by omega⟩
  · refine ⟨some ⟨g, 0, none⟩, cap, by simp [World.cell?, h6], fun _ => ⟨g, rfl, hc, fun i hi => ?_⟩⟩
    have e : (cur.toList.take (u.out.length * 1))[i]? = (byteCells u.out)[i]? := by rw [htake]
    rw [List.getElem?_take, if_pos (by omega), Array.getElem?_toList] at e
    rw [cell_of_block hh, e]
    simp [byteCells, List.getD, List.getElem?_eq_getElem hi]
theorem putT_len (most : Nat) (x : UInt8) (u : US) : u.out.length ≤ (putT most x u).out.length := by
  unfold putT; split
  · exact Nat.le_refl _
  · split
    · exact Nat.le_refl _
    · simp
theorem putT_st (most : Nat) (x : UInt8) (u : US) : (putT most x u).st.bad = true ∨ (putT most x u).st.pos = u.st.pos := by
  unfold putT; split
  · exact .inl rfl
  · split
    · exact .inr rfl
    · exact .inr rfl
/-- how much is left of the row; nothing where something is bad -/
def meas (w : World) (b N : Nat) : Nat := match w.cell? ⟨b, 2, none⟩ with
  | some (.bool true) => 0
  | _ => N - (intOf ((w.cell? ⟨b, 1, none⟩).getD undef)).toNat + 1
theorem meas_bad {w : World} {b N : Nat} {s : ByteArray} {st : RS} (h : RowIs w b s st) (hb : st.bad = true) : meas w b N = 0 := by
  unfold meas; rw [h.c2, hb]
theorem meas_go {w : World} {b N : Nat} {s : ByteArray} {st : RS} (h : RowIs w b s st) (hb : st.bad = false) : meas w b N = N - st.pos + 1 := by
  unfold meas; rw [h.c2, hb, h.c1]; simp [intOf]
theorem meas_lt {w w' : World} {b : Nat} {s : ByteArray} {st st' : RS} (h : RowIs w b s st) (hb : st.bad = false) (h' : RowIs w' b s st') (hm : st'.bad = true ∨ st.pos + 1 ≤ st'.pos) : meas w' b (8 * s.size) < meas w b (8 * s.size) := by
  rw [meas_go h hb]
  have := h.2
  have := h'.2
  cases hb' : st'.bad with
  | true => rw [meas_bad h' hb']; omega
  | false =>
    rw [meas_go h' hb']
    rcases hm with hm | hm
    · rw [hb'] at hm; cases hm
    · omega
set_option maxRecDepth 10000 in
set_option maxHeartbeats 8000000 in
theorem symbols_at (base rb ub : Nat) (s : ByteArray) (win most : Nat) (u : US) (La Lb : List Nat) (A B : List (Nat × List UInt8)) (hA : A = (codesT La).cs) (hB : B = (codesT Lb).cs) (v1 v2 : Value) (w : World) (hU : UIs w base rb ub s win most u) (hs : s.size ≤ 140737488351232) (hm : most ≤ 16777216) (hwin : win ≤ 32768)
    (h1 : IntsAt w v1 La) (h2 : IntsAt w v2 Lb) (ha : La.length ≤ 400) (hb : Lb.length ≤ 400) (ha15 : ∀ i, La.getD i 0 ≤ 15) (hb15 : ∀ i, Lb.getD i 0 ≤ 15) :
    Calls Tryz.prog 81 #[.pointer (some ⟨ub, 0, none⟩), v1, v2] w fun e w' => e = .returned (.tuple #[]) ∧ UIs w' base rb ub s win most (symsF s win most A B (8 * s.size + 1) u) ∧ Eff base rb ub w w' := by
  go_enter Tryz.func81, Tryz.ntmps81
  go_wp2_with fail
  refine (codes_any La v1 _ h1 ha ha15).mono ?_
  rintro e w1 ⟨va, rfl, hCa, hB1⟩
  have hU1 := hU.below hB1
  have hE1 := eff_of_below (rb := rb) (ub := ub) hU.2.2.2.2.1 hB1
  have h2' := IntsAt.below h2 hB1
  go_wp2_with fail
  refine (codes_any Lb v2 _ h2' hb hb15).mono ?_
  rintro e w2 ⟨vb, rfl, hCb, hB2⟩
  have hU2 := hU1.below hB2
  have hE2 := hE1.trans (eff_of_below (rb := rb) (ub := ub) hU1.2.2.2.2.1 hB2)
  have hCa2 := CodesAt.below hCa hB2
  have hv0 := hU2.u0
  have hla := codesT_len La ha
  have hlb := codesT_len Lb hb
  rw [← hA] at hCa2 hla
  rw [← hB] at hCb hlb
  clear hA hB
  clear hCa hB1 hB2 hE1 hU1 h1 h2 h2'
  go_wp2_with fail
  go_loopw [] (fun wr => ∃ (f : Nat) (t : US), symsF s win most A B (8 * s.size + 1) u = symsF s win most A B f t ∧ (t.st.bad = true ∨ 8 * s.size - t.st.pos < f) ∧ UIs wr base rb ub s win most t ∧ Eff base rb ub w wr ∧ CodesAt wr va A ∧ CodesAt wr vb B) (fun wr => meas wr rb (8 * s.size))
  case atStart => exact ⟨8 * s.size + 1, u, rfl, .inr (by omega), hU2, hE2, hCa2, hCb⟩
  case round =>
    obtain ⟨f, t, hF, hfu, hUt, hEt, hCat, hCbt⟩ := hrel
    have hc2 := hUt.1.c2
    obtain ⟨⟨tp, tb⟩, tout⟩ := t
    cases tb
    · have hfu' : 8 * s.size - tp < f := by simpa using hfu
      obtain ⟨f, rfl⟩ : ∃ g, f = g + 1 := ⟨f - 1, by omega⟩
      have HF : Hid _ := hF
      have htl : tout.length ≤ most := hUt.2.2.2.2.2.1
      clear hF hfu
      go_wp2_with fail
      refine (symbol_any rb s ⟨tp, false⟩ A va _ hUt.1 hs hCat hla).mono ?_
      rintro e w3 ⟨rfl, hR3, hO3⟩
      have hU3 := hUt.row hO3 _ hR3
      have hE3 := hEt.trans (hO3.eff (base := base) (ub := ub))
      have hCa3 := CodesAt.eff hCat hUt (hO3.eff (base := base) (ub := ub))
      have hCb3 := CodesAt.eff hCbt hUt (hO3.eff (base := base) (ub := ub))
      have hmo := symT_more s A ⟨tp, false⟩
      have HE : Hid ((symT s A ⟨tp, false⟩).2.bad = true → symsF s win most A B (8 * s.size + 1) u = ⟨(symT s A ⟨tp, false⟩).2, tout⟩) := fun h => HF.out.trans (symsF_end s win most A B f ⟨⟨tp, false⟩, tout⟩ rfl h)
      have HP : Hid ((symT s A ⟨tp, false⟩).2.bad = false → (symT s A ⟨tp, false⟩).1 < 256 → symsF s win most A B (8 * s.size + 1) u = symsF s win most A B f (putT most (UInt8.ofNat (symT s A ⟨tp, false⟩).1) ⟨(symT s A ⟨tp, false⟩).2, tout⟩)) := fun h h' => HF.out.trans (symsF_put s win most A B f ⟨⟨tp, false⟩, tout⟩ rfl h h')
      have HS : Hid ((symT s A ⟨tp, false⟩).2.bad = false → (symT s A ⟨tp, false⟩).1 = 256 → symsF s win most A B (8 * s.size + 1) u = ⟨(symT s A ⟨tp, false⟩).2, tout⟩) := fun h h' => HF.out.trans (symsF_stop s win most A B f ⟨⟨tp, false⟩, tout⟩ rfl h h')
      have HN : Hid ((symT s A ⟨tp, false⟩).2.bad = false → 285 < (symT s A ⟨tp, false⟩).1 → symsF s win most A B (8 * s.size + 1) u = ⟨⟨(symT s A ⟨tp, false⟩).2.pos, true⟩, tout⟩) := fun h h' => HF.out.trans (symsF_none s win most A B f ⟨⟨tp, false⟩, tout⟩ rfl h h')
      have HX : Hid ((symT s A ⟨tp, false⟩).2.bad = false → 257 ≤ (symT s A ⟨tp, false⟩).1 → (symT s A ⟨tp, false⟩).1 ≤ 285 → (matchT s win tout.length B (symT s A ⟨tp, false⟩).1 (symT s A ⟨tp, false⟩).2).stop = true → symsF s win most A B (8 * s.size + 1) u = ⟨(matchT s win tout.length B (symT s A ⟨tp, false⟩).1 (symT s A ⟨tp, false⟩).2).st, tout⟩) := fun h h' h'' g => HF.out.trans (symsF_far s win most A B f ⟨⟨tp, false⟩, tout⟩ rfl h h' h'' g)
      have HC : Hid ((symT s A ⟨tp, false⟩).2.bad = false → 257 ≤ (symT s A ⟨tp, false⟩).1 → (symT s A ⟨tp, false⟩).1 ≤ 285 → (matchT s win tout.length B (symT s A ⟨tp, false⟩).1 (symT s A ⟨tp, false⟩).2).stop = false → symsF s win most A B (8 * s.size + 1) u = symsF s win most A B f (cpL most (matchT s win tout.length B (symT s A ⟨tp, false⟩).1 (symT s A ⟨tp, false⟩).2).far (matchT s win tout.length B (symT s A ⟨tp, false⟩).1 (symT s A ⟨tp, false⟩).2).n ⟨(matchT s win tout.length B (symT s A ⟨tp, false⟩).1 (symT s A ⟨tp, false⟩).2).st, tout⟩)) := fun h h' h'' g => HF.out.trans (symsF_copy s win most A B f ⟨⟨tp, false⟩, tout⟩ rfl h h' h'' g)
      generalize symT s A ⟨tp, false⟩ = z at *
      obtain ⟨y, zp, zb⟩ := z
      have hd2 := hR3.c2
      have hg2 := hR3.free 2
      clear hc2 hR3 HF
      cases zb
      · have hzp : zp ≤ 8 * s.size := hU3.1.2
        have hmo2 : tp + 1 ≤ zp := by simpa using hmo
        clear HE hmo
        by_cases hy1 : y < 256
        · have HX2 : Hid (((UInt8.ofNat y).toNat : Nat) = ((y : Nat) : Int)) := (by rw [UInt8.toNat_ofNat']; omega : _ = _)
          have HP2 : Hid _ := HP.out (by first | rfl | trivial) hy1
          clear HP HS HN HX HC
          go_wp2_with fail
          refine (put_int base rb ub s win most ⟨⟨zp, false⟩, tout⟩ (UInt8.ofNat y) _ HX2.out _ hU3 hm).mono ?_
          rintro e w4 ⟨rfl, hU4, hE4⟩
          have hps := putT_st most (UInt8.ofNat y) ⟨⟨zp, false⟩, tout⟩
          have hCa4 := CodesAt.eff hCa3 hU3 hE4
          have hCb4 := CodesAt.eff hCb3 hU3 hE4
          generalize putT most (UInt8.ofNat y) ⟨⟨zp, false⟩, tout⟩ = P at *
          go_wp2
          go_roundw
          case rel => exact ⟨f, P, HP2.out, hps.imp id (fun h => by rw [h]; show 8 * s.size - zp < f; omega), hU4, hE3.trans hE4, hCa4, hCb4⟩
          case measure => exact meas_lt hUt.1 rfl hU4.1 (hps.imp id (fun h => by rw [h]; exact hmo2))
        · by_cases hy2 : y = 256
          · subst hy2
            have HS2 : Hid _ := HS.out (by first | rfl | trivial) rfl
            clear HP HS HN HX HC
            go_wp2
            refine bodyPost_ret (results_none rfl _ _ _) rfl ?_
            exact ⟨rfl, by rw [HS2.out]; exact hU3, hE3⟩
          · have hy2b : ((y : Int) == 256) = false := by rw [beq_eq_false_iff_ne]; omega
            by_cases hy3 : 285 < y
            · have HN2 : Hid _ := HN.out (by first | rfl | trivial) hy3
              have hU4 := hU3.row ((Only.refl rb w3).setCell 2 (.bool true)) _ (hU3.1.set2 true)
              have hE4 : Eff base rb ub w3 (w3.setCell ⟨rb, 2, none⟩ (.bool true)) := (Eff.refl base rb ub w3).set rb 2 (.inl rfl) _
              have hCa4 := CodesAt.eff hCa3 hU3 hE4
              have hCb4 := CodesAt.eff hCb3 hU3 hE4
              clear HP HS HN HX HC
              go_wp2
              go_roundw
              case rel => exact ⟨f, ⟨⟨zp, true⟩, tout⟩, by rw [HN2.out, symsF_bad _ _ _ _ _ _ _ rfl], .inl rfl, hU4, hE3.trans hE4, hCa4, hCb4⟩
              case measure => exact meas_lt hUt.1 rfl hU4.1 (.inl rfl)
            · have HX2 : Hid _ := HX.out (by first | rfl | trivial) (by omega) (by omega)
              have HC2 : Hid _ := HC.out (by first | rfl | trivial) (by omega) (by omega)
              clear HP HS HN HX HC
              have hLb := lenT_le y (by omega) (by omega)
              go_wp2_with fail
              refine (length_any y _ (by omega) (by omega)).mono ?_
              rintro e wl ⟨rfl, rfl⟩
              go_wp2_with fail
              refine (number_any rb s ⟨zp, false⟩ (lenT y).2 _ rfl _ hU3.1 hs (by omega)).mono ?_
              rintro e w4 ⟨rfl, hR4, hO4⟩
              have hU4 := hU3.row hO4 _ hR4
              have hE4' : Eff base rb ub _ w4 := hO4.eff (base := base) (ub := ub)
              have hCa4 := CodesAt.eff hCa3 hU3 hE4'
              have hCb4 := CodesAt.eff hCb3 hU3 hE4'
              have hE4 := hE3.trans hE4'
              have hx1 := numT_lt s (lenT y).2 ⟨zp, false⟩
              have hx1b : (numT s (lenT y).2 ⟨zp, false⟩).1 < 64 := Nat.lt_of_lt_of_le hx1 (pw_le _ 6 hLb.2)
              have hge4 := numT_ge s (lenT y).2 ⟨zp, false⟩
              clear hx1 hE4' hO4 hR4 hd2 hg2
              go_wp2_with fail
              refine (symbol_any rb s _ B vb _ hU4.1 hs hCb4 hlb).mono ?_
              rintro e w5 ⟨rfl, hR5, hO5⟩
              have hU5 := hU4.row hO5 _ hR5
              have hE5' : Eff base rb ub _ w5 := hO5.eff (base := base) (ub := ub)
              have hCa5 := CodesAt.eff hCa4 hU4 hE5'
              have hCb5 := CodesAt.eff hCb4 hU4 hE5'
              have hE5 := hE4.trans hE5'
              have hge5 := symT_ge s B (numT s (lenT y).2 ⟨zp, false⟩).2
              have HM1 : Hid _ := matchT_far s win tout.length B y ⟨zp, false⟩
              have HM2 : Hid _ := matchT_go s win tout.length B y ⟨zp, false⟩
              clear hE5' hO5 hR5 hU4 hE4 hCa4 hCb4
              generalize symT s B (numT s (lenT y).2 ⟨zp, false⟩).2 = D at *
              generalize numT s (lenT y).2 ⟨zp, false⟩ = X1 at *
              obtain ⟨d, dst⟩ := D
              obtain ⟨x1, x1st⟩ := X1
              have hg5 := hU5.1.free 2
              have hc5 := hU5.1.c2
              generalize (lenT y).1 = n0 at *
              have hn0 : n0 ≤ 2000 := hLb.1
              have hx1c : x1 < 64 := hx1b
              clear hLb hx1b
              by_cases hd : 29 < d
              · have HM3 : Hid _ := HM1.out hd
                have HX3 : Hid (symsF s win most A B (8 * s.size + 1) u = ⟨⟨dst.pos, true⟩, tout⟩) := (by rw [HX2.out (by rw [HM3.out]), HM3.out] : _ = _)
                clear HX2 HC2 HM1 HM2 HM3
                go_wp2
                refine bodyPost_ret (results_none rfl _ _ _) rfl ?_
                exact ⟨rfl, by rw [HX3.out]; exact hU5.row ((Only.refl rb w5).setCell 2 _) _ (hU5.1.set2 true), hE5.set rb 2 (.inl rfl) _⟩
              · have HM3 : Hid _ := HM2.out hd
                have hDb := distT_le d (by omega)
                clear HX2 HM1 HM2
                go_wp2_with fail
                refine (distance_any d _ (by omega)).mono ?_
                rintro e wd ⟨rfl, rfl⟩
                go_wp2_with fail
                refine (number_any rb s dst (distT d).2 _ rfl _ hU5.1 hs (by omega)).mono ?_
                rintro e w6 ⟨rfl, hR6, hO6⟩
                have hU6 := hU5.row hO6 _ hR6
                have hE6' : Eff base rb ub _ w6 := hO6.eff (base := base) (ub := ub)
                have hCa6 := CodesAt.eff hCa5 hU5 hE6'
                have hCb6 := CodesAt.eff hCb5 hU5 hE6'
                have hE6 := hE5.trans hE6'
                have hx2 := numT_lt s (distT d).2 dst
                have hx2b : (numT s (distT d).2 dst).1 < 8192 := Nat.lt_of_lt_of_le hx2 (pw_le _ 13 hDb.2.2)
                have hge6 := numT_ge s (distT d).2 dst
                have HC3 : Hid _ := HC2.out (by rw [HM3.out])
                clear hx2 hE6' hO6 hR6 hg5 hc5 hU5 hE5 hCa5 hCb5 HC2
                generalize numT s (distT d).2 dst = X2 at *
                obtain ⟨x2, x2st⟩ := X2
                generalize (distT d).1 = f0 at *
                have hf0a : 1 ≤ f0 := hDb.1
                have hf0b : f0 ≤ 245761 := hDb.2.1
                have hx2c : x2 < 8192 := hx2b
                have hp6 : zp ≤ x2st.pos := Nat.le_trans (Nat.le_trans hge4 hge5) hge6
                clear hDb hx2b hge4 hge5 hge6
                obtain ⟨ao, cap, hu1, _⟩ := hU6.u1
                have hu2 := hU6.u2
                have hg6 := hU6.1.free 2
                have hc6 := hU6.1.c2
                have hwn : (win : Int) ≤ 32768 := by omega
                have htl2 : (tout.length : Int) ≤ 16777216 := by omega
                obtain ⟨fb, hfb⟩ : ∃ fb : Bool, fb = decide (win < f0 + x2 ∨ tout.length < f0 + x2) := ⟨_, rfl⟩
                have HFB : Hid _ := hfb
                clear hfb
                go_upto_region 12 with fail
                go_cut [82] (fun v wx => v = .bool fb ∧ wx = w6)
                case first =>
                  by_cases hfw : win < f0 + x2
                  · go_wp2
                    go_meet
                    case rel => exact ⟨by rw [HFB.out]; exact congrArg Value.bool (by rw [Bool.eq_iff_iff]; simp; omega), rfl⟩
                  · by_cases hfl : tout.length < f0 + x2
                    · go_wp2
                      go_meet
                      case rel => exact ⟨by rw [HFB.out]; exact congrArg Value.bool (by rw [Bool.eq_iff_iff]; simp; omega), rfl⟩
                    · go_wp2
                      go_meet
                      case rel => exact ⟨by rw [HFB.out]; exact congrArg Value.bool (by rw [Bool.eq_iff_iff]; simp; omega), rfl⟩
                case rest =>
                 obtain ⟨rfl, hw6⟩ := hcut
                 have hw6 := hw6.symm
                 subst hw6
                 go_upto_if 82 with fail
                 go_cut [] (fun wx => UIs wx base rb ub s win most ⟨farSt win tout.length (f0 + x2) x2st, tout⟩ ∧ Eff base rb ub w wx ∧ CodesAt wx va A ∧ CodesAt wx vb B)
                 case first =>
                  cases fb
                  · have HI : Hid (farSt win tout.length (f0 + x2) x2st = x2st) := if_neg (of_decide_eq_false HFB.out.symm)
                    go_wp2
                    go_meet
                    case rel => exact ⟨by rw [HI.out]; exact hU6, hE6, hCa6, hCb6⟩
                  · have HI : Hid (farSt win tout.length (f0 + x2) x2st = ⟨x2st.pos, true⟩) := if_pos (of_decide_eq_true HFB.out.symm)
                    have hE7 : Eff base rb ub w6 (w6.setCell ⟨rb, 2, none⟩ (.bool true)) := (Eff.refl base rb ub w6).set rb 2 (.inl rfl) _
                    go_wp2
                    go_meet
                    case rel => exact ⟨by rw [HI.out]; exact hU6.row ((Only.refl rb w6).setCell 2 _) _ (hU6.1.set2 true), hE6.trans hE7, CodesAt.eff hCa6 hU6 hE7, CodesAt.eff hCb6 hU6 hE7⟩
                 case rest =>
                  obtain ⟨hU7, hE7, hCa7, hCb7⟩ := hcut
                  have HC4 : Hid (symsF s win most A B (8 * s.size + 1) u = symsF s win most A B f (cpL most (f0 + x2) (n0 + x1) ⟨farSt win tout.length (f0 + x2) x2st, tout⟩)) := (by rw [HC3.out, HM3.out]; rfl : _ = _)
                  have HF7 : Hid ((farSt win tout.length (f0 + x2) x2st).bad = true ∨ f0 + x2 ≤ tout.length) := (by
                    by_cases h : win < f0 + x2 ∨ tout.length < f0 + x2
                    · unfold farSt; rw [if_pos h]; exact .inl rfl
                    · exact .inr (by omega) : _ ∨ _)
                  have HP7 : Hid (zp ≤ (farSt win tout.length (f0 + x2) x2st).pos) := (by unfold farSt; split <;> exact hp6 : _ ≤ _)
                  clear HC3 HM3 hu1 hu2 hg6 hc6 hU6 hE6 hCa6 hCb6 hp6
                  generalize (farSt win tout.length (f0 + x2) x2st) = st7 at *
                  go_wp2_with fail
                  go_loopw [17] (fun i wr => ∃ (k j : Nat) (t : US), k + j = n0 + x1 ∧ cpL most (f0 + x2) (n0 + x1) ⟨st7, tout⟩ = cpL most (f0 + x2) j t ∧ (t.st.bad = true ∨ f0 + x2 ≤ t.out.length) ∧ (t.st.bad = true ∨ zp ≤ t.st.pos) ∧ i = .int .i64 k ∧ UIs wr base rb ub s win most t ∧ Eff base rb ub w wr ∧ CodesAt wr va A ∧ CodesAt wr vb B) (fun i _ => n0 + x1 - (intOf i).toNat)
                  case atStart => exact ⟨0, n0 + x1, ⟨st7, tout⟩, by omega, rfl, HF7.out, .inr HP7.out, rfl, hU7, hE7, hCa7, hCb7⟩
                  case round =>
                    obtain ⟨k, j, t, hkj, hL, hft, hpt, rfl, hUc, hEc, hCac, hCbc⟩ := hrel
                    have hcc2 := hUc.1.c2
                    have hpos : t.st.pos ≤ 8 * s.size := hUc.1.2
                    have hkb : k ≤ n0 + x1 := by omega
                    obtain ⟨⟨cp, cb⟩, cout⟩ := t
                    cases j with
                    | zero =>
                      have HL : Hid (cpL most (f0 + x2) (n0 + x1) ⟨st7, tout⟩ = ⟨⟨cp, cb⟩, cout⟩) := hL
                      have hkn : ¬ (k : Int) < (n0 : Int) + (x1 : Int) := by omega
                      have HPT : Hid _ := hpt
                      have HFU : Hid (cb = true ∨ 8 * s.size - cp < f) := hpt.imp id (fun h => by simp at h hpos; omega)
                      clear hL hkj hft hpt
                      go_wp2
                      go_roundw
                      case rel => exact ⟨f, ⟨⟨cp, cb⟩, cout⟩, by rw [HC4.out, HL.out], HFU.out, hUc, hEc, hCac, hCbc⟩
                      case measure => exact meas_lt hUt.1 rfl hUc.1 (HPT.out.imp id (fun h => by simp at h; show tp + 1 ≤ cp; omega))
                    | succ j =>
                      have hkn : (k : Int) < (n0 : Int) + (x1 : Int) := by omega
                      cases cb
                      · have hfl : f0 + x2 ≤ cout.length := by simpa using hft
                        have hzc : zp ≤ cp := by simpa using hpt
                        obtain ⟨ao, cap, hq1, hq2⟩ := hUc.u1
                        obtain ⟨g, rfl, hcap, hcel⟩ := hq2 (by show 0 < cout.length; omega)
                        have hcl : cout.length ≤ most := hUc.2.2.2.2.2.1
                        obtain ⟨m, hm0⟩ : ∃ m, m = cout.length - (f0 + x2) := ⟨_, rfl⟩
                        have hm1 : m < cout.length := by omega
                        have hcell := hcel m hm1
                        have HL : Hid (cpL most (f0 + x2) (n0 + x1) ⟨st7, tout⟩ = cpL most (f0 + x2) j (putT most (cout.getD m 0) ⟨⟨cp, false⟩, cout⟩) ∧ k + 1 + j = n0 + x1) := (⟨by rw [hL, cpL_go _ _ _ _ rfl, hm0], by omega⟩ : _ ∧ _)
                        have hwi : IntKind.i64.wrap ((cout.length : Int) - ((f0 : Int) + (x2 : Int))) = (m : Int) := by rw [IntKind.wrap_i64]; omega
                        clear hL hkj hft hpt hcel hm0 hq2
                        go_wp2_with fail
                        have hps := putT_st most (cout.getD m 0) ⟨⟨cp, false⟩, cout⟩
                        have hpl := putT_len most (cout.getD m 0) ⟨⟨cp, false⟩, cout⟩
                        have HPP : Hid ((putT most (cout.getD m 0) ⟨⟨cp, false⟩, cout⟩).st.bad = true ∨ zp ≤ (putT most (cout.getD m 0) ⟨⟨cp, false⟩, cout⟩).st.pos) := hps.imp id (fun h => by rw [h]; exact hzc)
                        have HPL : Hid ((putT most (cout.getD m 0) ⟨⟨cp, false⟩, cout⟩).st.bad = true ∨ f0 + x2 ≤ (putT most (cout.getD m 0) ⟨⟨cp, false⟩, cout⟩).out.length) := .inr (Nat.le_trans hfl hpl)
                        clear hps hpl
                        go_region_with (go_at_call 115; refine (put_int base rb ub s win most ⟨⟨cp, false⟩, cout⟩ (cout.getD m 0) _ (by simp [List.getD, List.getElem?_eq_getElem hm1]) _ (by exact hUc) hm).mono ?_; rintro e wz ⟨rfl, hUd, hEd⟩)
                        all_goals
                          have hEd' : Eff base rb ub wr wz := ⟨hEd.os, hEd.tape, hEd.output, hEd.size, hEd.low, hEd.other⟩
                          have hCad := CodesAt.eff hCac hUc hEd'
                          have hCbd := CodesAt.eff hCbc hUc hEd'
                          go_wp2
                          go_roundw
                          case rel => exact ⟨k + 1, j, _, HL.out.2, HL.out.1, HPL.out, HPP.out, by go_num, hUd, hEc.trans hEd', hCad, hCbd⟩
                          case measure => simp [intOf]; omega
                      · have HL : Hid (cpL most (f0 + x2) (n0 + x1) ⟨st7, tout⟩ = ⟨⟨cp, true⟩, cout⟩) := hL.trans (cpL_bad _ _ _ _ rfl)
                        clear hL hkj hft hpt
                        go_wp2
                        go_roundw
                        case rel => exact ⟨f, ⟨⟨cp, true⟩, cout⟩, by rw [HC4.out, HL.out], .inl rfl, hUc, hEc, hCac, hCbc⟩
                        case measure => exact meas_lt hUt.1 rfl hUc.1 (.inl rfl)
      · clear HP HS HN HX HC
        go_wp2
        go_roundw
        case rel => exact ⟨f, ⟨⟨zp, true⟩, tout⟩, by rw [HE.out (by first | rfl | trivial), symsF_bad _ _ _ _ _ _ _ rfl], .inl rfl, hU3, hE3, hCa3, hCb3⟩
        case measure => exact meas_lt hUt.1 rfl hU3.1 (.inl rfl)
    · have H : Hid (symsF s win most A B (8 * s.size + 1) u = ⟨⟨tp, true⟩, tout⟩) := hF.trans (symsF_bad _ _ _ _ _ _ _ rfl)
      clear hF hfu
      go_wp2
      go_end0
      exact ⟨rfl, by rw [H.out]; exact hUt, hEt⟩
theorem symbols_any (base rb ub : Nat) (s : ByteArray) (win most : Nat) (u : US) (La Lb : List Nat) (v1 v2 : Value) (w : World) (hU : UIs w base rb ub s win most u) (hs : s.size ≤ 140737488351232) (hm : most ≤ 16777216) (hwin : win ≤ 32768)
    (h1 : IntsAt w v1 La) (h2 : IntsAt w v2 Lb) (ha : La.length ≤ 400) (hb : Lb.length ≤ 400) (ha15 : ∀ i, La.getD i 0 ≤ 15) (hb15 : ∀ i, Lb.getD i 0 ≤ 15) :
    Calls Tryz.prog 81 #[.pointer (some ⟨ub, 0, none⟩), v1, v2] w fun e w' => e = .returned (.tuple #[]) ∧ UIs w' base rb ub s win most (symsF s win most (codesT La).cs (codesT Lb).cs (8 * s.size + 1) u) ∧ Eff base rb ub w w' :=
  symbols_at base rb ub s win most u La Lb _ _ rfl rfl v1 v2 w hU hs hm hwin h1 h2 ha hb ha15 hb15
end Go.Proofs.YtephkcdbnogdhaaGreatDoor.RfW
/- The walk of the document's question whether just one length is not 0. -/
namespace Go.Proofs.YtephkcdbnogdhaaGreatDoor.RfW
open Go.RowKit Rf
theorem take_snocL (L : List Nat) (k : Nat) (h : k < L.length) : L.take (k + 1) = L.take k ++ [L.getD k 0] := by
  rw [List.take_succ_eq_append_getElem h]; simp [List.getD, List.getElem?_eq_getElem h]
set_option maxRecDepth 10000 in
set_option maxHeartbeats 1000000 in
theorem single_any (L : List Nat) (v0 : Value) (w : World) (hI : IntsAt w v0 L) (hlen : L.length ≤ 400) :
    Calls Tryz.prog 120 #[v0] w fun e w' => e = .returned (.bool (singleT L)) ∧ w' = w := by
  obtain ⟨g, off, cap, cur, rfl, hcap, hblk, hcur⟩ := hI
  go_enter Tryz.func120, Tryz.ntmps120
  go_wp2
  go_loop [3, 4] (fun c i => ∃ k x : Nat, k ≤ L.length ∧ x = cnt (L.take k) ∧ x ≤ 400 ∧ c = .int .i64 x ∧ i = .int .i64 k) (fun _ i => L.length - (intOf i).toNat)
  case atStart => exact ⟨0, 0, by omega, rfl, by omega, rfl, rfl⟩
  case round =>
    obtain ⟨k, x, hk, hx, hxb, rfl, rfl⟩ := hrel
    by_cases hlt : k < L.length
    · have hcell : w.cell? ⟨g, off + k, none⟩ = some (.int .i64 ((L.getD k 0 : Nat) : Int)) := (cell_of_block hblk _).trans (hcur k hlt)
      have H := cnt_snoc (L.take k) (L.getD k 0)
      rw [← take_snocL L k hlt, ← hx] at H
      have hb2 := cnt_le (L.take (k + 1))
      have hb3 : (L.take (k + 1)).length ≤ 400 := by rw [List.length_take]; omega
      generalize L.getD k 0 = z at *
      by_cases hz : 0 < z
      · rw [if_pos hz] at H
        have HH : Hid _ := H
        have hx2 : x + 1 ≤ 400 := by omega
        clear hx H hb2 hb3
        go_wp2
        go_round
        case rel => exact ⟨k + 1, x + 1, by omega, HH.out.symm, hx2, by go_num, by go_num⟩
        case measure => simp [intOf]; omega
      · rw [if_neg hz] at H
        have HH : Hid _ := H
        clear hx H hb2 hb3
        go_wp2
        go_round
        case rel => exact ⟨k + 1, x, by omega, HH.out.symm, hxb, by go_num, by go_num⟩
        case measure => simp [intOf]; omega
    · obtain rfl : k = L.length := by omega
      have H : Hid (singleT L = (x == 1)) := (by unfold singleT; rw [hx, List.take_length] : _ = _)
      clear hx
      go_wp2
      go_ret
      exact ⟨by rw [H.out]; exact congrArg (fun b => Ending.returned (Value.bool b)) (by rw [Bool.eq_iff_iff]; simp; omega), rfl⟩
end Go.Proofs.YtephkcdbnogdhaaGreatDoor.RfW
