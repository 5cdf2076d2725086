/- The walk of the document's blocks. -/
import Derived.Test.YtephkcdbnogdhaaGreatDoorMA
import Derived.Test.YtephkcdbnogdhaaGreatDoorMD
import Derived.Laws.BytesArg
set_option linter.unusedVariables false
namespace Go.Proofs.YtephkcdbnogdhaaGreatDoor.RfW
open Go.RowKit Rf
theorem fix_same : fixL 288 = fixList := by
  unfold fixL fixList
  exact congrArg (fun f => List.map f (List.range 288)) (funext fun i => rfl)
theorem fixLen_le (i : Nat) : fixLen i ≤ 15 := by unfold fixLen; split; omega; split <;> omega
theorem fixList_le (i : Nat) : fixList.getD i 0 ≤ 15 := getD_le fixList 15 (fun x hx => by
  unfold fixList at hx
  obtain ⟨j, _, rfl⟩ := List.mem_map.1 hx
  exact fixLen_le j) i
theorem fixList_len : fixList.length = 288 := by unfold fixList; rw [List.length_map, List.length_range]
theorem five_le (i : Nat) : (List.replicate 32 5).getD i 0 ≤ 15 := getD_le _ 15 (fun x hx => by rw [List.eq_of_mem_replicate hx]; omega) i
set_option maxRecDepth 10000 in
set_option maxHeartbeats 4000000 in
theorem blocks_any (base rb ub : Nat) (s : ByteArray) (win most : Nat) (u : US) (w : World) (hU : UIs w base rb ub s win most u) (hs : s.size ≤ 140737488351232) (hm : most ≤ 16777216) (hwin : win ≤ 32768) :
    Calls Tryz.prog 44 #[.pointer (some ⟨ub, 0, none⟩)] w fun e w' => e = .returned (.tuple #[]) ∧ UIs w' base rb ub s win most (blkF s win most (8 * s.size + 1) u) ∧ Eff base rb ub w w' := by
  go_enter Tryz.func44, Tryz.ntmps44
  go_wp2
  go_loopw [2] (fun v wr => ∃ (f l : Nat) (t : US), v = .int .i64 l ∧ l ≤ 1 ∧ (l = 0 → blkF s win most (8 * s.size + 1) u = blkF s win most f t) ∧ (l = 1 → blkF s win most (8 * s.size + 1) u = t) ∧ (t.st.bad = true ∨ 8 * s.size - t.st.pos < f) ∧ UIs wr base rb ub s win most t ∧ Eff base rb ub w wr) (fun _ wr => meas wr rb (8 * s.size))
  case atStart => exact ⟨8 * s.size + 1, 0, u, rfl, by omega, fun _ => rfl, fun h => by omega, .inr (by omega), hU, Eff.refl _ _ _ _⟩
  case round =>
    obtain ⟨f, l, t, rfl, hl1, hF0, hF1, hfu, hUt, hEt⟩ := hrel
    have hu0 := hUt.u0
    have hc2 := hUt.1.c2
    obtain ⟨⟨tp, tb⟩, tout⟩ := t
    by_cases hl : l = 0
    · subst hl
      cases tb
      · have hfu' : 8 * s.size - tp < f := by simpa using hfu
        obtain ⟨f, rfl⟩ : ∃ g, f = g + 1 := ⟨f - 1, by omega⟩
        have HF : Hid _ := hF0 rfl
        clear hF0 hF1 hfu
        go_wp2_with fail
        refine (one_any rb s ⟨tp, false⟩ _ hUt.1 hs).mono ?_
        rintro e w1 ⟨rfl, hR1, hO1⟩
        have hU1 := hUt.row hO1 _ hR1
        have hE1 := hEt.trans (hO1.eff (base := base) (ub := ub))
        have hb1 := oneT_le s ⟨tp, false⟩
        have hv0 := hU1.u0
        clear hu0 hc2
        go_wp2_with fail
        refine (number_any rb s _ 2 _ rfl _ hU1.1 hs (by omega)).mono ?_
        rintro e w2 ⟨rfl, hR2, hO2⟩
        have hU2 := hU1.row hO2 _ hR2
        have hE2 := hE1.trans (hO2.eff (base := base) (ub := ub))
        have hb2 : (numT s 2 (oneT s ⟨tp, false⟩).2).1 < 4 := numT_lt s 2 _
        have hmo : (numT s 2 (oneT s ⟨tp, false⟩).2).2.bad = true ∨ tp + 1 ≤ (numT s 2 (oneT s ⟨tp, false⟩).2).2.pos := by
          rcases oneT_more s ⟨tp, false⟩ with h | h
          · exact .inl (numT_keep s 2 _ h)
          · exact .inr (by have := numT_ge s 2 (oneT s ⟨tp, false⟩).2; rw [h] at this; exact this)
        have HG : Hid ((oneT s ⟨tp, false⟩).1 = 0 → blkF s win most (8 * s.size + 1) u = blkF s win most f (sortT s win most (numT s 2 (oneT s ⟨tp, false⟩).2).1 ⟨(numT s 2 (oneT s ⟨tp, false⟩).2).2, tout⟩)) := fun h => HF.out.trans (blkF_go s win most f ⟨⟨tp, false⟩, tout⟩ rfl h)
        have HH : Hid ((oneT s ⟨tp, false⟩).1 = 1 → blkF s win most (8 * s.size + 1) u = sortT s win most (numT s 2 (oneT s ⟨tp, false⟩).2).1 ⟨(numT s 2 (oneT s ⟨tp, false⟩).2).2, tout⟩) := fun h => HF.out.trans (blkF_end s win most f ⟨⟨tp, false⟩, tout⟩ rfl (by show (oneT s ⟨tp, false⟩).1 ≠ 0; omega))
        clear HF hv0 hR1 hO1 hR2 hO2 hU1 hE1
        generalize numT s 2 (oneT s ⟨tp, false⟩).2 = Y at *
        generalize (oneT s ⟨tp, false⟩).1 = l at *
        obtain ⟨y, yp, yb⟩ := Y
        simp only at hU2 hb2
        have hw0 := hU2.u0
        have hd2 := hU2.1.c2
        have hg2 := hU2.1.free 2
        have hyp : yp ≤ 8 * s.size := hU2.1.2
        cases yb
        · have hmo2 : tp + 1 ≤ yp := by simpa using hmo
          have hge : yp ≤ (sortT s win most y ⟨⟨yp, false⟩, tout⟩).st.pos := sortT_ge s win most y ⟨⟨yp, false⟩, tout⟩
          clear hmo
          by_cases hy0 : y = 0
          · subst hy0
            have HS : Hid (sortT s win most 0 ⟨⟨yp, false⟩, tout⟩ = storedT s most ⟨⟨yp, false⟩, tout⟩) := rfl
            go_wp2_with fail
            refine (stored_any base rb ub s win most ⟨⟨yp, false⟩, tout⟩ _ hU2 hs hm).mono ?_
            rintro e w3 ⟨rfl, hU3, hE3⟩
            rw [← HS.out] at hU3
            have HG2 : Hid _ := HG.out
            have HH2 : Hid _ := HH.out
            have hEP := hE2.trans hE3
            have hUP := hU3
            clear HG HH hU3 HS
            generalize sortT s win most 0 ⟨⟨yp, false⟩, tout⟩ = P at *
            go_wp2
            go_roundw
            case rel => exact ⟨f, l, P, rfl, hb1, HG2.out, HH2.out, .inr (by omega), hUP, hEP⟩
            case measure => exact meas_lt hUt.1 rfl hUP.1 (.inr (by show tp + 1 ≤ P.st.pos; omega))
          · have hyb0 : ((y : Int) == 0) = false := by rw [beq_eq_false_iff_ne]; omega
            by_cases hy1 : y = 1
            · subst hy1
              have HS : Hid (sortT s win most 1 ⟨⟨yp, false⟩, tout⟩ = symsF s win most (codesT fixList).cs (codesT (List.replicate 32 5)).cs (8 * s.size + 1) ⟨⟨yp, false⟩, tout⟩) := rfl
              go_wp2_with fail
              refine (fixed_any _).mono ?_
              rintro e w3 ⟨v1, rfl, hI1, hB1⟩
              rw [fix_same] at hI1
              have hU3 := hU2.below hB1
              have hE3 := hE2.trans (eff_of_below (rb := rb) (ub := ub) hU2.2.2.2.2.1 hB1)
              go_wp2_with fail
              refine (fives_any _).mono ?_
              rintro e w4 ⟨v2, rfl, hI2, hB2⟩
              have hI1' := IntsAt.below hI1 hB2
              have hU4 := hU3.below hB2
              have hE4 := hE3.trans (eff_of_below (rb := rb) (ub := ub) hU3.2.2.2.2.1 hB2)
              clear hU3 hE3 hB1 hB2 hI1
              go_wp2_with fail
              refine (symbols_any base rb ub s win most ⟨⟨yp, false⟩, tout⟩ fixList (List.replicate 32 5) v1 v2 _ hU4 hs hm hwin hI1' hI2 (by rw [fixList_len]; omega) (by rw [List.length_replicate]; omega) fixList_le five_le).mono ?_
              rintro e w5 ⟨rfl, hU5, hE5⟩
              rw [← HS.out] at hU5
              have HG2 : Hid _ := HG.out
              have HH2 : Hid _ := HH.out
              have hEP := hE4.trans hE5
              have hUP := hU5
              clear HG HH hU5 HS hI1' hI2 hU4 hE4
              generalize sortT s win most 1 ⟨⟨yp, false⟩, tout⟩ = P at *
              go_wp2
              go_roundw
              case rel => exact ⟨f, l, P, rfl, hb1, HG2.out, HH2.out, .inr (by omega), hUP, hEP⟩
              case measure => exact meas_lt hUt.1 rfl hUP.1 (.inr (by show tp + 1 ≤ P.st.pos; omega))
            · have hyb1 : ((y : Int) == 1) = false := by rw [beq_eq_false_iff_ne]; omega
              by_cases hy2 : y = 2
              · subst hy2
                have HS : Hid (sortT s win most 2 ⟨⟨yp, false⟩, tout⟩ = ownT s win most ⟨⟨yp, false⟩, tout⟩) := rfl
                go_wp2_with fail
                refine (own_any base rb ub s win most ⟨⟨yp, false⟩, tout⟩ _ hU2 hs hm hwin).mono ?_
                rintro e w3 ⟨rfl, hU3, hE3⟩
                rw [← HS.out] at hU3
                have HG2 : Hid _ := HG.out
                have HH2 : Hid _ := HH.out
                have hEP := hE2.trans hE3
                have hUP := hU3
                clear HG HH hU3 HS
                generalize sortT s win most 2 ⟨⟨yp, false⟩, tout⟩ = P at *
                go_wp2
                go_roundw
                case rel => exact ⟨f, l, P, rfl, hb1, HG2.out, HH2.out, .inr (by omega), hUP, hEP⟩
                case measure => exact meas_lt hUt.1 rfl hUP.1 (.inr (by show tp + 1 ≤ P.st.pos; omega))
              · have hyb2 : ((y : Int) == 2) = false := by rw [beq_eq_false_iff_ne]; omega
                have HS : Hid (sortT s win most y ⟨⟨yp, false⟩, tout⟩ = ⟨⟨yp, true⟩, tout⟩) := (by unfold sortT; rw [if_neg (by simp), if_neg hy0, if_neg hy1, if_neg hy2] : _ = _)
                have hUP := hU2.row ((Only.refl rb w2).setCell 2 (.bool true)) _ (hU2.1.set2 true)
                have hEP : Eff base rb ub w (w2.setCell ⟨rb, 2, none⟩ (.bool true)) := hE2.set rb 2 (.inl rfl) _
                clear hge
                go_wp2
                go_roundw
                case rel => exact ⟨f, l, ⟨⟨yp, true⟩, tout⟩, rfl, hb1, fun h => by rw [HG.out h, HS.out], fun h => by rw [HH.out h, HS.out], .inl rfl, hUP, hEP⟩
                case measure => exact meas_lt hUt.1 rfl hUP.1 (.inl rfl)
        · have HS : Hid (sortT s win most y ⟨⟨yp, true⟩, tout⟩ = ⟨⟨yp, true⟩, tout⟩) := if_pos rfl
          go_wp2
          go_roundw
          case rel => exact ⟨f, l, ⟨⟨yp, true⟩, tout⟩, rfl, hb1, fun h => by rw [HG.out h, HS.out], fun h => by rw [HH.out h, HS.out], .inl rfl, hU2, hE2⟩
          case measure => exact meas_lt hUt.1 rfl hU2.1 (.inl rfl)
      · have H : Hid (blkF s win most (8 * s.size + 1) u = ⟨⟨tp, true⟩, tout⟩) := (hF0 rfl).trans (blkF_bad _ _ _ _ _ rfl)
        clear hF0 hF1 hfu
        go_wp2
        go_end0
        exact ⟨rfl, by rw [H.out]; exact hUt, hEt⟩
    · obtain rfl : l = 1 := by omega
      have H : Hid (blkF s win most (8 * s.size + 1) u = ⟨⟨tp, tb⟩, tout⟩) := hF1 rfl
      clear hF0 hF1 hfu
      go_wp2
      go_end0
      exact ⟨rfl, by rw [H.out]; exact hUt, hEt⟩
end Go.Proofs.YtephkcdbnogdhaaGreatDoor.RfW
/- The walk of the document's Inflate. -/
namespace Go.Proofs.YtephkcdbnogdhaaGreatDoor.RfW
open Go.RowKit Rf
theorem ret_three {a : ByteArray} {b b' c : Int} (h : b = b') : Ending.returned (.tuple #[.string a, .int .i64 b, .int .i64 c]) = .returned (.tuple #[.string a, .int .i64 b', .int .i64 c]) := by rw [h]
set_option maxRecDepth 10000 in
set_option maxHeartbeats 2000000 in
theorem inflate_limit (s : ByteArray) (win most : Int) (w : World) (h : win < 1 ∨ 32768 < win ∨ most < 0 ∨ 16777216 < most) :
    Calls Tryz.prog 13 #[.string s, .int .i64 win, .int .i64 most] w fun e w' => e = .returned (.tuple #[.string ⟨#[]⟩, .int .i64 0, .int .i64 1]) ∧ w' = w := by
  by_cases h1 : win < 1
  · go_enter Tryz.func13, Tryz.ntmps13
    go_wp2
    go_ret3
    exact ⟨rfl, rfl⟩
  · by_cases h2 : 32768 < win
    · go_enter Tryz.func13, Tryz.ntmps13
      go_wp2
      go_ret3
      exact ⟨rfl, rfl⟩
    · by_cases h3 : most < 0
      · go_enter Tryz.func13, Tryz.ntmps13
        go_wp2
        go_ret3
        exact ⟨rfl, rfl⟩
      · have h4 : 16777216 < most := by omega
        go_enter Tryz.func13, Tryz.ntmps13
        go_wp2
        go_ret3
        exact ⟨rfl, rfl⟩
theorem below_drewN' {B : Nat} {w w' : World} (h : Below B w w') {n : Nat} : Below B w (w'.drewN n) := ⟨h.os, h.tape, h.output, h.size, h.block⟩
theorem conv_zero (ad : Addr) (cap : Nat) (w : World) : (convert 45 9 (.slice (some ad) 0 cap)).run Tryz.prog w = .ok (.string ⟨#[]⟩) w := by
  rw [run_convert_bytes_string w 45 9 5 _ 0 cap Tryz.underlying45 Tryz.underlying5 Tryz.underlying9]
  have hl : (loadCells ad 0).run Tryz.prog w = .ok (([] : List Int).map (Value.int .u8)).toArray w := run_loadCells_list (P := Tryz.prog) w ad [] (fun j v hj => by simp at hj)
  rw [run_bytesToString w ad 0 cap [] hl]
  rfl
/-- where the blocks end -/
def inflU (s : ByteArray) (win most : Nat) : US := blkF s win most (8 * s.size + 1) ⟨⟨0, false⟩, []⟩
/-- what Inflate hands back of that -/
def inflV (u : US) : Value := if u.st.bad = true then .tuple #[.string ⟨#[]⟩, .int .i64 0, .int .i64 3] else .tuple #[.string ⟨u.out.toArray⟩, .int .i64 (((u.st.pos + 7) / 8 : Nat) : Int), .int .i64 0]
theorem inflV_ok (p : Nat) (out : List UInt8) (n : Int) (h : n = (((p + 7) / 8 : Nat) : Int)) : Ending.returned (.tuple #[.string ⟨out.toArray⟩, .int .i64 n, .int .i64 0]) = .returned (inflV ⟨⟨p, false⟩, out⟩) := by subst h; rfl
set_option maxRecDepth 10000 in
set_option maxHeartbeats 2000000 in
theorem inflate_bd (s : ByteArray) (win most : Nat) (w : World) (hs : s.size ≤ 140737488351232) (h1 : 1 ≤ win) (h2 : win ≤ 32768) (h3 : most ≤ 16777216) :
    Calls Tryz.prog 13 #[.string s, .int .i64 (win : Int), .int .i64 (most : Int)] w fun e w' => e = .returned (inflV (inflU s win most)) ∧ Below w.heap.size w w' ∧ (inflU s win most).st.pos ≤ 8 * s.size ∧ (inflU s win most).out.length ≤ most := by
  have hU0 : UIs ((w.alloc (.cells #[.string s, .int .i64 0, .bool false] 91)).alloc (.cells #[.pointer (some ⟨w.heap.size, 0, none⟩), .slice none 0 0, .int .i64 (win : Int), .int .i64 (most : Int)] 93)) (w.heap.size + 2) w.heap.size (w.heap.size + 1) s win most ⟨⟨0, false⟩, []⟩ := by
    refine ⟨⟨?_, Nat.zero_le _⟩, by omega, by omega, by omega, by simp, Nat.zero_le _, .slice none 0 0, ?_, World.ownsRow_nil _ _ _ _⟩
    · rw [Below.heap_alloc _ _ _ (by simp)]; exact (MapKept.heap_alloc w _).1
    · have h := (MapKept.heap_alloc (w.alloc (.cells #[.string s, .int .i64 0, .bool false] 91)) (.cells #[.pointer (some ⟨w.heap.size, 0, none⟩), .slice none 0 0, .int .i64 (win : Int), .int .i64 (most : Int)] 93)).1
      rw [World.size_alloc] at h
      exact h
  have hB0 : Below w.heap.size w ((w.alloc (.cells #[.string s, .int .i64 0, .bool false] 91)).alloc (.cells #[.pointer (some ⟨w.heap.size, 0, none⟩), .slice none 0 0, .int .i64 (win : Int), .int .i64 (most : Int)] 93)) := ((Below.refl _ _).alloc (Nat.le_refl _) _).alloc (by simp) _
  go_enter Tryz.func13, Tryz.ntmps13
  go_wp2_with fail
  refine (blocks_any (w.heap.size + 2) w.heap.size (w.heap.size + 1) s win most ⟨⟨0, false⟩, []⟩ _ hU0 hs h3 h2).mono ?_
  rintro e w1 ⟨rfl, hU1, hE1⟩
  have hB1 : Below w.heap.size w w1 := hB0.trans ⟨hE1.os, hE1.tape, hE1.output, hE1.size, fun k hk => hE1.low k (by omega) (by omega) (by omega)⟩
  have HI : Hid (inflU s win most = blkF s win most (8 * s.size + 1) ⟨⟨0, false⟩, []⟩) := rfl
  have HBD : Hid ((inflU s win most).st.pos ≤ 8 * s.size ∧ (inflU s win most).out.length ≤ most) := (by rw [HI.out]; exact ⟨hU1.1.2, hU1.2.2.2.2.2.1⟩ : _ ∧ _)
  clear hU0 hB0 hE1
  generalize blkF s win most (8 * s.size + 1) ⟨⟨0, false⟩, []⟩ = U at *
  have hu0 := hU1.u0
  have hc2 := hU1.1.c2
  have hc1 := hU1.1.c1
  have hpp : U.st.pos ≤ 8 * s.size := hU1.1.2
  obtain ⟨ao, cap, hu1, hsh⟩ := hU1.u1
  obtain ⟨⟨p, b⟩, out⟩ := U
  cases b
  · have hcv : ∀ nq, (convert 45 9 (.slice ao out.length cap)).run Tryz.prog (w1.drewN nq) = .ok (.string ⟨out.toArray⟩) (w1.drewN nq) := fun nq => by
      by_cases h0 : 0 < out.length
      · obtain ⟨g, rfl, _, hcel⟩ := hsh h0
        have h9 := run_convert_bytes_arg (P := Tryz.prog) (w1.drewN nq) 45 5 Tryz.underlying45 Tryz.underlying5 g 0 out.length cap (out.map fun x => ((x.toNat : Nat) : Int)) (by simp) (fun i hi => by
          rw [Nat.zero_add]
          refine (hcel i hi).trans ?_
          simp [List.getD, List.getElem?_eq_getElem hi]) 9 Tryz.underlying9
        rw [h9]
        have e9 : strOfNums (out.map fun x => ((x.toNat : Nat) : Int)) = ⟨out.toArray⟩ := by unfold strOfNums; simp [List.map_map, Function.comp_def]
        rw [e9]
      · have e0 : out = [] := List.eq_nil_of_length_eq_zero (by omega)
        subst e0
        cases ao with
        | none => exact run_convert_bytes_nil (P := Tryz.prog) (w1.drewN nq) 45 5 Tryz.underlying45 Tryz.underlying5 0 cap 9 Tryz.underlying9
        | some ad => exact conv_zero ad cap (w1.drewN nq)
    have hpi : (p : Int) ≤ 1125899906809856 := by have : p ≤ 8 * s.size := hpp; omega
    go_wp2
    go_quiet (fail)
    go_wp2
    go_ret3
    exact ⟨by rw [HI.out]; exact inflV_ok p out _ (by omega), below_drewN' hB1, HBD.out⟩
  · go_wp2
    go_ret3
    exact ⟨by rw [HI.out]; rfl, hB1, HBD.out⟩
theorem inflate_go (s : ByteArray) (win most : Nat) (w : World) (hs : s.size ≤ 140737488351232) (h1 : 1 ≤ win) (h2 : win ≤ 32768) (h3 : most ≤ 16777216) :
    Calls Tryz.prog 13 #[.string s, .int .i64 (win : Int), .int .i64 (most : Int)] w fun e w' => e = .returned (inflV (inflU s win most)) ∧ Below w.heap.size w w' :=
  (inflate_bd s win most w hs h1 h2 h3).mono fun _ _ h => ⟨h.1, h.2.1⟩
end Go.Proofs.YtephkcdbnogdhaaGreatDoor.RfW
