/- The walk of the document's Unwrap. -/
import Derived.Test.YtephkcdbnogdhaaGreatDoorME
import Derived.Test.YtephkcdbnogdhaaGreatDoorMS
import Derived.BigRegion
set_option linter.unusedVariables false
namespace Go.Proofs.YtephkcdbnogdhaaGreatDoor.RfW
open Go.RowKit Rf
theorem inflate_bad (s : ByteArray) (win most : Nat) (w : World) (hs : s.size ≤ 140737488351232) (h1 : 1 ≤ win) (h2 : win ≤ 32768) (h3 : most ≤ 16777216) (hb : (inflU s win most).st.bad = true) :
    Calls Tryz.prog 13 #[.string s, .int .i64 (win : Int), .int .i64 (most : Int)] w fun e w' => e = .returned (.tuple #[.string ⟨#[]⟩, .int .i64 0, .int .i64 3]) ∧ Below w.heap.size w w' := by
  refine (inflate_go s win most w hs h1 h2 h3).mono ?_
  rintro e w' ⟨rfl, hB⟩
  exact ⟨by unfold inflV; rw [if_pos hb], hB⟩
theorem inflate_ok (s : ByteArray) (win most : Nat) (w : World) (hs : s.size ≤ 140737488351232) (h1 : 1 ≤ win) (h2 : win ≤ 32768) (h3 : most ≤ 16777216) (hb : (inflU s win most).st.bad = false) :
    Calls Tryz.prog 13 #[.string s, .int .i64 (win : Int), .int .i64 (most : Int)] w fun e w' => e = .returned (.tuple #[.string ⟨(inflU s win most).out.toArray⟩, .int .i64 ((((inflU s win most).st.pos + 7) / 8 : Nat) : Int), .int .i64 0]) ∧ Below w.heap.size w w' := by
  refine (inflate_go s win most w hs h1 h2 h3).mono ?_
  rintro e w' ⟨rfl, hB⟩
  exact ⟨by unfold inflV; rw [if_neg (by simp [hb])], hB⟩
/-- the two bytes ahead -/
def hdrOk (c f : Nat) : Prop := c % 16 = 8 ∧ c / 16 ≤ 7 ∧ (256 * c + f) % 31 = 0 ∧ f / 32 % 2 = 0
set_option maxRecDepth 10000 in
set_option maxHeartbeats 2000000 in
theorem unwrap_limit (s : ByteArray) (n : Int) (w : World) (h : n < 0 ∨ 16777216 < n) :
    Calls Tryz.prog 15 #[.string s, .int .i64 n] w fun e w' => e = .returned (.tuple #[.string ⟨#[]⟩, .int .i64 1]) ∧ w' = w := by
  by_cases h1 : n < 0
  · go_enter Tryz.func15, Tryz.ntmps15
    go_wp2
    go_ret2
    exact ⟨rfl, rfl⟩
  · have h2 : 16777216 < n := by omega
    go_enter Tryz.func15, Tryz.ntmps15
    go_wp2
    go_ret2
    exact ⟨rfl, rfl⟩
set_option maxRecDepth 10000 in
set_option maxHeartbeats 2000000 in
theorem unwrap_short (s : ByteArray) (n : Nat) (w : World) (hn : n ≤ 16777216) (h : s.size < 2) :
    Calls Tryz.prog 15 #[.string s, .int .i64 (n : Int)] w fun e w' => e = .returned (.tuple #[.string ⟨#[]⟩, .int .i64 3]) ∧ w' = w := by
  go_enter Tryz.func15, Tryz.ntmps15
  go_wp2
  go_ret2
  exact ⟨rfl, rfl⟩
set_option maxRecDepth 10000 in
set_option maxHeartbeats 2000000 in
theorem unwrap_head (s : ByteArray) (n : Nat) (w : World) (hn : n ≤ 16777216) (h2 : ¬ s.size < 2) (c f : Nat) (hc : (s[0]'(by omega)).toNat = c) (hf : (s[1]'(by omega)).toNat = f) (h : ¬ hdrOk c f) :
    Calls Tryz.prog 15 #[.string s, .int .i64 (n : Int)] w fun e w' => e = .returned (.tuple #[.string ⟨#[]⟩, .int .i64 3]) ∧ w' = w := by
  have hcb : c ≤ 255 := by rw [← hc]; have := (s[0]'(by omega)).toNat_lt; omega
  have hfb : f ≤ 255 := by rw [← hf]; have := (s[1]'(by omega)).toNat_lt; omega
  have h01 : 0 < s.size := by omega
  have h11 : 1 < s.size := by omega
  by_cases k1 : c % 16 = 8
  · have k1b : ((c : Int) % 16 != 8) = false := by rw [bne_eq_false_iff_eq]; omega
    by_cases k2 : c / 16 ≤ 7
    · have k2b : ¬ (7 : Int) < (c : Int) / 16 := by omega
      by_cases k3 : (256 * c + f) % 31 = 0
      · have k3b : ((256 * (c : Int) + (f : Int)) % 31 != 0) = false := by rw [bne_eq_false_iff_eq]; omega
        have k4 : f / 32 % 2 ≠ 0 := fun e => h ⟨k1, k2, k3, e⟩
        have k4b : ((f : Int) / 32 % 2 != 0) = true := by rw [bne_iff_ne]; omega
        clear h k1 k2 k3 k4
        go_enter Tryz.func15, Tryz.ntmps15
        go_wp2
        go_ret2
        exact ⟨rfl, rfl⟩
      · have k3b : ((256 * (c : Int) + (f : Int)) % 31 != 0) = true := by rw [bne_iff_ne]; omega
        clear h k1 k2 k3
        go_enter Tryz.func15, Tryz.ntmps15
        go_wp2
        go_ret2
        exact ⟨rfl, rfl⟩
    · have k2b : (7 : Int) < (c : Int) / 16 := by omega
      clear h k1 k2
      go_enter Tryz.func15, Tryz.ntmps15
      go_wp2
      go_ret2
      exact ⟨rfl, rfl⟩
  · have k1b : ((c : Int) % 16 != 8) = true := by rw [bne_iff_ne]; omega
    clear h k1
    go_enter Tryz.func15, Tryz.ntmps15
    go_wp2
    go_ret2
    exact ⟨rfl, rfl⟩
/-- the four bytes behind, from the last one on -/
def tailL (s : ByteArray) : Nat → Nat → Nat → Bool
  | 0, _, _ => true
  | j + 1, i, a => if byteAt s (s.size - 1 - i) = a % 256 then tailL s j (i + 1) (a / 256) else false
def adA (l : List UInt8) : Nat := 65536 * (Ad.adl 1 0 l).2 + (Ad.adl 1 0 l).1
/-- is all as it must be? -/
def unwB (s : ByteArray) (n : Nat) (U : US) : Bool := !U.st.bad && decide (U.out.length = n) && decide (2 + (U.st.pos + 7) / 8 + 4 = s.size) && tailL s 4 0 (adA U.out)
def unwV (b : Bool) (out : List UInt8) : Value := if b then .tuple #[.string ⟨out.toArray⟩, .int .i64 0] else .tuple #[.string ⟨#[]⟩, .int .i64 3]
theorem adA_lt (l : List UInt8) : adA l < 4294967296 := by have := Ad.adl_bd l 1 0 (by omega) (by omega); unfold adA; omega
/-- what the document's Unwrap does where the two bytes ahead are right -/
theorem pw_bd (k : Nat) (h : k ≤ 7) : 1 ≤ pw (k + 8) ∧ pw (k + 8) ≤ 32768 := by
  rcases (by omega : k = 0 ∨ k = 1 ∨ k = 2 ∨ k = 3 ∨ k = 4 ∨ k = 5 ∨ k = 6 ∨ k = 7) with rfl | rfl | rfl | rfl | rfl | rfl | rfl | rfl <;> decide
theorem wrap_win (c : Nat) (h : c / 16 ≤ 7) : IntKind.i64.wrap (IntKind.i64.wrap ((c : Int) / 16) + 8) = ((c / 16 + 8 : Nat) : Int) := by
  have h1 : IntKind.i64.wrap ((c : Int) / 16) = (c : Int) / 16 := by rw [IntKind.wrap_i64]; omega
  have h2 : IntKind.i64.wrap ((c : Int) / 16 + 8) = (c : Int) / 16 + 8 := by rw [IntKind.wrap_i64]; omega
  rw [h1, h2]; omega
theorem tailL_no (s : ByteArray) (j i a : Nat) (h : byteAt s (s.size - 1 - i) ≠ a % 256) : tailL s (j + 1) i a = false := by unfold tailL; rw [if_neg h]
theorem tailL_yes (s : ByteArray) (j i a : Nat) (h : byteAt s (s.size - 1 - i) = a % 256) : tailL s (j + 1) i a = tailL s j (i + 1) (a / 256) := by rw [tailL, if_pos h]
theorem byteAt_of (s : ByteArray) (j : Nat) (h : j < s.size) : byteAt s j = (s[j]'h).toNat := by
  unfold byteAt; simp [h]; rfl
set_option maxRecDepth 10000 in
set_option maxHeartbeats 4000000 in
theorem unwrap_in (s : ByteArray) (n : Nat) (w : World) (hs : s.size ≤ 140737488351232) (hn : n ≤ 16777216) (h2 : ¬ s.size < 2) (c f : Nat) (hc : (s[0]'(by omega)).toNat = c) (hf : (s[1]'(by omega)).toNat = f) (h : hdrOk c f)
    (o : ByteArray) (u er : Nat) (V : Value)
    (hI : ∀ w', Calls Tryz.prog 13 #[.string (s.extract 2 s.size), .int .i64 ((pw (c / 16 + 8) : Nat) : Int), .int .i64 (n : Int)] w' fun e w2 => e = .returned (.tuple #[.string o, .int .i64 (u : Int), .int .i64 (er : Int)]) ∧ Below w'.heap.size w' w2 ∧ u ≤ 140737488351232 ∧ o.size ≤ 100000000)
    (hV : V = unwV (decide (er = 0) && decide (o.size = n) && decide (2 + u + 4 = s.size) && tailL s 4 0 (adA o.data.toList)) o.data.toList) :
    Calls Tryz.prog 15 #[.string s, .int .i64 (n : Int)] w fun e w' => e = .returned V ∧ Below w.heap.size w w' := by
  have hcb : c ≤ 255 := by rw [← hc]; have := (s[0]'(by omega)).toNat_lt; omega
  have hfb : f ≤ 255 := by rw [← hf]; have := (s[1]'(by omega)).toNat_lt; omega
  have h01 : 0 < s.size := by omega
  have h11 : 1 < s.size := by omega
  obtain ⟨k1, k2, k3, k4⟩ := h
  have k1b : ((c : Int) % 16 != 8) = false := by rw [bne_eq_false_iff_eq]; omega
  have k2b : ¬ (7 : Int) < (c : Int) / 16 := by omega
  have k3b : ((256 * (c : Int) + (f : Int)) % 31 != 0) = false := by rw [bne_eq_false_iff_eq]; omega
  have k4b : ((f : Int) / 32 % 2 != 0) = false := by rw [bne_eq_false_iff_eq]; omega
  have HV : Hid _ := hV
  have HK2 : Hid _ := k2
  clear hV k1 k3 k4 k2
  have HW : Hid (IntKind.i64.wrap (IntKind.i64.wrap ((c : Int) / 16) + 8) = ((c / 16 + 8 : Nat) : Int)) := wrap_win c HK2.out
  go_enter Tryz.func15, Tryz.ntmps15
  go_upto_region 9 with fail
  go_cut [8, 9, 10] (fun v8 v9 v10 wx => v8 = .string o ∧ v9 = .int .i64 (u : Int) ∧ v10 = .int .i64 (er : Int) ∧ Below w.heap.size w wx ∧ u ≤ 140737488351232 ∧ o.size ≤ 100000000)
  case first =>
   as_aux_lemma =>
    go_region_with (first | (go_at_call 46; refine (power_any (c / 16 + 8) _ HW.out _ (by have := HK2.out; omega)).mono ?_; rintro e w3 ⟨rfl, rfl⟩) | (go_at_call 13; refine (hI _).mono ?_; rintro e w3 ⟨rfl, hb, hbu, hbo⟩))
    all_goals
      go_wp2_with fail
      go_meet
      case rel => exact ⟨rfl, rfl, rfl, ⟨hb.os, hb.tape, hb.output, hb.size, hb.block⟩, hbu, hbo⟩
  case rest =>
    obtain ⟨rfl, rfl, rfl, hb, hu, ho⟩ := hcut
    clear hI HW HK2 k1b k2b k3b k4b
    by_cases e0 : er = 0
    · subst e0
      by_cases e1 : o.size = n
      · have e1b : ((o.size : Int) != (n : Int)) = false := by rw [bne_eq_false_iff_eq]; omega
        by_cases e2 : 2 + u + 4 = s.size
        · have e2b : (2 + (u : Int) + 4 != (s.size : Int)) = false := by rw [bne_eq_false_iff_eq]; omega
          have HT : Hid (V = unwV (tailL s 4 0 (adA o.data.toList)) o.data.toList) := (by rw [HV.out]; simp [e1, e2] : _ = _)
          have HA0 : Hid (65536 * (Ad.adl 1 0 o.data.toList).2 + (Ad.adl 1 0 o.data.toList).1 = adA o.data.toList) := rfl
          have HL : Hid (adA o.data.toList < 4294967296) := adA_lt o.data.toList
          have hs6 : 6 ≤ s.size := by omega
          clear HV e1 e2
          go_wp2_with fail
          refine (AdW.ref_any o _ (by unfold maxLen; omega)).mono ?_
          rintro e w1 ⟨rfl, rfl⟩
          rw [HA0.out]
          have hal := HL.out
          clear HA0 HL
          generalize adA o.data.toList = a0 at *
          have HO : Hid ((⟨o.data.toList.toArray⟩ : ByteArray) = o) := (by cases o; simp : _ = _)
          generalize o.data.toList = ol at *
          go_wp2_with fail
          go_loop [11, 12] (fun av iv => ∃ (k a : Nat), k ≤ 4 ∧ iv = .int .i64 (k : Int) ∧ av = .int .i64 (a : Int) ∧ a < 4294967296 ∧ tailL s 4 0 a0 = tailL s (4 - k) k a) (fun _ iv => 4 - (intOf iv).toNat)
          case atStart => exact ⟨0, a0, by omega, rfl, rfl, hal, rfl⟩
          case round =>
            obtain ⟨k, a, hk, rfl, rfl, ha, ht⟩ := hrel
            have HTL : Hid _ := ht
            clear ht
            by_cases hk4 : k < 4
            · obtain ⟨j, hj⟩ : ∃ j, j = s.size - 1 - k := ⟨_, rfl⟩
              have hjl : j < s.size := by omega
              have hji : (s.size : Int) - 1 - (k : Int) = (j : Int) := by omega
              have HJ : Hid _ := hj
              clear hj
              have HB : Hid (byteAt s j = (s[j]'hjl).toNat) := byteAt_of s j hjl
              have hxb : (s[j]'hjl).toNat ≤ 255 := by have := (s[j]'hjl).toNat_lt; omega
              obtain ⟨r, hr⟩ : ∃ r, 4 - k = r + 1 := ⟨3 - k, by omega⟩
              have HR : Hid _ := hr
              clear hr
              by_cases hx : (s[j]'hjl).toNat = a % 256
              · have hxb2 : (((s[j]'hjl).toNat : Int) != (a : Int) % 256) = false := by rw [bne_eq_false_iff_eq]; omega
                have HN : Hid (tailL s 4 0 a0 = tailL s (4 - (k + 1)) (k + 1) (a / 256)) := (by rw [HTL.out, HR.out, tailL_yes s r k a (by rw [← HJ.out, HB.out]; exact hx)]; congr 1; have := HR.out; omega : _ = _)
                clear hx
                go_wp2_with fail
                go_round
                case rel => exact ⟨k + 1, a / 256, by omega, by go_num, by go_num, by omega, HN.out⟩
                case measure => simp [intOf]; omega
              · have hxb2 : (((s[j]'hjl).toNat : Int) != (a : Int) % 256) = true := by rw [bne_iff_ne]; omega
                have HN : Hid (V = .tuple #[.string ⟨#[]⟩, .int .i64 3]) := (by rw [HT.out, HTL.out, HR.out, tailL_no s r k a (by rw [← HJ.out, HB.out]; exact hx)]; rfl : _ = _)
                clear hx
                go_wp2_with fail
                go_ret2
                exact ⟨(congrArg Ending.returned HN.out).symm, hb⟩
            · have HN : Hid (V = .tuple #[.string o, .int .i64 0]) := (by rw [HT.out, HTL.out, show 4 - k = 0 by omega]; unfold unwV tailL; rw [if_pos rfl, HO.out] : _ = _)
              go_wp2_with fail
              go_ret2
              exact ⟨(congrArg Ending.returned HN.out).symm, hb⟩
        · have e2b : (2 + (u : Int) + 4 != (s.size : Int)) = true := by rw [bne_iff_ne]; omega
          have HN : Hid (V = .tuple #[.string ⟨#[]⟩, .int .i64 3]) := (by rw [HV.out]; simp [e2, unwV] : _ = _)
          clear HV e1 e2
          go_wp2_with fail
          go_ret2
          exact ⟨(congrArg Ending.returned HN.out).symm, hb⟩
      · have e1b : ((o.size : Int) != (n : Int)) = true := by rw [bne_iff_ne]; omega
        have HN : Hid (V = .tuple #[.string ⟨#[]⟩, .int .i64 3]) := (by rw [HV.out]; simp [e1, unwV] : _ = _)
        clear HV e1
        go_wp2_with fail
        go_ret2
        exact ⟨(congrArg Ending.returned HN.out).symm, hb⟩
    · have e0b : ((er : Int) != 0) = true := by rw [bne_iff_ne]; omega
      have HN : Hid (V = .tuple #[.string ⟨#[]⟩, .int .i64 3]) := (by rw [HV.out]; simp [e0, unwV] : _ = _)
      clear HV e0
      go_wp2_with fail
      go_ret2
      exact ⟨(congrArg Ending.returned HN.out).symm, hb⟩
/-- what the document's Unwrap returns where the two bytes ahead are right -/
theorem unwrap_go (s : ByteArray) (n : Nat) (w : World) (hs : s.size ≤ 140737488351232) (hn : n ≤ 16777216) (h2 : ¬ s.size < 2) (c f : Nat) (hc : (s[0]'(by omega)).toNat = c) (hf : (s[1]'(by omega)).toNat = f) (h : hdrOk c f) :
    Calls Tryz.prog 15 #[.string s, .int .i64 (n : Int)] w fun e w' => e = .returned (unwV (unwB s n (inflU (s.extract 2 s.size) (pw (c / 16 + 8)) n)) (inflU (s.extract 2 s.size) (pw (c / 16 + 8)) n).out) ∧ Below w.heap.size w w' := by
  have hp := pw_bd (c / 16) h.2.1
  have hs2 : (s.extract 2 s.size).size ≤ 140737488351232 := by rw [ByteArray.size_extract]; omega
  generalize hU : inflU (s.extract 2 s.size) (pw (c / 16 + 8)) n = U
  by_cases hb : U.st.bad = true
  · refine unwrap_in s n w hs hn h2 c f hc hf h ⟨#[]⟩ 0 3 _ (fun w' => ?_) ?_
    · refine (inflate_go _ _ n w' hs2 hp.1 hp.2 hn).mono ?_
      rintro e w2 ⟨rfl, hB⟩
      exact ⟨by rw [hU]; unfold inflV; rw [if_pos hb]; rfl, hB, by omega, by decide⟩
    · have e1 : unwB s n U = false := by unfold unwB; rw [hb]; rfl
      rw [e1]; rfl
  · have hb' : U.st.bad = false := by simpa using hb
    refine unwrap_in s n w hs hn h2 c f hc hf h ⟨U.out.toArray⟩ ((U.st.pos + 7) / 8) 0 _ (fun w' => ?_) ?_
    · refine (inflate_bd _ _ n w' hs2 hp.1 hp.2 hn).mono ?_
      rintro e w2 ⟨rfl, hB, h3, h4⟩
      rw [hU] at h3 h4
      exact ⟨by rw [hU]; unfold inflV; rw [if_neg hb]; rfl, hB, by omega, by show U.out.toArray.size ≤ _; rw [List.size_toArray]; omega⟩
    · have e1 : unwB s n U = (decide ((0 : Nat) = 0) && decide ((⟨U.out.toArray⟩ : ByteArray).size = n) && decide (2 + (U.st.pos + 7) / 8 + 4 = s.size) && tailL s 4 0 (adA U.out)) := by
        unfold unwB
        rw [hb']
        rfl
      rw [e1]
end Go.Proofs.YtephkcdbnogdhaaGreatDoor.RfW
