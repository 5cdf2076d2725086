/- The walks of single, copyBack, amount. -/
import Derived.Test.YtjfifmadldcjjaaGreatDoorPut
set_option linter.unusedVariables false
namespace Go.Proofs.YtjfifmadldcjjaaGreatDoor.Pr
open Go.RowKit Rf
theorem Res.ok {S : Sink} {A : Adr} {s : ByteArray} {win most : Nat} {w w' : World} {U : US} (h : U.st.bad = false) (hu : UP S w' A s win most U) (hp : PE A.base w w') : Res S A s win most w U (.returned .nilIface) w' := .inl ⟨h, rfl, hu, hp⟩
theorem Res.no {S : Sink} {A : Adr} {s : ByteArray} {win most : Nat} {w w' : World} {U : US} {a : Addr} (h : U.st.bad = true) (hu : UE w' A s) (hp : PE A.base w w') : Res S A s win most w U (.returned (.iface 62 (.pointer (some a)))) w' := .inr ⟨h, ⟨a, rfl⟩, hu, hp⟩
set_option maxRecDepth 10000 in
set_option maxHeartbeats 2000000 in
theorem single_any (S : Sink) (A : Adr) (s : ByteArray) (win most : Nat) (u : US) (x : UInt8) (w : World) (hS : S.Ok) (hP : PutOk S) (h : UP S w A s win most u) (hm : most ≤ 16777216) (hw1 : 1 ≤ win) (hw2 : win ≤ 32768) :
    Calls Tryz.prog 76 #[.pointer (some ⟨A.ub, 0, none⟩), .int .u8 ((x.toNat : Nat) : Int)] w fun e w' => Res S A s win most w (putT most x u) e w' := by
  have h1 : u.st.bad = false := h.facts.1
  go_enter Tryz.func76, Tryz.ntmps76
  go_wp2_with fail
  refine (room_any S A s win most 1 u _ hS h hm (by omega)).mono ?_
  rintro e w1 (⟨k1, rfl, rfl⟩ | ⟨k1, ⟨a, rfl⟩, k2, k3⟩)
  · go_wp2_with fail
    refine (hP A s win most u x _ h (by omega) hm hw1 hw2).mono ?_
    rintro e w2 ⟨rfl, g1, g2⟩
    go_wp2_with fail
    go_ret
    refine .inl ⟨?_, rfl, ?_, g2⟩
    · rw [putT_go most x u (by omega) h1]; exact h1
    · rw [putT_go most x u (by omega) h1]; exact g1
  · go_wp2_with fail
    go_ret
    exact .inr ⟨by rw [putT_full most x u (by omega)], ⟨a, rfl⟩, k2, k3⟩
theorem single_int (S : Sink) (A : Adr) (s : ByteArray) (win most : Nat) (u : US) (x : UInt8) (a : Int) (ha : a = ((x.toNat : Nat) : Int)) (w : World) (hS : S.Ok) (hP : PutOk S) (h : UP S w A s win most u) (hm : most ≤ 16777216) (hw1 : 1 ≤ win) (hw2 : win ≤ 32768) :
    Calls Tryz.prog 76 #[.pointer (some ⟨A.ub, 0, none⟩), .int .u8 a] w fun e w' => Res S A s win most w (putT most x u) e w' := by
  subst ha; exact single_any S A s win most u x w hS hP h hm hw1 hw2
/-- bytes that come again, once it is known how many and how far back -/
def backT (win most back count : Nat) (u : US) : US := if win < back ∨ u.out.length < back then ⟨⟨u.st.pos, true⟩, u.out⟩ else cpL most back count u
theorem backT_no (win most back count : Nat) (u : US) (h : win < back ∨ u.out.length < back) : backT win most back count u = ⟨⟨u.st.pos, true⟩, u.out⟩ := if_pos h
theorem backT_go (win most back count : Nat) (u : US) (h : ¬ (win < back ∨ u.out.length < back)) : backT win most back count u = cpL most back count u := if_neg h
theorem UP.ring {S : Sink} {w : World} {A : Adr} {s : ByteArray} {win most : Nat} {u : US} (h : UP S w A s win most u) : ∃ vr, RingAt w A.gb A.base vr win u.out := by
  obtain ⟨vr, F, fx, h1, h2, h3, h4, _⟩ := h; exact ⟨vr, h4⟩
set_option maxRecDepth 10000 in
set_option maxHeartbeats 4000000 in
theorem copyBack_any (S : Sink) (A : Adr) (s : ByteArray) (win most back count : Nat) (u : US) (w : World) (hS : S.Ok) (hP : PutOk S) (h : UP S w A s win most u) (hm : most ≤ 16777216) (hw1 : 1 ≤ win) (hw2 : win ≤ 32768) (hb1 : 1 ≤ back) (hb2 : back ≤ 1000000) (hc1 : 1 ≤ count) (hc2 : count ≤ 100000) (hroom : u.out.length + count ≤ most) :
    Calls Tryz.prog 86 #[.pointer (some ⟨A.ub, 0, none⟩), .int .i64 (back : Int), .int .i64 (count : Int)] w fun e w' => Res S A s win most w (backT win most back count u) e w' := by
  by_cases hno : win < back ∨ u.out.length < back
  · rw [backT_no win most back count u hno]
    obtain ⟨c0, c1, c2, c3⟩ := h.cells
    obtain ⟨vr, hr⟩ := h.ring
    go_enter Tryz.func86, Tryz.ntmps86
    go_wp2_with fail
    refine wp_loop_rounds 1 ?_
    rw [rounds_succ]
    go_wp2_with fail
    refine (back_none A.gb A.base vr win back u.out _ hr hw1 hw2 hb1 hb2 (by omega)).mono ?_
    rintro e w1 ⟨rfl, rfl⟩
    go_wp2_with fail
    refine (mal_any _ _).mono ?_
    rintro e w3 ⟨rfl, rfl⟩
    go_wp2_with fail
    go_ret
    exact .inr ⟨rfl, ⟨_, rfl⟩, h.ue.alloc _, PE.alloc _ _ _ h.base⟩
  · rw [backT_go win most back count u hno]
    go_enter Tryz.func86, Tryz.ntmps86
    go_wp2_with fail
    go_loopw [11] (fun iv wr => ∃ (j : Nat) (t : US), j ≤ count ∧ iv = .int .i64 (j : Int) ∧ cpL most back count u = cpL most back (count - j) t ∧ t.out.length = u.out.length + j ∧ UP S wr A s win most t ∧ PE A.base w wr) (fun iv _ => count - (intOf iv).toNat)
    case atStart => exact ⟨0, u, Nat.zero_le _, rfl, rfl, rfl, h, PE.refl _ _⟩
    case round =>
      obtain ⟨j, t, hj, rfl, ht1, ht2, hU, hPE⟩ := hrel
      have HT : Hid _ := ht1
      have HL : Hid (t.out.length = u.out.length + j) := ht2
      clear ht1 ht2
      by_cases hlt : j < count
      · obtain ⟨c0, c1, c2, c3⟩ := hU.cells
        obtain ⟨vr, hr⟩ := hU.ring
        have hbad : t.st.bad = false := hU.facts.1
        have H1 : Hid (back ≤ min t.out.length win ∧ t.out.length < most) := (by have := HL.out; omega : _ ∧ _)
        have H2 : Hid (cpL most back (count - j) t = cpL most back (count - (j + 1)) ⟨t.st, t.out ++ [t.out.getD (t.out.length - back) 0]⟩) := (by
          rw [show count - j = (count - (j + 1)) + 1 by omega, cpL_go most back _ t hbad, putT_go most _ t (by have := H1.out; omega) hbad] : _ = _)
        go_wp2_with fail
        refine (back_some A.gb A.base vr win back t.out _ hr hw1 hw2 hb1 H1.out.1).mono ?_
        rintro e w1 ⟨rfl, hw1'⟩
        have hw1' := hw1'.symm
        subst hw1'
        go_wp2_with fail
        refine (hP A s win most t (t.out.getD (t.out.length - back) 0) _ hU H1.out.2 hm hw1 hw2).mono ?_
        rintro e w2 ⟨rfl, g1, g2⟩
        clear c0 c1 c2 c3 hr
        go_wp2_with fail
        go_roundw
        case rel => exact ⟨j + 1, _, by omega, by go_num, HT.out.trans H2.out, by simp only [List.length_append, List.length_singleton]; have := HL.out; omega, g1, hPE.trans g2⟩
        case measure => simp [intOf]; omega
      · have H2 : Hid (cpL most back count u = t) := (by rw [HT.out, show count - j = 0 by omega]; rfl : _ = _)
        go_wp2_with fail
        go_ret
        exact .inl ⟨by rw [H2.out]; exact hU.facts.1, rfl, by rw [H2.out]; exact hU, hPE⟩
end Go.Proofs.YtjfifmadldcjjaaGreatDoor.Pr
