/- The walk of the program's Unwrap; both answers are one. -/
import Derived.Test.YtephkcdbnogdhaaGreatDoorMQ
import Derived.Test.YtephkcdbnogdhaaGreatDoorMT
import Derived.Test.YtephkcdbnogdhaaGreatDoorMU
set_option linter.unusedVariables false
namespace Go.Proofs.YtephkcdbnogdhaaGreatDoor.Pr
open Go.RowKit Rf
open RfW (inflU tailL tailL_yes tailL_no adA unwB unwV hdrOk)
open AdW (one)
open Ad (adl)
set_option maxRecDepth 10000 in
set_option maxHeartbeats 2000000 in
theorem unwrap_limit (s : ByteArray) (n : Int) (w : World) (h : n < 0 ∨ 16777216 < n) :
    Calls Tryz.prog 14 #[.string s, .int .i64 n] w fun e w' => e = .returned (.tuple #[.string ⟨#[]⟩, .int .i64 1]) ∧ w' = w := by
  by_cases h1 : n < 0
  · go_enter Tryz.func14, Tryz.ntmps14
    go_wp2
    go_ret2
    exact ⟨rfl, rfl⟩
  · have h2 : 16777216 < n := by omega
    go_enter Tryz.func14, Tryz.ntmps14
    go_wp2
    go_ret2
    exact ⟨rfl, rfl⟩
set_option maxRecDepth 10000 in
set_option maxHeartbeats 4000000 in
theorem unwrap_go (s : ByteArray) (n : Nat) (eb : Addr) (w : World) (hs : s.size ≤ 140737488354000) (h3 : n ≤ 16777216) (hEnd : EndIs w eb) (hO : OrderIs w) (hT : TypeIs w) (hg : 7 ≤ w.heap.size) :
    Calls Tryz.prog 14 #[.string s, .int .i64 (n : Int)] w fun e w' =>
      ((WOk s n (fun _ => True) ∧ e = .returned (.tuple #[.string ⟨(wU s n).out.toArray⟩, .int .i64 0])) ∨ (¬ WOk s n (fun _ => True) ∧ e = .returned (.tuple #[.string ⟨#[]⟩, .int .i64 3]))) ∧ Below w.heap.size w w' := by
  obtain ⟨w2, hw2, t1, t2, t3, t4, t5, t6, t7⟩ := text_new w s eb hEnd hO hT hg
  have HPK := Wrapped_go (srcTx (w.heap.size + 1) w.heap.size eb) t5 s n w2 w.heap.size 41 _ _ (innB_ok w.heap.size w.heap.size) _ _ _ (srcTx_end _ _ _) _ t7 (fun k hk => by
    rcases hk with rfl | hk
    · exact ⟨Nat.le_refl _, fun e => by have e : w.heap.size = w.heap.size + 1 := e; omega⟩
    · simp [Value.ownBlock] at hk) t2 t3 rfl hs h3
  have HB0 : Hid _ := t1
  have HT4 : Hid _ := t4
  clear t1 t2 t3 t4 t5 t6 t7
  have HPK' : Calls Tryz.prog 45 #[.iface 83 (.pointer (some ⟨w.heap.size + 1, 0, none⟩)), .int .i64 (n : Int), .func (.func 41) #[.pointer (some ⟨w.heap.size, 0, none⟩)] #[]] w2 _ := HPK
  clear HPK
  obtain ⟨Q, hQ0⟩ : ∃ Q : Prop, Q = WOk s n (fun _ => True) := ⟨_, rfl⟩
  rw [← hQ0] at HPK' ⊢
  clear hQ0
  generalize wU s n = U at *
  go_enter Tryz.func14, Tryz.ntmps14
  go_wp2_with fail
  refine (ofText_any _ _).mono ?_
  rintro e w1 ⟨rfl, hw1⟩
  rw [← hw2] at hw1
  subst hw1
  rw [World.size_alloc]
  clear hw2
  go_wp2_with fail
  refine HPK'.mono ?_
  clear HPK'
  rintro e w1 (⟨q1, rfl, ⟨F', ⟨v, q3, _⟩, _⟩, _, _, q4⟩ | ⟨⟨T, a, rfl, q1⟩, _, q4⟩)
  · have HB1 : Hid (Below w.heap.size w w1) := HB0.out.trans q4.below
    have HQ : Hid Q := q1
    clear q1 q4 HB0
    go_wp2_with fail
    refine (string_any w.heap.size w.heap.size v U.out _ q3).mono ?_
    rintro e w2 ⟨rfl, hb⟩
    go_wp2_with fail
    go_ret2
    exact ⟨.inl ⟨HQ.out, rfl⟩, HB1.out.trans hb⟩
  · have HB1 : Hid (Below w.heap.size w w1) := HB0.out.trans q4.below
    have hT1 : TypeIs w1 := TypeIs.over HT4.out (fun k hk => q4.low k (by show k < w.heap.size; omega))
    have hM : IsMal w1 T a ∧ ¬ Q := by
      rcases q1 with ⟨q1, q2 | ⟨p, q2, _⟩⟩ | ⟨_, q2⟩
      · exact ⟨q1, q2⟩
      · exact absurd q2 id
      · exact absurd q2 id
    have hle : w.heap.size ≤ w1.heap.size := HB1.out.size
    have hM1 := hM.1
    have HQ : Hid (¬ Q) := hM.2
    clear q1 q4 HB0 hM
    go_wp2_with fail
    refine (errno_mal T a _ hT1 hM1).mono ?_
    rintro e w2 ⟨rfl, hb⟩
    go_wp2_with fail
    go_ret2
    exact ⟨.inr ⟨HQ.out, rfl⟩, HB1.out.trans (hb.mono hle)⟩
theorem tail_iff (s : ByteArray) (q a : Nat) (hq : q + 4 = s.size) : tailL s 4 0 a = true ↔ SumOk s q a := by
  unfold SumOk
  simp only [tailL]
  rw [show s.size - 1 - 0 = q + 3 by omega, show s.size - 1 - (0 + 1) = q + 2 by omega, show s.size - 1 - (0 + 1 + 1) = q + 1 by omega, show s.size - 1 - (0 + 1 + 1 + 1) = q by omega]
  rw [show a / 256 / 256 = a / 65536 by omega, show a / 65536 / 256 = a / 16777216 by omega]
  constructor
  · intro h
    split at h
    · split at h
      · split at h
        · split at h
          · exact ⟨by omega, by assumption, by assumption, by assumption, by assumption⟩
          · cases h
        · cases h
      · cases h
    · cases h
  · rintro ⟨_, h1, h2, h3, h4⟩
    rw [if_pos h4, if_pos h3, if_pos h2, if_pos h1]
theorem unw_iff (s : ByteArray) (n : Nat) (h2 : 2 ≤ s.size) (hh : headOk (byteAt s 0) (byteAt s 1)) : unwB s n (wU s n) = true ↔ WOk s n (fun _ => True) := by
  unfold unwB WOk
  have ha : adA (wU s n).out = one (adl 1 0 (wU s n).out) := rfl
  rw [ha]
  simp only [Bool.and_eq_true, decide_eq_true_eq, Bool.not_eq_true']
  constructor
  · rintro ⟨⟨⟨h1, h3⟩, h4⟩, h5⟩
    exact ⟨⟨h2, hh⟩, h1, h3, (tail_iff s _ _ h4).1 h5, h4, trivial⟩
  · rintro ⟨_, h1, h3, h5, h4, _⟩
    exact ⟨⟨⟨h1, h3⟩, h4⟩, (tail_iff s _ _ h4).2 h5⟩
/-- what Unwrap answers -/
noncomputable def unwA (s : ByteArray) (n : Nat) : ByteArray × Int := by
  classical
  exact if WOk s n (fun _ => True) then (⟨(wU s n).out.toArray⟩, 0) else (⟨#[]⟩, 3)
theorem unwrap_both (s : ByteArray) (n : Nat) (eb : Addr) (w : World) (hs : s.size ≤ 140737488354000) (h3 : n ≤ 16777216) (hEnd : EndIs w eb) (hO : OrderIs w) (hT : TypeIs w) (hg : 7 ≤ w.heap.size) :
    Calls Tryz.prog 14 #[.string s, .int .i64 (n : Int)] w fun e w' => e = .returned (.tuple #[.string (unwA s n).1, .int .i64 (unwA s n).2]) ∧ Below w.heap.size w w' := by
  refine (unwrap_go s n eb w hs h3 hEnd hO hT hg).mono ?_
  rintro e w' ⟨⟨hq, rfl⟩ | ⟨hq, rfl⟩, hb⟩
  · refine ⟨?_, hb⟩
    unfold unwA; rw [if_pos hq]
  · refine ⟨?_, hb⟩
    unfold unwA; rw [if_neg hq]
theorem refUnwrap_both (s : ByteArray) (n : Nat) (w : World) (hs : s.size ≤ 140737488351232) (h3 : n ≤ 16777216) :
    Calls Tryz.prog 15 #[.string s, .int .i64 (n : Int)] w fun e w' => e = .returned (.tuple #[.string (unwA s n).1, .int .i64 (unwA s n).2]) ∧ Below w.heap.size w w' := by
  by_cases h2 : s.size < 2
  · refine (RfW.unwrap_short s n w h3 h2).mono ?_
    rintro e w' ⟨rfl, rfl⟩
    refine ⟨?_, Below.refl _ _⟩
    unfold unwA; rw [if_neg (fun h => by have := h.1.1; omega)]
  · have e0 : (s[0]'(by omega)).toNat = byteAt s 0 := (byteAt_is s 0 (by omega)).symm
    have e1 : (s[1]'(by omega)).toNat = byteAt s 1 := (byteAt_is s 1 (by omega)).symm
    by_cases hh : headOk (byteAt s 0) (byteAt s 1)
    · refine (RfW.unwrap_go s n w hs h3 h2 _ _ e0 e1 hh).mono ?_
      rintro e w' ⟨rfl, hb⟩
      refine ⟨?_, hb⟩
      show Ending.returned (unwV (unwB s n (wU s n)) (wU s n).out) = _
      have hi := unw_iff s n (by omega) hh
      unfold unwA unwV
      by_cases hq : WOk s n (fun _ => True)
      · rw [if_pos (hi.2 hq), if_pos hq]
      · rw [if_neg (fun h => hq (hi.1 h)), if_neg hq]
    · refine (RfW.unwrap_head s n w h3 h2 _ _ e0 e1 hh).mono ?_
      rintro e w' ⟨rfl, rfl⟩
      refine ⟨?_, Below.refl _ _⟩
      unfold unwA; rw [if_neg (fun h => hh h.1.2)]
end Go.Proofs.YtephkcdbnogdhaaGreatDoor.Pr
