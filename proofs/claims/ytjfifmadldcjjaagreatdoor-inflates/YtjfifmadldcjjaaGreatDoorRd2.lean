/- The program's row of bits: the walks of Bit, Number, Align, Taken, Position. -/
import Derived.Test.YtjfifmadldcjjaaGreatDoorRd
namespace Go.Proofs.YtjfifmadldcjjaaGreatDoor.Pr
open Go.RowKit Rf
theorem ret_int {k : IntKind} {a b : Int} (h : a = b) : Ending.returned (.int k a) = .returned (.int k b) := by rw [h]
theorem ret_iv {k : IntKind} {a b : Int} {y : Value} (h : a = b) : Ending.returned (.tuple #[.int k a, y]) = .returned (.tuple #[.int k b, y]) := by rw [h]
theorem and_one (v : Nat) (h : v < 4294967296) : bits BinOp.and IntKind.u32 (v : Int) 1 = ((v % 2 : Nat) : Int) := by
  have e := u32_and_nat v 1 h (by omega)
  have e2 : v &&& 1 = v % 2 := Nat.and_one_is_mod v
  rw [e2] at e
  exact e
/-- the cells of a reader -/
theorem RdG.cells {w : World} {tb rb : Nat} {s : ByteArray} {pos c : Nat} (h : RdG w tb rb s pos c) (hc : c ≤ 23) : ∃ v t : Nat, v = bitsV s pos c ∧ v < 8388608 ∧ pos + c = 8 * t ∧ t ≤ s.size ∧ tb ≠ rb ∧
    w.heap[tb]? = some (.cells #[.string (s.extract t s.size)] 39 (0, 0)) ∧
    w.heap[rb]? = some (.cells #[.iface 37 (.pointer (some ⟨tb, 0, none⟩)), .int .u32 (v : Int), .int .u64 (c : Int), .int .i64 (t : Int)] 74 (0, 0)) ∧
    w.cell? ⟨rb, 1, none⟩ = some (.int .u32 (v : Int)) ∧ w.cell? ⟨rb, 2, none⟩ = some (.int .u64 (c : Int)) ∧ w.cell? ⟨rb, 3, none⟩ = some (.int .i64 (t : Int)) ∧ (∀ o, w.frozen? ⟨rb, o, none⟩ = false) := by
  obtain ⟨t, h1, h2, h3, h4, h5⟩ := h
  refine ⟨_, t, rfl, Nat.lt_of_lt_of_le (bitsV_lt s pos c) (show 2 ^ c ≤ 2 ^ 23 from Nat.pow_le_pow_right (by omega) hc), h1, h2, h3, h4, h5, ?_, ?_, ?_, fun o => (cell_of h5 o).2⟩
  · simpa using (cell_of h5 1).1
  · simpa using (cell_of h5 2).1
  · simpa using (cell_of h5 3).1
/-- what reading n of the c bits that are held leaves -/
theorem RdG.read {w : World} {tb rb : Nat} {s : ByteArray} {pos c : Nat} (h : RdG w tb rb s pos c) (n : Nat) (hn : n ≤ c) (x k : Int) (hx : x = ((bitsV s (pos + n) (c - n) : Nat) : Int)) (hk : k = ((c - n : Nat) : Int)) :
    RdG ((w.setCell ⟨rb, 1, none⟩ (.int .u32 x)).setCell ⟨rb, 2, none⟩ (.int .u64 k)) tb rb s (pos + n) (c - n) ∧ RF tb rb w ((w.setCell ⟨rb, 1, none⟩ (.int .u32 x)).setCell ⟨rb, 2, none⟩ (.int .u64 k)) ∧ ((w.setCell ⟨rb, 1, none⟩ (.int .u32 x)).setCell ⟨rb, 2, none⟩ (.int .u64 k)).heap.size = w.heap.size := by
  obtain ⟨t, h1, h2, h3, h4, h5⟩ := h
  refine ⟨⟨t, by omega, h2, h3, ?_, ?_⟩, ?_, by simp⟩
  · exact (set_other 2 _ h3).trans ((set_other 1 _ h3).trans h4)
  · refine (set_of (set_of h5 1 _) 2 _).trans ?_
    rw [hx, hk]
    simp
  · exact ((RF.refl tb rb w).set rb 1 (.inr rfl) _).set rb 2 (.inr rfl) _
theorem RdG.rdE {w : World} {tb rb : Nat} {s : ByteArray} {pos c : Nat} (h : RdG w tb rb s pos c) (hc : c ≤ 23) : RdE w tb rb s := ⟨pos, c, hc, h⟩
set_option maxRecDepth 10000 in
set_option maxHeartbeats 2000000 in
theorem bit_any (tb rb : Nat) (eb : Addr) (s : ByteArray) (pos : Nat) (w : World) (h : Rd w tb rb s pos) (hend : EndIs w eb) (hs : s.size ≤ 140737488351232) :
    Calls Tryz.prog 56 #[.pointer (some ⟨rb, 0, none⟩)] w fun e w' =>
      ((oneT s ⟨pos, false⟩).2.bad = false ∧ pos < 8 * s.size ∧ e = .returned (.tuple #[.int .i64 ((bitsV s pos 1 : Nat) : Int), .nilIface]) ∧ Rd w' tb rb s (pos + 1) ∧ RF tb rb w w' ∧ w'.heap.size = w.heap.size) ∨
      ((oneT s ⟨pos, false⟩).2.bad = true ∧ (∃ a, e = .returned (.tuple #[.int .i64 0, .iface 62 (.pointer (some a))])) ∧ RdE w' tb rb s ∧ RF tb rb w w') := by
  obtain ⟨c, hc, h⟩ := h
  obtain ⟨v, t, hv, hvl, h1, h2, h3, h4, h5, d1, d2, d3, hfr⟩ := h.cells (by omega)
  have HV : Hid (v = bitsV s pos c) := hv
  have H1 : Hid (pos + c = 8 * t) := h1
  clear hv h1
  by_cases h0 : c = 0
  · subst h0
    by_cases hlt : pos + 0 < 8 * s.size
    · have d20 : decide ((0 : Int) = 0) = true := by simp
      go_enter Tryz.func56, Tryz.ntmps56
      go_wp2_with fail
      refine (take_ok tb rb s pos 0 _ h (by omega) hlt hs).mono ?_
      rintro e w1 ⟨rfl, k1, k2, k3⟩
      clear HV H1 hvl h4 h5 d1 d2 d3 hfr
      obtain ⟨v1, t1, hv1, hvl1, hh1, hh2, hh3, hh4, hh5, d1, d2, d3, hfr⟩ := k1.cells (by omega)
      have HV : Hid (v1 = bitsV s pos (0 + 8)) := hv1
      have f1 := hfr 1
      have f2 := hfr 2
      clear hv1 hh1 hfr
      obtain ⟨b, hb⟩ : ∃ b, b = v1 % 2 := ⟨_, rfl⟩
      have hand : bits BinOp.and IntKind.u32 (v1 : Int) 1 = (b : Int) := by rw [hb]; exact and_one v1 (by omega)
      have hb2 : b ≤ 1 := by omega
      have HB : Hid (b = bitsV s pos 1) := (by rw [hb, HV.out]; exact bitsV_mod s pos 1 8 (by omega) : _ = _)
      have HD : Hid (v1 / 2 = bitsV s (pos + 1) 7) := (by rw [HV.out]; exact bitsV_div s pos 1 8 (by omega) : _ = _)
      clear hb
      go_wp2_with fail
      go_ret2
      have R := k1.read 1 (by omega) ((v1 : Int) / 2) 7 (by rw [show (0 + 8 - 1 : Nat) = 7 from rfl, ← HD.out]; omega) rfl
      exact .inl ⟨by rw [oneT_ok s pos (by omega)], by omega, ret_iv (congrArg Nat.cast HB.out), ⟨_, by omega, R.1⟩, k2.trans R.2.1, R.2.2.trans k3⟩
    · have d20 : decide ((0 : Int) = 0) = true := by simp
      have H1o : pos ≤ 8 * s.size := by have := H1.out; omega
      go_enter Tryz.func56, Tryz.ntmps56
      go_wp2_with fail
      refine (take_end tb rb eb s pos 0 _ h hend hlt).mono ?_
      rintro e w1 ⟨⟨a, rfl⟩, k1, k2⟩
      clear HV H1 hvl h4 h5 d1 d2 d3 hfr
      go_wp2_with fail
      go_ret2
      exact .inr ⟨oneT_short s pos (by omega), ⟨a, rfl⟩, k1.rdE (by omega), k2⟩
  · have hcn : decide ((c : Int) = 0) = false := by simp; omega
    have hlt : pos < 8 * s.size := by have := H1.out; omega
    have f1 := hfr 1
    have f2 := hfr 2
    clear hfr
    obtain ⟨b, hb⟩ : ∃ b, b = v % 2 := ⟨_, rfl⟩
    have hand : bits BinOp.and IntKind.u32 (v : Int) 1 = (b : Int) := by rw [hb]; exact and_one v (by omega)
    have hb2 : b ≤ 1 := by omega
    have hc1 : 1 ≤ c := by omega
    have HB : Hid (b = bitsV s pos 1) := (by rw [hb, HV.out]; exact bitsV_mod s pos 1 c (by omega) : _ = _)
    have HD : Hid (v / 2 = bitsV s (pos + 1) (c - 1)) := (by rw [HV.out]; exact bitsV_div s pos 1 c (by omega) : _ = _)
    clear hb
    go_enter Tryz.func56, Tryz.ntmps56
    go_wp2_with fail
    go_ret2
    have R := h.read 1 (by omega) ((v : Int) / 2) ((c : Int) - 1) (by rw [← HD.out]; omega) (by omega)
    exact .inl ⟨by rw [oneT_ok s pos (by omega)], by omega, ret_iv (congrArg Nat.cast HB.out), ⟨_, by omega, R.1⟩, R.2.1, R.2.2⟩
/-- how many bits are held, as memory has it -/
def heldIn (w : World) (rb : Nat) : Nat := match w.cell? ⟨rb, 2, none⟩ with
  | some (.int _ n) => n.toNat
  | _ => 0
theorem heldIn_of {w : World} {tb rb : Nat} {s : ByteArray} {pos c : Nat} (h : RdG w tb rb s pos c) : heldIn w rb = c := by
  obtain ⟨t, h1, h2, h3, h4, h5⟩ := h
  have d2 : w.cell? ⟨rb, 2, none⟩ = some (.int .u64 (c : Int)) := by simpa using (cell_of h5 2).1
  unfold heldIn
  rw [d2]; simp
/-- the lowest n of k bits that are held, and the others -/
theorem low_bits (s : ByteArray) (pos n k v : Nat) (hk : n ≤ k) (hn : n ≤ 16) (hvl : v < 8388608) (hv : v = bitsV s pos k) : ∃ b d : Nat, b = bitsV s pos n ∧ d = bitsV s (pos + n) (k - n) ∧ b ≤ 65535 ∧
    bits BinOp.and IntKind.u32 (v : Int) ((2 ^ n - 1) % 4294967296) = (b : Int) ∧ (v : Int) / 2 ^ n = (d : Int) := by
  have hp : 2 ^ n ≤ 2 ^ 16 := Nat.pow_le_pow_right (by omega) hn
  have hp1 : 1 ≤ 2 ^ n := Nat.two_pow_pos n
  refine ⟨v % 2 ^ n, v / 2 ^ n, by rw [hv]; exact bitsV_mod s pos n k hk, by rw [hv]; exact bitsV_div s pos n k hk, ?_, ?_, ?_⟩
  · have := Nat.mod_lt v hp1; omega
  · have e1 : ((2 : Int) ^ n - 1) % 4294967296 = ((2 ^ n - 1 : Nat) : Int) := by
      have : (2 : Int) ^ n = ((2 ^ n : Nat) : Int) := by simp
      rw [this]; omega
    rw [e1, u32_and_nat v (2 ^ n - 1) (by omega) (by omega)]
    congr 1
    exact Nat.and_two_pow_sub_one_eq_mod v n
  · simp
set_option maxRecDepth 10000 in
set_option maxHeartbeats 2000000 in
theorem number_any (tb rb : Nat) (eb : Addr) (s : ByteArray) (pos n : Nat) (w : World) (h : Rd w tb rb s pos) (hend : EndIs w eb) (hs : s.size ≤ 140737488351232) (hn : n ≤ 16) (hg1 : 0 ≠ tb) (hg2 : 0 ≠ rb) :
    Calls Tryz.prog 57 #[.pointer (some ⟨rb, 0, none⟩), .int .u64 (n : Int)] w fun e w' =>
      ((numT s n ⟨pos, false⟩).2.bad = false ∧ pos + n ≤ 8 * s.size ∧ e = .returned (.tuple #[.int .i64 ((bitsV s pos n : Nat) : Int), .nilIface]) ∧ Rd w' tb rb s (pos + n) ∧ RF tb rb w w' ∧ w'.heap.size = w.heap.size) ∨
      ((numT s n ⟨pos, false⟩).2.bad = true ∧ (∃ a, e = .returned (.tuple #[.int .i64 0, .iface 62 (.pointer (some a))])) ∧ RdE w' tb rb s ∧ RF tb rb w w') := by
  obtain ⟨c, hc, h⟩ := h
  go_enter Tryz.func57, Tryz.ntmps57
  go_wp2_with fail
  go_loopw [6] (fun x wr => ∃ k : Nat, RdG wr tb rb s pos k ∧ (k < 8 ∨ k < n + 8) ∧ RF tb rb w wr ∧ wr.heap.size = w.heap.size) (fun _ wr => 24 - heldIn wr rb)
  case atStart => exact ⟨c, h, .inl hc, RF.refl _ _ _, rfl⟩
  case round =>
    obtain ⟨k, hk, hk2, hk3, hk4⟩ := hrel
    have hk8 : k ≤ 23 := by omega
    have HH : Hid (heldIn wr rb = k) := heldIn_of hk
    obtain ⟨v, t, hv, hvl, h1, h2, h3, h4, h5, d1, d2, d3, hfr⟩ := hk.cells hk8
    have HV : Hid (v = bitsV s pos k) := hv
    have H1 : Hid (pos + k = 8 * t) := h1
    clear hv h1
    by_cases hkn : k < n
    · have hend1 : EndIs wr eb := hend.over (hk3.block _ hend.lt hg1 hg2)
      by_cases hlt : pos + k < 8 * s.size
      · go_wp2_with fail
        refine (take_ok tb rb s pos k _ hk (by omega) hlt hs).mono ?_
        rintro e w1 ⟨rfl, k1, k2, k3⟩
        clear HV H1 hvl h4 h5 d1 d2 d3 hfr
        have H2 : Hid (heldIn w1 rb = k + 8) := heldIn_of k1
        go_wp2_with fail
        go_roundw
        case rel => exact ⟨k + 8, k1, .inr (by omega), hk3.trans k2, k3.trans hk4⟩
        case measure => rw [HH.out, H2.out]; omega
      · have hpl : pos ≤ 8 * s.size := by have := H1.out; omega
        go_wp2_with fail
        refine (take_end tb rb eb s pos k _ hk hend1 hlt).mono ?_
        rintro e w1 ⟨⟨a, rfl⟩, k1, k2⟩
        clear HV H1 hvl h4 h5 d1 d2 d3 hfr
        go_wp2_with fail
        go_ret2
        exact .inr ⟨numT_short s n pos hpl (by omega), ⟨a, rfl⟩, k1.rdE (by omega), hk3.trans k2⟩
    · have f1 := hfr 1
      have f2 := hfr 2
      have hpn : pos + n ≤ 8 * s.size := by have := H1.out; omega
      clear hfr
      obtain ⟨b, d, hb, hd, hb2, hand, hdiv⟩ := low_bits s pos n k v (by omega) hn hvl HV.out
      have HB : Hid (b = bitsV s pos n) := hb
      have HD : Hid (d = bitsV s (pos + n) (k - n)) := hd
      clear hb hd
      go_wp2_with fail
      go_ret2
      have R := hk.read n (by omega) (d : Int) ((k : Int) - (n : Int)) (by rw [HD.out]) (by omega)
      exact .inl ⟨by rw [numT_ok s n pos hpn], hpn, ret_iv (congrArg Nat.cast HB.out), ⟨_, by omega, R.1⟩, hk3.trans R.2.1, R.2.2.trans hk4⟩
set_option maxRecDepth 10000 in
set_option maxHeartbeats 2000000 in
theorem align_any (tb rb : Nat) (s : ByteArray) (pos : Nat) (w : World) (h : Rd w tb rb s pos) :
    Calls Tryz.prog 66 #[.pointer (some ⟨rb, 0, none⟩)] w fun e w' => e = .returned (.tuple #[]) ∧ Rd w' tb rb s ((pos + 7) / 8 * 8) ∧ RF tb rb w w' ∧ w'.heap.size = w.heap.size := by
  obtain ⟨c, hc, h⟩ := h
  obtain ⟨v, t, hv, hvl, h1, h2, h3, h4, h5, d1, d2, d3, hfr⟩ := h.cells (by omega)
  have f1 := hfr 1
  have f2 := hfr 2
  have H1 : Hid (pos + c = 8 * t) := h1
  clear hfr hv h1
  go_enter Tryz.func66, Tryz.ntmps66
  go_wp2_with fail
  go_end0
  have e8 : (pos + 7) / 8 * 8 = pos + c := by have := H1.out; omega
  rw [e8]
  have R := h.read c (Nat.le_refl _) 0 0 (by rw [Nat.sub_self]; rfl) (by rw [Nat.sub_self]; rfl)
  exact ⟨rfl, ⟨_, by omega, R.1⟩, R.2.1, R.2.2⟩
set_option maxRecDepth 10000 in
set_option maxHeartbeats 2000000 in
theorem taken_any (tb rb : Nat) (s : ByteArray) (pos : Nat) (w : World) (h : Rd w tb rb s pos) :
    Calls Tryz.prog 20 #[.pointer (some ⟨rb, 0, none⟩)] w fun e w' => e = .returned (.int .i64 (((pos + 7) / 8 : Nat) : Int)) ∧ w' = w := by
  obtain ⟨c, hc, h⟩ := h
  obtain ⟨v, t, hv, hvl, h1, h2, h3, h4, h5, d1, d2, d3, hfr⟩ := h.cells (by omega)
  have e8 : t = (pos + 7) / 8 := by omega
  have H8 : Hid (t = (pos + 7) / 8) := e8
  clear hfr hv h1 e8
  go_enter Tryz.func20, Tryz.ntmps20
  go_wp2_with fail
  go_ret
  exact ⟨ret_int (congrArg Nat.cast H8.out), rfl⟩
set_option maxRecDepth 10000 in
set_option maxHeartbeats 2000000 in
theorem position_any (tb rb : Nat) (s : ByteArray) (w : World) (h : RdE w tb rb s) (hs : s.size ≤ 140737488351232) :
    Calls Tryz.prog 35 #[.pointer (some ⟨rb, 0, none⟩)] w fun e w' => (∃ n : Int, e = .returned (.int .i64 n)) ∧ ∃ n, w' = w.drewN n := by
  obtain ⟨pos, c, hc, h⟩ := h
  obtain ⟨v, t, hv, hvl, h1, h2, h3, h4, h5, d1, d2, d3, hfr⟩ := h.cells (by omega)
  clear hfr hv h1
  go_enter Tryz.func35, Tryz.ntmps35
  go_wp2_with fail
  go_quiet (fail)
  go_wp2_with fail
  go_ret
  exact ⟨⟨_, rfl⟩, _, rfl⟩
end Go.Proofs.YtjfifmadldcjjaaGreatDoor.Pr
