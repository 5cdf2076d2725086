/- The walks of the document's row of bits: bit, one, number. -/
import Derived.Test.YtephkcdbnogdhaaGreatDoorRows
import Derived.Test.YtephkcdbnogdhaaGreatDoorMA
import Derived.WalkKit
import Derived.BigQuiet
import Derived.Deep.QuietTactic
import Derived.Deep.RegionWith
import Derived.Deep.DeepCutAuto
import Derived.OwnWalk
import Derived.Deep.DeepMust
import Derived.OneCell
set_option linter.unusedVariables false
namespace Go.Proofs.YtephkcdbnogdhaaGreatDoor.RfW
open Go.RowKit Rf
theorem ret_int {k : IntKind} {a b : Int} (h : a = b) : Ending.returned (.int k a) = .returned (.int k b) := by rw [h]
/-- but for block b nothing has turned -/
structure Only (b : Nat) (w w' : World) : Prop where
  os : w'.os = w.os
  tape : w'.tape = w.tape
  output : w'.output = w.output
  size : w'.heap.size = w.heap.size
  block : ∀ k, k ≠ b → w'.heap[k]? = w.heap[k]?
theorem Only.refl (b : Nat) (w : World) : Only b w w := ⟨rfl, rfl, rfl, rfl, fun _ _ => rfl⟩
theorem Only.trans {b : Nat} {u v w : World} (h : Only b u v) (k : Only b v w) : Only b u w :=
  ⟨k.os.trans h.os, k.tape.trans h.tape, k.output.trans h.output, k.size.trans h.size, fun i hi => (k.block i hi).trans (h.block i hi)⟩
theorem Only.drewN {b : Nat} {u v : World} (h : Only b u v) (n : Nat) : Only b u (v.drewN n) := ⟨h.os, h.tape, h.output, h.size, h.block⟩
theorem Only.drew {b : Nat} {u v : World} (h : Only b u v) : Only b u v.drew := ⟨h.os, h.tape, h.output, h.size, h.block⟩
theorem Only.setCell {b : Nat} {u v : World} (h : Only b u v) (o : Nat) (x : Value) : Only b u (v.setCell ⟨b, o, none⟩ x) :=
  ⟨h.os, h.tape, h.output, by simpa using h.size, fun k hk => (Below.heap_setCell v ⟨b, o, none⟩ x k hk).trans (h.block k hk)⟩
/-- the row lies in block b -/
def RowIs (w : World) (b : Nat) (s : ByteArray) (st : RS) : Prop :=
  w.heap[b]? = some (.cells #[.string s, .int .i64 (st.pos : Nat), .bool st.bad] 91 (0, 0)) ∧ st.pos ≤ 8 * s.size
theorem RowIs.c0 {w : World} {b : Nat} {s : ByteArray} {st : RS} (h : RowIs w b s st) : w.cell? ⟨b, 0, none⟩ = some (.string s) := by simp [World.cell?, h.1]
theorem RowIs.c1 {w : World} {b : Nat} {s : ByteArray} {st : RS} (h : RowIs w b s st) : w.cell? ⟨b, 1, none⟩ = some (.int .i64 (st.pos : Nat)) := by simp [World.cell?, h.1]
theorem RowIs.c2 {w : World} {b : Nat} {s : ByteArray} {st : RS} (h : RowIs w b s st) : w.cell? ⟨b, 2, none⟩ = some (.bool st.bad) := by simp [World.cell?, h.1]
theorem RowIs.free {w : World} {b : Nat} {s : ByteArray} {st : RS} (h : RowIs w b s st) (o : Nat) : w.frozen? ⟨b, o, none⟩ = false := by simp [World.frozen?, h.1]
theorem RowIs.drewN {w : World} {b : Nat} {s : ByteArray} {st : RS} (h : RowIs w b s st) (n : Nat) : RowIs (w.drewN n) b s st := h
theorem RowIs.over {w w' : World} {b : Nat} {s : ByteArray} {st : RS} (h : RowIs w b s st) (e : w'.heap[b]? = w.heap[b]?) : RowIs w' b s st := ⟨e.trans h.1, h.2⟩
theorem RowIs.set1 {w : World} {b : Nat} {s : ByteArray} {st : RS} (h : RowIs w b s st) (p : Nat) (hp : p ≤ 8 * s.size) (x : Value) (hx : x = .int .i64 (p : Nat)) : RowIs (w.setCell ⟨b, 1, none⟩ x) b s ⟨p, st.bad⟩ := by
  subst hx
  refine ⟨?_, hp⟩
  simp [World.setCell, Array.getElem?_modify, h.1]
theorem RowIs.set2 {w : World} {b : Nat} {s : ByteArray} {st : RS} (h : RowIs w b s st) (x : Bool) : RowIs (w.setCell ⟨b, 2, none⟩ (.bool x)) b s ⟨st.pos, x⟩ := by
  refine ⟨?_, h.2⟩
  simp [World.setCell, Array.getElem?_modify, h.1]
set_option maxHeartbeats 400000 in
theorem bit_any (v k : Nat) (w : World) (hv : v ≤ 255) (hk : k ≤ 8) :
    Calls Tryz.prog 114 #[.int .i64 v, .int .i64 k] w fun e w' => e = .returned (.int .i64 ((bitAt v k : Nat) : Int)) ∧ w' = w := by
  go_enter Tryz.func114, Tryz.ntmps114
  go_wp2
  go_loop [0, 1] (fun x j => ∃ n m y : Nat, n + m = k ∧ y = v / 2 ^ n ∧ j = .int .i64 m ∧ x = .int .i64 y) (fun _ j => (intOf j).toNat)
  case atStart => exact ⟨0, k, v, by omega, by simp, rfl, rfl⟩
  case round =>
    obtain ⟨n, m, y, hnm, hy, rfl, rfl⟩ := hrel
    have hle : y ≤ 255 := by rw [hy]; exact Nat.le_trans (Nat.div_le_self _ _) hv
    have hmk : m ≤ 8 := by omega
    by_cases hm : 0 < m
    · have H : Hid (n + 1 + (m - 1) = k ∧ y / 2 = v / 2 ^ (n + 1)) := (⟨by omega, by rw [hy, half_more]⟩ : _ ∧ _)
      clear hnm hy
      go_wp2
      go_round
      case rel => exact ⟨n + 1, m - 1, y / 2, H.out.1, H.out.2, by go_num, by go_num⟩
      case measure => simp [intOf]; omega
    · have hm0 : m = 0 := by omega
      subst hm0
      have H : Hid (y = v / 2 ^ k) := (by rw [← hnm]; exact hy : _ = _)
      clear hnm hy
      go_wp2
      go_ret
      exact ⟨ret_int (by rw [bitAt_of v k y H.out]; omega), rfl⟩
theorem bit_int (a b : Int) (v k : Nat) (ha : a = v) (hb : b = k) (w : World) (hv : v ≤ 255) (hk : k ≤ 8) :
    Calls Tryz.prog 114 #[.int .i64 a, .int .i64 b] w fun e w' => e = .returned (.int .i64 ((bitAt v k : Nat) : Int)) ∧ w' = w := by
  subst ha hb; exact bit_any v k w hv hk
set_option maxHeartbeats 1000000 in
theorem one_any (b : Nat) (s : ByteArray) (st : RS) (w : World) (hR : RowIs w b s st) (hs : s.size ≤ 140737488351232) :
    Calls Tryz.prog 78 #[.pointer (some ⟨b, 0, none⟩)] w fun e w' => e = .returned (.int .i64 (((oneT s st).1 : Nat) : Int)) ∧ RowIs w' b s (oneT s st).2 ∧ Only b w w' := by
  have h0 := hR.c0
  have h1 := hR.c1
  have h2 := hR.c2
  have hf1 := hR.free 1
  have hf2 := hR.free 2
  obtain ⟨p, bad⟩ := st
  have hp : p ≤ 8 * s.size := hR.2
  cases bad
  · by_cases hlt : p < 8 * s.size
    · have hT := oneT_go s ⟨p, false⟩ (by simp; omega)
      rw [hT]
      clear hT
      have hd : decide ((8 * (s.size : Int)) ≤ (p : Int)) = false := by simp; omega
      obtain ⟨q, hq⟩ : ∃ q, q = p / 8 := ⟨_, rfl⟩
      obtain ⟨m, hm⟩ : ∃ m, m = p % 8 := ⟨_, rfl⟩
      have hw8 : IntKind.i64.wrap ((p : Int) / 8) = (q : Int) := by rw [IntKind.wrap_i64]; omega
      have hw9 : Hid ((p : Int).tmod 8 = (m : Int)) := (by rw [Int.tmod_eq_emod_of_nonneg (by omega)]; omega : _ = _)
      have hw7 : Hid ((p : Int) % 8 = (m : Int)) := (by omega : _ = _)
      have hqs : q < s.size := by omega
      have hm8 : m ≤ 8 := by omega
      have hB : Hid (bitAt (byteAt s (p / 8)) (p % 8) = bitAt (s[q]).toNat m) := (by rw [← hq, ← hm, byteAt_is s q hqs] : _ = _)
      have hbyte : s[q].toNat ≤ 255 := by have := s[q].toNat_lt; omega
      clear hq hm
      go_enter Tryz.func78, Tryz.ntmps78
      go_wp2
      go_quiet (fail)
      have hO1 : Only b w (w.drewN nq) := (Only.refl b w).drewN nq
      have hR1 := hR.drewN nq
      generalize w.drewN nq = w1 at *
      clear h0 h1 h2 hf1 hf2
      have h0 := hR1.c0
      have h1 := hR1.c1
      have h2 := hR1.c2
      have hf1 := hR1.free 1
      go_wp2
      go_quiet ((go_at_call 114; exact Calls.quiet_of_same (bit_int _ _ (s[q]).toNat m (by first | rfl | (rw [IntKind.wrap_i64]; omega)) (by first | exact hw9.out | exact hw7.out) _ hbyte hm8)))
      go_wp2
      go_ret
      exact ⟨ret_int (by rw [hB.out]), (hR1.drewN nq).set1 (p + 1) (by omega) _ (by go_num), (hO1.drewN nq).setCell 1 _⟩
    · have hT := oneT_bad s ⟨p, false⟩ (Or.inr (by simp; omega))
      rw [hT]
      clear hT
      have hd : decide ((8 * (s.size : Int)) ≤ (p : Int)) = true := by simp; omega
      go_enter Tryz.func78, Tryz.ntmps78
      go_wp2
      go_quiet (fail)
      go_wp2
      go_ret
      exact ⟨rfl, (hR.drewN nq).set2 true, ((Only.refl b w).drewN nq).setCell 2 _⟩
  · have hT := oneT_bad s ⟨p, true⟩ (Or.inl rfl)
    rw [hT]
    clear hT
    go_enter Tryz.func78, Tryz.ntmps78
    go_wp2
    go_quiet (fail)
    go_wp2
    go_ret
    exact ⟨rfl, (hR.drewN nq).set2 true, ((Only.refl b w).drewN nq).setCell 2 _⟩
set_option maxHeartbeats 1000000 in
theorem number_any (b : Nat) (s : ByteArray) (st : RS) (n : Nat) (a : Int) (ha : a = n) (w : World) (hR : RowIs w b s st) (hs : s.size ≤ 140737488351232) (hn : n ≤ 16) :
    Calls Tryz.prog 79 #[.pointer (some ⟨b, 0, none⟩), .int .i64 a] w fun e w' => e = .returned (.int .i64 (((numT s n st).1 : Nat) : Int)) ∧ RowIs w' b s (numT s n st).2 ∧ Only b w w' := by
  subst ha
  go_enter Tryz.func79, Tryz.ntmps79
  go_wp2
  go_loopw [5, 6, 7] (fun v u i wr => ∃ (k j x y : Nat) (t : RS), k + j = n ∧ y = 2 ^ k ∧ x < y ∧ numT s n st = numL s j x y t ∧ v = .int .i64 x ∧ u = .int .i64 y ∧ i = .int .i64 k ∧ RowIs wr b s t ∧ Only b w wr) (fun _ _ i _ => n - (intOf i).toNat)
  case atStart => exact ⟨0, n, 0, 1, st, by omega, rfl, by omega, rfl, rfl, rfl, rfl, hR, Only.refl b w⟩
  case round =>
    obtain ⟨k, j, x, y, t, hkj, hy, hxy, hnum, rfl, rfl, rfl, hRt, hOt⟩ := hrel
    have hyb : y ≤ 65536 := by rw [hy]; exact Nat.le_trans (Nat.pow_le_pow_right (n := 2) (by omega) (show k ≤ 16 by omega)) (by decide)
    have hk16 : k ≤ 16 := by omega
    cases j with
    | zero =>
      have hk : k = n := by omega
      subst hk
      have H : Hid _ := hnum
      clear hnum hy hkj
      go_wp2
      go_ret
      exact ⟨ret_int (by rw [H.out]; rfl), by rw [H.out]; exact hRt, hOt⟩
    | succ j =>
      have hlt : k < n := by omega
      have hone := oneT_le s t
      have H : Hid (numT s n st = numL s j (x + y * (oneT s t).1) (2 * y) (oneT s t).2 ∧ 2 * y = 2 ^ (k + 1) ∧ k + 1 + j = n) := (⟨hnum, by rw [hy, Nat.pow_succ, Nat.mul_comm], by omega⟩ : _ ∧ _ ∧ _)
      clear hnum hy hkj
      go_wp2_with fail
      refine (one_any b s t _ hRt hs).mono ?_
      rintro e w2 ⟨rfl, hR2, hO2⟩
      generalize oneT s t = z at *
      obtain ⟨z1, z2⟩ := z
      have hz : z1 = 0 ∨ z1 = 1 := by simp at hone; omega
      rcases hz with rfl | rfl
      · go_wp2
        go_roundw
        case rel => exact ⟨k + 1, j, x, 2 * y, z2, H.out.2.2, H.out.2.1, by omega, by simpa using H.out.1, by go_num, by go_num, by go_num, hR2, hOt.trans hO2⟩
        case measure => simp [intOf]; omega
      · go_wp2
        go_roundw
        case rel => exact ⟨k + 1, j, x + y, 2 * y, z2, H.out.2.2, H.out.2.1, by omega, by simpa using H.out.1, by go_num, by go_num, by go_num, hR2, hOt.trans hO2⟩
        case measure => simp [intOf]; omega
end Go.Proofs.YtephkcdbnogdhaaGreatDoor.RfW
/- The walks of the document's small functions: power, lengthBits, distanceBits, length, distance, binary. -/
namespace Go.Proofs.YtephkcdbnogdhaaGreatDoor.RfW
open Go.RowKit Rf
theorem ret_two {k : IntKind} {a b c d : Int} (h : a = b) (g : c = d) : Ending.returned (.tuple #[.int k a, .int k c]) = .returned (.tuple #[.int k b, .int k d]) := by rw [h, g]
set_option maxRecDepth 10000 in
set_option maxHeartbeats 400000 in
theorem power_any (n : Nat) (a : Int) (ha : a = n) (w : World) (hn : n ≤ 16) :
    Calls Tryz.prog 46 #[.int .i64 a] w fun e w' => e = .returned (.int .i64 ((pw n : Nat) : Int)) ∧ w' = w := by
  subst ha
  go_enter Tryz.func46, Tryz.ntmps46
  go_wp2
  go_loop [0, 3] (fun j v => ∃ k m x : Nat, k + m = n ∧ x = pw k ∧ j = .int .i64 m ∧ v = .int .i64 x) (fun j _ => (intOf j).toNat)
  case atStart => exact ⟨0, n, 1, by omega, rfl, rfl, rfl⟩
  case round =>
    obtain ⟨k, m, x, hkm, hx, rfl, rfl⟩ := hrel
    have hxb : x ≤ 65536 := by rw [hx]; exact pw_le k 16 (by omega)
    have hm16 : m ≤ 16 := by omega
    by_cases hm : 0 < m
    · have H : Hid (k + 1 + (m - 1) = n ∧ 2 * x = pw (k + 1)) := (⟨by omega, by rw [hx, pw_succ]⟩ : _ ∧ _)
      clear hkm hx
      go_wp2
      go_round
      case rel => exact ⟨k + 1, m - 1, 2 * x, H.out.1, H.out.2, by go_num, by go_num⟩
      case measure => simp [intOf]; omega
    · obtain rfl : m = 0 := by omega
      have H : Hid (x = pw n) := (by rw [← hkm]; exact hx : _ = _)
      clear hkm hx
      go_wp2
      go_ret
      exact ⟨ret_int (by rw [← H.out]), rfl⟩
set_option maxRecDepth 10000 in
set_option maxHeartbeats 400000 in
theorem lenBits_any (s : Nat) (a : Int) (ha : a = s) (w : World) (hs : s ≤ 1000) :
    Calls Tryz.prog 142 #[.int .i64 a] w fun e w' => e = .returned (.int .i64 ((lenBits s : Nat) : Int)) ∧ w' = w := by
  subst ha
  by_cases h : s < 261
  · have H : Hid (lenBits s = 0) := if_pos h
    go_enter Tryz.func142, Tryz.ntmps142
    go_wp2
    go_ret
    exact ⟨ret_int (by rw [H.out]; rfl), rfl⟩
  · have H : Hid (lenBits s = (s - 261) / 4) := if_neg h
    go_enter Tryz.func142, Tryz.ntmps142
    go_wp2
    go_ret
    exact ⟨ret_int (by rw [H.out]; omega), rfl⟩
set_option maxRecDepth 10000 in
set_option maxHeartbeats 400000 in
theorem distBits_any (s : Nat) (a : Int) (ha : a = s) (w : World) (hs : s ≤ 1000) :
    Calls Tryz.prog 143 #[.int .i64 a] w fun e w' => e = .returned (.int .i64 ((distBits s : Nat) : Int)) ∧ w' = w := by
  subst ha
  by_cases h : s < 2
  · have H : Hid (distBits s = 0) := if_pos h
    go_enter Tryz.func143, Tryz.ntmps143
    go_wp2
    go_ret
    exact ⟨ret_int (by rw [H.out]; rfl), rfl⟩
  · have H : Hid (distBits s = (s - 2) / 2) := if_neg h
    go_enter Tryz.func143, Tryz.ntmps143
    go_wp2
    go_ret
    exact ⟨ret_int (by rw [H.out]; omega), rfl⟩
set_option maxRecDepth 10000 in
set_option maxHeartbeats 400000 in
theorem length_any (s : Nat) (w : World) (h1 : 257 ≤ s) (h2 : s ≤ 285) :
    Calls Tryz.prog 118 #[.int .i64 s] w fun e w' => e = .returned (.tuple #[.int .i64 (((lenT s).1 : Nat) : Int), .int .i64 (((lenT s).2 : Nat) : Int)]) ∧ w' = w := by
  by_cases he : s = 285
  · subst he
    go_enter Tryz.func118, Tryz.ntmps118
    go_wp2
    go_ret2
    exact ⟨ret_two rfl rfl, rfl⟩
  · have HT : Hid (lenT s = (lenL (s - 257) 257 3, lenBits s)) := if_neg he
    have hne : ((s : Int) == 285) = false := by rw [beq_eq_false_iff_ne]; omega
    go_enter Tryz.func118, Tryz.ntmps118
    go_wp2
    go_loop [4, 5] (fun v i => ∃ j k x : Nat, 257 ≤ k ∧ k + j = s ∧ x ≤ 3 + 64 * (k - 257) ∧ lenL (s - 257) 257 3 = lenL j k x ∧ v = .int .i64 x ∧ i = .int .i64 k) (fun _ i => s - (intOf i).toNat)
    case atStart => exact ⟨s - 257, 257, 3, by omega, by omega, by omega, rfl, rfl, rfl⟩
    case round =>
      obtain ⟨j, k, x, hk1, hkj, hx, hL, rfl, rfl⟩ := hrel
      cases j with
      | zero =>
        obtain rfl : k = s := by omega
        have H : Hid _ := hL
        clear hL hkj
        go_wp2_with fail
        refine (lenBits_any _ _ rfl _ (by omega)).mono ?_
        rintro e w' ⟨rfl, rfl⟩
        go_wp2
        go_ret2
        exact ⟨ret_two (by rw [HT.out, H.out]; rfl) (by rw [HT.out]), rfl⟩
      | succ j =>
        have hlt : k < s := by omega
        have H : Hid (lenL (s - 257) 257 3 = lenL j (k + 1) (x + pw (lenBits k)) ∧ k + 1 + j = s) := (⟨hL, by omega⟩ : _ ∧ _)
        have hb := lenBits_le k (by omega)
        have hp : pw (lenBits k) ≤ 64 := pw_le _ 6 hb
        clear hL hkj
        go_wp2_with fail
        refine (lenBits_any _ _ rfl _ (by omega)).mono ?_
        rintro e w' ⟨rfl, rfl⟩
        go_wp2_with fail
        refine (power_any _ _ rfl _ (by omega)).mono ?_
        rintro e w' ⟨rfl, rfl⟩
        generalize pw (lenBits k) = z at *
        go_wp2
        go_round
        case rel => exact ⟨j, k + 1, x + z, by omega, H.out.2, by omega, H.out.1, by go_num, by go_num⟩
        case measure => simp [intOf]; omega
set_option maxRecDepth 10000 in
set_option maxHeartbeats 400000 in
theorem distance_any (s : Nat) (w : World) (h2 : s ≤ 29) :
    Calls Tryz.prog 119 #[.int .i64 s] w fun e w' => e = .returned (.tuple #[.int .i64 (((distT s).1 : Nat) : Int), .int .i64 (((distT s).2 : Nat) : Int)]) ∧ w' = w := by
  go_enter Tryz.func119, Tryz.ntmps119
  go_wp2
  go_loop [4, 5] (fun v i => ∃ j k x : Nat, k + j = s ∧ x ≤ 1 + 8192 * k ∧ distL s 0 1 = distL j k x ∧ v = .int .i64 x ∧ i = .int .i64 k) (fun _ i => s - (intOf i).toNat)
  case atStart => exact ⟨s, 0, 1, by omega, by omega, rfl, rfl, rfl⟩
  case round =>
    obtain ⟨j, k, x, hkj, hx, hL, rfl, rfl⟩ := hrel
    cases j with
    | zero =>
      obtain rfl : k = s := by omega
      have H : Hid _ := hL
      clear hL hkj
      go_wp2_with fail
      refine (distBits_any _ _ rfl _ (by omega)).mono ?_
      rintro e w' ⟨rfl, rfl⟩
      go_wp2
      go_ret2
      exact ⟨ret_two (by show _ = ((distL k 0 1 : Nat) : Int); rw [H.out]; rfl) rfl, rfl⟩
    | succ j =>
      have hlt : k < s := by omega
      have H : Hid (distL s 0 1 = distL j (k + 1) (x + pw (distBits k)) ∧ k + 1 + j = s) := (⟨hL, by omega⟩ : _ ∧ _)
      have hb := distBits_le k (by omega)
      have hp : pw (distBits k) ≤ 8192 := pw_le _ 13 hb
      clear hL hkj
      go_wp2_with fail
      refine (distBits_any _ _ rfl _ (by omega)).mono ?_
      rintro e w' ⟨rfl, rfl⟩
      go_wp2_with fail
      refine (power_any _ _ rfl _ (by omega)).mono ?_
      rintro e w' ⟨rfl, rfl⟩
      generalize pw (distBits k) = z at *
      go_wp2
      go_round
      case rel => exact ⟨j, k + 1, x + z, H.out.2, by omega, H.out.1, by go_num, by go_num⟩
      case measure => simp [intOf]; omega
theorem cons49 (l : List UInt8) : (ByteArray.mk #[49] ++ ByteArray.mk l.toArray) = ByteArray.mk (49 :: l).toArray := ByteArray.mk_append_mk [49] l
theorem cons48 (l : List UInt8) : (ByteArray.mk #[48] ++ ByteArray.mk l.toArray) = ByteArray.mk (48 :: l).toArray := ByteArray.mk_append_mk [48] l
set_option maxRecDepth 10000 in
set_option maxHeartbeats 400000 in
theorem binary_any (v n : Nat) (w : World) (hv : v ≤ 1073741824) (hn : n ≤ 15) :
    Calls Tryz.prog 141 #[.int .i64 v, .int .i64 n] w fun e w' => e = .returned (.string ⟨(binT v n).toArray⟩) ∧ w' = w := by
  go_enter Tryz.func141, Tryz.ntmps141
  go_wp2
  go_loop [0, 5, 6] (fun x s i => ∃ (j k y : Nat) (acc : List UInt8), k + j = n ∧ acc.length = k ∧ y ≤ 1073741824 ∧ binT v n = binL j y acc ∧ x = .int .i64 y ∧ s = .string ⟨acc.toArray⟩ ∧ i = .int .i64 k) (fun _ _ i => n - (intOf i).toNat)
  case atStart => exact ⟨n, 0, v, [], by omega, rfl, hv, rfl, rfl, rfl, rfl⟩
  case round =>
    obtain ⟨j, k, y, acc, hkj, hal, hy, hL, rfl, rfl, rfl⟩ := hrel
    cases j with
    | zero =>
      obtain rfl : k = n := by omega
      have H : Hid _ := hL
      clear hL hkj
      go_wp2
      go_ret
      exact ⟨by rw [H.out]; rfl, rfl⟩
    | succ j =>
      have hlt : k < n := by omega
      by_cases ho : y % 2 = 1
      · have H : Hid (binT v n = binL j (y / 2) (49 :: acc) ∧ k + 1 + j = n ∧ (49 :: acc).length = k + 1) := (⟨by rw [hL, binL, if_pos ho], by omega, by simp [hal]⟩ : _ ∧ _ ∧ _)
        have ht : ((y : Int) % 2 == 1) = true := by rw [beq_iff_eq]; omega
        have hsz : acc.length ≤ 15 := by omega
        clear hL hkj ho hal
        go_wp2
        go_round
        case rel => exact ⟨j, k + 1, y / 2, 49 :: acc, H.out.2.1, H.out.2.2, by omega, H.out.1, by go_num, by rw [cons49], by go_num⟩
        case measure => simp [intOf]; omega
      · have H : Hid (binT v n = binL j (y / 2) (48 :: acc) ∧ k + 1 + j = n ∧ (48 :: acc).length = k + 1) := (⟨by rw [hL, binL, if_neg ho], by omega, by simp [hal]⟩ : _ ∧ _ ∧ _)
        have ht : ((y : Int) % 2 == 1) = false := by rw [beq_eq_false_iff_ne]; omega
        have hsz : acc.length ≤ 15 := by omega
        clear hL hkj ho hal
        go_wp2
        go_round
        case rel => exact ⟨j, k + 1, y / 2, 48 :: acc, H.out.2.1, H.out.2.2, by omega, H.out.1, by go_num, by rw [cons48], by go_num⟩
        case measure => simp [intOf]; omega
end Go.Proofs.YtephkcdbnogdhaaGreatDoor.RfW
/- The walks of the document's fixed lengths: fives, fixedLiterals; and what a list of numbers of the call's own is. -/
namespace Go.Proofs.YtephkcdbnogdhaaGreatDoor.RfW
open Go.RowKit Rf
theorem infoInt : (Tryz.prog.info? 3).map (fun i => (i.zero, i.size, i.bytes)) = some (some (.int .i64 0), 1, 8) := by kernel_rfl
/-- the numbers as cells -/
def nums (L : List Nat) : List Value := L.map fun (n : Nat) => .int .i64 (n : Int)
theorem nums_snoc (L : List Nat) (x : Nat) : nums (L ++ [x]) = nums L ++ [.int .i64 (x : Int)] := by simp [nums]
theorem rep_snoc (k x : Nat) : List.replicate (k + 1) x = List.replicate k x ++ [x] := List.replicate_succ'
/-- the slice v holds these numbers, in a block of ints -/
def IntsAt (w : World) (v : Value) (L : List Nat) : Prop :=
  ∃ g off cap cur, v = .slice (some ⟨g, off, none⟩) L.length cap ∧ L.length ≤ cap ∧ w.heap[g]? = some (.cells cur 3 (0, 0)) ∧ ∀ i, i < L.length → cur[off + i]? = some (.int .i64 ((L.getD i 0 : Nat) : Int))
theorem ints_of_own {w : World} {base : Nat} {v : Value} {L : List Nat} (h : w.ownsRow base 3 1 v L.length (nums L)) (hL : L ≠ []) : IntsAt w v L := by
  obtain ⟨_, h | ⟨g, cap, cur, rfl, _, hh, hc, _, _, htake⟩⟩ := h
  · exact absurd (List.eq_nil_of_length_eq_zero h.2) hL
  · refine ⟨g, 0, cap, cur, rfl, hc, hh, fun i hi => ?_⟩
    have e : (cur.toList.take (L.length * 1))[i]? = (nums L)[i]? := by rw [htake]
    rw [List.getElem?_take, if_pos (by omega), Array.getElem?_toList] at e
    rw [Nat.zero_add, e]
    simp [nums, List.getD, List.getElem?_eq_getElem hi]
/-- one number more, behind a list of the call's own -/
theorem append_int {wr : World} {ops : Array Oper} {rest : List Oper} {o : Oper} {a : Act} {Q : Exit → Act → World → Prop} (hgd : o.guard = none) (s x : Operand)
    (ho : o.op = .call { callee := .builtin .append, args := #[s, x], argTypes := #[29, 29] }) (base : Nat) (v : Value) (n : Nat) (xs : List Value) (z : Int)
    (hown : wr.ownsRow base 3 1 v n xs) (hs : a.eval s = v) (hx : a.eval x = .slice (some ⟨wr.heap.size, 0, none⟩) 1 1) (hn : n ≤ 1000000) (hb : base ≤ wr.heap.size)
    (h : ∀ v' w', w'.ownsRow base 3 1 v' (n + 1) (xs ++ [.int .i64 z]) → (wr.alloc (.cells #[.int .i64 z] 3)).grownBy w' v.ownBlock → wpList Tryz.prog ops Q rest (a.put o.dst v') w') :
    wpList Tryz.prog ops Q (o :: rest) a (wr.alloc (.cells #[.int .i64 z] 3)) := by
  obtain ⟨i0, hi, hz0, hz1, hz2⟩ := info_parts infoInt
  refine wpList_append_own _ hgd s x 29 ho base 3 i0 (.int .i64 0) 1 8 Tryz.underlying29 hi hz0 hz1 hz2 rfl (by decide) v n xs hs (hown.alloc _) ⟨wr.heap.size, 0, none⟩ 1 1 [.int .i64 z] hx rfl ?_ ?_ ?_ ?_ ?_ ?_
  · intro j u hj
    match j, hj with
    | 0, hj => simp at hj; subst hj; simp [Addr.add]
  · intro u hu; simp at hu; subst hu; rfl
  · unfold maxLen; omega
  · omega
  · simp; omega
  · intro v' w' h1 h2 _; exact h v' w' h1 h2
theorem below_app {B base e size n : Nat} {w wr w' : World} {v : Value} {xs : List Value} {blk : Obj} (hbel : Below B w wr) (hB : B ≤ base) (hs : B ≤ wr.heap.size) (hown : wr.ownsRow base e size v n xs) (hg : (wr.alloc blk).grownBy w' v.ownBlock) : Below B w w' :=
  (hbel.alloc hs blk).grown hg (Nat.le_trans hs (by simp)) (fun k hk => Nat.le_trans hB (hown.lt k hk).1)
theorem size_app {wr w' : World} {blk : Obj} {r : Option Nat} (hg : (wr.alloc blk).grownBy w' r) : wr.heap.size ≤ w'.heap.size := by
  have := hg.size; simp at this; omega
set_option maxRecDepth 10000 in
set_option maxHeartbeats 1000000 in
theorem fives_any (w : World) :
    Calls Tryz.prog 83 #[] w fun e w' => ∃ v, e = .returned v ∧ IntsAt w' v (List.replicate 32 5) ∧ Below w.heap.size w w' := by
  go_enter Tryz.func83, Tryz.ntmps83
  go_wp2
  go_loopw [1, 2] (fun v i wr => ∃ k : Nat, k ≤ 32 ∧ i = .int .i64 k ∧ wr.ownsRow w.heap.size 3 1 v k (nums (List.replicate k 5)) ∧ Below w.heap.size w wr ∧ w.heap.size ≤ wr.heap.size) (fun _ i _ => 32 - (intOf i).toNat)
  case atStart => exact ⟨0, by omega, rfl, World.ownsRow_nil _ _ _ _, Below.refl _ _, Nat.le_refl _⟩
  case round =>
    obtain ⟨k, hk, rfl, hown, hbel, hsz⟩ := hrel
    by_cases hlt : k < 32
    · go_wp2_with (first
        | (at_builtin; refine append_int rfl _ _ rfl w.heap.size _ k (nums (List.replicate k 5)) 5 hown rfl rfl (by omega) hsz ?_; intro v' w1 hown' hg)
        | go_in)
      go_roundw
      case rel => exact ⟨k + 1, by omega, by go_num, by rw [rep_snoc, nums_snoc]; exact hown', below_app hbel (Nat.le_refl _) hsz hown hg, Nat.le_trans hsz (size_app hg)⟩
      case measure => simp [intOf]; omega
    · obtain rfl : k = 32 := by omega
      go_wp2
      go_ret
      exact ⟨_, rfl, ints_of_own (by simpa using hown) (by simp), hbel⟩
/-- the fixed lengths of the literal symbols -/
def fixAt (i : Nat) : Nat := if 144 ≤ i ∧ i < 256 then 9 else if 256 ≤ i ∧ i < 280 then 7 else 8
def fixL (n : Nat) : List Nat := (List.range n).map fixAt
theorem fixL_succ (n : Nat) : fixL (n + 1) = fixL n ++ [fixAt n] := by simp [fixL, List.range_succ]
theorem fixL_length (n : Nat) : (fixL n).length = n := by simp [fixL]
set_option maxRecDepth 10000 in
set_option maxHeartbeats 1000000 in
theorem fixed_any (w : World) :
    Calls Tryz.prog 82 #[] w fun e w' => ∃ v, e = .returned v ∧ IntsAt w' v (fixL 288) ∧ Below w.heap.size w w' := by
  go_enter Tryz.func82, Tryz.ntmps82
  go_wp2
  go_loopw [1, 2] (fun v i wr => ∃ k : Nat, k ≤ 288 ∧ i = .int .i64 k ∧ wr.ownsRow w.heap.size 3 1 v k (nums (fixL k)) ∧ Below w.heap.size w wr ∧ w.heap.size ≤ wr.heap.size) (fun _ i _ => 288 - (intOf i).toNat)
  case atStart => exact ⟨0, by omega, rfl, World.ownsRow_nil _ _ _ _, Below.refl _ _, Nat.le_refl _⟩
  case round =>
    obtain ⟨k, hk, rfl, hown, hbel, hsz⟩ := hrel
    by_cases hlt : k < 288
    · have hc : (k < 144 ∧ fixAt k = 8) ∨ (144 ≤ k ∧ k < 256 ∧ fixAt k = 9) ∨ (256 ≤ k ∧ k < 280 ∧ fixAt k = 7) ∨ (280 ≤ k ∧ fixAt k = 8) := by
        unfold fixAt; split
        · omega
        · split <;> omega
      rcases hc with ⟨h1, hf⟩ | ⟨h1, h2, hf⟩ | ⟨h1, h2, hf⟩ | ⟨h1, hf⟩
      all_goals
        have H : Hid _ := hf
        clear hf
        go_wp2_with (first
          | (at_builtin; refine append_int rfl _ _ rfl w.heap.size _ k (nums (fixL k)) _ hown rfl rfl (by omega) hsz ?_; intro v' w1 hown' hg)
          | go_in)
        go_roundw
        case rel => exact ⟨k + 1, by omega, by go_num, by rw [fixL_succ, nums_snoc, H.out]; exact hown', below_app hbel (Nat.le_refl _) hsz hown hg, Nat.le_trans hsz (size_app hg)⟩
        case measure => simp [intOf]; omega
    · obtain rfl : k = 288 := by omega
      go_wp2
      go_ret
      exact ⟨_, rfl, ints_of_own (by rw [fixL_length]; exact hown) (by intro e; have := fixL_length 288; rw [e] at this; simp at this), hbel⟩
end Go.Proofs.YtephkcdbnogdhaaGreatDoor.RfW
/- The walk of the document's codes out of lengths. -/
namespace Go.Proofs.YtephkcdbnogdhaaGreatDoor.RfW
open Go.RowKit Rf
theorem infoCode : (Tryz.prog.info? 254).map (fun i => (i.zero, i.size, i.bytes)) = some (some (.agg #[.int .i64 0, .string ⟨#[]⟩]), 2, 24) := by kernel_rfl
/-- codes as cells: two each -/
def codeCells (cs : List (Nat × List UInt8)) : List Value := cs.flatMap fun (x : Nat × List UInt8) => [.int .i64 (x.1 : Int), .string ⟨x.2.toArray⟩]
theorem codeCells_snoc (cs : List (Nat × List UInt8)) (s : Nat) (b : List UInt8) : codeCells (cs ++ [(s, b)]) = codeCells cs ++ [.int .i64 (s : Int), .string ⟨b.toArray⟩] := by simp [codeCells]
/-- the slice v holds these codes -/
def CodesAt (w : World) (v : Value) (cs : List (Nat × List UInt8)) : Prop :=
  (v = .slice none 0 0 ∧ cs = []) ∨ ∃ g cap cur, v = .slice (some ⟨g, 0, none⟩) cs.length cap ∧ cs.length ≤ cap ∧ w.heap[g]? = some (.cells cur 254 (0, 0)) ∧
    ∀ i (hi : i < cs.length), cur[2 * i]? = some (.int .i64 ((cs[i].1 : Nat) : Int)) ∧ cur[2 * i + 1]? = some (.string ⟨cs[i].2.toArray⟩)
theorem codeCells_at (cs : List (Nat × List UInt8)) : ∀ i (hi : i < cs.length), (codeCells cs)[2 * i]? = some (.int .i64 ((cs[i].1 : Nat) : Int)) ∧ (codeCells cs)[2 * i + 1]? = some (.string ⟨cs[i].2.toArray⟩) := by
  induction cs with
  | nil => intro i hi; simp at hi
  | cons c cs ih =>
    intro i hi
    cases i with
    | zero => simp [codeCells]
    | succ i =>
      have := ih i (by simpa using hi)
      simp only [codeCells, List.flatMap_cons] at this ⊢
      rw [show 2 * (i + 1) = 2 * i + 1 + 1 by omega]
      simpa using this
theorem codes_of_own {w : World} {base : Nat} {v : Value} {cs : List (Nat × List UInt8)} (h : w.ownsRow base 254 2 v cs.length (codeCells cs)) : CodesAt w v cs := by
  obtain ⟨_, h | ⟨g, cap, cur, rfl, _, hh, hc, _, _, htake⟩⟩ := h
  · exact .inl ⟨h.1, List.eq_nil_of_length_eq_zero h.2⟩
  · refine .inr ⟨g, cap, cur, rfl, hc, hh, fun i hi => ?_⟩
    have hat := codeCells_at cs i hi
    rw [← htake, List.getElem?_take, if_pos (by omega), Array.getElem?_toList, List.getElem?_take, if_pos (by omega), Array.getElem?_toList] at hat
    exact hat
theorem append_code {wr : World} {ops : Array Oper} {rest : List Oper} {o : Oper} {a : Act} {Q : Exit → Act → World → Prop} (hgd : o.guard = none) (s x : Operand)
    (ho : o.op = .call { callee := .builtin .append, args := #[s, x], argTypes := #[205, 205] }) (base : Nat) (v : Value) (n : Nat) (xs : List Value) (z : Int) (b : ByteArray)
    (hown : wr.ownsRow base 254 2 v n xs) (hs : a.eval s = v) (hx : a.eval x = .slice (some ⟨wr.heap.size, 0, none⟩) 1 1) (hn : n ≤ 1000000) (hb : base ≤ wr.heap.size)
    (h : ∀ v' w', w'.ownsRow base 254 2 v' (n + 1) (xs ++ [.int .i64 z, .string b]) → (wr.alloc (.cells #[.int .i64 z, .string b] 254)).grownBy w' v.ownBlock → wpList Tryz.prog ops Q rest (a.put o.dst v') w') :
    wpList Tryz.prog ops Q (o :: rest) a (wr.alloc (.cells #[.int .i64 z, .string b] 254)) := by
  obtain ⟨i0, hi, hz0, hz1, hz2⟩ := info_parts infoCode
  refine wpList_append_own _ hgd s x 205 ho base 254 i0 _ 2 24 Tryz.underlying205 hi hz0 hz1 hz2 rfl (by decide) v n xs hs (hown.alloc _) ⟨wr.heap.size, 0, none⟩ 1 1 [.int .i64 z, .string b] hx rfl ?_ ?_ ?_ ?_ ?_ ?_
  · intro j u hj
    match j, hj with
    | 0, hj => simp at hj; subst hj; simp [Addr.add]
    | 1, hj => simp at hj; subst hj; simp [Addr.add]
  · intro u hu; simp at hu; rcases hu with rfl | rfl <;> rfl
  · unfold maxLen; omega
  · omega
  · simp; omega
  · intro v' w' h1 h2 _; exact h v' w' h1 h2
theorem ret_pair {v : Value} {k : IntKind} {a b : Int} (h : a = b) : Ending.returned (.tuple #[v, .int k a]) = .returned (.tuple #[v, .int k b]) := by rw [h]
theorem cell_of_block {w : World} {g : Nat} {cur : Array Value} {T : TypeId} (h : w.heap[g]? = some (.cells cur T (0, 0))) (o : Nat) : w.cell? ⟨g, o, none⟩ = cur[o]? := by simp [World.cell?, h]
theorem lt_of_blk {w : World} {g : Nat} {b : Obj} (h : w.heap[g]? = some b) : g < w.heap.size := (Array.getElem?_eq_some_iff.1 h).1
set_option maxRecDepth 10000 in
set_option maxHeartbeats 4000000 in
theorem codes_any (L : List Nat) (v0 : Value) (w : World) (hI : IntsAt w v0 L) (hlen : L.length ≤ 400) (hL15 : ∀ i, L.getD i 0 ≤ 15) :
    Calls Tryz.prog 116 #[v0] w fun e w' => ∃ v, e = .returned (.tuple #[v, .int .i64 (((codesT L).much : Nat) : Int)]) ∧ CodesAt w' v (codesT L).cs ∧ Below w.heap.size w w' := by
  obtain ⟨g, off, cap, cur, rfl, hcap, hblk, hcur⟩ := hI
  have hg := lt_of_blk hblk
  go_enter Tryz.func116, Tryz.ntmps116
  go_wp2
  go_loopw [4, 5, 6, 7, 8] (fun l val lon mu ni wr => ∃ (j n : Nat) (st : CS), n + j = 16 ∧ 1 ≤ n ∧ codesT L = outerC L j n st ∧ st.ok (n - 1) ((n - 1) * L.length) ∧ ni = .int .i64 n ∧ val = .int .i64 (st.value : Nat) ∧ lon = .int .i64 (st.long : Nat) ∧ mu = .int .i64 (st.much : Nat) ∧ wr.ownsRow w.heap.size 254 2 l st.cs.length (codeCells st.cs) ∧ Below w.heap.size w wr ∧ w.heap.size ≤ wr.heap.size) (fun _ _ _ _ ni _ => 16 - (intOf ni).toNat)
  case atStart => exact ⟨15, 1, ⟨[], 0, 0, 0⟩, by omega, by omega, rfl, ⟨by simp, by simp, by simp, by simp⟩, rfl, rfl, rfl, rfl, World.ownsRow_nil _ _ _ _, Below.refl _ _, Nat.le_refl _⟩
  case round =>
    obtain ⟨j, n, st, hnj, hn1, hO, hok, rfl, rfl, rfl, rfl, hown, hbel, hsz⟩ := hrel
    cases j with
    | zero =>
      obtain rfl : n = 16 := by omega
      have H : Hid (codesT L = st) := hO
      clear hO
      go_wp2
      go_ret2
      exact ⟨_, ret_pair (by rw [H.out]), by rw [H.out]; exact codes_of_own hown, hbel⟩
    | succ j =>
      have hn15 : n ≤ 15 := by omega
      have HO : Hid (codesT L = outerC L j (n + 1) (innerC L n L.length 0 st) ∧ n + 1 + j = 16) := (⟨hO, by omega⟩ : _ ∧ _)
      clear hO hnj
      go_wp2
      go_loopw [4, 5, 6, 7, 9] (fun l val lon mu si wx => ∃ (i s : Nat) (sx : CS), s + i = L.length ∧ innerC L n L.length 0 st = innerC L n i s sx ∧ sx.ok n ((n - 1) * L.length + s) ∧ si = .int .i64 s ∧ val = .int .i64 (sx.value : Nat) ∧ lon = .int .i64 (sx.long : Nat) ∧ mu = .int .i64 (sx.much : Nat) ∧ wx.ownsRow w.heap.size 254 2 l sx.cs.length (codeCells sx.cs) ∧ Below w.heap.size w wx ∧ w.heap.size ≤ wx.heap.size) (fun _ _ _ _ si _ => L.length - (intOf si).toNat)
      case atStart => exact ⟨L.length, 0, st, by omega, rfl, hok.mono (by omega) (by omega), rfl, rfl, rfl, rfl, hown, hbel, hsz⟩
      case round =>
        obtain ⟨i, s, sx, hsi, hI, hokx, rfl, rfl, rfl, rfl, hownx, hbelx, hszx⟩ := hrel
        have hprod : (n - 1) * L.length ≤ 14 * 400 := Nat.mul_le_mul (by omega) hlen
        have hcnt : sx.cs.length ≤ 6000 := by have := hokx.2.2.1; omega
        have hup := up_le hokx
        have hpn : pw n ≤ 32768 := pw_le n 15 hn15
        have hup2 : sx.cs.length * pw n ≤ 6000 * 32768 := Nat.mul_le_mul hcnt hpn
        have hmu : sx.much ≤ 6000 * 16384 := Nat.le_trans hokx.2.2.2 (Nat.mul_le_mul_right _ hcnt)
        have hlon : sx.long ≤ n := hokx.1
        cases i with
        | zero =>
          obtain rfl : s = L.length := by omega
          have H : Hid (innerC L n L.length 0 st = sx) := hI
          clear hI hsi
          go_wp2
          go_roundw
          case rel => exact ⟨j, n + 1, sx, HO.out.2, by omega, by rw [HO.out.1, H.out], hokx.mono (by omega) (by rw [Nat.add_sub_cancel]; have e : n * L.length = (n - 1) * L.length + L.length := (by obtain ⟨m, rfl⟩ : ∃ m, n = m + 1 := ⟨n - 1, by omega⟩; rw [Nat.add_sub_cancel, Nat.add_mul, Nat.one_mul]); omega), by go_num, rfl, rfl, rfl, hownx, hbelx, hszx⟩
          case measure => simp [intOf]; omega
        | succ i =>
          have hslt : s < L.length := by omega
          have hcell : wr.cell? ⟨g, off + s, none⟩ = some (.int .i64 ((L.getD s 0 : Nat) : Int)) := by
            rw [hbelx.cell (p := ⟨g, off + s, none⟩) hg, cell_of_block hblk]; exact hcur s hslt
          have hok2 := stepC_ok L n s _ sx hokx hn1
          have H : Hid (innerC L n L.length 0 st = innerC L n i (s + 1) (stepC L n s sx) ∧ s + 1 + i = L.length) := (⟨hI, by omega⟩ : _ ∧ _)
          have hl15 := hL15 s
          generalize hx : L.getD s 0 = x at *
          by_cases hxn : x = n
          · subst hxn
            have HS : Hid (stepC L x s sx = ⟨sx.cs ++ [(s, binT (sx.value * pw (x - sx.long)) x)], sx.value * pw (x - sx.long) + 1, x, sx.much + pw (15 - x)⟩) := (by unfold stepC; rw [if_pos hx] : _ = _)
            have Hx : Hid _ := hx
            have hne : ((x : Int) != (x : Int)) = false := by simp
            clear hI hsi hx
            go_wp2
            go_loop [5, 6] (fun val lon => ∃ m y : Nat, sx.long ≤ m ∧ m ≤ x ∧ y = sx.value * pw (m - sx.long) ∧ y ≤ 196608000 ∧ val = .int .i64 y ∧ lon = .int .i64 m) (fun _ lon => x - (intOf lon).toNat)
            case atStart => exact ⟨sx.long, sx.value, Nat.le_refl _, hlon, by rw [Nat.sub_self]; show _ = _ * 1; omega, by have := pw_pos (x - sx.long); have h2 := Nat.le_mul_of_pos_right sx.value this; omega, rfl, rfl⟩
            case round =>
              obtain ⟨m, y, hm1, hm2, hy, hyb, rfl, rfl⟩ := hrel
              by_cases hmx : m < x
              · have HY : Hid (2 * y = sx.value * pw (m + 1 - sx.long)) := (by rw [hy, show m + 1 - sx.long = m - sx.long + 1 by omega, pw_succ, ← Nat.mul_assoc, Nat.mul_comm 2 sx.value, Nat.mul_assoc] : _ = _)
                have hy2 : 2 * y ≤ 196608000 := by
                  rw [HY.out]
                  refine Nat.le_trans (Nat.mul_le_mul_left _ (pw_le (m + 1 - sx.long) (x - sx.long) (by omega))) ?_
                  omega
                clear hy
                go_wp2
                go_round
                case rel => exact ⟨m + 1, 2 * y, by omega, by omega, HY.out, hy2, by go_num, by go_num⟩
                case measure => simp [intOf]; omega
              · obtain rfl : m = x := by omega
                have HY : Hid _ := hy
                clear hy
                go_wp2_with (first
                  | (go_at_call 141; refine (binary_any _ _ _ (by omega) hn15).mono ?_; rintro e wb ⟨rfl, rfl⟩)
                  | (at_builtin; refine append_code rfl _ _ rfl w.heap.size _ sx.cs.length (codeCells sx.cs) _ _ hownx rfl rfl (by omega) hszx ?_; intro v' w1 hown' hg')
                  | go_in)
                have HD : Hid (w1.ownsRow w.heap.size 254 2 v' (stepC L m s sx).cs.length (codeCells (stepC L m s sx).cs) ∧ Below w.heap.size w w1 ∧ w.heap.size ≤ w1.heap.size) :=
                  (⟨by rw [HS.out, codeCells_snoc, List.length_append, ← HY.out]; exact hown', below_app hbelx (Nat.le_refl _) hszx hownx hg', Nat.le_trans hszx (size_app hg')⟩ : _ ∧ _ ∧ _)
                clear hown' hg'
                go_loop [10, 11] (fun ro qi => ∃ q z : Nat, m ≤ q ∧ q ≤ 15 ∧ z = pw (q - m) ∧ z ≤ 32768 ∧ ro = .int .i64 z ∧ qi = .int .i64 q) (fun _ qi => 15 - (intOf qi).toNat)
                case atStart => exact ⟨m, 1, Nat.le_refl _, hn15, by rw [Nat.sub_self]; rfl, by omega, rfl, rfl⟩
                case round =>
                  obtain ⟨q, z, hq1, hq2, hz, hzb, rfl, rfl⟩ := hrel
                  by_cases hq15 : q < 15
                  · have HZ : Hid (2 * z = pw (q + 1 - m)) := (by rw [hz, show q + 1 - m = q - m + 1 by omega, pw_succ] : _ = _)
                    have hz2 : 2 * z ≤ 32768 := by rw [HZ.out]; exact pw_le _ 15 (by omega)
                    clear hz
                    go_wp2
                    go_round
                    case rel => exact ⟨q + 1, 2 * z, by omega, by omega, HZ.out, hz2, by go_num, by go_num⟩
                    case measure => simp [intOf]; omega
                  · obtain rfl : q = 15 := by omega
                    have HZ : Hid _ := hz
                    clear hz
                    go_wp2
                    go_roundw
                    case rel => exact ⟨_, _, _, _, _, ⟨i, s + 1, H.out.2, stepC L m s sx, H.out.1, hok2, by go_num, by rw [HS.out]; show _ = Value.int _ ((sx.value * pw (m - sx.long) + 1 : Nat) : Int); rw [← HY.out]; go_num, by rw [HS.out], by rw [HS.out]; show _ = Value.int _ ((sx.much + pw (15 - m) : Nat) : Int); rw [← HZ.out]; go_num, HD.out.1, HD.out.2.1, HD.out.2.2⟩, rfl, rfl, rfl, rfl, rfl⟩
                    case measure => simp [intOf]; omega
          · have HS : Hid (stepC L n s sx = sx) := (by unfold stepC; rw [if_neg (by omega)] : _ = _)
            have hne : ((x : Int) != (n : Int)) = true := by rw [bne_iff_ne]; omega
            clear hI hsi hx
            go_wp2
            go_roundw
            case rel => exact ⟨i, s + 1, sx, H.out.2, by rw [H.out.1, HS.out], hokx.mono (Nat.le_refl _) (by omega), by go_num, rfl, rfl, rfl, hownx, hbelx, hszx⟩
            case measure => simp [intOf]; omega
end Go.Proofs.YtephkcdbnogdhaaGreatDoor.RfW
/- The walk of the document's next symbol. -/
namespace Go.Proofs.YtephkcdbnogdhaaGreatDoor.RfW
open Go.RowKit Rf
/-- how many bytes a text's value has -/
def strLen : Value → Nat
  | .string t => t.size
  | _ => 0
theorem strLen_mk (l : List UInt8) : strLen (.string ⟨l.toArray⟩) = l.length := by simp [strLen, ByteArray.size]
theorem snoc49 (l : List UInt8) : (ByteArray.mk l.toArray ++ ByteArray.mk #[49]) = ByteArray.mk (l ++ [49]).toArray := ByteArray.mk_append_mk l [49]
theorem snoc48 (l : List UInt8) : (ByteArray.mk l.toArray ++ ByteArray.mk #[48]) = ByteArray.mk (l ++ [48]).toArray := ByteArray.mk_append_mk l [48]
theorem row_ne {w : World} {b g : Nat} {s : ByteArray} {st : RS} {cur : Array Value} {T : TypeId} (hR : RowIs w b s st) (h : w.heap[g]? = some (.cells cur T (0, 0))) (hT : T ≠ 91) : g ≠ b := by
  intro e; subst e
  have := hR.1
  rw [h] at this
  simp at this
  exact hT this.2
set_option maxRecDepth 10000 in
set_option maxHeartbeats 4000000 in
theorem symbol_some (b : Nat) (s : ByteArray) (st : RS) (cs : List (Nat × List UInt8)) (g cap : Nat) (cur : Array Value) (w : World) (hR : RowIs w b s st) (hs : s.size ≤ 140737488351232) (hlen : cs.length ≤ 1000000)
    (hblk : w.heap[g]? = some (.cells cur 254 (0, 0)))
    (hcur : ∀ i (hi : i < cs.length), cur[2 * i]? = some (.int .i64 ((cs[i].1 : Nat) : Int)) ∧ cur[2 * i + 1]? = some (.string ⟨cs[i].2.toArray⟩)) :
    Calls Tryz.prog 117 #[.pointer (some ⟨b, 0, none⟩), .slice (some ⟨g, 0, none⟩) cs.length cap] w fun e w' => e = .returned (.int .i64 (((symT s cs st).1 : Nat) : Int)) ∧ RowIs w' b s (symT s cs st).2 ∧ Only b w w' := by
  have hgb := row_ne hR hblk (by decide)
  go_enter Tryz.func117, Tryz.ntmps117
  go_wp2
  go_loopw [5] (fun p wr => ∃ (k : Nat) (pre : List UInt8) (t : RS), pre.length + k = 15 ∧ symT s cs st = symL s cs k pre t ∧ p = .string ⟨pre.toArray⟩ ∧ RowIs wr b s t ∧ Only b w wr) (fun p _ => 15 - strLen p)
  case atStart => exact ⟨15, [], st, rfl, rfl, rfl, hR, Only.refl b w⟩
  case round =>
    obtain ⟨k, pre, t, hpk, hS, rfl, hRt, hOt⟩ := hrel
    have hc2 := hRt.c2
    have hf2 := hRt.free 2
    obtain ⟨tp, tb⟩ := t
    cases tb
    · cases k with
      | zero =>
        have H : Hid (symT s cs st = (0, ⟨tp, true⟩)) := hS
        have hl : ¬ pre.length < 15 := by omega
        clear hS hpk
        go_wp2
        go_ret
        exact ⟨ret_int (by rw [H.out]; rfl), by rw [H.out]; exact hRt.set2 true, hOt.setCell 2 _⟩
      | succ k =>
        have hl : pre.length < 15 := by omega
        have HS : Hid _ := hS
        have HP : Hid _ := hpk
        clear hS hpk
        go_wp2_with fail
        refine (one_any b s ⟨tp, false⟩ _ hRt hs).mono ?_
        rintro e w2 ⟨rfl, hR2, hO2⟩
        have hone := oneT_le s ⟨tp, false⟩
        have HE : Hid ((oneT s ⟨tp, false⟩).2.bad = true → symT s cs st = (0, ⟨(oneT s ⟨tp, false⟩).2.pos, true⟩)) := fun h => HS.out.trans (symL_end s cs k pre ⟨tp, false⟩ rfl h)
        have HH : Hid (∀ y, (oneT s ⟨tp, false⟩).2.bad = false → findC cs (pre ++ [sign (oneT s ⟨tp, false⟩).1]) = some y → symT s cs st = (y, (oneT s ⟨tp, false⟩).2)) := fun y h h2 => HS.out.trans (symL_hit s cs k pre ⟨tp, false⟩ rfl h y h2)
        have HM : Hid ((oneT s ⟨tp, false⟩).2.bad = false → findC cs (pre ++ [sign (oneT s ⟨tp, false⟩).1]) = none → symT s cs st = symL s cs k (pre ++ [sign (oneT s ⟨tp, false⟩).1]) (oneT s ⟨tp, false⟩).2) := fun h h2 => HS.out.trans (symL_miss s cs k pre ⟨tp, false⟩ rfl h h2)
        generalize oneT s ⟨tp, false⟩ = z at *
        obtain ⟨z1, zp, zb⟩ := z
        have hO3 := hOt.trans hO2
        have hblk3 := (hO3.block g hgb).trans hblk
        have hd2 := hR2.c2
        have hz : z1 = 0 ∨ z1 = 1 := by simp at hone; omega
        have HL : Hid ((pre ++ [sign z1]).length + k = 15 ∧ (pre ++ [sign z1]).length = pre.length + 1) := (⟨by have := HP.out; simp; omega, by simp⟩ : _ ∧ _)
        clear hc2 hf2 hone HS
        go_upto_if 21 with fail
        go_cut [5] (fun v wx => v = .string ⟨(pre ++ [sign z1]).toArray⟩ ∧ wx = w2)
        case first =>
          rcases hz with rfl | rfl
          · go_wp2
            go_meet
            case rel => exact ⟨by rw [snoc48]; rfl, rfl⟩
          · go_wp2
            go_meet
            case rel => exact ⟨by rw [snoc49]; rfl, rfl⟩
        case rest =>
          obtain ⟨rfl, hww⟩ := hcut
          have hww := hww.symm
          subst hww
          generalize pre ++ [sign z1] = P at *
          cases zb
          · go_wp2
            go_loop [7] (fun ii => ∃ i : Nat, i ≤ cs.length ∧ ii = .int .i64 i ∧ ∀ j (hj : j < i) (hc : j < cs.length), (cs[j].2 == P) = false) (fun ii => cs.length - (intOf ii).toNat)
            case atStart => exact ⟨0, by omega, rfl, fun j hj => absurd hj (by omega)⟩
            case round =>
              obtain ⟨i, hi, rfl, hno⟩ := hrel
              by_cases hic : i < cs.length
              · have hcc := hcur i hic
                have hcA : w2.cell? ⟨g, i * 2, none⟩ = some (.int .i64 ((cs[i].1 : Nat) : Int)) := (cell_of_block hblk3 _).trans (by rw [Nat.mul_comm]; exact hcc.1)
                have hcB : w2.cell? ⟨g, i * 2 + 1, none⟩ = some (.string ⟨cs[i].2.toArray⟩) := (cell_of_block hblk3 _).trans (by rw [Nat.mul_comm i]; exact hcc.2)
                clear hcc
                have HNo : Hid _ := hno
                clear hno
                by_cases heq : (cs[i].2 == P) = true
                · have HF : Hid (findC cs P = some cs[i].1) := findC_some cs P i hic (fun j hj => HNo.out j hj (by omega)) heq
                  go_wp2
                  go_ret
                  exact ⟨ret_int (by rw [HH.out _ (by first | rfl | trivial) HF.out]), by rw [HH.out _ (by first | rfl | trivial) HF.out]; exact hR2, hO3⟩
                · have heq' : (cs[i].2 == P) = false := by simpa using heq
                  have HF : Hid (∀ j (hj : j < i + 1) (hc : j < cs.length), (cs[j].2 == P) = false) := fun j hj hc => by
                    by_cases e : j = i
                    · subst e; exact heq'
                    · exact HNo.out j (by omega) hc
                  clear heq
                  go_wp2
                  go_round
                  case rel => exact ⟨i + 1, by omega, by go_num, HF.out⟩
                  case measure => simp [intOf]; omega
              · have HF : Hid (findC cs P = none) := findC_none cs P (fun j hj => hno j (by omega) hj)
                clear hno
                go_wp2
                go_roundw
                case rel => exact ⟨k, P, ⟨zp, false⟩, HL.out.1, HM.out (by first | rfl | trivial) HF.out, rfl, hR2, hO3⟩
                case measure => rw [strLen_mk, strLen_mk]; have := HL.out.2; omega
          · go_wp2
            go_loop [7] (fun ii => ii = .int .i64 0) (fun _ => 0)
            case atStart => rfl
            case round =>
              subst hrel
              by_cases hc0 : 0 < cs.length
              all_goals
                go_wp2
                go_roundw
                case rel => exact ⟨k, P, ⟨zp, true⟩, HL.out.1, by rw [HE.out (by first | rfl | trivial), symL_bad _ _ _ _ _ rfl], rfl, hR2, hO3⟩
                case measure => rw [strLen_mk, strLen_mk]; have := HL.out.2; omega
    · have H : Hid (symT s cs st = (0, ⟨tp, true⟩)) := hS.trans (symL_bad s cs k pre ⟨tp, true⟩ rfl)
      by_cases hl : pre.length < 15
      · clear hS hpk
        go_wp2
        go_ret
        exact ⟨ret_int (by rw [H.out]; rfl), by rw [H.out]; exact hRt.set2 true, hOt.setCell 2 _⟩
      · clear hS hpk
        go_wp2
        go_ret
        exact ⟨ret_int (by rw [H.out]; rfl), by rw [H.out]; exact hRt.set2 true, hOt.setCell 2 _⟩
set_option maxRecDepth 10000 in
set_option maxHeartbeats 4000000 in
theorem symbol_nil (b : Nat) (s : ByteArray) (st : RS) (w : World) (hR : RowIs w b s st) (hs : s.size ≤ 140737488351232) :
    Calls Tryz.prog 117 #[.pointer (some ⟨b, 0, none⟩), .slice none 0 0] w fun e w' => e = .returned (.int .i64 (((symT s [] st).1 : Nat) : Int)) ∧ RowIs w' b s (symT s [] st).2 ∧ Only b w w' := by
  go_enter Tryz.func117, Tryz.ntmps117
  go_wp2
  go_loopw [5] (fun p wr => ∃ (k : Nat) (pre : List UInt8) (t : RS), pre.length + k = 15 ∧ symT s [] st = symL s [] k pre t ∧ p = .string ⟨pre.toArray⟩ ∧ RowIs wr b s t ∧ Only b w wr) (fun p _ => 15 - strLen p)
  case atStart => exact ⟨15, [], st, rfl, rfl, rfl, hR, Only.refl b w⟩
  case round =>
    obtain ⟨k, pre, t, hpk, hS, rfl, hRt, hOt⟩ := hrel
    have hc2 := hRt.c2
    have hf2 := hRt.free 2
    obtain ⟨tp, tb⟩ := t
    cases tb
    · cases k with
      | zero =>
        have H : Hid (symT s [] st = (0, ⟨tp, true⟩)) := hS
        have hl : ¬ pre.length < 15 := by omega
        clear hS hpk
        go_wp2
        go_ret
        exact ⟨ret_int (by rw [H.out]; rfl), by rw [H.out]; exact hRt.set2 true, hOt.setCell 2 _⟩
      | succ k =>
        have hl : pre.length < 15 := by omega
        have HS : Hid _ := hS
        have HP : Hid _ := hpk
        clear hS hpk
        go_wp2_with fail
        refine (one_any b s ⟨tp, false⟩ _ hRt hs).mono ?_
        rintro e w2 ⟨rfl, hR2, hO2⟩
        have hone := oneT_le s ⟨tp, false⟩
        have HE : Hid ((oneT s ⟨tp, false⟩).2.bad = true → symT s [] st = (0, ⟨(oneT s ⟨tp, false⟩).2.pos, true⟩)) := fun h => HS.out.trans (symL_end s [] k pre ⟨tp, false⟩ rfl h)
        have HM : Hid ((oneT s ⟨tp, false⟩).2.bad = false → symT s [] st = symL s [] k (pre ++ [sign (oneT s ⟨tp, false⟩).1]) (oneT s ⟨tp, false⟩).2) := fun h => HS.out.trans (symL_miss s [] k pre ⟨tp, false⟩ rfl h rfl)
        generalize oneT s ⟨tp, false⟩ = z at *
        obtain ⟨z1, zp, zb⟩ := z
        have hO3 := hOt.trans hO2
        have hd2 := hR2.c2
        have hz : z1 = 0 ∨ z1 = 1 := by simp at hone; omega
        have HL : Hid ((pre ++ [sign z1]).length + k = 15 ∧ (pre ++ [sign z1]).length = pre.length + 1) := (⟨by have := HP.out; simp; omega, by simp⟩ : _ ∧ _)
        clear hc2 hf2 hone HS
        go_upto_if 21 with fail
        go_cut [5] (fun v wx => v = .string ⟨(pre ++ [sign z1]).toArray⟩ ∧ wx = w2)
        case first =>
          rcases hz with rfl | rfl
          · go_wp2
            go_meet
            case rel => exact ⟨by rw [snoc48]; rfl, rfl⟩
          · go_wp2
            go_meet
            case rel => exact ⟨by rw [snoc49]; rfl, rfl⟩
        case rest =>
          obtain ⟨rfl, hww⟩ := hcut
          have hww := hww.symm
          subst hww
          generalize pre ++ [sign z1] = P at *
          cases zb
          · go_wp2
            go_loop [7] (fun ii => ii = .int .i64 0) (fun _ => 0)
            case atStart => rfl
            case round =>
              subst hrel
              go_wp2
              go_roundw
              case rel => exact ⟨k, P, ⟨zp, false⟩, HL.out.1, HM.out (by first | rfl | trivial), rfl, hR2, hO3⟩
              case measure => rw [strLen_mk, strLen_mk]; have := HL.out.2; omega
          · go_wp2
            go_loop [7] (fun ii => ii = .int .i64 0) (fun _ => 0)
            case atStart => rfl
            case round =>
              subst hrel
              go_wp2
              go_roundw
              case rel => exact ⟨k, P, ⟨zp, true⟩, HL.out.1, by rw [HE.out (by first | rfl | trivial), symL_bad _ _ _ _ _ rfl], rfl, hR2, hO3⟩
              case measure => rw [strLen_mk, strLen_mk]; have := HL.out.2; omega
    · have H : Hid (symT s [] st = (0, ⟨tp, true⟩)) := hS.trans (symL_bad s [] k pre ⟨tp, true⟩ rfl)
      by_cases hl : pre.length < 15
      · clear hS hpk
        go_wp2
        go_ret
        exact ⟨ret_int (by rw [H.out]; rfl), by rw [H.out]; exact hRt.set2 true, hOt.setCell 2 _⟩
      · clear hS hpk
        go_wp2
        go_ret
        exact ⟨ret_int (by rw [H.out]; rfl), by rw [H.out]; exact hRt.set2 true, hOt.setCell 2 _⟩
theorem symbol_any (b : Nat) (s : ByteArray) (st : RS) (cs : List (Nat × List UInt8)) (v : Value) (w : World) (hR : RowIs w b s st) (hs : s.size ≤ 140737488351232) (hC : CodesAt w v cs) (hlen : cs.length ≤ 1000000) :
    Calls Tryz.prog 117 #[.pointer (some ⟨b, 0, none⟩), v] w fun e w' => e = .returned (.int .i64 (((symT s cs st).1 : Nat) : Int)) ∧ RowIs w' b s (symT s cs st).2 ∧ Only b w w' := by
  rcases hC with ⟨rfl, rfl⟩ | ⟨g, cap, cur, rfl, _, hblk, hcur⟩
  · exact symbol_nil b s st w hR hs
  · exact symbol_some b s st cs g cap cur w hR hs hlen hblk hcur
end Go.Proofs.YtephkcdbnogdhaaGreatDoor.RfW
/- What was put out, in memory; the walk of the document's put. -/
namespace Go.Proofs.YtephkcdbnogdhaaGreatDoor.RfW
open Go.RowKit Rf
theorem infoByte : (Tryz.prog.info? 5).map (fun i => (i.zero, i.size, i.bytes)) = some (some (.int .u8 0), 1, 1) := by kernel_rfl
/-- bytes as cells -/
def byteCells (L : List UInt8) : List Value := L.map fun (x : UInt8) => .int .u8 ((x.toNat : Nat) : Int)
theorem byteCells_snoc (L : List UInt8) (x : UInt8) : byteCells (L ++ [x]) = byteCells L ++ [.int .u8 ((x.toNat : Nat) : Int)] := by simp [byteCells]
theorem append_byte {wr : World} {ops : Array Oper} {rest : List Oper} {o : Oper} {a : Act} {Q : Exit → Act → World → Prop} (hgd : o.guard = none) (s x : Operand)
    (ho : o.op = .call { callee := .builtin .append, args := #[s, x], argTypes := #[45, 45] }) (base : Nat) (v : Value) (n : Nat) (xs : List Value) (z : Int)
    (hown : wr.ownsRow base 5 1 v n xs) (hs : a.eval s = v) (hx : a.eval x = .slice (some ⟨wr.heap.size, 0, none⟩) 1 1) (hn : n ≤ 100000000) (hb : base ≤ wr.heap.size)
    (h : ∀ v' w', w'.ownsRow base 5 1 v' (n + 1) (xs ++ [.int .u8 z]) → (wr.alloc (.cells #[.int .u8 z] 5)).grownBy w' v.ownBlock → wpList Tryz.prog ops Q rest (a.put o.dst v') w') :
    wpList Tryz.prog ops Q (o :: rest) a (wr.alloc (.cells #[.int .u8 z] 5)) := by
  obtain ⟨i0, hi, hz0, hz1, hz2⟩ := info_parts infoByte
  refine wpList_append_own _ hgd s x 45 ho base 5 i0 (.int .u8 0) 1 1 Tryz.underlying45 hi hz0 hz1 hz2 rfl (by decide) v n xs hs (hown.alloc _) ⟨wr.heap.size, 0, none⟩ 1 1 [.int .u8 z] hx rfl ?_ ?_ ?_ ?_ ?_ ?_
  · intro j u hj
    match j, hj with
    | 0, hj => simp at hj; subst hj; simp [Addr.add]
  · intro u hu; simp at hu; subst hu; rfl
  · unfold maxLen; omega
  · omega
  · simp; omega
  · intro v' w' h1 h2 _; exact h v' w' h1 h2
/-- but for the two structs and rows of bytes from base on nothing has turned -/
structure Eff (base rb ub : Nat) (w w' : World) : Prop where
  os : w'.os = w.os
  tape : w'.tape = w.tape
  output : w'.output = w.output
  size : w.heap.size ≤ w'.heap.size
  low : ∀ k, k < base → k ≠ rb → k ≠ ub → w'.heap[k]? = w.heap[k]?
  other : ∀ k cur T f, w.heap[k]? = some (.cells cur T f) → T ≠ 5 → k ≠ rb → k ≠ ub → w'.heap[k]? = w.heap[k]?
theorem Eff.refl (base rb ub : Nat) (w : World) : Eff base rb ub w w := ⟨rfl, rfl, rfl, Nat.le_refl _, fun _ _ _ _ => rfl, fun _ _ _ _ _ _ _ _ => rfl⟩
theorem Eff.trans {base rb ub : Nat} {u v w : World} (h : Eff base rb ub u v) (k : Eff base rb ub v w) : Eff base rb ub u w :=
  ⟨k.os.trans h.os, k.tape.trans h.tape, k.output.trans h.output, Nat.le_trans h.size k.size, fun i a b c => (k.low i a b c).trans (h.low i a b c),
   fun i cur T f e hT a b => by
     have h1 := h.other i cur T f e hT a b
     exact (k.other i cur T f (h1.trans e) hT a b).trans h1⟩
theorem Eff.drewN {base rb ub : Nat} {u v : World} (h : Eff base rb ub u v) (n : Nat) : Eff base rb ub u (v.drewN n) := ⟨h.os, h.tape, h.output, h.size, h.low, h.other⟩
theorem Eff.drew {base rb ub : Nat} {u v : World} (h : Eff base rb ub u v) : Eff base rb ub u v.drew := ⟨h.os, h.tape, h.output, h.size, h.low, h.other⟩
theorem Eff.set {base rb ub : Nat} {u v : World} (h : Eff base rb ub u v) (b o : Nat) (hb : b = rb ∨ b = ub) (x : Value) : Eff base rb ub u (v.setCell ⟨b, o, none⟩ x) :=
  ⟨h.os, h.tape, h.output, by simpa using h.size,
   fun k a e f => (Below.heap_setCell v ⟨b, o, none⟩ x k (by rcases hb with rfl | rfl <;> assumption)).trans (h.low k a e f),
   fun k cur T f e hT a c => (Below.heap_setCell v ⟨b, o, none⟩ x k (by rcases hb with rfl | rfl <;> assumption)).trans (h.other k cur T f e hT a c)⟩
theorem Only.eff {base rb ub : Nat} {w w' : World} (h : Only rb w w') : Eff base rb ub w w' :=
  ⟨h.os, h.tape, h.output, Nat.le_of_eq h.size.symm, fun k _ a _ => h.block k a, fun k _ _ _ _ _ a _ => h.block k a⟩
/-- the document's unpacking in memory: the row in block rb, the struct in block ub, the bytes in a row from base on -/
def UIs (w : World) (base rb ub : Nat) (s : ByteArray) (win most : Nat) (u : US) : Prop :=
  RowIs w rb s u.st ∧ rb < base ∧ ub < base ∧ rb ≠ ub ∧ base ≤ w.heap.size ∧ u.out.length ≤ most ∧
  ∃ v, w.heap[ub]? = some (.cells #[.pointer (some ⟨rb, 0, none⟩), v, .int .i64 (win : Int), .int .i64 (most : Int)] 93 (0, 0)) ∧ w.ownsRow base 5 1 v u.out.length (byteCells u.out)
/-- the row alone has turned -/
theorem UIs.row {w w' : World} {base rb ub win most : Nat} {s : ByteArray} {u : US} (h : UIs w base rb ub s win most u) (ho : Only rb w w') (st : RS) (hR : RowIs w' rb s st) : UIs w' base rb ub s win most ⟨st, u.out⟩ := by
  obtain ⟨_, h1, h2, h3, h4, h5, v, h6, h7⟩ := h
  refine ⟨hR, h1, h2, h3, by rw [ho.size]; exact h4, h5, v, (ho.block ub (Ne.symm h3)).trans h6, ?_⟩
  obtain ⟨a, b⟩ := h7
  refine ⟨a, ?_⟩
  rcases b with b | ⟨g, cap, cur, e1, e2, e3, r⟩
  · exact .inl b
  · exact .inr ⟨g, cap, cur, e1, e2, (ho.block g (by omega)).trans e3, r⟩
theorem own_shape {w : World} {base e size n : Nat} {v : Value} {xs : List Value} (h : w.ownsRow base e size v (n + 1) xs) : ∃ g cap, v = .slice (some ⟨g, 0, none⟩) (n + 1) cap := by
  rcases h.2 with h | ⟨g, cap, _, h, _⟩
  · omega
  · exact ⟨g, cap, h⟩
/-- a block that an append does not touch -/
theorem grown_cell {wr w' : World} {blk : Obj} {row : Option Nat} {k : Nat} {cur : Array Value} {T : TypeId} (hg : (wr.alloc blk).grownBy w' row) (h : wr.heap[k]? = some (.cells cur T (0, 0))) (hne : some k ≠ row) :
    w'.heap[k]? = some (.cells cur T (0, 0)) ∧ ∀ o, w'.frozen? ⟨k, o, none⟩ = false := by
  have hk := lt_of_blk h
  have e : w'.heap[k]? = some (.cells cur T (0, 0)) := ((hg.block k (by simp; omega) hne).trans (Below.heap_alloc wr blk k hk)).trans h
  exact ⟨e, fun o => by simp [World.frozen?, e]⟩
theorem put_end {w w1 : World} {base rb ub win most : Nat} {s : ByteArray} {st : RS} {out : List UInt8} {x : UInt8} {v v' : Value} {blk : Obj} {n' : Nat} (nq : Nat)
    (hU : UIs w base rb ub s win most ⟨st, out⟩) (hblk : w.heap[ub]? = some (.cells #[.pointer (some ⟨rb, 0, none⟩), v, .int .i64 (win : Int), .int .i64 (most : Int)] 93 (0, 0)))
    (hown : w.ownsRow base 5 1 v out.length (byteCells out)) (hg : ((w.drewN nq).alloc blk).grownBy w1 v.ownBlock) (hn : n' = out.length + 1)
    (hown' : w1.ownsRow base 5 1 v' n' (byteCells out ++ [.int .u8 ((x.toNat : Nat) : Int)])) (hlt : out.length < most) :
    UIs (w1.setCell ⟨ub, 1, none⟩ v') base rb ub s win most ⟨st, out ++ [x]⟩ ∧ Eff base rb ub w (w1.setCell ⟨ub, 1, none⟩ v') := by
  subst hn
  obtain ⟨hR, h1, h2, h3, h4, _, _⟩ := hU
  have hsame : ∀ k, k < w.heap.size → some k ≠ v.ownBlock → w1.heap[k]? = w.heap[k]? := fun k hk hne =>
    (hg.block k (by simp; exact Nat.lt_succ_of_lt hk) hne).trans (Below.heap_alloc (w.drewN nq) blk k hk)
  have hlow : ∀ k, k < base → w1.heap[k]? = w.heap[k]? := fun k hk => hsame k (by omega) (fun e => by have := (hown.lt k e.symm).1; omega)
  have hsz : w.heap.size ≤ w1.heap.size := by have := hg.size; simp at this; exact Nat.le_of_succ_le this
  refine ⟨⟨?_, h1, h2, h3, by simp; omega, by simp; omega, v', ?_, ?_⟩, ⟨hg.os, hg.tape, hg.output, by simpa using hsz, ?_, ?_⟩⟩
  · exact hR.over ((Below.heap_setCell w1 ⟨ub, 1, none⟩ v' rb h3).trans (hlow rb h1))
  · have := (hlow ub h2).trans hblk
    simp [World.setCell, Array.getElem?_modify, this]
  · have := ownsRow_setCell_below hown' (a := ⟨ub, 1, none⟩) h2 v'
    rw [byteCells_snoc, List.length_append]
    exact this
  · intro k hk a b
    exact (Below.heap_setCell w1 ⟨ub, 1, none⟩ v' k b).trans (hlow k hk)
  · intro k cur T f e hT a b
    refine (Below.heap_setCell w1 ⟨ub, 1, none⟩ v' k b).trans (hsame k (Array.getElem?_eq_some_iff.1 e).1 ?_)
    intro e2
    rcases hown.2 with ⟨e3, _⟩ | ⟨g, cap, cu, e3, _, e4, _⟩
    · rw [e3] at e2; simp [Value.ownBlock] at e2
    · rw [e3] at e2
      simp [Value.ownBlock] at e2
      subst e2
      rw [e4] at e
      simp at e
      exact hT e.2.1.symm
set_option maxRecDepth 10000 in
set_option maxHeartbeats 2000000 in
theorem put_any (base rb ub : Nat) (s : ByteArray) (win most : Nat) (u : US) (x : UInt8) (w : World) (hU : UIs w base rb ub s win most u) (hm : most ≤ 16777216) :
    Calls Tryz.prog 115 #[.pointer (some ⟨ub, 0, none⟩), .int .u8 ((x.toNat : Nat) : Int)] w fun e w' => e = .returned (.tuple #[]) ∧ UIs w' base rb ub s win most (putT most x u) ∧ Eff base rb ub w w' := by
  have hU0 := hU
  obtain ⟨hR, hrb, hub, hne, hbw, hol, v, hblk, hown⟩ := hU
  have hu0 : w.cell? ⟨ub, 0, none⟩ = some (.pointer (some ⟨rb, 0, none⟩)) := by simp [World.cell?, hblk]
  have hu1 : w.cell? ⟨ub, 1, none⟩ = some v := by simp [World.cell?, hblk]
  have hu3 : w.cell? ⟨ub, 3, none⟩ = some (.int .i64 (most : Int)) := by simp [World.cell?, hblk]
  have hr2 := hR.c2
  have hf2 := hR.free 2
  have hfu : w.frozen? ⟨ub, 1, none⟩ = false := by simp [World.frozen?, hblk]
  obtain ⟨⟨p, bad⟩, out⟩ := u
  by_cases hfull : most ≤ out.length
  · have HT : Hid (putT most x ⟨⟨p, bad⟩, out⟩ = ⟨⟨p, true⟩, out⟩) := putT_full most x _ hfull
    have hd : decide ((most : Int) ≤ (out.length : Int)) = true := by simp; omega
    obtain ⟨_, hv⟩ := hown
    rcases hv with ⟨rfl, hv⟩ | ⟨g, cap, cur, rfl, hv⟩
    · have hl0 : out.length = 0 := hv
      have hd0 : decide ((most : Int) ≤ 0) = true := by simp; omega
      go_enter Tryz.func115, Tryz.ntmps115
      go_wp2
      go_quiet (fail)
      go_wp2
      go_end0
      exact ⟨rfl, by rw [HT.out]; exact hU0.row (((Only.refl rb w).drewN nq).setCell 2 _) ⟨p, true⟩ ((hR.drewN nq).set2 true), ((Eff.refl base rb ub w).drewN nq).set rb 2 (.inl rfl) _⟩
    · clear hv
      go_enter Tryz.func115, Tryz.ntmps115
      go_wp2
      go_quiet (fail)
      go_wp2
      go_end0
      exact ⟨rfl, by rw [HT.out]; exact hU0.row (((Only.refl rb w).drewN nq).setCell 2 _) ⟨p, true⟩ ((hR.drewN nq).set2 true), ((Eff.refl base rb ub w).drewN nq).set rb 2 (.inl rfl) _⟩
  · cases bad
    · have HT : Hid (putT most x ⟨⟨p, false⟩, out⟩ = ⟨⟨p, false⟩, out ++ [x]⟩) := putT_go most x _ hfull rfl
      have hd : decide ((most : Int) ≤ (out.length : Int)) = false := by simp; omega
      have hown0 := hown
      have holt : out.length < most := by omega
      have hlo : out.length ≤ 100000000 := by omega
      obtain ⟨_, hv⟩ := hown
      rcases hv with ⟨rfl, hv⟩ | ⟨g, cap, cur, rfl, hv⟩
      · have hl0 : out.length = 0 := hv
        have hd0 : decide ((most : Int) ≤ 0) = false := by simp; omega
        go_enter Tryz.func115, Tryz.ntmps115
        go_wp2
        go_quiet (fail)
        go_wp2_with (first
          | (at_builtin; refine append_byte rfl _ _ rfl base _ out.length (byteCells out) ((x.toNat : Nat) : Int) (show (w.drewN nq).ownsRow _ _ _ _ _ _ from hown0) rfl rfl hlo hbw ?_; go_must (intro v' w1 hown' hg; obtain ⟨g', cap', rfl⟩ := own_shape hown'; have hgu := grown_cell hg (show (w.drewN nq).heap[ub]? = _ from hblk) (by simp [Value.ownBlock]); have hgf := hgu.2 1; have hgc : w1.cell? ⟨ub, 1, none⟩ = some (.slice none 0 0) := by rw [cell_of_block hgu.1 1]; rfl))
          | go_in)
        go_end0
        have e1 : out.length + 1 = 1 := by omega
        rw [e1] at hown'
        have hfin := put_end nq hU0 hblk hown0 hg e1.symm hown' holt
        exact ⟨rfl, by rw [HT.out]; exact hfin.1, hfin.2⟩
      · have hgb : base ≤ g := hv.1
        go_enter Tryz.func115, Tryz.ntmps115
        go_wp2
        go_quiet (fail)
        go_wp2_with (first
          | (at_builtin; refine append_byte rfl _ _ rfl base _ out.length (byteCells out) ((x.toNat : Nat) : Int) (show (w.drewN nq).ownsRow _ _ _ _ _ _ from hown0) rfl rfl hlo hbw ?_; go_must (intro v' w1 hown' hg; obtain ⟨g', cap', rfl⟩ := own_shape hown'; have hgu := grown_cell hg (show (w.drewN nq).heap[ub]? = _ from hblk) (by simp [Value.ownBlock]; omega); have hgf := hgu.2 1; have hgc : w1.cell? ⟨ub, 1, none⟩ = some (.slice (some ⟨g, 0, none⟩) out.length cap) := by rw [cell_of_block hgu.1 1]; rfl))
          | go_in)
        go_end0
        have hfin := put_end nq hU0 hblk hown0 hg rfl hown' holt
        exact ⟨rfl, by rw [HT.out]; exact hfin.1, hfin.2⟩
    · have HT : Hid (putT most x ⟨⟨p, true⟩, out⟩ = ⟨⟨p, true⟩, out⟩) := putT_bad most x _ hfull rfl
      have hd : decide ((most : Int) ≤ (out.length : Int)) = false := by simp; omega
      obtain ⟨_, hv⟩ := hown
      rcases hv with ⟨rfl, hv⟩ | ⟨g, cap, cur, rfl, hv⟩
      · have hl0 : out.length = 0 := hv
        have hd0 : decide ((most : Int) ≤ 0) = false := by simp; omega
        go_enter Tryz.func115, Tryz.ntmps115
        go_wp2
        go_quiet (fail)
        go_wp2
        go_end0
        exact ⟨rfl, by rw [HT.out]; exact hU0.row ((Only.refl rb w).drewN nq) ⟨p, true⟩ (hR.drewN nq), (Eff.refl base rb ub w).drewN nq⟩
      · clear hv
        go_enter Tryz.func115, Tryz.ntmps115
        go_wp2
        go_quiet (fail)
        go_wp2
        go_end0
        exact ⟨rfl, by rw [HT.out]; exact hU0.row ((Only.refl rb w).drewN nq) ⟨p, true⟩ (hR.drewN nq), (Eff.refl base rb ub w).drewN nq⟩
theorem put_int (base rb ub : Nat) (s : ByteArray) (win most : Nat) (u : US) (x : UInt8) (a : Int) (ha : ((x.toNat : Nat) : Int) = a) (w : World) (hU : UIs w base rb ub s win most u) (hm : most ≤ 16777216) :
    Calls Tryz.prog 115 #[.pointer (some ⟨ub, 0, none⟩), .int .u8 a] w fun e w' => e = .returned (.tuple #[]) ∧ UIs w' base rb ub s win most (putT most x u) ∧ Eff base rb ub w w' := by
  subst ha; exact put_any base rb ub s win most u x w hU hm
end Go.Proofs.YtephkcdbnogdhaaGreatDoor.RfW
/- The walk of the document's block of sort 0. -/
namespace Go.Proofs.YtephkcdbnogdhaaGreatDoor.RfW
open Go.RowKit Rf
theorem UIs.u0 {w : World} {base rb ub win most : Nat} {s : ByteArray} {u : US} (h : UIs w base rb ub s win most u) : w.cell? ⟨ub, 0, none⟩ = some (.pointer (some ⟨rb, 0, none⟩)) := by
  obtain ⟨_, _, _, _, _, _, v, h6, _⟩ := h; simp [World.cell?, h6]
theorem UIs.u2 {w : World} {base rb ub win most : Nat} {s : ByteArray} {u : US} (h : UIs w base rb ub s win most u) : w.cell? ⟨ub, 2, none⟩ = some (.int .i64 (win : Int)) := by
  obtain ⟨_, _, _, _, _, _, v, h6, _⟩ := h; simp [World.cell?, h6]
theorem UIs.drewN {w : World} {base rb ub win most : Nat} {s : ByteArray} {u : US} (h : UIs w base rb ub s win most u) (n : Nat) : UIs (w.drewN n) base rb ub s win most u := h
set_option maxRecDepth 10000 in
set_option maxHeartbeats 4000000 in
theorem stored_any (base rb ub : Nat) (s : ByteArray) (win most : Nat) (u : US) (w : World) (hU : UIs w base rb ub s win most u) (hs : s.size ≤ 140737488351232) (hm : most ≤ 16777216) :
    Calls Tryz.prog 80 #[.pointer (some ⟨ub, 0, none⟩)] w fun e w' => e = .returned (.tuple #[]) ∧ UIs w' base rb ub s win most (storedT s most u) ∧ Eff base rb ub w w' := by
  obtain ⟨⟨p, bad⟩, out⟩ := u
  go_enter Tryz.func80, Tryz.ntmps80
  go_wp2
  go_loopw [] (fun wr => ∃ q : Nat, p ≤ q ∧ q ≤ (p + 7) / 8 * 8 ∧ UIs wr base rb ub s win most ⟨⟨q, bad⟩, out⟩ ∧ Eff base rb ub w wr) (fun wr => 8 * s.size - (intOf ((wr.cell? ⟨rb, 1, none⟩).getD undef)).toNat)
  case atStart => exact ⟨p, Nat.le_refl _, by omega, hU, Eff.refl _ _ _ _⟩
  case round =>
    obtain ⟨q, hq1, hq2, hUq, hEq⟩ := hrel
    have hu0 := hUq.u0
    have hr1 := hUq.1.c1
    have hf1 := hUq.1.free 1
    have hq8 : q ≤ 8 * s.size := hUq.1.2
    by_cases hmod : q % 8 = 0
    · have ht : ((q : Int) % 8 != 0) = false := by rw [bne_eq_false_iff_eq]; omega
      have HA : Hid (alignT ⟨p, bad⟩ = ⟨q, bad⟩) := (by unfold alignT; rw [show (p + 7) / 8 * 8 = q by omega] : _ = _)
      clear hq1 hq2
      go_wp2_with fail
      refine (number_any rb s ⟨q, bad⟩ 16 _ rfl _ hUq.1 hs (by omega)).mono ?_
      rintro e w1 ⟨rfl, hR1, hO1⟩
      have hU1 := hUq.row hO1 _ hR1
      have hE1 := hEq.trans (hO1.eff (base := base) (ub := ub))
      have hb1 := numT_lt s 16 ⟨q, bad⟩
      have hv0 := hU1.u0
      clear hu0 hr1 hf1 hR1 hO1
      go_wp2_with fail
      refine (number_any rb s _ 16 _ rfl _ hU1.1 hs (by omega)).mono ?_
      rintro e w2 ⟨rfl, hR2, hO2⟩
      have hU2 := hU1.row hO2 _ hR2
      have hE2 := hE1.trans (hO2.eff (base := base) (ub := ub))
      have hb2 := numT_lt s 16 (numT s 16 ⟨q, bad⟩).2
      have HH : Hid (headT s ⟨p, bad⟩ = ((numT s 16 ⟨q, bad⟩).1, if (numT s 16 ⟨q, bad⟩).1 + (numT s 16 (numT s 16 ⟨q, bad⟩).2).1 = 65535 then (numT s 16 (numT s 16 ⟨q, bad⟩).2).2 else ⟨(numT s 16 (numT s 16 ⟨q, bad⟩).2).2.pos, true⟩)) := (by unfold headT; rw [HA.out] : _ = _)
      clear hv0 hR2 hO2 hU1 hE1
      generalize numT s 16 (numT s 16 ⟨q, bad⟩).2 = M at *
      generalize (numT s 16 ⟨q, bad⟩).1 = n at *
      obtain ⟨m, mst⟩ := M
      simp only at hU2 hb2
      have hv0 := hU2.u0
      have hg2 := hU2.1.free 2
      have hg3 := hU2.1.c2
      have hn16 : n < 65536 := hb1
      have hm16 : m < 65536 := hb2
      clear hb1 hb2
      go_upto_if 38 with fail
      go_cut [] (fun wx => UIs wx base rb ub s win most ⟨(headT s ⟨p, bad⟩).2, out⟩ ∧ Eff base rb ub w wx)
      case first =>
        by_cases hsum : n + m = 65535
        · have hc : ((n : Int) + (m : Int) != 65535) = false := by rw [bne_eq_false_iff_eq]; omega
          have HS : Hid ((headT s ⟨p, bad⟩).2 = mst) := (by rw [HH.out]; exact if_pos hsum : _ = _)
          clear hsum
          go_wp2
          go_meet
          case rel => exact ⟨by rw [HS.out]; exact hU2, hE2⟩
        · have hc : ((n : Int) + (m : Int) != 65535) = true := by rw [bne_iff_ne]; omega
          have HS : Hid ((headT s ⟨p, bad⟩).2 = ⟨mst.pos, true⟩) := (by rw [HH.out]; exact if_neg hsum : _ = _)
          clear hsum
          go_wp2
          go_meet
          case rel => exact ⟨by rw [HS.out]; exact hU2.row ((Only.refl rb w2).setCell 2 _) _ (hU2.1.set2 true), hE2.set rb 2 (.inl rfl) _⟩
      case rest =>
        obtain ⟨hU3, hE3⟩ := hcut
        have HN : Hid ((headT s ⟨p, bad⟩).1 = n) := (by rw [HH.out] : _ = _)
        clear hU2 hE2 hv0 hg2 hg3 HH HA
        have HT : Hid (storedT s most ⟨⟨p, bad⟩, out⟩ = stL s most n ⟨(headT s ⟨p, bad⟩).2, out⟩) := (by unfold storedT; rw [HN.out] : _ = _)
        generalize (headT s ⟨p, bad⟩).2 = h0 at *
        go_wp2
        go_loopw [4] (fun i wr => ∃ (k j : Nat) (t : US), k + j = n ∧ storedT s most ⟨⟨p, bad⟩, out⟩ = stL s most j t ∧ i = .int .i64 k ∧ UIs wr base rb ub s win most t ∧ Eff base rb ub w wr) (fun i _ => n - (intOf i).toNat)
        case atStart => exact ⟨0, n, _, by omega, HT.out, rfl, hU3, hE3⟩
        case round =>
          obtain ⟨k, j, t, hkj, hL, rfl, hUt, hEt⟩ := hrel
          have ht0 := hUt.u0
          have ht2 := hUt.1.c2
          obtain ⟨⟨tp, tb⟩, tout⟩ := t
          cases j with
          | zero =>
            have HL : Hid (storedT s most ⟨⟨p, bad⟩, out⟩ = ⟨⟨tp, tb⟩, tout⟩) := hL
            have hkn : ¬ k < n := by omega
            clear hL hkj
            go_wp2
            go_end0
            exact ⟨rfl, by rw [HL.out]; exact hUt, hEt⟩
          | succ j =>
            have hkn : k < n := by omega
            cases tb
            · have HL : Hid (storedT s most ⟨⟨p, bad⟩, out⟩ = stL s most j (putT most (UInt8.ofNat (numT s 8 ⟨tp, false⟩).1) ⟨(numT s 8 ⟨tp, false⟩).2, tout⟩) ∧ k + 1 + j = n) := (⟨hL.trans (stL_go s most j _ rfl), by omega⟩ : _ ∧ _)
              clear hL hkj
              go_wp2_with fail
              refine (number_any rb s ⟨tp, false⟩ 8 _ rfl _ hUt.1 hs (by omega)).mono ?_
              rintro e w4 ⟨rfl, hR4, hO4⟩
              have hU4 := hUt.row hO4 _ hR4
              have hE4 := hEt.trans (hO4.eff (base := base) (ub := ub))
              have hb4 := numT_lt s 8 ⟨tp, false⟩
              have hx : (((UInt8.ofNat (numT s 8 ⟨tp, false⟩).1).toNat : Nat) : Int) = (((numT s 8 ⟨tp, false⟩).1 : Nat) : Int) := by rw [UInt8.toNat_ofNat']; omega
              generalize numT s 8 ⟨tp, false⟩ = B at *
              obtain ⟨bv, bst⟩ := B
              have HX : Hid _ := hx
              have hbv : bv ≤ 255 := by simp at hb4; omega
              clear hx hb4 ht0 ht2
              go_wp2_with fail
              refine (put_int base rb ub s win most ⟨bst, tout⟩ (UInt8.ofNat bv) _ HX.out _ hU4 hm).mono ?_
              rintro e w5 ⟨rfl, hU5, hE5⟩
              go_wp2
              go_roundw
              case rel => exact ⟨k + 1, j, _, HL.out.2, HL.out.1, by go_num, hU5, hE4.trans hE5⟩
              case measure => simp [intOf]; omega
            · have HL : Hid (storedT s most ⟨⟨p, bad⟩, out⟩ = ⟨⟨tp, true⟩, tout⟩) := hL.trans (stL_bad s most _ _ rfl)
              clear hL hkj
              go_wp2
              go_end0
              exact ⟨rfl, by rw [HL.out]; exact hUt, hEt⟩
    · have ht : ((q : Int) % 8 != 0) = true := by rw [bne_iff_ne]; omega
      go_wp2
      go_roundw
      case rel => exact ⟨q + 1, by omega, by omega, hUq.row ((Only.refl rb wr).setCell 1 _) _ (hUq.1.set1 (q + 1) (by omega) _ (by go_num)), hEq.set rb 1 (.inl rfl) _⟩
      case measure => rw [World.cell?_setCell_same _ _ _ hr1, hr1]; simp [intOf]; omega
end Go.Proofs.YtephkcdbnogdhaaGreatDoor.RfW
