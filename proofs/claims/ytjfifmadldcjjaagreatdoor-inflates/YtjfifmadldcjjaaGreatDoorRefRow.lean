/- The walks of the document's row of bits: bit, one, number. -/
import Derived.Test.YtjfifmadldcjjaaGreatDoorRows
import Derived.Test.YtjfifmadldcjjaaGreatDoorRefMath
import Derived.WalkKit
import Derived.BigQuiet
import Derived.Deep.QuietTactic
import Derived.Deep.RegionWith
import Derived.Deep.DeepCutAuto
namespace Go.Proofs.YtjfifmadldcjjaaGreatDoor.RfW
open Go.RowKit Rf
theorem ret_int {k : IntKind} {a b : Int} (h : a = b) : Ending.returned (.int k a) = .returned (.int k b) := by rw [h]
/-- but for block b nothing has turned -/
structure Only (b : Nat) (w w' : World) : Prop where
  os : w'.os = w.os
  tape : w'.tape = w.tape
  output : w'.output = w.output
  size : w'.heap.size = w.heap.size
  block : ∀ k, k ≠ b → w'.heap[k]? = w.heap[k]?
theorem Only.refl (b : Nat) (w : World) : Only b w w := ⟨rfl, rfl, rfl, rfl, fun _ _ => rfl⟩
theorem Only.trans {b : Nat} {u v w : World} (h : Only b u v) (k : Only b v w) : Only b u w :=
  ⟨k.os.trans h.os, k.tape.trans h.tape, k.output.trans h.output, k.size.trans h.size, fun i hi => (k.block i hi).trans (h.block i hi)⟩
theorem Only.drewN {b : Nat} {u v : World} (h : Only b u v) (n : Nat) : Only b u (v.drewN n) := ⟨h.os, h.tape, h.output, h.size, h.block⟩
theorem Only.drew {b : Nat} {u v : World} (h : Only b u v) : Only b u v.drew := ⟨h.os, h.tape, h.output, h.size, h.block⟩
theorem Only.setCell {b : Nat} {u v : World} (h : Only b u v) (o : Nat) (x : Value) : Only b u (v.setCell ⟨b, o, none⟩ x) :=
  ⟨h.os, h.tape, h.output, by simpa using h.size, fun k hk => (Below.heap_setCell v ⟨b, o, none⟩ x k hk).trans (h.block k hk)⟩
/-- the row lies in block b -/
def RowIs (w : World) (b : Nat) (s : ByteArray) (st : RS) : Prop :=
  w.heap[b]? = some (.cells #[.string s, .int .i64 (st.pos : Nat), .bool st.bad] 46 (0, 0)) ∧ st.pos ≤ 8 * s.size
theorem RowIs.c0 {w : World} {b : Nat} {s : ByteArray} {st : RS} (h : RowIs w b s st) : w.cell? ⟨b, 0, none⟩ = some (.string s) := by simp [World.cell?, h.1]
theorem RowIs.c1 {w : World} {b : Nat} {s : ByteArray} {st : RS} (h : RowIs w b s st) : w.cell? ⟨b, 1, none⟩ = some (.int .i64 (st.pos : Nat)) := by simp [World.cell?, h.1]
theorem RowIs.c2 {w : World} {b : Nat} {s : ByteArray} {st : RS} (h : RowIs w b s st) : w.cell? ⟨b, 2, none⟩ = some (.bool st.bad) := by simp [World.cell?, h.1]
theorem RowIs.free {w : World} {b : Nat} {s : ByteArray} {st : RS} (h : RowIs w b s st) (o : Nat) : w.frozen? ⟨b, o, none⟩ = false := by simp [World.frozen?, h.1]
theorem RowIs.drewN {w : World} {b : Nat} {s : ByteArray} {st : RS} (h : RowIs w b s st) (n : Nat) : RowIs (w.drewN n) b s st := h
theorem RowIs.over {w w' : World} {b : Nat} {s : ByteArray} {st : RS} (h : RowIs w b s st) (e : w'.heap[b]? = w.heap[b]?) : RowIs w' b s st := ⟨e.trans h.1, h.2⟩
theorem RowIs.set1 {w : World} {b : Nat} {s : ByteArray} {st : RS} (h : RowIs w b s st) (p : Nat) (hp : p ≤ 8 * s.size) (x : Value) (hx : x = .int .i64 (p : Nat)) : RowIs (w.setCell ⟨b, 1, none⟩ x) b s ⟨p, st.bad⟩ := by
  subst hx
  refine ⟨?_, hp⟩
  simp [World.setCell, Array.getElem?_modify, h.1]
theorem RowIs.set2 {w : World} {b : Nat} {s : ByteArray} {st : RS} (h : RowIs w b s st) (x : Bool) : RowIs (w.setCell ⟨b, 2, none⟩ (.bool x)) b s ⟨st.pos, x⟩ := by
  refine ⟨?_, h.2⟩
  simp [World.setCell, Array.getElem?_modify, h.1]
set_option maxHeartbeats 400000 in
theorem bit_any (v k : Nat) (w : World) (hv : v ≤ 255) (hk : k ≤ 8) :
    Calls Tryz.prog 43 #[.int .i64 v, .int .i64 k] w fun e w' => e = .returned (.int .i64 ((bitAt v k : Nat) : Int)) ∧ w' = w := by
  go_enter Tryz.func43, Tryz.ntmps43
  go_wp2
  go_loop [0, 1] (fun x j => ∃ n m y : Nat, n + m = k ∧ y = v / 2 ^ n ∧ j = .int .i64 m ∧ x = .int .i64 y) (fun _ j => (intOf j).toNat)
  case atStart => exact ⟨0, k, v, by omega, by simp, rfl, rfl⟩
  case round =>
    obtain ⟨n, m, y, hnm, hy, rfl, rfl⟩ := hrel
    have hle : y ≤ 255 := by rw [hy]; exact Nat.le_trans (Nat.div_le_self _ _) hv
    have hmk : m ≤ 8 := by omega
    by_cases hm : 0 < m
    · have H : Hid (n + 1 + (m - 1) = k ∧ y / 2 = v / 2 ^ (n + 1)) := (⟨by omega, by rw [hy, half_more]⟩ : _ ∧ _)
      clear hnm hy
      go_wp2
      go_round
      case rel => exact ⟨n + 1, m - 1, y / 2, H.out.1, H.out.2, by go_num, by go_num⟩
      case measure => simp [intOf]; omega
    · have hm0 : m = 0 := by omega
      subst hm0
      have H : Hid (y = v / 2 ^ k) := (by rw [← hnm]; exact hy : _ = _)
      clear hnm hy
      go_wp2
      go_ret
      exact ⟨ret_int (by rw [bitAt_of v k y H.out]; omega), rfl⟩
theorem bit_int (a b : Int) (v k : Nat) (ha : a = v) (hb : b = k) (w : World) (hv : v ≤ 255) (hk : k ≤ 8) :
    Calls Tryz.prog 43 #[.int .i64 a, .int .i64 b] w fun e w' => e = .returned (.int .i64 ((bitAt v k : Nat) : Int)) ∧ w' = w := by
  subst ha hb; exact bit_any v k w hv hk
set_option maxHeartbeats 1000000 in
theorem one_any (b : Nat) (s : ByteArray) (st : RS) (w : World) (hR : RowIs w b s st) (hs : s.size ≤ 140737488351232) :
    Calls Tryz.prog 24 #[.pointer (some ⟨b, 0, none⟩)] w fun e w' => e = .returned (.int .i64 (((oneT s st).1 : Nat) : Int)) ∧ RowIs w' b s (oneT s st).2 ∧ Only b w w' := by
  have h0 := hR.c0
  have h1 := hR.c1
  have h2 := hR.c2
  have hf1 := hR.free 1
  have hf2 := hR.free 2
  obtain ⟨p, bad⟩ := st
  have hp : p ≤ 8 * s.size := hR.2
  cases bad
  · by_cases hlt : p < 8 * s.size
    · have hT := oneT_go s ⟨p, false⟩ (by simp; omega)
      rw [hT]
      clear hT
      have hd : decide ((8 * (s.size : Int)) ≤ (p : Int)) = false := by simp; omega
      obtain ⟨q, hq⟩ : ∃ q, q = p / 8 := ⟨_, rfl⟩
      obtain ⟨m, hm⟩ : ∃ m, m = p % 8 := ⟨_, rfl⟩
      have hw8 : IntKind.i64.wrap ((p : Int) / 8) = (q : Int) := by rw [IntKind.wrap_i64]; omega
      have hw9 : Hid ((p : Int).tmod 8 = (m : Int)) := (by rw [Int.tmod_eq_emod_of_nonneg (by omega)]; omega : _ = _)
      have hw7 : Hid ((p : Int) % 8 = (m : Int)) := (by omega : _ = _)
      have hqs : q < s.size := by omega
      have hm8 : m ≤ 8 := by omega
      have hB : Hid (bitAt (byteAt s (p / 8)) (p % 8) = bitAt (s[q]).toNat m) := (by rw [← hq, ← hm, byteAt_is s q hqs] : _ = _)
      have hbyte : s[q].toNat ≤ 255 := by have := s[q].toNat_lt; omega
      clear hq hm
      go_enter Tryz.func24, Tryz.ntmps24
      go_wp2
      go_quiet (fail)
      have hO1 : Only b w (w.drewN nq) := (Only.refl b w).drewN nq
      have hR1 := hR.drewN nq
      generalize w.drewN nq = w1 at *
      clear h0 h1 h2 hf1 hf2
      have h0 := hR1.c0
      have h1 := hR1.c1
      have h2 := hR1.c2
      have hf1 := hR1.free 1
      go_wp2
      go_quiet ((go_at_call 43; exact Calls.quiet_of_same (bit_int _ _ (s[q]).toNat m (by first | rfl | (rw [IntKind.wrap_i64]; omega)) (by first | exact hw9.out | exact hw7.out) _ hbyte hm8)))
      go_wp2
      go_ret
      exact ⟨ret_int (by rw [hB.out]), (hR1.drewN nq).set1 (p + 1) (by omega) _ (by go_num), (hO1.drewN nq).setCell 1 _⟩
    · have hT := oneT_bad s ⟨p, false⟩ (Or.inr (by simp; omega))
      rw [hT]
      clear hT
      have hd : decide ((8 * (s.size : Int)) ≤ (p : Int)) = true := by simp; omega
      go_enter Tryz.func24, Tryz.ntmps24
      go_wp2
      go_quiet (fail)
      go_wp2
      go_ret
      exact ⟨rfl, (hR.drewN nq).set2 true, ((Only.refl b w).drewN nq).setCell 2 _⟩
  · have hT := oneT_bad s ⟨p, true⟩ (Or.inl rfl)
    rw [hT]
    clear hT
    go_enter Tryz.func24, Tryz.ntmps24
    go_wp2
    go_quiet (fail)
    go_wp2
    go_ret
    exact ⟨rfl, (hR.drewN nq).set2 true, ((Only.refl b w).drewN nq).setCell 2 _⟩
set_option maxHeartbeats 1000000 in
theorem number_any (b : Nat) (s : ByteArray) (st : RS) (n : Nat) (a : Int) (ha : a = n) (w : World) (hR : RowIs w b s st) (hs : s.size ≤ 140737488351232) (hn : n ≤ 16) :
    Calls Tryz.prog 25 #[.pointer (some ⟨b, 0, none⟩), .int .i64 a] w fun e w' => e = .returned (.int .i64 (((numT s n st).1 : Nat) : Int)) ∧ RowIs w' b s (numT s n st).2 ∧ Only b w w' := by
  subst ha
  go_enter Tryz.func25, Tryz.ntmps25
  go_wp2
  go_loopw [5, 6, 7] (fun v u i wr => ∃ (k j x y : Nat) (t : RS), k + j = n ∧ y = 2 ^ k ∧ x < y ∧ numT s n st = numL s j x y t ∧ v = .int .i64 x ∧ u = .int .i64 y ∧ i = .int .i64 k ∧ RowIs wr b s t ∧ Only b w wr) (fun _ _ i _ => n - (intOf i).toNat)
  case atStart => exact ⟨0, n, 0, 1, st, by omega, rfl, by omega, rfl, rfl, rfl, rfl, hR, Only.refl b w⟩
  case round =>
    obtain ⟨k, j, x, y, t, hkj, hy, hxy, hnum, rfl, rfl, rfl, hRt, hOt⟩ := hrel
    have hyb : y ≤ 65536 := by rw [hy]; exact Nat.le_trans (Nat.pow_le_pow_right (n := 2) (by omega) (show k ≤ 16 by omega)) (by decide)
    have hk16 : k ≤ 16 := by omega
    cases j with
    | zero =>
      have hk : k = n := by omega
      subst hk
      have H : Hid _ := hnum
      clear hnum hy hkj
      go_wp2
      go_ret
      exact ⟨ret_int (by rw [H.out]; rfl), by rw [H.out]; exact hRt, hOt⟩
    | succ j =>
      have hlt : k < n := by omega
      have hone := oneT_le s t
      have H : Hid (numT s n st = numL s j (x + y * (oneT s t).1) (2 * y) (oneT s t).2 ∧ 2 * y = 2 ^ (k + 1) ∧ k + 1 + j = n) := (⟨hnum, by rw [hy, Nat.pow_succ, Nat.mul_comm], by omega⟩ : _ ∧ _ ∧ _)
      clear hnum hy hkj
      go_wp2_with fail
      refine (one_any b s t _ hRt hs).mono ?_
      rintro e w2 ⟨rfl, hR2, hO2⟩
      generalize oneT s t = z at *
      obtain ⟨z1, z2⟩ := z
      have hz : z1 = 0 ∨ z1 = 1 := by simp at hone; omega
      rcases hz with rfl | rfl
      · go_wp2
        go_roundw
        case rel => exact ⟨k + 1, j, x, 2 * y, z2, H.out.2.2, H.out.2.1, by omega, by simpa using H.out.1, by go_num, by go_num, by go_num, hR2, hOt.trans hO2⟩
        case measure => simp [intOf]; omega
      · go_wp2
        go_roundw
        case rel => exact ⟨k + 1, j, x + y, 2 * y, z2, H.out.2.2, H.out.2.1, by omega, by simpa using H.out.1, by go_num, by go_num, by go_num, hR2, hOt.trans hO2⟩
        case measure => simp [intOf]; omega
end Go.Proofs.YtjfifmadldcjjaaGreatDoor.RfW
