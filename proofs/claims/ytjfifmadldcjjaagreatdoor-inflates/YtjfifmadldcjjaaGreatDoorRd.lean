/- The program's row of bits: what lies in memory; the walks of NextByte, take, Bit, Number, Align. -/
import Derived.Test.YtjfifmadldcjjaaGreatDoorRefRow
import Derived.Test.YtjfifmadldcjjaaGreatDoorBitMath
import Derived.Test.YtjfifmadldcjjaaGreatDoorErrAs2
import Derived.Laws.BitsAllLaws
import Derived.BigRegion
namespace Go.Proofs.YtjfifmadldcjjaaGreatDoor.Pr
open Go.RowKit Rf
/-- but for blocks tb and rb nothing old has turned -/
structure RF (tb rb : Nat) (w w' : World) : Prop where
  os : w'.os = w.os
  tape : w'.tape = w.tape
  output : w'.output = w.output
  size : w.heap.size ≤ w'.heap.size
  block : ∀ k, k < w.heap.size → k ≠ tb → k ≠ rb → w'.heap[k]? = w.heap[k]?
theorem RF.refl (tb rb : Nat) (w : World) : RF tb rb w w := ⟨rfl, rfl, rfl, Nat.le_refl _, fun _ _ _ _ => rfl⟩
theorem RF.trans {tb rb : Nat} {u v w : World} (h : RF tb rb u v) (k : RF tb rb v w) : RF tb rb u w :=
  ⟨k.os.trans h.os, k.tape.trans h.tape, k.output.trans h.output, Nat.le_trans h.size k.size, fun i hi a b => (k.block i (Nat.lt_of_lt_of_le hi h.size) a b).trans (h.block i hi a b)⟩
theorem RF.drewN {tb rb : Nat} {u v : World} (h : RF tb rb u v) (n : Nat) : RF tb rb u (v.drewN n) := ⟨h.os, h.tape, h.output, h.size, h.block⟩
theorem RF.drew {tb rb : Nat} {u v : World} (h : RF tb rb u v) : RF tb rb u v.drew := ⟨h.os, h.tape, h.output, h.size, h.block⟩
theorem RF.set {tb rb : Nat} {u v : World} (h : RF tb rb u v) (b o : Nat) (hb : b = tb ∨ b = rb) (x : Value) : RF tb rb u (v.setCell ⟨b, o, none⟩ x) :=
  ⟨h.os, h.tape, h.output, by simpa using h.size, fun k hk a e => (Below.heap_setCell v ⟨b, o, none⟩ x k (by rcases hb with rfl | rfl <;> assumption)).trans (h.block k hk a e)⟩
theorem RF.alloc {tb rb : Nat} {u v : World} (h : RF tb rb u v) (o : Obj) : RF tb rb u (v.alloc o) :=
  ⟨h.os, h.tape, h.output, by have := h.size; simp; omega, fun k hk a e => (Below.heap_alloc v o k (Nat.lt_of_lt_of_le hk h.size)).trans (h.block k hk a e)⟩
/-- the reader lies in block rb, its source in block tb: the bits from pos on are the next ones, c of them are held -/
def RdG (w : World) (tb rb : Nat) (s : ByteArray) (pos c : Nat) : Prop :=
  ∃ t, pos + c = 8 * t ∧ t ≤ s.size ∧ tb ≠ rb ∧ w.heap[tb]? = some (.cells #[.string (s.extract t s.size)] 39 (0, 0)) ∧
    w.heap[rb]? = some (.cells #[.iface 37 (.pointer (some ⟨tb, 0, none⟩)), .int .u32 ((bitsV s pos c : Nat) : Int), .int .u64 (c : Int), .int .i64 (t : Int)] 74 (0, 0))
theorem cell_of {w : World} {b : Nat} {cur : Array Value} {T : TypeId} (h : w.heap[b]? = some (.cells cur T (0, 0))) (o : Nat) : w.cell? ⟨b, o, none⟩ = cur[o]? ∧ w.frozen? ⟨b, o, none⟩ = false := by
  constructor
  · simp [World.cell?, h]
  · simp [World.frozen?, h]
theorem set_of {w : World} {b : Nat} {cur : Array Value} {T : TypeId} (h : w.heap[b]? = some (.cells cur T (0, 0))) (o : Nat) (x : Value) : (w.setCell ⟨b, o, none⟩ x).heap[b]? = some (.cells (cur.setIfInBounds o x) T (0, 0)) := by
  simp [World.setCell, Array.getElem?_modify, h]
theorem set_other {w : World} {b k : Nat} (o : Nat) (x : Value) (hk : k ≠ b) : (w.setCell ⟨b, o, none⟩ x).heap[k]? = w.heap[k]? := Below.heap_setCell w ⟨b, o, none⟩ x k hk
theorem methodNext (v : Value) (w : World) : (Go.method 311 37 v "NextByte").run Tryz.prog w = .ok (111, v) w := by kernel_rfl
theorem empty_no (m : ByteArray) (h : 0 < m.size) : m.toList.isEmpty = false := by
  rw [ByteArray.toList_eq, List.isEmpty_eq_false_iff]
  intro e
  have h1 := congrArg List.length e
  rw [Array.length_toList] at h1
  have h2 : m.data.size = m.size := rfl
  rw [h2] at h1
  simp only [List.length_nil] at h1
  omega
theorem empty_yes (m : ByteArray) (h : m.size = 0) : m.toList.isEmpty = true := by
  rw [ByteArray.toList_eq, List.isEmpty_iff]
  exact List.eq_nil_of_length_eq_zero (by rw [Array.length_toList]; exact h)
set_option maxRecDepth 10000 in
set_option maxHeartbeats 2000000 in
theorem next_ok (tb : Nat) (m : ByteArray) (T : TypeId) (w : World) (h : w.heap[tb]? = some (.cells #[.string m] T (0, 0))) (h0 : 0 < m.size) :
    Calls Tryz.prog 111 #[.pointer (some ⟨tb, 0, none⟩)] w fun e w' => e = .returned (.tuple #[.int .u8 ((m[0].toNat : Nat) : Int), .nilIface]) ∧ w' = w.setCell ⟨tb, 0, none⟩ (.string (m.extract 1 m.size)) := by
  have c0 : w.cell? ⟨tb, 0, none⟩ = some (.string m) := by simpa using (cell_of h 0).1
  have f0 := (cell_of h 0).2
  have hE := empty_no m h0
  go_enter Tryz.func111, Tryz.ntmps111
  go_wp2
  go_ret2
  exact ⟨rfl, rfl⟩
/-- fault.End as the program's text lays it -/
def EndIs (w : World) (eb : Addr) : Prop := w.cell? ⟨0, 0, none⟩ = some (.iface 182 (.pointer (some eb)))
set_option maxRecDepth 10000 in
set_option maxHeartbeats 2000000 in
theorem next_end (tb : Nat) (eb : Addr) (m : ByteArray) (T : TypeId) (w : World) (h : w.heap[tb]? = some (.cells #[.string m] T (0, 0))) (h0 : m.size = 0) (hend : EndIs w eb) :
    Calls Tryz.prog 111 #[.pointer (some ⟨tb, 0, none⟩)] w fun e w' => e = .returned (.tuple #[.int .u8 0, .iface 182 (.pointer (some eb))]) ∧ ∃ n, w' = w.drewN n := by
  have c0 : w.cell? ⟨tb, 0, none⟩ = some (.string m) := by simpa using (cell_of h 0).1
  have f0 := (cell_of h 0).2
  have hE := empty_yes m h0
  unfold EndIs at hend
  go_enter Tryz.func111, Tryz.ntmps111
  go_wp2
  go_quiet (fail)
  go_wp2
  go_ret2
  exact ⟨rfl, _, rfl⟩
set_option maxRecDepth 10000 in
set_option maxHeartbeats 2000000 in
theorem mal_any (why : ByteArray) (w : World) :
    Calls Tryz.prog 53 #[.string why] w fun e w' => e = .returned (.iface 62 (.pointer (some ⟨w.heap.size, 0, none⟩))) ∧ w' = w.alloc (.cells #[.string why] 138) := by
  go_enter Tryz.func53, Tryz.ntmps53
  go_wp2
  go_ret
  exact ⟨rfl, rfl⟩
theorem or_up (v z c : Nat) (hv : v < 2 ^ c) (hc : c ≤ 15) (hr : z * 2 ^ c ≤ 255 * 2 ^ 15) : bits BinOp.or IntKind.u32 (v : Int) ((z : Int) * 2 ^ c % 4294967296) = ((v + z * 2 ^ c : Nat) : Int) := by
  have e1 : (z : Int) * 2 ^ c % 4294967296 = ((z * 2 ^ c : Nat) : Int) := by
    have : (z : Int) * 2 ^ c = ((z * 2 ^ c : Nat) : Int) := by simp
    rw [this]; omega
  have hv3 : v < 4294967296 := by
    have : 2 ^ c ≤ 2 ^ 15 := Nat.pow_le_pow_right (by omega) hc
    omega
  rw [e1, u32_or_nat v (z * 2 ^ c) hv3 (by omega)]
  congr 1
  rw [Nat.or_comm, Nat.mul_comm, ← Nat.two_pow_add_eq_or_of_lt hv z, Nat.add_comm]
set_option maxRecDepth 10000 in
set_option maxHeartbeats 2000000 in
theorem take_ok (tb rb : Nat) (s : ByteArray) (pos c : Nat) (w : World) (h : RdG w tb rb s pos c) (hc : c ≤ 15) (hlt : pos + c < 8 * s.size) (hs : s.size ≤ 140737488351232) :
    Calls Tryz.prog 67 #[.pointer (some ⟨rb, 0, none⟩)] w fun e w' => e = .returned .nilIface ∧ RdG w' tb rb s pos (c + 8) ∧ RF tb rb w w' ∧ w'.heap.size = w.heap.size := by
  obtain ⟨t, h1, h2, h3, h4, h5⟩ := h
  have hts : t < s.size := by omega
  have hm := methodNext
  have c0 : w.cell? ⟨rb, 0, none⟩ = some (.iface 37 (.pointer (some ⟨tb, 0, none⟩))) := by simpa using (cell_of h5 0).1
  obtain ⟨m, hm1⟩ : ∃ m, m = s.extract t s.size := ⟨_, rfl⟩
  rw [← hm1] at h4
  have hm0 : 0 < m.size := by rw [hm1, rest_size]; omega
  have hb : byteAt s t ≤ 255 := byteAt_lt s t
  have HB : Hid (((m[0]).toNat : Nat) = byteAt s t) := (by subst hm1; exact rest_first s t hts hm0 : _ = _)
  have HM : Hid (m.extract 1 m.size = s.extract (t + 1) s.size) := (by rw [hm1]; exact rest_more s t hts : _ = _)
  have hm2 : (m[0]).toNat ≤ 255 := by have := HB.out; omega
  obtain ⟨z, hz⟩ : ∃ z, z = (m[0]).toNat := ⟨_, rfl⟩
  have hz2 : z ≤ 255 := by omega
  have hv : bitsV s pos c < 2 ^ c := bitsV_lt s pos c
  have hp : 2 ^ c ≤ 2 ^ 15 := Nat.pow_le_pow_right (by omega) hc
  obtain ⟨v, hv0⟩ : ∃ v, v = bitsV s pos c := ⟨_, rfl⟩
  rw [← hv0] at h5 hv
  have HV : Hid (bitsV s pos (c + 8) = v + z * 2 ^ c) := (by rw [bitsV_more s pos c t h1, hz, HB.out, hv0] : _ = _)
  have hv2 : v ≤ 32767 := by omega
  have hr : z * 2 ^ c ≤ 255 * 2 ^ 15 := Nat.mul_le_mul hz2 hp
  obtain ⟨r, hr0⟩ : ∃ r, r = v + z * 2 ^ c := ⟨_, rfl⟩
  have hor : bits BinOp.or IntKind.u32 (v : Int) ((z : Int) * 2 ^ c % 4294967296) = (r : Int) := by rw [hr0]; exact or_up v z c hv hc hr
  have HR : Hid (r = bitsV s pos (c + 8)) := (hr0.trans HV.out.symm : _ = _)
  have Hz : Hid (z = (m[0]).toNat) := hz
  have HX : Hid (v < 2 ^ c ∧ 2 ^ c ≤ 2 ^ 15 ∧ pos + c = 8 * t) := (⟨hv, hp, h1⟩ : _ ∧ _ ∧ _)
  clear hz hv0 hm1 hv hp h1 hr hr0
  go_enter Tryz.func67, Tryz.ntmps67
  go_wp2_with fail
  refine (next_ok tb m _ _ h4 hm0).mono ?_
  rintro e w1 ⟨rfl, hw1⟩
  have g4 : w1.heap[tb]? = some (.cells #[.string (m.extract 1 m.size)] 39 (0, 0)) := by rw [hw1]; exact set_of h4 0 _
  have g5 : w1.heap[rb]? = _ := (by rw [hw1]; exact set_other 0 _ (Ne.symm h3) : w1.heap[rb]? = w.heap[rb]?).trans h5
  have g6 : RF tb rb w w1 := by rw [hw1]; exact (RF.refl tb rb w).set tb 0 (.inl rfl) _
  have g7 : w1.heap.size = w.heap.size := by rw [hw1]; simp
  clear hw1 h4 h5 c0
  rw [← Hz.out]
  have d1 : w1.cell? ⟨rb, 1, none⟩ = some (.int .u32 (v : Int)) := by simpa using (cell_of g5 1).1
  have d2 : w1.cell? ⟨rb, 2, none⟩ = some (.int .u64 (c : Int)) := by simpa using (cell_of g5 2).1
  have d3 : w1.cell? ⟨rb, 3, none⟩ = some (.int .i64 (t : Int)) := by simpa using (cell_of g5 3).1
  have e1 := (cell_of g5 1).2
  have e2 := (cell_of g5 2).2
  have e3 := (cell_of g5 3).2
  go_wp2_with fail
  go_region
  go_wp2
  go_ret
  refine ⟨rfl, ⟨t + 1, by have := HX.out.2.2; omega, by omega, h3, ?_, ?_⟩, ?_, ?_⟩
  · refine ((set_other 3 _ h3).trans ((set_other 2 _ h3).trans ((set_other 1 _ h3).trans g4))).trans ?_
    rw [HM.out]
  · refine (set_of (set_of (set_of g5 1 _) 2 _) 3 _).trans ?_
    rw [← HR.out]
    simp
  · exact (((g6.set rb 1 (.inr rfl) _).set rb 2 (.inr rfl) _).set rb 3 (.inr rfl) _).drew
  · rw [← g7]; simp
/-- an error of a stream that is not as it must be -/
def MalV (v : Value) : Prop := ∃ a, v = .iface 62 (.pointer (some a))
theorem EndIs.lt {w : World} {eb : Addr} (h : EndIs w eb) : 0 < w.heap.size := Er.cell_lt h
theorem EndIs.over {w w' : World} {eb : Addr} (h : EndIs w eb) (e : w'.heap[0]? = w.heap[0]?) : EndIs w' eb := by
  unfold EndIs World.cell? at *
  rw [e]; exact h
theorem RdG.over {w w' : World} {tb rb : Nat} {s : ByteArray} {pos c : Nat} (h : RdG w tb rb s pos c) (e1 : w'.heap[tb]? = w.heap[tb]?) (e2 : w'.heap[rb]? = w.heap[rb]?) : RdG w' tb rb s pos c := by
  obtain ⟨t, h1, h2, h3, h4, h5⟩ := h
  exact ⟨t, h1, h2, h3, e1.trans h4, e2.trans h5⟩
theorem lt_of_some {w : World} {b : Nat} {o : Obj} (h : w.heap[b]? = some o) : b < w.heap.size := (Array.getElem?_eq_some_iff.1 h).1
theorem RdG.alloc {w : World} {tb rb : Nat} {s : ByteArray} {pos c : Nat} (h : RdG w tb rb s pos c) (o : Obj) : RdG (w.alloc o) tb rb s pos c := by
  obtain ⟨t, h1, h2, h3, h4, h5⟩ := h
  exact ⟨t, h1, h2, h3, (Below.heap_alloc w o tb (lt_of_some h4)).trans h4, (Below.heap_alloc w o rb (lt_of_some h5)).trans h5⟩
set_option maxRecDepth 10000 in
set_option maxHeartbeats 2000000 in
theorem take_end (tb rb : Nat) (eb : Addr) (s : ByteArray) (pos c : Nat) (w : World) (h : RdG w tb rb s pos c) (hend : EndIs w eb) (hlt : ¬ pos + c < 8 * s.size) :
    Calls Tryz.prog 67 #[.pointer (some ⟨rb, 0, none⟩)] w fun e w' => (∃ a, e = .returned (.iface 62 (.pointer (some a)))) ∧ RdG w' tb rb s pos c ∧ RF tb rb w w' := by
  have h0 := h
  obtain ⟨t, h1, h2, h3, h4, h5⟩ := h
  have hts : t = s.size := by omega
  have hm := methodNext
  have c0 : w.cell? ⟨rb, 0, none⟩ = some (.iface 37 (.pointer (some ⟨tb, 0, none⟩))) := by simpa using (cell_of h5 0).1
  go_enter Tryz.func67, Tryz.ntmps67
  go_wp2_with fail
  refine (next_end tb eb _ _ _ h4 (by rw [rest_size]; omega) hend).mono ?_
  rintro e w1 ⟨rfl, n, hw1⟩
  have hend1 : EndIs w1 eb := by rw [hw1]; exact hend
  have g0 : RdG w1 tb rb s pos c := by rw [hw1]; exact h0
  have g6 : RF tb rb w w1 := by rw [hw1]; exact (RF.refl tb rb w).drewN n
  clear hw1
  have hg : w1.cell? ⟨0, 0, none⟩ = _ := hend1
  go_wp2_with fail
  refine (Er.is_same _ _).mono ?_
  rintro e w2 ⟨rfl, rfl⟩
  go_wp2_with fail
  refine (mal_any _ _).mono ?_
  rintro e w3 ⟨rfl, rfl⟩
  go_wp2_with fail
  go_ret
  exact ⟨⟨_, rfl⟩, g0.alloc _, g6.alloc _⟩
/-- the reader between two calls: fewer than 8 bits are held -/
def Rd (w : World) (tb rb : Nat) (s : ByteArray) (pos : Nat) : Prop := ∃ c, c < 8 ∧ RdG w tb rb s pos c
/-- the reader behind an error -/
def RdE (w : World) (tb rb : Nat) (s : ByteArray) : Prop := ∃ pos c, c ≤ 23 ∧ RdG w tb rb s pos c
end Go.Proofs.YtjfifmadldcjjaaGreatDoor.Pr
