/- The walks of the writer of bits: low, code, literal. -/
import Derived.Test.YtephkcdbnogdhaaGreatDoorML
import Derived.Test.YtephkcdbnogdhaaGreatDoorMW
set_option linter.unusedVariables false
namespace Go.Proofs.YtephkcdbnogdhaaGreatDoor.Pr
open Go.RowKit Rf
open RfW (byteCells byteCells_snoc)
/-- a writer in block wb: its row is v, it has written these bits -/
def WrAt (w : World) (wb base : Nat) (v : Value) (B : List Nat) : Prop := w.heap[wb]? = some (.cells #[v, .int .i64 ((B.length % 8 : Nat) : Int)] 47 (0, 0)) ∧ w.ownsRow base 5 1 v (packB B).length (byteCells (packB B)) ∧ B01 B ∧ base ≤ w.heap.size ∧ base ≤ wb
/-- the same, ahead of one bit: the row's last byte is x, the bit's place h -/
def Pend (w : World) (wb base g cap m : Nat) (X : List UInt8) (x h : Nat) : Prop := w.heap[wb]? = some (.cells #[.slice (some ⟨g, 0, none⟩) (m + 1) cap, .int .i64 (h : Int)] 47 (0, 0)) ∧ w.ownsRow base 5 1 (.slice (some ⟨g, 0, none⟩) (m + 1) cap) (m + 1) (byteCells X) ∧ X.length = m + 1 ∧ (X.getD m 0).toNat = x ∧ x < 2 ^ h ∧ h < 8
theorem or_bit8 (x b h : Nat) (hx : x < 2 ^ h) (hh : h < 8) (hb : b ≤ 1) : bits BinOp.or IntKind.u8 (x : Int) ((b : Int) * 2 ^ h % 256) = ((x + b * 2 ^ h : Nat) : Int) := by
  have hp : 2 ^ h ≤ 2 ^ 7 := Nat.pow_le_pow_right (by omega) (by omega)
  have hb2 : b * 2 ^ h ≤ 1 * 2 ^ 7 := Nat.mul_le_mul hb hp
  have e1 : (b : Int) * 2 ^ h % 256 = ((b * 2 ^ h : Nat) : Int) := by
    have : (b : Int) * 2 ^ h = ((b * 2 ^ h : Nat) : Int) := by simp
    rw [this]; omega
  rw [e1, u8_or_nat x (b * 2 ^ h) (by omega) (by omega)]
  congr 1
  rw [Nat.or_comm, Nat.mul_comm, ← Nat.two_pow_add_eq_or_of_lt hx b, Nat.add_comm]
theorem byteCells_at (X : List UInt8) (m : Nat) (h : m < X.length) : (byteCells X)[m]? = some (.int .u8 (((X.getD m 0).toNat : Nat) : Int)) := by
  simp [byteCells, List.getD_eq_getElem?_getD, List.getElem?_eq_getElem h]
theorem byteCells_set (X : List UInt8) (m : Nat) (y : UInt8) : (byteCells X).set m (.int .u8 ((y.toNat : Nat) : Int)) = byteCells (X.set m y) := by
  simp [byteCells, List.map_set]
set_option maxRecDepth 10000 in
set_option maxHeartbeats 8000000 in
theorem low_any (wb base : Nat) (rv : Value) (B : List Nat) (v n : Nat) (w : World) (h : WrAt w wb base rv B) (hv : v < 1000000) (hn : n ≤ 20) (hl : B.length ≤ 10000000) :
    Calls Tryz.prog 21 #[.pointer (some ⟨wb, 0, none⟩), .int .i64 (v : Int), .int .i64 (n : Int)] w fun e w' => e = .returned (.tuple #[]) ∧ ∃ rv', WrAt w' wb base rv' (B ++ lowB v n) ∧ Fr (fun k => k = wb ∨ rv.ownBlock = some k) w w' ∧ (∀ k, rv'.ownBlock = some k → rv.ownBlock = some k ∨ w.heap.size ≤ k) := by
  go_enter Tryz.func21, Tryz.ntmps21
  go_wp2_with fail
  go_loopw [6] (fun iv wr => ∃ (j : Nat) (rv' : Value), j ≤ n ∧ iv = .int .i64 (j : Int) ∧ WrAt wr wb base rv' (B ++ lowB v j) ∧ Fr (fun k => k = wb ∨ rv.ownBlock = some k) w wr ∧ (∀ k, rv'.ownBlock = some k → rv.ownBlock = some k ∨ w.heap.size ≤ k)) (fun iv _ => n - (intOf iv).toNat)
  case atStart => exact ⟨0, rv, Nat.zero_le _, rfl, by simpa [lowB] using h, Fr.refl _ _, fun k hk => .inl hk⟩
  case round =>
    obtain ⟨j, rv', hj, rfl, ⟨hb, hown, h01, hbs, hbw⟩, hF, hO⟩ := hrel
    have HH : Hid _ := h
    clear h
    by_cases hlt : j < n
    rotate_left
    · have hjn : j = n := by omega
      subst hjn
      go_wp2_with fail
      go_end0
      exact ⟨rfl, rv', ⟨hb, hown, h01, hbs, hbw⟩, hF, hO⟩
    have hlen : (B ++ lowB v j).length = B.length + j := by rw [List.length_append, lowB_len]
    have HS : Hid (B ++ lowB v (j + 1) = (B ++ lowB v j) ++ [v / 2 ^ j % 2]) := (by rw [lowB_succ, List.append_assoc] : _ = _)
    have hbit : v / 2 ^ j % 2 ≤ 1 := by omega
    have hvj : v / 2 ^ j ≤ v := Nat.div_le_self _ _
    have hand : bits BinOp.and IntKind.i64 ((v : Int) / 2 ^ j) 1 = ((v / 2 ^ j % 2 : Nat) : Int) := by
      have h1 := i64_and_nat (v / 2 ^ j) 1 (by omega) (by omega)
      rw [Nat.and_one_is_mod] at h1
      rw [← h1]; simp
    obtain ⟨b, hb0⟩ : ∃ b, b = v / 2 ^ j % 2 := ⟨_, rfl⟩
    rw [← hb0] at hbit hand
    have HB0 : Hid (b = v / 2 ^ j % 2) := hb0
    clear hb0
    have hjl : j ≤ 20 := by omega
    have HLEN : Hid _ := hlen
    clear hlen
    generalize hBj : B ++ lowB v j = Bj at *
    have hBl : Bj.length ≤ 10000020 := by have := HLEN.out; omega
    have hpl : (packB Bj).length ≤ 100000000 := by rw [packB_len]; omega
    have hnb : rv'.ownBlock ≠ some wb := row_ne hown hb (by decide)
    have f0 := (cell_of hb 0).2
    obtain ⟨hh, hhh⟩ : ∃ hh, hh = Bj.length % 8 := ⟨_, rfl⟩
    rw [← hhh] at hb
    have hh8 : hh < 8 := by omega
    have HHH : Hid (hh = Bj.length % 8) := hhh
    have hB5 : ∀ w5 : World, wr.heap.size ≤ w5.heap.size → base ≤ w5.heap.size := fun w5 h => by omega
    by_cases hm : hh = 0
    · -- a byte more
      have HX : Hid (packB (Bj ++ [b]) = (packB Bj ++ [0]).set (packB Bj).length (UInt8.ofNat (0 + b * 2 ^ 0))) := (by
        rw [packB_snoc_new h01 b (by omega)]; simp : _ = _)
      have HXL : Hid ((packB Bj ++ [0]).length = (packB Bj).length + 1 ∧ ((packB Bj ++ [0]).getD (packB Bj).length 0).toNat = 0) := (by simp : _ ∧ _)
      have HXC : Hid (byteCells (packB Bj) ++ [.int .u8 0] = byteCells (packB Bj ++ [0])) := (by rw [byteCells_snoc]; rfl : _ = _)
      clear hhh
      subst hm
      have c0 : wr.cell? ⟨wb, 0, none⟩ = some rv' := by simpa using (cell_of hb 0).1
      have c1 : wr.cell? ⟨wb, 1, none⟩ = some (.int .i64 0) := by simpa using (cell_of hb 1).1
      go_upto_region 5 with (first
        | (at_builtin; refine append_byte2 rfl _ _ rfl base rv' (packB Bj).length (byteCells (packB Bj)) 0 (by exact hown) rfl rfl hpl (by exact hbs) ?_; go_must (intro v' w2 hown' hg hw; obtain ⟨g', cap', rfl⟩ := RfW.own_shape hown'; have hgu := RfW.grown_cell hg hb (Ne.symm hnb); have hgf := hgu.2 0; have hgc : w2.cell? ⟨wb, 0, none⟩ = some rv' := by simpa using (cell_of hgu.1 0).1))
        | go_in)
      have hs2 : wr.heap.size ≤ w2.heap.size := by have := hg.size; simp at this; omega
      have hgw : g' ≠ wb := fun e => row_ne hown' hgu.1 (by decide) (by rw [e]; rfl)
      have hP5 : Pend (w2.setCell ⟨wb, 0, none⟩ (.slice (some ⟨g', 0, none⟩) ((packB Bj).length + 1) cap')) wb base g' cap' (packB Bj).length (packB Bj ++ [0]) 0 0 := by
        refine ⟨(set_of hgu.1 0 _).trans (by simp), ?_, HXL.out.1, HXL.out.2, by simp, by omega⟩
        rw [← HXC.out]
        exact ownsRow_over hown' (fun k hk => set_other 0 _ (fun e => by rw [e] at hk; injection hk with hk; exact hgw hk))
      have F5 : Fr (fun k => k = wb ∨ rv.ownBlock = some k) w (w2.setCell ⟨wb, 0, none⟩ (.slice (some ⟨g', 0, none⟩) ((packB Bj).length + 1) cap')) := by
        refine ⟨hg.os.trans hF.os, hg.tape.trans hF.tape, hg.output.trans hF.output, by have := hF.size; simp; omega, fun k hk hS => (set_other 0 _ (fun e => hS (.inl e))).trans ?_⟩
        have hkr : some k ≠ rv'.ownBlock := fun e => (hO k e.symm).elim (fun h => hS (.inr h)) (fun h => by omega)
        exact (hg.block k (by have := hF.size; simp; omega) hkr).trans ((alloc_old (by have := hF.size; omega)).trans (hF.block k hk hS))
      have O5 : rv.ownBlock = some g' ∨ w.heap.size ≤ g' := (hw g' rfl).elim (fun h => hO g' h) (fun h => .inr (by have := hF.size; omega))
      have hb5 : base ≤ (w2.setCell ⟨wb, 0, none⟩ (.slice (some ⟨g', 0, none⟩) ((packB Bj).length + 1) cap')).heap.size := by simp; omega
      clear c0 c1 hgu hgf hgc hown' hg hw hs2 hown hb HXC HXL hnb f0
      generalize (w2.setCell ⟨wb, 0, none⟩ (.slice (some ⟨g', 0, none⟩) ((packB Bj).length + 1) cap')) = w5 at *
      generalize packB Bj ++ [0] = X at *
      generalize (packB Bj).length = m at *
      obtain ⟨x, hx0⟩ : ∃ x : Nat, x = 0 := ⟨_, rfl⟩
      obtain ⟨hh, hh0⟩ : ∃ hh : Nat, hh = 0 := ⟨_, rfl⟩
      rw [show Pend w5 wb base g' cap' m X 0 0 = Pend w5 wb base g' cap' m X x hh by rw [hx0, hh0]] at hP5
      have HX : Hid (packB (Bj ++ [b]) = X.set m (UInt8.ofNat (x + b * 2 ^ hh))) := (by rw [hx0, hh0]; exact HX.out : _ = _)
      have HHH : Hid (hh = Bj.length % 8) := (by rw [hh0]; exact HHH.out : _ = _)
      clear hx0 hh0
      obtain ⟨p1, p2, p3, p4, p5, p6⟩ := hP5
      have k0 : w5.cell? ⟨wb, 0, none⟩ = some (.slice (some ⟨g', 0, none⟩) (m + 1) cap') := by simpa using (cell_of p1 0).1
      have k1 : w5.cell? ⟨wb, 1, none⟩ = some (.int .i64 (hh : Int)) := by simpa using (cell_of p1 1).1
      have kf1 := (cell_of p1 1).2
      have kx : w5.cell? ⟨g', m, none⟩ = some (.int .u8 (x : Int)) := by
        rw [p2.cellAt m (by omega), byteCells_at X m (by omega), p4]
      have kfx : w5.frozen? ⟨g', m, none⟩ = false := p2.frozenAt m
      have hgw : g' ≠ wb := fun e => row_ne p2 p1 (by decide) (by rw [e]; rfl)
      have hor := or_bit8 x b hh p5 p6 hbit
      have hxx : x < 256 := by rw [← p4]; exact (X.getD m 0).toNat_lt
      have hpw : 2 ^ hh ≤ 2 ^ 7 := Nat.pow_le_pow_right (by omega) (by omega)
      have hsum : x + b * 2 ^ hh < 256 := by
        have h1 : b * 2 ^ hh ≤ 1 * 2 ^ hh := Nat.mul_le_mul_right _ hbit
        have h2 : 2 ^ (hh + 1) ≤ 2 ^ 8 := Nat.pow_le_pow_right (by omega) (by omega)
        rw [Nat.pow_succ] at h2
        omega
      have hm1 : ((m : Int) + 1) - 1 = (m : Int) := by omega
      obtain ⟨y, hy⟩ : ∃ y, y = x + b * 2 ^ hh := ⟨_, rfl⟩
      rw [← hy] at hor hsum
      have HY : Hid (y = x + b * 2 ^ hh) := hy
      have HP5 : Hid (x < 2 ^ hh) := p5
      clear hy p5 hpw
      go_region
      have E6 : (w5.setCell ⟨g', m, none⟩ (.int .u8 (y : Int))).drew.heap[wb]? = _ := (set_other (w := w5) m (.int .u8 (y : Int)) (Ne.symm hgw)).trans p1
      have O6 : (w5.setCell ⟨g', m, none⟩ (.int .u8 (y : Int))).drew.ownsRow base 5 1 (.slice (some ⟨g', 0, none⟩) (m + 1) cap') (m + 1) (byteCells (X.set m (UInt8.ofNat y))) := by
        rw [← byteCells_set, show (UInt8.ofNat y).toNat = y by simp; omega]
        exact row_set p2 m (.int .u8 (y : Int))
      have F6 : Fr (fun k => k = wb ∨ rv.ownBlock = some k) w (w5.setCell ⟨g', m, none⟩ (.int .u8 (y : Int))).drew := ⟨F5.os, F5.tape, F5.output, by simpa using F5.size, fun k hk hS => (set_other (w := w5) m (.int .u8 (y : Int)) (fun e => O5.elim (fun h => hS (.inr (by rw [e]; exact h))) (fun h => by omega))).trans (F5.block k hk hS)⟩
      have hb6 : base ≤ (w5.setCell ⟨g', m, none⟩ (.int .u8 (y : Int))).drew.heap.size := by simpa using hb5
      have HL6 : Hid ((packB (Bj ++ [b])).length = m + 1) := (by rw [HX.out, List.length_set]; exact p3 : _ = _)
      clear p1 p2 p3 p4 k0 k1 kf1 kx kfx hb5 F5
      generalize (w5.setCell ⟨g', m, none⟩ (.int .u8 (y : Int))).drew = w6 at *
      have k1 : w6.cell? ⟨wb, 1, none⟩ = some (.int .i64 (hh : Int)) := by simpa using (cell_of E6 1).1
      have kf1 := (cell_of E6 1).2
      have HM8 : Hid (((hh : Int) + 1) % 8 = (((Bj ++ [b]).length % 8 : Nat) : Int)) := (by rw [List.length_append, List.length_singleton]; have := HHH.out; omega : _ = _)
      go_wp2_with fail
      go_roundw
      case rel =>
        refine ⟨j + 1, .slice (some ⟨g', 0, none⟩) (m + 1) cap', by omega, by go_num, ?_, ?_, ?_⟩
        · rw [HS.out, ← HB0.out]
          refine ⟨?_, ?_, h01.append (fun x hx => by simp at hx; omega), by simpa using hb6, hbw⟩
          · rw [← HM8.out]
            exact (set_of E6 1 _).trans (by simp)
          · rw [HL6.out, HX.out, ← HY.out]
            exact ownsRow_over O6 (fun k hk => set_other 1 _ (fun e => row_ne O6 E6 (by decide) (e ▸ hk)))
        · exact ⟨F6.os, F6.tape, F6.output, by simpa using F6.size, fun k hk hS => (set_other 1 _ (fun e => hS (.inl e))).trans (F6.block k hk hS)⟩
        · intro k hk
          injection hk with hk
          rw [← hk]; exact O5
      case measure => simp [intOf]; omega
    · -- a byte that is not full
      have hq : (packB Bj).length = Bj.length / 8 + 1 := by rw [packB_len]; omega
      have HPK : Hid _ := packB_snoc_old h01 b (by omega)
      have HPG : Hid _ := packB_get h01 (Bj.length / 8) (by omega)
      have HPS : Hid _ := byteOf_small h01
      obtain ⟨m, hm0⟩ : ∃ m, m = Bj.length / 8 := ⟨_, rfl⟩
      obtain ⟨x, hx0⟩ : ∃ x, x = Rf.byteOf Bj (Bj.length / 8) := ⟨_, rfl⟩
      rw [← hm0] at hq
      have HX : Hid (packB (Bj ++ [b]) = (packB Bj).set m (UInt8.ofNat (x + b * 2 ^ hh))) := (by rw [HPK.out, hx0, hm0, hhh] : _ = _)
      rw [hq] at hown
      obtain ⟨g', cap', rfl⟩ := RfW.own_shape hown
      have hP5 : Pend wr wb base g' cap' m (packB Bj) x hh := ⟨hb, hown, hq, by rw [hx0, hm0]; exact HPG.out, by rw [hx0, hhh]; exact HPS.out, hh8⟩
      have F5 := hF
      have O5 := hO g' rfl
      have hb5 := hbs
      have c1 : wr.cell? ⟨wb, 1, none⟩ = some (.int .i64 (hh : Int)) := by simpa using (cell_of hb 1).1
      have d1 : ((hh : Int) == 0) = false := by rw [beq_eq_false_iff_ne]; omega
      have d2 : decide ((hh : Int) = 0) = false := decide_eq_false (by omega)
      have hml : m ≤ 100000000 := by omega
      clear hown hb hnb f0 hF hO hbs hhh hm0 hx0 hq hpl
      generalize packB Bj = X at *
      go_upto_region 5 with fail
      clear c1
      generalize wr = w5 at *
      obtain ⟨p1, p2, p3, p4, p5, p6⟩ := hP5
      have k0 : w5.cell? ⟨wb, 0, none⟩ = some (.slice (some ⟨g', 0, none⟩) (m + 1) cap') := by simpa using (cell_of p1 0).1
      have k1 : w5.cell? ⟨wb, 1, none⟩ = some (.int .i64 (hh : Int)) := by simpa using (cell_of p1 1).1
      have kf1 := (cell_of p1 1).2
      have kx : w5.cell? ⟨g', m, none⟩ = some (.int .u8 (x : Int)) := by
        rw [p2.cellAt m (by omega), byteCells_at X m (by omega), p4]
      have kfx : w5.frozen? ⟨g', m, none⟩ = false := p2.frozenAt m
      have hgw : g' ≠ wb := fun e => row_ne p2 p1 (by decide) (by rw [e]; rfl)
      have hor := or_bit8 x b hh p5 p6 hbit
      have hxx : x < 256 := by rw [← p4]; exact (X.getD m 0).toNat_lt
      have hpw : 2 ^ hh ≤ 2 ^ 7 := Nat.pow_le_pow_right (by omega) (by omega)
      have hsum : x + b * 2 ^ hh < 256 := by
        have h1 : b * 2 ^ hh ≤ 1 * 2 ^ hh := Nat.mul_le_mul_right _ hbit
        have h2 : 2 ^ (hh + 1) ≤ 2 ^ 8 := Nat.pow_le_pow_right (by omega) (by omega)
        rw [Nat.pow_succ] at h2
        omega
      have hm1 : ((m : Int) + 1) - 1 = (m : Int) := by omega
      obtain ⟨y, hy⟩ : ∃ y, y = x + b * 2 ^ hh := ⟨_, rfl⟩
      rw [← hy] at hor hsum
      have HY : Hid (y = x + b * 2 ^ hh) := hy
      have HP5 : Hid (x < 2 ^ hh) := p5
      clear hy p5 hpw
      go_region
      have E6 : (w5.setCell ⟨g', m, none⟩ (.int .u8 (y : Int))).drew.heap[wb]? = _ := (set_other (w := w5) m (.int .u8 (y : Int)) (Ne.symm hgw)).trans p1
      have O6 : (w5.setCell ⟨g', m, none⟩ (.int .u8 (y : Int))).drew.ownsRow base 5 1 (.slice (some ⟨g', 0, none⟩) (m + 1) cap') (m + 1) (byteCells (X.set m (UInt8.ofNat y))) := by
        rw [← byteCells_set, show (UInt8.ofNat y).toNat = y by simp; omega]
        exact row_set p2 m (.int .u8 (y : Int))
      have F6 : Fr (fun k => k = wb ∨ rv.ownBlock = some k) w (w5.setCell ⟨g', m, none⟩ (.int .u8 (y : Int))).drew := ⟨F5.os, F5.tape, F5.output, by simpa using F5.size, fun k hk hS => (set_other (w := w5) m (.int .u8 (y : Int)) (fun e => O5.elim (fun h => hS (.inr (by rw [e]; exact h))) (fun h => by omega))).trans (F5.block k hk hS)⟩
      have hb6 : base ≤ (w5.setCell ⟨g', m, none⟩ (.int .u8 (y : Int))).drew.heap.size := by simpa using hb5
      have HL6 : Hid ((packB (Bj ++ [b])).length = m + 1) := (by rw [HX.out, List.length_set]; exact p3 : _ = _)
      clear p1 p2 p3 p4 k0 k1 kf1 kx kfx hb5 F5
      generalize (w5.setCell ⟨g', m, none⟩ (.int .u8 (y : Int))).drew = w6 at *
      have k1 : w6.cell? ⟨wb, 1, none⟩ = some (.int .i64 (hh : Int)) := by simpa using (cell_of E6 1).1
      have kf1 := (cell_of E6 1).2
      have HM8 : Hid (((hh : Int) + 1) % 8 = (((Bj ++ [b]).length % 8 : Nat) : Int)) := (by rw [List.length_append, List.length_singleton]; have := HHH.out; omega : _ = _)
      go_wp2_with fail
      go_roundw
      case rel =>
        refine ⟨j + 1, .slice (some ⟨g', 0, none⟩) (m + 1) cap', by omega, by go_num, ?_, ?_, ?_⟩
        · rw [HS.out, ← HB0.out]
          refine ⟨?_, ?_, h01.append (fun x hx => by simp at hx; omega), by simpa using hb6, hbw⟩
          · rw [← HM8.out]
            exact (set_of E6 1 _).trans (by simp)
          · rw [HL6.out, HX.out, ← HY.out]
            exact ownsRow_over O6 (fun k hk => set_other 1 _ (fun e => row_ne O6 E6 (by decide) (e ▸ hk)))
        · exact ⟨F6.os, F6.tape, F6.output, by simpa using F6.size, fun k hk hS => (set_other 1 _ (fun e => hS (.inl e))).trans (F6.block k hk hS)⟩
        · intro k hk
          injection hk with hk
          rw [← hk]; exact O5
      case measure => simp [intOf]; omega
end Go.Proofs.YtephkcdbnogdhaaGreatDoor.Pr
/- The walks of the writer's code, literal and again. -/
set_option linter.unusedVariables false
namespace Go.Proofs.YtephkcdbnogdhaaGreatDoor.Pr
open Go.RowKit Rf
/-- how a step of the writer ends -/
def WrR (wb base : Nat) (rv : Value) (w : World) (B : List Nat) (e : Ending) (w' : World) : Prop := e = .returned (.tuple #[]) ∧ ∃ rv', WrAt w' wb base rv' B ∧ Fr (fun k => k = wb ∨ rv.ownBlock = some k) w w' ∧ (∀ k, rv'.ownBlock = some k → rv.ownBlock = some k ∨ w.heap.size ≤ k)
theorem wr_trans {wb : Nat} {rv rv' rv'' : Value} {w w1 w2 : World} (f1 : Fr (fun k => k = wb ∨ rv.ownBlock = some k) w w1) (o1 : ∀ k, rv'.ownBlock = some k → rv.ownBlock = some k ∨ w.heap.size ≤ k) (f2 : Fr (fun k => k = wb ∨ rv'.ownBlock = some k) w1 w2) (o2 : ∀ k, rv''.ownBlock = some k → rv'.ownBlock = some k ∨ w1.heap.size ≤ k) :
    Fr (fun k => k = wb ∨ rv.ownBlock = some k) w w2 ∧ ∀ k, rv''.ownBlock = some k → rv.ownBlock = some k ∨ w.heap.size ≤ k := by
  refine ⟨⟨f2.os.trans f1.os, f2.tape.trans f1.tape, f2.output.trans f1.output, Nat.le_trans f1.size f2.size, fun k hk hS => ?_⟩, fun k hk => ?_⟩
  · refine (f2.block k (by have := f1.size; omega) (fun h => ?_)).trans (f1.block k hk hS)
    rcases h with h | h
    · exact hS (.inl h)
    · exact (o1 k h).elim (fun h => hS (.inr h)) (fun h => by omega)
  · rcases o2 k hk with h | h
    · exact o1 k h
    · exact .inr (by have := f1.size; omega)
theorem codeB_take (v n j : Nat) (h : j < n) : (codeB v n).take (j + 1) = (codeB v n).take j ++ lowB (v / 2 ^ (n - 1 - j)) 1 := by
  rw [List.take_succ_eq_append_getElem (by rw [codeB_len]; exact h)]
  congr 1
  simp [codeB, lowB]
set_option maxRecDepth 10000 in
set_option maxHeartbeats 4000000 in
theorem code_any (wb base : Nat) (rv : Value) (B : List Nat) (v n : Nat) (a : Int) (ha : a = v) (w : World) (h : WrAt w wb base rv B) (hv : v < 1000000) (hn : n ≤ 20) (hl : B.length ≤ 9999900) :
    Calls Tryz.prog 56 #[.pointer (some ⟨wb, 0, none⟩), .int .i64 a, .int .i64 (n : Int)] w fun e w' => WrR wb base rv w (B ++ codeB v n) e w' := by
  subst ha
  go_enter Tryz.func56, Tryz.ntmps56
  go_wp2_with fail
  go_loopw [6] (fun iv wr => ∃ (j : Nat) (rv' : Value), j ≤ n ∧ iv = .int .i64 ((n : Int) - 1 - (j : Int)) ∧ WrAt wr wb base rv' (B ++ (codeB v n).take j) ∧ Fr (fun k => k = wb ∨ rv.ownBlock = some k) w wr ∧ (∀ k, rv'.ownBlock = some k → rv.ownBlock = some k ∨ w.heap.size ≤ k)) (fun iv _ => (intOf iv + 1).toNat)
  case atStart => exact ⟨0, rv, Nat.zero_le _, by simp, by simpa using h, Fr.refl _ _, fun k hk => .inl hk⟩
  case round =>
    obtain ⟨j, rv', hj, rfl, hW, hF, hO⟩ := hrel
    by_cases hlt : j < n
    · have hlen : (B ++ (codeB v n).take j).length ≤ 10000000 := by rw [List.length_append, List.length_take]; omega
      have HT : Hid (B ++ (codeB v n).take (j + 1) = (B ++ (codeB v n).take j) ++ lowB (v / 2 ^ (n - 1 - j)) 1) := (by rw [codeB_take v n j hlt, List.append_assoc] : _ = _)
      obtain ⟨i, hi⟩ : ∃ i, i = n - 1 - j := ⟨_, rfl⟩
      have hii : (n : Int) - 1 - (j : Int) = (i : Int) := by omega
      rw [hii]
      have HI : Hid (i = n - 1 - j) := hi
      have hin : i ≤ 20 := by omega
      have hvi : v / 2 ^ i ≤ v := Nat.div_le_self _ _
      have hlow := low_any wb base rv' (B ++ (codeB v n).take j) (v / 2 ^ i) 1 wr hW (by omega) (by omega) hlen
      rw [show ((v / 2 ^ i : Nat) : Int) = (v : Int) / 2 ^ i by simp] at hlow
      rw [← HI.out] at HT
      clear hi hii
      go_wp2_with fail
      refine hlow.mono ?_
      rintro e w2 ⟨rfl, rv2, g1, g2, g3⟩
      have ht := wr_trans hF hO g2 g3
      clear hlow
      go_wp2_with fail
      go_roundw
      case rel => exact ⟨j + 1, rv2, by omega, by have := HI.out; go_num, by rw [HT.out]; exact g1, ht.1, ht.2⟩
      case measure => simp [intOf]
    · have hjn : j = n := by omega
      subst hjn
      go_wp2_with fail
      go_end0
      refine ⟨rfl, rv', ?_, hF, hO⟩
      rw [List.take_of_length_le (by rw [codeB_len]; omega)] at hW
      exact hW
set_option maxRecDepth 10000 in
set_option maxHeartbeats 2000000 in
theorem literal_any (wb base : Nat) (rv : Value) (B : List Nat) (y : Nat) (w : World) (h : WrAt w wb base rv B) (hy : y < 288) (hl : B.length ≤ 9999900) :
    Calls Tryz.prog 23 #[.pointer (some ⟨wb, 0, none⟩), .int .i64 (y : Int)] w fun e w' => WrR wb base rv w (B ++ litB y) e w' := by
  by_cases h1 : y < 144
  · have d1 : decide ((y : Int) < 144) = true := decide_eq_true (by omega)
    have HC : Hid (litB y = codeB (48 + y) 8) := (by unfold litB litC; rw [if_pos h1] : _ = _)
    rw [HC.out]
    go_enter Tryz.func23, Tryz.ntmps23
    go_wp2_with fail
    refine (code_any wb base rv B (48 + y) 8 _ (by omega) _ h (by omega) (by omega) hl).mono ?_
    rintro e w2 ⟨rfl, hR⟩
    go_wp2_with fail
    go_end0
    exact ⟨rfl, hR⟩
  · have d1 : decide ((y : Int) < 144) = false := decide_eq_false (by omega)
    by_cases h2 : y < 256
    · have d2 : decide ((y : Int) < 256) = true := decide_eq_true (by omega)
      have HC : Hid (litB y = codeB (256 + y) 9) := (by unfold litB litC; rw [if_neg h1, if_pos h2] : _ = _)
      rw [HC.out]
      go_enter Tryz.func23, Tryz.ntmps23
      go_wp2_with fail
      refine (code_any wb base rv B (256 + y) 9 _ (by omega) _ h (by omega) (by omega) hl).mono ?_
      rintro e w2 ⟨rfl, hR⟩
      go_wp2_with fail
      go_end0
      exact ⟨rfl, hR⟩
    · have d2 : decide ((y : Int) < 256) = false := decide_eq_false (by omega)
      by_cases h3 : y < 280
      · have d3 : decide ((y : Int) < 280) = true := decide_eq_true (by omega)
        have HC : Hid (litB y = codeB (y - 256) 7) := (by unfold litB litC; rw [if_neg h1, if_neg h2, if_pos h3] : _ = _)
        rw [HC.out]
        go_enter Tryz.func23, Tryz.ntmps23
        go_wp2_with fail
        refine (code_any wb base rv B (y - 256) 7 _ (by omega) _ h (by omega) (by omega) hl).mono ?_
        rintro e w2 ⟨rfl, hR⟩
        go_wp2_with fail
        go_end0
        exact ⟨rfl, hR⟩
      · have d3 : decide ((y : Int) < 280) = false := decide_eq_false (by omega)
        have HC : Hid (litB y = codeB (y - 88) 8) := (by unfold litB litC; rw [if_neg h1, if_neg h2, if_neg h3] : _ = _)
        rw [HC.out]
        go_enter Tryz.func23, Tryz.ntmps23
        go_wp2_with fail
        refine (code_any wb base rv B (y - 88) 8 _ (by omega) _ h (by omega) (by omega) hl).mono ?_
        rintro e w2 ⟨rfl, hR⟩
        go_wp2_with fail
        go_end0
        exact ⟨rfl, hR⟩
set_option maxRecDepth 10000 in
set_option maxHeartbeats 400000 in
theorem lengthMore_any (y : Nat) (w : World) (hy : y ≤ 300) :
    Calls Tryz.prog 57 #[.int .i64 (y : Int)] w fun e w' => e = .returned (.int .i64 ((lenBits y : Nat) : Int)) ∧ w' = w := by
  by_cases h : y < 261
  · have HE : Hid (lenBits y = 0) := (by unfold lenBits; rw [if_pos h] : _ = _)
    rw [HE.out]
    go_enter Tryz.func57, Tryz.ntmps57
    go_wp2
    go_ret
    exact ⟨rfl, rfl⟩
  · have HE : Hid (((lenBits y : Nat) : Int) = ((y : Int) - 261) / 4) := (by unfold lenBits; rw [if_neg h]; omega : _ = _)
    rw [HE.out]
    go_enter Tryz.func57, Tryz.ntmps57
    go_wp2
    go_ret
    exact ⟨rfl, rfl⟩
set_option maxHeartbeats 400000 in
theorem farMore_any (d : Nat) (w : World) (hd : d ≤ 100) :
    Calls Tryz.prog 58 #[.int .i64 (d : Int)] w fun e w' => e = .returned (.int .i64 ((distBits d : Nat) : Int)) ∧ w' = w := by
  by_cases h : d < 2
  · have HE : Hid (distBits d = 0) := (by unfold distBits; rw [if_pos h] : _ = _)
    rw [HE.out]
    go_enter Tryz.func58, Tryz.ntmps58
    go_wp2
    go_ret
    exact ⟨rfl, rfl⟩
  · have HE : Hid (((distBits d : Nat) : Int) = ((d : Int) - 2) / 2) := (by unfold distBits; rw [if_neg h]; omega : _ = _)
    rw [HE.out]
    go_enter Tryz.func58, Tryz.ntmps58
    go_wp2
    go_ret
    exact ⟨rfl, rfl⟩
end Go.Proofs.YtephkcdbnogdhaaGreatDoor.Pr
