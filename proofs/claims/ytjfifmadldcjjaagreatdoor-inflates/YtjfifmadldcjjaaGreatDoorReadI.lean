/- The walk of a table's Read, where a code's value is its symbol. -/
import Derived.Test.YtjfifmadldcjjaaGreatDoorFit
namespace Go.Proofs.YtjfifmadldcjjaaGreatDoor.Pr
open Go.RowKit Rf
/-- the head of a table in block k: the longest code, how many there are of each length, the row of values in block vb -/
def TabHd (w : World) (k vb : Nat) (T : TypeId) (L : List Nat) : Prop := ∃ cur, w.heap[k]? = some (.cells cur T (0, 0)) ∧ cur[0]? = some (.int .i64 ((longest L : Nat) : Int)) ∧ (∀ n, n ≤ 15 → cur[1 + n]? = some (.int .i64 ((cN L n : Nat) : Int))) ∧
  cur[17]? = some (.slice (some ⟨vb, 0, none⟩) (sN L 16) (sN L 16))
theorem TabHd.c0 {w : World} {k vb : Nat} {T : TypeId} {L : List Nat} (h : TabHd w k vb T L) : w.cell? ⟨k, 0, none⟩ = some (.int .i64 ((longest L : Nat) : Int)) := by
  obtain ⟨cur, h1, h2, h3, h4⟩ := h; rw [(cell_of h1 0).1, h2]
theorem TabHd.cn {w : World} {k vb : Nat} {T : TypeId} {L : List Nat} (h : TabHd w k vb T L) (n : Nat) (hn : n ≤ 15) : w.cell? ⟨k, 1 + n, none⟩ = some (.int .i64 ((cN L n : Nat) : Int)) := by
  obtain ⟨cur, h1, h2, h3, h4⟩ := h; rw [(cell_of h1 _).1, h3 n hn]
theorem TabHd.c17 {w : World} {k vb : Nat} {T : TypeId} {L : List Nat} (h : TabHd w k vb T L) : w.cell? ⟨k, 17, none⟩ = some (.slice (some ⟨vb, 0, none⟩) (sN L 16) (sN L 16)) := by
  obtain ⟨cur, h1, h2, h3, h4⟩ := h; rw [(cell_of h1 _).1, h4]
theorem TabHd.over {w w' : World} {k vb : Nat} {T : TypeId} {L : List Nat} (h : TabHd w k vb T L) (e : w'.heap[k]? = w.heap[k]?) : TabHd w' k vb T L := by
  obtain ⟨cur, h1, h2⟩ := h; exact ⟨cur, e.trans h1, h2⟩
/-- two blocks of different types are two -/
theorem ne_of_type {w : World} {a b : Nat} {x y : Array Value} {S T : TypeId} {f g : Nat × Nat} (h1 : w.heap[a]? = some (.cells x S f)) (h2 : w.heap[b]? = some (.cells y T g)) (h : S ≠ T) : a ≠ b := by
  rintro rfl
  rw [h1] at h2
  simp at h2
  exact h h2.2.1
/-- a table whose values are symbols -/
def TabI (w : World) (k : Nat) (L : List Nat) : Prop := ∃ vb vcur, TabHd w k vb 181 L ∧ w.heap[vb]? = some (.cells vcur 3 (0, 0)) ∧ ∀ j, j < sN L 16 → vcur[j]? = some (.int .i64 (((ordN L 16).getD j 0 : Nat) : Int))
theorem RdG.types {w : World} {tb rb : Nat} {s : ByteArray} {pos c : Nat} (h : RdG w tb rb s pos c) {k : Nat} {cur : Array Value} {T : TypeId} {f : Nat × Nat} (hk : w.heap[k]? = some (.cells cur T f)) (h1 : T ≠ 39) (h2 : T ≠ 74) : k ≠ tb ∧ k ≠ rb := by
  obtain ⟨t, _, _, _, h4, h5⟩ := h
  exact ⟨ne_of_type hk h4 h1, ne_of_type hk h5 h2⟩
theorem TabI.over {w w' : World} {k tb rb : Nat} {L : List Nat} {s : ByteArray} {pos : Nat} (h : TabI w k L) (hr : Rd w tb rb s pos) (hf : RF tb rb w w') : TabI w' k L := by
  obtain ⟨vb, vcur, ⟨cur, a, b⟩, c, d⟩ := h
  obtain ⟨_, _, hr⟩ := hr
  have n1 := hr.types a (by decide) (by decide)
  have n2 := hr.types c (by decide) (by decide)
  exact ⟨vb, vcur, ⟨cur, (hf.block k (lt_of_some a) n1.1 n1.2).trans a, b⟩, (hf.block vb (lt_of_some c) n2.1 n2.2).trans c, d⟩
/-- the rest of a search, from the bits read so far on -/
theorem symT_begin (s : ByteArray) (cs : List (Nat × List UInt8)) (st : RS) : symT s cs st = symL s cs (15 - 0) (binT 0 0) st := rfl
theorem ofInt_i64 (a : Nat) (ha : a < 4294967296) : (BitVec.ofInt 64 (a : Int)).toNat = a := by
  rw [BitVec.ofInt_natCast, BitVec.toNat_ofNat]; exact Nat.mod_eq_of_lt (by omega)
theorem i64_or_nat (a b : Nat) (ha : a < 4294967296) (hb : b < 4294967296) : bits .or .i64 (a : Int) (b : Int) = ((a ||| b : Nat) : Int) := by
  have hx : a ||| b < 2 ^ 32 := Nat.or_lt_two_pow (by omega) (by omega)
  show IntKind.i64.wrap ((BitVec.ofInt 64 (a : Int) ||| BitVec.ofInt 64 (b : Int)).toNat : Int) = _
  rw [BitVec.toNat_or, ofInt_i64 a ha, ofInt_i64 b hb, IntKind.wrap_i64]
  omega
theorem i64_xor_nat (a b : Nat) (ha : a < 4294967296) (hb : b < 4294967296) : bits .xor .i64 (a : Int) (b : Int) = ((a ^^^ b : Nat) : Int) := by
  have hx : a ^^^ b < 2 ^ 32 := Nat.xor_lt_two_pow (by omega) (by omega)
  show IntKind.i64.wrap ((BitVec.ofInt 64 (a : Int) ^^^ BitVec.ofInt 64 (b : Int)).toNat : Int) = _
  rw [BitVec.toNat_xor, ofInt_i64 a ha, ofInt_i64 b hb, IntKind.wrap_i64]
  omega
theorem i64_and_nat (a b : Nat) (ha : a < 4294967296) (hb : b < 4294967296) : bits .and .i64 (a : Int) (b : Int) = ((a &&& b : Nat) : Int) := by
  have hx : a &&& b < 2 ^ 32 := Nat.and_lt_two_pow _ (by omega)
  show IntKind.i64.wrap ((BitVec.ofInt 64 (a : Int) &&& BitVec.ofInt 64 (b : Int)).toNat : Int) = _
  rw [BitVec.toNat_and, ofInt_i64 a ha, ofInt_i64 b hb, IntKind.wrap_i64]
  omega
theorem or_bit (c b : Nat) (hc : c < 1000000) (hb : b ≤ 1) : bits BinOp.or IntKind.i64 ((c : Int) * 2) (b : Int) = ((2 * c + b : Nat) : Int) := by
  have h := i64_or_nat (c * 2) b (by omega) (by omega)
  have e : c * 2 ||| b = 2 * c + b := by
    rw [Nat.mul_comm c]; exact (Nat.two_pow_add_eq_or_of_lt (i := 1) (by omega) c).symm
  rw [e] at h
  rw [← h]; congr 1
/-- one bit more: what it finds -/
theorem sym_step (s : ByteArray) (L : List Nat) (m c b p : Nat) (hm : m < 15) (hc : c < 2 ^ m) (hg : fN L m + cN L m ≤ c) (hb : b = bitsV s p 1) (hp : p < 8 * s.size) (hK : kN L 16 ≤ 32768) :
    (2 * c + b - fN L (m + 1) < cN L (m + 1) → symL s (codesT L).cs (15 - m) (binT c m) ⟨p, false⟩ = ((ordN L 16).getD (sN L (m + 1) + (2 * c + b - fN L (m + 1))) 0, ⟨p + 1, false⟩)) ∧
    (¬ 2 * c + b - fN L (m + 1) < cN L (m + 1) → symL s (codesT L).cs (15 - m) (binT c m) ⟨p, false⟩ = symL s (codesT L).cs (15 - (m + 1)) (binT (2 * c + b) (m + 1)) ⟨p + 1, false⟩) := by
  have hb1 : b ≤ 1 := by have := bitsV_lt s p 1; omega
  have h1 := oneT_ok s p hp
  have h2 : (oneT s ⟨p, false⟩).2.bad = false := by rw [h1]
  have e15 : 15 - m = (15 - (m + 1)) + 1 := by omega
  have hf := findC_canon L (m + 1) (2 * c + b) (by omega) (by rw [Nat.pow_succ]; omega) (by rw [fN]; omega) hK
  have e1 : (oneT s ⟨p, false⟩).1 = b := by rw [h1, hb]
  have e2 : (oneT s ⟨p, false⟩).2 = ⟨p + 1, false⟩ := by rw [h1]
  constructor
  · intro h
    rw [if_pos h] at hf
    rw [e15, symL_hit s _ _ _ _ rfl h2 _ (by rw [e1, binT_more c b m hb1]; exact hf), e2]
  · intro h
    rw [if_neg h] at hf
    rw [e15, symL_miss s _ _ _ _ rfl h2 (by rw [e1, binT_more c b m hb1]; exact hf), e1, e2, binT_more c b m hb1]
theorem sN_le' (L : List Nat) (hl : L.length ≤ 400) : ∀ n, sN L n ≤ 400 * n := by
  intro n
  induction n with
  | zero => simp [sN]
  | succ n ih => rw [sN]; have := cN_le L n; omega
theorem sN_le (L : List Nat) (hl : L.length ≤ 400) : sN L 16 ≤ 6400 := sN_le' L hl 16
set_option maxRecDepth 10000 in
set_option maxHeartbeats 4000000 in
theorem readI_any (k tb rb : Nat) (eb : Addr) (L : List Nat) (s : ByteArray) (pos : Nat) (w : World) (h : TabI w k L) (hR : Rd w tb rb s pos) (hend : EndIs w eb) (hs : s.size ≤ 140737488351232) (hl : L.length ≤ 400) (hx : ∀ x ∈ L, x ≤ 15) (hK : kN L 16 ≤ 32768) (hg1 : 0 ≠ tb) (hg2 : 0 ≠ rb) :
    Calls Tryz.prog 90 #[.pointer (some ⟨k, 0, none⟩), .pointer (some ⟨rb, 0, none⟩)] w fun e w' =>
      (∃ y p, symT s (codesT L).cs ⟨pos, false⟩ = (y, ⟨p, false⟩) ∧ e = .returned (.tuple #[.int .i64 ((y : Nat) : Int), .nilIface]) ∧ Rd w' tb rb s p ∧ RF tb rb w w' ∧ w'.heap.size = w.heap.size) ∨
      ((symT s (codesT L).cs ⟨pos, false⟩).2.bad = true ∧ (∃ a, e = .returned (.tuple #[.int .i64 0, .iface 62 (.pointer (some a))])) ∧ RdE w' tb rb s ∧ RF tb rb w w') := by
  have hlg : longest L ≤ 15 := longest_le L 15 hx
  go_enter Tryz.func90, Tryz.ntmps90
  go_wp2_with fail
  go_loopw [7, 8, 9, 10] (fun cv fv sv lv wr => ∃ m c g sh : Nat, m ≤ longest L ∧ lv = .int .i64 ((m + 1 : Nat) : Int) ∧ cv = .int .i64 (c : Int) ∧ fv = .int .i64 (g : Int) ∧ sv = .int .i64 (sh : Int) ∧ g = fN L m + cN L m ∧ sh = sN L (m + 1) ∧ c < 2 ^ m ∧ g ≤ c ∧
    symT s (codesT L).cs ⟨pos, false⟩ = symL s (codesT L).cs (15 - m) (binT c m) ⟨pos + m, false⟩ ∧ Rd wr tb rb s (pos + m) ∧ RF tb rb w wr ∧ wr.heap.size = w.heap.size) (fun _ _ _ lv _ => 17 - (intOf lv).toNat)
  case atStart => exact ⟨0, 0, 0, 0, Nat.zero_le _, rfl, rfl, rfl, rfl, by simp [fN, cN], by simp [sN, cN], by simp, Nat.le_refl _, symT_begin s _ _, hR, RF.refl _ _ _, rfl⟩
  case round =>
    obtain ⟨m, c, g, sh, hm, rfl, rfl, rfl, rfl, hg, hsh, hc, hgc, hsym, hRr, hF, hsz⟩ := hrel
    have hT : TabI wr k L := h.over hR hF
    have hend1 : EndIs wr eb := hend.over (hF.block _ hend.lt hg1 hg2)
    obtain ⟨vb, vcur, hHd, hvb, hval⟩ := hT
    have c0 := hHd.c0
    have HS : Hid _ := hsym
    have HG : Hid (g = fN L m + cN L m ∧ sh = sN L (m + 1) ∧ c < 2 ^ m) := (⟨hg, hsh, hc⟩ : _ ∧ _ ∧ _)
    have hm15 : m ≤ 15 := by omega
    have hp : 2 ^ m ≤ 2 ^ 15 := Nat.pow_le_pow_right (by omega) hm15
    have hcb : c ≤ 32767 := by omega
    clear hsym hg hsh hc hp
    by_cases hlt : m + 1 ≤ longest L
    · go_wp2_with fail
      refine (bit_any tb rb eb s (pos + m) _ hRr hend1 hs).mono ?_
      rintro e w1 (⟨k0, k1, rfl, k2, k3, k4⟩ | ⟨k0, ⟨a, rfl⟩, k1, k2⟩)
      · have hHd1 : TabI w1 k L := h.over hR (hF.trans k3)
        clear hHd hvb hval c0
        obtain ⟨vb, vcur, hHd, hvb, hval⟩ := hHd1
        have c0 := hHd.c0
        have c17 := hHd.c17
        have cn := hHd.cn (m + 1) (by omega)
        have hb : bitsV s (pos + m) 1 ≤ 1 := by have := bitsV_lt s (pos + m) 1; omega
        obtain ⟨b, hb0⟩ : ∃ b, b = bitsV s (pos + m) 1 := ⟨_, rfl⟩
        rw [← hb0] at hb ⊢
        have hor := or_bit c b (by omega) hb
        obtain ⟨c', hc'⟩ : ∃ c', c' = 2 * c + b := ⟨_, rfl⟩
        rw [← hc'] at hor
        have hc2 : c' ≤ 65535 := by omega
        have hcc : cN L (m + 1) ≤ 400 := by have := cN_le L (m + 1); omega
        have HC : Hid (c' = 2 * c + b) := hc'
        have hpl : (c' : Int) - (g : Int) * 2 = ((c' - 2 * g : Nat) : Int) := by omega
        obtain ⟨pl, hpl0⟩ : ∃ pl, pl = c' - 2 * g := ⟨_, rfl⟩
        rw [← hpl0] at hpl
        have HP : Hid (pl = c' - 2 * g) := hpl0
        clear hc' hpl0
        obtain ⟨cc, hcc0⟩ : ∃ cc, cc = cN L (m + 1) := ⟨_, rfl⟩
        rw [← hcc0] at hcc cn
        have HE : Hid (cc = cN L (m + 1)) := hcc0
        clear hcc0
        have hle : sN L (m + 2) ≤ sN L 16 := sN_mono L _ _ (by omega)
        have hle2 : sN L 16 ≤ 6400 := sN_le L hl
        have hsn : sh + cc ≤ sN L 16 := by
          have h1 := HG.out.2.1
          rw [HE.out, h1]
          exact hle
        obtain ⟨hstep1, hstep2⟩ := sym_step s L m c b (pos + m) (by omega) HG.out.2.2 (by rw [← HG.out.1]; exact hgc) hb0 k1 hK
        have e2g : fN L (m + 1) = 2 * g := by rw [fN, HG.out.1]
        rw [e2g, ← HC.out, ← HP.out, ← HG.out.2.1, ← HE.out] at hstep1
        rw [e2g, ← HC.out, ← HP.out, ← HE.out] at hstep2
        have H1 : Hid _ := hstep1
        have H2 : Hid _ := hstep2
        clear hstep1 hstep2 e2g hle hb0
        generalize sN L 16 = NN at *
        by_cases hhit : pl < cc
        · have hidx : sh + pl < NN := by omega
          have hcell : w1.cell? ⟨vb, sh + pl, none⟩ = _ := (cell_of hvb (sh + pl)).1.trans (hval (sh + pl) hidx)
          go_wp2_with fail
          go_ret2
          exact .inl ⟨_, _, HS.out.trans (H1.out hhit), rfl, k2, hF.trans k3, k4.trans hsz⟩
        · go_wp2_with fail
          go_roundw
          case rel =>
            have hG := HG.out
            refine ⟨m + 1, c', 2 * g + cc, sh + cc, hlt, by go_num, rfl, by go_num, by go_num, ?_, ?_, ?_, ?_, HS.out.trans (H2.out hhit), k2, hF.trans k3, k4.trans hsz⟩
            · rw [fN, ← hG.1, ← HE.out]
            · rw [HE.out, hG.2.1]; rfl
            · rw [HC.out, Nat.pow_succ]; omega
            · rw [HP.out] at hhit; have := HC.out; omega
          case measure => simp [intOf]; omega
      · clear hHd hvb hval c0
        have H3 : Hid ((symT s (codesT L).cs ⟨pos, false⟩).2.bad = true) := (by
          rw [HS.out, show 15 - m = (15 - (m + 1)) + 1 by omega, symL_end s _ _ _ _ rfl k0] : _ = _)
        go_wp2_with fail
        go_ret2
        exact .inr ⟨H3.out, ⟨a, rfl⟩, k1, hF.trans k2⟩
    · have H3 : Hid ((symT s (codesT L).cs ⟨pos, false⟩).2.bad = true) := (by
        rw [HS.out]
        exact symL_none s _ _ _ _ (fun q hq => findC_long L q (by rw [binT_length] at hq; omega)) : _ = _)
      have hRE : RdE wr tb rb s := by
        obtain ⟨cc, hcc, hR0⟩ := hRr
        exact hR0.rdE (by omega)
      go_wp2_with fail
      refine (mal_any _ _).mono ?_
      rintro e w3 ⟨rfl, hw3⟩
      have hRE3 : RdE w3 tb rb s := by
        obtain ⟨p0, c1, hc1, hR0⟩ := hRE
        exact ⟨p0, c1, hc1, by rw [hw3]; exact hR0.alloc _⟩
      have hF3 : RF tb rb w w3 := by rw [hw3]; exact hF.alloc _
      clear hw3
      go_wp2_with fail
      go_ret2
      exact .inr ⟨H3.out, ⟨_, rfl⟩, hRE3, hF3⟩
end Go.Proofs.YtjfifmadldcjjaaGreatDoor.Pr
