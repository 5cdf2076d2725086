/- The walk of codes.FitOf. -/
import Derived.Test.YtephkcdbnogdhaaGreatDoorMA
import Derived.Test.YtephkcdbnogdhaaGreatDoorMG
set_option linter.unusedVariables false
namespace Go.Proofs.YtephkcdbnogdhaaGreatDoor.Pr
open Go.RowKit Rf
/-- a row of small numbers, as bytes in memory: in block b from place o on -/
def BytesAt (w : World) (b o : Nat) (L : List Nat) : Prop := ∀ i, i < L.length → w.cell? ⟨b, o + i, none⟩ = some (.int .u8 ((L.getD i 0 : Nat) : Int))
/-- how lengths fit together -/
def fitT (L : List Nat) : Nat := if cnt L = 0 then 3 else if muchL L = 32768 then 1 else if cnt L = 1 ∧ muchL L = 16384 then 2 else 0
theorem pw_le15 (x : Nat) (h : 0 < x) : pw (15 - x) ≤ 16384 := pw_le _ 14 (by omega)
theorem muchL_le (L : List Nat) : muchL L ≤ 16384 * L.length := by
  induction L with
  | nil => simp [muchL]
  | cons x L ih =>
    unfold muchL at *
    rw [List.map_cons, List.sum_cons, List.length_cons]
    by_cases h : 0 < x
    · rw [if_pos h]; have := pw_le15 x h; omega
    · rw [if_neg h]; omega
theorem take_snoc (L : List Nat) (k : Nat) (h : k < L.length) : L.take (k + 1) = L.take k ++ [L.getD k 0] := by
  rw [List.take_succ_eq_append_getElem h]; simp [List.getD, List.getElem?_eq_getElem h]
theorem wrap_pw (mm k : Nat) (h : pw k ≤ 16384) (hm : mm ≤ 1000000000) : wrap64 ((mm : Int) + wrap64 (2 ^ k)) = ((mm + pw k : Nat) : Int) := by
  have e : (2 : Int) ^ k = ((pw k : Nat) : Int) := by simp [pw]
  rw [e]
  simp only [wrap64]
  omega
set_option maxRecDepth 10000 in
set_option maxHeartbeats 2000000 in
theorem fit_any (b o cap : Nat) (L : List Nat) (w : World) (h : BytesAt w b o L) (hl : L.length ≤ 400) (hx : ∀ x ∈ L, x ≤ 15) :
    Calls Tryz.prog 228 #[.slice (some ⟨b, o, none⟩) L.length cap] w fun e w' => e = .returned (.int .i64 ((fitT L : Nat) : Int)) ∧ w' = w := by
  go_enter Tryz.func228, Tryz.ntmps228
  go_wp2
  go_loop [3, 4, 9] (fun c r i => ∃ k : Nat, k ≤ L.length ∧ i = .int .i64 k ∧ c = .int .i64 ((cnt (L.take k) : Nat) : Int) ∧ r = .int .i64 ((muchL (L.take k) : Nat) : Int)) (fun _ _ i => L.length - (intOf i).toNat)
  case atStart => exact ⟨0, Nat.zero_le _, rfl, rfl, rfl⟩
  case round =>
    obtain ⟨k, hk, rfl, rfl, rfl⟩ := hrel
    by_cases hlt : k < L.length
    · have hc := h k hlt
      have HC : Hid _ := cnt_snoc (L.take k) (L.getD k 0)
      have HM : Hid _ := muchL_snoc (L.take k) (L.getD k 0)
      have HT : Hid _ := take_snoc L k hlt
      have hx15 : L.getD k 0 ≤ 15 := getD_le L 15 hx k
      have hb1 : cnt (L.take k) ≤ 400 := by have := cnt_le (L.take k); simp at this; omega
      have hb2 : muchL (L.take k) ≤ 6553600 := by have := muchL_le (L.take k); simp at this; omega
      have HP : Hid (0 < L.getD k 0 → pw (15 - L.getD k 0) ≤ 16384) := pw_le15 (L.getD k 0)
      generalize L.getD k 0 = x at *
      generalize cnt (L.take k) = cc at *
      generalize muchL (L.take k) = mm at *
      by_cases h0 : 0 < x
      · have hp : pw (15 - x) ≤ 16384 := HP.out h0
        go_wp2
        go_round
        case rel => exact ⟨k + 1, by omega, by go_num, by rw [HT.out, HC.out, if_pos h0]; go_num, by rw [HT.out, HM.out, if_pos h0, wrap_pw mm _ hp (by omega)]⟩
        case measure => simp [intOf]; omega
      · go_wp2
        go_round
        case rel => exact ⟨k + 1, by omega, by go_num, by rw [HT.out, HC.out, if_neg h0]; go_num, by rw [HT.out, HM.out, if_neg h0]; go_num⟩
        case measure => simp [intOf]; omega
    · have ht : L.take k = L := List.take_of_length_le (by omega)
      rw [ht]
      have hb1 : cnt L ≤ 400 := by have := cnt_le L; omega
      have hb2 : muchL L ≤ 6553600 := by have := muchL_le L; omega
      have HF : Hid (fitT L = if cnt L = 0 then 3 else if muchL L = 32768 then 1 else if cnt L = 1 ∧ muchL L = 16384 then 2 else 0) := rfl
      generalize cnt L = cc at *
      generalize muchL L = mm at *
      by_cases h1 : cc = 0
      · have d1 : decide ((cc : Int) = 0) = true := decide_eq_true (by omega)
        go_wp2
        go_ret
        exact ⟨ret_int (by rw [HF.out, if_pos h1]; rfl), rfl⟩
      · have d1 : decide ((cc : Int) = 0) = false := decide_eq_false (by omega)
        by_cases h2 : mm = 32768
        · have d2 : decide ((mm : Int) = 32768) = true := decide_eq_true (by omega)
          go_wp2
          go_ret
          exact ⟨ret_int (by rw [HF.out, if_neg h1, if_pos h2]; rfl), rfl⟩
        · have d2 : decide ((mm : Int) = 32768) = false := decide_eq_false (by omega)
          by_cases h3 : cc = 1
          · have d3 : decide ((cc : Int) = 1) = true := decide_eq_true (by omega)
            by_cases h4 : mm = 16384
            · have d4 : decide ((mm : Int) = 16384) = true := decide_eq_true (by omega)
              go_wp2
              go_ret
              exact ⟨ret_int (by rw [HF.out, if_neg h1, if_neg h2, if_pos ⟨h3, h4⟩]; rfl), rfl⟩
            · have d4 : decide ((mm : Int) = 16384) = false := decide_eq_false (by omega)
              go_wp2
              go_ret
              exact ⟨ret_int (by rw [HF.out, if_neg h1, if_neg h2, if_neg (fun e => h4 e.2)]; rfl), rfl⟩
          · have d3 : decide ((cc : Int) = 1) = false := decide_eq_false (by omega)
            go_wp2
            go_ret
            exact ⟨ret_int (by rw [HF.out, if_neg h1, if_neg h2, if_neg (fun e => h3 e.1)]; rfl), rfl⟩
end Go.Proofs.YtephkcdbnogdhaaGreatDoor.Pr
/- The walk of a table's Read, where a code's value is its symbol. -/
namespace Go.Proofs.YtephkcdbnogdhaaGreatDoor.Pr
open Go.RowKit Rf
/-- the head of a table in block k: the longest code, how many there are of each length, the row of values in block vb -/
def TabHd (w : World) (k vb : Nat) (T : TypeId) (L : List Nat) : Prop := ∃ cur, w.heap[k]? = some (.cells cur T (0, 0)) ∧ cur[0]? = some (.int .i64 ((longest L : Nat) : Int)) ∧ (∀ n, n ≤ 15 → cur[1 + n]? = some (.int .i64 ((cN L n : Nat) : Int))) ∧
  cur[17]? = some (.slice (some ⟨vb, 0, none⟩) (sN L 16) (sN L 16))
theorem TabHd.c0 {w : World} {k vb : Nat} {T : TypeId} {L : List Nat} (h : TabHd w k vb T L) : w.cell? ⟨k, 0, none⟩ = some (.int .i64 ((longest L : Nat) : Int)) := by
  obtain ⟨cur, h1, h2, h3, h4⟩ := h; rw [(cell_of h1 0).1, h2]
theorem TabHd.cn {w : World} {k vb : Nat} {T : TypeId} {L : List Nat} (h : TabHd w k vb T L) (n : Nat) (hn : n ≤ 15) : w.cell? ⟨k, 1 + n, none⟩ = some (.int .i64 ((cN L n : Nat) : Int)) := by
  obtain ⟨cur, h1, h2, h3, h4⟩ := h; rw [(cell_of h1 _).1, h3 n hn]
theorem TabHd.c17 {w : World} {k vb : Nat} {T : TypeId} {L : List Nat} (h : TabHd w k vb T L) : w.cell? ⟨k, 17, none⟩ = some (.slice (some ⟨vb, 0, none⟩) (sN L 16) (sN L 16)) := by
  obtain ⟨cur, h1, h2, h3, h4⟩ := h; rw [(cell_of h1 _).1, h4]
theorem TabHd.over {w w' : World} {k vb : Nat} {T : TypeId} {L : List Nat} (h : TabHd w k vb T L) (e : w'.heap[k]? = w.heap[k]?) : TabHd w' k vb T L := by
  obtain ⟨cur, h1, h2⟩ := h; exact ⟨cur, e.trans h1, h2⟩
/-- a table whose values are symbols -/
def TabI (w : World) (k : Nat) (L : List Nat) : Prop := ∃ vb vcur, TabHd w k vb 360 L ∧ w.heap[vb]? = some (.cells vcur 3 (0, 0)) ∧ ∀ j, j < sN L 16 → vcur[j]? = some (.int .i64 (((ordN L 16).getD j 0 : Nat) : Int))
theorem TabI.over {w w' : World} {k : Nat} {tb : Src} {rb : Nat} {L : List Nat} {s : ByteArray} {pos : Nat} (h : TabI w k L) (hr : Rd w tb rb s pos) (hf : RF tb rb w w') : TabI w' k L := by
  obtain ⟨vb, vcur, ⟨cur, a, b⟩, c, d⟩ := h
  have n1 := hr.types a (by decide) (by decide)
  have n2 := hr.types c (by decide) (by decide)
  exact ⟨vb, vcur, ⟨cur, (hf.block k (lt_of_some a) n1.1 n1.2).trans a, b⟩, (hf.block vb (lt_of_some c) n2.1 n2.2).trans c, d⟩
/-- the rest of a search, from the bits read so far on -/
theorem symT_begin (s : ByteArray) (cs : List (Nat × List UInt8)) (st : RS) : symT s cs st = symL s cs (15 - 0) (binT 0 0) st := rfl
theorem ofInt_i64 (a : Nat) (ha : a < 4294967296) : (BitVec.ofInt 64 (a : Int)).toNat = a := by
  rw [BitVec.ofInt_natCast, BitVec.toNat_ofNat]; exact Nat.mod_eq_of_lt (by omega)
theorem i64_or_nat (a b : Nat) (ha : a < 4294967296) (hb : b < 4294967296) : bits .or .i64 (a : Int) (b : Int) = ((a ||| b : Nat) : Int) := by
  have hx : a ||| b < 2 ^ 32 := Nat.or_lt_two_pow (by omega) (by omega)
  show IntKind.i64.wrap ((BitVec.ofInt 64 (a : Int) ||| BitVec.ofInt 64 (b : Int)).toNat : Int) = _
  rw [BitVec.toNat_or, ofInt_i64 a ha, ofInt_i64 b hb, IntKind.wrap_i64]
  omega
theorem i64_xor_nat (a b : Nat) (ha : a < 4294967296) (hb : b < 4294967296) : bits .xor .i64 (a : Int) (b : Int) = ((a ^^^ b : Nat) : Int) := by
  have hx : a ^^^ b < 2 ^ 32 := Nat.xor_lt_two_pow (by omega) (by omega)
  show IntKind.i64.wrap ((BitVec.ofInt 64 (a : Int) ^^^ BitVec.ofInt 64 (b : Int)).toNat : Int) = _
  rw [BitVec.toNat_xor, ofInt_i64 a ha, ofInt_i64 b hb, IntKind.wrap_i64]
  omega
theorem i64_and_nat (a b : Nat) (ha : a < 4294967296) (hb : b < 4294967296) : bits .and .i64 (a : Int) (b : Int) = ((a &&& b : Nat) : Int) := by
  have hx : a &&& b < 2 ^ 32 := Nat.and_lt_two_pow _ (by omega)
  show IntKind.i64.wrap ((BitVec.ofInt 64 (a : Int) &&& BitVec.ofInt 64 (b : Int)).toNat : Int) = _
  rw [BitVec.toNat_and, ofInt_i64 a ha, ofInt_i64 b hb, IntKind.wrap_i64]
  omega
theorem or_bit (c b : Nat) (hc : c < 1000000) (hb : b ≤ 1) : bits BinOp.or IntKind.i64 ((c : Int) * 2) (b : Int) = ((2 * c + b : Nat) : Int) := by
  have h := i64_or_nat (c * 2) b (by omega) (by omega)
  have e : c * 2 ||| b = 2 * c + b := by
    rw [Nat.mul_comm c]; exact (Nat.two_pow_add_eq_or_of_lt (i := 1) (by omega) c).symm
  rw [e] at h
  rw [← h]; congr 1
/-- one bit more: what it finds -/
theorem sym_step (s : ByteArray) (L : List Nat) (m c b p : Nat) (hm : m < 15) (hc : c < 2 ^ m) (hg : fN L m + cN L m ≤ c) (hb : b = bitsV s p 1) (hp : p < 8 * s.size) (hK : kN L 16 ≤ 32768) :
    (2 * c + b - fN L (m + 1) < cN L (m + 1) → symL s (codesT L).cs (15 - m) (binT c m) ⟨p, false⟩ = ((ordN L 16).getD (sN L (m + 1) + (2 * c + b - fN L (m + 1))) 0, ⟨p + 1, false⟩)) ∧
    (¬ 2 * c + b - fN L (m + 1) < cN L (m + 1) → symL s (codesT L).cs (15 - m) (binT c m) ⟨p, false⟩ = symL s (codesT L).cs (15 - (m + 1)) (binT (2 * c + b) (m + 1)) ⟨p + 1, false⟩) := by
  have hb1 : b ≤ 1 := by have := bitsV_lt s p 1; omega
  have h1 := oneT_ok s p hp
  have h2 : (oneT s ⟨p, false⟩).2.bad = false := by rw [h1]
  have e15 : 15 - m = (15 - (m + 1)) + 1 := by omega
  have hf := findC_canon L (m + 1) (2 * c + b) (by omega) (by rw [Nat.pow_succ]; omega) (by rw [fN]; omega) hK
  have e1 : (oneT s ⟨p, false⟩).1 = b := by rw [h1, hb]
  have e2 : (oneT s ⟨p, false⟩).2 = ⟨p + 1, false⟩ := by rw [h1]
  constructor
  · intro h
    rw [if_pos h] at hf
    rw [e15, symL_hit s _ _ _ _ rfl h2 _ (by rw [e1, binT_more c b m hb1]; exact hf), e2]
  · intro h
    rw [if_neg h] at hf
    rw [e15, symL_miss s _ _ _ _ rfl h2 (by rw [e1, binT_more c b m hb1]; exact hf), e1, e2, binT_more c b m hb1]
theorem sN_le' (L : List Nat) (hl : L.length ≤ 400) : ∀ n, sN L n ≤ 400 * n := by
  intro n
  induction n with
  | zero => simp [sN]
  | succ n ih => rw [sN]; have := cN_le L n; omega
theorem sN_le (L : List Nat) (hl : L.length ≤ 400) : sN L 16 ≤ 6400 := sN_le' L hl 16
set_option maxRecDepth 10000 in
set_option maxHeartbeats 4000000 in
theorem readI_any (k : Nat) (tb : Src) (rb : Nat) (L : List Nat) (s : ByteArray) (pos : Nat) (w : World) (h : TabI w k L) (hR : Rd w tb rb s pos) (hs : s.size ≤ 140737488354000) (hl : L.length ≤ 400) (hx : ∀ x ∈ L, x ≤ 15) (hK : kN L 16 ≤ 32768) :
    Calls Tryz.prog 231 #[.pointer (some ⟨k, 0, none⟩), .pointer (some ⟨rb, 0, none⟩)] w fun e w' =>
      (∃ y p, symT s (codesT L).cs ⟨pos, false⟩ = (y, ⟨p, false⟩) ∧ e = .returned (.tuple #[.int .i64 ((y : Nat) : Int), .nilIface]) ∧ Rd w' tb rb s p ∧ RF tb rb w w') ∨
      ((∃ T a, e = .returned (.tuple #[.int .i64 0, .iface T (.pointer (some a))]) ∧ Why tb w' T a ((symT s (codesT L).cs ⟨pos, false⟩).2.bad = true)) ∧ RdE w' tb rb s ∧ RF tb rb w w') := by
  have hlg : longest L ≤ 15 := longest_le L 15 hx
  go_enter Tryz.func231, Tryz.ntmps231
  go_wp2_with fail
  go_loopw [7, 8, 9, 10] (fun cv fv sv lv wr => ∃ m c g sh : Nat, m ≤ longest L ∧ lv = .int .i64 ((m + 1 : Nat) : Int) ∧ cv = .int .i64 (c : Int) ∧ fv = .int .i64 (g : Int) ∧ sv = .int .i64 (sh : Int) ∧ g = fN L m + cN L m ∧ sh = sN L (m + 1) ∧ c < 2 ^ m ∧ g ≤ c ∧
    symT s (codesT L).cs ⟨pos, false⟩ = symL s (codesT L).cs (15 - m) (binT c m) ⟨pos + m, false⟩ ∧ Rd wr tb rb s (pos + m) ∧ RF tb rb w wr) (fun _ _ _ lv _ => 17 - (intOf lv).toNat)
  case atStart => exact ⟨0, 0, 0, 0, Nat.zero_le _, rfl, rfl, rfl, rfl, by simp [fN, cN], by simp [sN, cN], by simp, Nat.le_refl _, symT_begin s _ _, hR, RF.refl _ _ _⟩
  case round =>
    obtain ⟨m, c, g, sh, hm, rfl, rfl, rfl, rfl, hg, hsh, hc, hgc, hsym, hRr, hF⟩ := hrel
    have hT : TabI wr k L := h.over hR hF
    obtain ⟨vb, vcur, hHd, hvb, hval⟩ := hT
    have c0 := hHd.c0
    have HS : Hid _ := hsym
    have HG : Hid (g = fN L m + cN L m ∧ sh = sN L (m + 1) ∧ c < 2 ^ m) := (⟨hg, hsh, hc⟩ : _ ∧ _ ∧ _)
    have hm15 : m ≤ 15 := by omega
    have hp : 2 ^ m ≤ 2 ^ 15 := Nat.pow_le_pow_right (by omega) hm15
    have hcb : c ≤ 32767 := by omega
    clear hsym hg hsh hc hp
    by_cases hlt : m + 1 ≤ longest L
    · go_wp2_with fail
      refine (bit_any tb rb s (pos + m) _ hRr hs).mono ?_
      rintro e w1 (⟨k0, k1, rfl, k2, k3⟩ | ⟨⟨T, a, rfl, k0⟩, k1, k2⟩)
      · have hHd1 : TabI w1 k L := h.over hR (hF.trans k3)
        clear hHd hvb hval c0
        obtain ⟨vb, vcur, hHd, hvb, hval⟩ := hHd1
        have c0 := hHd.c0
        have c17 := hHd.c17
        have cn := hHd.cn (m + 1) (by omega)
        have hb : bitsV s (pos + m) 1 ≤ 1 := by have := bitsV_lt s (pos + m) 1; omega
        obtain ⟨b, hb0⟩ : ∃ b, b = bitsV s (pos + m) 1 := ⟨_, rfl⟩
        rw [← hb0] at hb ⊢
        have hor := or_bit c b (by omega) hb
        obtain ⟨c', hc'⟩ : ∃ c', c' = 2 * c + b := ⟨_, rfl⟩
        rw [← hc'] at hor
        have hc2 : c' ≤ 65535 := by omega
        have hcc : cN L (m + 1) ≤ 400 := by have := cN_le L (m + 1); omega
        have HC : Hid (c' = 2 * c + b) := hc'
        have hpl : (c' : Int) - (g : Int) * 2 = ((c' - 2 * g : Nat) : Int) := by omega
        obtain ⟨pl, hpl0⟩ : ∃ pl, pl = c' - 2 * g := ⟨_, rfl⟩
        rw [← hpl0] at hpl
        have HP : Hid (pl = c' - 2 * g) := hpl0
        clear hc' hpl0
        obtain ⟨cc, hcc0⟩ : ∃ cc, cc = cN L (m + 1) := ⟨_, rfl⟩
        rw [← hcc0] at hcc cn
        have HE : Hid (cc = cN L (m + 1)) := hcc0
        clear hcc0
        have hle : sN L (m + 2) ≤ sN L 16 := sN_mono L _ _ (by omega)
        have hle2 : sN L 16 ≤ 6400 := sN_le L hl
        have hsn : sh + cc ≤ sN L 16 := by
          have h1 := HG.out.2.1
          rw [HE.out, h1]
          exact hle
        obtain ⟨hstep1, hstep2⟩ := sym_step s L m c b (pos + m) (by omega) HG.out.2.2 (by rw [← HG.out.1]; exact hgc) hb0 k1 hK
        have e2g : fN L (m + 1) = 2 * g := by rw [fN, HG.out.1]
        rw [e2g, ← HC.out, ← HP.out, ← HG.out.2.1, ← HE.out] at hstep1
        rw [e2g, ← HC.out, ← HP.out, ← HE.out] at hstep2
        have H1 : Hid _ := hstep1
        have H2 : Hid _ := hstep2
        clear hstep1 hstep2 e2g hle hb0
        generalize sN L 16 = NN at *
        by_cases hhit : pl < cc
        · have hidx : sh + pl < NN := by omega
          have hcell : w1.cell? ⟨vb, sh + pl, none⟩ = _ := (cell_of hvb (sh + pl)).1.trans (hval (sh + pl) hidx)
          go_wp2_with fail
          go_ret2
          exact .inl ⟨_, _, HS.out.trans (H1.out hhit), rfl, k2, hF.trans k3⟩
        · go_wp2_with fail
          go_roundw
          case rel =>
            have hG := HG.out
            refine ⟨m + 1, c', 2 * g + cc, sh + cc, hlt, by go_num, rfl, by go_num, by go_num, ?_, ?_, ?_, ?_, HS.out.trans (H2.out hhit), k2, hF.trans k3⟩
            · rw [fN, ← hG.1, ← HE.out]
            · rw [HE.out, hG.2.1]; rfl
            · rw [HC.out, Nat.pow_succ]; omega
            · rw [HP.out] at hhit; have := HC.out; omega
          case measure => simp [intOf]; omega
      · clear hHd hvb hval c0
        have H3 : Why tb w1 T a ((symT s (codesT L).cs ⟨pos, false⟩).2.bad = true) := k0.imp (fun k0 => by
          rw [HS.out, show 15 - m = (15 - (m + 1)) + 1 by omega, symL_end s _ _ _ _ rfl k0])
        clear k0
        go_wp2_with fail
        go_ret2
        exact .inr ⟨⟨T, a, rfl, H3⟩, k1, hF.trans k2⟩
    · have H3 : Hid ((symT s (codesT L).cs ⟨pos, false⟩).2.bad = true) := (by
        rw [HS.out]
        exact symL_none s _ _ _ _ (fun q hq => findC_long L q (by rw [binT_length] at hq; omega)) : _ = _)
      have hRE : RdE wr tb rb s := hRr.rdE
      go_wp2_with fail
      refine (mal_any _ _).mono ?_
      rintro e w3 ⟨rfl, hw3⟩
      have hRE3 : RdE w3 tb rb s := by rw [hw3]; exact hRE.alloc _
      have hF3 : RF tb rb w w3 := by rw [hw3]; exact hF.alloc _
      clear hw3
      go_wp2_with fail
      go_ret2
      exact .inr ⟨⟨_, _, rfl, Why.mal H3.out⟩, hRE3, hF3⟩
end Go.Proofs.YtephkcdbnogdhaaGreatDoor.Pr
/- The walk of a table's Read, where a code's value is what its symbol stands for. -/
namespace Go.Proofs.YtephkcdbnogdhaaGreatDoor.Pr
open Go.RowKit Rf
/-- what a symbol stands for, as a value: its kind, a number, how many bits more -/
def meanV (m : Nat × Nat × Nat) : Value := .agg #[.int .u8 (m.1 : Int), .int .i64 (m.2.1 : Int), .int .u64 (m.2.2 : Int)]
/-- a table whose values are what symbols stand for -/
def TabM (w : World) (k : Nat) (mean : Nat → Nat × Nat × Nat) (L : List Nat) : Prop := ∃ vb vcur, TabHd w k vb 343 L ∧ w.heap[vb]? = some (.cells vcur 314 (0, 0)) ∧
  ∀ j, j < sN L 16 → vcur[j * 3]? = some (.int .u8 ((mean ((ordN L 16).getD j 0)).1 : Int)) ∧ vcur[j * 3 + 1]? = some (.int .i64 ((mean ((ordN L 16).getD j 0)).2.1 : Int)) ∧ vcur[j * 3 + 2]? = some (.int .u64 ((mean ((ordN L 16).getD j 0)).2.2 : Int))
theorem TabM.over {w w' : World} {k : Nat} {tb : Src} {rb : Nat} {mean : Nat → Nat × Nat × Nat} {L : List Nat} {s : ByteArray} {pos : Nat} (h : TabM w k mean L) (hr : Rd w tb rb s pos) (hf : RF tb rb w w') : TabM w' k mean L := by
  obtain ⟨vb, vcur, ⟨cur, a, b⟩, c, d⟩ := h
  have n1 := hr.types a (by decide) (by decide)
  have n2 := hr.types c (by decide) (by decide)
  exact ⟨vb, vcur, ⟨cur, (hf.block k (lt_of_some a) n1.1 n1.2).trans a, b⟩, (hf.block vb (lt_of_some c) n2.1 n2.2).trans c, d⟩
theorem RF.setNew {tb : Src} {rb : Nat} {u v : World} (h : RF tb rb u v) (b o : Nat) (hb : u.heap.size ≤ b) (x : Value) : RF tb rb u (v.setCell ⟨b, o, none⟩ x) :=
  ⟨h.os, h.tape, h.output, by simpa using h.size, fun k hk a e => (Below.heap_setCell v ⟨b, o, none⟩ x k (show k ≠ b by omega)).trans (h.block k hk a e)⟩
theorem Rd.drew {w : World} {tb : Src} {rb : Nat} {s : ByteArray} {pos : Nat} (h : Rd w tb rb s pos) : Rd w.drew tb rb s pos := h.grow (fun _ _ => rfl)
set_option maxRecDepth 10000 in
set_option maxHeartbeats 4000000 in
theorem readM_any (k : Nat) (tb : Src) (rb : Nat) (L : List Nat) (s : ByteArray) (pos : Nat) (w : World) (mean : Nat → Nat × Nat × Nat) (h : TabM w k mean L) (hR : Rd w tb rb s pos) (hs : s.size ≤ 140737488354000) (hl : L.length ≤ 400) (hx : ∀ x ∈ L, x ≤ 15) (hK : kN L 16 ≤ 32768) :
    Calls Tryz.prog 198 #[.pointer (some ⟨k, 0, none⟩), .pointer (some ⟨rb, 0, none⟩)] w fun e w' =>
      (∃ y p, symT s (codesT L).cs ⟨pos, false⟩ = (y, ⟨p, false⟩) ∧ e = .returned (.tuple #[meanV (mean y), .nilIface]) ∧ Rd w' tb rb s p ∧ RF tb rb w w') ∨
      ((∃ T a, e = .returned (.tuple #[meanV (0, 0, 0), .iface T (.pointer (some a))]) ∧ Why tb w' T a ((symT s (codesT L).cs ⟨pos, false⟩).2.bad = true)) ∧ RdE w' tb rb s ∧ RF tb rb w w') := by
  have hR0 : Rd ((w.alloc (.cells #[.int .u8 0, .int .i64 0, .int .u64 0] 314)).alloc (.cells #[.int .u8 0, .int .i64 0, .int .u64 0] 314)) tb rb s pos := (hR.alloc _).alloc _
  have hF0 : RF tb rb w ((w.alloc (.cells #[.int .u8 0, .int .i64 0, .int .u64 0] 314)).alloc (.cells #[.int .u8 0, .int .i64 0, .int .u64 0] 314)) := ((RF.refl tb rb w).alloc _).alloc _
  have h0 : TabM ((w.alloc (.cells #[.int .u8 0, .int .i64 0, .int .u64 0] 314)).alloc (.cells #[.int .u8 0, .int .i64 0, .int .u64 0] 314)) k mean L := h.over hR hF0
  have hz1 : ((w.alloc (.cells #[.int .u8 0, .int .i64 0, .int .u64 0] 314)).alloc (.cells #[.int .u8 0, .int .i64 0, .int .u64 0] 314)).heap[w.heap.size]? = some (.cells #[.int .u8 0, .int .i64 0, .int .u64 0] 314 (0, 0)) := by
    rw [Below.heap_alloc _ _ _ (by simp)]; exact (MapKept.heap_alloc w _).1
  have hz2 : ((w.alloc (.cells #[.int .u8 0, .int .i64 0, .int .u64 0] 314)).alloc (.cells #[.int .u8 0, .int .i64 0, .int .u64 0] 314)).heap[w.heap.size + 1]? = some (.cells #[.int .u8 0, .int .i64 0, .int .u64 0] 314 (0, 0)) := by
    have h := (MapKept.heap_alloc (w.alloc (.cells #[.int .u8 0, .int .i64 0, .int .u64 0] 314)) (.cells #[.int .u8 0, .int .i64 0, .int .u64 0] 314)).1
    rw [World.size_alloc] at h
    exact h
  have hzs : ((w.alloc (.cells #[.int .u8 0, .int .i64 0, .int .u64 0] 314)).alloc (.cells #[.int .u8 0, .int .i64 0, .int .u64 0] 314)).heap.size = w.heap.size + 2 := by simp
  have hnt : ∀ k, w.heap.size ≤ k → tb.base ≤ k ∧ ¬ tb.F k ∧ k ≠ rb := fun k hk => hR.new hk
  have hblk : ∀ {v : World} {b : Nat}, RF tb rb ((w.alloc (.cells #[.int .u8 0, .int .i64 0, .int .u64 0] 314)).alloc (.cells #[.int .u8 0, .int .i64 0, .int .u64 0] 314)) v → w.heap.size ≤ b → b < w.heap.size + 2 → v.heap[b]? = some (.cells #[.int .u8 0, .int .i64 0, .int .u64 0] 314 (0, 0)) := fun {v b} hv h1 h2 => by
    have hb := hnt b h1
    have e := hv.block b (by rw [hzs]; exact h2) hb.2.1 hb.2.2
    rcases (by omega : b = w.heap.size ∨ b = w.heap.size + 1) with rfl | rfl
    · exact e.trans hz1
    · exact e.trans hz2
  have hlg : longest L ≤ 15 := longest_le L 15 hx
  go_enter Tryz.func198, Tryz.ntmps198
  go_wp2_with fail
  go_loopw [7, 8, 9, 10] (fun cv fv sv lv wr => ∃ m c g sh : Nat, m ≤ longest L ∧ lv = .int .i64 ((m + 1 : Nat) : Int) ∧ cv = .int .i64 (c : Int) ∧ fv = .int .i64 (g : Int) ∧ sv = .int .i64 (sh : Int) ∧ g = fN L m + cN L m ∧ sh = sN L (m + 1) ∧ c < 2 ^ m ∧ g ≤ c ∧
    symT s (codesT L).cs ⟨pos, false⟩ = symL s (codesT L).cs (15 - m) (binT c m) ⟨pos + m, false⟩ ∧ Rd wr tb rb s (pos + m) ∧ RF tb rb ((w.alloc (.cells #[.int .u8 0, .int .i64 0, .int .u64 0] 314)).alloc (.cells #[.int .u8 0, .int .i64 0, .int .u64 0] 314)) wr) (fun _ _ _ lv _ => 17 - (intOf lv).toNat)
  case atStart => exact ⟨0, 0, 0, 0, Nat.zero_le _, rfl, rfl, rfl, rfl, by simp [fN, cN], by simp [sN, cN], by simp, Nat.le_refl _, symT_begin s _ _, hR0, RF.refl _ _ _⟩
  case round =>
    obtain ⟨m, c, g, sh, hm, rfl, rfl, rfl, rfl, hg, hsh, hc, hgc, hsym, hRr, hF⟩ := hrel
    have hT : TabM wr k mean L := h0.over hR0 hF
    obtain ⟨vb, vcur, hHd, hvb, hval⟩ := hT
    have c0 := hHd.c0
    have HS : Hid _ := hsym
    have HG : Hid (g = fN L m + cN L m ∧ sh = sN L (m + 1) ∧ c < 2 ^ m) := (⟨hg, hsh, hc⟩ : _ ∧ _ ∧ _)
    have hm15 : m ≤ 15 := by omega
    have hp : 2 ^ m ≤ 2 ^ 15 := Nat.pow_le_pow_right (by omega) hm15
    have hcb : c ≤ 32767 := by omega
    clear hsym hg hsh hc hp
    by_cases hlt : m + 1 ≤ longest L
    · go_wp2_with fail
      refine (bit_any tb rb s (pos + m) _ hRr hs).mono ?_
      rintro e w1 (⟨k0, k1, rfl, k2, k3⟩ | ⟨⟨T, a, rfl, k0⟩, k1, k2⟩)
      · have hHd1 : TabM w1 k mean L := h0.over hR0 (hF.trans k3)
        clear hHd hvb hval c0
        obtain ⟨vb, vcur, hHd, hvb, hval⟩ := hHd1
        have c0 := hHd.c0
        have c17 := hHd.c17
        have cn := hHd.cn (m + 1) (by omega)
        have hb : bitsV s (pos + m) 1 ≤ 1 := by have := bitsV_lt s (pos + m) 1; omega
        obtain ⟨b, hb0⟩ : ∃ b, b = bitsV s (pos + m) 1 := ⟨_, rfl⟩
        rw [← hb0] at hb ⊢
        have hor := or_bit c b (by omega) hb
        obtain ⟨c', hc'⟩ : ∃ c', c' = 2 * c + b := ⟨_, rfl⟩
        rw [← hc'] at hor
        have hc2 : c' ≤ 65535 := by omega
        have hcc : cN L (m + 1) ≤ 400 := by have := cN_le L (m + 1); omega
        have HC : Hid (c' = 2 * c + b) := hc'
        have hpl : (c' : Int) - (g : Int) * 2 = ((c' - 2 * g : Nat) : Int) := by omega
        obtain ⟨pl, hpl0⟩ : ∃ pl, pl = c' - 2 * g := ⟨_, rfl⟩
        rw [← hpl0] at hpl
        have HP : Hid (pl = c' - 2 * g) := hpl0
        clear hc' hpl0
        obtain ⟨cc, hcc0⟩ : ∃ cc, cc = cN L (m + 1) := ⟨_, rfl⟩
        rw [← hcc0] at hcc cn
        have HE : Hid (cc = cN L (m + 1)) := hcc0
        clear hcc0
        have hle : sN L (m + 2) ≤ sN L 16 := sN_mono L _ _ (by omega)
        have hle2 : sN L 16 ≤ 6400 := sN_le L hl
        have hsn : sh + cc ≤ sN L 16 := by
          have h1 := HG.out.2.1
          rw [HE.out, h1]
          exact hle
        obtain ⟨hstep1, hstep2⟩ := sym_step s L m c b (pos + m) (by omega) HG.out.2.2 (by rw [← HG.out.1]; exact hgc) hb0 k1 hK
        have e2g : fN L (m + 1) = 2 * g := by rw [fN, HG.out.1]
        rw [e2g, ← HC.out, ← HP.out, ← HG.out.2.1, ← HE.out] at hstep1
        rw [e2g, ← HC.out, ← HP.out, ← HE.out] at hstep2
        have H1 : Hid _ := hstep1
        have H2 : Hid _ := hstep2
        clear hstep1 hstep2 e2g hle hb0
        generalize sN L 16 = NN at *
        by_cases hhit : pl < cc
        · have hidx : sh + pl < NN := by omega
          obtain ⟨v0, v1, v2⟩ := hval (sh + pl) hidx
          have hc0 := (cell_of hvb ((sh + pl) * 3)).1.trans v0
          have hc1 := (cell_of hvb ((sh + pl) * 3 + 1)).1.trans v1
          have hc2' := (cell_of hvb ((sh + pl) * 3 + 2)).1.trans v2
          have r0 := hblk (hF.trans k3) (Nat.le_refl _) (by omega)
          have s0 := (cell_of r0 0)
          have s1 := (cell_of r0 1)
          have s2 := (cell_of r0 2)
          have t0 : w1.cell? ⟨w.heap.size, 0, none⟩ = some (.int .u8 0) := by simpa using s0.1
          have t1 : w1.cell? ⟨w.heap.size, 1, none⟩ = some (.int .i64 0) := by simpa using s1.1
          have t2 : w1.cell? ⟨w.heap.size, 2, none⟩ = some (.int .u64 0) := by simpa using s2.1
          have f0 := s0.2
          have f1 := s1.2
          have f2 := s2.2
          clear s0 s1 s2 v0 v1 v2
          generalize hy : (ordN L 16).getD (sh + pl) 0 = y at *
          have hbt := hnt w.heap.size (Nat.le_refl _)
          have g0 : (w1.setCell ⟨w.heap.size, 0, none⟩ (.int .u8 ((mean y).1 : Int))).cell? ⟨w.heap.size, 0, none⟩ = some (.int .u8 ((mean y).1 : Int)) := by simpa using (cell_of (set_of r0 0 (.int .u8 ((mean y).1 : Int))) 0).1
          have g1 : ((w1.setCell ⟨w.heap.size, 0, none⟩ (.int .u8 ((mean y).1 : Int))).setCell ⟨w.heap.size, 1, none⟩ (.int .i64 ((mean y).2.1 : Int))).cell? ⟨w.heap.size, 1, none⟩ = some (.int .i64 ((mean y).2.1 : Int)) := by simpa using (cell_of (set_of (set_of r0 0 (.int .u8 ((mean y).1 : Int))) 1 (.int .i64 ((mean y).2.1 : Int))) 1).1
          have g2 : (((w1.setCell ⟨w.heap.size, 0, none⟩ (.int .u8 ((mean y).1 : Int))).setCell ⟨w.heap.size, 1, none⟩ (.int .i64 ((mean y).2.1 : Int))).setCell ⟨w.heap.size, 2, none⟩ (.int .u64 ((mean y).2.2 : Int))).cell? ⟨w.heap.size, 2, none⟩ = some (.int .u64 ((mean y).2.2 : Int)) := by simpa using (cell_of (set_of (set_of (set_of r0 0 (.int .u8 ((mean y).1 : Int))) 1 (.int .i64 ((mean y).2.1 : Int))) 2 (.int .u64 ((mean y).2.2 : Int))) 2).1
          go_wp2_with fail
          refine bodyPost_ret (v := .tuple #[meanV (mean y), .nilIface]) (by simp [g0, g1, g2, results, Tryz.results198, go_sem, meanV]) rfl (.inl ⟨_, _, HS.out.trans (H1.out hhit), rfl, ?_, ?_⟩)
          · exact ((k2.setNew _ 0 _ hbt.1 hbt.2.1 hbt.2.2).setNew _ 1 _ hbt.1 hbt.2.1 hbt.2.2).setNew _ 2 _ hbt.1 hbt.2.1 hbt.2.2
          · exact (((hF0.trans (hF.trans k3)).setNew _ 0 (Nat.le_refl _) _).setNew _ 1 (Nat.le_refl _) _).setNew _ 2 (Nat.le_refl _) _
        · go_wp2_with fail
          go_roundw
          case rel =>
            have hG := HG.out
            refine ⟨m + 1, c', 2 * g + cc, sh + cc, hlt, by go_num, rfl, by go_num, by go_num, ?_, ?_, ?_, ?_, HS.out.trans (H2.out hhit), k2, hF.trans k3⟩
            · rw [fN, ← hG.1, ← HE.out]
            · rw [HE.out, hG.2.1]; rfl
            · rw [HC.out, Nat.pow_succ]; omega
            · rw [HP.out] at hhit; have := HC.out; omega
          case measure => simp [intOf]; omega
      · clear hHd hvb hval c0
        have H3 : Why tb w1 T a ((symT s (codesT L).cs ⟨pos, false⟩).2.bad = true) := k0.imp (fun k0 => by
          rw [HS.out, show 15 - m = (15 - (m + 1)) + 1 by omega, symL_end s _ _ _ _ rfl k0])
        clear k0
        have r0 := hblk (hF.trans k2) (Nat.le_refl _) (by omega)
        have r1 := hblk (hF.trans k2) (Nat.le_succ _) (by omega)
        have t0 : w1.cell? ⟨w.heap.size, 0, none⟩ = some (.int .u8 0) := by simpa using (cell_of r0 0).1
        have t1 : w1.cell? ⟨w.heap.size, 1, none⟩ = some (.int .i64 0) := by simpa using (cell_of r0 1).1
        have t2 : w1.cell? ⟨w.heap.size, 2, none⟩ = some (.int .u64 0) := by simpa using (cell_of r0 2).1
        have q0 : w1.cell? ⟨w.heap.size + 1, 0, none⟩ = some (.int .u8 0) := by simpa using (cell_of r1 0).1
        have q1 : w1.cell? ⟨w.heap.size + 1, 1, none⟩ = some (.int .i64 0) := by simpa using (cell_of r1 1).1
        have q2 : w1.cell? ⟨w.heap.size + 1, 2, none⟩ = some (.int .u64 0) := by simpa using (cell_of r1 2).1
        have f0 := (cell_of r0 0).2
        have f1 := (cell_of r0 1).2
        have f2 := (cell_of r0 2).2
        have hbt := hnt w.heap.size (Nat.le_refl _)
        have g0 : (w1.setCell ⟨w.heap.size, 0, none⟩ (.int .u8 0)).cell? ⟨w.heap.size, 0, none⟩ = some (.int .u8 0) := by simpa using (cell_of (set_of r0 0 (.int .u8 0)) 0).1
        have g1 : ((w1.setCell ⟨w.heap.size, 0, none⟩ (.int .u8 0)).setCell ⟨w.heap.size, 1, none⟩ (.int .i64 0)).cell? ⟨w.heap.size, 1, none⟩ = some (.int .i64 0) := by simpa using (cell_of (set_of (set_of r0 0 (.int .u8 0)) 1 (.int .i64 0)) 1).1
        have g2 : (((w1.setCell ⟨w.heap.size, 0, none⟩ (.int .u8 0)).setCell ⟨w.heap.size, 1, none⟩ (.int .i64 0)).setCell ⟨w.heap.size, 2, none⟩ (.int .u64 0)).cell? ⟨w.heap.size, 2, none⟩ = some (.int .u64 0) := by simpa using (cell_of (set_of (set_of (set_of r0 0 (.int .u8 0)) 1 (.int .i64 0)) 2 (.int .u64 0)) 2).1
        go_wp2_with fail
        refine bodyPost_ret (v := .tuple #[meanV (0, 0, 0), .iface T (.pointer (some a))]) (by simp [g0, g1, g2, results, Tryz.results198, go_sem, meanV]) rfl (.inr ⟨⟨T, a, rfl, ((H3.set r0 (by decide) 0 _).set (set_of r0 0 _) (by decide) 1 _).set (set_of (set_of r0 0 _) 1 _) (by decide) 2 _⟩, ?_, ?_⟩)
        · exact ((k1.setNew _ 0 _ hbt.1 hbt.2.1 hbt.2.2).setNew _ 1 _ hbt.1 hbt.2.1 hbt.2.2).setNew _ 2 _ hbt.1 hbt.2.1 hbt.2.2
        · exact (((hF0.trans (hF.trans k2)).setNew _ 0 (Nat.le_refl _) _).setNew _ 1 (Nat.le_refl _) _).setNew _ 2 (Nat.le_refl _) _
    · have H3 : Hid ((symT s (codesT L).cs ⟨pos, false⟩).2.bad = true) := (by
        rw [HS.out]
        exact symL_none s _ _ _ _ (fun q hq => findC_long L q (by rw [binT_length] at hq; omega)) : _ = _)
      have hRE : RdE wr tb rb s := hRr.rdE
      have r0 := hblk hF (Nat.le_refl _) (by omega)
      have r1 := hblk hF (Nat.le_succ _) (by omega)
      have t0 : wr.cell? ⟨w.heap.size, 0, none⟩ = some (.int .u8 0) := by simpa using (cell_of r0 0).1
      have t1 : wr.cell? ⟨w.heap.size, 1, none⟩ = some (.int .i64 0) := by simpa using (cell_of r0 1).1
      have t2 : wr.cell? ⟨w.heap.size, 2, none⟩ = some (.int .u64 0) := by simpa using (cell_of r0 2).1
      have q0 : wr.cell? ⟨w.heap.size + 1, 0, none⟩ = some (.int .u8 0) := by simpa using (cell_of r1 0).1
      have q1 : wr.cell? ⟨w.heap.size + 1, 1, none⟩ = some (.int .i64 0) := by simpa using (cell_of r1 1).1
      have q2 : wr.cell? ⟨w.heap.size + 1, 2, none⟩ = some (.int .u64 0) := by simpa using (cell_of r1 2).1
      have f0 := (cell_of r0 0).2
      have f1 := (cell_of r0 1).2
      have f2 := (cell_of r0 2).2
      have T0 : ∀ o : Obj, (wr.alloc o).cell? ⟨w.heap.size, 0, none⟩ = _ := fun o => Er.cell_alloc t0 o
      have T1 : ∀ o : Obj, (wr.alloc o).cell? ⟨w.heap.size, 1, none⟩ = _ := fun o => Er.cell_alloc t1 o
      have T2 : ∀ o : Obj, (wr.alloc o).cell? ⟨w.heap.size, 2, none⟩ = _ := fun o => Er.cell_alloc t2 o
      have Q0 : ∀ o : Obj, (wr.alloc o).cell? ⟨w.heap.size + 1, 0, none⟩ = _ := fun o => Er.cell_alloc q0 o
      have Q1 : ∀ o : Obj, (wr.alloc o).cell? ⟨w.heap.size + 1, 1, none⟩ = _ := fun o => Er.cell_alloc q1 o
      have Q2 : ∀ o : Obj, (wr.alloc o).cell? ⟨w.heap.size + 1, 2, none⟩ = _ := fun o => Er.cell_alloc q2 o
      have F0 : ∀ o : Obj, (wr.alloc o).frozen? ⟨w.heap.size, 0, none⟩ = false := fun o => Er.frozen_alloc t0 o f0
      have F1 : ∀ o : Obj, (wr.alloc o).frozen? ⟨w.heap.size, 1, none⟩ = false := fun o => Er.frozen_alloc t1 o f1
      have F2 : ∀ o : Obj, (wr.alloc o).frozen? ⟨w.heap.size, 2, none⟩ = false := fun o => Er.frozen_alloc t2 o f2
      have hbt := hnt w.heap.size (Nat.le_refl _)
      have R0 : ∀ o : Obj, (wr.alloc o).heap[w.heap.size]? = some (.cells #[.int .u8 0, .int .i64 0, .int .u64 0] 314 (0, 0)) := fun o => (Below.heap_alloc wr o _ (lt_of_some r0)).trans r0
      have G0 : ∀ o : Obj, ((wr.alloc o).setCell ⟨w.heap.size, 0, none⟩ (.int .u8 0)).cell? ⟨w.heap.size, 0, none⟩ = some (.int .u8 0) := fun o => by simpa using (cell_of (set_of (R0 o) 0 (.int .u8 0)) 0).1
      have G1 : ∀ o : Obj, (((wr.alloc o).setCell ⟨w.heap.size, 0, none⟩ (.int .u8 0)).setCell ⟨w.heap.size, 1, none⟩ (.int .i64 0)).cell? ⟨w.heap.size, 1, none⟩ = some (.int .i64 0) := fun o => by simpa using (cell_of (set_of (set_of (R0 o) 0 (.int .u8 0)) 1 (.int .i64 0)) 1).1
      have G2 : ∀ o : Obj, ((((wr.alloc o).setCell ⟨w.heap.size, 0, none⟩ (.int .u8 0)).setCell ⟨w.heap.size, 1, none⟩ (.int .i64 0)).setCell ⟨w.heap.size, 2, none⟩ (.int .u64 0)).cell? ⟨w.heap.size, 2, none⟩ = some (.int .u64 0) := fun o => by simpa using (cell_of (set_of (set_of (set_of (R0 o) 0 (.int .u8 0)) 1 (.int .i64 0)) 2 (.int .u64 0)) 2).1
      clear r0 r1 hHd hvb hval R0
      go_wp2_with fail
      go_region_with ((go_at_call 137; refine (mal_any _ _).mono ?_; rintro e w3 ⟨rfl, rfl⟩))
      all_goals go_wp2_with fail
      all_goals
        refine bodyPost_ret (v := .tuple #[meanV (0, 0, 0), .iface 142 (.pointer (some ⟨wr.heap.size, 0, none⟩))]) (by simp [G0, G1, G2, results, Tryz.results198, go_sem, meanV]) rfl (.inr ⟨⟨_, _, rfl, Why.mal H3.out⟩, ?_, ?_⟩)
        · exact ((((hRE.alloc _).setNew _ 0 _ hbt.1 hbt.2.1 hbt.2.2).setNew _ 1 _ hbt.1 hbt.2.1 hbt.2.2).setNew _ 2 _ hbt.1 hbt.2.1 hbt.2.2).drew
        · exact (((((hF0.trans hF).alloc _).setNew _ 0 (Nat.le_refl _) _).setNew _ 1 (Nat.le_refl _) _).setNew _ 2 (Nat.le_refl _) _).drew
end Go.Proofs.YtephkcdbnogdhaaGreatDoor.Pr
/- What symbols stand for: the walks of literalMeaning and distanceMeaning. -/
namespace Go.Proofs.YtephkcdbnogdhaaGreatDoor.Pr
open Go.RowKit Rf
def litM (y : Nat) : Nat × Nat × Nat := if y < 256 then (1, y, 0) else if y = 256 then (2, 0, 0) else if y < 265 then (3, y - 254, 0) else if y < 285 then (3, (4 + (y - 265) % 4) * 2 ^ ((y - 265) / 4 + 1) + 3, (y - 265) / 4 + 1) else if y = 285 then (3, 258, 0) else (0, 0, 0)
def distM (y : Nat) : Nat × Nat × Nat := if y < 4 then (4, y + 1, 0) else if y < 30 then (4, (2 + y % 2) * 2 ^ ((y - 2) / 2) + 1, (y - 2) / 2) else (0, 0, 0)
/-- the block of a meaning -/
def meanO (m : Nat × Nat × Nat) : Obj := .cells #[.int .u8 (m.1 : Int), .int .i64 (m.2.1 : Int), .int .u64 (m.2.2 : Int)] 314
theorem wrap_up (a k n c : Nat) (ha : a ≤ 8) (hk : k ≤ 14) (hc : c ≤ 3) (A : Int) (hA : A = (a : Int)) (h : n = a * 2 ^ k + c) : wrap64 (wrap64 (A * 2 ^ k) + (c : Int)) = (n : Int) := by
  have hp : 2 ^ k ≤ 2 ^ 14 := Nat.pow_le_pow_right (by omega) hk
  have h1 : a * 2 ^ k ≤ 8 * 2 ^ 14 := Nat.mul_le_mul ha hp
  have e : A * 2 ^ k = ((a * 2 ^ k : Nat) : Int) := by rw [hA]; simp
  rw [e, h]
  generalize a * 2 ^ k = z at *
  simp only [wrap64]
  omega
set_option maxRecDepth 10000 in
set_option maxHeartbeats 2000000 in
theorem litM_any (y : Nat) (w : World) (hy : y ≤ 400) :
    Calls Tryz.prog 223 #[.int .i64 (y : Int)] w fun e w' => e = .returned (meanV (litM y)) ∧ w' = w.alloc (meanO (litM y)) := by
  by_cases h1 : y < 256
  · have d1 : decide ((y : Int) < 256) = true := decide_eq_true (by omega)
    have HM : Hid (litM y = (1, y, 0)) := (by unfold litM; rw [if_pos h1] : _ = _)
    go_enter Tryz.func223, Tryz.ntmps223
    go_wp2
    rw [HM.out]
    exact bodyPost_ret (v := meanV (1, y, 0)) (by simp [results, Tryz.results223, go_sem, meanV]) rfl ⟨rfl, rfl⟩
  · have d1 : decide ((y : Int) < 256) = false := decide_eq_false (by omega)
    by_cases h2 : y = 256
    · have d2 : ((y : Int) == 256) = true := by simp; omega
      have HM : Hid (litM y = (2, 0, 0)) := (by unfold litM; rw [if_neg h1, if_pos h2] : _ = _)
      go_enter Tryz.func223, Tryz.ntmps223
      go_wp2
      rw [HM.out]
      exact bodyPost_ret (v := meanV (2, 0, 0)) (by simp [results, Tryz.results223, go_sem, meanV]) rfl ⟨rfl, rfl⟩
    · have d2 : ((y : Int) == 256) = false := by simp; omega
      by_cases h3 : y < 265
      · have d3 : decide ((y : Int) < 265) = true := decide_eq_true (by omega)
        have e1 : (y : Int) - 254 = ((y - 254 : Nat) : Int) := by omega
        have HM : Hid (litM y = (3, y - 254, 0)) := (by unfold litM; rw [if_neg h1, if_neg h2, if_pos h3] : _ = _)
        go_enter Tryz.func223, Tryz.ntmps223
        go_wp2
        rw [HM.out]
        exact bodyPost_ret (v := meanV (3, y - 254, 0)) (by simp [results, Tryz.results223, go_sem, meanV]) rfl ⟨rfl, rfl⟩
      · have d3 : decide ((y : Int) < 265) = false := decide_eq_false (by omega)
        by_cases h4 : y < 285
        · have d4 : decide ((y : Int) < 285) = true := decide_eq_true (by omega)
          have HU : Hid (wrap64 (wrap64 ((4 + ((y : Int) - 265) % 4) * 2 ^ ((y - 265) / 4 + 1)) + 3) = (((4 + (y - 265) % 4) * 2 ^ ((y - 265) / 4 + 1) + 3 : Nat) : Int)) := wrap_up (4 + (y - 265) % 4) _ _ 3 (by omega) (by omega) (by omega) _ (by omega) rfl
          have HV : Hid (((y : Int) - 265) / 4 + 1 = (((y - 265) / 4 + 1 : Nat) : Int)) := (by omega : _ = _)
          have HM : Hid (litM y = (3, (4 + (y - 265) % 4) * 2 ^ ((y - 265) / 4 + 1) + 3, (y - 265) / 4 + 1)) := (by unfold litM; rw [if_neg h1, if_neg h2, if_neg h3, if_pos h4] : _ = _)
          go_enter Tryz.func223, Tryz.ntmps223
          go_wp2
          rw [HM.out]
          have hu := HU.out
          have hv := HV.out
          rw [hu, hv]
          exact bodyPost_ret (v := meanV (3, (4 + (y - 265) % 4) * 2 ^ ((y - 265) / 4 + 1) + 3, (y - 265) / 4 + 1)) (by simp [results, Tryz.results223, go_sem, meanV]) rfl ⟨rfl, rfl⟩
        · have d4 : decide ((y : Int) < 285) = false := decide_eq_false (by omega)
          by_cases h5 : y = 285
          · have d5 : ((y : Int) == 285) = true := by simp; omega
            have HM : Hid (litM y = (3, 258, 0)) := (by unfold litM; rw [if_neg h1, if_neg h2, if_neg h3, if_neg h4, if_pos h5] : _ = _)
            go_enter Tryz.func223, Tryz.ntmps223
            go_wp2
            rw [HM.out]
            exact bodyPost_ret (v := meanV (3, 258, 0)) (by simp [results, Tryz.results223, go_sem, meanV]) rfl ⟨rfl, rfl⟩
          · have d5 : ((y : Int) == 285) = false := by simp; omega
            have HM : Hid (litM y = (0, 0, 0)) := (by unfold litM; rw [if_neg h1, if_neg h2, if_neg h3, if_neg h4, if_neg h5] : _ = _)
            go_enter Tryz.func223, Tryz.ntmps223
            go_wp2
            rw [HM.out]
            exact bodyPost_ret (v := meanV (0, 0, 0)) (by simp [results, Tryz.results223, go_sem, meanV]) rfl ⟨rfl, rfl⟩
set_option maxRecDepth 10000 in
set_option maxHeartbeats 2000000 in
theorem distM_any (y : Nat) (w : World) (hy : y ≤ 400) :
    Calls Tryz.prog 224 #[.int .i64 (y : Int)] w fun e w' => e = .returned (meanV (distM y)) ∧ w' = w.alloc (meanO (distM y)) := by
  by_cases h1 : y < 4
  · have d1 : decide ((y : Int) < 4) = true := decide_eq_true (by omega)
    have HM : Hid (distM y = (4, y + 1, 0)) := (by unfold distM; rw [if_pos h1] : _ = _)
    go_enter Tryz.func224, Tryz.ntmps224
    go_wp2
    rw [HM.out]
    exact bodyPost_ret (v := meanV (4, y + 1, 0)) (by simp [results, Tryz.results224, go_sem, meanV]) rfl ⟨rfl, rfl⟩
  · have d1 : decide ((y : Int) < 4) = false := decide_eq_false (by omega)
    by_cases h2 : y < 30
    · have d2 : decide ((y : Int) < 30) = true := decide_eq_true (by omega)
      have HU : Hid (wrap64 (wrap64 ((2 + (y : Int) % 2) * 2 ^ ((y - 2) / 2)) + 1) = (((2 + y % 2) * 2 ^ ((y - 2) / 2) + 1 : Nat) : Int)) := wrap_up (2 + y % 2) _ _ 1 (by omega) (by omega) (by omega) _ (by omega) rfl
      have HV : Hid (((y : Int) - 2) / 2 = (((y - 2) / 2 : Nat) : Int)) := (by omega : _ = _)
      have HM : Hid (distM y = (4, (2 + y % 2) * 2 ^ ((y - 2) / 2) + 1, (y - 2) / 2)) := (by unfold distM; rw [if_neg h1, if_pos h2] : _ = _)
      go_enter Tryz.func224, Tryz.ntmps224
      go_wp2
      rw [HM.out]
      have hu := HU.out
      have hv := HV.out
      rw [hu, hv]
      exact bodyPost_ret (v := meanV (4, (2 + y % 2) * 2 ^ ((y - 2) / 2) + 1, (y - 2) / 2)) (by simp [results, Tryz.results224, go_sem, meanV]) rfl ⟨rfl, rfl⟩
    · have d2 : decide ((y : Int) < 30) = false := decide_eq_false (by omega)
      have HM : Hid (distM y = (0, 0, 0)) := (by unfold distM; rw [if_neg h1, if_neg h2] : _ = _)
      go_enter Tryz.func224, Tryz.ntmps224
      go_wp2
      rw [HM.out]
      exact bodyPost_ret (v := meanV (0, 0, 0)) (by simp [results, Tryz.results224, go_sem, meanV]) rfl ⟨rfl, rfl⟩
/-- both say the same of lengths and distances -/
theorem litM_len (y : Nat) (h1 : 257 ≤ y) (h2 : y ≤ 285) : litM y = (3, lenT y) := by
  have h : ∀ k : Fin 29, litM (257 + k.val) = (3, lenT (257 + k.val)) := by decide +kernel
  have := h ⟨y - 257, by omega⟩
  rwa [show 257 + (y - 257) = y by omega] at this
theorem distM_dist (y : Nat) (h : y ≤ 29) : distM y = (4, distT y) := by
  have h' : ∀ k : Fin 30, distM k.val = (4, distT k.val) := by decide +kernel
  exact h' ⟨y, by omega⟩
end Go.Proofs.YtephkcdbnogdhaaGreatDoor.Pr
/- What lies in memory while a table is made; the places of its values. -/
namespace Go.Proofs.YtephkcdbnogdhaaGreatDoor.Pr
open Go.RowKit Rf
def upd (f : Nat → Nat) (n x : Nat) : Nat → Nat := fun m => if m = n then x else f m
/-- a table in block k: the longest code, the counts, the row of values -/
def Tbl (w : World) (k : Nat) (T : TypeId) (lg : Nat) (f : Nat → Nat) (v : Value) : Prop := ∃ cur, w.heap[k]? = some (.cells cur T (0, 0)) ∧ cur.size = 18 ∧ cur[0]? = some (.int .i64 (lg : Int)) ∧ (∀ n, n ≤ 15 → cur[1 + n]? = some (.int .i64 ((f n : Nat) : Int))) ∧ cur[17]? = some v
theorem Tbl.lt {w : World} {k : Nat} {T : TypeId} {lg : Nat} {f : Nat → Nat} {v : Value} (h : Tbl w k T lg f v) : k < w.heap.size := by
  obtain ⟨cur, h1, _⟩ := h; exact lt_of_some h1
theorem Tbl.c0 {w : World} {k : Nat} {T : TypeId} {lg : Nat} {f : Nat → Nat} {v : Value} (h : Tbl w k T lg f v) : w.cell? ⟨k, 0, none⟩ = some (.int .i64 (lg : Int)) := by
  obtain ⟨cur, h1, h2, h3, h4, h5⟩ := h; rw [(cell_of h1 0).1, h3]
theorem Tbl.cn {w : World} {k : Nat} {T : TypeId} {lg : Nat} {f : Nat → Nat} {v : Value} (h : Tbl w k T lg f v) (n : Nat) (hn : n ≤ 15) : w.cell? ⟨k, 1 + n, none⟩ = some (.int .i64 ((f n : Nat) : Int)) := by
  obtain ⟨cur, h1, h2, h3, h4, h5⟩ := h; rw [(cell_of h1 _).1, h4 n hn]
theorem Tbl.c17 {w : World} {k : Nat} {T : TypeId} {lg : Nat} {f : Nat → Nat} {v : Value} (h : Tbl w k T lg f v) : w.cell? ⟨k, 17, none⟩ = some v := by
  obtain ⟨cur, h1, h2, h3, h4, h5⟩ := h; rw [(cell_of h1 _).1, h5]
theorem Tbl.fr {w : World} {k : Nat} {T : TypeId} {lg : Nat} {f : Nat → Nat} {v : Value} (h : Tbl w k T lg f v) (o : Nat) : w.frozen? ⟨k, o, none⟩ = false := by
  obtain ⟨cur, h1, _⟩ := h; exact (cell_of h1 o).2
theorem Tbl.over {w w' : World} {k : Nat} {T : TypeId} {lg : Nat} {f : Nat → Nat} {v : Value} (h : Tbl w k T lg f v) (e : w'.heap[k]? = w.heap[k]?) : Tbl w' k T lg f v := by
  obtain ⟨cur, h1, h2⟩ := h; exact ⟨cur, e.trans h1, h2⟩
theorem Tbl.setN {w : World} {k : Nat} {T : TypeId} {lg : Nat} {f : Nat → Nat} {v : Value} (h : Tbl w k T lg f v) (n x : Nat) (hn : n ≤ 15) (X : Int) (hX : X = (x : Int)) : Tbl (w.setCell ⟨k, 1 + n, none⟩ (.int .i64 X)) k T lg (upd f n x) v := by
  obtain ⟨cur, h1, h2, h3, h4, h5⟩ := h
  subst hX
  refine ⟨_, set_of h1 _ _, by simpa using h2, ?_, ?_, ?_⟩
  · rw [Array.getElem?_setIfInBounds_ne (by omega)]; exact h3
  · intro m hm
    by_cases e : m = n
    · subst e; rw [Array.getElem?_setIfInBounds_self_of_lt (by omega)]; simp [upd]
    · rw [Array.getElem?_setIfInBounds_ne (by omega), h4 m hm]; simp [upd, e]
  · rw [Array.getElem?_setIfInBounds_ne (by omega)]; exact h5
theorem Tbl.setL {w : World} {k : Nat} {T : TypeId} {lg : Nat} {f : Nat → Nat} {v : Value} (h : Tbl w k T lg f v) (x : Nat) (X : Int) (hX : X = (x : Int)) : Tbl (w.setCell ⟨k, 0, none⟩ (.int .i64 X)) k T x f v := by
  obtain ⟨cur, h1, h2, h3, h4, h5⟩ := h
  subst hX
  refine ⟨_, set_of h1 _ _, by simpa using h2, ?_, ?_, ?_⟩
  · rw [Array.getElem?_setIfInBounds_self_of_lt (by omega)]
  · intro m hm; rw [Array.getElem?_setIfInBounds_ne (by omega), h4 m hm]
  · rw [Array.getElem?_setIfInBounds_ne (by omega)]; exact h5
theorem Tbl.setV {w : World} {k : Nat} {T : TypeId} {lg : Nat} {f : Nat → Nat} {v : Value} (h : Tbl w k T lg f v) (x : Value) : Tbl (w.setCell ⟨k, 17, none⟩ x) k T lg f x := by
  obtain ⟨cur, h1, h2, h3, h4, h5⟩ := h
  refine ⟨_, set_of h1 _ _, by simpa using h2, ?_, ?_, ?_⟩
  · rw [Array.getElem?_setIfInBounds_ne (by omega)]; exact h3
  · intro m hm; rw [Array.getElem?_setIfInBounds_ne (by omega), h4 m hm]
  · rw [Array.getElem?_setIfInBounds_self_of_lt (by omega)]
theorem Tbl.hd {w : World} {k vb : Nat} {T : TypeId} {L : List Nat} (h : Tbl w k T (longest L) (cN L) (.slice (some ⟨vb, 0, none⟩) (sN L 16) (sN L 16))) : TabHd w k vb T L := by
  obtain ⟨cur, h1, h2, h3, h4, h5⟩ := h; exact ⟨cur, h1, h3, h4, h5⟩
/-- an array of sixteen numbers in block k -/
def Arr (w : World) (k : Nat) (T : TypeId) (f : Nat → Nat) : Prop := ∃ cur, w.heap[k]? = some (.cells cur T (0, 0)) ∧ cur.size = 16 ∧ ∀ n, n ≤ 15 → cur[n]? = some (.int .i64 ((f n : Nat) : Int))
theorem Arr.lt {w : World} {k : Nat} {T : TypeId} {f : Nat → Nat} (h : Arr w k T f) : k < w.heap.size := by
  obtain ⟨cur, h1, _⟩ := h; exact lt_of_some h1
theorem Arr.cn {w : World} {k : Nat} {T : TypeId} {f : Nat → Nat} (h : Arr w k T f) (n : Nat) (hn : n ≤ 15) : w.cell? ⟨k, n, none⟩ = some (.int .i64 ((f n : Nat) : Int)) := by
  obtain ⟨cur, h1, h2, h3⟩ := h; rw [(cell_of h1 _).1, h3 n hn]
theorem Arr.fr {w : World} {k : Nat} {T : TypeId} {f : Nat → Nat} (h : Arr w k T f) (o : Nat) : w.frozen? ⟨k, o, none⟩ = false := by
  obtain ⟨cur, h1, _⟩ := h; exact (cell_of h1 o).2
theorem Arr.over {w w' : World} {k : Nat} {T : TypeId} {f : Nat → Nat} (h : Arr w k T f) (e : w'.heap[k]? = w.heap[k]?) : Arr w' k T f := by
  obtain ⟨cur, h1, h2⟩ := h; exact ⟨cur, e.trans h1, h2⟩
theorem Arr.set {w : World} {k : Nat} {T : TypeId} {f : Nat → Nat} (h : Arr w k T f) (n x : Nat) (hn : n ≤ 15) (X : Int) (hX : X = (x : Int)) : Arr (w.setCell ⟨k, n, none⟩ (.int .i64 X)) k T (upd f n x) := by
  obtain ⟨cur, h1, h2, h3⟩ := h
  subst hX
  refine ⟨_, set_of h1 _ _, by simpa using h2, ?_⟩
  intro m hm
  by_cases e : m = n
  · subst e; rw [Array.getElem?_setIfInBounds_self_of_lt (by omega)]; simp [upd]
  · rw [Array.getElem?_setIfInBounds_ne (by omega), h3 m hm]; simp [upd, e]
theorem Arr.congr {w : World} {k : Nat} {T : TypeId} {f g : Nat → Nat} (h : Arr w k T f) (e : ∀ n, n ≤ 15 → f n = g n) : Arr w k T g := by
  obtain ⟨cur, h1, h2, h3⟩ := h
  exact ⟨cur, h1, h2, fun n hn => by rw [h3 n hn, e n hn]⟩
theorem Tbl.congr {w : World} {k : Nat} {T : TypeId} {lg : Nat} {f g : Nat → Nat} {v : Value} (h : Tbl w k T lg f v) (e : ∀ n, n ≤ 15 → f n = g n) : Tbl w k T lg g v := by
  obtain ⟨cur, h1, h2, h3, h4, h5⟩ := h
  exact ⟨cur, h1, h2, h3, fun n hn => by rw [h4 n hn, e n hn], h5⟩
theorem cN_snoc (L : List Nat) (x n : Nat) : cN (L ++ [x]) n = cN L n + if x = n ∧ n ≠ 0 then 1 else 0 := by
  unfold cN
  by_cases h : n = 0
  · simp [h]
  · rw [if_neg h, if_neg h, List.count_append, List.count_singleton]
    by_cases e : x = n
    · simp [e, h]
    · simp [e]
theorem cN_zero (L : List Nat) : cN L 0 = 0 := by simp [cN]
/-- one length more that is counted -/
theorem cN_upd (L : List Nat) (x : Nat) (hx : 0 < x) (n : Nat) : upd (cN L) x (cN L x + 1) n = cN (L ++ [x]) n := by
  rw [cN_snoc]
  unfold upd
  by_cases e : n = x
  · subst e; rw [if_pos rfl, if_pos ⟨rfl, by omega⟩]
  · rw [if_neg e, if_neg (fun h => e h.1.symm), Nat.add_zero]
theorem cN_none (L : List Nat) (x : Nat) (hx : ¬ 0 < x) (n : Nat) : cN L n = cN (L ++ [x]) n := by
  rw [cN_snoc, if_neg (by omega), Nat.add_zero]
theorem longest_none (L : List Nat) (x : Nat) (hx : ¬ 0 < x) : longest (L ++ [x]) = longest L := by
  rw [longest_snoc]; omega
/-- how many of the first i symbols have length n -/
def rk (L : List Nat) (n i : Nat) : Nat := (symsTo L n i).length
theorem symsTo_pre (L : List Nat) (n : Nat) : ∀ i j, i ≤ j → ∃ t, symsTo L n j = symsTo L n i ++ t := by
  intro i j h
  induction j with
  | zero => exact ⟨[], by rw [show i = 0 by omega]; simp⟩
  | succ j ih =>
    by_cases e : i = j + 1
    · subst e; exact ⟨[], by simp⟩
    · obtain ⟨t, ht⟩ := ih (by omega)
      rw [symsTo_succ]
      split
      · exact ⟨t ++ [j], by rw [ht, List.append_assoc]⟩
      · exact ⟨t, ht⟩
theorem rk_le (L : List Nat) (n i : Nat) (hi : i ≤ L.length) (hn : n ≠ 0) : rk L n i ≤ cN L n := by
  obtain ⟨t, ht⟩ := symsTo_pre L n i L.length hi
  have h := symsAt_len L n
  unfold symsAt at h
  rw [if_neg hn, ht, List.length_append] at h
  unfold rk; omega
theorem rk_lt (L : List Nat) (i : Nat) (hi : i < L.length) (hn : L.getD i 0 ≠ 0) : rk L (L.getD i 0) i < cN L (L.getD i 0) := by
  have h := rk_le L (L.getD i 0) (i + 1) (by omega) hn
  unfold rk at *
  rw [symsTo_succ, if_pos rfl, List.length_append, List.length_singleton] at h
  omega
theorem rk_succ (L : List Nat) (n i : Nat) : rk L n (i + 1) = rk L n i + if L.getD i 0 = n then 1 else 0 := by
  unfold rk; rw [symsTo_succ]; split <;> simp
/-- two places are one only if lengths and ranks are -/
theorem place_ne (L : List Nat) (n r m q : Nat) (hr : r < cN L n) (hq : q < cN L m) (h : ¬ (n = m ∧ r = q)) : sN L n + r ≠ sN L m + q := by
  rcases Nat.lt_trichotomy n m with h1 | h1 | h1
  · have := sN_mono L (n + 1) m (by omega); rw [sN] at this; omega
  · subst h1; intro e; exact h ⟨rfl, by omega⟩
  · have := sN_mono L (m + 1) n (by omega); rw [sN] at this; omega
theorem place_lt (L : List Nat) (n r : Nat) (hn : n ≤ 15) (hr : r < cN L n) : sN L n + r < sN L 16 := by
  have := sN_mono L (n + 1) 16 (by omega); rw [sN] at this; omega
/-- every place is the one of a length and a rank -/
theorem place_of (L : List Nat) (m : Nat) : ∀ j, j < sN L m → ∃ n r, n < m ∧ r < cN L n ∧ j = sN L n + r := by
  induction m with
  | zero => intro j h; simp [sN] at h
  | succ m ih =>
    intro j h
    rw [sN] at h
    by_cases h1 : j < sN L m
    · obtain ⟨n, r, a, b, c⟩ := ih j h1
      exact ⟨n, r, by omega, b, c⟩
    · exact ⟨m, j - sN L m, by omega, by omega, by omega⟩
/-- what the row of values holds behind i symbols: at each place the symbol that belongs there -/
def Placed (L : List Nat) (i : Nat) (g : Nat → Option Nat) : Prop := ∀ n r, 1 ≤ n → n ≤ 15 → r < rk L n i → g (sN L n + r) = some ((symsTo L n i).getD r 0)
theorem Placed.begin (L : List Nat) (g : Nat → Option Nat) : Placed L 0 g := by
  intro n r _ _ h; simp [rk, symsTo] at h
theorem Placed.none {L : List Nat} {i : Nat} {g : Nat → Option Nat} (h : Placed L i g) (hx : L.getD i 0 = 0) : Placed L (i + 1) g := by
  intro n r h1 h2 h3
  have e : symsTo L n (i + 1) = symsTo L n i := by rw [symsTo_succ, if_neg (by omega)]
  rw [e]
  refine h n r h1 h2 ?_
  unfold rk at h3 ⊢; rwa [e] at h3
theorem Placed.more {L : List Nat} {i : Nat} {g : Nat → Option Nat} (h : Placed L i g) (hi : i < L.length) (hx : L.getD i 0 ≠ 0) : Placed L (i + 1) (fun j => if j = sN L (L.getD i 0) + rk L (L.getD i 0) i then some i else g j) := by
  intro n r h1 h2 h3
  dsimp only
  have hc := rk_le L n (i + 1) (by omega) (by omega)
  by_cases e : L.getD i 0 = n
  · rw [symsTo_succ, if_pos e]
    by_cases e2 : r = rk L n i
    · rw [e, if_pos (by rw [e2])]
      rw [e2, List.getD_eq_getElem?_getD]
      unfold rk
      simp
    · rw [rk_succ, if_pos e] at h3
      rw [e, if_neg (by omega)]
      have h4 := h n r h1 h2 (by omega)
      rw [h4, List.getD_eq_getElem?_getD, List.getD_eq_getElem?_getD, List.getElem?_append_left (by unfold rk at h3 e2; omega)]
  · rw [symsTo_succ, if_neg e]
    rw [rk_succ, if_neg e] at h3
    rw [if_neg (place_ne L n r _ _ (by rw [rk_succ, if_neg e] at hc; omega) (rk_lt L i hi hx) (fun h => e h.1.symm))]
    exact h n r h1 h2 (by omega)
theorem Placed.all {L : List Nat} {g : Nat → Option Nat} (h : Placed L L.length g) (j : Nat) (hj : j < sN L 16) : g j = some ((ordN L 16).getD j 0) := by
  obtain ⟨n, r, h1, h2, rfl⟩ := place_of L 16 j hj
  have hn : n ≠ 0 := by
    rintro rfl; rw [cN_zero] at h2; omega
  have hl := symsAt_len L n
  have e : symsAt L n = symsTo L n L.length := by unfold symsAt; rw [if_neg hn]
  rw [ordN_at L 16 n r h1 h2, e]
  exact h n r (by omega) (by omega) (by unfold rk; rw [← e]; omega)
end Go.Proofs.YtephkcdbnogdhaaGreatDoor.Pr
