/- The walk of vellumkeep.Sums: true at all texts and numbers. -/
import Derived.Test.YtephkcdbnogdhaaDoorCrcWalks
import Derived.Test.YtephkcdbnogdhaaDoorAdWalks
import Derived.Test.YtephkcdbnogdhaaDoorSumsMath
import Derived.Laws.BytesArg
import Derived.Laws.MakeOwn
import Derived.Laws.OwnMore
import Derived.Laws.IdiomStrings
import Derived.OwnWalk
import Derived.BigQuiet
import Derived.Deep.QuietTactic
import Derived.Deep.RegionWith
import Derived.Deep.DeepCutAuto
namespace Go.Proofs.YtephkcdbnogdhaaDoor.SuW
open Go.RowKit Su
/-- the sums' contracts, in this law's words -/
theorem crcC (s : ByteArray) (w : World) (hs : s.size ≤ maxLen) (hT : Tab w) :
    Calls Tryd.prog 5 #[.string s] w fun e w' => e = .returned (.int .u32 ((C s.data.toList : Nat) : Int)) ∧ w' = w := crc_any s w hs hT
theorem adA (s : ByteArray) (w : World) (hs : s.size ≤ maxLen) :
    Calls Tryd.prog 7 #[.string s] w fun e w' => e = .returned (.int .u32 ((A s.data.toList : Nat) : Int)) ∧ w' = w := AdW.adler_any s w hs
/-- which of n things a number speaks of -/
def pk (c n : Int) : Int := if c < 0 then (-(c + 1)) % n else c % n
theorem pk_bd (c n : Int) (h : 0 < n) : 0 ≤ pk c n ∧ pk c n < n := by
  unfold pk; split
  · exact ⟨Int.emod_nonneg _ (by omega), Int.emod_lt_of_pos _ h⟩
  · exact ⟨Int.emod_nonneg _ (by omega), Int.emod_lt_of_pos _ h⟩
set_option maxHeartbeats 400000 in
theorem pick_any (c n : Int) (w : World) (h0 : -9223372036854775808 ≤ c) (h1 : c ≤ 9223372036854775807) (hn0 : 0 < n) (hn1 : n ≤ 9223372036854775807) :
    Calls Tryd.prog 8 #[.int .i64 c, .int .i64 n] w fun e w' => e = .returned (.int .i64 (pk c n)) ∧ w' = w := by
  by_cases hc : c < 0
  · go_enter Tryd.func8, Tryd.ntmps8
    go_wp2
    go_ret
    refine ⟨ret_int ?_, rfl⟩
    unfold pk
    rw [if_pos hc, ← Int.neg_tmod, Int.tmod_eq_emod_of_nonneg (by omega)]
  · go_enter Tryd.func8, Tryd.ntmps8
    go_wp2
    go_ret
    refine ⟨ret_int ?_, rfl⟩
    unfold pk
    rw [if_neg (by omega)]
theorem info5 : (Tryd.prog.info? 5).map (fun i => (i.zero, i.size, i.bytes)) = some (some (.int .u8 0), 1, 1) := by kernel_rfl
/-- the cells of a block hold these bytes -/
def Bytes (w : World) (b : Nat) (l : List UInt8) : Prop := ∀ i, i < l.length → w.cell? ⟨b, i, none⟩ = some (.int .u8 (((l.getD i 0).toNat : Nat) : Int))
theorem conv (w : World) (b cap : Nat) (l : List UInt8) (h : Bytes w b l) : (convert 25 9 (.slice (some ⟨b, 0, none⟩) l.length cap)).run Tryd.prog w = .ok (.string ⟨l.toArray⟩) w := by
  have h1 := run_convert_bytes_arg (P := Tryd.prog) w 25 5 Tryd.underlying25 Tryd.underlying5 b 0 l.length cap (l.map fun x => ((x.toNat : Nat) : Int)) (by simp) (fun i hi => by
    rw [Nat.zero_add, h i hi]; simp [List.getD, List.getElem?_eq_getElem hi]) 9 Tryd.underlying9
  rw [h1]
  have : strOfNums (l.map fun x => ((x.toNat : Nat) : Int)) = ⟨l.toArray⟩ := by
    unfold strOfNums; simp [List.map_map, Function.comp_def]
  rw [this]
theorem conv' (w : World) (b n cap : Nat) (l : List UInt8) (hl : l.length = n) (h : Bytes w b l) : (convert 25 9 (.slice (some ⟨b, 0, none⟩) n cap)).run Tryd.prog w = .ok (.string ⟨l.toArray⟩) w := by
  subst hl; exact conv w b cap l h
/-- the first k bytes are laid, the others are 0 -/
def Part (w : World) (b : Nat) (l : List UInt8) (k : Nat) : Prop := ∀ i, i < l.length → w.cell? ⟨b, i, none⟩ = some (.int .u8 ((if i < k then (l.getD i 0).toNat else 0 : Nat) : Int))
theorem part_all {w : World} {b : Nat} {l : List UInt8} {k : Nat} (h : Part w b l k) (hk : l.length ≤ k) : Bytes w b l := fun i hi => by
  have := h i hi
  rwa [if_pos (by omega)] at this
theorem made_at (w : World) (n i : Nat) (hi : i < n) : (w.alloc (.cells (madeCells #[.int .u8 0] n) 5)).cell? ⟨w.heap.size, i, none⟩ = some (.int .u8 0) := by
  rw [World.cell?_alloc_new, ← Array.getElem?_toList, toList_madeCells_one]
  simp [hi]
theorem part_made (w : World) (n : Nat) (l : List UInt8) (hl : l.length = n) : Part (w.alloc (.cells (madeCells #[.int .u8 0] n) 5)) w.heap.size l 0 := fun i hi => by
  rw [made_at w n i (by omega), if_neg (by omega)]; rfl
theorem bytes_made (w : World) (n : Nat) : Bytes (w.alloc (.cells (madeCells #[.int .u8 0] n) 5)) w.heap.size (List.replicate n 0) := fun i hi => by
  rw [made_at w n i (by simpa using hi)]
  simp only [List.length_replicate] at hi
  simp [List.getD, hi]
theorem part_set {w : World} {b : Nat} {l : List UInt8} {k : Nat} (h : Part w b l k) (hk : k < l.length) (v : Int) (hv : v = ((l[k].toNat : Nat) : Int)) : Part (w.setCell ⟨b, k, none⟩ (.int .u8 v)) b l (k + 1) := fun i hi => by
  by_cases e : i = k
  · subst e
    rw [World.cell?_setCell_same _ _ _ (h i hi), if_pos (by omega), hv]
    simp [List.getD, List.getElem?_eq_getElem hk]
  · rw [World.cell?_setCell_other _ _ _ _ (by intro x; injection x; omega), h i hi]
    by_cases c : i < k
    · rw [if_pos c, if_pos (by omega)]
    · rw [if_neg c, if_neg (by omega)]
theorem below_drewN {B : Nat} {w w' : World} (h : Below B w w') {n : Nat} : Below B w (w'.drewN n) := ⟨h.os, h.tape, h.output, h.size, h.block⟩
theorem pick_byte (c n : Int) (h0 : -9223372036854775808 ≤ c) (h1 : c ≤ 9223372036854775807) (hn0 : 0 < n) (hn1 : n ≤ 256) :
    ∃ X : UInt8, ∀ w : World, Calls Tryd.prog 8 #[.int .i64 c, .int .i64 n] w fun e w' => e = .returned (.int .i64 ((X.toNat : Nat) : Int)) ∧ w' = w := by
  have hb := pk_bd c n hn0
  refine ⟨UInt8.ofNat (pk c n).toNat, fun w => ?_⟩
  have e : (((UInt8.ofNat (pk c n).toNat).toNat : Nat) : Int) = pk c n := by
    rw [UInt8.toNat_ofNat']; omega
  rw [e]
  exact pick_any c n w h0 h1 hn0 (by omega)
theorem tab_below {B : Nat} {w w' : World} (hb : Below B w w') (h0 : 0 < B) (h : Tab w) : Tab w' := fun i hi => (hb.cell (p := ⟨0, i, none⟩) h0).trans (h i hi)
theorem tab_drew {w : World} (h : Tab w) (k : Nat) : Tab (w.drewN k) := fun i hi => h i hi
theorem bytes_drew {w : World} {b : Nat} {l : List UInt8} (h : Bytes w b l) (k : Nat) : Bytes (w.drewN k) b l := fun i hi => h i hi
theorem bytes_alloc {w : World} {b : Nat} {l : List UInt8} (h : Bytes w b l) (hb : b < w.heap.size) (o : Obj) : Bytes (w.alloc o) b l := fun i hi => (World.cell?_alloc_past o b i hb).trans (h i hi)
theorem lin_bits (S T : ByteArray) (n : Nat) (hS : S.size = n) (hT : T.size = n) : ∃ r : Nat, bits BinOp.xor IntKind.u32 ((C S.data.toList : Nat) : Int) ((C T.data.toList : Nat) : Int) = (r : Int) ∧
    bits BinOp.xor IntKind.u32 ((C (mix S.data.toList T.data.toList) : Nat) : Int) ((C (List.replicate n 0) : Nat) : Int) = (r : Int) := by
  have hl : S.data.toList.length = T.data.toList.length := by simp; omega
  refine ⟨_, u32_xor_nat _ _ (C_lt _) (C_lt _), ?_⟩
  rw [linear _ _ hl, u32_xor_nat _ _ (C_lt _) (C_lt _), show S.data.toList.length = n by simp; exact hS]
theorem on_true (l : List UInt8) (X : UInt8) : (((A (l ++ [X]) : Nat) : Int) == bits BinOp.or IntKind.u32 ((((A l : Nat) : Int) / 65536 + (bits BinOp.and IntKind.u32 ((A l : Nat) : Int) 65535 + ((X.toNat : Nat) : Int)) % 4294967296 % 65521) % 4294967296 % 65521 * 65536)
    ((bits BinOp.and IntKind.u32 ((A l : Nat) : Int) 65535 + ((X.toNat : Nat) : Int)) % 4294967296 % 65521)) = true := by
  have ha := A_lt l
  have hX := X.toNat_lt
  have h1 := u32_and_nat (A l) 65535 ha (by omega)
  have e1 : A l &&& 65535 = A l % 65536 := Nat.and_two_pow_sub_one_eq_mod (A l) 16
  rw [e1] at h1
  have h1' : bits BinOp.and IntKind.u32 ((A l : Nat) : Int) 65535 = ((A l % 65536 : Nat) : Int) := h1
  rw [h1', beq_iff_eq, A_on]
  generalize A l = a at *
  generalize X.toNat = v at *
  have f1 : (((a % 65536 : Nat) : Int) + (v : Int)) % 4294967296 % 65521 = (((a % 65536 + v) % 65521 : Nat) : Int) := by omega
  rw [f1]
  generalize hp : (a % 65536 + v) % 65521 = p
  have hp1 : p ≤ 65520 := by omega
  have f3 : ((a : Int) / 65536 + (p : Int)) = ((a / 65536 + p : Nat) : Int) := by omega
  have f4 : a / 65536 + p < 4294967296 := by omega
  have f2 : ((a : Int) / 65536 + (p : Int)) % 4294967296 % 65521 = (((a / 65536 + p) % 65521 : Nat) : Int) := by
    rw [f3]
    generalize a / 65536 + p = m at f4
    omega
  rw [f2]
  generalize hq : (a / 65536 + p) % 65521 = q
  have hq1 : q ≤ 65520 := by omega
  exact (AdW.or_sum p q hp1 hq1).symm
theorem pick_nat (c : Int) (n : Int) (h0 : -9223372036854775808 ≤ c) (h1 : c ≤ 9223372036854775807) (hn0 : 0 < n) (hn1 : n ≤ 9223372036854775807) :
    ∃ d : Nat, (d : Int) < n ∧ ∀ w : World, Calls Tryd.prog 8 #[.int .i64 c, .int .i64 n] w fun e w' => e = .returned (.int .i64 (d : Int)) ∧ w' = w := by
  have hb := pk_bd c n hn0
  refine ⟨(pk c n).toNat, by omega, fun w => ?_⟩
  rw [Int.toNat_of_nonneg hb.1]
  exact pick_any c n w h0 h1 hn0 hn1
theorem bytes_row (w : World) (s : ByteArray) (cap : Nat) : Bytes (w.drew.alloc (.cells (bytesRow s cap) 5 ((bytesRow s cap).size, (bytesRow s cap).size + 1))) w.heap.size s.data.toList := fun i hi => by
  have hi2 : i < s.data.size := by simpa using hi
  have := World.cell?_alloc_mark w.drew (bytesRow s cap) 5 ((bytesRow s cap).size, (bytesRow s cap).size + 1) i
  rw [bytesRow_at s cap i hi2] at this
  refine this.trans ?_
  simp only [List.getD, Array.getElem?_toList, Array.getElem?_eq_getElem hi2, Option.getD_some]
theorem row_free (w : World) (s : ByteArray) (cap i : Nat) (hi : i < s.size) : (w.drew.alloc (.cells (bytesRow s cap) 5 ((bytesRow s cap).size, (bytesRow s cap).size + 1))).frozen? ⟨w.heap.size, i, none⟩ = false := by
  have := World.frozen?_alloc_mark w.drew (bytesRow s cap) 5 (bytesRow s cap).size ((bytesRow s cap).size + 1) i
  refine this.trans ?_
  have h : i < (bytesRow s cap).size := by
    have : s.size ≤ (bytesRow s cap).size := by unfold bytesRow; simp
    omega
  simp; omega
theorem bytes_set {w : World} {b : Nat} {l : List UInt8} {i : Nat} (h : Bytes w b l) (hi : i < l.length) (v : Int) (x : UInt8) (hv : v = ((x.toNat : Nat) : Int)) : Bytes (w.setCell ⟨b, i, none⟩ (.int .u8 v)) b (l.set i x) := fun j hj => by
  have hj2 : j < l.length := by simpa using hj
  by_cases e : j = i
  · subst e
    rw [World.cell?_setCell_same _ _ _ (h j hj2), hv]
    simp [List.getD, hj2]
  · rw [World.cell?_setCell_other _ _ _ _ (by intro x; injection x; omega), h j hj2]
    simp [List.getD, List.getElem?_set_ne (fun x => e x.symm)]
theorem xor_ne (a d : UInt8) (h : d.toNat ≠ 0) : a ^^^ d ≠ a := fun e => by
  have k := congrArg UInt8.toNat e
  rw [UInt8.toNat_xor] at k
  have k2 : a.toNat ^^^ d.toNat = a.toNat ^^^ 0 := by rw [Nat.xor_zero]; exact k
  exact h (xor_cancel _ _ _ k2)
theorem u8x (a b : UInt8) : bits BinOp.xor IntKind.u8 (a.toNat : Int) (b.toNat : Int) = (((a ^^^ b).toNat : Nat) : Int) := by
  rw [u8_xor_nat _ _ a.toNat_lt b.toNat_lt, UInt8.toNat_xor]
theorem val_byte (a D : UInt8) (d : Nat) (h : D.toNat = d + 1) : bits BinOp.xor IntKind.u8 ((a.toNat : Nat) : Int) (IntKind.u8.wrap (IntKind.i64.wrap (1 + (d : Int)))) = (((a ^^^ D).toNat : Nat) : Int) := by
  have hd := D.toNat_lt
  have e : IntKind.u8.wrap (IntKind.i64.wrap (1 + (d : Int))) = ((D.toNat : Nat) : Int) := by
    rw [IntKind.wrap_i64, IntKind.wrap_u8]; omega
  rw [e]; exact u8x a D
theorem oneA : ((C [97] : Nat) : Int) = 3904355907 := by decide +kernel
theorem oneB : ((A [97] : Nat) : Int) = 6422626 := by decide +kernel
theorem len_extract (s : ByteArray) (n : Nat) (h : n ≤ s.size) : (s.extract 0 n).size = n := by simp; omega
theorem mix_at (S T : ByteArray) (n k : Nat) (hS : S.size = n) (hT : T.size = n) (hk : k < n) (h : k < (mix S.data.toList T.data.toList).length) : (mix S.data.toList T.data.toList)[k] = (S[k]'(by omega)) ^^^ (T[k]'(by omega)) := by
  simp [mix]; rfl
set_option maxRecDepth 100000 in
set_option maxHeartbeats 2000000 in
theorem sums_any (s t : ByteArray) (x y : Int) (w : World) (hs : s.size ≤ 140737488351232) (hx0 : -9223372036854775808 ≤ x) (hx1 : x ≤ 9223372036854775807) (hy0 : -9223372036854775808 ≤ y) (hy1 : y ≤ 9223372036854775807) (hT : Tab w) (hw0 : 0 < w.heap.size) :
    Calls Tryd.prog 4 #[.string s, .string t, .int .i64 x, .int .i64 y] w fun e w' => e = .returned (.bool true) ∧ Below w.heap.size w w' := by
  obtain ⟨i0, hi, hz0, hz1, hz2⟩ := info_parts info5
  have hA := oneA
  have hB := oneB
  go_enter Tryd.func4, Tryd.ntmps4
  go_wp2_with fail
  refine (crcC _ _ (by decide) hT).mono ?_
  rintro e w' ⟨rfl, rfl⟩
  go_wp2_with fail
  refine (adA _ _ (by decide)).mono ?_
  rintro e w' ⟨rfl, rfl⟩
  clear hA hB
  go_upto_if 33 with fail
  go_cut [9] (fun v wx => wx = w' ∧ ∃ n : Nat, n ≤ s.size ∧ n ≤ t.size ∧ v = .int .i64 n)
  case first =>
    by_cases hlt : t.size < s.size
    · go_wp2
      go_meet
      case rel => exact ⟨rfl, t.size, by omega, by omega, rfl⟩
    · go_wp2
      go_meet
      case rel => exact ⟨rfl, s.size, by omega, by omega, rfl⟩
  case rest =>
    obtain ⟨hww, n, hn1, hn2, rfl⟩ := hcut
    have hww := hww.symm
    subst hww
    have hn3 : n ≤ 140737488351232 := by omega
    have hmk : ∀ wx : World, (Instr.makeSlice 25 (.int .i64 n) (.int .i64 n)).run Tryd.prog wx = .ok (.slice (some ⟨wx.heap.size, 0, none⟩) n n) (wx.alloc (.cells (madeCells #[.int .u8 0] n) 5)) := fun wx => by
      have h := run_make (P := Tryd.prog) wx 25 5 i0 _ Tryd.underlying25 hi hz0 .i64 .i64 n n (by omega) (by omega) (by rw [hz2]; omega) (by omega)
      rw [hz1] at h
      simpa [Value.cells] using h
    clear hz0 hz1 hz2 hi
    go_wp2_with fail
    have hS := len_extract s n hn1
    have hT2 := len_extract t n hn2
    generalize s.extract 0 n = S at *
    generalize t.extract 0 n = T at *
    have hml : (mix S.data.toList T.data.toList).length = n := by
      rw [mix_length _ _ (by simp; omega)]; simp; exact hS
    go_loopw [11] (fun i wr => ∃ k : Nat, k ≤ n ∧ i = .int .i64 k ∧ Part wr w'.heap.size (mix S.data.toList T.data.toList) k ∧ (∀ j, wr.frozen? ⟨w'.heap.size, j, none⟩ = false) ∧ Below w'.heap.size w' wr ∧ wr.heap.size = w'.heap.size + 1) (fun i _ => n - (intOf i).toNat)
    case atStart => exact ⟨0, Nat.zero_le _, rfl, part_made w' n _ hml, fun j => World.frozen?_alloc_new _ _ _ _, (Below.refl _ _).alloc (Nat.le_refl _) _, by simp⟩
    case round =>
      obtain ⟨k, hk, rfl, hP, hfz, hbel, hsz⟩ := hrel
      by_cases hlt : k < n
      · have hkS : k < S.size := by omega
        have hkT : k < T.size := by omega
        have hcell := hP k (by omega)
        have hfk := hfz k
        have hxo := u8x S[k] T[k]
        have hfz' : Hid _ := hfz
        clear hfz
        have H : Hid (∀ v : Int, v = ((S[k].toNat ^^^ T[k].toNat : Nat) : Int) → Part (wr.setCell ⟨w'.heap.size, k, none⟩ (.int .u8 v)) w'.heap.size (mix S.data.toList T.data.toList) (k + 1)) :=
          fun v hv => part_set hP (by omega) v (by rw [hv, mix_at S T n k hS hT2 hlt, UInt8.toNat_xor])
        clear hP
        go_wp2
        go_region
        go_wp2
        go_roundw
        case rel => exact ⟨k + 1, by omega, by go_num, H.out _ rfl, fun j => by simpa using hfz'.out j, (hbel.setCell (Nat.le_refl _) _).drew, by simpa using hsz⟩
        case measure => simp [intOf]; omega
      · have hB := part_all hP (by omega)
        clear hP
        have htab := tab_below hbel hw0 hT
        have hbel1 := hbel.alloc (show w'.heap.size ≤ wr.heap.size by omega) (.cells (madeCells #[.int .u8 0] n) 5)
        have htab1 := tab_below hbel1 hw0 hT
        have hB1 := bytes_alloc hB (show w'.heap.size < wr.heap.size by omega) (.cells (madeCells #[.int .u8 0] n) 5)
        have hcv0 : (convert 25 9 (.slice (some ⟨w'.heap.size + 1, 0, none⟩) n n)).run Tryd.prog (wr.alloc (.cells (madeCells #[.int .u8 0] n) 5)) = .ok (.string ⟨(List.replicate n 0).toArray⟩) (wr.alloc (.cells (madeCells #[.int .u8 0] n) 5)) := by
          rw [← hsz]; exact conv' (wr.alloc (.cells (madeCells #[.int .u8 0] n) 5)) wr.heap.size n n (List.replicate n 0) (by simp) (bytes_made wr n)
        have hcv1 : ∀ nq, (convert 25 9 (.slice (some ⟨w'.heap.size, 0, none⟩) n n)).run Tryd.prog ((wr.alloc (.cells (madeCells #[.int .u8 0] n) 5)).drewN nq) = .ok (.string ⟨(mix S.data.toList T.data.toList).toArray⟩) ((wr.alloc (.cells (madeCells #[.int .u8 0] n) 5)).drewN nq) :=
          fun nq => conv' _ _ n n _ hml (bytes_drew hB1 nq)
        obtain ⟨r, hr1, hr2⟩ := lin_bits S T n hS hT2
        have hZl : (List.replicate n (0 : UInt8)).length = n := List.length_replicate
        generalize List.replicate n (0 : UInt8) = Z at *
        have hSm : S.size ≤ maxLen := by unfold maxLen; omega
        have hTm : T.size ≤ maxLen := by unfold maxLen; omega
        have hMm : (ByteArray.mk (mix S.data.toList T.data.toList).toArray).size ≤ maxLen := by show (List.toArray _).size ≤ _; rw [List.size_toArray, hml]; unfold maxLen; omega
        have hZm : (ByteArray.mk Z.toArray).size ≤ maxLen := by show (List.toArray _).size ≤ _; rw [List.size_toArray, hZl]; unfold maxLen; omega
        clear hfz hB hB1
        go_wp2_with fail
        go_cut [13] (fun v wx => v = .bool true ∧ Below w'.heap.size w' wx ∧ w'.heap.size ≤ wx.heap.size)
        case first =>
          go_quiet ((go_at_call 5; exact Calls.quiet_of_same (crcC _ _ (by first | exact hSm | exact hTm | exact hMm | exact hZm) (tab_drew htab1 _))))
          go_wp2
          go_meet
          case rel => exact ⟨rfl, below_drewN hbel1, Nat.le_trans (Nat.le_add_right _ 2) (by simp [hsz])⟩
        case rest =>
          obtain ⟨rfl, hbel2, hsz2⟩ := hcut
          have htab2 := tab_below hbel2 hw0 hT
          clear hcv0 hcv1 hbel1 htab1 htab hbel hmk hr1 hr2 hsz hMm hZm hZl hml hTm
          have hSX : ∀ X : UInt8, (S ++ ⟨#[X]⟩).size ≤ maxLen := fun X => by rw [ByteArray.size_append]; show S.size + 1 ≤ maxLen; unfold maxLen; omega
          obtain ⟨X, hX⟩ := pick_byte y 256 hy0 hy1 (by omega) (by omega)
          have hXb : X.toNat ≤ 255 := by have := X.toNat_lt; omega
          have hcv := conv' (wc.alloc (.cells #[.int .u8 ((X.toNat : Nat) : Int)] 5)) wc.heap.size 1 1 [X] rfl (fun i hi => by
            obtain rfl : i = 0 := by simpa using hi
            rw [World.cell?_alloc_new]; rfl)
          go_wp2_with fail
          refine (hX _).mono ?_
          rintro e w1 ⟨rfl, rfl⟩
          go_wp2_with fail
          refine (adA _ _ hSm).mono ?_
          rintro e w1 ⟨rfl, rfl⟩
          go_wp2_with fail
          refine (adA _ _ (hSX X)).mono ?_
          rintro e w2 ⟨rfl, rfl⟩
          go_upto_if 102 with fail
          rw [on_true]
          have hbel3 : Below w'.heap.size w' (w1.alloc (.cells #[.int .u8 ((X.toNat : Nat) : Int)] 5)) := hbel2.alloc hsz2 _
          have hsz3 : w'.heap.size ≤ (w1.alloc (.cells #[.int .u8 ((X.toNat : Nat) : Int)] 5)).heap.size := Nat.le_trans hsz2 (by simp)
          generalize w1.alloc (.cells #[.int .u8 ((X.toNat : Nat) : Int)] 5) = wd at *
          clear hcv hSX hX hbel2 hsz2 htab2
          by_cases hn0 : n = 0
          · subst hn0
            go_wp2
            go_ret
            exact ⟨rfl, hbel3⟩
          · have hnn : ((n : Int) == 0) = false := by rw [beq_eq_false_iff_ne]; omega
            obtain ⟨i, hi1, hpi⟩ := pick_nat x n hx0 hx1 (by omega) (by omega)
            obtain ⟨d, hd1, hpd⟩ := pick_nat y 255 hy0 hy1 (by omega) (by omega)
            have hcb := run_bytes_of_string (P := Tryd.prog) wd 9 25 5 S Tryd.underlying9 Tryd.underlying25 Tryd.underlying5
            generalize grownCap wd S.size 0 5 = cap at *
            have hcells : Bytes (wd.drew.alloc (.cells (bytesRow S cap) 5 ((bytesRow S cap).size, (bytesRow S cap).size + 1))) wd.heap.size S.data.toList := bytes_row wd S cap
            have hfro : (wd.drew.alloc (.cells (bytesRow S cap) 5 ((bytesRow S cap).size, (bytesRow S cap).size + 1))).frozen? ⟨wd.heap.size, i, none⟩ = false := row_free wd S cap i (by omega)
            have hbel4 : Below w'.heap.size w' (wd.drew.alloc (.cells (bytesRow S cap) 5 ((bytesRow S cap).size, (bytesRow S cap).size + 1))) := hbel3.drew.alloc hsz3 _
            have hsz4 : (wd.drew.alloc (.cells (bytesRow S cap) 5 ((bytesRow S cap).size, (bytesRow S cap).size + 1))).heap.size = wd.heap.size + 1 := by simp
            have hsz5 : w'.heap.size ≤ wd.heap.size := by exact hsz3
            generalize hwe : wd.drew.alloc (.cells (bytesRow S cap) 5 ((bytesRow S cap).size, (bytesRow S cap).size + 1)) = we at *
            clear hwe hbel3 hsz3
            go_wp2_with fail
            refine (hpi _).mono ?_
            rintro e w3 ⟨rfl, rfl⟩
            go_wp2_with fail
            have hil : i < S.data.toList.length := by simp; show i < S.size; omega
            obtain ⟨D, hD⟩ : ∃ D : UInt8, D.toNat = d + 1 := ⟨UInt8.ofNat (d + 1), by rw [UInt8.toNat_ofNat']; omega⟩
            obtain ⟨B0, hB0⟩ : ∃ B0 : UInt8, B0 = S.data.toList[i] := ⟨_, rfl⟩
            have hci : w3.cell? ⟨wd.heap.size, i, none⟩ = some (.int .u8 ((B0.toNat : Nat) : Int)) := by
              rw [hcells i hil, hB0]; simp [List.getD, List.getElem?_eq_getElem hil]
            have hset : Hid (∀ (wx : World) (v : Int), (∀ j, wx.cell? ⟨wd.heap.size, j, none⟩ = w3.cell? ⟨wd.heap.size, j, none⟩) → v = ((B0 ^^^ D).toNat : Nat) → Bytes (wx.setCell ⟨wd.heap.size, i, none⟩ (.int .u8 v)) wd.heap.size (S.data.toList.set i (B0 ^^^ D))) :=
              fun wx v h1 h2 => bytes_set (fun j hj => (h1 j).trans (hcells j hj)) hil v _ h2
            have hne : Hid (B0 ^^^ D ≠ S.data.toList[i]) := hB0 ▸ xor_ne B0 D (by omega)
            have hval : Hid (bits BinOp.xor IntKind.u8 ((B0.toNat : Nat) : Int) (IntKind.u8.wrap (IntKind.i64.wrap (1 + (d : Int)))) = (((B0 ^^^ D).toNat : Nat) : Int)) := val_byte B0 D d hD
            clear hcells hB0
            go_cut [] (fun wx => Bytes wx wd.heap.size (S.data.toList.set i (B0 ^^^ D)) ∧ Below w'.heap.size w' wx)
            case first =>
              go_region_with (go_at_call 8; refine (hpd _).mono ?_; rintro e w4 ⟨rfl, rfl⟩)
              all_goals (go_wp2_with fail; go_meet)
              all_goals exact ⟨fun j hj => hset.out w3 _ (fun _ => rfl) hval.out j hj, (hbel4.setCell hsz5 _).drew⟩
            case rest =>
              obtain ⟨hby, hbel6⟩ := hcut
              have htab6 := tab_below hbel6 hw0 hT
              have hC2 : Hid (C (S.data.toList.set i (B0 ^^^ D)) ≠ C S.data.toList) := C_told _ i hil _ hne.out
              have hA2 : Hid (A (S.data.toList.set i (B0 ^^^ D)) ≠ A S.data.toList) := A_told _ i hil _ hne.out
              have hL2 : (S.data.toList.set i (B0 ^^^ D)).length = n := by simp; exact hS
              clear hset hval hne hci hfro hbel4 hpd hpi hD
              generalize S.data.toList.set i (B0 ^^^ D) = L at *
              have hc2 : (((C L : Nat) : Int) != ((C S.data.toList : Nat) : Int)) = true := by rw [bne_iff_ne]; intro e; exact hC2.out (by omega)
              have ha2 : (((A L : Nat) : Int) != ((A S.data.toList : Nat) : Int)) = true := by rw [bne_iff_ne]; intro e; exact hA2.out (by omega)
              have hcv2 := conv' wc wd.heap.size n cap L hL2 hby
              have hLm : (ByteArray.mk L.toArray).size ≤ maxLen := by show (List.toArray _).size ≤ _; rw [List.size_toArray, hL2]; unfold maxLen; omega
              clear hby hC2 hA2
              go_wp2_with fail
              refine (crcC _ _ hLm htab6).mono ?_
              rintro e w5 ⟨rfl, rfl⟩
              go_wp2_with fail
              refine (crcC _ _ hSm htab6).mono ?_
              rintro e w6 ⟨rfl, rfl⟩
              go_wp2_with fail
              refine (adA _ _ hLm).mono ?_
              rintro e w7 ⟨rfl, rfl⟩
              go_wp2_with fail
              refine (adA _ _ hSm).mono ?_
              rintro e w8 ⟨rfl, rfl⟩
              go_wp2
              go_ret
              exact ⟨rfl, hbel6⟩
end Go.Proofs.YtephkcdbnogdhaaDoor.SuW
