/- The walk of the document's codes out of lengths. -/
import Derived.Test.YtjfifmadldcjjaaGreatDoorRefFix
namespace Go.Proofs.YtjfifmadldcjjaaGreatDoor.RfW
open Go.RowKit Rf
theorem infoCode : (Tryz.prog.info? 136).map (fun i => (i.zero, i.size, i.bytes)) = some (some (.agg #[.int .i64 0, .string ⟨#[]⟩]), 2, 24) := by kernel_rfl
/-- codes as cells: two each -/
def codeCells (cs : List (Nat × List UInt8)) : List Value := cs.flatMap fun (x : Nat × List UInt8) => [.int .i64 (x.1 : Int), .string ⟨x.2.toArray⟩]
theorem codeCells_snoc (cs : List (Nat × List UInt8)) (s : Nat) (b : List UInt8) : codeCells (cs ++ [(s, b)]) = codeCells cs ++ [.int .i64 (s : Int), .string ⟨b.toArray⟩] := by simp [codeCells]
/-- the slice v holds these codes -/
def CodesAt (w : World) (v : Value) (cs : List (Nat × List UInt8)) : Prop :=
  (v = .slice none 0 0 ∧ cs = []) ∨ ∃ g cap cur, v = .slice (some ⟨g, 0, none⟩) cs.length cap ∧ cs.length ≤ cap ∧ w.heap[g]? = some (.cells cur 136 (0, 0)) ∧
    ∀ i (hi : i < cs.length), cur[2 * i]? = some (.int .i64 ((cs[i].1 : Nat) : Int)) ∧ cur[2 * i + 1]? = some (.string ⟨cs[i].2.toArray⟩)
theorem codeCells_at (cs : List (Nat × List UInt8)) : ∀ i (hi : i < cs.length), (codeCells cs)[2 * i]? = some (.int .i64 ((cs[i].1 : Nat) : Int)) ∧ (codeCells cs)[2 * i + 1]? = some (.string ⟨cs[i].2.toArray⟩) := by
  induction cs with
  | nil => intro i hi; simp at hi
  | cons c cs ih =>
    intro i hi
    cases i with
    | zero => simp [codeCells]
    | succ i =>
      have := ih i (by simpa using hi)
      simp only [codeCells, List.flatMap_cons] at this ⊢
      rw [show 2 * (i + 1) = 2 * i + 1 + 1 by omega]
      simpa using this
theorem codes_of_own {w : World} {base : Nat} {v : Value} {cs : List (Nat × List UInt8)} (h : w.ownsRow base 136 2 v cs.length (codeCells cs)) : CodesAt w v cs := by
  obtain ⟨_, h | ⟨g, cap, cur, rfl, _, hh, hc, _, _, htake⟩⟩ := h
  · exact .inl ⟨h.1, List.eq_nil_of_length_eq_zero h.2⟩
  · refine .inr ⟨g, cap, cur, rfl, hc, hh, fun i hi => ?_⟩
    have hat := codeCells_at cs i hi
    rw [← htake, List.getElem?_take, if_pos (by omega), Array.getElem?_toList, List.getElem?_take, if_pos (by omega), Array.getElem?_toList] at hat
    exact hat
theorem append_code {wr : World} {ops : Array Oper} {rest : List Oper} {o : Oper} {a : Act} {Q : Exit → Act → World → Prop} (hgd : o.guard = none) (s x : Operand)
    (ho : o.op = .call { callee := .builtin .append, args := #[s, x], argTypes := #[100, 100] }) (base : Nat) (v : Value) (n : Nat) (xs : List Value) (z : Int) (b : ByteArray)
    (hown : wr.ownsRow base 136 2 v n xs) (hs : a.eval s = v) (hx : a.eval x = .slice (some ⟨wr.heap.size, 0, none⟩) 1 1) (hn : n ≤ 1000000) (hb : base ≤ wr.heap.size)
    (h : ∀ v' w', w'.ownsRow base 136 2 v' (n + 1) (xs ++ [.int .i64 z, .string b]) → (wr.alloc (.cells #[.int .i64 z, .string b] 136)).grownBy w' v.ownBlock → wpList Tryz.prog ops Q rest (a.put o.dst v') w') :
    wpList Tryz.prog ops Q (o :: rest) a (wr.alloc (.cells #[.int .i64 z, .string b] 136)) := by
  obtain ⟨i0, hi, hz0, hz1, hz2⟩ := info_parts infoCode
  refine wpList_append_own _ hgd s x 100 ho base 136 i0 _ 2 24 Tryz.underlying100 hi hz0 hz1 hz2 rfl (by decide) v n xs hs (hown.alloc _) ⟨wr.heap.size, 0, none⟩ 1 1 [.int .i64 z, .string b] hx rfl ?_ ?_ ?_ ?_ ?_ ?_
  · intro j u hj
    match j, hj with
    | 0, hj => simp at hj; subst hj; simp [Addr.add]
    | 1, hj => simp at hj; subst hj; simp [Addr.add]
  · intro u hu; simp at hu; rcases hu with rfl | rfl <;> rfl
  · unfold maxLen; omega
  · omega
  · simp; omega
  · intro v' w' h1 h2 _; exact h v' w' h1 h2
theorem ret_pair {v : Value} {k : IntKind} {a b : Int} (h : a = b) : Ending.returned (.tuple #[v, .int k a]) = .returned (.tuple #[v, .int k b]) := by rw [h]
theorem cell_of_block {w : World} {g : Nat} {cur : Array Value} {T : TypeId} (h : w.heap[g]? = some (.cells cur T (0, 0))) (o : Nat) : w.cell? ⟨g, o, none⟩ = cur[o]? := by simp [World.cell?, h]
theorem lt_of_blk {w : World} {g : Nat} {b : Obj} (h : w.heap[g]? = some b) : g < w.heap.size := (Array.getElem?_eq_some_iff.1 h).1
set_option maxRecDepth 10000 in
set_option maxHeartbeats 4000000 in
theorem codes_any (L : List Nat) (v0 : Value) (w : World) (hI : IntsAt w v0 L) (hlen : L.length ≤ 400) (hL15 : ∀ i, L.getD i 0 ≤ 15) :
    Calls Tryz.prog 45 #[v0] w fun e w' => ∃ v, e = .returned (.tuple #[v, .int .i64 (((codesT L).much : Nat) : Int)]) ∧ CodesAt w' v (codesT L).cs ∧ Below w.heap.size w w' := by
  obtain ⟨g, off, cap, cur, rfl, hcap, hblk, hcur⟩ := hI
  have hg := lt_of_blk hblk
  go_enter Tryz.func45, Tryz.ntmps45
  go_wp2
  go_loopw [4, 5, 6, 7, 8] (fun l val lon mu ni wr => ∃ (j n : Nat) (st : CS), n + j = 16 ∧ 1 ≤ n ∧ codesT L = outerC L j n st ∧ st.ok (n - 1) ((n - 1) * L.length) ∧ ni = .int .i64 n ∧ val = .int .i64 (st.value : Nat) ∧ lon = .int .i64 (st.long : Nat) ∧ mu = .int .i64 (st.much : Nat) ∧ wr.ownsRow w.heap.size 136 2 l st.cs.length (codeCells st.cs) ∧ Below w.heap.size w wr ∧ w.heap.size ≤ wr.heap.size) (fun _ _ _ _ ni _ => 16 - (intOf ni).toNat)
  case atStart => exact ⟨15, 1, ⟨[], 0, 0, 0⟩, by omega, by omega, rfl, ⟨by simp, by simp, by simp, by simp⟩, rfl, rfl, rfl, rfl, World.ownsRow_nil _ _ _ _, Below.refl _ _, Nat.le_refl _⟩
  case round =>
    obtain ⟨j, n, st, hnj, hn1, hO, hok, rfl, rfl, rfl, rfl, hown, hbel, hsz⟩ := hrel
    cases j with
    | zero =>
      obtain rfl : n = 16 := by omega
      have H : Hid (codesT L = st) := hO
      clear hO
      go_wp2
      go_ret2
      exact ⟨_, ret_pair (by rw [H.out]), by rw [H.out]; exact codes_of_own hown, hbel⟩
    | succ j =>
      have hn15 : n ≤ 15 := by omega
      have HO : Hid (codesT L = outerC L j (n + 1) (innerC L n L.length 0 st) ∧ n + 1 + j = 16) := (⟨hO, by omega⟩ : _ ∧ _)
      clear hO hnj
      go_wp2
      go_loopw [4, 5, 6, 7, 9] (fun l val lon mu si wx => ∃ (i s : Nat) (sx : CS), s + i = L.length ∧ innerC L n L.length 0 st = innerC L n i s sx ∧ sx.ok n ((n - 1) * L.length + s) ∧ si = .int .i64 s ∧ val = .int .i64 (sx.value : Nat) ∧ lon = .int .i64 (sx.long : Nat) ∧ mu = .int .i64 (sx.much : Nat) ∧ wx.ownsRow w.heap.size 136 2 l sx.cs.length (codeCells sx.cs) ∧ Below w.heap.size w wx ∧ w.heap.size ≤ wx.heap.size) (fun _ _ _ _ si _ => L.length - (intOf si).toNat)
      case atStart => exact ⟨L.length, 0, st, by omega, rfl, hok.mono (by omega) (by omega), rfl, rfl, rfl, rfl, hown, hbel, hsz⟩
      case round =>
        obtain ⟨i, s, sx, hsi, hI, hokx, rfl, rfl, rfl, rfl, hownx, hbelx, hszx⟩ := hrel
        have hprod : (n - 1) * L.length ≤ 14 * 400 := Nat.mul_le_mul (by omega) hlen
        have hcnt : sx.cs.length ≤ 6000 := by have := hokx.2.2.1; omega
        have hup := up_le hokx
        have hpn : pw n ≤ 32768 := pw_le n 15 hn15
        have hup2 : sx.cs.length * pw n ≤ 6000 * 32768 := Nat.mul_le_mul hcnt hpn
        have hmu : sx.much ≤ 6000 * 16384 := Nat.le_trans hokx.2.2.2 (Nat.mul_le_mul_right _ hcnt)
        have hlon : sx.long ≤ n := hokx.1
        cases i with
        | zero =>
          obtain rfl : s = L.length := by omega
          have H : Hid (innerC L n L.length 0 st = sx) := hI
          clear hI hsi
          go_wp2
          go_roundw
          case rel => exact ⟨j, n + 1, sx, HO.out.2, by omega, by rw [HO.out.1, H.out], hokx.mono (by omega) (by rw [Nat.add_sub_cancel]; have e : n * L.length = (n - 1) * L.length + L.length := (by obtain ⟨m, rfl⟩ : ∃ m, n = m + 1 := ⟨n - 1, by omega⟩; rw [Nat.add_sub_cancel, Nat.add_mul, Nat.one_mul]); omega), by go_num, rfl, rfl, rfl, hownx, hbelx, hszx⟩
          case measure => simp [intOf]; omega
        | succ i =>
          have hslt : s < L.length := by omega
          have hcell : wr.cell? ⟨g, off + s, none⟩ = some (.int .i64 ((L.getD s 0 : Nat) : Int)) := by
            rw [hbelx.cell (p := ⟨g, off + s, none⟩) hg, cell_of_block hblk]; exact hcur s hslt
          have hok2 := stepC_ok L n s _ sx hokx hn1
          have H : Hid (innerC L n L.length 0 st = innerC L n i (s + 1) (stepC L n s sx) ∧ s + 1 + i = L.length) := (⟨hI, by omega⟩ : _ ∧ _)
          have hl15 := hL15 s
          generalize hx : L.getD s 0 = x at *
          by_cases hxn : x = n
          · subst hxn
            have HS : Hid (stepC L x s sx = ⟨sx.cs ++ [(s, binT (sx.value * pw (x - sx.long)) x)], sx.value * pw (x - sx.long) + 1, x, sx.much + pw (15 - x)⟩) := (by unfold stepC; rw [if_pos hx] : _ = _)
            have Hx : Hid _ := hx
            have hne : ((x : Int) != (x : Int)) = false := by simp
            clear hI hsi hx
            go_wp2
            go_loop [5, 6] (fun val lon => ∃ m y : Nat, sx.long ≤ m ∧ m ≤ x ∧ y = sx.value * pw (m - sx.long) ∧ y ≤ 196608000 ∧ val = .int .i64 y ∧ lon = .int .i64 m) (fun _ lon => x - (intOf lon).toNat)
            case atStart => exact ⟨sx.long, sx.value, Nat.le_refl _, hlon, by rw [Nat.sub_self]; show _ = _ * 1; omega, by have := pw_pos (x - sx.long); have h2 := Nat.le_mul_of_pos_right sx.value this; omega, rfl, rfl⟩
            case round =>
              obtain ⟨m, y, hm1, hm2, hy, hyb, rfl, rfl⟩ := hrel
              by_cases hmx : m < x
              · have HY : Hid (2 * y = sx.value * pw (m + 1 - sx.long)) := (by rw [hy, show m + 1 - sx.long = m - sx.long + 1 by omega, pw_succ, ← Nat.mul_assoc, Nat.mul_comm 2 sx.value, Nat.mul_assoc] : _ = _)
                have hy2 : 2 * y ≤ 196608000 := by
                  rw [HY.out]
                  refine Nat.le_trans (Nat.mul_le_mul_left _ (pw_le (m + 1 - sx.long) (x - sx.long) (by omega))) ?_
                  omega
                clear hy
                go_wp2
                go_round
                case rel => exact ⟨m + 1, 2 * y, by omega, by omega, HY.out, hy2, by go_num, by go_num⟩
                case measure => simp [intOf]; omega
              · obtain rfl : m = x := by omega
                have HY : Hid _ := hy
                clear hy
                go_wp2_with (first
                  | (go_at_call 63; refine (binary_any _ _ _ (by omega) hn15).mono ?_; rintro e wb ⟨rfl, rfl⟩)
                  | (at_builtin; refine append_code rfl _ _ rfl w.heap.size _ sx.cs.length (codeCells sx.cs) _ _ hownx rfl rfl (by omega) hszx ?_; intro v' w1 hown' hg')
                  | go_in)
                have HD : Hid (w1.ownsRow w.heap.size 136 2 v' (stepC L m s sx).cs.length (codeCells (stepC L m s sx).cs) ∧ Below w.heap.size w w1 ∧ w.heap.size ≤ w1.heap.size) :=
                  (⟨by rw [HS.out, codeCells_snoc, List.length_append, ← HY.out]; exact hown', below_app hbelx (Nat.le_refl _) hszx hownx hg', Nat.le_trans hszx (size_app hg')⟩ : _ ∧ _ ∧ _)
                clear hown' hg'
                go_loop [10, 11] (fun ro qi => ∃ q z : Nat, m ≤ q ∧ q ≤ 15 ∧ z = pw (q - m) ∧ z ≤ 32768 ∧ ro = .int .i64 z ∧ qi = .int .i64 q) (fun _ qi => 15 - (intOf qi).toNat)
                case atStart => exact ⟨m, 1, Nat.le_refl _, hn15, by rw [Nat.sub_self]; rfl, by omega, rfl, rfl⟩
                case round =>
                  obtain ⟨q, z, hq1, hq2, hz, hzb, rfl, rfl⟩ := hrel
                  by_cases hq15 : q < 15
                  · have HZ : Hid (2 * z = pw (q + 1 - m)) := (by rw [hz, show q + 1 - m = q - m + 1 by omega, pw_succ] : _ = _)
                    have hz2 : 2 * z ≤ 32768 := by rw [HZ.out]; exact pw_le _ 15 (by omega)
                    clear hz
                    go_wp2
                    go_round
                    case rel => exact ⟨q + 1, 2 * z, by omega, by omega, HZ.out, hz2, by go_num, by go_num⟩
                    case measure => simp [intOf]; omega
                  · obtain rfl : q = 15 := by omega
                    have HZ : Hid _ := hz
                    clear hz
                    go_wp2
                    go_roundw
                    case rel => exact ⟨_, _, _, _, _, ⟨i, s + 1, H.out.2, stepC L m s sx, H.out.1, hok2, by go_num, by rw [HS.out]; show _ = Value.int _ ((sx.value * pw (m - sx.long) + 1 : Nat) : Int); rw [← HY.out]; go_num, by rw [HS.out], by rw [HS.out]; show _ = Value.int _ ((sx.much + pw (15 - m) : Nat) : Int); rw [← HZ.out]; go_num, HD.out.1, HD.out.2.1, HD.out.2.2⟩, rfl, rfl, rfl, rfl, rfl⟩
                    case measure => simp [intOf]; omega
          · have HS : Hid (stepC L n s sx = sx) := (by unfold stepC; rw [if_neg (by omega)] : _ = _)
            have hne : ((x : Int) != (n : Int)) = true := by rw [bne_iff_ne]; omega
            clear hI hsi hx
            go_wp2
            go_roundw
            case rel => exact ⟨i, s + 1, sx, H.out.2, by rw [H.out.1, HS.out], hokx.mono (Nat.le_refl _) (by omega), by go_num, rfl, rfl, rfl, hownx, hbelx, hszx⟩
            case measure => simp [intOf]; omega
end Go.Proofs.YtjfifmadldcjjaaGreatDoor.RfW
