/- The walk of codes.FitOf. -/
import Derived.Test.YtjfifmadldcjjaaGreatDoorRd2
import Derived.Test.YtjfifmadldcjjaaGreatDoorCodeMath
namespace Go.Proofs.YtjfifmadldcjjaaGreatDoor.Pr
open Go.RowKit Rf
/-- a row of small numbers, as bytes in memory: in block b from place o on -/
def BytesAt (w : World) (b o : Nat) (L : List Nat) : Prop := ∀ i, i < L.length → w.cell? ⟨b, o + i, none⟩ = some (.int .u8 ((L.getD i 0 : Nat) : Int))
/-- how lengths fit together -/
def fitT (L : List Nat) : Nat := if cnt L = 0 then 3 else if muchL L = 32768 then 1 else if cnt L = 1 ∧ muchL L = 16384 then 2 else 0
theorem pw_le15 (x : Nat) (h : 0 < x) : pw (15 - x) ≤ 16384 := pw_le _ 14 (by omega)
theorem muchL_le (L : List Nat) : muchL L ≤ 16384 * L.length := by
  induction L with
  | nil => simp [muchL]
  | cons x L ih =>
    unfold muchL at *
    rw [List.map_cons, List.sum_cons, List.length_cons]
    by_cases h : 0 < x
    · rw [if_pos h]; have := pw_le15 x h; omega
    · rw [if_neg h]; omega
theorem take_snoc (L : List Nat) (k : Nat) (h : k < L.length) : L.take (k + 1) = L.take k ++ [L.getD k 0] := by
  rw [List.take_succ_eq_append_getElem h]; simp [List.getD, List.getElem?_eq_getElem h]
theorem wrap_pw (mm k : Nat) (h : pw k ≤ 16384) (hm : mm ≤ 1000000000) : wrap64 ((mm : Int) + wrap64 (2 ^ k)) = ((mm + pw k : Nat) : Int) := by
  have e : (2 : Int) ^ k = ((pw k : Nat) : Int) := by simp [pw]
  rw [e]
  simp only [wrap64]
  omega
set_option maxRecDepth 10000 in
set_option maxHeartbeats 2000000 in
theorem fit_any (b o cap : Nat) (L : List Nat) (w : World) (h : BytesAt w b o L) (hl : L.length ≤ 400) (hx : ∀ x ∈ L, x ≤ 15) :
    Calls Tryz.prog 87 #[.slice (some ⟨b, o, none⟩) L.length cap] w fun e w' => e = .returned (.int .i64 ((fitT L : Nat) : Int)) ∧ w' = w := by
  go_enter Tryz.func87, Tryz.ntmps87
  go_wp2
  go_loop [3, 4, 9] (fun c r i => ∃ k : Nat, k ≤ L.length ∧ i = .int .i64 k ∧ c = .int .i64 ((cnt (L.take k) : Nat) : Int) ∧ r = .int .i64 ((muchL (L.take k) : Nat) : Int)) (fun _ _ i => L.length - (intOf i).toNat)
  case atStart => exact ⟨0, Nat.zero_le _, rfl, rfl, rfl⟩
  case round =>
    obtain ⟨k, hk, rfl, rfl, rfl⟩ := hrel
    by_cases hlt : k < L.length
    · have hc := h k hlt
      have HC : Hid _ := cnt_snoc (L.take k) (L.getD k 0)
      have HM : Hid _ := muchL_snoc (L.take k) (L.getD k 0)
      have HT : Hid _ := take_snoc L k hlt
      have hx15 : L.getD k 0 ≤ 15 := getD_le L 15 hx k
      have hb1 : cnt (L.take k) ≤ 400 := by have := cnt_le (L.take k); simp at this; omega
      have hb2 : muchL (L.take k) ≤ 6553600 := by have := muchL_le (L.take k); simp at this; omega
      have HP : Hid (0 < L.getD k 0 → pw (15 - L.getD k 0) ≤ 16384) := pw_le15 (L.getD k 0)
      generalize L.getD k 0 = x at *
      generalize cnt (L.take k) = cc at *
      generalize muchL (L.take k) = mm at *
      by_cases h0 : 0 < x
      · have hp : pw (15 - x) ≤ 16384 := HP.out h0
        go_wp2
        go_round
        case rel => exact ⟨k + 1, by omega, by go_num, by rw [HT.out, HC.out, if_pos h0]; go_num, by rw [HT.out, HM.out, if_pos h0, wrap_pw mm _ hp (by omega)]⟩
        case measure => simp [intOf]; omega
      · go_wp2
        go_round
        case rel => exact ⟨k + 1, by omega, by go_num, by rw [HT.out, HC.out, if_neg h0]; go_num, by rw [HT.out, HM.out, if_neg h0]; go_num⟩
        case measure => simp [intOf]; omega
    · have ht : L.take k = L := List.take_of_length_le (by omega)
      rw [ht]
      have hb1 : cnt L ≤ 400 := by have := cnt_le L; omega
      have hb2 : muchL L ≤ 6553600 := by have := muchL_le L; omega
      have HF : Hid (fitT L = if cnt L = 0 then 3 else if muchL L = 32768 then 1 else if cnt L = 1 ∧ muchL L = 16384 then 2 else 0) := rfl
      generalize cnt L = cc at *
      generalize muchL L = mm at *
      by_cases h1 : cc = 0
      · have d1 : decide ((cc : Int) = 0) = true := decide_eq_true (by omega)
        go_wp2
        go_ret
        exact ⟨ret_int (by rw [HF.out, if_pos h1]; rfl), rfl⟩
      · have d1 : decide ((cc : Int) = 0) = false := decide_eq_false (by omega)
        by_cases h2 : mm = 32768
        · have d2 : decide ((mm : Int) = 32768) = true := decide_eq_true (by omega)
          go_wp2
          go_ret
          exact ⟨ret_int (by rw [HF.out, if_neg h1, if_pos h2]; rfl), rfl⟩
        · have d2 : decide ((mm : Int) = 32768) = false := decide_eq_false (by omega)
          by_cases h3 : cc = 1
          · have d3 : decide ((cc : Int) = 1) = true := decide_eq_true (by omega)
            by_cases h4 : mm = 16384
            · have d4 : decide ((mm : Int) = 16384) = true := decide_eq_true (by omega)
              go_wp2
              go_ret
              exact ⟨ret_int (by rw [HF.out, if_neg h1, if_neg h2, if_pos ⟨h3, h4⟩]; rfl), rfl⟩
            · have d4 : decide ((mm : Int) = 16384) = false := decide_eq_false (by omega)
              go_wp2
              go_ret
              exact ⟨ret_int (by rw [HF.out, if_neg h1, if_neg h2, if_neg (fun e => h4 e.2)]; rfl), rfl⟩
          · have d3 : decide ((cc : Int) = 1) = false := decide_eq_false (by omega)
            go_wp2
            go_ret
            exact ⟨ret_int (by rw [HF.out, if_neg h1, if_neg h2, if_neg (fun e => h3 e.1)]; rfl), rfl⟩
end Go.Proofs.YtjfifmadldcjjaaGreatDoor.Pr
