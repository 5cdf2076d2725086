/- The walk of the document's question whether just one length is not 0. -/
import Derived.Test.YtjfifmadldcjjaaGreatDoorRefSyms
import Derived.Test.YtjfifmadldcjjaaGreatDoorRefMath2
namespace Go.Proofs.YtjfifmadldcjjaaGreatDoor.RfW
open Go.RowKit Rf
theorem take_snocL (L : List Nat) (k : Nat) (h : k < L.length) : L.take (k + 1) = L.take k ++ [L.getD k 0] := by
  rw [List.take_succ_eq_append_getElem h]; simp [List.getD, List.getElem?_eq_getElem h]
set_option maxRecDepth 10000 in
set_option maxHeartbeats 1000000 in
theorem single_any (L : List Nat) (v0 : Value) (w : World) (hI : IntsAt w v0 L) (hlen : L.length ≤ 400) :
    Calls Tryz.prog 49 #[v0] w fun e w' => e = .returned (.bool (singleT L)) ∧ w' = w := by
  obtain ⟨g, off, cap, cur, rfl, hcap, hblk, hcur⟩ := hI
  go_enter Tryz.func49, Tryz.ntmps49
  go_wp2
  go_loop [3, 4] (fun c i => ∃ k x : Nat, k ≤ L.length ∧ x = cnt (L.take k) ∧ x ≤ 400 ∧ c = .int .i64 x ∧ i = .int .i64 k) (fun _ i => L.length - (intOf i).toNat)
  case atStart => exact ⟨0, 0, by omega, rfl, by omega, rfl, rfl⟩
  case round =>
    obtain ⟨k, x, hk, hx, hxb, rfl, rfl⟩ := hrel
    by_cases hlt : k < L.length
    · have hcell : w.cell? ⟨g, off + k, none⟩ = some (.int .i64 ((L.getD k 0 : Nat) : Int)) := (cell_of_block hblk _).trans (hcur k hlt)
      have H := cnt_snoc (L.take k) (L.getD k 0)
      rw [← take_snocL L k hlt, ← hx] at H
      have hb2 := cnt_le (L.take (k + 1))
      have hb3 : (L.take (k + 1)).length ≤ 400 := by rw [List.length_take]; omega
      generalize L.getD k 0 = z at *
      by_cases hz : 0 < z
      · rw [if_pos hz] at H
        have HH : Hid _ := H
        have hx2 : x + 1 ≤ 400 := by omega
        clear hx H hb2 hb3
        go_wp2
        go_round
        case rel => exact ⟨k + 1, x + 1, by omega, HH.out.symm, hx2, by go_num, by go_num⟩
        case measure => simp [intOf]; omega
      · rw [if_neg hz] at H
        have HH : Hid _ := H
        clear hx H hb2 hb3
        go_wp2
        go_round
        case rel => exact ⟨k + 1, x, by omega, HH.out.symm, hxb, by go_num, by go_num⟩
        case measure => simp [intOf]; omega
    · obtain rfl : k = L.length := by omega
      have H : Hid (singleT L = (x == 1)) := (by unfold singleT; rw [hx, List.take_length] : _ = _)
      clear hx
      go_wp2
      go_ret
      exact ⟨by rw [H.out]; exact congrArg (fun b => Ending.returned (Value.bool b)) (by rw [Bool.eq_iff_iff]; simp; omega), rfl⟩
end Go.Proofs.YtjfifmadldcjjaaGreatDoor.RfW
