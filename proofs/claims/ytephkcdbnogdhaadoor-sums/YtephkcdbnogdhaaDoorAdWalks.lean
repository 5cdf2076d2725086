/- The walk of the program's Adler sum: what sum.Adler returns. -/
import Derived.Test.YtephkcdbnogdhaaDoorAdAdd
namespace Go.Proofs.YtephkcdbnogdhaaDoor.AdW
open Go.RowKit Ad
set_option maxHeartbeats 400000 in
theorem adler_any (s : ByteArray) (w : World) (hs : s.size ≤ maxLen) :
    Calls Tryd.prog 7 #[.string s] w fun e w' => e = .returned (.int .u32 ((65536 * (adl 1 0 s.data.toList).2 + (adl 1 0 s.data.toList).1 : Nat) : Int)) ∧ w' = w := by
  unfold maxLen at hs
  go_enter Tryd.func7, Tryd.ntmps7
  go_wp2
  go_loop [3, 7] (fun c i => ∃ k : Nat, k ≤ s.size ∧ i = .int .i64 k ∧ c = .int .u32 ((one (adl 1 0 (s.data.toList.take k)) : Nat) : Int)) (fun _ i => s.size - (intOf i).toNat)
  case atStart => exact ⟨0, Nat.zero_le _, rfl, rfl⟩
  case round =>
    obtain ⟨k, hk, rfl, rfl⟩ := hrel
    by_cases hlt : k < s.size
    · obtain ⟨hb1, hb2⟩ := adl_bd (s.data.toList.take k) 1 0 (by omega) (by omega)
      have HS : Hid _ := adl_one s k hlt
      have hbyte : s[k].toNat ≤ 255 := by have := s[k].toNat_lt; omega
      have H1 : Hid (one (adl 1 0 (s.data.toList.take k)) % 65536 ≤ 65520) := (by rw [one_lo _ hb1]; exact hb1 : _ ≤ _)
      have H2 : Hid (one (adl 1 0 (s.data.toList.take k)) / 65536 ≤ 65520) := (by rw [one_hi _ hb1]; exact hb2 : _ ≤ _)
      clear hb1 hb2
      generalize one (adl 1 0 (s.data.toList.take k)) = A at *
      go_wp2_with fail
      refine (add_any A s[k].toNat _ H1.out H2.out hbyte).mono ?_
      rintro e w' ⟨rfl, rfl⟩
      go_wp2_with fail
      go_round
      case rel => exact ⟨k + 1, by omega, by go_num, by rw [HS.out]⟩
      case measure => simp [intOf]; omega
    · rw [take_all s k hlt]
      generalize HA : one (adl 1 0 s.data.toList) = A
      have HA' : Hid _ := HA
      clear HA
      go_wp2
      go_ret
      exact ⟨ret_int (by rw [← HA'.out]; rfl), rfl⟩
end Go.Proofs.YtephkcdbnogdhaaDoor.AdW
