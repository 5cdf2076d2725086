/- The walk of the document's Adler sum: what vellumref.Adler returns. -/
import Derived.Test.YtephkcdbnogdhaaAdAdd
namespace Go.Proofs.Ytephkcdbnogdhaa.AdW
open Go.RowKit Ad
set_option maxHeartbeats 400000 in
theorem ref_any (s : ByteArray) (w : World) (hs : s.size ≤ maxLen) :
    Calls Try.prog 5 #[.string s] w fun e w' => e = .returned (.int .u32 ((65536 * (adl 1 0 s.data.toList).2 + (adl 1 0 s.data.toList).1 : Nat) : Int)) ∧ w' = w := by
  unfold maxLen at hs
  go_enter Try.func5, Try.ntmps5
  go_wp2
  go_loop [3, 4, 5] (fun a b i => ∃ k : Nat, k ≤ s.size ∧ i = .int .i64 k ∧ a = .int .i64 ((adl 1 0 (s.data.toList.take k)).1 : Nat) ∧ b = .int .i64 ((adl 1 0 (s.data.toList.take k)).2 : Nat)) (fun _ _ i => s.size - (intOf i).toNat)
  case atStart => exact ⟨0, Nat.zero_le _, rfl, rfl, rfl⟩
  case round =>
    obtain ⟨k, hk, rfl, rfl, rfl⟩ := hrel
    obtain ⟨hb1, hb2⟩ := adl_bd (s.data.toList.take k) 1 0 (by omega) (by omega)
    by_cases hlt : k < s.size
    · have hc : s[k].toNat ≤ 255 := by have := s[k].toNat_lt; omega
      go_wp2
      go_round
      case rel => exact ⟨k + 1, by omega, by go_num, by rw [adl_step s k hlt]; go_num, by rw [adl_step s k hlt]; go_num⟩
      case measure => simp [intOf]; omega
    · rw [take_all s k hlt] at hb1 hb2 ⊢
      go_wp2
      go_ret
      exact ⟨ret_int (by omega), rfl⟩
end Go.Proofs.Ytephkcdbnogdhaa.AdW
