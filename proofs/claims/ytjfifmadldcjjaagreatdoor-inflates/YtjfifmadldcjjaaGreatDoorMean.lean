/- What symbols stand for: the walks of literalMeaning and distanceMeaning. -/
import Derived.Test.YtjfifmadldcjjaaGreatDoorReadM
namespace Go.Proofs.YtjfifmadldcjjaaGreatDoor.Pr
open Go.RowKit Rf
def litM (y : Nat) : Nat × Nat × Nat := if y < 256 then (1, y, 0) else if y = 256 then (2, 0, 0) else if y < 265 then (3, y - 254, 0) else if y < 285 then (3, (4 + (y - 265) % 4) * 2 ^ ((y - 265) / 4 + 1) + 3, (y - 265) / 4 + 1) else if y = 285 then (3, 258, 0) else (0, 0, 0)
def distM (y : Nat) : Nat × Nat × Nat := if y < 4 then (4, y + 1, 0) else if y < 30 then (4, (2 + y % 2) * 2 ^ ((y - 2) / 2) + 1, (y - 2) / 2) else (0, 0, 0)
/-- the block of a meaning -/
def meanO (m : Nat × Nat × Nat) : Obj := .cells #[.int .u8 (m.1 : Int), .int .i64 (m.2.1 : Int), .int .u64 (m.2.2 : Int)] 149
theorem wrap_up (a k n c : Nat) (ha : a ≤ 8) (hk : k ≤ 14) (hc : c ≤ 3) (A : Int) (hA : A = (a : Int)) (h : n = a * 2 ^ k + c) : wrap64 (wrap64 (A * 2 ^ k) + (c : Int)) = (n : Int) := by
  have hp : 2 ^ k ≤ 2 ^ 14 := Nat.pow_le_pow_right (by omega) hk
  have h1 : a * 2 ^ k ≤ 8 * 2 ^ 14 := Nat.mul_le_mul ha hp
  have e : A * 2 ^ k = ((a * 2 ^ k : Nat) : Int) := by rw [hA]; simp
  rw [e, h]
  generalize a * 2 ^ k = z at *
  simp only [wrap64]
  omega
set_option maxRecDepth 10000 in
set_option maxHeartbeats 2000000 in
theorem litM_any (y : Nat) (w : World) (hy : y ≤ 400) :
    Calls Tryz.prog 83 #[.int .i64 (y : Int)] w fun e w' => e = .returned (meanV (litM y)) ∧ w' = w.alloc (meanO (litM y)) := by
  by_cases h1 : y < 256
  · have d1 : decide ((y : Int) < 256) = true := decide_eq_true (by omega)
    have HM : Hid (litM y = (1, y, 0)) := (by unfold litM; rw [if_pos h1] : _ = _)
    go_enter Tryz.func83, Tryz.ntmps83
    go_wp2
    rw [HM.out]
    exact bodyPost_ret (v := meanV (1, y, 0)) (by simp [results, Tryz.results83, go_sem, meanV]) rfl ⟨rfl, rfl⟩
  · have d1 : decide ((y : Int) < 256) = false := decide_eq_false (by omega)
    by_cases h2 : y = 256
    · have d2 : ((y : Int) == 256) = true := by simp; omega
      have HM : Hid (litM y = (2, 0, 0)) := (by unfold litM; rw [if_neg h1, if_pos h2] : _ = _)
      go_enter Tryz.func83, Tryz.ntmps83
      go_wp2
      rw [HM.out]
      exact bodyPost_ret (v := meanV (2, 0, 0)) (by simp [results, Tryz.results83, go_sem, meanV]) rfl ⟨rfl, rfl⟩
    · have d2 : ((y : Int) == 256) = false := by simp; omega
      by_cases h3 : y < 265
      · have d3 : decide ((y : Int) < 265) = true := decide_eq_true (by omega)
        have e1 : (y : Int) - 254 = ((y - 254 : Nat) : Int) := by omega
        have HM : Hid (litM y = (3, y - 254, 0)) := (by unfold litM; rw [if_neg h1, if_neg h2, if_pos h3] : _ = _)
        go_enter Tryz.func83, Tryz.ntmps83
        go_wp2
        rw [HM.out]
        exact bodyPost_ret (v := meanV (3, y - 254, 0)) (by simp [results, Tryz.results83, go_sem, meanV]) rfl ⟨rfl, rfl⟩
      · have d3 : decide ((y : Int) < 265) = false := decide_eq_false (by omega)
        by_cases h4 : y < 285
        · have d4 : decide ((y : Int) < 285) = true := decide_eq_true (by omega)
          have HU : Hid (wrap64 (wrap64 ((4 + ((y : Int) - 265) % 4) * 2 ^ ((y - 265) / 4 + 1)) + 3) = (((4 + (y - 265) % 4) * 2 ^ ((y - 265) / 4 + 1) + 3 : Nat) : Int)) := wrap_up (4 + (y - 265) % 4) _ _ 3 (by omega) (by omega) (by omega) _ (by omega) rfl
          have HV : Hid (((y : Int) - 265) / 4 + 1 = (((y - 265) / 4 + 1 : Nat) : Int)) := (by omega : _ = _)
          have HM : Hid (litM y = (3, (4 + (y - 265) % 4) * 2 ^ ((y - 265) / 4 + 1) + 3, (y - 265) / 4 + 1)) := (by unfold litM; rw [if_neg h1, if_neg h2, if_neg h3, if_pos h4] : _ = _)
          go_enter Tryz.func83, Tryz.ntmps83
          go_wp2
          rw [HM.out]
          have hu := HU.out
          have hv := HV.out
          rw [hu, hv]
          exact bodyPost_ret (v := meanV (3, (4 + (y - 265) % 4) * 2 ^ ((y - 265) / 4 + 1) + 3, (y - 265) / 4 + 1)) (by simp [results, Tryz.results83, go_sem, meanV]) rfl ⟨rfl, rfl⟩
        · have d4 : decide ((y : Int) < 285) = false := decide_eq_false (by omega)
          by_cases h5 : y = 285
          · have d5 : ((y : Int) == 285) = true := by simp; omega
            have HM : Hid (litM y = (3, 258, 0)) := (by unfold litM; rw [if_neg h1, if_neg h2, if_neg h3, if_neg h4, if_pos h5] : _ = _)
            go_enter Tryz.func83, Tryz.ntmps83
            go_wp2
            rw [HM.out]
            exact bodyPost_ret (v := meanV (3, 258, 0)) (by simp [results, Tryz.results83, go_sem, meanV]) rfl ⟨rfl, rfl⟩
          · have d5 : ((y : Int) == 285) = false := by simp; omega
            have HM : Hid (litM y = (0, 0, 0)) := (by unfold litM; rw [if_neg h1, if_neg h2, if_neg h3, if_neg h4, if_neg h5] : _ = _)
            go_enter Tryz.func83, Tryz.ntmps83
            go_wp2
            rw [HM.out]
            exact bodyPost_ret (v := meanV (0, 0, 0)) (by simp [results, Tryz.results83, go_sem, meanV]) rfl ⟨rfl, rfl⟩
set_option maxRecDepth 10000 in
set_option maxHeartbeats 2000000 in
theorem distM_any (y : Nat) (w : World) (hy : y ≤ 400) :
    Calls Tryz.prog 84 #[.int .i64 (y : Int)] w fun e w' => e = .returned (meanV (distM y)) ∧ w' = w.alloc (meanO (distM y)) := by
  by_cases h1 : y < 4
  · have d1 : decide ((y : Int) < 4) = true := decide_eq_true (by omega)
    have HM : Hid (distM y = (4, y + 1, 0)) := (by unfold distM; rw [if_pos h1] : _ = _)
    go_enter Tryz.func84, Tryz.ntmps84
    go_wp2
    rw [HM.out]
    exact bodyPost_ret (v := meanV (4, y + 1, 0)) (by simp [results, Tryz.results84, go_sem, meanV]) rfl ⟨rfl, rfl⟩
  · have d1 : decide ((y : Int) < 4) = false := decide_eq_false (by omega)
    by_cases h2 : y < 30
    · have d2 : decide ((y : Int) < 30) = true := decide_eq_true (by omega)
      have HU : Hid (wrap64 (wrap64 ((2 + (y : Int) % 2) * 2 ^ ((y - 2) / 2)) + 1) = (((2 + y % 2) * 2 ^ ((y - 2) / 2) + 1 : Nat) : Int)) := wrap_up (2 + y % 2) _ _ 1 (by omega) (by omega) (by omega) _ (by omega) rfl
      have HV : Hid (((y : Int) - 2) / 2 = (((y - 2) / 2 : Nat) : Int)) := (by omega : _ = _)
      have HM : Hid (distM y = (4, (2 + y % 2) * 2 ^ ((y - 2) / 2) + 1, (y - 2) / 2)) := (by unfold distM; rw [if_neg h1, if_pos h2] : _ = _)
      go_enter Tryz.func84, Tryz.ntmps84
      go_wp2
      rw [HM.out]
      have hu := HU.out
      have hv := HV.out
      rw [hu, hv]
      exact bodyPost_ret (v := meanV (4, (2 + y % 2) * 2 ^ ((y - 2) / 2) + 1, (y - 2) / 2)) (by simp [results, Tryz.results84, go_sem, meanV]) rfl ⟨rfl, rfl⟩
    · have d2 : decide ((y : Int) < 30) = false := decide_eq_false (by omega)
      have HM : Hid (distM y = (0, 0, 0)) := (by unfold distM; rw [if_neg h1, if_neg h2] : _ = _)
      go_enter Tryz.func84, Tryz.ntmps84
      go_wp2
      rw [HM.out]
      exact bodyPost_ret (v := meanV (0, 0, 0)) (by simp [results, Tryz.results84, go_sem, meanV]) rfl ⟨rfl, rfl⟩
/-- both say the same of lengths and distances -/
theorem litM_len (y : Nat) (h1 : 257 ≤ y) (h2 : y ≤ 285) : litM y = (3, lenT y) := by
  have h : ∀ k : Fin 29, litM (257 + k.val) = (3, lenT (257 + k.val)) := by decide +kernel
  have := h ⟨y - 257, by omega⟩
  rwa [show 257 + (y - 257) = y by omega] at this
theorem distM_dist (y : Nat) (h : y ≤ 29) : distM y = (4, distT y) := by
  have h' : ∀ k : Fin 30, distM k.val = (4, distT k.val) := by decide +kernel
  exact h' ⟨y, by omega⟩
end Go.Proofs.YtjfifmadldcjjaaGreatDoor.Pr
