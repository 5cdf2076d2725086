/- The walk of the document's next symbol. -/
import Derived.Test.YtjfifmadldcjjaaGreatDoorRefCodes
namespace Go.Proofs.YtjfifmadldcjjaaGreatDoor.RfW
open Go.RowKit Rf
/-- how many bytes a text's value has -/
def strLen : Value → Nat
  | .string t => t.size
  | _ => 0
theorem strLen_mk (l : List UInt8) : strLen (.string ⟨l.toArray⟩) = l.length := by simp [strLen, ByteArray.size]
theorem snoc49 (l : List UInt8) : (ByteArray.mk l.toArray ++ ByteArray.mk #[49]) = ByteArray.mk (l ++ [49]).toArray := ByteArray.mk_append_mk l [49]
theorem snoc48 (l : List UInt8) : (ByteArray.mk l.toArray ++ ByteArray.mk #[48]) = ByteArray.mk (l ++ [48]).toArray := ByteArray.mk_append_mk l [48]
theorem row_ne {w : World} {b g : Nat} {s : ByteArray} {st : RS} {cur : Array Value} {T : TypeId} (hR : RowIs w b s st) (h : w.heap[g]? = some (.cells cur T (0, 0))) (hT : T ≠ 46) : g ≠ b := by
  intro e; subst e
  have := hR.1
  rw [h] at this
  simp at this
  exact hT this.2
set_option maxRecDepth 10000 in
set_option maxHeartbeats 4000000 in
theorem symbol_some (b : Nat) (s : ByteArray) (st : RS) (cs : List (Nat × List UInt8)) (g cap : Nat) (cur : Array Value) (w : World) (hR : RowIs w b s st) (hs : s.size ≤ 140737488351232) (hlen : cs.length ≤ 1000000)
    (hblk : w.heap[g]? = some (.cells cur 136 (0, 0)))
    (hcur : ∀ i (hi : i < cs.length), cur[2 * i]? = some (.int .i64 ((cs[i].1 : Nat) : Int)) ∧ cur[2 * i + 1]? = some (.string ⟨cs[i].2.toArray⟩)) :
    Calls Tryz.prog 46 #[.pointer (some ⟨b, 0, none⟩), .slice (some ⟨g, 0, none⟩) cs.length cap] w fun e w' => e = .returned (.int .i64 (((symT s cs st).1 : Nat) : Int)) ∧ RowIs w' b s (symT s cs st).2 ∧ Only b w w' := by
  have hgb := row_ne hR hblk (by decide)
  go_enter Tryz.func46, Tryz.ntmps46
  go_wp2
  go_loopw [5] (fun p wr => ∃ (k : Nat) (pre : List UInt8) (t : RS), pre.length + k = 15 ∧ symT s cs st = symL s cs k pre t ∧ p = .string ⟨pre.toArray⟩ ∧ RowIs wr b s t ∧ Only b w wr) (fun p _ => 15 - strLen p)
  case atStart => exact ⟨15, [], st, rfl, rfl, rfl, hR, Only.refl b w⟩
  case round =>
    obtain ⟨k, pre, t, hpk, hS, rfl, hRt, hOt⟩ := hrel
    have hc2 := hRt.c2
    have hf2 := hRt.free 2
    obtain ⟨tp, tb⟩ := t
    cases tb
    · cases k with
      | zero =>
        have H : Hid (symT s cs st = (0, ⟨tp, true⟩)) := hS
        have hl : ¬ pre.length < 15 := by omega
        clear hS hpk
        go_wp2
        go_ret
        exact ⟨ret_int (by rw [H.out]; rfl), by rw [H.out]; exact hRt.set2 true, hOt.setCell 2 _⟩
      | succ k =>
        have hl : pre.length < 15 := by omega
        have HS : Hid _ := hS
        have HP : Hid _ := hpk
        clear hS hpk
        go_wp2_with fail
        refine (one_any b s ⟨tp, false⟩ _ hRt hs).mono ?_
        rintro e w2 ⟨rfl, hR2, hO2⟩
        have hone := oneT_le s ⟨tp, false⟩
        have HE : Hid ((oneT s ⟨tp, false⟩).2.bad = true → symT s cs st = (0, ⟨(oneT s ⟨tp, false⟩).2.pos, true⟩)) := fun h => HS.out.trans (symL_end s cs k pre ⟨tp, false⟩ rfl h)
        have HH : Hid (∀ y, (oneT s ⟨tp, false⟩).2.bad = false → findC cs (pre ++ [sign (oneT s ⟨tp, false⟩).1]) = some y → symT s cs st = (y, (oneT s ⟨tp, false⟩).2)) := fun y h h2 => HS.out.trans (symL_hit s cs k pre ⟨tp, false⟩ rfl h y h2)
        have HM : Hid ((oneT s ⟨tp, false⟩).2.bad = false → findC cs (pre ++ [sign (oneT s ⟨tp, false⟩).1]) = none → symT s cs st = symL s cs k (pre ++ [sign (oneT s ⟨tp, false⟩).1]) (oneT s ⟨tp, false⟩).2) := fun h h2 => HS.out.trans (symL_miss s cs k pre ⟨tp, false⟩ rfl h h2)
        generalize oneT s ⟨tp, false⟩ = z at *
        obtain ⟨z1, zp, zb⟩ := z
        have hO3 := hOt.trans hO2
        have hblk3 := (hO3.block g hgb).trans hblk
        have hd2 := hR2.c2
        have hz : z1 = 0 ∨ z1 = 1 := by simp at hone; omega
        have HL : Hid ((pre ++ [sign z1]).length + k = 15 ∧ (pre ++ [sign z1]).length = pre.length + 1) := (⟨by have := HP.out; simp; omega, by simp⟩ : _ ∧ _)
        clear hc2 hf2 hone HS
        go_upto_if 21 with fail
        go_cut [5] (fun v wx => v = .string ⟨(pre ++ [sign z1]).toArray⟩ ∧ wx = w2)
        case first =>
          rcases hz with rfl | rfl
          · go_wp2
            go_meet
            case rel => exact ⟨by rw [snoc48]; rfl, rfl⟩
          · go_wp2
            go_meet
            case rel => exact ⟨by rw [snoc49]; rfl, rfl⟩
        case rest =>
          obtain ⟨rfl, hww⟩ := hcut
          have hww := hww.symm
          subst hww
          generalize pre ++ [sign z1] = P at *
          cases zb
          · go_wp2
            go_loop [7] (fun ii => ∃ i : Nat, i ≤ cs.length ∧ ii = .int .i64 i ∧ ∀ j (hj : j < i) (hc : j < cs.length), (cs[j].2 == P) = false) (fun ii => cs.length - (intOf ii).toNat)
            case atStart => exact ⟨0, by omega, rfl, fun j hj => absurd hj (by omega)⟩
            case round =>
              obtain ⟨i, hi, rfl, hno⟩ := hrel
              by_cases hic : i < cs.length
              · have hcc := hcur i hic
                have hcA : w2.cell? ⟨g, i * 2, none⟩ = some (.int .i64 ((cs[i].1 : Nat) : Int)) := (cell_of_block hblk3 _).trans (by rw [Nat.mul_comm]; exact hcc.1)
                have hcB : w2.cell? ⟨g, i * 2 + 1, none⟩ = some (.string ⟨cs[i].2.toArray⟩) := (cell_of_block hblk3 _).trans (by rw [Nat.mul_comm i]; exact hcc.2)
                clear hcc
                have HNo : Hid _ := hno
                clear hno
                by_cases heq : (cs[i].2 == P) = true
                · have HF : Hid (findC cs P = some cs[i].1) := findC_some cs P i hic (fun j hj => HNo.out j hj (by omega)) heq
                  go_wp2
                  go_ret
                  exact ⟨ret_int (by rw [HH.out _ (by first | rfl | trivial) HF.out]), by rw [HH.out _ (by first | rfl | trivial) HF.out]; exact hR2, hO3⟩
                · have heq' : (cs[i].2 == P) = false := by simpa using heq
                  have HF : Hid (∀ j (hj : j < i + 1) (hc : j < cs.length), (cs[j].2 == P) = false) := fun j hj hc => by
                    by_cases e : j = i
                    · subst e; exact heq'
                    · exact HNo.out j (by omega) hc
                  clear heq
                  go_wp2
                  go_round
                  case rel => exact ⟨i + 1, by omega, by go_num, HF.out⟩
                  case measure => simp [intOf]; omega
              · have HF : Hid (findC cs P = none) := findC_none cs P (fun j hj => hno j (by omega) hj)
                clear hno
                go_wp2
                go_roundw
                case rel => exact ⟨k, P, ⟨zp, false⟩, HL.out.1, HM.out (by first | rfl | trivial) HF.out, rfl, hR2, hO3⟩
                case measure => rw [strLen_mk, strLen_mk]; have := HL.out.2; omega
          · go_wp2
            go_loop [7] (fun ii => ii = .int .i64 0) (fun _ => 0)
            case atStart => rfl
            case round =>
              subst hrel
              by_cases hc0 : 0 < cs.length
              all_goals
                go_wp2
                go_roundw
                case rel => exact ⟨k, P, ⟨zp, true⟩, HL.out.1, by rw [HE.out (by first | rfl | trivial), symL_bad _ _ _ _ _ rfl], rfl, hR2, hO3⟩
                case measure => rw [strLen_mk, strLen_mk]; have := HL.out.2; omega
    · have H : Hid (symT s cs st = (0, ⟨tp, true⟩)) := hS.trans (symL_bad s cs k pre ⟨tp, true⟩ rfl)
      by_cases hl : pre.length < 15
      · clear hS hpk
        go_wp2
        go_ret
        exact ⟨ret_int (by rw [H.out]; rfl), by rw [H.out]; exact hRt.set2 true, hOt.setCell 2 _⟩
      · clear hS hpk
        go_wp2
        go_ret
        exact ⟨ret_int (by rw [H.out]; rfl), by rw [H.out]; exact hRt.set2 true, hOt.setCell 2 _⟩
set_option maxRecDepth 10000 in
set_option maxHeartbeats 4000000 in
theorem symbol_nil (b : Nat) (s : ByteArray) (st : RS) (w : World) (hR : RowIs w b s st) (hs : s.size ≤ 140737488351232) :
    Calls Tryz.prog 46 #[.pointer (some ⟨b, 0, none⟩), .slice none 0 0] w fun e w' => e = .returned (.int .i64 (((symT s [] st).1 : Nat) : Int)) ∧ RowIs w' b s (symT s [] st).2 ∧ Only b w w' := by
  go_enter Tryz.func46, Tryz.ntmps46
  go_wp2
  go_loopw [5] (fun p wr => ∃ (k : Nat) (pre : List UInt8) (t : RS), pre.length + k = 15 ∧ symT s [] st = symL s [] k pre t ∧ p = .string ⟨pre.toArray⟩ ∧ RowIs wr b s t ∧ Only b w wr) (fun p _ => 15 - strLen p)
  case atStart => exact ⟨15, [], st, rfl, rfl, rfl, hR, Only.refl b w⟩
  case round =>
    obtain ⟨k, pre, t, hpk, hS, rfl, hRt, hOt⟩ := hrel
    have hc2 := hRt.c2
    have hf2 := hRt.free 2
    obtain ⟨tp, tb⟩ := t
    cases tb
    · cases k with
      | zero =>
        have H : Hid (symT s [] st = (0, ⟨tp, true⟩)) := hS
        have hl : ¬ pre.length < 15 := by omega
        clear hS hpk
        go_wp2
        go_ret
        exact ⟨ret_int (by rw [H.out]; rfl), by rw [H.out]; exact hRt.set2 true, hOt.setCell 2 _⟩
      | succ k =>
        have hl : pre.length < 15 := by omega
        have HS : Hid _ := hS
        have HP : Hid _ := hpk
        clear hS hpk
        go_wp2_with fail
        refine (one_any b s ⟨tp, false⟩ _ hRt hs).mono ?_
        rintro e w2 ⟨rfl, hR2, hO2⟩
        have hone := oneT_le s ⟨tp, false⟩
        have HE : Hid ((oneT s ⟨tp, false⟩).2.bad = true → symT s [] st = (0, ⟨(oneT s ⟨tp, false⟩).2.pos, true⟩)) := fun h => HS.out.trans (symL_end s [] k pre ⟨tp, false⟩ rfl h)
        have HM : Hid ((oneT s ⟨tp, false⟩).2.bad = false → symT s [] st = symL s [] k (pre ++ [sign (oneT s ⟨tp, false⟩).1]) (oneT s ⟨tp, false⟩).2) := fun h => HS.out.trans (symL_miss s [] k pre ⟨tp, false⟩ rfl h rfl)
        generalize oneT s ⟨tp, false⟩ = z at *
        obtain ⟨z1, zp, zb⟩ := z
        have hO3 := hOt.trans hO2
        have hd2 := hR2.c2
        have hz : z1 = 0 ∨ z1 = 1 := by simp at hone; omega
        have HL : Hid ((pre ++ [sign z1]).length + k = 15 ∧ (pre ++ [sign z1]).length = pre.length + 1) := (⟨by have := HP.out; simp; omega, by simp⟩ : _ ∧ _)
        clear hc2 hf2 hone HS
        go_upto_if 21 with fail
        go_cut [5] (fun v wx => v = .string ⟨(pre ++ [sign z1]).toArray⟩ ∧ wx = w2)
        case first =>
          rcases hz with rfl | rfl
          · go_wp2
            go_meet
            case rel => exact ⟨by rw [snoc48]; rfl, rfl⟩
          · go_wp2
            go_meet
            case rel => exact ⟨by rw [snoc49]; rfl, rfl⟩
        case rest =>
          obtain ⟨rfl, hww⟩ := hcut
          have hww := hww.symm
          subst hww
          generalize pre ++ [sign z1] = P at *
          cases zb
          · go_wp2
            go_loop [7] (fun ii => ii = .int .i64 0) (fun _ => 0)
            case atStart => rfl
            case round =>
              subst hrel
              go_wp2
              go_roundw
              case rel => exact ⟨k, P, ⟨zp, false⟩, HL.out.1, HM.out (by first | rfl | trivial), rfl, hR2, hO3⟩
              case measure => rw [strLen_mk, strLen_mk]; have := HL.out.2; omega
          · go_wp2
            go_loop [7] (fun ii => ii = .int .i64 0) (fun _ => 0)
            case atStart => rfl
            case round =>
              subst hrel
              go_wp2
              go_roundw
              case rel => exact ⟨k, P, ⟨zp, true⟩, HL.out.1, by rw [HE.out (by first | rfl | trivial), symL_bad _ _ _ _ _ rfl], rfl, hR2, hO3⟩
              case measure => rw [strLen_mk, strLen_mk]; have := HL.out.2; omega
    · have H : Hid (symT s [] st = (0, ⟨tp, true⟩)) := hS.trans (symL_bad s [] k pre ⟨tp, true⟩ rfl)
      by_cases hl : pre.length < 15
      · clear hS hpk
        go_wp2
        go_ret
        exact ⟨ret_int (by rw [H.out]; rfl), by rw [H.out]; exact hRt.set2 true, hOt.setCell 2 _⟩
      · clear hS hpk
        go_wp2
        go_ret
        exact ⟨ret_int (by rw [H.out]; rfl), by rw [H.out]; exact hRt.set2 true, hOt.setCell 2 _⟩
theorem symbol_any (b : Nat) (s : ByteArray) (st : RS) (cs : List (Nat × List UInt8)) (v : Value) (w : World) (hR : RowIs w b s st) (hs : s.size ≤ 140737488351232) (hC : CodesAt w v cs) (hlen : cs.length ≤ 1000000) :
    Calls Tryz.prog 46 #[.pointer (some ⟨b, 0, none⟩), v] w fun e w' => e = .returned (.int .i64 (((symT s cs st).1 : Nat) : Int)) ∧ RowIs w' b s (symT s cs st).2 ∧ Only b w w' := by
  rcases hC with ⟨rfl, rfl⟩ | ⟨g, cap, cur, rfl, _, hblk, hcur⟩
  · exact symbol_nil b s st w hR hs
  · exact symbol_some b s st cs g cap cur w hR hs hlen hblk hcur
end Go.Proofs.YtjfifmadldcjjaaGreatDoor.RfW
