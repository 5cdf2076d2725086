/- The walks of the document's fixed lengths: fives, fixedLiterals; and what a list of numbers of the call's own is. -/
import Derived.Test.YtjfifmadldcjjaaGreatDoorRefSmall
import Derived.OwnWalk
import Derived.Deep.DeepMust
namespace Go.Proofs.YtjfifmadldcjjaaGreatDoor.RfW
open Go.RowKit Rf
theorem infoInt : (Tryz.prog.info? 3).map (fun i => (i.zero, i.size, i.bytes)) = some (some (.int .i64 0), 1, 8) := by kernel_rfl
/-- the numbers as cells -/
def nums (L : List Nat) : List Value := L.map fun (n : Nat) => .int .i64 (n : Int)
theorem nums_snoc (L : List Nat) (x : Nat) : nums (L ++ [x]) = nums L ++ [.int .i64 (x : Int)] := by simp [nums]
theorem rep_snoc (k x : Nat) : List.replicate (k + 1) x = List.replicate k x ++ [x] := List.replicate_succ'
/-- the slice v holds these numbers, in a block of ints -/
def IntsAt (w : World) (v : Value) (L : List Nat) : Prop :=
  ∃ g off cap cur, v = .slice (some ⟨g, off, none⟩) L.length cap ∧ L.length ≤ cap ∧ w.heap[g]? = some (.cells cur 3 (0, 0)) ∧ ∀ i, i < L.length → cur[off + i]? = some (.int .i64 ((L.getD i 0 : Nat) : Int))
theorem ints_of_own {w : World} {base : Nat} {v : Value} {L : List Nat} (h : w.ownsRow base 3 1 v L.length (nums L)) (hL : L ≠ []) : IntsAt w v L := by
  obtain ⟨_, h | ⟨g, cap, cur, rfl, _, hh, hc, _, _, htake⟩⟩ := h
  · exact absurd (List.eq_nil_of_length_eq_zero h.2) hL
  · refine ⟨g, 0, cap, cur, rfl, hc, hh, fun i hi => ?_⟩
    have e : (cur.toList.take (L.length * 1))[i]? = (nums L)[i]? := by rw [htake]
    rw [List.getElem?_take, if_pos (by omega), Array.getElem?_toList] at e
    rw [Nat.zero_add, e]
    simp [nums, List.getD, List.getElem?_eq_getElem hi]
/-- one number more, behind a list of the call's own -/
theorem append_int {wr : World} {ops : Array Oper} {rest : List Oper} {o : Oper} {a : Act} {Q : Exit → Act → World → Prop} (hgd : o.guard = none) (s x : Operand)
    (ho : o.op = .call { callee := .builtin .append, args := #[s, x], argTypes := #[68, 68] }) (base : Nat) (v : Value) (n : Nat) (xs : List Value) (z : Int)
    (hown : wr.ownsRow base 3 1 v n xs) (hs : a.eval s = v) (hx : a.eval x = .slice (some ⟨wr.heap.size, 0, none⟩) 1 1) (hn : n ≤ 1000000) (hb : base ≤ wr.heap.size)
    (h : ∀ v' w', w'.ownsRow base 3 1 v' (n + 1) (xs ++ [.int .i64 z]) → (wr.alloc (.cells #[.int .i64 z] 3)).grownBy w' v.ownBlock → wpList Tryz.prog ops Q rest (a.put o.dst v') w') :
    wpList Tryz.prog ops Q (o :: rest) a (wr.alloc (.cells #[.int .i64 z] 3)) := by
  obtain ⟨i0, hi, hz0, hz1, hz2⟩ := info_parts infoInt
  refine wpList_append_own _ hgd s x 68 ho base 3 i0 (.int .i64 0) 1 8 Tryz.underlying68 hi hz0 hz1 hz2 rfl (by decide) v n xs hs (hown.alloc _) ⟨wr.heap.size, 0, none⟩ 1 1 [.int .i64 z] hx rfl ?_ ?_ ?_ ?_ ?_ ?_
  · intro j u hj
    match j, hj with
    | 0, hj => simp at hj; subst hj; simp [Addr.add]
  · intro u hu; simp at hu; subst hu; rfl
  · unfold maxLen; omega
  · omega
  · simp; omega
  · intro v' w' h1 h2 _; exact h v' w' h1 h2
theorem below_app {B base e size n : Nat} {w wr w' : World} {v : Value} {xs : List Value} {blk : Obj} (hbel : Below B w wr) (hB : B ≤ base) (hs : B ≤ wr.heap.size) (hown : wr.ownsRow base e size v n xs) (hg : (wr.alloc blk).grownBy w' v.ownBlock) : Below B w w' :=
  (hbel.alloc hs blk).grown hg (Nat.le_trans hs (by simp)) (fun k hk => Nat.le_trans hB (hown.lt k hk).1)
theorem size_app {wr w' : World} {blk : Obj} {r : Option Nat} (hg : (wr.alloc blk).grownBy w' r) : wr.heap.size ≤ w'.heap.size := by
  have := hg.size; simp at this; omega
set_option maxRecDepth 10000 in
set_option maxHeartbeats 1000000 in
theorem fives_any (w : World) :
    Calls Tryz.prog 29 #[] w fun e w' => ∃ v, e = .returned v ∧ IntsAt w' v (List.replicate 32 5) ∧ Below w.heap.size w w' := by
  go_enter Tryz.func29, Tryz.ntmps29
  go_wp2
  go_loopw [1, 2] (fun v i wr => ∃ k : Nat, k ≤ 32 ∧ i = .int .i64 k ∧ wr.ownsRow w.heap.size 3 1 v k (nums (List.replicate k 5)) ∧ Below w.heap.size w wr ∧ w.heap.size ≤ wr.heap.size) (fun _ i _ => 32 - (intOf i).toNat)
  case atStart => exact ⟨0, by omega, rfl, World.ownsRow_nil _ _ _ _, Below.refl _ _, Nat.le_refl _⟩
  case round =>
    obtain ⟨k, hk, rfl, hown, hbel, hsz⟩ := hrel
    by_cases hlt : k < 32
    · go_wp2_with (first
        | (at_builtin; refine append_int rfl _ _ rfl w.heap.size _ k (nums (List.replicate k 5)) 5 hown rfl rfl (by omega) hsz ?_; intro v' w1 hown' hg)
        | go_in)
      go_roundw
      case rel => exact ⟨k + 1, by omega, by go_num, by rw [rep_snoc, nums_snoc]; exact hown', below_app hbel (Nat.le_refl _) hsz hown hg, Nat.le_trans hsz (size_app hg)⟩
      case measure => simp [intOf]; omega
    · obtain rfl : k = 32 := by omega
      go_wp2
      go_ret
      exact ⟨_, rfl, ints_of_own (by simpa using hown) (by simp), hbel⟩
/-- the fixed lengths of the literal symbols -/
def fixAt (i : Nat) : Nat := if 144 ≤ i ∧ i < 256 then 9 else if 256 ≤ i ∧ i < 280 then 7 else 8
def fixL (n : Nat) : List Nat := (List.range n).map fixAt
theorem fixL_succ (n : Nat) : fixL (n + 1) = fixL n ++ [fixAt n] := by simp [fixL, List.range_succ]
theorem fixL_length (n : Nat) : (fixL n).length = n := by simp [fixL]
set_option maxRecDepth 10000 in
set_option maxHeartbeats 1000000 in
theorem fixed_any (w : World) :
    Calls Tryz.prog 28 #[] w fun e w' => ∃ v, e = .returned v ∧ IntsAt w' v (fixL 288) ∧ Below w.heap.size w w' := by
  go_enter Tryz.func28, Tryz.ntmps28
  go_wp2
  go_loopw [1, 2] (fun v i wr => ∃ k : Nat, k ≤ 288 ∧ i = .int .i64 k ∧ wr.ownsRow w.heap.size 3 1 v k (nums (fixL k)) ∧ Below w.heap.size w wr ∧ w.heap.size ≤ wr.heap.size) (fun _ i _ => 288 - (intOf i).toNat)
  case atStart => exact ⟨0, by omega, rfl, World.ownsRow_nil _ _ _ _, Below.refl _ _, Nat.le_refl _⟩
  case round =>
    obtain ⟨k, hk, rfl, hown, hbel, hsz⟩ := hrel
    by_cases hlt : k < 288
    · have hc : (k < 144 ∧ fixAt k = 8) ∨ (144 ≤ k ∧ k < 256 ∧ fixAt k = 9) ∨ (256 ≤ k ∧ k < 280 ∧ fixAt k = 7) ∨ (280 ≤ k ∧ fixAt k = 8) := by
        unfold fixAt; split
        · omega
        · split <;> omega
      rcases hc with ⟨h1, hf⟩ | ⟨h1, h2, hf⟩ | ⟨h1, h2, hf⟩ | ⟨h1, hf⟩
      all_goals
        have H : Hid _ := hf
        clear hf
        go_wp2_with (first
          | (at_builtin; refine append_int rfl _ _ rfl w.heap.size _ k (nums (fixL k)) _ hown rfl rfl (by omega) hsz ?_; intro v' w1 hown' hg)
          | go_in)
        go_roundw
        case rel => exact ⟨k + 1, by omega, by go_num, by rw [fixL_succ, nums_snoc, H.out]; exact hown', below_app hbel (Nat.le_refl _) hsz hown hg, Nat.le_trans hsz (size_app hg)⟩
        case measure => simp [intOf]; omega
    · obtain rfl : k = 288 := by omega
      go_wp2
      go_ret
      exact ⟨_, rfl, ints_of_own (by rw [fixL_length]; exact hown) (by intro e; have := fixL_length 288; rw [e] at this; simp at this), hbel⟩
end Go.Proofs.YtjfifmadldcjjaaGreatDoor.RfW
