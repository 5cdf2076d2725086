/- The walks of strings.Builder's WriteByte and String. -/
import Derived.Test.YtjfifmadldcjjaaGreatDoorApp
import Derived.Lib.Builder
import Derived.Lib.UnsafeStr
namespace Go.Proofs.YtjfifmadldcjjaaGreatDoor.Pr
open Go.RowKit Rf
open RfW (byteCells byteCells_snoc)
/-- but for the blocks of S nothing old has turned -/
structure Fr (S : Nat → Prop) (w w' : World) : Prop where
  os : w'.os = w.os
  tape : w'.tape = w.tape
  output : w'.output = w.output
  size : w.heap.size ≤ w'.heap.size
  block : ∀ k, k < w.heap.size → ¬ S k → w'.heap[k]? = w.heap[k]?
/-- a Builder in block ob: its row is v, it holds these bytes -/
def BldAt (w : World) (ob base : Nat) (v : Value) (out : List UInt8) : Prop := ∃ a : Option Addr, w.heap[ob]? = some (.cells #[.pointer a, v] 32 (0, 0)) ∧ (a = none ∨ a = some ⟨ob, 0, none⟩) ∧ w.ownsRow base 5 1 v out.length (byteCells out) ∧ (out = [] → v = .slice none 0 0) ∧ base ≤ w.heap.size ∧ base ≤ ob
theorem run_NoEscape (args : Array Value) (w : World) : (callFunc 36 args).run Tryz.prog w = ((Er.ext Tryz.f36 args).run Tryz.prog w).andThen fun v w' => .ok (.value v) w' :=
  Er.ext_run Tryz.func36 (by kernel_rfl) (by kernel_rfl) (by kernel_rfl) (by kernel_rfl) args w
theorem noEscape (x : Value) (w : World) : (Er.ext Tryz.f36 #[x]).run Tryz.prog w = .ok x w := by kernel_rfl
theorem infoBld : (Tryz.prog.info? 32).map (·.size) = some 2 := by kernel_rfl
set_option maxRecDepth 100000 in
set_option maxHeartbeats 2000000 in
theorem check_new (ob : Nat) (v : Value) (w : World) (h : w.heap[ob]? = some (.cells #[.pointer none, v] 32 (0, 0))) :
    Calls Tryz.prog 21 #[.pointer (some ⟨ob, 0, none⟩)] w fun e w' => e = .returned (.tuple #[]) ∧ w' = w.setCell ⟨ob, 0, none⟩ (.pointer (some ⟨ob, 0, none⟩)) := by
  obtain ⟨j, hj, hjs⟩ := Option.map_eq_some_iff.1 infoBld
  have c0 : w.cell? ⟨ob, 0, none⟩ = some (.pointer none) := by simpa using (cell_of h 0).1
  have f0 := (cell_of h 0).2
  have hsh : w.shape? ob = some (32, 2) := by simp [World.shape?, h]
  have h1 := Lib.run_to_unsafe (P := Tryz.prog) w (src := 29) (dst := 82) ⟨ob, 0, none⟩ Tryz.underlying29 Tryz.underlying82 hj (by rw [hjs]; omega) hsh (show (0 : Nat) < 2 by omega)
  have h2 := Lib.run_from_unsafe (P := Tryz.prog) w (src := 82) (dst := 29) ⟨ob, 0, none⟩ Tryz.underlying82 Tryz.underlying29 hj hsh (by kernel_rfl)
  have r1 := run_NoEscape
  have r2 := noEscape
  have k0 : (w.setCell ⟨ob, 0, none⟩ (.pointer (some ⟨ob, 0, none⟩))).cell? ⟨ob, 0, none⟩ = some (.pointer (some ⟨ob, 0, none⟩)) := by simpa using (cell_of (set_of h 0 (.pointer (some ⟨ob, 0, none⟩))) 0).1
  have h3 := Lib.run_neq_ptr_same (P := Tryz.prog) (w.setCell ⟨ob, 0, none⟩ (.pointer (some ⟨ob, 0, none⟩))) (tp := 29) ⟨ob, 0, none⟩ Tryz.underlying29 hj
  go_enter Tryz.func21, Tryz.ntmps21
  go_wp2
  go_end0
  exact ⟨rfl, rfl⟩
set_option maxRecDepth 100000 in
set_option maxHeartbeats 2000000 in
theorem check_old (ob : Nat) (v : Value) (w : World) (h : w.heap[ob]? = some (.cells #[.pointer (some ⟨ob, 0, none⟩), v] 32 (0, 0))) :
    Calls Tryz.prog 21 #[.pointer (some ⟨ob, 0, none⟩)] w fun e w' => e = .returned (.tuple #[]) ∧ w' = w := by
  obtain ⟨j, hj, hjs⟩ := Option.map_eq_some_iff.1 infoBld
  have c0 : w.cell? ⟨ob, 0, none⟩ = some (.pointer (some ⟨ob, 0, none⟩)) := by simpa using (cell_of h 0).1
  have h3 := Lib.run_neq_ptr_same (P := Tryz.prog) w (tp := 29) ⟨ob, 0, none⟩ Tryz.underlying29 hj
  go_enter Tryz.func21, Tryz.ntmps21
  go_wp2
  go_end0
  exact ⟨rfl, rfl⟩
theorem check_any (ob : Nat) (a : Option Addr) (v : Value) (w : World) (h : w.heap[ob]? = some (.cells #[.pointer a, v] 32 (0, 0))) (ha : a = none ∨ a = some ⟨ob, 0, none⟩) :
    Calls Tryz.prog 21 #[.pointer (some ⟨ob, 0, none⟩)] w fun e w' => e = .returned (.tuple #[]) ∧ w'.heap[ob]? = some (.cells #[.pointer (some ⟨ob, 0, none⟩), v] 32 (0, 0)) ∧ RfW.Only ob w w' := by
  rcases ha with rfl | rfl
  · refine (check_new ob v w h).mono ?_
    rintro e w' ⟨rfl, rfl⟩
    refine ⟨rfl, ?_, (RfW.Only.refl ob w).setCell 0 _⟩
    exact (set_of h 0 _).trans (by simp)
  · refine (check_old ob v w h).mono ?_
    rintro e w' ⟨rfl, rfl⟩
    exact ⟨rfl, h, RfW.Only.refl ob _⟩
theorem ownsRow_over {w w' : World} {base : Nat} {v : Value} {n : Nat} {xs : List Value} (h : w.ownsRow base 5 1 v n xs) (e : ∀ k, v.ownBlock = some k → w'.heap[k]? = w.heap[k]?) : w'.ownsRow base 5 1 v n xs := by
  refine ⟨h.1, ?_⟩
  rcases h.2 with h | ⟨g, cap, cur, rfl, a, b, c⟩
  · exact .inl h
  · exact .inr ⟨g, cap, cur, rfl, a, (e g rfl).trans b, c⟩
/-- a row of bytes lies in no block of another type -/
theorem row_ne {w : World} {base : Nat} {v : Value} {n : Nat} {xs : List Value} (h : w.ownsRow base 5 1 v n xs) {k : Nat} {cur : Array Value} {T : TypeId} {f : Nat × Nat} (hk : w.heap[k]? = some (.cells cur T f)) (hT : T ≠ 5) : v.ownBlock ≠ some k := by
  rcases h.2 with ⟨rfl, _⟩ | ⟨g, cap, cu, rfl, _, b, _⟩
  · simp [Value.ownBlock]
  · intro e
    simp [Value.ownBlock] at e
    subst e
    rw [b] at hk
    simp at hk
    exact hT hk.2.1.symm
set_option maxRecDepth 10000 in
set_option maxHeartbeats 2000000 in
theorem write_any (ob base : Nat) (v : Value) (out : List UInt8) (x : UInt8) (w : World) (h : BldAt w ob base v out) (hl : out.length ≤ 100000000) :
    Calls Tryz.prog 10 #[.pointer (some ⟨ob, 0, none⟩), .int .u8 ((x.toNat : Nat) : Int)] w fun e w' => e = .returned .nilIface ∧ ∃ v', BldAt w' ob base v' (out ++ [x]) ∧ Fr (fun k => k = ob ∨ v.ownBlock = some k) w w' ∧ (∀ k, v'.ownBlock = some k → v.ownBlock = some k ∨ w.heap.size ≤ k) := by
  obtain ⟨a, h1, h2, h3, h4, h5, h6⟩ := h
  have hnb : v.ownBlock ≠ some ob := row_ne h3 h1 (by decide)
  have hfin : ∀ (w1 : World) (v' : Value) (w2 : World), w1.heap[ob]? = some (.cells #[.pointer (some ⟨ob, 0, none⟩), v] 32 (0, 0)) → RfW.Only ob w w1 → w2.ownsRow base 5 1 v' (out.length + 1) (byteCells out ++ [.int .u8 ((x.toNat : Nat) : Int)]) → (w1.alloc (.cells #[.int .u8 ((x.toNat : Nat) : Int)] 5)).grownBy w2 v.ownBlock → (∀ k, v'.ownBlock = some k → v.ownBlock = some k ∨ w1.heap.size ≤ k) →
      BldAt (w2.setCell ⟨ob, 1, none⟩ v') ob base v' (out ++ [x]) ∧ Fr (fun k => k = ob ∨ v.ownBlock = some k) w (w2.setCell ⟨ob, 1, none⟩ v') ∧ (∀ k, v'.ownBlock = some k → v.ownBlock = some k ∨ w.heap.size ≤ k) := by
    intro w1 v' w2 g1 g2 hown' hg hw
    have hsz : w1.heap.size = w.heap.size := g2.size
    have hs2 : w1.heap.size + 1 ≤ w2.heap.size := by have := hg.size; simpa using this
    have hold : ∀ k, k < w.heap.size → k ≠ ob → v.ownBlock ≠ some k → w2.heap[k]? = w.heap[k]? := fun k hk h1 h2 =>
      ((hg.block k (by simp; omega) (fun e => h2 e.symm)).trans (Below.heap_alloc w1 _ k (by omega))).trans (g2.block k h1)
    have hob : w2.heap[ob]? = some (.cells #[.pointer (some ⟨ob, 0, none⟩), v] 32 (0, 0)) :=
      ((hg.block ob (by have := lt_of_some g1; simp; omega) (Ne.symm hnb)).trans (Below.heap_alloc w1 _ ob (lt_of_some g1))).trans g1
    refine ⟨⟨some ⟨ob, 0, none⟩, ?_, .inr rfl, ?_, ?_, by simp; omega, h6⟩, ⟨?_, ?_, ?_, by simp; omega, ?_⟩, fun k hk => by rw [← hsz]; exact hw k hk⟩
    · exact (set_of hob 1 v').trans (by simp)
    · rw [List.length_append, byteCells_snoc]
      exact ownsRow_over hown' (fun k hk => set_other 1 v' (fun e => row_ne hown' hob (by decide) (e ▸ hk)))
    · intro e; simp at e
    · exact hg.os.trans g2.os
    · exact hg.tape.trans g2.tape
    · exact hg.output.trans g2.output
    · intro k hk hS
      exact (set_other 1 v' (fun e => hS (.inl e))).trans (hold k hk (fun e => hS (.inl e)) (fun e => hS (.inr e)))
  have hown0 := h3
  rcases h3.2 with ⟨rfl, hv⟩ | ⟨g, cap, cur, rfl, hv⟩
  · go_enter Tryz.func10, Tryz.ntmps10
    go_wp2_with fail
    refine (check_any ob a _ w h1 h2).mono ?_
    rintro e w1 ⟨rfl, g1, g2⟩
    have hb1 : base ≤ w1.heap.size := by rw [g2.size]; exact h5
    have o1 : w1.ownsRow base 5 1 (.slice none 0 0) out.length (byteCells out) := ownsRow_over h3 (fun k hk => by simp [Value.ownBlock] at hk)
    have c1 : w1.cell? ⟨ob, 1, none⟩ = some (.slice none 0 0) := by simpa using (cell_of g1 1).1
    go_wp2_with (first
      | (at_builtin; refine append_byte2 rfl _ _ rfl base _ out.length (byteCells out) ((x.toNat : Nat) : Int) o1 rfl rfl hl hb1 ?_; go_must (intro v' w2 hown' hg hw; obtain ⟨g', cap', rfl⟩ := RfW.own_shape hown'; have hgu := RfW.grown_cell hg g1 (by simp [Value.ownBlock]); have hgf := hgu.2 1; have hgc : w2.cell? ⟨ob, 1, none⟩ = some (.slice none 0 0) := by simpa using (cell_of hgu.1 1).1))
      | go_in)
    go_ret
    have hl0 : out.length + 1 = 1 := by have : out.length = 0 := hv; omega
    have hown2 : w2.ownsRow base 5 1 (.slice (some ⟨g', 0, none⟩) 1 cap') (out.length + 1) (byteCells out ++ [.int .u8 ((x.toNat : Nat) : Int)]) := by
      rw [hl0] at hown' ⊢; exact hown'
    exact ⟨rfl, _, hfin w1 _ w2 g1 g2 hown2 hg (by rw [hl0] at hw; exact hw)⟩
  · go_enter Tryz.func10, Tryz.ntmps10
    go_wp2_with fail
    refine (check_any ob a _ w h1 h2).mono ?_
    rintro e w1 ⟨rfl, g1, g2⟩
    have hb1 : base ≤ w1.heap.size := by rw [g2.size]; exact h5
    have hgo : g ≠ ob := fun e => hnb (by rw [← e]; rfl)
    have o1 : w1.ownsRow base 5 1 (.slice (some ⟨g, 0, none⟩) out.length cap) out.length (byteCells out) := ownsRow_over h3 (fun k hk => g2.block k (fun e => hnb (e ▸ hk)))
    have c1 : w1.cell? ⟨ob, 1, none⟩ = some (.slice (some ⟨g, 0, none⟩) out.length cap) := by simpa using (cell_of g1 1).1
    go_wp2_with (first
      | (at_builtin; refine append_byte2 rfl _ _ rfl base _ out.length (byteCells out) ((x.toNat : Nat) : Int) o1 rfl rfl hl hb1 ?_; go_must (intro v' w2 hown' hg hw; obtain ⟨g', cap', rfl⟩ := RfW.own_shape hown'; have hgu := RfW.grown_cell hg g1 (by simp [Value.ownBlock]; exact Ne.symm hgo); have hgf := hgu.2 1; have hgc : w2.cell? ⟨ob, 1, none⟩ = some (.slice (some ⟨g, 0, none⟩) out.length cap) := by simpa using (cell_of hgu.1 1).1))
      | go_in)
    go_ret
    exact ⟨rfl, _, hfin w1 _ w2 g1 g2 hown' hg hw⟩
theorem cellsByte : Tryz.prog.cellsOf 5 = 1 := by kernel_rfl
set_option maxRecDepth 10000 in
set_option maxHeartbeats 2000000 in
theorem string_any (ob base : Nat) (v : Value) (out : List UInt8) (w : World) (h : BldAt w ob base v out) :
    Calls Tryz.prog 12 #[.pointer (some ⟨ob, 0, none⟩)] w fun e w' => e = .returned (.string ⟨out.toArray⟩) ∧ Below base w w' := by
  obtain ⟨a, h1, h2, h3, h4, h5, h6⟩ := h
  by_cases h0 : out = []
  · have hv := h4 h0
    subst hv
    have c1 : w.drew.cell? ⟨ob, 1, none⟩ = some (.slice none 0 0) := by simpa using (cell_of h1 1).1
    have hSD : (Builtin.unsafeSliceData_ #[30] 66 #[.slice none 0 0]).run Tryz.prog w.drew = .ok (.pointer none) w.drew := rfl
    have hUS := Lib.run_unsafeString_none (P := Tryz.prog) w.drew 66 3 9 none
    go_enter Tryz.func12, Tryz.ntmps12
    go_wp2
    go_region
    all_goals (go_wp2; go_ret; exact ⟨by rw [h0]; rfl, Below.drew (Below.refl base w)⟩)
  · have hl0 : out.length ≠ 0 := by simpa using h0
    obtain ⟨g, cap, cur, rfl, hbg, hg, hnc, hcm, hcs, htake⟩ : ∃ g cap cur, v = .slice (some ⟨g, 0, none⟩) out.length cap ∧ base ≤ g ∧ w.heap[g]? = some (.cells cur 5 (0, 0)) ∧ out.length ≤ cap ∧ cap ≤ maxLen ∧ cur.size = cap * 1 ∧ cur.toList.take (out.length * 1) = byteCells out := by
      rcases h3.2 with ⟨_, hz⟩ | ⟨g, cap, cur, hv, r⟩
      · exact absurd hz hl0
      · exact ⟨g, cap, cur, hv, r⟩
    have c1 : w.drew.cell? ⟨ob, 1, none⟩ = some (.slice (some ⟨g, 0, none⟩) out.length cap) := by simpa using (cell_of h1 1).1
    have hSD : (Builtin.unsafeSliceData_ #[30] 66 #[.slice (some ⟨g, 0, none⟩) out.length cap]).run Tryz.prog w.drew = .ok (.pointer (some ⟨g, 0, none⟩)) w.drew := Lib.run_unsafeSliceData_row _ _ _ _ _ _ (by omega)
    have hUS : (Builtin.unsafeString_ #[66, 3] 9 #[.pointer (some ⟨g, 0, none⟩), .int .i64 out.length]).run Tryz.prog w.drew = .ok (.string ⟨out.toArray⟩) (w.drew.freeze ⟨g, 0, none⟩ out.length) := by
      refine Lib.run_unsafeString_row w.drew 66 3 9 5 Tryz.underlying66 cellsByte g cur.size (by have hg' : w.drew.heap[g]? = some (.cells cur 5 (0, 0)) := hg; simp [World.shape?, hg']) out h0 (by omega) (by unfold maxLen at hcm; omega) ?_
      intro j x hx
      have := h3.cells (g := g) rfl j (.int .u8 x.toNat) (by simp [byteCells, hx])
      exact this
    go_enter Tryz.func12, Tryz.ntmps12
    go_wp2
    go_region
    all_goals (go_wp2; go_ret; exact ⟨rfl, Lib.below_freeze (Below.drew (Below.refl base w)) (p := ⟨g, 0, none⟩) hbg _⟩)
end Go.Proofs.YtjfifmadldcjjaaGreatDoor.Pr
