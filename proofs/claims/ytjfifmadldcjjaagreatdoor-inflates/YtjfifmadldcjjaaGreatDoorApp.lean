/- One byte more behind a row of the call's own: where the row lies then. -/
import Derived.Test.YtjfifmadldcjjaaGreatDoorRefPut
import Derived.Test.YtjfifmadldcjjaaGreatDoorTabs
namespace Go.Proofs.YtjfifmadldcjjaaGreatDoor.Pr
open Go.RowKit Rf
open RfW (byteCells byteCells_snoc infoByte)
theorem append_where {w : World} {base : Nat} {v v' : Value} {n : Nat} {xs : List Value} {z : Int} {w' : World} (ty : TypeId) (hown : w.ownsRow base 5 1 v n xs) (a : Addr) (c : Nat) (hx : w.cell? a = some (.int .u8 z)) (hn : n ≤ 100000000)
    (hr : (Builtin.append_ #[30, 30] ty #[v, .slice (some a) 1 c]).run Tryz.prog w = .ok v' w') : ∀ k, v'.ownBlock = some k → v.ownBlock = some k ∨ w.heap.size ≤ k := by
  obtain ⟨i0, hi, hz0, hz1, hz2⟩ := info_parts infoB
  have hnews : ∀ j u, [Value.int .u8 z][j]? = some u → w.cell? (a.add j) = some u := by
    intro j u hj
    match j, hj with
    | 0, hj => simp at hj; subst hj; simpa [Addr.add] using hx
  rcases hown.2 with ⟨rfl, rfl⟩ | ⟨g, cap, cur, rfl, hbg, hg, hnc, hcm, hcs, htake⟩
  · obtain ⟨v2, w2, hr2, ho2, _⟩ := run_append_own (P := Tryz.prog) w w.heap.size 30 ty 5 i0 (.int .u8 0) 1 1 Tryz.underlying30 hi hz0 hz1 hz2 rfl (by decide) (.slice none 0 0) 0 [] (World.ownsRow_nil _ _ _ _) a 1 c [.int .u8 z] rfl hnews (by intro u hu; simp at hu; subst hu; rfl) (by unfold maxLen; omega) (by omega) (Nat.le_refl _)
    rw [hr] at hr2
    obtain ⟨rfl, rfl⟩ : v' = v2 ∧ w' = w2 := by injection hr2 with a b; exact ⟨a, b⟩
    intro k hk
    exact .inr (ho2.lt k hk).1
  · by_cases hroom : n + 1 ≤ cap
    · have hr2 := run_append_room (P := Tryz.prog) w 30 ty 5 i0 Tryz.underlying30 hi g n cap cur hg a 1 c [.int .u8 z] (by rw [hz1]; rfl) hnews (by intro u hu; simp at hu; subst hu; rfl) hroom (by rw [hz1]; simp; omega)
      rw [hr] at hr2
      obtain ⟨rfl, _⟩ : v' = _ ∧ w' = _ := by injection hr2 with a b; exact ⟨a, b⟩
      intro k hk
      exact .inl hk
    · have hr2 := run_append_grow (P := Tryz.prog) w 30 ty 5 i0 (.int .u8 0) Tryz.underlying30 hi hz0 ⟨g, 0, none⟩ n cap xs (by rw [hz1]; exact hown.1) (hown.cells (g := g) rfl) a 1 c [.int .u8 z] (by rw [hz1]; rfl) hnews (by omega) (by omega) (growslice_fits (by omega) (by rw [hz2]; omega))
      rw [hr] at hr2
      obtain ⟨rfl, _⟩ : v' = _ ∧ w' = _ := by injection hr2 with a b; exact ⟨a, b⟩
      intro k hk
      simp [Value.ownBlock] at hk
      exact .inr (by omega)
theorem append_byte2 {wr : World} {ops : Array Oper} {rest : List Oper} {o : Oper} {a : Act} {Q : Exit → Act → World → Prop} (hgd : o.guard = none) (s x : Operand)
    (ho : o.op = .call { callee := .builtin .append, args := #[s, x], argTypes := #[30, 30] }) (base : Nat) (v : Value) (n : Nat) (xs : List Value) (z : Int)
    (hown : wr.ownsRow base 5 1 v n xs) (hs : a.eval s = v) (hx : a.eval x = .slice (some ⟨wr.heap.size, 0, none⟩) 1 1) (hn : n ≤ 100000000) (hb : base ≤ wr.heap.size)
    (h : ∀ v' w', w'.ownsRow base 5 1 v' (n + 1) (xs ++ [.int .u8 z]) → (wr.alloc (.cells #[.int .u8 z] 5)).grownBy w' v.ownBlock → (∀ k, v'.ownBlock = some k → v.ownBlock = some k ∨ wr.heap.size ≤ k) → wpList Tryz.prog ops Q rest (a.put o.dst v') w') :
    wpList Tryz.prog ops Q (o :: rest) a (wr.alloc (.cells #[.int .u8 z] 5)) := by
  obtain ⟨i0, hi, hz0, hz1, hz2⟩ := info_parts infoB
  have hcell : (wr.alloc (.cells #[.int .u8 z] 5)).cell? ⟨wr.heap.size, 0, none⟩ = some (.int .u8 z) := by simp
  have hnews : ∀ j u, [Value.int .u8 z][j]? = some u → (wr.alloc (.cells #[.int .u8 z] 5)).cell? ((⟨wr.heap.size, 0, none⟩ : Addr).add j) = some u := by
    intro j u hj
    match j, hj with
    | 0, hj => simp at hj; subst hj; simp [Addr.add]
  obtain ⟨v', w', hr, h2, h3, h4⟩ := run_append_own (P := Tryz.prog) (wr.alloc (.cells #[.int .u8 z] 5)) base 30 o.type 5 i0 (.int .u8 0) 1 1 Tryz.underlying30 hi hz0 hz1 hz2 rfl (by decide) v n xs (hown.alloc _) ⟨wr.heap.size, 0, none⟩ 1 1 [.int .u8 z] rfl hnews (by intro u hu; simp at hu; subst hu; rfl) (by unfold maxLen; omega) (by omega) (by simp; omega)
  have hw := append_where o.type (hown.alloc (.cells #[.int .u8 z] 5)) ⟨wr.heap.size, 0, none⟩ 1 hcell hn hr
  refine wpList_plain hgd fun K hK => ?_
  unfold Oper.wp execOp
  simp only [ho, resolve, invoke, builtin, Sem.run_bind, Sem.run_pure, Result.andThen_ok, List.map_toArray, List.map_cons, List.map_nil, hs, hx, hr]
  exact hK _ _ (h v' w' h2 h3 (fun k hk => (hw k hk).imp id (fun h => by simp at h; omega)))
end Go.Proofs.YtjfifmadldcjjaaGreatDoor.Pr
