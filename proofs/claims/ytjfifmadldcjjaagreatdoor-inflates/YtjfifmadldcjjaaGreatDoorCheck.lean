/- Which lengths a block may have; the walk of checkLengths. -/
import Derived.Test.YtjfifmadldcjjaaGreatDoorLens
set_option linter.unusedVariables false
namespace Go.Proofs.YtjfifmadldcjjaaGreatDoor.Rf
theorem cnt_cons (x : Nat) (L : List Nat) : cnt (x :: L) = (if 0 < x then 1 else 0) + cnt L := by
  unfold cnt
  by_cases h : 0 < x
  · simp [h]; omega
  · simp [h]
theorem muchL_cons (x : Nat) (L : List Nat) : muchL (x :: L) = (if 0 < x then pw (15 - x) else 0) + muchL L := by
  unfold muchL; rw [List.map_cons, List.sum_cons]
theorem much_zero_cnt (L : List Nat) (h : muchL L = 0) : cnt L = 0 := by
  induction L with
  | nil => rfl
  | cons x L ih =>
    rw [muchL_cons] at h
    have hx : ¬ 0 < x := by
      intro hx
      rw [if_pos hx] at h
      have := pw_pos (15 - x)
      omega
    rw [if_neg hx] at h
    rw [cnt_cons, if_neg hx, ih (by omega)]
theorem cnt_pos (L : List Nat) : ∀ i, L.getD i 0 ≠ 0 → 0 < cnt L := by
  induction L with
  | nil => intro i h; simp at h
  | cons x L ih =>
    intro i h
    rw [cnt_cons]
    cases i with
    | zero => simp at h; rw [if_pos (by omega)]; omega
    | succ i => have := ih i (by simpa using h); omega
theorem single_much (L : List Nat) : ∀ i, cnt L = 1 → L.getD i 0 ≠ 0 → muchL L = pw (15 - L.getD i 0) := by
  induction L with
  | nil => intro i h; cases h
  | cons x L ih =>
    intro i h h2
    rw [cnt_cons] at h
    rw [muchL_cons]
    cases i with
    | zero =>
      simp at h2
      rw [if_pos (by omega)] at h ⊢
      rw [cnt_zero_much L (by omega)]
      simp
    | succ i =>
      have h3 : L.getD i 0 ≠ 0 := by simpa using h2
      have h4 := cnt_pos L i h3
      have hx : ¬ 0 < x := by
        intro hx; rw [if_pos hx] at h; omega
      rw [if_neg hx] at h ⊢
      have := ih i (by omega) h3
      simp only [List.getD_cons_succ]
      omega
theorem pw_14 (x : Nat) (h0 : x ≠ 0) (h : x ≤ 15) (e : pw (15 - x) = 16384) : x = 1 := by
  by_cases h1 : x = 1
  · exact h1
  · have h2 : pw (15 - x) ≤ pw 13 := pw_le _ _ (by omega)
    have h3 : pw 13 = 8192 := rfl
    omega
end Go.Proofs.YtjfifmadldcjjaaGreatDoor.Rf
namespace Go.Proofs.YtjfifmadldcjjaaGreatDoor.Pr
open Go.RowKit Rf
theorem fitT_le (L : List Nat) : fitT L ≤ 3 := by
  unfold fitT; split
  · omega
  · split
    · omega
    · split <;> omega
/-- lengths that a block may have -/
def okAB (A B : List Nat) : Prop := (fitT A = 1 ∨ fitT A = 2) ∧ A.getD 256 0 ≠ 0 ∧ fitT B ≠ 0
theorem wrong_iff (a : Nat) (L : List Nat) (ha : 257 ≤ a) (hl : a ≤ L.length) (hx : ∀ x ∈ L, x ≤ 15) : wrongT a L = false ↔ okAB (L.take a) (L.drop a) := by
  have hA : ∀ x ∈ L.take a, x ≤ 15 := fun x h => hx x (List.mem_of_mem_take h)
  have hB : ∀ x ∈ L.drop a, x ≤ 15 := fun x h => hx x (List.mem_of_mem_drop h)
  have e256 : L.getD 256 0 = (L.take a).getD 256 0 := by
    rw [List.getD_eq_getElem?_getD, List.getD_eq_getElem?_getD, List.getElem?_take_of_lt (by omega)]
  unfold wrongT okAB loneT noneT singleT
  rw [codesT_muchL _ hA, codesT_muchL _ hB, e256]
  generalize hAA : L.take a = A at *
  generalize hBB : L.drop a = B at *
  have hA15 : A.getD 256 0 ≤ 15 := getD_le A 15 hA 256
  have k1 : A.getD 256 0 ≠ 0 → cnt A = 1 → muchL A = 16384 → A.getD 256 0 = 1 := fun h1 h2 h3 => by
    have := single_much A 256 h2 h1
    exact pw_14 _ h1 hA15 (by omega)
  have k2 : cnt A = 0 → A.getD 256 0 = 0 := fun h => by
    by_cases h0 : A.getD 256 0 = 0
    · exact h0
    · have := cnt_pos A 256 h0; omega
  have k3 : cnt B = 0 ↔ muchL B = 0 := ⟨cnt_zero_much B, much_zero_cnt B⟩
  have k4 : cnt A = 0 → muchL A = 0 := cnt_zero_much A
  unfold fitT
  generalize A.getD 256 0 = x at *
  generalize cnt A = ca at *
  generalize muchL A = ma at *
  generalize cnt B = cb at *
  generalize muchL B = mb at *
  clear hAA hBB hA hB e256 hx hl ha
  simp only [Bool.or_eq_false_iff, Bool.and_eq_false_iff, beq_eq_false_iff_ne, bne_eq_false_iff_eq, Bool.not_eq_false', Bool.and_eq_true, beq_iff_eq, Bool.or_eq_true, ne_eq]
  constructor
  · rintro ⟨⟨h1, h2⟩, h3⟩
    refine ⟨?_, h1, ?_⟩
    · by_cases c0 : ca = 0
      · exact absurd (k2 c0) h1
      · rw [if_neg c0]
        by_cases c1 : ma = 32768
        · rw [if_pos c1]; exact .inl rfl
        · rw [if_neg c1]
          rcases h2 with h2 | ⟨⟨h4, _⟩, h5⟩
          · exact absurd h2 c1
          · rw [if_pos ⟨h5, h4⟩]; exact .inr rfl
    · by_cases c0 : cb = 0
      · rw [if_pos c0]; omega
      · rw [if_neg c0]
        by_cases c1 : mb = 32768
        · rw [if_pos c1]; omega
        · rw [if_neg c1]
          rcases h3 with h3 | h3 | ⟨h4, h5⟩
          · exact absurd h3 c1
          · exact absurd (k3.2 h3) c0
          · rw [if_pos ⟨h5, h4⟩]; omega
  · rintro ⟨h1, h2, h3⟩
    refine ⟨⟨h2, ?_⟩, ?_⟩
    · by_cases c0 : ca = 0
      · exact absurd (k2 c0) h2
      · rw [if_neg c0] at h1
        by_cases c1 : ma = 32768
        · exact .inl c1
        · rw [if_neg c1] at h1
          by_cases c2 : ca = 1 ∧ ma = 16384
          · exact .inr ⟨⟨c2.2, k1 h2 c2.1 c2.2⟩, c2.1⟩
          · rw [if_neg c2] at h1; omega
    · by_cases c0 : cb = 0
      · exact .inr (.inl (k3.1 c0))
      · rw [if_neg c0] at h3
        by_cases c1 : mb = 32768
        · exact .inl c1
        · rw [if_neg c1] at h3
          by_cases c2 : cb = 1 ∧ mb = 16384
          · exact .inr (.inr ⟨c2.2, c2.1⟩)
          · rw [if_neg c2] at h3; omega
theorem fit_few (L : List Nat) (hx : ∀ x ∈ L, x ≤ 15) (h : fitT L ≠ 0) : kN L 16 ≤ 32768 := by
  rw [kN_much L hx]
  unfold fitT at h
  by_cases c0 : cnt L = 0
  · rw [cnt_zero_much L c0]; omega
  · rw [if_neg c0] at h
    by_cases c1 : muchL L = 32768
    · omega
    · rw [if_neg c1] at h
      by_cases c2 : cnt L = 1 ∧ muchL L = 16384
      · omega
      · rw [if_neg c2] at h; omega
set_option maxRecDepth 10000 in
set_option maxHeartbeats 4000000 in
theorem check_ok (b o cap b2 o2 cap2 : Nat) (A B : List Nat) (w : World) (hA : BytesAt w b o A) (hla : A.length ≤ 400) (hl2 : 257 ≤ A.length) (hxa : ∀ x ∈ A, x ≤ 15) (hB : BytesAt w b2 o2 B) (hlb : B.length ≤ 400) (hxb : ∀ x ∈ B, x ≤ 15) (hok : okAB A B) :
    Calls Tryz.prog 81 #[.slice (some ⟨b, o, none⟩) A.length cap, .slice (some ⟨b2, o2, none⟩) B.length cap2] w fun e w' => e = .returned .nilIface ∧ w' = w := by
  obtain ⟨h1, h2, h3⟩ := hok
  have hc := hA 256 (by omega)
  have hx15 : A.getD 256 0 ≤ 15 := getD_le A 15 hxa 256
  have hbl := fitT_le B
  have hfa := fit_any b o cap A w hA hla hxa
  have hfb := fit_any b2 o2 cap2 B w hB hlb hxb
  generalize A.getD 256 0 = x at *
  generalize fitT A = fa at *
  generalize fitT B = fb at *
  have dx : ((x : Int) == 0) = false := by rw [beq_eq_false_iff_ne]; omega
  have db : ((fb : Int) == 0) = false := by rw [beq_eq_false_iff_ne]; omega
  rcases h1 with rfl | rfl
  · go_enter Tryz.func81, Tryz.ntmps81
    go_wp2_with fail
    refine hfa.mono ?_
    rintro e w1 ⟨rfl, hw⟩
    have hw := hw.symm
    subst hw
    go_wp2_with fail
    refine hfb.mono ?_
    rintro e w1 ⟨rfl, hw⟩
    have hw := hw.symm
    subst hw
    go_wp2_with fail
    go_ret
    exact ⟨rfl, rfl⟩
  · go_enter Tryz.func81, Tryz.ntmps81
    go_wp2_with fail
    refine hfa.mono ?_
    rintro e w1 ⟨rfl, hw⟩
    have hw := hw.symm
    subst hw
    go_wp2_with fail
    refine hfb.mono ?_
    rintro e w1 ⟨rfl, hw⟩
    have hw := hw.symm
    subst hw
    go_wp2_with fail
    go_ret
    exact ⟨rfl, rfl⟩
set_option maxRecDepth 10000 in
set_option maxHeartbeats 4000000 in
theorem check_no (b o cap b2 o2 cap2 : Nat) (A B : List Nat) (w : World) (hA : BytesAt w b o A) (hla : A.length ≤ 400) (hl2 : 257 ≤ A.length) (hxa : ∀ x ∈ A, x ≤ 15) (hB : BytesAt w b2 o2 B) (hlb : B.length ≤ 400) (hxb : ∀ x ∈ B, x ≤ 15) (hok : ¬ okAB A B) :
    Calls Tryz.prog 81 #[.slice (some ⟨b, o, none⟩) A.length cap, .slice (some ⟨b2, o2, none⟩) B.length cap2] w fun e w' => (∃ a, e = .returned (.iface 62 (.pointer (some a)))) ∧ ∃ o, w' = w.alloc o := by
  have hc := hA 256 (by omega)
  have hx15 : A.getD 256 0 ≤ 15 := getD_le A 15 hxa 256
  have hal := fitT_le A
  have hbl := fitT_le B
  have hfa := fit_any b o cap A w hA hla hxa
  have hfb := fit_any b2 o2 cap2 B w hB hlb hxb
  have HK : Hid (¬ ((fitT A = 1 ∨ fitT A = 2) ∧ A.getD 256 0 ≠ 0 ∧ fitT B ≠ 0)) := hok
  clear hok
  generalize A.getD 256 0 = x at *
  generalize fitT A = fa at *
  generalize fitT B = fb at *
  by_cases h1 : fa = 1 ∨ fa = 2
  · have d12 : (fa = 1 → ((fa : Int) == 1) = true) ∧ True := ⟨fun h => by subst h; rfl, trivial⟩
    by_cases h2 : x = 0
    · subst h2
      rcases h1 with rfl | rfl
      all_goals
        go_enter Tryz.func81, Tryz.ntmps81
        go_wp2_with fail
        refine hfa.mono ?_
        rintro e w1 ⟨rfl, hw⟩
        have hw := hw.symm
        subst hw
        go_wp2_with fail
        refine (mal_any _ _).mono ?_
        rintro e w2 ⟨rfl, rfl⟩
        go_wp2_with fail
        go_ret
        exact ⟨⟨_, rfl⟩, _, rfl⟩
    · have h3 : fb = 0 := by
        by_cases h3 : fb = 0
        · exact h3
        · exact absurd ⟨h1, h2, h3⟩ HK.out
      subst h3
      have dx : ((x : Int) == 0) = false := by rw [beq_eq_false_iff_ne]; omega
      rcases h1 with rfl | rfl
      all_goals
        go_enter Tryz.func81, Tryz.ntmps81
        go_wp2_with fail
        refine hfa.mono ?_
        rintro e w1 ⟨rfl, hw⟩
        have hw := hw.symm
        subst hw
        go_wp2_with fail
        refine hfb.mono ?_
        rintro e w1 ⟨rfl, hw⟩
        have hw := hw.symm
        subst hw
        go_wp2_with fail
        refine (mal_any _ _).mono ?_
        rintro e w2 ⟨rfl, rfl⟩
        go_wp2_with fail
        go_ret
        exact ⟨⟨_, rfl⟩, _, rfl⟩
  · have h1' : fa = 0 ∨ fa = 3 := by omega
    clear h1
    rcases h1' with rfl | rfl
    all_goals
      go_enter Tryz.func81, Tryz.ntmps81
      go_wp2_with fail
      refine hfa.mono ?_
      rintro e w1 ⟨rfl, hw⟩
      have hw := hw.symm
      subst hw
      go_wp2_with fail
      refine (mal_any _ _).mono ?_
      rintro e w2 ⟨rfl, rfl⟩
      go_wp2_with fail
      go_ret
      exact ⟨⟨_, rfl⟩, _, rfl⟩
end Go.Proofs.YtjfifmadldcjjaaGreatDoor.Pr
