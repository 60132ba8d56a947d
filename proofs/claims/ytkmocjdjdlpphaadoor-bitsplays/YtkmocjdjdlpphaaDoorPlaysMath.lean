/-
  Plain numbers: what adding a list, or another set's members, makes of a set; when sets meet. No program is named in the statements.
-/
import Derived.Test.YtkmocjdjdlpphaaDoorIs
namespace Go.Proofs.YtkmocjdjdlpphaaDoor

theorem pc_two_pow (k i : Nat) : pc k (2 ^ i) = if i < k then 1 else 0 := by
  induction k with
  | zero => rfl
  | succ k ih =>
    rw [pc_succ, ih, Nat.testBit_two_pow]
    by_cases h : i = k
    · subst h; simp
    · by_cases h2 : i < k
      · simp [h, h2, Nat.lt_succ_of_lt h2]
      · have : ¬ i < k + 1 := by omega
        simp [h, h2, this]

theorem cnt_more {X i : Nat} (hi : i < 1024) (h : X.testBit i = false) : cnt (X ||| 2 ^ i) = cnt X + 1 := by
  have := pc_sum 1024 X (2 ^ i) (X ||| 2 ^ i) (fun j _ => by
    rw [Nat.testBit_or, Nat.testBit_two_pow]
    by_cases e : i = j
    · subst e; simp [h]
    · simp [e])
  rw [pc_two_pow, if_pos hi] at this
  unfold cnt
  omega

theorem addStep_cases (n : Nat) (s : Nat × Nat) (x : Int) : (addStep n s x = s ∧ (inB n x = true → s.1.testBit x.toNat = true)) ∨
    (addStep n s x = (s.1 ||| 2 ^ x.toNat, s.2 + 1) ∧ inB n x = true ∧ x.toNat < n ∧ s.1.testBit x.toNat = false) := by
  unfold addStep
  by_cases h : (inB n x && !hasB s.1 x) = true
  · rw [if_pos h]
    right
    simp only [Bool.and_eq_true, Bool.not_eq_true'] at h
    obtain ⟨h1, h2⟩ := h
    refine ⟨rfl, h1, ?_, ?_⟩
    · unfold inB at h1; simp only [Bool.and_eq_true, decide_eq_true_eq] at h1; omega
    · unfold inB at h1; simp only [Bool.and_eq_true, decide_eq_true_eq] at h1
      unfold hasB at h2
      simpa [h1.1] using h2
  · rw [if_neg h]
    left
    refine ⟨rfl, fun h1 => ?_⟩
    rw [h1] at h
    simp only [Bool.true_and, Bool.not_eq_true', Bool.not_eq_false] at h
    unfold hasB at h
    simp only [Bool.and_eq_true] at h
    exact h.2

theorem add_cnt_core (n : Nat) (hn : n ≤ 1024) (l : List Int) : ∀ s : Nat × Nat, cnt (l.foldl (addStep n) s).1 + s.2 = cnt s.1 + (l.foldl (addStep n) s).2 := by
  induction l with
  | nil => intro s; rfl
  | cons x l ih =>
    intro s
    rw [List.foldl_cons]
    have h := ih (addStep n s x)
    rcases addStep_cases n s x with ⟨e, _⟩ | ⟨e, _, hx, ht⟩
    · rw [e] at h ⊢; exact h
    · rw [e] at h ⊢
      have := cnt_more (X := s.1) (i := x.toNat) (by omega) ht
      simp only at h
      omega

theorem add_cnt (n X : Nat) (hn : n ≤ 1024) (l : List Int) : cnt (addS n X l).1 = cnt X + (addS n X l).2 := by
  have := add_cnt_core n hn l (X, 0)
  unfold addS
  simpa using this

theorem add_bits_core (n : Nat) (j : Nat) (l : List Int) : ∀ s : Nat × Nat, (l.foldl (addStep n) s).1.testBit j = (s.1.testBit j || (decide (j < n) && l.contains (j : Int))) := by
  induction l with
  | nil => intro s; simp
  | cons x l ih =>
    intro s
    rw [List.foldl_cons, ih]
    have key : (addStep n s x).1.testBit j = (s.1.testBit j || (decide (j < n) && decide ((j : Int) = x))) := by
      rcases addStep_cases n s x with ⟨e, h⟩ | ⟨e, hb, hx, ht⟩
      · rw [e]
        by_cases hj : (j : Int) = x
        · subst hj
          by_cases hjn : j < n
          · have := h (by unfold inB; simp [hjn])
            simp only [Int.toNat_natCast] at this
            simp [this]
          · simp [hjn]
        · simp [hj]
      · rw [e]
        simp only [Nat.testBit_or, Nat.testBit_two_pow]
        have h0 : 0 ≤ x := by unfold inB at hb; simp only [Bool.and_eq_true, decide_eq_true_eq] at hb; exact hb.1
        by_cases hj : (j : Int) = x
        · have : x.toNat = j := by omega
          have : j < n := by omega
          simp [*]
        · have : x.toNat ≠ j := by omega
          simp [hj, this]
    have hbq : decide ((j : Int) = x) = ((j : Int) == x) := rfl
    rw [key, List.contains_cons, hbq]
    generalize ((j : Int) == x) = q
    cases s.1.testBit j <;> cases decide (j < n) <;> simp

theorem add_bitsL (n X j : Nat) (l : List Int) : (addS n X l).1.testBit j = (X.testBit j || (decide (j < n) && l.contains (j : Int))) :=
  add_bits_core n j l (X, 0)

theorem mems_contains (k Y j : Nat) : (mems k Y).contains (j : Int) = (decide (j < k) && Y.testBit j) := by
  rw [Bool.eq_iff_iff, List.contains_iff_mem]
  unfold mems
  simp only [List.mem_map, List.mem_filter, List.mem_range, Bool.and_eq_true, decide_eq_true_eq]
  constructor
  · rintro ⟨i, hi, e⟩
    have : i = j := by omega
    subst this; exact hi
  · intro h; exact ⟨j, h, rfl⟩

/-- Another set's members added. -/
theorem add_mems {n X Y : Nat} (hn : n ≤ 1024) : (addS n X (mems 1024 Y)).1 = X ||| (Y &&& (2 ^ n - 1)) := by
  apply Nat.eq_of_testBit_eq
  intro j
  rw [add_bitsL, mems_contains, Nat.testBit_or, Nat.testBit_and, Nat.testBit_two_pow_sub_one]
  by_cases hj : j < n
  · have : j < 1024 := by omega
    simp [hj, this]
  · simp [hj]

theorem add_self {n X : Nat} (hn : n ≤ 1024) (hX : X < 2 ^ n) : (addS n X (mems 1024 X)).1 = X := by
  rw [add_mems hn, and_ones hX, Nat.or_self]
theorem add_all {n Y : Nat} (hn : n ≤ 1024) (hY : Y < 2 ^ n) : (addS n 0 (mems 1024 Y)).1 = Y := by
  rw [add_mems hn, and_ones hY, Nat.zero_or]

theorem uS_congr (n m : Nat) : ∀ (L L' : List (Option Addr × Nat)), L.map (·.2) = L'.map (·.2) → uS n m L = uS n m L' := by
  intro L
  induction L generalizing m with
  | nil => intro L' h; cases L' with
    | nil => rfl
    | cons => simp at h
  | cons e L ih => intro L' h; cases L' with
    | nil => simp at h
    | cons e' L' =>
      simp only [List.map_cons, List.cons.injEq] at h
      show uS n (m ||| (e.2 &&& _)) L = uS n (m ||| (e'.2 &&& _)) L'
      rw [h.1]
      exact ih _ _ h.2
theorem iS_congr (m : Nat) : ∀ (L L' : List (Option Addr × Nat)), L.map (·.2) = L'.map (·.2) → iS m L = iS m L' := by
  intro L
  induction L generalizing m with
  | nil => intro L' h; cases L' with
    | nil => rfl
    | cons => simp at h
  | cons e L ih => intro L' h; cases L' with
    | nil => simp at h
    | cons e' L' =>
      simp only [List.map_cons, List.cons.injEq] at h
      show iS (m &&& e.2) L = iS (m &&& e'.2) L'
      rw [h.1]
      exact ih _ _ h.2

theorem pc_pos (k m : Nat) : 0 < pc k m ↔ ∃ x, x < k ∧ m.testBit x = true := by
  induction k with
  | zero => simp [pc, ds]
  | succ k ih =>
    rw [pc_succ]
    cases h : m.testBit k with
    | true => simp only [if_true]; exact ⟨fun _ => ⟨k, by omega, h⟩, fun _ => by omega⟩
    | false =>
      simp only [Bool.false_eq_true, if_false, Nat.add_zero]
      rw [ih]
      constructor
      · rintro ⟨x, h1, h2⟩; exact ⟨x, by omega, h2⟩
      · rintro ⟨x, h1, h2⟩
        by_cases e : x = k
        · subst e; rw [h] at h2; cases h2
        · exact ⟨x, by omega, h2⟩

theorem cnt_pos {n m : Nat} (hn : n ≤ 1024) (hm : m < 2 ^ n) : 0 < cnt m ↔ ∃ x, x < n ∧ m.testBit x = true := by
  rw [← pc_full hn hm]; exact pc_pos n m

end Go.Proofs.YtkmocjdjdlpphaaDoor
