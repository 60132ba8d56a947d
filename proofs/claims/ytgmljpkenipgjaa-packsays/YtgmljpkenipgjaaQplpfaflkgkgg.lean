import Derived.Test.YtgmljpkenipgjaaQgehhcgfoljml
import Derived.Sort.Grow
import Derived.Deep.RegionHeld3
import Derived.Test.YtgmljpkenipgjaaQbiiblbbglenn
import Derived.Laws.StructEq

/-
  lr0: items compared.
-/
namespace Go.Proofs.Ytgmljpkenipgjaa.J
open Go.RowKit Go.Maps Go.Shelf

attribute [local go_sem] Oper.semAt_some

/-- How two numbers compare. -/
def cmpN (x y : Int) : Int := if x < y then -1 else if y < x then 1 else 0
/-- How two items compare: by Prod, then by Dot. -/
def cmpI (x y : It) : Int := if cmpN x.1 y.1 = 0 then cmpN x.2 y.2 else cmpN x.1 y.1

theorem isNaN_any (x : Int) (w : World) : Calls Try.prog 58 #[.int .i64 x] w fun e y => e = .returned (.bool false) ∧ y = w := by
  have hx : (x != x) = false := bne_self_eq_false _
  go_enter Try.func58, Try.ntmps58
  go_wp2_with fail
  go_ret
  exact ⟨rfl, rfl⟩

set_option maxRecDepth 100000 in
theorem compare_any (x y : Int) (w : World) : Calls Try.prog 55 #[.int .i64 x, .int .i64 y] w fun e w' => e = .returned (.int .i64 (cmpN x y)) ∧ w' = w := by
  have HN : Hid (∀ z, Calls Try.prog 58 #[.int .i64 z] w fun e y => e = .returned (.bool false) ∧ y = w) := fun z => isNaN_any z w
  by_cases h1 : x < y
  · have d1 : decide (x < y) = true := decide_eq_true h1
    have HR : Hid (cmpN x y = -1) := by show _ = _; unfold cmpN; rw [if_pos h1]
    go_enter Try.func55, Try.ntmps55
    go_wp2_with (first | (go_at_call 58; refine Calls.mono (HN.out _) ?_; rintro e w' ⟨rfl, rfl⟩) | fail)
    go_ret
    exact ⟨by rw [HR.out]; rfl, rfl⟩
  · have d1 : decide (x < y) = false := decide_eq_false h1
    by_cases h2 : y < x
    · have d2 : decide (y < x) = true := decide_eq_true h2
      have HR : Hid (cmpN x y = 1) := by show _ = _; unfold cmpN; rw [if_neg h1, if_pos h2]
      go_enter Try.func55, Try.ntmps55
      go_wp2_with (first | (go_at_call 58; refine Calls.mono (HN.out _) ?_; rintro e w' ⟨rfl, rfl⟩) | fail)
      go_ret
      exact ⟨by rw [HR.out]; rfl, rfl⟩
    · have d2 : decide (y < x) = false := decide_eq_false h2
      have HR : Hid (cmpN x y = 0) := by show _ = _; unfold cmpN; rw [if_neg h1, if_neg h2]
      go_enter Try.func55, Try.ntmps55
      go_wp2_with (first | (go_at_call 58; refine Calls.mono (HN.out _) ?_; rintro e w' ⟨rfl, rfl⟩) | fail)
      go_ret
      exact ⟨by rw [HR.out]; rfl, rfl⟩

end Go.Proofs.Ytgmljpkenipgjaa.J

/-
  lr0: productions begun.
-/
namespace Go.Proofs.Ytgmljpkenipgjaa.J
open Go.RowKit Go.Maps Go.Shelf

attribute [local go_sem] Oper.semAt_some

/-- The productions of s among the first k, begun. -/
def begL (L : Nat → Int) (s : Int) (k : Nat) : List It := ((List.range k).filter fun i => L i == s).map fun i : Nat => ((i : Int), (0 : Int))
end Go.Proofs.Ytgmljpkenipgjaa.J

/-
  lr0: closures and kernels, pure.
-/
namespace Go.Proofs.Ytgmljpkenipgjaa.J

/-- One item ahead of another. -/
def ltI (x y : It) : Prop := x.1 < y.1 ∨ (x.1 = y.1 ∧ x.2 < y.2)
theorem ltI_irr (x : It) : ¬ ltI x x := by unfold ltI; omega
theorem ltI_trans {x y z : It} (h1 : ltI x y) (h2 : ltI y z) : ltI x z := by unfold ltI at *; omega
theorem ltI_total (x y : It) : ltI x y ∨ x = y ∨ ltI y x := by
  unfold ltI
  by_cases h1 : x.1 = y.1
  · by_cases h2 : x.2 = y.2
    · exact .inr (.inl (Prod.ext h1 h2))
    · by_cases h3 : x.2 < y.2
      · exact .inl (.inr ⟨h1, h3⟩)
      · exact .inr (.inr (.inr ⟨h1.symm, by omega⟩))
  · by_cases h3 : x.1 < y.1
    · exact .inl (.inl h3)
    · exact .inr (.inr (.inl (by omega)))

/-- In order, each once. -/
def Asc (l : List It) : Prop := l.Pairwise ltI
/-- Of one set there is one list in order. -/
theorem Asc.unique : ∀ {l m : List It}, Asc l → Asc m → (∀ x, x ∈ l ↔ x ∈ m) → l = m
  | [], [], _, _, _ => rfl
  | [], y :: m, _, _, h => absurd ((h y).2 (List.mem_cons_self ..)) (by simp)
  | x :: l, [], _, _, h => absurd ((h x).1 (List.mem_cons_self ..)) (by simp)
  | x :: l, y :: m, hl, hm, h => by
    have hl' := List.pairwise_cons.1 hl
    have hm' := List.pairwise_cons.1 hm
    have e : x = y := by
      rcases List.mem_cons.1 ((h x).1 (List.mem_cons_self ..)) with e | e
      · exact e
      · rcases List.mem_cons.1 ((h y).2 (List.mem_cons_self ..)) with e2 | e2
        · exact e2.symm
        · exact absurd (ltI_trans (hm'.1 x e) (hl'.1 y e2)) (ltI_irr _)
    subst e
    congr 1
    refine Asc.unique hl'.2 hm'.2 fun z => ?_
    constructor
    · intro hz
      rcases List.mem_cons.1 ((h z).1 (List.mem_cons_of_mem _ hz)) with e | e
      · subst e; exact absurd (hl'.1 z hz) (ltI_irr _)
      · exact e
    · intro hz
      rcases List.mem_cons.1 ((h z).2 (List.mem_cons_of_mem _ hz)) with e | e
      · subst e; exact absurd (hm'.1 z hz) (ltI_irr _)
      · exact e

/-- What compacting leaves of the first k. -/
def ddT (l : List It) : Nat → List It
  | 0 => []
  | k + 1 => if 0 < k ∧ l.getD k (0, 0) = l.getD (k - 1) (0, 0) then ddT l k else ddT l k ++ [l.getD k (0, 0)]
theorem ddT_mem (l : List It) : ∀ k, k ≤ l.length → ∀ x, x ∈ ddT l k ↔ ∃ i, i < k ∧ l.getD i (0, 0) = x
  | 0, _, x => by simp [ddT]
  | k + 1, h, x => by
    have ih := ddT_mem l k (by omega) x
    unfold ddT
    split
    · rename_i hc
      rw [ih]
      constructor
      · rintro ⟨i, h1, h2⟩; exact ⟨i, by omega, h2⟩
      · rintro ⟨i, h1, h2⟩
        by_cases e : i = k
        · subst e; exact ⟨i - 1, by omega, by rw [← hc.2]; exact h2⟩
        · exact ⟨i, by omega, h2⟩
    · rw [List.mem_append, ih]
      constructor
      · rintro (⟨i, h1, h2⟩ | h2)
        · exact ⟨i, by omega, h2⟩
        · exact ⟨k, by omega, (List.mem_singleton.1 h2).symm⟩
      · rintro ⟨i, h1, h2⟩
        by_cases e : i = k
        · subst e; right; exact List.mem_singleton.2 h2.symm
        · left; exact ⟨i, by omega, h2⟩
/-- Sorted, as the sort leaves it: no later one ahead of an earlier. -/
def Srt (l : List It) : Prop := l.Pairwise fun x y => ¬ ltI y x
theorem Srt.at {l : List It} (h : Srt l) {i j : Nat} (hij : i < j) (hj : j < l.length) : ¬ ltI (l.getD j (0, 0)) (l.getD i (0, 0)) := by
  have h2 := List.pairwise_iff_getElem.1 h i j (by omega) hj hij
  rw [List.getD_eq_getElem?_getD, List.getD_eq_getElem?_getD, List.getElem?_eq_getElem hj, List.getElem?_eq_getElem (show i < l.length by omega)]
  exact h2
theorem ddT_asc {l : List It} (h : Srt l) : ∀ k, k ≤ l.length → Asc (ddT l k)
  | 0, _ => List.Pairwise.nil
  | k + 1, hk => by
    have ih := ddT_asc h k (by omega)
    unfold ddT
    split
    · exact ih
    · rename_i hc
      refine List.pairwise_append.2 ⟨ih, List.pairwise_singleton _ _, fun x hx y hy => ?_⟩
      obtain ⟨i, h1, rfl⟩ := (ddT_mem l k (by omega) x).1 hx
      rw [List.mem_singleton.1 hy]
      have hne : l.getD k (0, 0) ≠ l.getD (k - 1) (0, 0) := fun e => hc ⟨by omega, e⟩
      have h3 := h.at (show k - 1 < k by omega) (by omega)
      have h4 : ltI (l.getD (k - 1) (0, 0)) (l.getD k (0, 0)) := by
        rcases ltI_total (l.getD (k - 1) (0, 0)) (l.getD k (0, 0)) with h5 | h5 | h5
        · exact h5
        · exact absurd h5.symm hne
        · exact absurd h5 h3
      by_cases e : i = k - 1
      · rw [e]; exact h4
      · have h5 := h.at (show i < k - 1 by omega) (by omega)
        rcases ltI_total (l.getD i (0, 0)) (l.getD (k - 1) (0, 0)) with h6 | h6 | h6
        · exact ltI_trans h6 h4
        · rw [h6]; exact h4
        · exact absurd h6 h5

/-- An item is brought along by items. -/
def Clo (tn n : Nat) (L : Nat → Int) (R : Nat → List Int) (I : List It) (x : It) : Prop :=
  ∀ P : It → Prop, (∀ y ∈ I, P y) → (∀ (y : It) (k : Nat), P y → (tn : Int) ≤ aheadV R y → k < n → L k = aheadV R y → P ((k : Int), 0)) → P x
section
variable {tn n : Nat} {L : Nat → Int} {R : Nat → List Int} {I : List It}
theorem Clo.base {x : It} (h : x ∈ I) : Clo tn n L R I x := fun _ h1 _ => h1 x h
theorem Clo.step {y : It} {k : Nat} (h : Clo tn n L R I y) (ht : (tn : Int) ≤ aheadV R y) (hk : k < n) (hl : L k = aheadV R y) : Clo tn n L R I ((k : Int), 0) := fun P h1 h2 => h2 y k (h P h1 h2) ht hk hl
/-- All that is brought along by items is an item. -/
theorem Clo.item {x : It} (h : Clo tn n L R I x) (hI : ∀ y ∈ I, itB n R y = true) : itB n R x = true := h (fun y => itB n R y = true) hI fun y k _ _ hk _ => by
  unfold itB
  have h1 : decide ((0 : Int) ≤ ((k : Int), (0 : Int)).1) = true := decide_eq_true (by simp)
  have h2 : decide (((k : Int), (0 : Int)).1 < (n : Int)) = true := decide_eq_true (by simp; omega)
  have h3 : decide ((0 : Int) ≤ ((k : Int), (0 : Int)).2) = true := decide_eq_true (by simp)
  have h4 : decide (((k : Int), (0 : Int)).2 ≤ ((R ((k : Int), (0 : Int)).1.toNat).length : Int)) = true := decide_eq_true (by simp)
  rw [h1, h2, h3, h4]; rfl
/-- A list is the closure of items: in order, what they bring along. -/
structure IsClo (tn n : Nat) (L : Nat → Int) (R : Nat → List Int) (I l : List It) : Prop where
  asc : Asc l
  mem : ∀ x, x ∈ l ↔ Clo tn n L R I x
theorem IsClo.unique {l m : List It} (h1 : IsClo tn n L R I l) (h2 : IsClo tn n L R I m) : l = m := h1.asc.unique h2.asc fun x => (h1.mem x).trans (h2.mem x).symm
/-- What is done of a worklist: its first i. -/
structure CwP (tn n : Nat) (L : Nat → Int) (R : Nat → List Int) (I A : List It) (b : Nat → Bool) (i : Nat) : Prop where
  mem : ∀ x ∈ A, Clo tn n L R I x
  all : ∀ x ∈ I, x ∈ A
  brt : ∀ s : Nat, b s = true → ∀ k, k < n → L k = (s : Int) → ((k : Int), (0 : Int)) ∈ A
  done : ∀ j, j < i → j < A.length → (tn : Int) ≤ aheadV R (A.getD j (0, 0)) → b (aheadV R (A.getD j (0, 0))).toNat = true
theorem CwP.start : CwP tn n L R I I (fun _ => false) 0 := ⟨fun _ h => Clo.base h, fun _ h => h, fun _ h => (by simp at h), fun _ h => absurd h (Nat.not_lt_zero _)⟩
theorem CwP.skip {A : List It} {b : Nat → Bool} {i : Nat} (h : CwP tn n L R I A b i) (hi : (tn : Int) ≤ aheadV R (A.getD i (0, 0)) → b (aheadV R (A.getD i (0, 0))).toNat = true) : CwP tn n L R I A b (i + 1) :=
  ⟨h.mem, h.all, h.brt, fun j hj hl ht => by
    by_cases e : j = i
    · subst e; exact hi ht
    · exact h.done j (by omega) hl ht⟩
theorem CwP.fin {A : List It} {b : Nat → Bool} {i : Nat} (h : CwP tn n L R I A b i) (hi : A.length ≤ i) : ∀ x, x ∈ A ↔ Clo tn n L R I x := fun x => by
  refine ⟨h.mem x, fun hx => hx (· ∈ A) h.all fun y k hy ht hk hl => ?_⟩
  obtain ⟨j, hj, e⟩ := List.getElem_of_mem hy
  have hg : A.getD j (0, 0) = y := by rw [List.getD_eq_getElem?_getD, List.getElem?_eq_getElem hj, e]; rfl
  have h2 := h.done j (by omega) hj (by rw [hg]; exact ht)
  rw [hg] at h2
  exact h.brt _ h2 k hk (by rw [hl]; omega)
end
/-- What sorting and compacting makes of a worklist that is done. -/
theorem isClo_of {tn n : Nat} {L : Nat → Int} {R : Nat → List Int} {I A l : List It} (hA : ∀ x, x ∈ A ↔ Clo tn n L R I x) (hp : l.Perm A) (hs : Srt l) : IsClo tn n L R I (ddT l l.length) := by
  refine ⟨ddT_asc hs _ (Nat.le_refl _), fun x => ?_⟩
  rw [ddT_mem l _ (Nat.le_refl _), ← hA, ← hp.mem_iff]
  constructor
  · rintro ⟨i, hi, rfl⟩
    rw [List.getD_eq_getElem?_getD, List.getElem?_eq_getElem hi]; exact List.getElem_mem hi
  · intro hx
    obtain ⟨j, hj, e⟩ := List.getElem_of_mem hx
    exact ⟨j, hj, by rw [List.getD_eq_getElem?_getD, List.getElem?_eq_getElem hj, e]; rfl⟩

end Go.Proofs.Ytgmljpkenipgjaa.J

/-
  lr0: items told alike.
-/
namespace Go.Proofs.Ytgmljpkenipgjaa.J
open Go.RowKit Go.Maps Go.Shelf

end Go.Proofs.Ytgmljpkenipgjaa.J

/-
  lr0: areItems.
-/
namespace Go.Proofs.Ytgmljpkenipgjaa.J
open Go.RowKit Go.Maps Go.Shelf

attribute [local go_sem] Oper.semAt_some

theorem box_kept {X Y : World} {b : Nat} {o : Obj} (h : X.heap[b]? = some o) (hg : X.grownBy Y none) : Y.heap[b]? = some o := (hg.block b (Array.getElem?_eq_some_iff.1 h).1 (by simp)).trans h
section
variable (ta na la pa : Option Addr) (tc nc lc pc : Nat) (n : Nat) (L : Nat → Int) (R : Nat → List Int) (ra : Nat → Option Addr) (rc : Nat → Nat) (V : Nat → Int) (st : Int) (w : World) (tn nn ln : Nat)

end

end Go.Proofs.Ytgmljpkenipgjaa.J

/-
  lr0: what items bring along, and how it is laid in between; pure.
-/
namespace Go.Proofs.Ytgmljpkenipgjaa.J

section
variable {tn n : Nat} {L : Nat → Int} {R : Nat → List Int} {I : List It}

/-- What is brought by the first i of items; T: whose productions are still to be looked at, but for the first k of non's. -/
structure BrP (tn n : Nat) (L : Nat → Int) (R : Nat → List Int) (I : List It) (b : Nat → Bool) (T : List Nat) (i : Nat) (non : Int) (k : Nat) : Prop where
  snd : ∀ s : Nat, b s = true → tn ≤ s ∧ ∃ x, Clo tn n L R I x ∧ aheadV R x = (s : Int)
  tin : ∀ s ∈ T, b s = true
  its : ∀ j, j < i → j < I.length → (tn : Int) ≤ aheadV R (I.getD j (0, 0)) → b (aheadV R (I.getD j (0, 0))).toNat = true
  done : ∀ s : Nat, b s = true → s ∉ T → (s : Int) ≠ non → ∀ p, p < n → L p = (s : Int) → (tn : Int) ≤ aheadV R ((p : Int), 0) → b (aheadV R ((p : Int), 0)).toNat = true
  part : ∀ p, p < k → p < n → L p = non → (tn : Int) ≤ aheadV R ((p : Int), 0) → b (aheadV R ((p : Int), 0)).toNat = true

theorem BrP.start : BrP tn n L R I (fun _ => false) [] 0 (-1) 0 := ⟨fun _ h => by simp at h, fun _ h => by simp at h, fun _ h => absurd h (Nat.not_lt_zero _), fun _ h => by simp at h, fun _ h => absurd h (Nat.not_lt_zero _)⟩

/-- When nothing is left: an item is brought along if it was given, or is begun and its nonterminal was brought. -/
theorem BrP.fin {b : Nat → Bool} {i : Nat} {non : Int} (h : BrP tn n L R I b [] i non n) (hi : I.length ≤ i) : ∀ x, Clo tn n L R I x ↔ (x ∈ I ∨ ∃ p : Nat, p < n ∧ x = ((p : Int), 0) ∧ 0 ≤ L p ∧ b (L p).toNat = true) := by
  have hdone : ∀ s : Nat, b s = true → ∀ p, p < n → L p = (s : Int) → (tn : Int) ≤ aheadV R ((p : Int), 0) → b (aheadV R ((p : Int), 0)).toNat = true := fun s hs p hp hl ht => by
    by_cases e : (s : Int) = non
    · exact h.part p hp hp (by rw [hl, e]) ht
    · exact h.done s hs (by simp) e p hp hl ht
  intro x
  constructor
  · intro hx
    refine (hx (fun y => (y ∈ I ∨ ∃ p : Nat, p < n ∧ y = ((p : Int), 0) ∧ 0 ≤ L p ∧ b (L p).toNat = true)) (fun y hy => .inl hy) fun y k hy ht hk hl => ?_)
    right
    refine ⟨k, hk, rfl, by omega, ?_⟩
    rw [hl]
    rcases hy with hy | ⟨p, hp, rfl, h0, hb⟩
    · obtain ⟨j, hj, e⟩ := List.getElem_of_mem hy
      have hg : I.getD j (0, 0) = y := by rw [List.getD_eq_getElem?_getD, List.getElem?_eq_getElem hj, e]; rfl
      have h2 := h.its j (by omega) hj (by rw [hg]; exact ht)
      rwa [hg] at h2
    · exact hdone _ hb p hp (by omega) ht
  · rintro (hx | ⟨p, hp, rfl, h0, hb⟩)
    · exact Clo.base hx
    · obtain ⟨ht, y, hy, hya⟩ := h.snd _ hb
      exact hy.step (by rw [hya]; omega) hp (by rw [hya]; omega)

/-- What is laid of the productions below k: A, out of the first m of G. -/
structure MgP (G : List It) (L : Nat → Int) (b : Nat → Bool) (k m : Nat) (A : List It) : Prop where
  le : m ≤ G.length
  lo : ∀ j, j < m → (G.getD j (0, 0)).1 < (k : Int)
  hi : ∀ j, m ≤ j → j < G.length → (k : Int) ≤ (G.getD j (0, 0)).1
  mem : ∀ x, x ∈ A ↔ ((∃ j, j < m ∧ G.getD j (0, 0) = x) ∨ ∃ p : Nat, p < k ∧ x = ((p : Int), 0) ∧ b (L p).toNat = true)
  srt : Srt A
  len : A.length ≤ m + k
theorem MgP.start {G : List It} {b : Nat → Bool} (h : ∀ x ∈ G, (0 : Int) ≤ x.1) : MgP G L b 0 0 [] :=
  ⟨Nat.zero_le _, fun _ h => absurd h (Nat.not_lt_zero _), fun j _ hj => h _ (by rw [List.getD_eq_getElem?_getD, List.getElem?_eq_getElem hj]; exact List.getElem_mem hj), fun x => by simp, List.Pairwise.nil, Nat.le_refl _⟩
theorem MgP.below {G : List It} {b : Nat → Bool} {k m : Nat} {A : List It} (h : MgP G L b k m A) {x : It} (hx : x ∈ A) : x.1 < (k : Int) := by
  rcases (h.mem x).1 hx with ⟨j, hj, rfl⟩ | ⟨p, hp, rfl, _⟩
  · exact h.lo j hj
  · show (p : Int) < k; omega
/-- One production more: q items of it lie at the beginning of what is left. -/
theorem MgP.step {G : List It} {b : Nat → Bool} {k m q : Nat} {A : List It} (h : MgP G L b k m A) (hG : Srt G) (h0 : ∀ x ∈ G, (0 : Int) ≤ x.2) (hq : m + q ≤ G.length) (he : ∀ j, m ≤ j → j < m + q → (G.getD j (0, 0)).1 = (k : Int)) (hn : m + q < G.length → (G.getD (m + q) (0, 0)).1 ≠ (k : Int)) : MgP G L b (k + 1) (m + q) (A ++ (if b (L k).toNat = true then [((k : Int), (0 : Int))] else []) ++ (G.drop m).take q) := by
  have hmt : ∀ x, x ∈ (G.drop m).take q ↔ ∃ j, m ≤ j ∧ j < m + q ∧ G.getD j (0, 0) = x := by
    intro x
    rw [List.mem_iff_getElem?]
    constructor
    · rintro ⟨i, hi⟩
      rw [List.getElem?_take] at hi
      split at hi
      · rename_i hlt
        rw [List.getElem?_drop] at hi
        exact ⟨m + i, by omega, by omega, by rw [List.getD_eq_getElem?_getD, hi]; rfl⟩
      · cases hi
    · rintro ⟨j, h1, h2, rfl⟩
      refine ⟨j - m, ?_⟩
      rw [List.getElem?_take, if_pos (by omega), List.getElem?_drop, show m + (j - m) = j by omega, List.getD_eq_getElem?_getD, List.getElem?_eq_getElem (show j < G.length by omega)]
      rfl
  have hmb : ∀ x, x ∈ (if b (L k).toNat = true then [((k : Int), (0 : Int))] else []) ↔ x = ((k : Int), (0 : Int)) ∧ b (L k).toNat = true := by
    intro x
    split
    · rename_i hb; simp [hb]
    · rename_i hb; simp [hb]
  refine ⟨hq, fun j hj => ?_, fun j hj hl => ?_, fun x => ?_, ?_, ?_⟩
  · by_cases e : j < m
    · have := h.lo j e; omega
    · rw [he j (by omega) hj]; omega
  · have h1 := h.hi (m + q) (by omega) (by omega)
    have h2 := hn (by omega)
    by_cases e : j = m + q
    · rw [e]; omega
    · have h3 := hG.at (show m + q < j by omega) hl
      unfold ltI at h3
      omega
  · rw [List.mem_append, List.mem_append, h.mem, hmb, hmt]
    constructor
    · rintro (((⟨j, h1, h2⟩ | ⟨p, h1, h2, h3⟩) | ⟨h1, h2⟩) | ⟨j, h1, h2, h3⟩)
      · exact .inl ⟨j, by omega, h2⟩
      · exact .inr ⟨p, by omega, h2, h3⟩
      · exact .inr ⟨k, by omega, h1, h2⟩
      · exact .inl ⟨j, h2, h3⟩
    · rintro (⟨j, h1, h2⟩ | ⟨p, h1, h2, h3⟩)
      · by_cases e : j < m
        · exact .inl (.inl (.inl ⟨j, e, h2⟩))
        · exact .inr ⟨j, by omega, h1, h2⟩
      · by_cases e : p = k
        · subst e; exact .inl (.inr ⟨h2, h3⟩)
        · exact .inl (.inl (.inr ⟨p, by omega, h2, h3⟩))
  · refine List.pairwise_append.2 ⟨List.pairwise_append.2 ⟨h.srt, ?_, fun x hx y hy => ?_⟩, ?_, fun x hx y hy => ?_⟩
    · split
      · exact List.pairwise_singleton _ _
      · exact List.Pairwise.nil
    · have h1 := h.below hx
      obtain ⟨rfl, _⟩ := (hmb y).1 hy
      unfold ltI; simp only; omega
    · exact List.Pairwise.sublist ((List.take_sublist _ _).trans (List.drop_sublist _ _)) hG
    · obtain ⟨j, h1, h2, rfl⟩ := (hmt y).1 hy
      have h3 := he j h1 h2
      rcases List.mem_append.1 hx with hx | hx
      · have h4 := h.below hx
        unfold ltI; omega
      · obtain ⟨rfl, _⟩ := (hmb x).1 hx
        have hj : j < G.length := by omega
        have h5 := h0 (G.getD j (0, 0)) (by rw [List.getD_eq_getElem?_getD, List.getElem?_eq_getElem hj]; exact List.getElem_mem hj)
        unfold ltI; simp only; omega
  · have := h.len
    have h2 : ((if b (L k).toNat = true then [((k : Int), (0 : Int))] else []) : List It).length ≤ 1 := by split <;> simp
    rw [List.length_append, List.length_append, List.length_take]
    omega
/-- All productions are laid: it is the closure. -/
theorem MgP.fin {G : List It} {b : Nat → Bool} {m : Nat} {A : List It} {i : Nat} {non : Int} (h : MgP G L b n m A) (hB : BrP tn n L R G b [] i non n) (hi : G.length ≤ i) (hp : G.Perm I) (hit : ∀ x ∈ I, itB n R x = true) (hL : ∀ p, p < n → 0 ≤ L p) : IsClo tn n L R I (ddT A A.length) := by
  have hm : m = G.length := by
    have h1 := h.le
    by_cases e : m = G.length
    · exact e
    · have hl : m < G.length := by omega
      have h2 := h.hi m (Nat.le_refl _) hl
      have h3 : G.getD m (0, 0) ∈ G := by rw [List.getD_eq_getElem?_getD, List.getElem?_eq_getElem hl]; exact List.getElem_mem hl
      have h4 := hit _ (hp.mem_iff.1 h3)
      unfold itB at h4
      simp only [Bool.and_eq_true, decide_eq_true_eq] at h4
      omega
  have hc : ∀ x, Clo tn n L R G x ↔ Clo tn n L R I x := fun x => ⟨fun hx P h1 h2 => hx P (fun y hy => h1 y (hp.mem_iff.1 hy)) h2, fun hx P h1 h2 => hx P (fun y hy => h1 y (hp.mem_iff.2 hy)) h2⟩
  refine isClo_of (A := A) (fun x => ?_) (List.Perm.refl _) h.srt
  rw [← hc, hB.fin hi, h.mem]
  constructor
  · rintro (⟨j, h1, rfl⟩ | ⟨p, h1, h2, h3⟩)
    · have hj : j < G.length := by omega
      exact .inl (by rw [List.getD_eq_getElem?_getD, List.getElem?_eq_getElem hj]; exact List.getElem_mem hj)
    · exact .inr ⟨p, h1, h2, hL p h1, h3⟩
  · rintro (hx | ⟨p, h1, h2, h3, h4⟩)
    · obtain ⟨j, hj, e⟩ := List.getElem_of_mem hx
      exact .inl ⟨j, by omega, by rw [List.getD_eq_getElem?_getD, List.getElem?_eq_getElem hj, e]; rfl⟩
    · exact .inr ⟨p, h1, h2, h4⟩
end

end Go.Proofs.Ytgmljpkenipgjaa.J
