/-
  Productions copied, their right sides too.
-/
import Derived.Test.YtdlbeffkgdjihaaOrderedWalk
namespace Go.Proofs.Ytdlbeffkgdjihaa
open Go.RowKit Go.Maps Go.Shelf

/-- A store into an own row. -/
theorem owns_set {w : World} {base e size g n c j : Nat} {xs : List Value} (h : w.ownsRow base e size (.slice (some ⟨g, 0, none⟩) n c) n xs) (u : Value) : (w.setCell ⟨g, j, none⟩ u).ownsRow base e size (.slice (some ⟨g, 0, none⟩) n c) n (xs.set j u) := by
  refine ⟨by rw [List.length_set]; exact h.1, ?_⟩
  rcases h.2 with ⟨hv, _⟩ | ⟨g', c', cur, hv, hb, hh, h1, h2, h3, h4⟩
  · cases hv
  · simp only [Value.slice.injEq, Option.some.injEq, Addr.mk.injEq, and_true, true_and] at hv
    obtain ⟨rfl, rfl⟩ := hv
    refine .inr ⟨g, c, cur.setIfInBounds j u, rfl, hb, heap_setCell_same w g j _ _ _ hh, h1, h2, by simpa using h3, ?_⟩
    rw [Array.toList_setIfInBounds, ← h4, List.take_set]

theorem owns_cell {w : World} {base e size g n c j : Nat} {xs : List Value} (h : w.ownsRow base e size (.slice (some ⟨g, 0, none⟩) n c) n xs) {u : Value} (hu : xs[j]? = some u) : w.cell? ⟨g, j, none⟩ = some u := by
  have := World.ownsRow.cells h (g := g) rfl j u hu
  rwa [Addr.add_mid, Nat.zero_add] at this
theorem owns_free {w : World} {base e size g n c : Nat} {xs : List Value} (h : w.ownsRow base e size (.slice (some ⟨g, 0, none⟩) n c) n xs) (j : Nat) : w.frozen? ⟨g, j, none⟩ = false := by
  rcases h.2 with ⟨hv, _⟩ | ⟨g', c', cur, hv, hb, hh, _⟩
  · cases hv
  · simp only [Value.slice.injEq, Option.some.injEq, Addr.mk.injEq, and_true, true_and] at hv
    obtain ⟨rfl, rfl⟩ := hv
    exact frozen_of_row w g j _ _ hh

/-- The cells of n productions. -/
def prodRow (n : Nat) (L : Nat → Int) (r : Nat → Value) (V : Nat → Int) : List Value := (List.range n).flatMap fun i => [.int .i64 (L i), r i, .int .i64 (V i)]

theorem prodRow_succ (n : Nat) (L : Nat → Int) (r : Nat → Value) (V : Nat → Int) : prodRow (n + 1) L r V = prodRow n L r V ++ [.int .i64 (L n), r n, .int .i64 (V n)] := by simp [prodRow, List.range_succ]
theorem prodRow_length (L : Nat → Int) (r : Nat → Value) (V : Nat → Int) : ∀ n, (prodRow n L r V).length = n * 3
  | 0 => rfl
  | n + 1 => by rw [prodRow_succ, List.length_append, prodRow_length L r V n]; simp; omega
theorem prodRow_at (L : Nat → Int) (r : Nat → Value) (V : Nat → Int) : ∀ n k, k < n → ∀ i, i < 3 → (prodRow n L r V)[k * 3 + i]? = [Value.int .i64 (L k), r k, .int .i64 (V k)][i]?
  | 0, k, hk, _, _ => by omega
  | n + 1, k, hk, i, hi => by
    rw [prodRow_succ]
    by_cases h : k < n
    · rw [List.getElem?_append_left (by rw [prodRow_length]; omega)]
      exact prodRow_at L r V n k h i hi
    · obtain rfl : k = n := by omega
      rw [List.getElem?_append_right (by rw [prodRow_length]; omega), prodRow_length]
      congr 1
      omega
theorem prodRow_ext {n : Nat} {L L' : Nat → Int} {r r' : Nat → Value} {V V' : Nat → Int} (h1 : ∀ i, i < n → L i = L' i) (h2 : ∀ i, i < n → r i = r' i) (h3 : ∀ i, i < n → V i = V' i) : prodRow n L r V = prodRow n L' r' V' := by
  unfold prodRow
  rw [List.flatMap_def, List.flatMap_def]
  congr 1
  exact List.map_congr_left fun i hi => by
    have hi' : i < n := by simpa using hi
    rw [h1 i hi', h2 i hi', h3 i hi']
def updV (r : Nat → Value) (k : Nat) (v : Value) : Nat → Value := fun i => if i = k then v else r i
def updI (L : Nat → Int) (k : Nat) (x : Int) : Nat → Int := fun i => if i = k then x else L i
theorem prodRow_setR (L : Nat → Int) (r : Nat → Value) (V : Nat → Int) (k : Nat) (v : Value) : ∀ n, k < n → (prodRow n L r V).set (k * 3 + 1) v = prodRow n L (updV r k v) V
  | 0, hk => by omega
  | n + 1, hk => by
    rw [prodRow_succ, prodRow_succ]
    by_cases h : k < n
    · rw [List.set_append_left _ _ (by rw [prodRow_length]; omega), prodRow_setR L r V k v n h]
      congr 2
      simp [updV, show n ≠ k by omega]
    · obtain rfl : k = n := by omega
      rw [List.set_append_right _ _ (by rw [prodRow_length]; omega), prodRow_length]
      rw [prodRow_ext (n := k) (L := L) (L' := L) (r := r) (r' := updV r k v) (V := V) (V' := V) (fun _ _ => rfl) (fun i hi => by simp [updV, show i ≠ k by omega]) (fun _ _ => rfl)]
      congr 1
      rw [show k * 3 + 1 - k * 3 = 1 by omega]
      simp [updV]
theorem prodRow_setL (L : Nat → Int) (r : Nat → Value) (V : Nat → Int) (k : Nat) (x : Int) : ∀ n, k < n → (prodRow n L r V).set (k * 3) (.int .i64 x) = prodRow n (updI L k x) r V
  | 0, hk => by omega
  | n + 1, hk => by
    rw [prodRow_succ, prodRow_succ]
    by_cases h : k < n
    · rw [List.set_append_left _ _ (by rw [prodRow_length]; omega), prodRow_setL L r V k x n h]
      congr 2
      simp [updI, show n ≠ k by omega]
    · obtain rfl : k = n := by omega
      rw [List.set_append_right _ _ (by rw [prodRow_length]; omega), prodRow_length]
      rw [prodRow_ext (n := k) (L := L) (L' := updI L k x) (r := r) (r' := r) (V := V) (V' := V) (fun i hi => by simp [updI, show i ≠ k by omega]) (fun _ _ => rfl) (fun _ _ => rfl)]
      congr 1
      rw [show k * 3 - k * 3 = 0 by omega]
      simp [updI]

/-- Productions, wherever they lie: their left sides L, right sides R in the slices ra, rc, their levels V. -/
def ProdsAt (w : World) (a : Option Addr) (n : Nat) (L : Nat → Int) (R : Nat → List Int) (ra : Nat → Option Addr) (rc : Nat → Nat) (V : Nat → Int) : Prop :=
  n = 0 ∨ ∃ b off, a = some ⟨b, off, none⟩ ∧ ∀ k, k < n → w.cell? ⟨b, off + k * 3, none⟩ = some (.int .i64 (L k)) ∧ w.cell? ⟨b, off + k * 3 + 1, none⟩ = some (.slice (ra k) (R k).length (rc k)) ∧ w.cell? ⟨b, off + k * 3 + 2, none⟩ = some (.int .i64 (V k)) ∧ IntsAt w (ra k) (R k) ∧ (ra k = none → rc k = 0) ∧ (R k).length ≤ 17592186044416

theorem prodRow_oneCell (n : Nat) (L : Nat → Int) (ra : Nat → Option Addr) (rn rc : Nat → Nat) (V : Nat → Int) : ∀ u ∈ prodRow n L (fun k => .slice (ra k) (rn k) (rc k)) V, u.oneCell' = true := by
  intro u hu
  simp only [prodRow, List.mem_flatMap, List.mem_range] at hu
  obtain ⟨i, _, hu⟩ := hu
  simp at hu
  rcases hu with rfl | rfl | rfl <;> rfl

theorem copiedProd_any (a : Option Addr) (n cap : Nat) (xs : List Value) (w : World) (hl : xs.length = n * 3) (hnil : a = none → n = 0 ∧ cap = 0) (hc : ∀ x, a = some x → ∀ j u, xs[j]? = some u → w.cell? (x.add j) = some u) (h1 : ∀ u ∈ xs, u.oneCell' = true) (hb : n * 40 ≤ 140737488355328) :
    Calls Try.prog 55 #[.slice a n cap] w fun e w' => ∃ a' c', e = .returned (.slice a' n c') ∧ w'.ownsRow w.heap.size 52 3 (.slice a' n c') n xs ∧ w.grownBy w' none := by
  obtain ⟨i0, hi, hz0, hz1, hz2⟩ := info_parts infoProd
  cases a with
  | none =>
    obtain ⟨rfl, rfl⟩ := hnil rfl
    have hx : xs = [] := List.eq_nil_of_length_eq_zero (by simpa using hl)
    subst hx
    clear hnil hc hl h1 hb
    go_enter Try.func55, Try.ntmps55
    go_wp2_with (at_builtin; refine wpList_append_own_none rfl _ _ 40 rfl w.heap.size 52 i0 3 Try.underlying40 hi (.slice none 0 0) 0 [] rfl (World.ownsRow_nil _ _ _ _) rfl ?_)
    go_ret
    exact ⟨none, 0, rfl, World.ownsRow_nil _ _ _ _, grown_refl _ _⟩
  | some x =>
    have HN : Hid (∀ j u, xs[j]? = some u → w.cell? (x.add j) = some u) := hc x rfl
    have H1 : Hid (∀ u ∈ xs, u.oneCell' = true) := h1
    clear hc hnil h1
    go_enter Try.func55, Try.ntmps55
    go_wp2_with (at_builtin; refine wpList_append_own _ rfl _ _ 40 rfl w.heap.size 52 i0 (.agg #[.int .i64 0, .slice none 0 0, .int .i64 0]) 3 40 Try.underlying40 hi hz0 hz1 hz2 rfl (by decide) (.slice none 0 0) 0 [] rfl (World.ownsRow_nil _ _ _ _) x n cap xs rfl hl HN.out H1.out (by unfold maxLen; omega) (by omega) (Nat.le_refl _) ?_; intro v' w1 hown hg _)
    go_ret
    have hown' : w1.ownsRow w.heap.size 52 3 v' n xs := by simpa using hown
    obtain ⟨a', c', hv⟩ := owns_slice hown'
    have hg' : w.grownBy w1 none := hg
    rw [hv] at hown'
    exact ⟨a', c', by rw [← hv]; rfl, hown', hg'⟩

end Go.Proofs.Ytdlbeffkgdjihaa
