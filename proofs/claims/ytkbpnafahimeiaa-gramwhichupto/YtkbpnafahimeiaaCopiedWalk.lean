/-
  copiedProds, walked: the same productions in new memory, no two right sides in one row.
-/
import Derived.Test.YtkbpnafahimeiaaOrderedWalk
namespace Go.Proofs.Ytkbpnafahimeiaa
open Go.RowKit Go.Maps Go.Shelf

/-- A store into an own row. -/
theorem owns_set {w : World} {base e size g n c j : Nat} {xs : List Value} (h : w.ownsRow base e size (.slice (some ⟨g, 0, none⟩) n c) n xs) (u : Value) : (w.setCell ⟨g, j, none⟩ u).ownsRow base e size (.slice (some ⟨g, 0, none⟩) n c) n (xs.set j u) := by
  refine ⟨by rw [List.length_set]; exact h.1, ?_⟩
  rcases h.2 with ⟨hv, _⟩ | ⟨g', c', cur, hv, hb, hh, h1, h2, h3, h4⟩
  · cases hv
  · simp only [Value.slice.injEq, Option.some.injEq, Addr.mk.injEq, and_true, true_and] at hv
    obtain ⟨rfl, rfl⟩ := hv
    refine .inr ⟨g, c, cur.setIfInBounds j u, rfl, hb, heap_setCell_same w g j _ _ _ hh, h1, h2, by simpa using h3, ?_⟩
    rw [Array.toList_setIfInBounds, ← h4, List.take_set]

theorem owns_cell {w : World} {base e size g n c j : Nat} {xs : List Value} (h : w.ownsRow base e size (.slice (some ⟨g, 0, none⟩) n c) n xs) {u : Value} (hu : xs[j]? = some u) : w.cell? ⟨g, j, none⟩ = some u := by
  have := World.ownsRow.cells h (g := g) rfl j u hu
  rwa [Addr.add_mid, Nat.zero_add] at this
theorem owns_free {w : World} {base e size g n c : Nat} {xs : List Value} (h : w.ownsRow base e size (.slice (some ⟨g, 0, none⟩) n c) n xs) (j : Nat) : w.frozen? ⟨g, j, none⟩ = false := by
  rcases h.2 with ⟨hv, _⟩ | ⟨g', c', cur, hv, hb, hh, _⟩
  · cases hv
  · simp only [Value.slice.injEq, Option.some.injEq, Addr.mk.injEq, and_true, true_and] at hv
    obtain ⟨rfl, rfl⟩ := hv
    exact frozen_of_row w g j _ _ hh

/-- The cells of n productions. -/
def prodRow (n : Nat) (L : Nat → Int) (r : Nat → Value) (V : Nat → Int) : List Value := (List.range n).flatMap fun i => [.int .i64 (L i), r i, .int .i64 (V i)]

theorem prodRow_succ (n : Nat) (L : Nat → Int) (r : Nat → Value) (V : Nat → Int) : prodRow (n + 1) L r V = prodRow n L r V ++ [.int .i64 (L n), r n, .int .i64 (V n)] := by simp [prodRow, List.range_succ]
theorem prodRow_length (L : Nat → Int) (r : Nat → Value) (V : Nat → Int) : ∀ n, (prodRow n L r V).length = n * 3
  | 0 => rfl
  | n + 1 => by rw [prodRow_succ, List.length_append, prodRow_length L r V n]; simp; omega
theorem prodRow_at (L : Nat → Int) (r : Nat → Value) (V : Nat → Int) : ∀ n k, k < n → ∀ i, i < 3 → (prodRow n L r V)[k * 3 + i]? = [Value.int .i64 (L k), r k, .int .i64 (V k)][i]?
  | 0, k, hk, _, _ => by omega
  | n + 1, k, hk, i, hi => by
    rw [prodRow_succ]
    by_cases h : k < n
    · rw [List.getElem?_append_left (by rw [prodRow_length]; omega)]
      exact prodRow_at L r V n k h i hi
    · obtain rfl : k = n := by omega
      rw [List.getElem?_append_right (by rw [prodRow_length]; omega), prodRow_length]
      congr 1
      omega
theorem prodRow_ext {n : Nat} {L L' : Nat → Int} {r r' : Nat → Value} {V V' : Nat → Int} (h1 : ∀ i, i < n → L i = L' i) (h2 : ∀ i, i < n → r i = r' i) (h3 : ∀ i, i < n → V i = V' i) : prodRow n L r V = prodRow n L' r' V' := by
  unfold prodRow
  rw [List.flatMap_def, List.flatMap_def]
  congr 1
  exact List.map_congr_left fun i hi => by
    have hi' : i < n := by simpa using hi
    rw [h1 i hi', h2 i hi', h3 i hi']
def updV (r : Nat → Value) (k : Nat) (v : Value) : Nat → Value := fun i => if i = k then v else r i
def updI (L : Nat → Int) (k : Nat) (x : Int) : Nat → Int := fun i => if i = k then x else L i
theorem prodRow_setR (L : Nat → Int) (r : Nat → Value) (V : Nat → Int) (k : Nat) (v : Value) : ∀ n, k < n → (prodRow n L r V).set (k * 3 + 1) v = prodRow n L (updV r k v) V
  | 0, hk => by omega
  | n + 1, hk => by
    rw [prodRow_succ, prodRow_succ]
    by_cases h : k < n
    · rw [List.set_append_left _ _ (by rw [prodRow_length]; omega), prodRow_setR L r V k v n h]
      congr 2
      simp [updV, show n ≠ k by omega]
    · obtain rfl : k = n := by omega
      rw [List.set_append_right _ _ (by rw [prodRow_length]; omega), prodRow_length]
      rw [prodRow_ext (n := k) (L := L) (L' := L) (r := r) (r' := updV r k v) (V := V) (V' := V) (fun _ _ => rfl) (fun i hi => by simp [updV, show i ≠ k by omega]) (fun _ _ => rfl)]
      congr 1
      rw [show k * 3 + 1 - k * 3 = 1 by omega]
      simp [updV]
theorem prodRow_setL (L : Nat → Int) (r : Nat → Value) (V : Nat → Int) (k : Nat) (x : Int) : ∀ n, k < n → (prodRow n L r V).set (k * 3) (.int .i64 x) = prodRow n (updI L k x) r V
  | 0, hk => by omega
  | n + 1, hk => by
    rw [prodRow_succ, prodRow_succ]
    by_cases h : k < n
    · rw [List.set_append_left _ _ (by rw [prodRow_length]; omega), prodRow_setL L r V k x n h]
      congr 2
      simp [updI, show n ≠ k by omega]
    · obtain rfl : k = n := by omega
      rw [List.set_append_right _ _ (by rw [prodRow_length]; omega), prodRow_length]
      rw [prodRow_ext (n := k) (L := L) (L' := updI L k x) (r := r) (r' := r) (V := V) (V' := V) (fun i hi => by simp [updI, show i ≠ k by omega]) (fun _ _ => rfl) (fun _ _ => rfl)]
      congr 1
      rw [show k * 3 - k * 3 = 0 by omega]
      simp [updI]

/-- Productions, wherever they lie: their left sides L, right sides R in the slices ra, rc, their levels V. -/
def ProdsAt (w : World) (a : Option Addr) (n : Nat) (L : Nat → Int) (R : Nat → List Int) (ra : Nat → Option Addr) (rc : Nat → Nat) (V : Nat → Int) : Prop :=
  n = 0 ∨ ∃ b off, a = some ⟨b, off, none⟩ ∧ ∀ k, k < n → w.cell? ⟨b, off + k * 3, none⟩ = some (.int .i64 (L k)) ∧ w.cell? ⟨b, off + k * 3 + 1, none⟩ = some (.slice (ra k) (R k).length (rc k)) ∧ w.cell? ⟨b, off + k * 3 + 2, none⟩ = some (.int .i64 (V k)) ∧ IntsAt w (ra k) (R k) ∧ (ra k = none → rc k = 0) ∧ (R k).length ≤ 17592186044416

theorem prodRow_oneCell (n : Nat) (L : Nat → Int) (ra : Nat → Option Addr) (rn rc : Nat → Nat) (V : Nat → Int) : ∀ u ∈ prodRow n L (fun k => .slice (ra k) (rn k) (rc k)) V, u.oneCell' = true := by
  intro u hu
  simp only [prodRow, List.mem_flatMap, List.mem_range] at hu
  obtain ⟨i, _, hu⟩ := hu
  simp at hu
  rcases hu with rfl | rfl | rfl <;> rfl

theorem copiedProd_any (a : Option Addr) (n cap : Nat) (xs : List Value) (w : World) (hl : xs.length = n * 3) (hnil : a = none → n = 0 ∧ cap = 0) (hc : ∀ x, a = some x → ∀ j u, xs[j]? = some u → w.cell? (x.add j) = some u) (h1 : ∀ u ∈ xs, u.oneCell' = true) (hb : n * 40 ≤ 140737488355328) :
    Calls Try.prog 71 #[.slice a n cap] w fun e w' => ∃ a' c', e = .returned (.slice a' n c') ∧ w'.ownsRow w.heap.size 52 3 (.slice a' n c') n xs ∧ w.grownBy w' none := by
  obtain ⟨i0, hi, hz0, hz1, hz2⟩ := info_parts infoProd
  cases a with
  | none =>
    obtain ⟨rfl, rfl⟩ := hnil rfl
    have hx : xs = [] := List.eq_nil_of_length_eq_zero (by simpa using hl)
    subst hx
    clear hnil hc hl h1 hb
    go_enter Try.func71, Try.ntmps71
    go_wp2_with (at_builtin; refine wpList_append_own_none rfl _ _ 40 rfl w.heap.size 52 i0 3 Try.underlying40 hi (.slice none 0 0) 0 [] rfl (World.ownsRow_nil _ _ _ _) rfl ?_)
    go_ret
    exact ⟨none, 0, rfl, World.ownsRow_nil _ _ _ _, grown_refl _ _⟩
  | some x =>
    have HN : Hid (∀ j u, xs[j]? = some u → w.cell? (x.add j) = some u) := hc x rfl
    have H1 : Hid (∀ u ∈ xs, u.oneCell' = true) := h1
    clear hc hnil h1
    go_enter Try.func71, Try.ntmps71
    go_wp2_with (at_builtin; refine wpList_append_own _ rfl _ _ 40 rfl w.heap.size 52 i0 (.agg #[.int .i64 0, .slice none 0 0, .int .i64 0]) 3 40 Try.underlying40 hi hz0 hz1 hz2 rfl (by decide) (.slice none 0 0) 0 [] rfl (World.ownsRow_nil _ _ _ _) x n cap xs rfl hl HN.out H1.out (by unfold maxLen; omega) (by omega) (Nat.le_refl _) ?_; intro v' w1 hown hg _)
    go_ret
    have hown' : w1.ownsRow w.heap.size 52 3 v' n xs := by simpa using hown
    obtain ⟨a', c', hv⟩ := owns_slice hown'
    have hg' : w.grownBy w1 none := hg
    rw [hv] at hown'
    exact ⟨a', c', by rw [← hv]; rfl, hown', hg'⟩

end Go.Proofs.Ytkbpnafahimeiaa

namespace Go.Proofs.Ytkbpnafahimeiaa
open Go.RowKit Go.Maps Go.Shelf

/-- Productions in memory of their own: the first m of n right sides are new; no two of these lie in one row. -/
structure NewProds (w wr : World) (B : Nat) (v : Value) (n m : Nat) (L : Nat → Int) (R : Nat → List Int) (V : Nat → Int) (rg : Nat → Value) : Prop where
  row : wr.ownsRow B 52 3 v n (prodRow n L rg V)
  rights : ∀ i, i < m → wr.ownsRow B 3 1 (rg i) (R i).length ((R i).map (Value.int .i64))
  apart : ∀ i, i < m → ∀ g, (rg i).ownBlock = some g → v.ownBlock ≠ some g
  disj : ∀ i j, i < j → j < m → ∀ g, (rg i).ownBlock = some g → (rg j).ownBlock ≠ some g
  lo : w.heap.size ≤ B
  grown : w.grownBy wr none

theorem NewProds.kept {w wr wx : World} {B n m : Nat} {v : Value} {L : Nat → Int} {R : Nat → List Int} {V : Nat → Int} {rg : Nat → Value} (h : NewProds w wr B v n m L R V rg) (hg : wr.grownBy wx none) : NewProds w wx B v n m L R V rg :=
  ⟨h.row.kept hg (by cases hv : v.ownBlock <;> simp), fun i hi => (h.rights i hi).kept hg (by cases hv : (rg i).ownBlock <;> simp), h.apart, h.disj, h.lo, grown_trans h.grown hg⟩

theorem NewProds.push {w wr w1 : World} {B g n m c c' : Nat} {a' : Option Addr} {L : Nat → Int} {R : Nat → List Int} {V : Nat → Int} {rg : Nat → Value} (h : NewProds w wr B (.slice (some ⟨g, 0, none⟩) n c) n m L R V rg) (hm : m < n)
    (hown : w1.ownsRow wr.heap.size 3 1 (.slice a' (R m).length c') (R m).length ((R m).map (Value.int .i64))) (hg : wr.grownBy w1 none) :
    NewProds w (w1.setCell ⟨g, m * 3 + 1, none⟩ (.slice a' (R m).length c')) B (.slice (some ⟨g, 0, none⟩) n c) n (m + 1) L R V (updV rg m (.slice a' (R m).length c')) := by
  have h1 := h.kept hg
  have hgB := h.row.lt g rfl
  have hst := grown_setCell (w := w1) g (m * 3 + 1) (.slice a' (R m).length c')
  have hnew : ∀ x, (Value.slice a' (R m).length c').ownBlock = some x → wr.heap.size ≤ x := fun x hx => (hown.lt x hx).1
  have hlo := h.lo
  have hsz := h.grown.size
  have es : updV rg m (.slice a' (R m).length c') m = .slice a' (R m).length c' := by simp [updV]
  have eo : ∀ i, i < m → updV rg m (.slice a' (R m).length c') i = rg i := fun i hi => by simp [updV, show i ≠ m by omega]
  refine ⟨?_, fun i hi => ?_, fun i hi x hx => ?_, fun i j hij hj x hx => ?_, h.lo, grown_new h1.grown hst (Nat.le_trans hlo hgB.1)⟩
  · rw [← prodRow_setR L rg V m _ n hm]
    exact owns_set h1.row _
  · by_cases e : i = m
    · subst e
      rw [es]
      have h2 : w1.ownsRow B 3 1 (.slice a' (R i).length c') (R i).length ((R i).map (Value.int .i64)) := by
        refine ⟨hown.1, ?_⟩
        rcases hown.2 with h' | ⟨x, cap, cur, hv, hb, rest⟩
        · exact .inl h'
        · have hBle : B ≤ wr.heap.size := by
            rcases h.row.2 with ⟨h', _⟩ | ⟨x', _, _, hv', hb', hh', _⟩
            · cases h'
            · have := (Array.getElem?_eq_some_iff.1 hh').1; omega
          exact .inr ⟨x, cap, cur, hv, by omega, rest⟩
      refine h2.kept hst ?_
      cases hx : (Value.slice a' (R i).length c').ownBlock with
      | none => exact .inl rfl
      | some x => have := hnew x hx; exact .inr (by simp; omega)
    · rw [eo i (by omega)]
      refine (h1.rights i (by omega)).kept hst ?_
      cases hx : (rg i).ownBlock with
      | none => exact .inl rfl
      | some x => have := h.apart i (by omega) x hx; simp [Value.ownBlock] at this; exact .inr (by simp; omega)
  · by_cases e : i = m
    · subst e
      rw [es] at hx
      have := hnew x hx
      simp [Value.ownBlock]
      omega
    · rw [eo i (by omega)] at hx
      exact h.apart i (by omega) x hx
  · by_cases e : j = m
    · subst e
      rw [eo i hij] at hx
      rw [es]
      intro hh
      have h3 := hnew x hh
      have h4 := ((h.rights i hij).lt x hx).2
      omega
    · rw [eo i (by omega)] at hx
      rw [eo j (by omega)]
      exact h.disj i j hij (by omega) x hx

set_option maxRecDepth 100000 in
set_option maxHeartbeats 4000000 in
theorem copiedProds_some (b off n cap : Nat) (L : Nat → Int) (R : Nat → List Int) (ra : Nat → Option Addr) (rc : Nat → Nat) (V : Nat → Int) (w : World) (hP : ProdsAt w (some ⟨b, off, none⟩) n L R ra rc V) (h0 : 0 < n) (hb : n * 40 ≤ 140737488355328) :
    Calls Try.prog 35 #[.slice (some ⟨b, off, none⟩) n cap] w fun e w' => ∃ g c rg, e = .returned (.slice (some ⟨g, 0, none⟩) n c) ∧ NewProds w w' w.heap.size (.slice (some ⟨g, 0, none⟩) n c) n n L R V rg := by
  obtain ⟨b', off', hbe, hk⟩ : ∃ b' off', some (⟨b, off, none⟩ : Addr) = some ⟨b', off', none⟩ ∧ ∀ k, k < n → w.cell? ⟨b', off' + k * 3, none⟩ = some (.int .i64 (L k)) ∧ w.cell? ⟨b', off' + k * 3 + 1, none⟩ = some (.slice (ra k) (R k).length (rc k)) ∧ w.cell? ⟨b', off' + k * 3 + 2, none⟩ = some (.int .i64 (V k)) ∧ IntsAt w (ra k) (R k) ∧ (ra k = none → rc k = 0) ∧ (R k).length ≤ 17592186044416 := by
    rcases hP with h | h
    · omega
    · exact h
  simp only [Option.some.injEq, Addr.mk.injEq, and_true] at hbe
  obtain ⟨rfl, rfl⟩ := hbe
  have hcp := copiedProd_any (some ⟨b, off, none⟩) n cap (prodRow n L (fun k => .slice (ra k) (R k).length (rc k)) V) w (prodRow_length _ _ _ _) (fun h => by cases h) (fun x hx j u hu => by
    simp only [Option.some.injEq] at hx
    subst hx
    have hj : j < n * 3 := by have := (List.getElem?_eq_some_iff.1 hu).1; rwa [prodRow_length] at this
    have e : j = (j / 3) * 3 + j % 3 := by omega
    rw [e, prodRow_at L _ V n (j / 3) (by omega) (j % 3) (by omega)] at hu
    obtain ⟨h1, h2, h3, _⟩ := hk (j / 3) (by omega)
    rw [Addr.add_mid, e]
    have hr : j % 3 = 0 ∨ j % 3 = 1 ∨ j % 3 = 2 := by omega
    rcases hr with hr | hr | hr <;> rw [hr] at hu ⊢ <;> simp at hu <;> rw [← hu]
    · exact h1
    · exact h2
    · exact h3) (prodRow_oneCell n L ra (fun k => (R k).length) rc V) hb
  have HK : Hid (∀ k, k < n → IntsAt w (ra k) (R k) ∧ (ra k = none → rc k = 0) ∧ (R k).length ≤ 17592186044416) := fun k h => (hk k h).2.2.2
  clear hP hk
  go_enter Try.func35, Try.ntmps35
  go_wp2_with fail
  refine hcp.mono ?_
  clear hcp
  rintro e w1 ⟨a', c', rfl, hown, hg⟩
  obtain ⟨g, rfl⟩ : ∃ g, a' = some ⟨g, 0, none⟩ := by
    rcases hown.2 with ⟨_, h⟩ | ⟨g, _, _, hv, _⟩
    · omega
    · simp at hv; exact ⟨g, hv.1⟩
  have HN1 : Hid (NewProds w w1 w.heap.size (.slice (some ⟨g, 0, none⟩) n c') n 0 L R V (fun k => .slice (ra k) (R k).length (rc k))) := ⟨hown, fun i hi => absurd hi (Nat.not_lt_zero _), fun i hi => absurd hi (Nat.not_lt_zero _), fun i j _ hj => absurd hj (Nat.not_lt_zero _), Nat.le_refl _, hg⟩
  clear hown hg
  go_wp2_with fail
  go_loopw [8] (fun i wr => ∃ k : Nat, k ≤ n ∧ i = .int .i64 k ∧ ∃ rg, (∀ j, k ≤ j → rg j = .slice (ra j) (R j).length (rc j)) ∧ NewProds w wr w.heap.size (.slice (some ⟨g, 0, none⟩) n c') n k L R V rg) (fun i _ => n - (intOf i).toNat)
  case atStart => exact ⟨0, Nat.zero_le _, rfl, _, fun _ _ => rfl, HN1.out⟩
  case round =>
    obtain ⟨k, hk, rfl, rg, hrest, hNP⟩ := hrel
    have HNP : Hid (NewProds w wr w.heap.size (.slice (some ⟨g, 0, none⟩) n c') n k L R V rg) := hNP
    have HRE : Hid (∀ j, k ≤ j → rg j = .slice (ra j) (R j).length (rc j)) := hrest
    clear hNP hrest HN1
    by_cases hlt : k < n
    · have hck : wr.cell? ⟨g, k * 3 + 1, none⟩ = some (.slice (ra k) (R k).length (rc k)) := by
        refine owns_cell HNP.out.row ?_
        rw [prodRow_at L rg V n k hlt 1 (by omega), HRE.out k (Nat.le_refl _)]
        rfl
      obtain ⟨hI, hrn, hrl⟩ := HK.out k hlt
      have HCI : Hid (Calls Try.prog 34 #[.slice (ra k) (R k).length (rc k)] wr fun e w' => ∃ a' c', e = .returned (.slice a' (R k).length c') ∧ w'.ownsRow wr.heap.size 3 1 (.slice a' (R k).length c') (R k).length ((R k).map (Value.int .i64)) ∧ wr.grownBy w' none) := copiedInt_new (ra k) (rc k) (R k) wr (hI.kept HNP.out.grown) hrn hrl
      clear hI hrn
      go_wp2_with fail
      refine HCI.out.mono ?_
      clear HCI
      rintro e w2 ⟨a2, c2, rfl, hown2, hg2⟩
      have hN2 := HNP.out.kept hg2
      have hfz := owns_free hN2.row (k * 3 + 1)
      have hc2 : w2.cell? ⟨g, k * 3 + 1, none⟩ = some (.slice (ra k) (R k).length (rc k)) := hg2.cell hck (by simp)
      have HFIN : Hid (NewProds w (w2.setCell ⟨g, k * 3 + 1, none⟩ (.slice a2 (R k).length c2)) w.heap.size (.slice (some ⟨g, 0, none⟩) n c') n (k + 1) L R V (updV rg k (.slice a2 (R k).length c2))) := HNP.out.push hlt hown2 hg2
      clear hN2 hown2 hg2 hck
      go_wp2_with fail
      go_roundw
      case rel => exact ⟨k + 1, by omega, by go_num, _, fun j hj => by simp [updV, show j ≠ k by omega, HRE.out j (by omega)], HFIN.out⟩
      case measure => simp [intOf]; omega
    · obtain rfl : k = n := by omega
      go_wp2_with fail
      go_ret
      exact ⟨g, c', rg, rfl, HNP.out⟩

end Go.Proofs.Ytkbpnafahimeiaa
