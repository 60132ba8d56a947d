/-
  Orders, as the document reads them: what begins one, what is one.
-/
import Derived.Test.YtpjckjggmcijjabDoorSRefB
namespace Go.Proofs.YtpjckjggmcijjabDoor
open Go.RowKit

theorem comL_take : ∀ (a b : List Nat) (n : Nat), n ≤ comL a b → a.take n = b.take n
  | _, _, 0, _ => rfl
  | [], b, n + 1, h => by cases b <;> simp [comL] at h
  | x :: a, [], n + 1, h => by simp [comL] at h
  | x :: a, y :: b, n + 1, h => by
    unfold comL at h
    split at h
    · next e => rw [List.take_succ_cons, List.take_succ_cons, e, comL_take a b n (by omega)]
    · omega
theorem comL_of_take : ∀ (a b : List Nat) (n : Nat), n ≤ a.length → n ≤ b.length → a.take n = b.take n → n ≤ comL a b
  | _, _, 0, _, _, _ => Nat.zero_le _
  | [], b, n + 1, h, _, _ => by simp at h
  | x :: a, [], n + 1, _, h, _ => by simp at h
  | x :: a, y :: b, n + 1, h1, h2, h => by
    rw [List.take_succ_cons, List.take_succ_cons] at h
    injection h with e1 e2
    unfold comL
    rw [if_pos e1]
    have := comL_of_take a b n (by simpa using h1) (by simpa using h2) e2
    omega
theorem bestTo_is (t : List Nat) : ∀ k, 0 < (bestTo t k).2 → ∃ j, j < k ∧ (bestTo t k).1 = ordAt j ∧ (bestTo t k).2 = comL (bs (ordAt j)) t
  | 0, h => by simp [bestTo] at h
  | k + 1, h => by
    unfold bestTo at h ⊢
    split at h
    · next e => rw [if_pos e]; exact ⟨k, by omega, rfl, rfl⟩
    · next e =>
      rw [if_neg e]
      obtain ⟨j, hj, h1, h2⟩ := bestTo_is t k h
      exact ⟨j, by omega, h1, h2⟩
theorem no_begin : ∀ a, a < 7 → ∀ b, b < 7 → comL (bs (ordAt a)) (bs (ordAt b)) = (ordAt a).size → a = b := by decide +kernel
theorem ord_letter : ∀ o, o < 7 → ∀ j, j < (bs (ordAt o)).length → 0 < j → letterB ((bs (ordAt o)).getD j 0) = true := by decide +kernel

theorem ext_bs {s : ByteArray} {i n : Nat} : bs (s.extract i (i + n)) = ((bs s).drop i).take n := by
  rw [bs_extract, List.drop_take]
  congr 1
  omega

/-- What begins an order, or is one. -/
theorem hit_some {s : ByteArray} {i n : Nat} (hn : 0 < n) (hs : i + n ≤ s.size) : (∃ o, o < 7 ∧ hitB (s.extract i (i + n)) false (ordAt o)) ↔ n ≤ (bestTo ((bs s).drop i) 7).2 := by
  have hx : (s.extract i (i + n)).size = n := by rw [ext_size s _ _ hs]; omega
  have hl : n ≤ ((bs s).drop i).length := by rw [List.length_drop, bs_length]; omega
  constructor
  · rintro ⟨o, ho, h⟩
    refine Nat.le_trans ?_ (bestTo_max _ 7 o ho)
    rcases h with h | ⟨_, h1, h2⟩
    · refine comL_of_take _ _ n (by rw [h, bs_length]; omega) hl ?_
      rw [h, ext_bs, List.take_take, Nat.min_self]
    · rw [hx] at h1 h2
      refine comL_of_take _ _ n (by rw [bs_length]; omega) hl ?_
      have h3 := congrArg bs h2
      rw [ext_bs, bs_extract, List.drop_zero] at h3
      exact h3
  · intro h
    obtain ⟨j, hj, h1, h2⟩ := bestTo_is ((bs s).drop i) 7 (by omega)
    rw [h2] at h
    have ht := comL_take _ _ n h
    have hlen := (comL_le (bs (ordAt j)) ((bs s).drop i)).1
    rw [bs_length] at hlen
    refine ⟨j, hj, ?_⟩
    by_cases e : (ordAt j).size = n
    · left
      apply bs_inj
      rw [ext_bs, ← ht, List.take_of_length_le (by rw [bs_length]; omega)]
    · right
      refine ⟨rfl, by rw [hx]; omega, ?_⟩
      apply bs_inj
      rw [hx, ext_bs, bs_extract, List.drop_zero, ht]
/-- What is one. -/
theorem hit_whole {s : ByteArray} {i L : Nat} {near : ByteArray} (hb : bestTo ((bs s).drop i) 7 = (near, L)) (hL : 0 < L) (hs : i + L ≤ s.size) : (∃ o, o < 7 ∧ hitB (s.extract i (i + L)) true (ordAt o)) ↔ ¬ L < near.size := by
  have hx : (s.extract i (i + L)).size = L := by rw [ext_size s _ _ hs]; omega
  have hl : L ≤ ((bs s).drop i).length := by rw [List.length_drop, bs_length]; omega
  obtain ⟨j, hj, h1, h2⟩ := bestTo_is ((bs s).drop i) 7 (by rw [hb]; exact hL)
  rw [hb] at h1 h2
  simp only at h1 h2
  have ht := comL_take (bs (ordAt j)) ((bs s).drop i) L (by omega)
  have hlen := (comL_le (bs (ordAt j)) ((bs s).drop i)).1
  rw [bs_length] at hlen
  constructor
  · rintro ⟨o, ho, h⟩
    rcases h with h | ⟨h, _⟩
    · have ho2 : (ordAt o).size = L := by rw [h, hx]
      have hoj : o = j := by
        refine no_begin o ho j hj ?_
        have hle := (comL_le (bs (ordAt o)) (bs (ordAt j))).1
        have hge := comL_of_take (bs (ordAt o)) (bs (ordAt j)) L (by rw [bs_length]; omega) (by rw [bs_length]; omega) (by rw [ht, h, ext_bs, List.take_take, Nat.min_self])
        rw [bs_length] at hle
        omega
      rw [h1, ← hoj]
      omega
    · cases h
  · intro h
    refine ⟨j, hj, .inl ?_⟩
    rw [h1] at h
    apply bs_inj
    rw [ext_bs, ← ht, List.take_of_length_le (by rw [bs_length]; omega)]
/-- Where no letter stands behind what begins an order, it is all that does. -/
theorem order_end {s : ByteArray} {i n : Nat} (hn : 0 < n) (hle : n ≤ (bestTo ((bs s).drop i) 7).2) (hc : letterB (chr s (i + n)) = false) : n = (bestTo ((bs s).drop i) 7).2 := by
  apply Classical.byContradiction
  intro hne
  obtain ⟨j, hj, h1, h2⟩ := bestTo_is ((bs s).drop i) 7 (by omega)
  have hl := comL_alike (bs (ordAt j)) ((bs s).drop i) n (by omega)
  have hlen := (comL_le (bs (ordAt j)) ((bs s).drop i)).1
  have := ord_letter j hj n (by omega) hn
  rw [hl, drop_getD] at this
  exact absurd (this.symm.trans hc) (by simp)
theorem near_text {s : ByteArray} {i L : Nat} {near : ByteArray} (hb : bestTo ((bs s).drop i) 7 = (near, L)) (hL : 0 < L) (h : ¬ L < near.size) : s.extract i (i + L) = near := by
  obtain ⟨j, hj, h1, h2⟩ := bestTo_is ((bs s).drop i) 7 (by rw [hb]; exact hL)
  rw [hb] at h1 h2
  simp only at h1 h2
  rw [h1] at h ⊢
  apply bs_inj
  rw [ext_bs, ← comL_take (bs (ordAt j)) ((bs s).drop i) L (by omega), List.take_of_length_le (by rw [bs_length]; omega)]

end Go.Proofs.YtpjckjggmcijjabDoor
