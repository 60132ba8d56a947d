/-
  All words of a text, by the document: one behind the other, up to the bad place.
-/
import Derived.Test.YtpjckjggmcijjabDoorSWord
namespace Go.Proofs.YtpjckjggmcijjabDoor
open Go.RowKit

/-- A word: its kind, its text, its place. -/
abbrev El := Nat × ByteArray × Nat
def scanF : Nat → ByteArray → Nat → List El × Option Nat
  | 0, _, _ => ([], none)
  | f + 1, s, i => if s.size ≤ skipTo s i then ([], none) else
    match one s (skipTo s i) with
    | .inr p => ([], some p)
    | .inl x => ((x.1, x.2.1, skipTo s i) :: (scanF f s x.2.2).1, (scanF f s x.2.2).2)
/-- All of them, and the bad place. -/
def scan (s : ByteArray) : List El × Option Nat := scanF (s.size + 1) s 0

theorem runL_pos {p : Nat → Bool} {l : List Nat} (h : p (l.getD 0 0) = true) (hp : p 0 = false) : 0 < runL p l := by
  cases l with
  | nil => simp [hp] at h
  | cons c l => rw [runL_cons, if_pos (by simpa using h)]; omega
theorem start_inner {c : Nat} (h : startB c = true) : innerB c = true := by simp [innerB, h]
theorem chr_drop (s : ByteArray) (i : Nat) : ((bs s).drop i).getD 0 0 = chr s i := by rw [drop_getD]; rfl
theorem chr_out {s : ByteArray} {i : Nat} (h : s.size ≤ i) : chr s i = 0 := by
  unfold chr; rw [List.getD, List.getElem?_eq_none (by rw [bs_length]; omega)]; rfl

theorem best_pos {t : List Nat} (h : t.getD 0 0 = 37) : 0 < (bestTo t 7).2 := by
  have h1 : 0 < comL (bs (ordAt 0)) t := by
    cases t with
    | nil => simp at h
    | cons c l =>
      have hc : c = 37 := by simpa using h
      subst hc
      show 0 < comL (37 :: [116, 111, 107, 101, 110]) (37 :: l)
      unfold comL
      rw [if_pos rfl]
      omega
  have h2 : ∀ k, 0 < (bestTo t (k + 1)).2 := by
    intro k
    induction k with
    | zero =>
      unfold bestTo
      split
      · exact h1
      · next hn => exact absurd (show (bestTo t 0).2 < _ from h1) hn
    | succ k ih =>
      unfold bestTo
      split
      · next hn => exact Nat.lt_of_le_of_lt (Nat.zero_le _) hn
      · exact ih
  exact h2 6

/-- A word ends behind its place. -/
theorem one_next {s : ByteArray} {i : Nat} (hi : i < s.size) {x : Nat × ByteArray × Nat} (h : one s i = .inl x) : i < x.2.2 ∧ x.2.2 ≤ s.size := by
  unfold one at h
  split at h
  · next hs =>
    split at h
    · cases h
    · cases h
      have hp : 0 < runL innerB ((bs s).drop i) := runL_pos (by rw [chr_drop]; exact start_inner hs) rfl
      have := run_bound innerB s i (by omega)
      simp only [nmK]
      omega
  · split at h
    · split at h
      · cases h
      · next hn =>
        cases h
        have hc : chr s (i + 1 + qtK s (i + 1)) = 39 := by
          apply Classical.byContradiction
          intro hc
          exact hn (.inr hc)
        have hlt : i + 1 + qtK s (i + 1) < s.size := by
          apply Classical.byContradiction
          intro hge
          rw [chr_out (by omega)] at hc
          omega
        simp only
        omega
    · split at h
      · next h37 =>
        split at h
        · cases h
        · cases h
          have h1 := best_pos (t := (bs s).drop i) (by rw [chr_drop]; exact h37)
          have h2 := (bestTo_le ((bs s).drop i) 7).1
          rw [List.length_drop, bs_length] at h2
          simp only
          omega
      · split at h
        · cases h
          simp only
          omega
        · cases h
theorem one_bad {s : ByteArray} {i : Nat} (hi : i < s.size) {p : Nat} (h : one s i = .inr p) : i ≤ p ∧ p ≤ s.size := by
  unfold one at h
  split at h
  · split at h
    · cases h
      have := run_bound innerB s i (by omega)
      simp only [nmK]
      omega
    · cases h
  · split at h
    · split at h
      · cases h
        have := run_bound termB s (i + 1) (by omega)
        simp only [qtK]
        omega
      · cases h
    · split at h
      · split at h
        · cases h
          have h2 := (bestTo_le ((bs s).drop i) 7).1
          rw [List.length_drop, bs_length] at h2
          omega
        · cases h
      · split at h
        · cases h
        · cases h
          omega
theorem skipTo_ge (s : ByteArray) (i : Nat) : i ≤ skipTo s i := Nat.le_add_right _ _

/-- The words from a place on: enough fuel. -/
theorem scanF_more (s : ByteArray) : ∀ (f g i : Nat), i ≤ s.size → s.size < f + i → s.size < g + i → scanF f s i = scanF g s i
  | 0, g, i, _, h1, _ => by omega
  | f + 1, 0, i, _, _, h2 => by omega
  | f + 1, g + 1, i, hi, h1, h2 => by
    unfold scanF
    split
    · rfl
    · next hn =>
      split
      · rfl
      · next x hx =>
        have hsk := skipTo_ge s i
        obtain ⟨h3, h4⟩ := one_next (by omega) hx
        rw [scanF_more s f g x.2.2 h4 (by omega) (by omega)]
theorem scanF_len (s : ByteArray) : ∀ (f i : Nat), i ≤ s.size → (scanF f s i).1.length + i ≤ s.size
  | 0, i, h => by simpa [scanF] using h
  | f + 1, i, h => by
    unfold scanF
    split
    · simpa using h
    · split
      · simpa using h
      · next x hx =>
        have hsk := skipTo_ge s i
        obtain ⟨h3, h4⟩ := one_next (by omega) hx
        have := scanF_len s f x.2.2 h4
        simp only [List.length_cons]
        omega
theorem scan_len (s : ByteArray) : (scan s).1.length ≤ s.size := by have := scanF_len s (s.size + 1) 0 (Nat.zero_le _); unfold scan; omega
theorem scanF_bad (s : ByteArray) : ∀ (f i p : Nat), i ≤ s.size → (scanF f s i).2 = some p → p ≤ s.size
  | 0, i, p, _, h => by simp [scanF] at h
  | f + 1, i, p, hi, h => by
    unfold scanF at h
    split at h
    · cases h
    · next hn =>
      split at h
      · next hx => cases h; exact (one_bad (by omega) hx).2
      · next x hx =>
        obtain ⟨h3, h4⟩ := one_next (by omega) hx
        exact scanF_bad s f x.2.2 p h4 h

end Go.Proofs.YtpjckjggmcijjabDoor
