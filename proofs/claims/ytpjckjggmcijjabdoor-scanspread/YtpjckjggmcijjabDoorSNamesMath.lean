/-
  What a name, and a terminal's text between quotes, are to Words.
-/
import Derived.Test.YtpjckjggmcijjabDoorSRefNames
namespace Go.Proofs.YtpjckjggmcijjabDoor
open Go.RowKit

theorem bs_append (a b : ByteArray) : bs (a ++ b) = bs a ++ bs b := by
  unfold bs
  rw [ByteArray.data_append]
  simp
theorem size_append (a b : ByteArray) : (a ++ b).size = a.size + b.size := by rw [← bs_length, bs_append, List.length_append, bs_length, bs_length]

theorem extract_all (s : ByteArray) : s.extract 0 s.size = s := by
  apply bs_inj
  rw [bs_extract, List.drop_zero]
  exact List.take_of_length_le (by rw [bs_length]; exact Nat.le_refl _)
theorem scanF_succ (f : Nat) (s : ByteArray) (i : Nat) : scanF (f + 1) s i = if s.size ≤ skipTo s i then ([], none) else
    match one s (skipTo s i) with
    | .inr p => ([], some p)
    | .inl x => ((x.1, x.2.1, skipTo s i) :: (scanF f s x.2.2).1, (scanF f s x.2.2).2) := rfl
theorem scan_first {s : ByteArray} (h : s.size ≤ 8192) (h0 : 0 < s.size) (hb : blankB (chr s 0) = false) (hh : chr s 0 ≠ 35) :
    scanW s = match one s 0 with
      | .inr p => ([], some p)
      | .inl x => ((x.1, x.2.1, 0) :: (scanF s.size s x.2.2).1, (scanF s.size s x.2.2).2) := by
  have hsk := skipTo_stop s 0 hb hh
  unfold scanW scan
  rw [if_neg (by omega), scanF_succ, hsk, if_neg (by omega)]
theorem scan_end {s : ByteArray} (f : Nat) : scanF f s s.size = ([], none) := by
  cases f with
  | zero => rfl
  | succ f =>
    unfold scanF
    rw [if_pos (skipTo_ge s s.size)]
theorem start_plain {c : Nat} (h : startB c = true) : blankB c = false ∧ c ≠ 35 := by
  have h' : (65 ≤ c ∧ c ≤ 90) ∨ (97 ≤ c ∧ c ≤ 122) ∨ c = 95 := by simpa [startB, letterB, or_assoc] using h
  refine ⟨?_, by omega⟩
  simp [blankB]
  omega

/-- A name is one word. -/
theorem name_words {s : ByteArray} (h : nameOK s = true) : scanW s = ([(1, s, 0)], none) := by
  have h' : ((1 ≤ s.size ∧ s.size ≤ 16) ∧ startB (chr s 0) = true) ∧ runL innerB (bs s) = s.size := by simpa [nameOK] using h
  obtain ⟨⟨⟨h1, h2⟩, h3⟩, h4⟩ := h'
  obtain ⟨p1, p2⟩ := start_plain h3
  have hk : nmK s 0 = s.size := by unfold nmK; rw [List.drop_zero, h4]; omega
  have ho : one s 0 = .inl (1, s, s.size) := by
    unfold one
    rw [if_pos h3, hk, Nat.zero_add, chr_out (Nat.le_refl _), extract_all]
    rfl
  rw [scan_first (by omega) (by omega) p1 p2, ho]
  simp only
  rw [scan_end]
/-- What is one word of kind 1 is a name. -/
theorem words_name {s : ByteArray} (h : scanW s = ([(1, s, 0)], none)) : nameOK s = true := by
  unfold scanW scan at h
  split at h
  · cases h
  · unfold scanF at h
    split at h
    · cases h
    · next hn =>
      split at h
      · cases h
      · next x hx =>
        simp only [Prod.mk.injEq, List.cons.injEq] at h
        obtain ⟨⟨⟨hk, ht, hs⟩, _⟩, _⟩ := h
        have hsk : skipTo s 0 = 0 := hs
        rw [hsk] at hx hn
        unfold one at hx
        split at hx
        · next hst =>
          split at hx
          · cases hx
          · cases hx
            have ht' : s.extract 0 (0 + nmK s 0) = s := ht
            have hsz : (s.extract 0 (0 + nmK s 0)).size = nmK s 0 := by rw [ext_size s _ _ (by have := run_bound innerB s 0 (Nat.zero_le _); unfold nmK; omega)]; omega
            rw [ht'] at hsz
            have hrl : runL innerB (bs s) = s.size := by
              have h1 : nmK s 0 = min (runL innerB (bs s)) 16 := rfl
              have h2 := runL_le innerB (bs s)
              rw [bs_length] at h2
              omega
            have h16 : s.size ≤ 16 := by have h1 : nmK s 0 = min (runL innerB (bs s)) 16 := rfl; omega
            unfold nameOK
            rw [hst, decide_eq_true hrl, decide_eq_true h16, decide_eq_true (show 1 ≤ s.size by omega)]
            rfl
        · split at hx
          · split at hx
            · cases hx
            · cases hx; cases hk
          · split at hx
            · split at hx
              · cases hx
              · cases hx; cases hk
            · split at hx
              · cases hx; cases hk
              · cases hx

def quotedB (s : ByteArray) : ByteArray := (ByteArray.mk #[39]) ++ s ++ (ByteArray.mk #[39])
theorem quoted_bs (s : ByteArray) : bs (quotedB s) = 39 :: (bs s ++ [39]) := by
  unfold quotedB
  rw [bs_append, bs_append]
  rfl
theorem quoted_size (s : ByteArray) : (quotedB s).size = s.size + 2 := by rw [← bs_length, quoted_bs]; simp [bs_length]
theorem quoted_zero (s : ByteArray) : chr (quotedB s) 0 = 39 := by unfold chr; rw [quoted_bs]; rfl
theorem quoted_run (s : ByteArray) : runL termB ((bs (quotedB s)).drop 1) = runL termB (bs s) := by
  rw [quoted_bs, List.drop_succ_cons, List.drop_zero]
  have : ∀ l : List Nat, runL termB (l ++ [39]) = runL termB l := by
    intro l
    induction l with
    | nil => rfl
    | cons c l ih =>
      rw [List.cons_append, runL_cons, runL_cons, ih]
  exact this _
theorem quoted_inner (s : ByteArray) (k : Nat) (hk : k ≤ s.size) : bs ((quotedB s).extract 1 (1 + k)) = (bs s).take k := by
  rw [bs_extract, quoted_bs, Nat.add_comm 1 k, List.take_succ_cons, List.drop_succ_cons, List.drop_zero, List.take_append_of_le_length (by rw [bs_length]; exact hk)]
theorem quoted_at (s : ByteArray) (k : Nat) (hk : k ≤ s.size) : chr (quotedB s) (1 + k) = if k = s.size then 39 else chr s k := by
  unfold chr
  rw [quoted_bs, Nat.add_comm 1 k]
  show (bs s ++ [39]).getD k 0 = _
  split
  · next e =>
    rw [e, List.getD, List.getElem?_append_right (by rw [bs_length]; exact Nat.le_refl _), bs_length]
    simp
  · next e =>
    rw [List.getD, List.getElem?_append_left (by rw [bs_length]; omega)]
    rfl

theorem term_words {s : ByteArray} (h : termOK s = true) : scanW (quotedB s) = ([(2, s, 0)], none) := by
  have h' : (1 ≤ s.size ∧ s.size ≤ 16) ∧ runL termB (bs s) = s.size := by simpa [termOK] using h
  obtain ⟨⟨h1, h2⟩, h3⟩ := h'
  have hz := quoted_zero s
  have hsz := quoted_size s
  have hk : qtK (quotedB s) (0 + 1) = s.size := by unfold qtK; rw [Nat.zero_add, quoted_run, h3]; omega
  have hx : (quotedB s).extract (0 + 1) (0 + 1 + s.size) = s := by
    apply bs_inj
    rw [Nat.zero_add, quoted_inner s s.size (Nat.le_refl _)]
    exact List.take_of_length_le (by rw [bs_length]; exact Nat.le_refl _)
  have hq : chr (quotedB s) (0 + 1 + s.size) = 39 := by rw [Nat.zero_add, quoted_at s s.size (Nat.le_refl _), if_pos rfl]
  have ho : one (quotedB s) 0 = .inl (2, s, (quotedB s).size) := by
    unfold one
    rw [hz, if_neg (by decide), if_pos rfl, hk, hq, if_neg (by omega), hx, hsz]
    congr 3
    omega
  rw [scan_first (by omega) (by omega) (by rw [hz]; rfl) (by rw [hz]; decide), ho]
  simp only
  rw [scan_end]
theorem words_term {s : ByteArray} (h : scanW (quotedB s) = ([(2, s, 0)], none)) : termOK s = true := by
  have hz := quoted_zero s
  have hsz := quoted_size s
  by_cases hbig : 8192 < (quotedB s).size
  · unfold scanW at h
    rw [if_pos hbig] at h
    cases h
  · rw [scan_first (by omega) (by omega) (by rw [hz]; rfl) (by rw [hz]; decide)] at h
    unfold one at h
    rw [hz, if_neg (by decide), if_pos rfl] at h
    split at h
    · next p hp =>
      cases h
    · next x hx =>
      split at hx
      · cases hx
      · next hc =>
        cases hx
        simp only [Prod.mk.injEq, List.cons.injEq] at h
        obtain ⟨⟨⟨_, ht, _⟩, _⟩, _⟩ := h
        have hk1 : qtK (quotedB s) (0 + 1) = min (runL termB (bs s)) 16 := by unfold qtK; rw [Nat.zero_add, quoted_run]
        generalize qtK (quotedB s) (0 + 1) = k at *
        have hle := runL_le termB (bs s)
        rw [bs_length] at hle
        have hks : k ≤ s.size := by omega
        have e2 := quoted_inner s k hks
        rw [Nat.zero_add] at ht
        rw [ht] at e2
        have hlen : s.size = k := by
          have := congrArg List.length e2
          rw [bs_length, List.length_take, bs_length] at this
          omega
        have hk0 : k ≠ 0 := fun e => hc (.inl e)
        unfold termOK
        rw [decide_eq_true (show 1 ≤ s.size by omega), decide_eq_true (show s.size ≤ 16 by omega), decide_eq_true (show runL termB (bs s) = s.size by omega)]
        rfl

theorem name_term {s : ByteArray} (h : nameOK s = true) : termOK s = true := by
  have h' : ((1 ≤ s.size ∧ s.size ≤ 16) ∧ startB (chr s 0) = true) ∧ runL innerB (bs s) = s.size := by simpa [nameOK] using h
  obtain ⟨⟨⟨h1, h2⟩, h3⟩, h4⟩ := h'
  have h5 : runL termB (bs s) = s.size := runL_full fun j hj => by
    have := runL_all innerB (bs s) j (by omega)
    have hi : innerB (chr s j) = true := this
    have hc : (65 ≤ chr s j ∧ chr s j ≤ 90) ∨ (97 ≤ chr s j ∧ chr s j ≤ 122) ∨ chr s j = 95 ∨ (48 ≤ chr s j ∧ chr s j ≤ 57) := by simpa [innerB, startB, letterB, digitB, or_assoc] using hi
    simp [termB, quoteB]
    omega
  unfold termOK
  rw [decide_eq_true h1, decide_eq_true h2, decide_eq_true h5]
  rfl

end Go.Proofs.YtpjckjggmcijjabDoor
