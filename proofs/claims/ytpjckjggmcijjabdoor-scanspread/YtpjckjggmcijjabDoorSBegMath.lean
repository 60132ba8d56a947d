/-
  Two texts that begin alike: their words.
-/
import Derived.Test.YtpjckjggmcijjabDoorSNamesMath
namespace Go.Proofs.YtpjckjggmcijjabDoor
open Go.RowKit

theorem runL_ge (p : Nat → Bool) : ∀ (l : List Nat) (k : Nat), k ≤ l.length → (∀ j, j < k → p (l.getD j 0) = true) → k ≤ runL p l
  | _, 0, _, _ => Nat.zero_le _
  | [], k + 1, h, _ => by simp at h
  | c :: l, k + 1, h1, h2 => by
    rw [runL_cons, if_pos (by simpa using h2 0 (by omega))]
    have := runL_ge p l k (by simpa using h1) (fun j hj => by simpa using h2 (j + 1) (by omega))
    omega
theorem run_end (p : Nat → Bool) (hp : p 0 = false) (s : ByteArray) (i : Nat) : p (chr s (i + runL p ((bs s).drop i))) = false := by
  by_cases h : runL p ((bs s).drop i) < ((bs s).drop i).length
  · have := runL_stop p _ h
    rw [drop_getD] at this
    exact this
  · have := runL_le p ((bs s).drop i)
    rw [List.length_drop, bs_length] at *
    rw [chr_out (by omega)]
    exact hp
theorem minrun_agree {p : Nat → Bool} {s t : ByteArray} {i k m : Nat} (hk : min (runL p ((bs s).drop i)) m = k) (hsz : i + k ≤ t.size) (ag : ∀ j, j < i + k → chr t j = chr s j) (hb : k = m ∨ p (chr t (i + k)) = false) : min (runL p ((bs t).drop i)) m = k := by
  have hall : ∀ j, j < k → p (((bs t).drop i).getD j 0) = true := fun j hj => by
    have := runL_all p ((bs s).drop i) j (by omega)
    rw [drop_getD] at this ⊢
    show p (chr t (i + j)) = true
    rw [ag _ (by omega)]
    exact this
  have hge := runL_ge p ((bs t).drop i) k (by rw [List.length_drop, bs_length]; omega) hall
  rcases hb with hb | hb
  · omega
  · have : ¬ k < runL p ((bs t).drop i) := fun hlt => by
      have := runL_all p ((bs t).drop i) k hlt
      rw [drop_getD] at this
      exact absurd (this.symm.trans hb) (by simp)
    omega

theorem comL_alike : ∀ (l m : List Nat) (j : Nat), j < comL l m → l.getD j 0 = m.getD j 0
  | [], m, j, h => by cases m <;> simp [comL] at h
  | a :: l, [], j, h => by simp [comL] at h
  | a :: l, b :: m, j, h => by
    unfold comL at h
    split at h
    · next e =>
      cases j with
      | zero => simpa using e
      | succ j => simpa using comL_alike l m j (by omega)
    · omega
theorem comL_stop : ∀ (l m : List Nat), comL l m < l.length → comL l m < m.length → l.getD (comL l m) 0 ≠ m.getD (comL l m) 0
  | [], m, h, _ => by simp at h
  | a :: l, [], _, h => by simp at h
  | a :: l, b :: m, h1, h2 => by
    unfold comL at h1 h2 ⊢
    split at h1
    · next e =>
      rw [if_pos e] at h2 ⊢
      simpa using comL_stop l m (by simpa using h1) (by simpa using h2)
    · next e =>
      rw [if_neg e]
      simpa using e
theorem bestTo_max (t : List Nat) : ∀ (k o : Nat), o < k → comL (bs (ordAt o)) t ≤ (bestTo t k).2
  | 0, o, h => by omega
  | k + 1, o, h => by
    have ih := bestTo_max t k
    unfold bestTo
    split
    · next hlt =>
      by_cases e : o = k
      · subst e; exact Nat.le_refl _
      · exact Nat.le_of_lt (Nat.lt_of_le_of_lt (ih o (by omega)) hlt)
    · next hlt =>
      by_cases e : o = k
      · subst e; omega
      · exact ih o (by omega)
theorem bestTo_same {l m : List Nat} (h : ∀ o, o < 7 → comL (bs (ordAt o)) l = comL (bs (ordAt o)) m) : ∀ k, k ≤ 7 → bestTo l k = bestTo m k
  | 0, _ => rfl
  | k + 1, hk => by
    unfold bestTo
    rw [bestTo_same h k (by omega), h k (by omega)]
theorem ord_byte : ∀ o, o < 7 → ∀ j, j < (bs (ordAt o)).length → (bs (ordAt o)).getD j 0 ≠ 0 ∧ (bs (ordAt o)).getD j 0 ≠ 32 := by decide +kernel

/-- At the border the one goes on as the other does, or there it ends or has a space. -/
def Bd (s t : ByteArray) (n : Nat) : Prop := chr t n = chr s n ∨ chr t n = 0 ∨ chr t n = 32
theorem Bd.out {s t : ByteArray} {n : Nat} (h : Bd s t n) {p : Nat → Bool} (hs : p (chr s n) = false) (h0 : p 0 = false) (h32 : p 32 = false) : p (chr t n) = false := by
  rcases h with h | h | h <;> rw [h] <;> assumption

theorem best_agree {s t : ByteArray} {i : Nat} (ht : i + (bestTo ((bs s).drop i) 7).2 ≤ t.size) (ag : ∀ j, j < i + (bestTo ((bs s).drop i) 7).2 → chr t j = chr s j) (bd : Bd s t (i + (bestTo ((bs s).drop i) 7).2)) :
    bestTo ((bs t).drop i) 7 = bestTo ((bs s).drop i) 7 := by
  refine bestTo_same (fun o ho => ?_) 7 (Nat.le_refl _)
  have hmax := bestTo_max ((bs s).drop i) 7 o ho
  have hc := comL_le (bs (ordAt o)) ((bs s).drop i)
  generalize (bestTo ((bs s).drop i) 7).2 = L at *
  have hal := comL_alike (bs (ordAt o)) ((bs s).drop i)
  have hst := comL_stop (bs (ordAt o)) ((bs s).drop i)
  generalize comL (bs (ordAt o)) ((bs s).drop i) = c at *
  rw [List.length_drop, bs_length, bs_length] at hc
  refine comL_eq _ _ c (by rw [bs_length]; exact hc.1) (by rw [List.length_drop, bs_length]; omega) (fun j hj => ?_) ?_
  · rw [hal j hj, drop_getD, drop_getD]
    exact (ag _ (by omega)).symm
  · by_cases hl : c = (bs (ordAt o)).length
    · exact .inl hl
    · right; right
      have hlt : c < (bs (ordAt o)).length := by rw [bs_length] at hl ⊢; omega
      obtain ⟨hb0, hb32⟩ := ord_byte o ho c hlt
      have hst' : (bs (ordAt o)).getD c 0 ≠ chr s (i + c) := by
        by_cases hx : i + c < s.size
        · have := hst hlt (by rw [List.length_drop, bs_length]; omega)
          rw [drop_getD] at this
          exact this
        · rw [chr_out (by omega)]; exact hb0
      rw [drop_getD]
      show _ ≠ chr t (i + c)
      by_cases hcl : c < L
      · rw [ag _ (by omega)]; exact hst'
      · obtain rfl : c = L := by omega
        rcases bd with h | h | h <;> rw [h] <;> assumption

theorem chr_get (s : ByteArray) (j : Nat) (h : j < s.size) : (bs s)[j]? = some (chr s j) := by
  have h' : j < (bs s).length := by rw [bs_length]; exact h
  unfold chr
  simp [List.getD, h']
theorem take_agree {s t : ByteArray} {n : Nat} (hs : n ≤ s.size) (ht : n ≤ t.size) (ag : ∀ j, j < n → chr t j = chr s j) : (bs t).take n = (bs s).take n := by
  apply List.ext_getElem?
  intro j
  rw [List.getElem?_take, List.getElem?_take]
  split
  · next h => rw [chr_get t j (by omega), chr_get s j (by omega), ag j h]
  · rfl
theorem extract_agree {s t : ByteArray} {a b : Nat} (hs : b ≤ s.size) (ht : b ≤ t.size) (ag : ∀ j, j < b → chr t j = chr s j) : t.extract a b = s.extract a b := by
  apply bs_inj
  rw [bs_extract, bs_extract, take_agree hs ht ag]

/-- A word that ends ahead of the border. -/
theorem one_word {s t : ByteArray} {i : Nat} (hi : i < s.size) {x : Nat × ByteArray × Nat} (h : one s i = .inl x) (ht : x.2.2 ≤ t.size) (ag : ∀ j, j < x.2.2 → chr t j = chr s j) (bd : Bd s t x.2.2) : one t i = .inl x := by
  obtain ⟨hn1, hn2⟩ := one_next hi h
  have hci : chr t i = chr s i := ag i hn1
  unfold one at h ⊢
  rw [hci]
  split at h
  · next h1 =>
    rw [if_pos h1]
    split at h
    · cases h
    · next h2 =>
      cases h
      have h2' : innerB (chr s (i + nmK s i)) = false := by simpa using h2
      have hk : nmK t i = nmK s i := minrun_agree rfl ht ag (.inr (bd.out h2' rfl rfl))
      rw [hk, if_neg (by rw [bd.out h2' rfl rfl]; simp), extract_agree hn2 ht ag]
  · next h1 =>
    rw [if_neg h1]
    split at h
    · next h3 =>
      rw [if_pos h3]
      split at h
      · cases h
      · next h4 =>
        cases h
        have hc : chr s (i + 1 + qtK s (i + 1)) = 39 := by
          apply Classical.byContradiction
          intro hc
          exact h4 (.inr hc)
        have hc' : chr t (i + 1 + qtK s (i + 1)) = 39 := (ag _ (by simp only; omega)).trans hc
        have hk : qtK t (i + 1) = qtK s (i + 1) := minrun_agree rfl (by have ht' : i + 1 + qtK s (i + 1) + 1 ≤ t.size := ht; omega) (fun j hj => ag j (by show j < i + 1 + qtK s (i + 1) + 1; omega)) (.inr (by show termB (chr t (i + 1 + qtK s (i + 1))) = false; rw [hc']; rfl))
        rw [hk, if_neg (by rw [hc']; rw [hc] at h4; exact h4), extract_agree (by simp only at hn2; omega) (by simp only at ht; omega) (fun j hj => ag j (by simp only; omega))]
    · next h3 =>
      rw [if_neg h3]
      split at h
      · next h5 =>
        rw [if_pos h5]
        split at h
        · cases h
        · next h6 =>
          cases h
          have hb := best_agree ht ag bd
          have h6' : (decide ((bestTo ((bs s).drop i) 7).2 < (bestTo ((bs s).drop i) 7).1.size)) = false ∧ letterB (chr s (i + (bestTo ((bs s).drop i) 7).2)) = false := by
            rw [Bool.not_eq_true, Bool.or_eq_false_iff] at h6
            exact h6
          rw [hb, if_neg (by rw [h6'.1, bd.out h6'.2 rfl rfl]; simp)]
      · next h5 =>
        rw [if_neg h5]
        split at h
        · next h7 =>
          cases h
          rw [if_pos h7, extract_agree hn2 ht ag]
        · cases h

theorem full_run {p : Nat → Bool} (hp : p 0 = false) {s : ByteArray} {i m : Nat} (h : p (chr s (i + min (runL p ((bs s).drop i)) m)) = true) : min (runL p ((bs s).drop i)) m = m := by
  by_cases hm : runL p ((bs s).drop i) < m
  · rw [Nat.min_eq_left (by omega), run_end p hp] at h
    cases h
  · omega

/-- A bad place within both. -/
theorem one_badplace {s t : ByteArray} {i : Nat} (hi : i < s.size) {p : Nat} (h : one s i = .inr p) (ht : p < t.size) (ag : ∀ j, j ≤ p → chr t j = chr s j) : one t i = .inr p := by
  obtain ⟨hn1, hn2⟩ := one_bad hi h
  have hci : chr t i = chr s i := ag i hn1
  unfold one at h ⊢
  rw [hci]
  split at h
  · next h1 =>
    rw [if_pos h1]
    split at h
    · next h2 =>
      cases h
      have hk : nmK t i = nmK s i := minrun_agree rfl (Nat.le_of_lt ht) (fun j hj => ag j (Nat.le_of_lt hj)) (.inl (full_run rfl h2))
      rw [hk, ag _ (Nat.le_refl _), if_pos h2]
    · cases h
  · next h1 =>
    rw [if_neg h1]
    split at h
    · next h3 =>
      rw [if_pos h3]
      split at h
      · next h4 =>
        cases h
        have hk : qtK t (i + 1) = qtK s (i + 1) := by
          refine minrun_agree rfl (Nat.le_of_lt ht) (fun j hj => ag j (Nat.le_of_lt hj)) ?_
          by_cases hf : termB (chr s (i + 1 + min (runL termB ((bs s).drop (i + 1))) 16)) = true
          · exact .inl (full_run rfl hf)
          · right
            rw [ag _ (Nat.le_refl _)]
            exact Bool.eq_false_iff.2 hf
        rw [hk, ag _ (Nat.le_refl _), if_pos h4]
      · cases h
    · next h3 =>
      rw [if_neg h3]
      split at h
      · next h5 =>
        rw [if_pos h5]
        split at h
        · next h6 =>
          cases h
          have hb := best_agree (Nat.le_of_lt ht) (fun j hj => ag j (Nat.le_of_lt hj)) (.inl (ag _ (Nat.le_refl _)))
          rw [hb, ag _ (Nat.le_refl _), if_pos h6]
        · cases h
      · next h5 =>
        rw [if_neg h5]
        split at h
        · cases h
        · next h7 =>
          cases h
          rw [if_neg h7]

/-- What stands ahead of the bad place. -/
theorem one_head {s t : ByteArray} {i : Nat} {p : Nat} (h : one s i = .inr p) (hip : i < p) (ht : t.size = p) (ag : ∀ j, j < p → chr t j = chr s j) : one t i = .inr p ∨ ∃ x, one t i = .inl x ∧ x.2.2 = p := by
  have hci : chr t i = chr s i := ag i hip
  have hz : chr t p = 0 := chr_out (by omega)
  unfold one at h ⊢
  rw [hci]
  split at h
  · next h1 =>
    rw [if_pos h1]
    split at h
    · next h2 =>
      cases h
      have hk : nmK t i = nmK s i := minrun_agree rfl (Nat.le_of_eq ht.symm) ag (.inl (full_run rfl h2))
      right
      rw [hk, hz]
      exact ⟨_, rfl, rfl⟩
    · cases h
  · next h1 =>
    rw [if_neg h1]
    split at h
    · next h3 =>
      rw [if_pos h3]
      split at h
      · next h4 =>
        cases h
        have hk : qtK t (i + 1) = qtK s (i + 1) := minrun_agree rfl (Nat.le_of_eq ht.symm) ag (.inr (by show termB (chr t (i + 1 + qtK s (i + 1))) = false; rw [hz]; rfl))
        left
        rw [hk, hz, if_pos (.inr (by decide))]
      · cases h
    · next h3 =>
      rw [if_neg h3]
      split at h
      · next h5 =>
        rw [if_pos h5]
        split at h
        · next h6 =>
          cases h
          have hb := best_agree (Nat.le_of_eq ht.symm) ag (.inr (.inl hz))
          rw [hb]
          split
          · exact .inl rfl
          · exact .inr ⟨_, rfl, rfl⟩
        · cases h
      · next h5 =>
        rw [if_neg h5]
        split at h
        · cases h
        · cases h
          omega

theorem skipC_take : ∀ (b : Bool) (l : List Nat) (n : Nat), skipC b (l.take n) = min (skipC b l) n
  | b, [], n => by cases b <;> simp [skipC]
  | b, c :: l, 0 => by cases b <;> simp [skipC]
  | true, c :: l, n + 1 => by
    rw [List.take_succ_cons]
    unfold skipC
    rw [skipC_take]
    omega
  | false, c :: l, n + 1 => by
    rw [List.take_succ_cons]
    unfold skipC
    split
    · rw [skipC_take]; omega
    · split
      · rw [skipC_take]; omega
      · omega
theorem skipC_more : ∀ (b : Bool) (l : List Nat), skipC b l = l.length → skipC b (l ++ [32, 10]) = l.length + 2
  | true, [], _ => by decide
  | false, [], _ => by decide
  | true, c :: l, h => by
    rw [List.cons_append]
    unfold skipC at h ⊢
    rw [skipC_more _ l (by simpa using h)]
    rfl
  | false, c :: l, h => by
    rw [List.cons_append]
    unfold skipC at h ⊢
    split at h
    · next e => rw [if_pos e, skipC_more _ l (by simpa using h)]; rfl
    · next e =>
      split at h
      · next e2 => rw [if_neg e, if_pos e2, skipC_more _ l (by simpa using h)]; rfl
      · simp at h

theorem skip_agree {s t : ByteArray} (i : Nat) (hs : skipTo s i < s.size) (ht : skipTo s i < t.size) (ag : ∀ j, j ≤ skipTo s i → chr t j = chr s j) : skipTo t i = skipTo s i := by
  have h := take_agree (n := skipTo s i + 1) (by omega) (by omega) (fun j hj => ag j (by omega))
  have h2 : ((bs t).drop i).take (skipTo s i + 1 - i) = ((bs s).drop i).take (skipTo s i + 1 - i) := by
    rw [← List.drop_take, ← List.drop_take, h]
  have h3 := congrArg (skipC false) h2
  rw [skipC_take, skipC_take] at h3
  unfold skipTo at *
  omega
theorem skip_head {s t : ByteArray} {i p : Nat} (hi : i ≤ p) (hs : p ≤ s.size) (ht : t.size = p) (hk : p ≤ skipTo s i) (ag : ∀ j, j < p → chr t j = chr s j) : skipTo t i = p := by
  have h := take_agree (n := p) hs (Nat.le_of_eq ht.symm) ag
  have h0 : (bs t).take p = bs t := List.take_of_length_le (by rw [bs_length]; omega)
  rw [h0] at h
  have h2 : (bs t).drop i = ((bs s).drop i).take (p - i) := by rw [h, List.drop_take]
  have h3 := congrArg (skipC false) h2
  rw [skipC_take] at h3
  unfold skipTo at *
  omega

def blanked (s : ByteArray) : ByteArray := s ++ (ByteArray.mk #[32, 10])
theorem blanked_bs (s : ByteArray) : bs (blanked s) = bs s ++ [32, 10] := by unfold blanked; rw [bs_append]; rfl
theorem blanked_size (s : ByteArray) : (blanked s).size = s.size + 2 := by unfold blanked; rw [size_append]; rfl
theorem blanked_chr (s : ByteArray) (j : Nat) (h : j < s.size) : chr (blanked s) j = chr s j := by
  unfold chr
  rw [blanked_bs, List.getD, List.getD, List.getElem?_append_left (by rw [bs_length]; exact h)]
theorem blanked_at (s : ByteArray) : chr (blanked s) s.size = 32 := by
  unfold chr
  rw [blanked_bs, List.getD, List.getElem?_append_right (by rw [bs_length]; exact Nat.le_refl _), bs_length, Nat.sub_self]
  rfl
theorem blanked_skip {s : ByteArray} {i : Nat} (hi : i ≤ s.size) (h : skipTo s i = s.size) : skipTo (blanked s) i = s.size + 2 := by
  unfold skipTo at h ⊢
  rw [blanked_bs, List.drop_append_of_le_length (by rw [bs_length]; exact hi), skipC_more _ _ (by rw [List.length_drop, bs_length]; omega), List.length_drop, bs_length]
  omega

theorem scan_blanked (s : ByteArray) : ∀ (f i : Nat), i ≤ s.size → (scanF f s i).2 = none → scanF f (blanked s) i = scanF f s i
  | 0, _, _, _ => rfl
  | f + 1, i, hi, h => by
    rw [scanF_succ] at h ⊢
    rw [scanF_succ]
    have hle := skipTo_le hi
    split at h
    · next hk =>
      rw [if_pos hk, blanked_skip hi (by omega), blanked_size, if_pos (Nat.le_refl _)]
    · next hk =>
      have hs := skip_agree (t := blanked s) i (by omega) (by rw [blanked_size]; omega) (fun j hj => blanked_chr s j (by omega))
      rw [if_neg hk, hs, blanked_size, if_neg (by omega)]
      split at h
      · cases h
      · next x hx =>
        obtain ⟨h1, h2⟩ := one_next (by omega) hx
        have hb : Bd s (blanked s) x.2.2 := by
          by_cases e : x.2.2 = s.size
          · rw [e]; exact .inr (.inr (blanked_at s))
          · exact .inl (blanked_chr s _ (by omega))
        rw [one_word (t := blanked s) (by omega) hx (by rw [blanked_size]; omega) (fun j hj => blanked_chr s j (by omega)) hb]
        simp only
        rw [scan_blanked s f x.2.2 h2 h]

theorem scanF_low (s : ByteArray) : ∀ (f i p : Nat), i ≤ s.size → (scanF f s i).2 = some p → i ≤ p
  | 0, i, p, _, h => by simp [scanF] at h
  | f + 1, i, p, hi, h => by
    rw [scanF_succ] at h
    have hge := skipTo_ge s i
    split at h
    · cases h
    · next hk =>
      split at h
      · next q hq => cases h; have := (one_bad (by omega) hq).1; omega
      · next x hx =>
        obtain ⟨h1, h2⟩ := one_next (by omega) hx
        have := scanF_low s f x.2.2 p h2 h
        omega
theorem scan_head {s t : ByteArray} {p : Nat} (hp : p ≤ s.size) (ht : t.size = p) (ag : ∀ j, j < p → chr t j = chr s j) : ∀ (f i : Nat), i ≤ p → (scanF f s i).2 = some p → (scanF f t i).2 = none ∨ (scanF f t i).2 = some p
  | 0, _, _, _ => .inl rfl
  | f + 1, i, hi, h => by
    rw [scanF_succ] at h ⊢
    have hge := skipTo_ge s i
    split at h
    · cases h
    · next hk =>
      split at h
      · next q hq =>
        cases h
        have hlo := (one_bad (by omega) hq).1
        by_cases e : skipTo s i = p
        · rw [skip_head hi hp ht (by omega) ag, if_pos (by omega)]
          exact .inl rfl
        · have hs := skip_agree (t := t) i (by omega) (by omega) (fun j hj => ag j (by omega))
          rw [hs, if_neg (by omega)]
          rcases one_head hq (by omega) ht ag with h1 | ⟨x, h1, h2⟩
          · rw [h1]; exact .inr rfl
          · rw [h1]
            simp only
            rw [h2, ← ht, scan_end]
            exact .inl rfl
      · next x hx =>
        obtain ⟨h1, h2⟩ := one_next (by omega) hx
        have hxp := scanF_low s f x.2.2 p h2 h
        have hs := skip_agree (t := t) i (by omega) (by omega) (fun j hj => ag j (by omega))
        rw [hs, if_neg (by omega)]
        have hb : Bd s t x.2.2 := by
          by_cases e : x.2.2 = p
          · rw [e]; exact .inr (.inl (chr_out (by omega)))
          · exact .inl (ag _ (by omega))
        rw [one_word (t := t) (by omega) hx (by omega) (fun j hj => ag j (by omega)) hb]
        exact scan_head hp ht ag f x.2.2 hxp h
theorem scan_other {s t : ByteArray} {p : Nat} (hp : p < s.size) (ht : p < t.size) (ag : ∀ j, j ≤ p → chr t j = chr s j) : ∀ (f i : Nat), i ≤ p → (scanF f s i).2 = some p → (scanF f t i).2 = some p
  | 0, _, _, h => by simp [scanF] at h
  | f + 1, i, hi, h => by
    rw [scanF_succ] at h ⊢
    have hge := skipTo_ge s i
    split at h
    · cases h
    · next hk =>
      split at h
      · next q hq =>
        cases h
        have hlo := (one_bad (by omega) hq).1
        have hs := skip_agree (t := t) i (by omega) (by omega) (fun j hj => ag j (by omega))
        rw [hs, if_neg (by omega), one_badplace (by omega) hq ht ag]
      · next x hx =>
        obtain ⟨h1, h2⟩ := one_next (by omega) hx
        have hxp := scanF_low s f x.2.2 p h2 h
        have hs := skip_agree (t := t) i (by omega) (by omega) (fun j hj => ag j (by omega))
        rw [hs, if_neg (by omega), one_word (t := t) (by omega) hx (by omega) (fun j hj => ag j (by omega)) (.inl (ag _ hxp))]
        exact scan_other hp ht ag f x.2.2 hxp h

theorem scanF_fuel (s : ByteArray) (f : Nat) (h : s.size < f) : scanF f s 0 = scan s := scanF_more s f (s.size + 1) 0 (Nat.zero_le _) (by omega) (by omega)

theorem beg_ok {s : ByteArray} {ws : List El} (h : scanW s = (ws, none)) (hs : s.size + 2 ≤ 8192) : scanW (blanked s) = (ws, none) := by
  unfold scanW at h ⊢
  rw [if_neg (by omega)] at h
  rw [blanked_size, if_neg (by omega)]
  have e1 := scanF_fuel s (s.size + 3) (by omega)
  have e2 := scanF_fuel (blanked s) (s.size + 3) (by rw [blanked_size]; omega)
  rw [← e2, scan_blanked s _ 0 (Nat.zero_le _) (by rw [e1, h]), e1, h]
theorem beg_long {s : ByteArray} {ws : List El} {p : Nat} (h : scanW s = (ws, some p)) (hs : 8192 < s.size) : p = 8192 := by
  unfold scanW at h
  rw [if_pos hs] at h
  cases h
  rfl
theorem beg_le {s : ByteArray} {ws : List El} {p : Nat} (h : scanW s = (ws, some p)) : p ≤ s.size := by
  by_cases hs : 8192 < s.size
  · rw [beg_long h hs]; omega
  · unfold scanW at h
    rw [if_neg hs] at h
    exact scanF_bad s _ 0 p (Nat.zero_le _) (by rw [show scanF (s.size + 1) s 0 = _ from h])
theorem ext_chr {s : ByteArray} {n j : Nat} (hj : j < n) : chr (s.extract 0 n) j = chr s j := by
  unfold chr
  rw [bs_extract, List.drop_zero, List.getD, List.getD, List.getElem?_take, if_pos hj]
theorem ext0_size {s : ByteArray} {n : Nat} (hn : n ≤ s.size) : (s.extract 0 n).size = n := by
  rw [← bs_length, bs_extract, List.drop_zero, List.length_take, bs_length]
  omega
theorem beg_head {s : ByteArray} {ws : List El} {p : Nat} (h : scanW s = (ws, some p)) (hs : s.size ≤ 8192) : (scanW (s.extract 0 p)).2 = none ∨ (scanW (s.extract 0 p)).2 = some p := by
  have hp := beg_le h
  unfold scanW at h ⊢
  rw [if_neg (by omega)] at h
  rw [ext0_size hp, if_neg (by omega), ← scanF_fuel (s.extract 0 p) (s.size + 1) (by rw [ext0_size hp]; omega)]
  exact scan_head hp (ext0_size hp) (fun j hj => ext_chr hj) _ 0 (Nat.zero_le _) (by rw [show scanF (s.size + 1) s 0 = _ from h])
theorem beg_first {s : ByteArray} (h : scanW s = ([], none)) (h0 : 0 < s.size) (h1 : 32 < chr s 0) (h2 : chr s 0 ≠ 35) : False := by
  have hs : s.size ≤ 8192 := by
    apply Classical.byContradiction
    intro hn
    unfold scanW at h
    rw [if_pos (by omega)] at h
    cases h
  rw [scan_first hs h0 (by simp [blankB]; omega) h2] at h
  split at h <;> cases h
theorem other_chr {s m : ByteArray} {n j : Nat} (hn : n ≤ s.size) (hj : j < n) : chr (s.extract 0 n ++ m) j = chr s j := by
  rw [← ext_chr (s := s) hj]
  unfold chr
  rw [bs_append, List.getD, List.getD, List.getElem?_append_left (by rw [bs_length, ext0_size hn]; exact hj)]
theorem beg_other {s m : ByteArray} {ws : List El} {p : Nat} (h : scanW s = (ws, some p)) (hs : s.size ≤ 8192) (hp : p < s.size) (hm : (s.extract 0 (p + 1) ++ m).size ≤ 8192) : (scanW (s.extract 0 (p + 1) ++ m)).2 = some p := by
  have hz : (s.extract 0 (p + 1) ++ m).size = p + 1 + m.size := by rw [size_append, ext0_size (by omega)]
  unfold scanW at h ⊢
  rw [if_neg (by omega)] at h
  rw [if_neg (by omega), ← scanF_fuel _ (s.size + p + m.size + 2) (by omega)]
  refine scan_other hp (by omega) (fun j hj => other_chr (by omega) (by omega)) _ 0 (Nat.zero_le _) ?_
  rw [scanF_fuel s _ (by omega), h]

end Go.Proofs.YtpjckjggmcijjabDoor
