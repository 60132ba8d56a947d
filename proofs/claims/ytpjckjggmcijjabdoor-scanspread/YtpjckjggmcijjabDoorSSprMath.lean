/-
  Words with gaps between them: how they are read.
-/
import Derived.Test.YtpjckjggmcijjabDoorSRefMath
namespace Go.Proofs.YtpjckjggmcijjabDoor
open Go.RowKit

/-- What may stand behind a word: a blank, a comment, nothing. -/
def Sep (z : List Nat) : Prop := z = [] ∨ ∃ c l, z = c :: l ∧ (blankB c = true ∨ c = 35)
theorem Sep.head {z : List Nat} (h : Sep z) : z.getD 0 0 = 0 ∨ z.getD 0 0 = 32 ∨ z.getD 0 0 = 9 ∨ z.getD 0 0 = 10 ∨ z.getD 0 0 = 13 ∨ z.getD 0 0 = 35 := by
  rcases h with rfl | ⟨c, l, rfl, h⟩
  · exact .inl rfl
  · right
    simpa [blankB, or_assoc] using h
theorem Sep.no {z : List Nat} (h : Sep z) {p : Nat → Bool} (h0 : p 0 = false) (h1 : p 32 = false) (h2 : p 9 = false) (h3 : p 10 = false) (h4 : p 13 = false) (h5 : p 35 = false) : p (z.getD 0 0) = false := by
  rcases h.head with e | e | e | e | e | e <;> rw [e] <;> assumption

theorem runL_app {p : Nat → Bool} : ∀ (t z : List Nat), (∀ c ∈ t, p c = true) → (z = [] ∨ p (z.getD 0 0) = false) → runL p (t ++ z) = t.length
  | [], z, _, h => by
    rcases h with rfl | h
    · rfl
    · cases z with
      | nil => rfl
      | cons c l => rw [List.nil_append, runL_cons, if_neg (by rw [show p c = false from h]; simp)]; rfl
  | c :: t, z, h1, h2 => by
    rw [List.cons_append, runL_cons, if_pos (h1 c (by simp)), runL_app t z (fun d hd => h1 d (by simp [hd])) h2]
    rfl

/-- A word's text: its kind, its own text, and that. -/
inductive WordIs : Nat → ByteArray → ByteArray → Prop
  | name (x) (h : nameOK x = true) : WordIs 1 x x
  | quoted (x) (h : termOK x = true) : WordIs 2 x (quotedB x)
  | order (o) (h : o < 7) : WordIs 3 (ordAt o) (ordAt o)
  | sign (x) (c : Nat) (h : bs x = [c]) (hc : signB c = true) : WordIs 4 x x

theorem chr_drop2 (s : ByteArray) (i k : Nat) : chr s (i + k) = ((bs s).drop i).getD k 0 := by rw [drop_getD]; rfl
theorem ext_of_drop {S x : ByteArray} {i : Nat} {z : List Nat} (h : (bs S).drop i = bs x ++ z) : S.extract i (i + x.size) = x := by
  apply bs_inj
  rw [ext_bs, h, ← bs_length, List.take_left']
  rfl
theorem runL_each {p : Nat → Bool} : ∀ (l : List Nat), runL p l = l.length → ∀ c ∈ l, p c = true
  | [], _, c, hc => by cases hc
  | d :: l, h, c, hc => by
    rw [runL_cons] at h
    split at h
    · next e =>
      rcases List.mem_cons.1 hc with rfl | hc
      · exact e
      · exact runL_each l (by simpa using h) c hc
    · simp at h

theorem ord_first : ∀ o, o < 7 → 0 < (ordAt o).size ∧ (bs (ordAt o)).getD 0 0 = 37 := by decide +kernel
theorem order_best {o : Nat} (ho : o < 7) (z : List Nat) : bestTo (bs (ordAt o) ++ z) 7 = (ordAt o, (ordAt o).size) := by
  have hlen : (bs (ordAt o)).length = (ordAt o).size := bs_length _
  have hself : (ordAt o).size ≤ comL (bs (ordAt o)) (bs (ordAt o) ++ z) := comL_of_take _ _ _ (by omega) (by simp; omega) (by rw [← hlen, List.take_left' rfl, List.take_length])
  have hmax := bestTo_max (bs (ordAt o) ++ z) 7 o ho
  have hpos : 0 < (ordAt o).size := (ord_first o ho).1
  obtain ⟨j, hj, h1, h2⟩ := bestTo_is (bs (ordAt o) ++ z) 7 (by omega)
  have hle := comL_le (bs (ordAt j)) (bs (ordAt o) ++ z)
  have htk := comL_take (bs (ordAt j)) (bs (ordAt o) ++ z) (ordAt o).size (by omega)
  have hoj : o = j := by
    refine no_begin o ho j hj ?_
    have h3 := comL_of_take (bs (ordAt o)) (bs (ordAt j)) (ordAt o).size (by omega) (by omega) (by rw [htk, ← hlen, List.take_left' rfl, List.take_length])
    have h4 := (comL_le (bs (ordAt o)) (bs (ordAt j))).1
    omega
  subst hoj
  rw [bs_length] at hle
  exact Prod.ext h1 (by show (bestTo _ 7).2 = _; omega)

/-- A word with what may stand behind it is read as it. -/
theorem one_is {S : ByteArray} {i k : Nat} {x t : ByteArray} {z : List Nat} (h : WordIs k x t) (hd : (bs S).drop i = bs t ++ z) (hz : Sep z) : one S i = .inl (k, x, i + t.size) := by
  have hc0 : chr S i = (bs t ++ z).getD 0 0 := by rw [← hd, drop_getD]; rfl
  cases h with
  | name _ h =>
    have h' : ((1 ≤ x.size ∧ x.size ≤ 16) ∧ startB (chr x 0) = true) ∧ runL innerB (bs x) = x.size := by simpa [nameOK] using h
    obtain ⟨⟨⟨h1, h2⟩, h3⟩, h4⟩ := h'
    have hci : chr S i = chr x 0 := by
      rw [hc0]
      unfold chr
      rw [List.getD, List.getD, List.getElem?_append_left (by rw [bs_length]; omega)]
    have hr : runL innerB ((bs S).drop i) = x.size := by
      rw [hd, runL_app (bs x) z (runL_each _ (by rw [h4, bs_length])) (.inr (hz.no rfl rfl rfl rfl rfl rfl)), bs_length]
    have hk : nmK S i = x.size := by unfold nmK; rw [hr]; omega
    have hce : innerB (chr S (i + x.size)) = false := by rw [← hr]; exact run_end innerB rfl S i
    unfold one
    rw [hci, if_pos h3, hk, if_neg (by rw [hce]; simp), ext_of_drop hd]
  | quoted _ h =>
    have h' : (1 ≤ x.size ∧ x.size ≤ 16) ∧ runL termB (bs x) = x.size := by simpa [termOK] using h
    obtain ⟨⟨h1, h2⟩, h4⟩ := h'
    rw [quoted_bs] at hd hc0
    have hci : chr S i = 39 := by rw [hc0]; rfl
    have hd1 : (bs S).drop (i + 1) = bs x ++ (39 :: z) := by
      have := congrArg (List.drop 1) hd
      rw [List.drop_drop] at this
      simpa using this
    have hr : runL termB ((bs S).drop (i + 1)) = x.size := by
      rw [hd1, runL_app (bs x) (39 :: z) (runL_each _ (by rw [h4, bs_length])) (.inr rfl), bs_length]
    have hk : qtK S (i + 1) = x.size := by unfold qtK; rw [hr]; omega
    have hce : chr S (i + 1 + x.size) = 39 := by
      rw [chr_drop2, hd1, List.getD, List.getElem?_append_right (by rw [bs_length]; omega), bs_length, Nat.sub_self]
      rfl
    unfold one
    rw [hci, if_neg (by decide), if_pos rfl, hk, if_neg (by rw [hce]; omega), ext_of_drop hd1, quoted_size]
    congr 3
    omega
  | order o h =>
    have hb := order_best h z
    have hpos : 0 < (ordAt o).size ∧ (bs (ordAt o)).getD 0 0 = 37 := ord_first o h
    have hci : chr S i = 37 := by
      rw [hc0, List.getD, List.getElem?_append_left (by rw [bs_length]; omega)]
      exact hpos.2
    have hce : letterB (chr S (i + (ordAt o).size)) = false := by
      rw [chr_drop2, hd, List.getD, List.getElem?_append_right (by rw [bs_length]; omega), bs_length, Nat.sub_self]
      exact hz.no rfl rfl rfl rfl rfl rfl
    unfold one
    rw [hci, if_neg (by decide), if_neg (by decide), if_pos rfl, hd, hb]
    simp only
    rw [if_neg (by rw [hce]; simp)]
  | sign _ c h hc =>
    have hx : x.size = 1 := by rw [← bs_length, h]; rfl
    have hci : chr S i = c := by rw [hc0, h]; rfl
    have h' : c = 58 ∨ c = 124 ∨ c = 59 := by simpa [signB, or_assoc] using hc
    have he := ext_of_drop hd
    rw [hx] at he
    unfold one
    rw [hci, if_neg (by rcases h' with h | h | h <;> rw [h] <;> decide), if_neg (by omega), if_neg (by omega), if_pos hc, he, hx]

theorem skipC_none {l : List Nat} (h : blankB (l.getD 0 0) = false) (h2 : l.getD 0 0 ≠ 35) : skipC false l = 0 := skip_stop h h2

/-- A gap: all of it is skipped where a word follows. -/
def Gap (g : List Nat) : Prop := (Sep g ∧ g ≠ []) ∧ ∀ l, skipC false (g ++ l) = g.length + skipC false l
theorem word_first {k : Nat} {x t : ByteArray} (h : WordIs k x t) (z : List Nat) : 0 < t.size ∧ blankB ((bs t ++ z).getD 0 0) = false ∧ (bs t ++ z).getD 0 0 ≠ 35 := by
  cases h with
  | name _ h =>
    have h' : ((1 ≤ x.size ∧ x.size ≤ 16) ∧ startB (chr x 0) = true) ∧ runL innerB (bs x) = x.size := by simpa [nameOK] using h
    obtain ⟨⟨⟨h1, h2⟩, h3⟩, h4⟩ := h'
    have hci : (bs x ++ z).getD 0 0 = chr x 0 := by
      unfold chr
      rw [List.getD, List.getD, List.getElem?_append_left (by rw [bs_length]; omega)]
    rw [hci]
    exact ⟨h1, start_plain h3⟩
  | quoted _ h =>
    rw [quoted_bs, quoted_size]
    exact ⟨by omega, rfl, by show (39 : Nat) ≠ 35; decide⟩
  | order o h =>
    have hpos : 0 < (ordAt o).size ∧ (bs (ordAt o)).getD 0 0 = 37 := ord_first o h
    have hci : (bs (ordAt o) ++ z).getD 0 0 = 37 := by
      rw [List.getD, List.getElem?_append_left (by rw [bs_length]; omega)]
      exact hpos.2
    rw [hci]
    exact ⟨hpos.1, rfl, by decide⟩
  | sign _ c h hc =>
    have hx : x.size = 1 := by rw [← bs_length, h]; rfl
    have h' : c = 58 ∨ c = 124 ∨ c = 59 := by simpa [signB, or_assoc] using hc
    rw [h]
    refine ⟨by omega, ?_, ?_⟩
    · show blankB c = false
      rcases h' with h | h | h <;> rw [h] <;> rfl
    · show c ≠ 35
      omega

/-- A text that is read as words, whatever may stand behind it. -/
def Rd (acc : ByteArray) (ws : List El) : Prop := ∀ z : ByteArray, (acc.size = 0 ∨ Sep (bs z)) → ∀ f, (acc ++ z).size < f → scanF f (acc ++ z) 0 = (ws ++ (scanF f (acc ++ z) acc.size).1, (scanF f (acc ++ z) acc.size).2)
theorem Rd.nil : Rd ⟨#[]⟩ [] := fun _ _ _ _ => rfl
theorem drop_app (a z : ByteArray) : (bs (a ++ z)).drop a.size = bs z := by rw [bs_append, ← bs_length, List.drop_left' rfl]
theorem app_assoc (a b c : ByteArray) : a ++ b ++ c = a ++ (b ++ c) := by
  apply bs_inj
  rw [bs_append, bs_append, bs_append, bs_append, List.append_assoc]
theorem Rd.word {acc g x t : ByteArray} {ws : List El} {k : Nat} (h : Rd acc ws) (hg : Gap (bs g) ∨ (g.size = 0 ∧ acc.size = 0)) (hw : WordIs k x t) : Rd (acc ++ g ++ t) (ws ++ [(k, x, (acc ++ g).size)]) := by
  intro z hz f hf
  have hpos := word_first hw (bs z)
  have hz' : Sep (bs z) := by
    rcases hz with hz | hz
    · rw [size_append, size_append] at hz; omega
    · exact hz
  have eS : acc ++ g ++ t ++ z = acc ++ (g ++ t ++ z) := by rw [app_assoc, app_assoc, app_assoc]
  have eS2 : acc ++ g ++ t ++ z = acc ++ g ++ (t ++ z) := by rw [app_assoc (acc ++ g) t z]
  have hsep : acc.size = 0 ∨ Sep (bs (g ++ t ++ z)) := by
    rcases hg with hg | hg
    · right
      rcases hg.1.1 with h0 | ⟨c, l, h0, hc⟩
      · exact absurd h0 hg.1.2
      · refine .inr ⟨c, l ++ bs t ++ bs z, ?_, hc⟩
        rw [bs_append, bs_append, h0]
        simp
    · exact .inl hg.2
  have h1 := h (g ++ t ++ z) hsep f (by rw [← eS]; exact hf)
  rw [← eS] at h1
  have hsk : skipTo (acc ++ g ++ t ++ z) acc.size = (acc ++ g).size := by
    unfold skipTo
    rw [eS, drop_app, app_assoc, bs_append g (t ++ z), bs_append t z, size_append]
    have h0 := skipC_none hpos.2.1 hpos.2.2
    rcases hg with hg | ⟨hg, _⟩
    · rw [hg.2, h0, bs_length]; omega
    · have : bs g = [] := List.eq_nil_of_length_eq_zero (by rw [bs_length]; exact hg)
      rw [this, List.nil_append, h0, hg]
  have ho : one (acc ++ g ++ t ++ z) (acc ++ g).size = .inl (k, x, (acc ++ g).size + t.size) := one_is hw (by rw [eS2, drop_app, bs_append]) hz'
  have hSz : (acc ++ g ++ t ++ z).size = (acc ++ g).size + t.size + z.size := by rw [size_append, size_append]
  obtain ⟨f', rfl⟩ : ∃ f', f = f' + 1 := ⟨f - 1, by omega⟩
  have hstep : scanF (f' + 1) (acc ++ g ++ t ++ z) acc.size = ((k, x, (acc ++ g).size) :: (scanF f' (acc ++ g ++ t ++ z) ((acc ++ g).size + t.size)).1, (scanF f' (acc ++ g ++ t ++ z) ((acc ++ g).size + t.size)).2) := by
    rw [scanF_succ, hsk, if_neg (by omega), ho]
  have hmore : scanF f' (acc ++ g ++ t ++ z) ((acc ++ g).size + t.size) = scanF (f' + 1) (acc ++ g ++ t ++ z) ((acc ++ g).size + t.size) := scanF_more _ _ _ _ (by omega) (by omega) (by omega)
  rw [h1, hstep, hmore, show (acc ++ g ++ t).size = (acc ++ g).size + t.size from size_append _ _]
  simp
/-- And with nothing, or with skipped bytes alone behind it. -/
theorem Rd.done {acc z : ByteArray} {ws : List El} (h : Rd acc ws) (hz : acc.size = 0 ∨ Sep (bs z)) (hs : skipC false (bs z) = z.size) (hl : (acc ++ z).size ≤ 8192) : scanW (acc ++ z) = (ws, none) := by
  have h1 := h z hz ((acc ++ z).size + 1) (by omega)
  have hsk : skipTo (acc ++ z) acc.size = (acc ++ z).size := by
    unfold skipTo
    rw [drop_app, hs, size_append]
  rw [scanF_succ _ _ acc.size, hsk, if_pos (Nat.le_refl _)] at h1
  unfold scanW scan
  rw [if_neg (by omega), h1]
  simp

def gaps : List ByteArray := [⟨#[32]⟩, ⟨#[10]⟩, ⟨#[9, 32, 13, 10]⟩, ⟨#[32, 35, 32, 97, 32, 39, 98, 32, 37, 99, 10]⟩, ⟨#[35, 10, 10]⟩, ⟨#[32, 32]⟩]
def gapAt (i : Nat) : ByteArray := gaps.getD i ⟨#[]⟩
theorem gap_is (i : Nat) (hi : i < 6) : Gap (bs (gapAt i)) ∧ (gapAt i).size ≤ 11 := by
  obtain rfl | rfl | rfl | rfl | rfl | rfl : i = 0 ∨ i = 1 ∨ i = 2 ∨ i = 3 ∨ i = 4 ∨ i = 5 := by omega
  · exact ⟨⟨⟨.inr ⟨32, [], rfl, .inl rfl⟩, by decide⟩, fun l => by show skipC false (32 :: l) = 1 + _; simp [skipC, blankB]; omega⟩, by decide⟩
  · exact ⟨⟨⟨.inr ⟨10, [], rfl, .inl rfl⟩, by decide⟩, fun l => by show skipC false (10 :: l) = 1 + _; simp [skipC, blankB]; omega⟩, by decide⟩
  · exact ⟨⟨⟨.inr ⟨9, [32, 13, 10], rfl, .inl rfl⟩, by decide⟩, fun l => by show skipC false (9 :: 32 :: 13 :: 10 :: l) = 4 + _; simp [skipC, blankB]; omega⟩, by decide⟩
  · exact ⟨⟨⟨.inr ⟨32, [35, 32, 97, 32, 39, 98, 32, 37, 99, 10], rfl, .inl rfl⟩, by decide⟩, fun l => by show skipC false (32 :: 35 :: 32 :: 97 :: 32 :: 39 :: 98 :: 32 :: 37 :: 99 :: 10 :: l) = 11 + _; simp [skipC, blankB]; omega⟩, by decide⟩
  · exact ⟨⟨⟨.inr ⟨35, [10, 10], rfl, .inr rfl⟩, by decide⟩, fun l => by show skipC false (35 :: 10 :: 10 :: l) = 3 + _; simp [skipC, blankB]; omega⟩, by decide⟩
  · exact ⟨⟨⟨.inr ⟨32, [32], rfl, .inl rfl⟩, by decide⟩, fun l => by show skipC false (32 :: 32 :: l) = 2 + _; simp [skipC, blankB]; omega⟩, by decide⟩
def endText : ByteArray := ⟨#[32, 35, 32, 116, 104, 101, 32, 101, 110, 100, 58, 32, 36, 32, 39]⟩
theorem end_is : Sep (bs endText) ∧ skipC false (bs endText) = endText.size := ⟨.inr ⟨32, _, rfl, .inl rfl⟩, by decide⟩
theorem word_size {k : Nat} {x t : ByteArray} (h : WordIs k x t) : t.size ≤ 18 := by
  cases h with
  | name _ h =>
    have h' : ((1 ≤ x.size ∧ x.size ≤ 16) ∧ startB (chr x 0) = true) ∧ runL innerB (bs x) = x.size := by simpa [nameOK] using h
    omega
  | quoted _ h =>
    have h' : (1 ≤ x.size ∧ x.size ≤ 16) ∧ runL termB (bs x) = x.size := by simpa [termOK] using h
    rw [quoted_size]
    omega
  | order o h => have := ordAt_size o h; omega
  | sign _ c h hc =>
    have hx : x.size = 1 := by rw [← bs_length, h]; rfl
    omega

end Go.Proofs.YtpjckjggmcijjabDoor
