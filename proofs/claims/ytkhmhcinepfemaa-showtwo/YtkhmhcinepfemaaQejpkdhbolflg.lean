import Derived.Test.YtkhmhcinepfemaaQikbebghleicl
import Derived.Test.YtkhmhcinepfemaaQbbhcofnjpngf

/-
  show: of a grammar that may be, all texts are short.
-/
namespace Go.Proofs.Ytkhmhcinepfemaa

section
variable {ts : List (ByteArray × Int)} {ns : List ByteArray} {lv : List Int} {st : Int} {n : Nat} {L : Nat → Int} {R : Nat → List Int} {V : Nat → Int}

theorem either_fits (h : validOK ts ns lv st n L R V ∨ closedOK ts ns lv st n L R V) : ∃ ad, ad ≤ 1 ∧ fitsOK ad ts ns lv st n L R V ∧ (ad = 1 → addedOK ts ns st n L R V) := by
  rcases h with h | h
  · exact ⟨0, by omega, (fits_holds ts ns lv st n L R V).2 h.1, by omega⟩
  · exact ⟨1, by omega, h.2, fun _ => h.1⟩

theorem symT_le (h : validOK ts ns lv st n L R V ∨ closedOK ts ns lv st n L R V) (k : Nat) (hk : k < ts.length + ns.length) : (symT ts ns k).length ≤ 18 := by
  obtain ⟨ad, had, hf, ha⟩ := either_fits h
  have hsz : ∀ s : ByteArray, s.data.toList.length = s.size := fun s => by rw [Array.length_toList]; rfl
  unfold symT
  split
  · simp
  · split
    · rename_i h0 h1
      have := isTextB_size (hf.terms.2 k (by omega) h1).1.1
      have e : (ts.getD k (ByteArray.empty, 0)) = ts.getD k (⟨#[]⟩, 0) := rfl
      rw [e]
      simp only [List.length_append, List.length_singleton, hsz]
      omega
    · split
      · simp
      · rename_i h0 h1 h2
        have e : ns.getD (k - ts.length) ByteArray.empty = ns.getD (k - ts.length) ⟨#[]⟩ := rfl
        have hge : ad ≤ k - ts.length := by
          rcases Nat.lt_or_ge (k - ts.length) ad with hlt | hge
          · have h1 : ad = 1 := by omega
            have hz : k - ts.length = 0 := by omega
            rw [hz] at h2
            exact absurd (ha h1).name h2
          · exact hge
        have := isNameB_size (hf.nons (k - ts.length) hge (by omega)).1
        rw [e, hsz]
        omega

theorem symsT_short (h : validOK ts ns lv st n L R V ∨ closedOK ts ns lv st n L R V) : ∀ (l : List Int), (∀ z ∈ l, 0 ≤ z ∧ z < (ts.length : Int) + ns.length) → (symsT ts ns true l).length ≤ 19 * l.length
  | [], _ => by simp [symsT]
  | z :: r, hl => by
    have h1 := symsT_short h r (fun y hy => hl y (List.mem_cons_of_mem _ hy))
    have hz := hl z (List.mem_cons_self ..)
    have h2 := symT_le h z.toNat (by omega)
    simp only [symsT, List.length_append, List.length_cons]
    have : (sp true).length = 1 := rfl
    omega

theorem ofLev_range (lev : Int) : ∀ z ∈ ofLev ts lev (upTo (ts.length - 1)), 0 ≤ z ∧ z < (ts.length : Int) + ns.length := fun z hz => by
  have := ofLev_mem hz
  omega

theorem gradeT_le (h : validOK ts ns lv st n L R V ∨ closedOK ts ns lv st n L R V) (lev : Int) : (gradeT ts ns lev).length ≤ 25 := by
  obtain ⟨ad, had, hf, _⟩ := either_fits h
  have htp := hf.terms.1.1
  unfold gradeT
  split
  · simp
  · have : (symT ts ns ((ofLev ts lev (upTo (ts.length - 1))).getD 0 0).toNat).length ≤ 18 := by
      refine symT_le h _ ?_
      cases hc : ofLev ts lev (upTo (ts.length - 1)) with
      | nil => simp; omega
      | cons z r =>
        have := ofLev_range (ns := ns) lev z (by rw [hc]; exact List.mem_cons_self ..)
        simp
        omega
    simp only [List.length_append, List.length_cons, List.length_nil]
    omega

theorem roomT_short (h : validOK ts ns lv st n L R V ∨ closedOK ts ns lv st n L R V) : ∀ k, k ≤ n → roomT ts ns L R V k ≤ 51 * k + 19 * rsum R k
  | 0, _ => by simp [roomT]
  | k + 1, hk => by
    have h1 := roomT_short h k (by omega)
    have hp := either_prods h k (by omega)
    have h2 := symT_le h (L k).toNat (by omega)
    have h3 := symsT_short h (R k) hp.2
    have h4 := gradeT_le h (V k)
    simp only [roomT, rsum]
    omega

theorem levsT_short (h : validOK ts ns lv st n L R V ∨ closedOK ts ns lv st n L R V) : ∀ k, (levsT ts ns lv k).length ≤ (12 + 19 * ts.length) * k
  | 0 => by simp [levsT]
  | k + 1 => by
    have h1 := levsT_short h k
    have h2 := symsT_short h (ofLev ts ((k : Int) + 1) (upTo (ts.length - 1))) (ofLev_range _)
    have h3 := ofLev_len ts ((k : Int) + 1) (upTo (ts.length - 1))
    rw [upTo_len] at h3
    have h4 : (orderS (lv.getD k 0)).data.toList.length ≤ 9 := by
      unfold orderS
      split
      · simp
      · split <;> simp
    simp only [levsT, headT, List.length_append, List.length_cons, List.length_nil]
    rw [Nat.mul_succ]
    omega

theorem either_text (h : validOK ts ns lv st n L R V ∨ closedOK ts ns lv st n L R V) :
    (ts.length ≤ 1048576 ∧ lv.length ≤ 1048576 ∧ n ≤ 1024 ∧ (0 ≤ st ∧ st < (ts.length : Int) + ns.length) ∧ (∀ i, i < n → (ts.length : Int) ≤ L i ∧ L i < (ts.length : Int) + ns.length) ∧ (∀ i, i < n → ∀ z ∈ R i, 0 ≤ z ∧ z < (ts.length : Int) + ns.length) ∧ (∀ i, i < n → V i ≠ 0 → 0 < (ofLev ts (V i) (upTo (ts.length - 1))).length)) ∧
    (rsum R n ≤ 8192 → (tokT ts ns).length + (levsT ts ns lv lv.length).length + (headT ts ns ⟨#[37, 115, 116, 97, 114, 116]⟩ [st]).length + 8 + roomT ts ns L R V n ≤ 140737488355328) := by
  obtain ⟨ad, had, hf, ha⟩ := either_fits h
  have htn := hf.tn
  have hpn := hf.pn
  have hln := hf.ln
  have hst := hf.start
  unfold isNonI at hst
  refine ⟨⟨by omega, by omega, by omega, by omega, fun i hi => ?_, fun i hi => (either_prods h i hi).2, fun i hi hv => ?_⟩, fun hrs => ?_⟩
  · rcases Nat.lt_or_ge i ad with hlt | hge
    · have h1 : ad = 1 := by omega
      have hz : i = 0 := by omega
      subst hz
      rw [(ha h1).left]
      have := (ha h1).nn
      omega
    · have := (hf.prods i hge hi).1
      unfold isNonI at this
      omega
  · rcases Nat.lt_or_ge i ad with hlt | hge
    · have h1 : ad = 1 := by omega
      have hz : i = 0 := by omega
      subst hz
      exact absurd (ha h1).level hv
    · have hV := (hf.prods i hge hi).2.1
      obtain ⟨j, hj⟩ : ∃ j : Nat, V i = (j : Int) + 1 := ⟨(V i - 1).toNat, by omega⟩
      obtain ⟨_, t, ht, hlev⟩ := hf.levels j (by omega)
      obtain ⟨p, hp, rfl⟩ := List.getElem_of_mem ht
      have hp0 : p ≠ 0 := by
        intro e
        subst e
        have := hf.terms.1.2
        simp only [List.getD, List.getElem?_eq_getElem hp, Option.getD_some] at this
        rw [this] at hlev
        simp at hlev
        omega
      refine List.length_pos_of_mem (a := (p : Int)) (List.mem_filter.2 ⟨?_, ?_⟩)
      · simp only [upTo, List.mem_map, List.mem_range]
        exact ⟨p - 1, by omega, by omega⟩
      · simp only [Int.toNat_natCast, List.getD, List.getElem?_eq_getElem hp, Option.getD_some, beq_iff_eq]
        rw [hlev, hj]
  · have h1 := roomT_short h n (Nat.le_refl _)
    have h2 := levsT_short h lv.length
    have h3 : (12 + 19 * ts.length) * lv.length ≤ (12 + 19 * 65) * 64 := Nat.mul_le_mul (by omega) hln
    have h4 : (tokT ts ns).length ≤ 9 + 19 * 65 := by
      unfold tokT
      split
      · simp
      · have h5 := symsT_short h (upTo (ts.length - 1)) (fun z hz => by
          simp only [upTo, List.mem_map, List.mem_range] at hz
          obtain ⟨i, hi, rfl⟩ := hz
          omega)
        rw [upTo_len] at h5
        simp only [headT, List.length_append, List.length_cons, List.length_nil]
        omega
    have h6 : (headT ts ns ⟨#[37, 115, 116, 97, 114, 116]⟩ [st]).length ≤ 28 := by
      have := symsT_short h [st] (fun z hz => by simp only [List.mem_singleton] at hz; subst hz; omega)
      simp only [headT, List.length_append, List.length_cons, List.length_nil] at this ⊢
      omega
    omega
end

end Go.Proofs.Ytkhmhcinepfemaa

/-
  A grammar's text tells the grammar.
-/
namespace Go.Proofs.Ytkhmhcinepfemaa

/-! ### Words and lines -/
theorem split_char {c : UInt8} : ∀ {a a' x x' : List UInt8}, c ∉ a → c ∉ a' → a ++ c :: x = a' ++ c :: x' → a = a' ∧ x = x'
  | [], [], x, x', _, _, h => by simp at h; exact ⟨rfl, h⟩
  | [], b :: r, x, x', _, h2, h => by simp at h; exact absurd (by rw [h.1]; simp) h2
  | b :: r, [], x, x', h1, _, h => by simp at h; exact absurd (by rw [h.1]; simp) h1
  | b :: r, b' :: r', x, x', h1, h2, h => by
    simp only [List.cons_append, List.cons.injEq] at h
    obtain ⟨e1, e2⟩ := split_char (fun m => h1 (List.mem_cons_of_mem _ m)) (fun m => h2 (List.mem_cons_of_mem _ m)) h.2
    exact ⟨by rw [h.1, e1], e2⟩

/-- A word as it stands in a text. -/
def Word (l : List UInt8) : Prop := (l ≠ [] ∧ 32 ∉ l ∧ 10 ∉ l ∧ 39 ∉ l ∧ l ≠ [59]) ∨ ∃ s, l = 39 :: s ++ [39] ∧ 39 ∉ s ∧ 10 ∉ s

theorem word_split {a a' x x' : List UInt8} (h : Word a) (h' : Word a') (e : a ++ 32 :: x = a' ++ 32 :: x') : a = a' ∧ x = x' := by
  rcases h with ⟨h0, h1, _, h2, _⟩ | ⟨s, rfl, h1, _⟩
  · rcases h' with ⟨_, h1', _, _, _⟩ | ⟨s', rfl, _⟩
    · exact split_char h1 h1' e
    · cases a with
      | nil => exact absurd rfl h0
      | cons b r =>
        simp at e
        exact absurd (by rw [e.1]; simp) h2
  · rcases h' with ⟨h0', _, _, h2', _⟩ | ⟨s', rfl, h1', _⟩
    · cases a' with
      | nil => exact absurd rfl h0'
      | cons b r =>
        simp at e
        exact absurd (by rw [← e.1]; simp) h2'
    · simp only [List.cons_append, List.append_assoc, List.cons.injEq, true_and, List.nil_append] at e
      obtain ⟨e1, e2⟩ := split_char h1 h1' e
      simp only [List.cons.injEq, true_and] at e2
      exact ⟨by rw [e1], e2⟩
theorem word_end {a x y : List UInt8} (h : Word a) (e : a ++ 32 :: x = 59 :: 10 :: y) : False := by
  rcases h with ⟨h0, _, h1, _, h2⟩ | ⟨s, rfl, _⟩
  · cases a with
    | nil => exact h0 rfl
    | cons b r =>
      simp only [List.cons_append, List.cons.injEq] at e
      cases r with
      | nil => exact h2 (by rw [e.1])
      | cons b' r' =>
        simp only [List.cons_append, List.cons.injEq] at e
        exact h1 (by rw [e.2.1]; simp)
  · simp at e

def enc (ws : List (List UInt8)) : List UInt8 := ws.flatMap (fun a => a ++ [32]) ++ [59, 10]
theorem enc_cons (a : List UInt8) (ws : List (List UInt8)) : enc (a :: ws) = a ++ 32 :: enc ws := by simp [enc]
theorem enc_append (xs bs : List (List UInt8)) : enc (xs ++ bs) = xs.flatMap (fun a => a ++ [32]) ++ enc bs := by simp [enc]

theorem line_split : ∀ {ws ws' : List (List UInt8)} {x x' : List UInt8}, (∀ a ∈ ws, Word a) → (∀ a ∈ ws', Word a) → enc ws ++ x = enc ws' ++ x' → ws = ws' ∧ x = x'
  | [], [], x, x', _, _, h => by simp [enc] at h; exact ⟨rfl, h⟩
  | [], a :: r, x, x', _, h2, h => by
    rw [enc_cons] at h
    simp only [enc, List.flatMap_nil, List.nil_append, List.append_assoc, List.cons_append] at h
    exact (word_end (h2 a (by simp)) h.symm).elim
  | a :: r, [], x, x', h1, _, h => by
    rw [enc_cons] at h
    simp only [enc, List.flatMap_nil, List.nil_append, List.append_assoc, List.cons_append] at h
    exact (word_end (h1 a (by simp)) h).elim
  | a :: r, a' :: r', x, x', h1, h2, h => by
    rw [enc_cons, enc_cons, List.append_assoc, List.append_assoc, List.cons_append, List.cons_append] at h
    obtain ⟨e1, e2⟩ := word_split (h1 a (by simp)) (h2 a' (by simp)) h
    obtain ⟨e3, e4⟩ := line_split (fun b hb => h1 b (List.mem_cons_of_mem _ hb)) (fun b hb => h2 b (List.mem_cons_of_mem _ hb)) e2
    exact ⟨by rw [e1, e3], e4⟩

theorem lines_split : ∀ {ls ls' : List (List (List UInt8))}, (∀ ws ∈ ls, ∀ a ∈ ws, Word a) → (∀ ws ∈ ls', ∀ a ∈ ws, Word a) → ls.flatMap enc = ls'.flatMap enc → ls = ls'
  | [], [], _, _, _ => rfl
  | [], ws :: r, _, _, h => by
    have := congrArg List.length h
    simp [enc] at this
  | ws :: r, [], _, _, h => by
    have := congrArg List.length h
    simp [enc] at this
  | ws :: r, ws' :: r', h1, h2, h => by
    simp only [List.flatMap_cons] at h
    obtain ⟨e1, e2⟩ := line_split (h1 ws (by simp)) (h2 ws' (by simp)) h
    rw [e1, lines_split (fun b hb => h1 b (List.mem_cons_of_mem _ hb)) (fun b hb => h2 b (List.mem_cons_of_mem _ hb)) e2]

theorem split_p {α : Type} {p : α → Prop} : ∀ {a a' b b' : List α}, (∀ x ∈ a, p x) → (∀ x ∈ a', p x) → (∀ x, b.head? = some x → ¬ p x) → (∀ x, b'.head? = some x → ¬ p x) → a ++ b = a' ++ b' → a = a' ∧ b = b'
  | [], [], b, b', _, _, _, _, h => by simp at h; exact ⟨rfl, h⟩
  | [], y :: r, b, b', _, h2, h3, _, h => by
    simp at h
    exact absurd (h2 y (by simp)) (h3 y (by rw [h]; rfl))
  | y :: r, [], b, b', h1, _, _, h4, h => by
    simp at h
    exact absurd (h1 y (by simp)) (h4 y (by rw [← h]; rfl))
  | y :: r, y' :: r', b, b', h1, h2, h3, h4, h => by
    simp only [List.cons_append, List.cons.injEq] at h
    obtain ⟨e1, e2⟩ := split_p (fun x hx => h1 x (List.mem_cons_of_mem _ hx)) (fun x hx => h2 x (List.mem_cons_of_mem _ hx)) h3 h4 h.2
    exact ⟨by rw [h.1, e1], e2⟩

/-! ### The words of a grammar -/
theorem name_word {s : ByteArray} (h : isNameB s = true) : Word s.data.toList ∧ s.data.toList.head? ≠ some 37 ∧ s.data.toList.head? ≠ some 39 ∧ s.data.toList ≠ [] := by
  unfold isNameB lenOK at h
  simp only [Bool.and_eq_true, decide_eq_true_eq] at h
  have hsz : s.data.toList.length = s.size := by rw [Array.length_toList]; rfl
  have hb : ∀ c ∈ s.data.toList, letterB c.toNat = true ∨ digitB c.toNat = true := by
    intro c hc
    obtain ⟨i, hi, rfl⟩ := List.getElem_of_mem hc
    have h1 := List.all_eq_true.1 h.2 i (List.mem_range.2 (by omega))
    have e : chr s i = (s.data.toList[i]).toNat := by unfold chr; rw [List.getD, List.getElem?_eq_getElem hi]; rfl
    rw [e] at h1
    unfold nameB at h1
    rw [Bool.or_eq_true, Bool.and_eq_true] at h1
    rcases h1 with h1 | h1
    · exact .inl h1
    · exact .inr h1.2
  have hno : ∀ c : UInt8, letterB c.toNat = false → digitB c.toNat = false → c ∉ s.data.toList := fun c h1 h2 hc => by
    rcases hb c hc with h3 | h3
    · rw [h1] at h3; cases h3
    · rw [h2] at h3; cases h3
  have hne : s.data.toList ≠ [] := fun e => by rw [e] at hsz; simp at hsz; omega
  have hhead : ∀ c : UInt8, letterB c.toNat = false → digitB c.toNat = false → s.data.toList.head? ≠ some c := fun c h1 h2 e => hno c h1 h2 (List.mem_of_mem_head? e)
  refine ⟨.inl ⟨hne, hno 32 (by decide) (by decide), hno 10 (by decide) (by decide), hno 39 (by decide) (by decide), fun e => hno 59 (by decide) (by decide) (by rw [e]; simp)⟩, hhead 37 (by decide) (by decide), hhead 39 (by decide) (by decide), hne⟩
theorem text_word {s : ByteArray} (h : isTextB s = true) : Word ([39] ++ s.data.toList ++ [39]) ∧ 39 ∉ s.data.toList := by
  unfold isTextB lenOK at h
  simp only [Bool.and_eq_true, decide_eq_true_eq] at h
  have hsz : s.data.toList.length = s.size := by rw [Array.length_toList]; rfl
  have hb : ∀ c ∈ s.data.toList, textB c.toNat = true := by
    intro c hc
    obtain ⟨i, hi, rfl⟩ := List.getElem_of_mem hc
    have h1 := List.all_eq_true.1 h.2 i (List.mem_range.2 (by omega))
    have e : chr s i = (s.data.toList[i]).toNat := by unfold chr; rw [List.getD, List.getElem?_eq_getElem hi]; rfl
    rw [e] at h1
    exact h1
  have h39 : 39 ∉ s.data.toList := fun hc => by have := hb _ hc; revert this; decide
  exact ⟨.inr ⟨s.data.toList, by simp, h39, fun hc => by have := hb _ hc; revert this; decide⟩, h39⟩

/-- The words of a row of symbols. -/
def symsW (ts : List (ByteArray × Int)) (ns : List ByteArray) (l : List Int) : List (List UInt8) := l.map fun z => symT ts ns z.toNat
theorem symsT_words (ts : List (ByteArray × Int)) (ns : List ByteArray) : ∀ (l : List Int) (x : List UInt8), symsT ts ns true l ++ 32 :: x = 32 :: ((symsW ts ns l).flatMap (fun a => a ++ [32]) ++ x)
  | [], x => by simp [symsT, symsW]
  | z :: r, x => by
    have := symsT_words ts ns r x
    simp only [symsT, sp, symsW, List.map_cons, List.flatMap_cons, List.append_assoc, if_true] at this ⊢
    rw [this]
    simp
theorem head_words (ts : List (ByteArray × Int)) (ns : List ByteArray) (s : ByteArray) (l : List Int) : headT ts ns s l = enc (s.data.toList :: symsW ts ns l) := by
  rw [headT, enc_cons, List.append_assoc, symsT_words]
  rfl
/-- The words of a production's level. -/
def gradeW (ts : List (ByteArray × Int)) (ns : List ByteArray) (lev : Int) : List (List UInt8) := if lev = 0 then [[37, 110, 111, 110, 101]] else [[37, 112, 114, 101, 99], symT ts ns ((ofLev ts lev (upTo (ts.length - 1))).getD 0 0).toNat]
theorem grade_words (ts : List (ByteArray × Int)) (ns : List ByteArray) (lev : Int) (x : List UInt8) : gradeT ts ns lev ++ 32 :: x = 32 :: ((gradeW ts ns lev).flatMap (fun a => a ++ [32]) ++ x) := by
  unfold gradeT gradeW
  split <;> simp
def ruleW (ts : List (ByteArray × Int)) (ns : List ByteArray) (z : Int) (l : List Int) (lev : Int) : List (List UInt8) := symT ts ns z.toNat :: [58] :: (symsW ts ns l ++ (if lev = levT ts l then [] else gradeW ts ns lev))
theorem rule_words (ts : List (ByteArray × Int)) (ns : List ByteArray) (z : Int) (l : List Int) (lev : Int) : ruleT ts ns z l lev = enc (ruleW ts ns z l lev) := by
  rw [ruleT, ruleW, enc_cons, enc_cons, enc_append]
  by_cases h : lev = levT ts l
  · rw [if_pos h, if_pos h]
    have := symsT_words ts ns l [59, 10]
    simp only [List.append_nil, List.append_assoc, List.cons_append, List.nil_append] at this ⊢
    rw [this]
    simp [enc]
  · rw [if_neg h, if_neg h]
    have h1 := grade_words ts ns lev [59, 10]
    have h2 := symsT_words ts ns l ((gradeW ts ns lev).flatMap (fun a => a ++ [32]) ++ [59, 10])
    simp only [List.append_assoc, List.cons_append, List.nil_append] at h1 h2 ⊢
    rw [h1, h2]
    simp [enc]

def tokL (ts : List (ByteArray × Int)) (ns : List ByteArray) : List (List (List UInt8)) := if ts.length - 1 = 0 then [] else [[37, 116, 111, 107, 101, 110] :: symsW ts ns (upTo (ts.length - 1))]
def levL (ts : List (ByteArray × Int)) (ns : List ByteArray) (lv : List Int) : List (List (List UInt8)) := (List.range lv.length).map fun j => (orderS (lv.getD j 0)).data.toList :: symsW ts ns (ofLev ts ((j : Int) + 1) (upTo (ts.length - 1)))
def startL (ts : List (ByteArray × Int)) (ns : List ByteArray) (st : Int) : List (List UInt8) := [[37, 115, 116, 97, 114, 116], symT ts ns st.toNat]
def rulesL (ts : List (ByteArray × Int)) (ns : List ByteArray) (n : Nat) (L : Nat → Int) (R : Nat → List Int) (V : Nat → Int) : List (List (List UInt8)) := (List.range n).map fun k => ruleW ts ns (L k) (R k) (V k)

theorem levs_words (ts : List (ByteArray × Int)) (ns : List ByteArray) (lv : List Int) : ∀ k, levsT ts ns lv k = ((List.range k).map fun j => (orderS (lv.getD j 0)).data.toList :: symsW ts ns (ofLev ts ((j : Int) + 1) (upTo (ts.length - 1)))).flatMap enc
  | 0 => rfl
  | k + 1 => by
    rw [levsT, levs_words ts ns lv k, List.range_succ, List.map_append, List.flatMap_append, head_words]
    simp

section
variable {ts : List (ByteArray × Int)} {ns : List ByteArray} {lv : List Int} {st : Int} {n : Nat} {L : Nat → Int} {R : Nat → List Int} {V : Nat → Int}

theorem sym_term (k : Nat) (h0 : 0 < k) (h1 : k < ts.length) : symT ts ns k = [39] ++ (ts.getD k (ByteArray.empty, 0)).1.data.toList ++ [39] := by
  rw [symT, if_neg (by omega), if_pos h1]
theorem sym_non (hf : fitsOK 0 ts ns lv st n L R V) (i : Nat) (h1 : i < ns.length) : symT ts ns (ts.length + i) = (ns.getD i ByteArray.empty).data.toList ∧ isNameB (ns.getD i ByteArray.empty) = true := by
  have hN : isNameB (ns.getD i ByteArray.empty) = true := (hf.nons i (Nat.zero_le _) h1).1
  have htp := hf.terms.1.1
  refine ⟨?_, hN⟩
  rw [symT, if_neg (by omega), if_neg (by omega), Nat.add_sub_cancel_left, if_neg]
  intro e
  rw [e] at hN
  revert hN
  decide
theorem term_text (hf : fitsOK 0 ts ns lv st n L R V) (k : Nat) (h0 : 0 < k) (h1 : k < ts.length) : isTextB (ts.getD k (ByteArray.empty, 0)).1 = true := (hf.terms.2 k h0 h1).1.1
/-- A symbol's word: a terminal's is quoted, a nonterminal's is a name. -/
theorem sym_word (hf : fitsOK 0 ts ns lv st n L R V) (k : Nat) (h0 : 0 < k) (h1 : k < ts.length + ns.length) : Word (symT ts ns k) ∧ (symT ts ns k).head? ≠ some 37 ∧ ((symT ts ns k).head? = some 39 ↔ k < ts.length) ∧ symT ts ns k ≠ [] := by
  by_cases h : k < ts.length
  · rw [sym_term k h0 h]
    exact ⟨(text_word (term_text hf k h0 h)).1, by simp, by simp [h], by simp⟩
  · obtain ⟨i, rfl⟩ : ∃ i, k = ts.length + i := ⟨k - ts.length, by omega⟩
    obtain ⟨e, hN⟩ := sym_non hf i (by omega)
    rw [e]
    obtain ⟨w1, w2, w3, w4⟩ := name_word hN
    exact ⟨w1, w2, ⟨fun e => absurd e w3, fun e => absurd e h⟩, w4⟩
theorem text_lines (hf : fitsOK 0 ts ns lv st n L R V) : textT ts ns lv st n L R V = (tokL ts ns ++ levL ts ns lv ++ [startL ts ns st] ++ rulesL ts ns n L R V).flatMap enc := by
  have hr : ∀ k, k ≤ n → rulesT ts ns L R V k = ((List.range k).map fun k => ruleW ts ns (L k) (R k) (V k)).flatMap enc := by
    intro k
    induction k with
    | zero => intro _; rfl
    | succ k ih =>
      intro hk
      rw [rulesT, ih (by omega), List.range_succ, List.map_append, List.flatMap_append, if_neg, rule_words]
      · simp
      · intro e
        have hp := (hf.prods k (Nat.zero_le _) (by omega)).1
        unfold isNonI at hp
        have hN : isNameB (ns.getD ((L k).toNat - ts.length) ByteArray.empty) = true := (hf.nons ((L k).toNat - ts.length) (Nat.zero_le _) (by omega)).1
        rw [e] at hN
        revert hN
        decide
  rw [textT, hr n (Nat.le_refl _), levs_words, head_words, tokT, tokL, levL, startL, rulesL]
  simp only [List.flatMap_append, List.flatMap_cons, List.flatMap_nil, List.append_nil, symsW, List.map_cons, List.map_nil]
  by_cases h : ts.length - 1 = 0
  · simp [h]
  · rw [if_neg h, if_neg h, head_words]
    simp [symsW]
end

end Go.Proofs.Ytkhmhcinepfemaa

/-
  The document's Same of two grammars, walked.
-/
namespace Go.Proofs.Ytkhmhcinepfemaa
open Go.RowKit Go.Maps Go.Shelf

attribute [local go_sem] Oper.semAt_some

section
variable (ta na la pa ta' na' la' pa' : Option Addr) (tn nn ln pn tc nc lc pc tn' nn' ln' pn' tc' nc' lc' pc' : Nat) (st st' : Int)

set_option maxRecDepth 100000 in
set_option maxHeartbeats 1000000 in
theorem rsame_short (w : World) (rL : Bool) (hno : ¬ (rL = true ∧ st = st' ∧ tn = tn' ∧ nn = nn' ∧ pn = pn'))
    (hL : ∀ W, w.grownBy W none → Calls Try.prog 33 #[.slice la ln lc, .slice la' ln' lc'] W fun e w' => e = .returned (.bool rL) ∧ W.grownBy w' none) :
    Calls Try.prog 10 #[.agg #[.slice ta tn tc, .slice na nn nc, .slice la ln lc, .int .i64 st, .slice pa pn pc], .agg #[.slice ta' tn' tc', .slice na' nn' nc', .slice la' ln' lc', .int .i64 st', .slice pa' pn' pc']] w fun e w' => e = .returned (.bool false) ∧ w.grownBy w' none := by
  have HL : Hid (∀ W, w.grownBy W none → Calls Try.prog 33 #[.slice la ln lc, .slice la' ln' lc'] W fun e w' => e = .returned (.bool rL) ∧ W.grownBy w' none) := hL
  have HX : Hid (Ph2 w _ #[.slice ta tn tc, .slice na nn nc, .slice la ln lc, .int .i64 st, .slice pa pn pc] #[.slice ta' tn' tc', .slice na' nn' nc', .slice la' ln' lc', .int .i64 st', .slice pa' pn' pc']) := Ph2.mk' w _ _
  have HNO : Hid (¬ (rL = true ∧ st = st' ∧ tn = tn' ∧ nn = nn' ∧ pn = pn')) := hno
  clear hL hno
  go_enter Try.func10, Try.ntmps10
  go_wp2_with fail
  refine (HL.out _ HX.out.grown).mono ?_
  rintro e w1 ⟨rfl, hg1⟩
  have HX1 : Hid (Ph2 w w1 #[.slice ta tn tc, .slice na nn nc, .slice la ln lc, .int .i64 st, .slice pa pn pc] #[.slice ta' tn' tc', .slice na' nn' nc', .slice la' ln' lc', .int .i64 st', .slice pa' pn' pc']) := HX.out.kept hg1
  clear hg1 HX HL
  obtain ⟨⟨m0, m1, m2, m3, m4⟩, n0, n1, n2, n3, n4⟩ := HX1.out.cells
  cases rL with
  | false =>
    go_wp2_with fail
    go_ret
    exact ⟨rfl, HX1.out.grown⟩
  | true =>
    by_cases h1 : st = st'
    · have d1 : (st != st') = false := by simp [h1]
      have H1 : Hid (st = st') := h1
      clear h1
      by_cases h2 : tn = tn'
      · have d2 : ((tn : Int) != (tn' : Int)) = false := by simp [h2]
        have H2 : Hid (tn = tn') := h2
        clear h2
        by_cases h3 : nn = nn'
        · have d3 : ((nn : Int) != (nn' : Int)) = false := by simp [h3]
          have H3 : Hid (nn = nn') := h3
          clear h3
          by_cases h4 : pn = pn'
          · exact absurd ⟨rfl, H1.out, H2.out, H3.out, h4⟩ HNO.out
          · have d4 : ((pn : Int) != (pn' : Int)) = true := by simp; omega
            clear h4
            go_wp2_with fail
            go_ret
            exact ⟨rfl, HX1.out.grown⟩
        · have d3 : ((nn : Int) != (nn' : Int)) = true := by simp; omega
          clear h3
          go_wp2_with fail
          go_ret
          exact ⟨rfl, HX1.out.grown⟩
      · have d2 : ((tn : Int) != (tn' : Int)) = true := by simp; omega
        clear h2
        go_wp2_with fail
        go_ret
        exact ⟨rfl, HX1.out.grown⟩
    · have d1 : (st != st') = true := by simp [h1]
      clear h1
      go_wp2_with fail
      go_ret
      exact ⟨rfl, HX1.out.grown⟩
end

theorem prod2_cells {w W : World} {l1 l2 v1 v2 : Int} {s1 s2 : Value} (hg : ((w.alloc (.cells #[.int .i64 l1, s1, .int .i64 v1] 47)).alloc (.cells #[.int .i64 l2, s2, .int .i64 v2] 47)).grownBy W none) :
    W.cell? ⟨w.heap.size, 0, none⟩ = some (.int .i64 l1) ∧ W.cell? ⟨w.heap.size, 2, none⟩ = some (.int .i64 v1) ∧ W.cell? ⟨w.heap.size + 1, 0, none⟩ = some (.int .i64 l2) ∧ W.cell? ⟨w.heap.size + 1, 2, none⟩ = some (.int .i64 v2) := by
  have h1 := heap_alloc_last w (.cells #[.int .i64 l1, s1, .int .i64 v1] 47)
  have h2 := heap_alloc_last (w.alloc (.cells #[.int .i64 l1, s1, .int .i64 v1] 47)) (.cells #[.int .i64 l2, s2, .int .i64 v2] 47)
  rw [World.size_alloc] at h2
  have h1' := ((World.grownBy_alloc (w.alloc (.cells #[.int .i64 l1, s1, .int .i64 v1] 47)) (.cells #[.int .i64 l2, s2, .int .i64 v2] 47) none).block _ (Array.getElem?_eq_some_iff.1 h1).1 (by simp)).trans h1
  have g1 := (hg.block _ (Array.getElem?_eq_some_iff.1 h1').1 (by simp)).trans h1'
  have g2 := (hg.block _ (Array.getElem?_eq_some_iff.1 h2).1 (by simp)).trans h2
  refine ⟨?_, ?_, ?_, ?_⟩
  · rw [cell_of_row _ _ _ _ _ _ g1]; rfl
  · rw [cell_of_row _ _ _ _ _ _ g1]; rfl
  · rw [cell_of_row _ _ _ _ _ _ g2]; rfl
  · rw [cell_of_row _ _ _ _ _ _ g2]; rfl

section
variable (ta na la pa ta' na' la' pa' : Option Addr) (tn nn ln pn tc nc lc pc ln' tc' nc' lc' pc' : Nat) (st : Int)

set_option maxRecDepth 100000 in
set_option maxHeartbeats 2000000 in
theorem rsame_long (w : World) (ts ts' : List (ByteArray × Int)) (ns ns' : List ByteArray) (L1 L2 V1 V2 : Nat → Int) (R1 R2 : Nat → List Int) (ra1 ra2 : Nat → Option Addr) (rc1 rc2 : Nat → Nat)
    (hlen : ts.length = tn ∧ ts'.length = tn ∧ ns.length = nn ∧ ns'.length = nn) (hT1 : TermsAt w ta ts) (hT2 : TermsAt w ta' ts') (hN1 : StrsAt w na ns) (hN2 : StrsAt w na' ns') (hP1 : ProdsAt w pa pn L1 R1 ra1 rc1 V1) (hP2 : ProdsAt w pa' pn L2 R2 ra2 rc2 V2)
    (hbt : tn ≤ 17592186044416) (hbn : nn ≤ 17592186044416) (hbp : pn ≤ 17592186044416) (r : Bool) (hr : r = true ↔ (ts = ts' ∧ ns = ns' ∧ prodsSame pn pn L1 R1 V1 L2 R2 V2))
    (hL : ∀ W, w.grownBy W none → Calls Try.prog 33 #[.slice la ln lc, .slice la' ln' lc'] W fun e w' => e = .returned (.bool true) ∧ W.grownBy w' none) :
    Calls Try.prog 10 #[.agg #[.slice ta tn tc, .slice na nn nc, .slice la ln lc, .int .i64 st, .slice pa pn pc], .agg #[.slice ta' tn tc', .slice na' nn nc', .slice la' ln' lc', .int .i64 st, .slice pa' pn pc']] w fun e w' => e = .returned (.bool r) ∧ w.grownBy w' none := by
  have HL : Hid (∀ W, w.grownBy W none → Calls Try.prog 33 #[.slice la ln lc, .slice la' ln' lc'] W fun e w' => e = .returned (.bool true) ∧ W.grownBy w' none) := hL
  have HX0 : Hid (Ph2 w _ #[.slice ta tn tc, .slice na nn nc, .slice la ln lc, .int .i64 st, .slice pa pn pc] #[.slice ta' tn tc', .slice na' nn nc', .slice la' ln' lc', .int .i64 st, .slice pa' pn pc']) := Ph2.mk' w _ _
  have HR : Hid (r = true ↔ (ts = ts' ∧ ns = ns' ∧ prodsSame pn pn L1 R1 V1 L2 R2 V2)) := hr
  have HLEN : Hid (ts.length = tn ∧ ts'.length = tn ∧ ns.length = nn ∧ ns'.length = nn) := hlen
  have HT1 : Hid (TermsAt w ta ts) := hT1
  have HT2 : Hid (TermsAt w ta' ts') := hT2
  have HN1 : Hid (StrsAt w na ns) := hN1
  have HN2 : Hid (StrsAt w na' ns') := hN2
  have HP1 : Hid (ProdsAt w pa pn L1 R1 ra1 rc1 V1) := hP1
  have HP2 : Hid (ProdsAt w pa' pn L2 R2 ra2 rc2 V2) := hP2
  clear hL hr hlen hT1 hT2 hN1 hN2 hP1 hP2
  go_enter Try.func10, Try.ntmps10
  go_wp2_with fail
  refine (HL.out _ HX0.out.grown).mono ?_
  rintro e w1 ⟨rfl, hg1⟩
  have HX1 : Hid (Ph2 w w1 #[.slice ta tn tc, .slice na nn nc, .slice la ln lc, .int .i64 st, .slice pa pn pc] #[.slice ta' tn tc', .slice na' nn nc', .slice la' ln' lc', .int .i64 st, .slice pa' pn pc']) := HX0.out.kept hg1
  clear hg1 HX0 HL
  obtain ⟨⟨m0, m1, m2, m3, m4⟩, n0, n1, n2, n3, n4⟩ := HX1.out.cells
  have d1 : (st != st) = false := bne_self_eq_false _
  have d2 : ((tn : Int) != (tn : Int)) = false := bne_self_eq_false _
  have d3 : ((nn : Int) != (nn : Int)) = false := bne_self_eq_false _
  have d4 : ((pn : Int) != (pn : Int)) = false := bne_self_eq_false _
  go_wp2_with fail
  clear m0 m1 m2 m3 m4 n0 n1 n2 n3 n4 d1 d2 d3 d4
  go_loopw [6] (fun i wr => ∃ k : Nat, k ≤ tn ∧ i = .int .i64 k ∧ Ph2 w wr #[.slice ta tn tc, .slice na nn nc, .slice la ln lc, .int .i64 st, .slice pa pn pc] #[.slice ta' tn tc', .slice na' nn nc', .slice la' ln' lc', .int .i64 st, .slice pa' pn pc'] ∧ ∀ j, j < k → ts.getD j (⟨#[]⟩, 0) = ts'.getD j (⟨#[]⟩, 0)) (fun i _ => tn - (intOf i).toNat)
  case atStart => exact ⟨0, Nat.zero_le _, rfl, HX1.out, fun j hj => by omega⟩
  case round =>
    clear HX1
    obtain ⟨k, hk, rfl, hX, hall⟩ := hrel
    have HX : Hid (Ph2 w wr #[.slice ta tn tc, .slice na nn nc, .slice la ln lc, .int .i64 st, .slice pa pn pc] #[.slice ta' tn tc', .slice na' nn nc', .slice la' ln' lc', .int .i64 st, .slice pa' pn pc']) := hX
    have HA : Hid (∀ j, j < k → ts.getD j (⟨#[]⟩, 0) = ts'.getD j (⟨#[]⟩, 0)) := hall
    clear hX hall
    by_cases hlt : k < tn
    · clear HP1 HP2 HN1 HN2
      obtain ⟨b1, o1, rfl, hc1⟩ : ∃ b off, ta = some ⟨b, off, none⟩ ∧ ∀ i, i < ts.length → wr.cell? ⟨b, off + i * 2, none⟩ = some (.string (ts.getD i (⟨#[]⟩, 0)).1) ∧ wr.cell? ⟨b, off + i * 2 + 1, none⟩ = some (.int .i64 (ts.getD i (⟨#[]⟩, 0)).2) := by
        rcases HT1.out.kept HX.out.grown with h | h
        · have := HLEN.out; subst h; simp at this; omega
        · exact h
      obtain ⟨b2, o2, rfl, hc2⟩ : ∃ b off, ta' = some ⟨b, off, none⟩ ∧ ∀ i, i < ts'.length → wr.cell? ⟨b, off + i * 2, none⟩ = some (.string (ts'.getD i (⟨#[]⟩, 0)).1) ∧ wr.cell? ⟨b, off + i * 2 + 1, none⟩ = some (.int .i64 (ts'.getD i (⟨#[]⟩, 0)).2) := by
        rcases HT2.out.kept HX.out.grown with h | h
        · have := HLEN.out; subst h; simp at this; omega
        · exact h
      obtain ⟨e1, e3⟩ := hc1 k (by rw [HLEN.out.1]; exact hlt)
      obtain ⟨e2, e4⟩ := hc2 k (by rw [HLEN.out.2.1]; exact hlt)
      obtain ⟨⟨m0, _⟩, n0, _⟩ := HX.out.cells
      have HF : Hid (ts.getD k (⟨#[]⟩, 0) ≠ ts'.getD k (⟨#[]⟩, 0) → r = false) := fun h => Bool.eq_false_iff.2 fun hh => h (by rw [(HR.out.1 hh).1])
      have HS : Hid (ts.getD k (⟨#[]⟩, 0) = ts'.getD k (⟨#[]⟩, 0) → ∀ j, j < k + 1 → ts.getD j (⟨#[]⟩, 0) = ts'.getD j (⟨#[]⟩, 0)) := fun h j hj => by
        by_cases e : j = k
        · rw [e]; exact h
        · exact HA.out j (by omega)
      clear hc1 hc2
      generalize ts.getD k (⟨#[]⟩, 0) = x at *
      generalize ts'.getD k (⟨#[]⟩, 0) = y at *
      obtain ⟨x, u⟩ := x
      obtain ⟨y, v⟩ := y
      have hne := neqTerm x y u v
      by_cases hxy : (x, u) = (y, v)
      · have hd : (x.toList == y.toList && u == v) = true := by simp at hxy; simp [hxy]
        have hne' : ∀ w, (binOp .neq 60 (.agg #[.string x, .int .i64 u]) (.agg #[.string y, .int .i64 v])).run Try.prog w = .ok (.bool false) w := fun w => by rw [hne, hd]; rfl
        have HS' := HS.out hxy
        have HS2 : Hid (∀ j, j < k + 1 → ts.getD j (⟨#[]⟩, 0) = ts'.getD j (⟨#[]⟩, 0)) := HS'
        clear hxy HS' HS HF hd hne
        go_wp2_with fail
        go_quiet (fail)
        go_wp2
        go_roundw
        case rel => exact ⟨k + 1, by omega, by go_num, HX.out.kept (grown_drewN _ _), HS2.out⟩
        case measure => simp [intOf]; omega
      · have hd : (x.toList == y.toList && u == v) = false := by
          rw [Bool.eq_false_iff]
          intro h
          simp only [Bool.and_eq_true, beq_iff_eq, bytes_toList] at h
          exact hxy (by rw [h.1, h.2])
        have hne' : ∀ w, (binOp .neq 60 (.agg #[.string x, .int .i64 u]) (.agg #[.string y, .int .i64 v])).run Try.prog w = .ok (.bool true) w := fun w => by rw [hne, hd]; rfl
        have hrf := HF.out hxy
        clear hxy HS HF hd hne
        go_wp2_with fail
        go_quiet (fail)
        go_wp2
        go_ret
        exact ⟨by rw [hrf]; rfl, grown_trans HX.out.grown (grown_drewN _ _)⟩
    · obtain rfl : tn = k := by omega
      have HTS : Hid (ts = ts') := list_same (⟨#[]⟩, 0) (by rw [HLEN.out.1, HLEN.out.2.1]) fun i hi => HA.out i (by rw [← HLEN.out.1]; exact hi)
      clear HA hlt hk HT1 HT2
      obtain ⟨⟨m0, _⟩, n0, _⟩ := HX.out.cells
      go_wp2_with fail
      clear m0 n0
      go_loopw [7] (fun i wr => ∃ k : Nat, k ≤ nn ∧ i = .int .i64 k ∧ Ph2 w wr #[.slice ta tn tc, .slice na nn nc, .slice la ln lc, .int .i64 st, .slice pa pn pc] #[.slice ta' tn tc', .slice na' nn nc', .slice la' ln' lc', .int .i64 st, .slice pa' pn pc'] ∧ ∀ j, j < k → ns.getD j ⟨#[]⟩ = ns'.getD j ⟨#[]⟩) (fun i _ => nn - (intOf i).toNat)
      case atStart => exact ⟨0, Nat.zero_le _, rfl, HX.out, fun j hj => by omega⟩
      case round =>
        clear HX
        obtain ⟨k, hk, rfl, hX, hall⟩ := hrel
        have HX : Hid (Ph2 w wr #[.slice ta tn tc, .slice na nn nc, .slice la ln lc, .int .i64 st, .slice pa pn pc] #[.slice ta' tn tc', .slice na' nn nc', .slice la' ln' lc', .int .i64 st, .slice pa' pn pc']) := hX
        have HA : Hid (∀ j, j < k → ns.getD j ⟨#[]⟩ = ns'.getD j ⟨#[]⟩) := hall
        clear hX hall
        by_cases hlt : k < nn
        · clear HP1 HP2
          obtain ⟨b1, o1, rfl, hc1⟩ : ∃ b off, na = some ⟨b, off, none⟩ ∧ ∀ i, i < ns.length → wr.cell? ⟨b, off + i, none⟩ = some (.string (ns.getD i ⟨#[]⟩)) := by
            rcases HN1.out.kept HX.out.grown with h | h
            · have := HLEN.out; subst h; simp at this; omega
            · exact h
          obtain ⟨b2, o2, rfl, hc2⟩ : ∃ b off, na' = some ⟨b, off, none⟩ ∧ ∀ i, i < ns'.length → wr.cell? ⟨b, off + i, none⟩ = some (.string (ns'.getD i ⟨#[]⟩)) := by
            rcases HN2.out.kept HX.out.grown with h | h
            · have := HLEN.out; subst h; simp at this; omega
            · exact h
          have e1 := hc1 k (by rw [HLEN.out.2.2.1]; exact hlt)
          have e2 := hc2 k (by rw [HLEN.out.2.2.2]; exact hlt)
          obtain ⟨⟨_, m1, _⟩, _, n1, _⟩ := HX.out.cells
          have HF : Hid (ns.getD k ⟨#[]⟩ ≠ ns'.getD k ⟨#[]⟩ → r = false) := fun h => Bool.eq_false_iff.2 fun hh => h (by rw [(HR.out.1 hh).2.1])
          have HS : Hid (ns.getD k ⟨#[]⟩ = ns'.getD k ⟨#[]⟩ → ∀ j, j < k + 1 → ns.getD j ⟨#[]⟩ = ns'.getD j ⟨#[]⟩) := fun h j hj => by
            by_cases e : j = k
            · rw [e]; exact h
            · exact HA.out j (by omega)
          clear hc1 hc2
          generalize ns.getD k ⟨#[]⟩ = x at *
          generalize ns'.getD k ⟨#[]⟩ = y at *
          by_cases hxy : x = y
          · have hd : (x.toList == y.toList) = true := by simp [hxy]
            have HS' := HS.out hxy
            have HS2 : Hid (∀ j, j < k + 1 → ns.getD j ⟨#[]⟩ = ns'.getD j ⟨#[]⟩) := HS'
            clear hxy HS' HS HF
            go_wp2_with fail
            go_quiet (fail)
            go_wp2
            go_roundw
            case rel => exact ⟨k + 1, by omega, by go_num, HX.out.kept (grown_drewN _ _), HS2.out⟩
            case measure => simp [intOf]; omega
          · have hd : (x.toList == y.toList) = false := beq_eq_false_iff_ne.2 fun h => hxy ((bytes_toList x y).1 h)
            have hrf := HF.out hxy
            clear hxy HS HF
            go_wp2_with fail
            go_quiet (fail)
            go_wp2
            go_ret
            exact ⟨by rw [hrf]; rfl, grown_trans HX.out.grown (grown_drewN _ _)⟩
        · obtain rfl : nn = k := by omega
          have HNS : Hid (ns = ns') := list_same ⟨#[]⟩ (by rw [HLEN.out.2.2.1, HLEN.out.2.2.2]) fun i hi => HA.out i (by rw [← HLEN.out.2.2.1]; exact hi)
          clear HA hlt hk HN1 HN2
          obtain ⟨⟨_, m1, _⟩, _, n1, _⟩ := HX.out.cells
          go_wp2_with fail
          clear m1 n1
          go_loopw [8] (fun i wr => ∃ k : Nat, k ≤ pn ∧ i = .int .i64 k ∧ Ph2 w wr #[.slice ta tn tc, .slice na nn nc, .slice la ln lc, .int .i64 st, .slice pa pn pc] #[.slice ta' tn tc', .slice na' nn nc', .slice la' ln' lc', .int .i64 st, .slice pa' pn pc'] ∧ ∀ j, j < k → L1 j = L2 j ∧ R1 j = R2 j ∧ V1 j = V2 j) (fun i _ => pn - (intOf i).toNat)
          case atStart => exact ⟨0, Nat.zero_le _, rfl, HX.out, fun j hj => by omega⟩
          case round =>
            clear HX
            obtain ⟨k, hk, rfl, hX, hall⟩ := hrel
            have HX : Hid (Ph2 w wr #[.slice ta tn tc, .slice na nn nc, .slice la ln lc, .int .i64 st, .slice pa pn pc] #[.slice ta' tn tc', .slice na' nn nc', .slice la' ln' lc', .int .i64 st, .slice pa' pn pc']) := hX
            have HA : Hid (∀ j, j < k → L1 j = L2 j ∧ R1 j = R2 j ∧ V1 j = V2 j) := hall
            clear hX hall
            by_cases hlt : k < pn
            · obtain ⟨b1, o1, rfl, hc1⟩ : ∃ b off, pa = some ⟨b, off, none⟩ ∧ ∀ k, k < pn → w.cell? ⟨b, off + k * 3, none⟩ = some (.int .i64 (L1 k)) ∧ w.cell? ⟨b, off + k * 3 + 1, none⟩ = some (.slice (ra1 k) (R1 k).length (rc1 k)) ∧ w.cell? ⟨b, off + k * 3 + 2, none⟩ = some (.int .i64 (V1 k)) ∧ IntsAt w (ra1 k) (R1 k) ∧ (ra1 k = none → rc1 k = 0) ∧ (R1 k).length ≤ 17592186044416 := by
                rcases HP1.out with h | h
                · omega
                · exact h
              obtain ⟨b2, o2, rfl, hc2⟩ : ∃ b off, pa' = some ⟨b, off, none⟩ ∧ ∀ k, k < pn → w.cell? ⟨b, off + k * 3, none⟩ = some (.int .i64 (L2 k)) ∧ w.cell? ⟨b, off + k * 3 + 1, none⟩ = some (.slice (ra2 k) (R2 k).length (rc2 k)) ∧ w.cell? ⟨b, off + k * 3 + 2, none⟩ = some (.int .i64 (V2 k)) ∧ IntsAt w (ra2 k) (R2 k) ∧ (ra2 k = none → rc2 k = 0) ∧ (R2 k).length ≤ 17592186044416 := by
                rcases HP2.out with h | h
                · omega
                · exact h
              obtain ⟨p1, p2, p3, p4, _, p6⟩ := hc1 k hlt
              obtain ⟨q1, q2, q3, q4, _, _⟩ := hc2 k hlt
              have p1 := HX.out.grown.cell p1 (by simp)
              have p2 := HX.out.grown.cell p2 (by simp)
              have p3 := HX.out.grown.cell p3 (by simp)
              have q1' := fun o => (World.grownBy_alloc wr o none).cell (HX.out.grown.cell q1 (by simp)) (by simp)
              have q2' := fun o => (World.grownBy_alloc wr o none).cell (HX.out.grown.cell q2 (by simp)) (by simp)
              have q3' := fun o => (World.grownBy_alloc wr o none).cell (HX.out.grown.cell q3 (by simp)) (by simp)
              obtain ⟨⟨_, _, _, _, m4⟩, _, _, _, _, n4⟩ := HX.out.cells
              have n4' := fun o => (World.grownBy_alloc wr o none).cell n4 (by simp)
              obtain ⟨rk, hrk⟩ := boolOf (R1 k = R2 k)
              have HC : Hid (∀ W, w.grownBy W none → Calls Try.prog 33 #[.slice (ra1 k) (R1 k).length (rc1 k), .slice (ra2 k) (R2 k).length (rc2 k)] W fun e w' => e = .returned (.bool rk) ∧ W.grownBy w' none) := fun W hg =>
                (sameInts_any (ra1 k) (ra2 k) (rc1 k) (rc2 k) (R1 k) (R2 k) W (p4.kept hg) (q4.kept hg) p6 rk hrk).mono fun e w' h => ⟨h.1, by obtain ⟨q, hq⟩ := h.2; rw [hq]; exact grown_drewN _ _⟩
              have HS : Hid (rk = true → L1 k = L2 k → V1 k = V2 k → ∀ j, j < k + 1 → L1 j = L2 j ∧ R1 j = R2 j ∧ V1 j = V2 j) := fun h h1 h2 j hj => by
                by_cases e : j = k
                · rw [e]; exact ⟨h1, hrk.1 h, h2⟩
                · exact HA.out j (by omega)
              have HF1 : Hid (rk = false → r = false) := fun h => Bool.eq_false_iff.2 fun hh => by
                have := hrk.2 ((HR.out.1 hh).2.2.2 k hlt).2.1
                rw [h] at this
                cases this
              have HF2 : Hid (L1 k ≠ L2 k → r = false) := fun h => Bool.eq_false_iff.2 fun hh => h ((HR.out.1 hh).2.2.2 k hlt).1
              have HF3 : Hid (V1 k ≠ V2 k → r = false) := fun h => Bool.eq_false_iff.2 fun hh => h ((HR.out.1 hh).2.2.2 k hlt).2.2
              clear hc1 hc2 p4 q4 p6 q1 q2 q3 hrk n4
              generalize (R1 k).length = z1 at *
              generalize (R2 k).length = z2 at *
              generalize L1 k = l1 at *
              generalize L2 k = l2 at *
              generalize V1 k = v1 at *
              generalize V2 k = v2 at *
              generalize ra1 k = x1 at *
              generalize ra2 k = x2 at *
              generalize rc1 k = y1 at *
              generalize rc2 k = y2 at *
              go_wp2_with fail
              refine (HC.out _ (grown_trans (grown_trans HX.out.grown (World.grownBy_alloc _ _ none)) (World.grownBy_alloc _ _ none))).mono ?_
              rintro e w2 ⟨rfl, hg2⟩
              have HX2 : Hid (Ph2 w w2 #[.slice ta tn tc, .slice na nn nc, .slice la ln lc, .int .i64 st, .slice (some ⟨b1, o1, none⟩) pn pc] #[.slice ta' tn tc', .slice na' nn nc', .slice la' ln' lc', .int .i64 st, .slice (some ⟨b2, o2, none⟩) pn pc']) := HX.out.kept (grown_trans (grown_trans (World.grownBy_alloc _ _ none) (World.grownBy_alloc _ _ none)) hg2)
              obtain ⟨u1, u2, u3, u4⟩ := prod2_cells hg2
              clear hg2 HX HC p1 p2 p3 q1' q2' q3' n4' m4
              cases rk with
              | false =>
                have hrf := HF1.out rfl
                clear HS HF1 HF2 HF3
                go_wp2_with fail
                go_ret
                exact ⟨by rw [hrf]; rfl, HX2.out.grown⟩
              | true =>
                by_cases h1 : l1 = l2
                · have d1 : (l1 != l2) = false := by simp [h1]
                  by_cases h2 : v1 = v2
                  · have d2 : (v1 != v2) = false := by simp [h2]
                    have HS2 : Hid (∀ j, j < k + 1 → L1 j = L2 j ∧ R1 j = R2 j ∧ V1 j = V2 j) := HS.out rfl h1 h2
                    clear HS HF1 HF2 HF3 h1 h2
                    go_wp2_with fail
                    go_roundw
                    case rel => exact ⟨k + 1, by omega, by go_num, HX2.out, HS2.out⟩
                    case measure => simp [intOf]; omega
                  · have d2 : (v1 != v2) = true := by simp [h2]
                    have hrf := HF3.out h2
                    clear HS HF1 HF2 HF3 h1 h2
                    go_wp2_with fail
                    go_ret
                    exact ⟨by rw [hrf]; rfl, HX2.out.grown⟩
                · have d1 : (l1 != l2) = true := by simp [h1]
                  have hrf := HF2.out h1
                  clear HS HF1 HF2 HF3 h1
                  go_wp2_with fail
                  go_ret
                  exact ⟨by rw [hrf]; rfl, HX2.out.grown⟩
            · obtain rfl : pn = k := by omega
              have hrt : r = true := HR.out.2 ⟨HTS.out, HNS.out, rfl, HA.out⟩
              obtain ⟨⟨_, _, _, _, m4⟩, _, _, _, _, n4⟩ := HX.out.cells
              go_wp2_with fail
              go_ret
              exact ⟨by rw [hrt]; rfl, HX.out.grown⟩
end

end Go.Proofs.Ytkhmhcinepfemaa

/-
  Same and the document's Same of any two grammars, wherever they lie.
-/
namespace Go.Proofs.Ytkhmhcinepfemaa
open Go.RowKit Go.Maps Go.Shelf

section
variable {w : World} {ta na la pa ta' na' la' pa' : Option Addr} {tc nc lc pc tc' nc' lc' pc' : Nat} {ts ts' : List (ByteArray × Int)} {ns ns' : List ByteArray} {lv lv' : List Int} {n n' : Nat} {L L' : Nat → Int} {R R' : Nat → List Int} {ra ra' : Nat → Option Addr} {rc rc' : Nat → Nat} {V V' : Nat → Int} (st st' : Int)

/-- Are two grammars the same? -/
def sameG (ts ts' : List (ByteArray × Int)) (ns ns' : List ByteArray) (lv lv' : List Int) (st st' : Int) (n n' : Nat) (L L' : Nat → Int) (R R' : Nat → List Int) (V V' : Nat → Int) : Prop := ts = ts' ∧ ns = ns' ∧ lv = lv' ∧ st = st' ∧ prodsSame n n' L R V L' R' V'

theorem rsame_any (h : GAt w ta na la pa tc nc lc pc ts ns lv n L R ra rc V) (h' : GAt w ta' na' la' pa' tc' nc' lc' pc' ts' ns' lv' n' L' R' ra' rc' V') (r : Bool) (hr : r = true ↔ sameG ts ts' ns ns' lv lv' st st' n n' L L' R R' V V') :
    Calls Try.prog 10 #[.agg #[.slice ta ts.length tc, .slice na ns.length nc, .slice la lv.length lc, .int .i64 st, .slice pa n pc], .agg #[.slice ta' ts'.length tc', .slice na' ns'.length nc', .slice la' lv'.length lc', .int .i64 st', .slice pa' n' pc']] w fun e w' => e = .returned (.bool r) ∧ w.grownBy w' none := by
  obtain ⟨rL, hL⟩ := boolOf (lv = lv')
  have kL : ∀ W, w.grownBy W none → Calls Try.prog 33 #[.slice la lv.length lc, .slice la' lv'.length lc'] W fun e w' => e = .returned (.bool rL) ∧ W.grownBy w' none := fun W hg => (sameInts_any la la' lc lc' lv lv' W (h.levels.kept hg) (h'.levels.kept hg) h.llen rL hL).mono fun e w' k => ⟨k.1, by obtain ⟨q, hq⟩ := k.2; rw [hq]; exact grown_drewN _ _⟩
  by_cases hs : rL = true ∧ st = st' ∧ ts.length = ts'.length ∧ ns.length = ns'.length ∧ n = n'
  · obtain ⟨rfl, rfl, h1, h2, rfl⟩ := hs
    have := rsame_long ta na la pa ta' na' la' pa' ts.length ns.length lv.length n tc nc lc pc lv'.length tc' nc' lc' pc' st w ts ts' ns ns' L L' V V' R R' ra ra' rc rc' ⟨rfl, h1.symm, rfl, h2.symm⟩ h.terms h'.terms h.nons h'.nons h.prods h'.prods h.tlen h.nlen h.plen r
      (by rw [hr]; have := hL.1 rfl; simp [sameG, this]) kL
    rwa [← h1, ← h2]
  · have hf : r = false := Bool.eq_false_iff.2 fun hh => hs (by
      obtain ⟨h1, h2, h3, h4, h5, _⟩ := hr.1 hh
      exact ⟨hL.2 h3, h4, by rw [h1], by rw [h2], h5⟩)
    rw [hf]
    exact rsame_short ta na la pa ta' na' la' pa' ts.length ns.length lv.length n tc nc lc pc ts'.length ns'.length lv'.length n' tc' nc' lc' pc' st st' w rL hs kL

end

end Go.Proofs.Ytkhmhcinepfemaa
