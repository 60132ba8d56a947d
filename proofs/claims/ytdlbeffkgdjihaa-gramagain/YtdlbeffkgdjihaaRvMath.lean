/-
  What the document's Valid asks, by places; and that it is what the program asks.
-/
import Derived.Test.YtdlbeffkgdjihaaValidWalk
namespace Go.Proofs.Ytdlbeffkgdjihaa
open Go.RowKit

theorem nodup_idx {α : Type} (d : α) (l : List α) : l.Nodup ↔ ∀ i k, k < i → i < l.length → l.getD k d ≠ l.getD i d := by
  rw [List.nodup_iff_pairwise_ne, List.pairwise_iff_getElem]
  constructor
  · intro h i k hk hi
    have := h k i (by omega) hi hk
    simpa [List.getD, hi, show k < l.length by omega] using this
  · intro h i j hi hj hij
    have := h j i hij hj
    simpa [List.getD, hi, hj] using this

def t0 : ByteArray × Int := (⟨#[]⟩, 0)
/-- The terminal at i. -/
def termAt (ts : List (ByteArray × Int)) (ln i : Nat) : Prop := termOK ln (ts.getD i (⟨#[]⟩, 0)) ∧ ∀ k, 1 ≤ k → k < i → (ts.getD k (⟨#[]⟩, 0)).1 ≠ (ts.getD i (⟨#[]⟩, 0)).1
theorem termsOK_idx (ts : List (ByteArray × Int)) (ln : Nat) : termsOK ts ln ↔ (0 < ts.length ∧ ts.getD 0 (⟨#[]⟩, 0) = (⟨#[]⟩, 0)) ∧ ∀ i, 1 ≤ i → i < ts.length → termAt ts ln i := by
  cases ts with
  | nil =>
    constructor
    · rintro ⟨rest, h, _⟩; cases h
    · rintro ⟨⟨h, _⟩, _⟩; simp at h
  | cons t rest =>
    constructor
    · rintro ⟨rest', h, h1, h2⟩
      cases h
      refine ⟨⟨by simp, by simp⟩, fun i hi hl => ?_⟩
      obtain ⟨j, rfl⟩ : ∃ j, i = j + 1 := ⟨i - 1, by omega⟩
      have hj : j < rest.length := by simpa using hl
      refine ⟨?_, fun k hk hki => ?_⟩
      · have : (((⟨#[]⟩, 0) : ByteArray × Int) :: rest).getD (j + 1) (⟨#[]⟩, 0) = rest[j] := by simp [List.getD, hj]
        rw [this]
        exact h1 _ (List.getElem_mem hj)
      · obtain ⟨m, rfl⟩ : ∃ m, k = m + 1 := ⟨k - 1, by omega⟩
        have := (nodup_idx ⟨#[]⟩ _).1 h2 j m (by omega) (by simpa using hj)
        have hm : m < rest.length := by omega
        simpa [List.getD, hj, hm] using this
    · rintro ⟨⟨_, h0⟩, h⟩
      have h0' : t = (⟨#[]⟩, 0) := by simpa using h0
      subst h0'
      refine ⟨rest, rfl, fun t ht => ?_, (nodup_idx ⟨#[]⟩ _).2 fun i k hk hi => ?_⟩
      · obtain ⟨j, hj, rfl⟩ := List.getElem_of_mem ht
        have := (h (j + 1) (by omega) (by simpa using hj)).1
        simpa [List.getD, hj] using this
      · have hi' : i < rest.length := by simpa using hi
        have hk' : k < rest.length := by omega
        have := (h (i + 1) (by omega) (by simpa using hi')).2 (k + 1) (by omega) (by omega)
        simpa [List.getD, hi', hk'] using this

/-- The nonterminal at i, of those from ad on. -/
def nonAt (ns : List ByteArray) (ad i : Nat) : Prop := isNameB (ns.getD i ⟨#[]⟩) = true ∧ ∀ k, ad ≤ k → k < i → ns.getD k ⟨#[]⟩ ≠ ns.getD i ⟨#[]⟩
theorem nonsOK_idx (ns : List ByteArray) : ((∀ s ∈ ns, isNameB s = true) ∧ ns.Nodup) ↔ ∀ i, 0 ≤ i → i < ns.length → nonAt ns 0 i := by
  constructor
  · rintro ⟨h1, h2⟩ i _ hi
    exact ⟨h1 _ (getD_mem hi), fun k _ hk => (nodup_idx ⟨#[]⟩ _).1 h2 i k hk hi⟩
  · intro h
    refine ⟨fun s hs => ?_, (nodup_idx ⟨#[]⟩ _).2 fun i k hk hi => (h i (Nat.zero_le _) hi).2 k (Nat.zero_le _) hk⟩
    obtain ⟨j, hj, rfl⟩ := List.getElem_of_mem hs
    have := (h j (Nat.zero_le _) hj).1
    simpa [List.getD, hj] using this

/-- What the document's fits asks. -/
structure fitsOK (ad : Nat) (ts : List (ByteArray × Int)) (ns : List ByteArray) (lv : List Int) (st : Int) (n : Nat) (L : Nat → Int) (R : Nat → List Int) (V : Nat → Int) : Prop where
  nn : ns.length ≤ 64 + ad
  tn : ts.length ≤ 65
  pn : n ≤ 96 + ad
  p1 : 1 + ad ≤ n
  ln : lv.length ≤ 64
  syms : (ts.length : Int) - 1 + ns.length - ad ≤ 64
  terms : (0 < ts.length ∧ ts.getD 0 (⟨#[]⟩, 0) = (⟨#[]⟩, 0)) ∧ ∀ i, 1 ≤ i → i < ts.length → termAt ts lv.length i
  levels : ∀ j, j < lv.length → levelOK ts lv j
  nons : ∀ i, ad ≤ i → i < ns.length → nonAt ns ad i
  prods : ∀ i, ad ≤ i → i < n → prodOK ts.length ns.length lv.length ad (L i) (R i) (V i)
  lefts : (leftsTo (fun i => L (ad + i)) (n - ad)).length + ad = ns.length
  start : isNonI ts.length ns.length ad st

theorem nodup_short' {α : Type} [DecidableEq α] : ∀ (l m : List α), l.Nodup → (∀ x ∈ l, x ∈ m) → l.length ≤ m.length
  | [], _, _, _ => Nat.zero_le _
  | a :: l, m, hn, hs => by
    rw [List.nodup_cons] at hn
    have ha := hs a (by simp)
    have h := nodup_short' l (m.erase a) hn.2 (fun x hx => (List.mem_erase_of_ne (fun e => hn.1 (by rw [← e]; exact hx))).2 (hs x (by simp [hx])))
    rw [List.length_erase_of_mem ha] at h
    have : 0 < m.length := List.length_pos_of_mem ha
    simp only [List.length_cons]
    omega

theorem levels_few {ts : List (ByteArray × Int)} {lv : List Int} (h0 : 0 < ts.length) (h1 : ts.getD 0 (⟨#[]⟩, 0) = (⟨#[]⟩, 0)) (h : ∀ j, j < lv.length → levelOK ts lv j) : lv.length + 1 ≤ ts.length := by
  have hnd : ((List.range (lv.length + 1)).map fun i : Nat => (i : Int)).Nodup := by
    rw [List.nodup_iff_pairwise_ne, List.pairwise_map]
    exact (List.nodup_range (n := lv.length + 1)).imp (fun h e => h (by omega))
  have h := nodup_short' _ (ts.map (·.2)) hnd (fun x hx => by
    obtain ⟨i, hi, rfl⟩ := List.mem_map.1 hx
    have hi' := List.mem_range.1 hi
    cases i with
    | zero =>
      cases ts with
      | nil => simp at h0
      | cons t r => have : t = (⟨#[]⟩, 0) := by simpa using h1
                    simp [this]
    | succ j =>
      obtain ⟨_, t, ht, e⟩ := h j (by omega)
      exact List.mem_map.2 ⟨t, ht, by rw [e]; simp⟩)
  simpa using h

theorem fits_holds (ts : List (ByteArray × Int)) (ns : List ByteArray) (lv : List Int) (st : Int) (n : Nat) (L : Nat → Int) (R : Nat → List Int) (V : Nat → Int) : fitsOK 0 ts ns lv st n L R V ↔ holdsOK ts ns lv st n L R V := by
  have e : (fun i => L (0 + i)) = L := by funext i; rw [Nat.zero_add]
  constructor
  · intro h
    refine ⟨by have := h.syms; omega, by have := h.pn; omega, (termsOK_idx _ _).2 h.terms, (nonsOK_idx _).2 h.nons, h.levels, fun i hi => h.prods i (Nat.zero_le _) hi, ?_, h.start⟩
    have := h.lefts
    rw [e] at this
    simpa using this
  · intro h
    have ht := (termsOK_idx _ _).1 h.terms
    have h1 := h.syms
    have h2 := ht.1.1
    have h3 := levels_few ht.1.1 ht.1.2 h.levels
    have h4 := h.start
    unfold isNonI at h4
    have h5 := h.lefts
    have h6 := leftsTo_le L n
    exact ⟨by omega, by omega, h.cnt, by omega, by omega, by omega, ht, h.levels, (nonsOK_idx _).1 h.nons, fun i _ hi => h.prods i hi, by rw [e]; simpa using h5, h.start⟩

/-! ### The order -/
theorem leftsTo_nodup (L : Nat → Int) : ∀ n, (leftsTo L n).Nodup
  | 0 => by simp [leftsTo]
  | n + 1 => by
    rw [leftsTo_succ]
    unfold leftStep
    split
    · exact leftsTo_nodup L n
    · next h => exact List.nodup_append.2 ⟨leftsTo_nodup L n, by simp, fun a ha b hb => by rw [List.mem_singleton.1 hb]; exact fun e => h (e ▸ ha)⟩
theorem leftsTo_mem (L : Nat → Int) (x : Int) : ∀ n, x ∈ leftsTo L n ↔ ∃ i, i < n ∧ L i = x
  | 0 => by simp [leftsTo]
  | n + 1 => by
    rw [leftsTo_succ]
    unfold leftStep
    have ih := leftsTo_mem L x n
    split
    · next h =>
      rw [ih]
      constructor
      · rintro ⟨i, hi, e⟩; exact ⟨i, by omega, e⟩
      · rintro ⟨i, hi, e⟩
        by_cases hin : i = n
        · rw [← ih, ← e, hin]; exact h
        · exact ⟨i, by omega, e⟩
    · rw [List.mem_append, ih, List.mem_singleton]
      constructor
      · rintro (⟨i, hi, e⟩ | e)
        · exact ⟨i, by omega, e⟩
        · exact ⟨n, by omega, e.symm⟩
      · rintro ⟨i, hi, e⟩
        by_cases hin : i = n
        · right; rw [← e, hin]
        · exact .inl ⟨i, by omega, e⟩

/-- Numbers that grow, no two alike, of a span that they fill. -/
theorem asc_fill {l : List Int} {m : Int} {k : Nat} (hl : l.length = k) (ha : Asc l) (hn : l.Nodup) (hb : ∀ x ∈ l, m ≤ x ∧ x < m + k) : ∀ i, i < k → l.getD i 0 = m + i := by
  have hmem : ∀ i, i < k → l.getD i 0 ∈ l := fun i hi => by
    have : l.getD i 0 = l[i] := by simp [List.getD, show i < l.length by omega]
    rw [this]; exact List.getElem_mem _
  have hstep : ∀ i, i + 1 < k → l.getD i 0 + 1 ≤ l.getD (i + 1) 0 := fun i hi => by
    have h1 := ha i (by omega)
    have h2 := (nodup_idx (0 : Int) l).1 hn (i + 1) i (by omega) (by omega)
    omega
  have hlow : ∀ i, i < k → m + i ≤ l.getD i 0 := fun i => by
    induction i with
    | zero => intro h; have := (hb _ (hmem 0 h)).1; simpa using this
    | succ j ih => intro h; have h1 := ih (by omega); have h2 := hstep j h; omega
  have hup : ∀ d i, i + d + 1 = k → l.getD i 0 ≤ m + i := fun d => by
    induction d with
    | zero => intro i h; have := (hb _ (hmem i (by omega))).2; omega
    | succ d ih => intro i h; have h1 := ih (i + 1) (by omega); have h2 := hstep i (by omega); omega
  intro i hi
  have h1 := hlow i hi
  have h2 := hup (k - 1 - i) i (by omega)
  omega
theorem fill_asc {l : List Int} {m : Int} {k : Nat} (hl : l.length = k) (h : ∀ i, i < k → l.getD i 0 = m + i) : Asc l := fun i hi => by
  rw [h i (by omega), h (i + 1) (by omega)]; omega
/-- The Lefts in their order, of a grammar that holds. -/
theorem order_iff {ts : List (ByteArray × Int)} {ns : List ByteArray} {lv : List Int} {st : Int} {n : Nat} {L : Nat → Int} {R : Nat → List Int} {V : Nat → Int} (h : holdsOK ts ns lv st n L R V) : Asc (leftsTo L n) ↔ ∀ i, i < (leftsTo L n).length → (leftsTo L n).getD i 0 = (ts.length : Int) + i := by
  constructor
  · intro ha
    refine asc_fill rfl ha (leftsTo_nodup L n) fun x hx => ?_
    obtain ⟨i, hi, rfl⟩ := (leftsTo_mem L x n).1 hx
    have := (h.prods i hi).1
    unfold isNonI at this
    rw [h.lefts]
    omega
  · exact fun hf => fill_asc rfl hf

end Go.Proofs.Ytdlbeffkgdjihaa
