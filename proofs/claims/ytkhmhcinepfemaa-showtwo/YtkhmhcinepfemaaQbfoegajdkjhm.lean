import Derived.Test.YtkhmhcinepfemaaQejpkdhbolflg
import Derived.Test.YtkhmhcinepfemaaQjgfeldegjgef

/-
  Two grammars that may be, and have one text, are the same.
-/
namespace Go.Proofs.Ytkhmhcinepfemaa

theorem bare_word {l : List UInt8} (h : l ≠ [] ∧ 32 ∉ l ∧ 10 ∉ l ∧ 39 ∉ l ∧ l ≠ [59]) : Word l := .inl h
theorem order_word (z : Int) : Word (orderS z).data.toList ∧ (orderS z).data.toList.head? = some 37 ∧ (orderS z).data.toList ≠ [37, 116, 111, 107, 101, 110] := by
  unfold orderS
  split
  · exact ⟨bare_word (by decide), by decide, by decide⟩
  · split
    · exact ⟨bare_word (by decide), by decide, by decide⟩
    · exact ⟨bare_word (by decide), by decide, by decide⟩
theorem order_inj {a b : Int} (ha : 1 ≤ a ∧ a ≤ 3) (hb : 1 ≤ b ∧ b ≤ 3) (h : (orderS a).data.toList = (orderS b).data.toList) : a = b := by
  have h1 : a = 1 ∨ a = 2 ∨ a = 3 := by omega
  have h2 : b = 1 ∨ b = 2 ∨ b = 3 := by omega
  rcases h1 with rfl | rfl | rfl <;> rcases h2 with rfl | rfl | rfl <;> first | rfl | (revert h; decide)

section
variable {ts : List (ByteArray × Int)} {ns : List ByteArray} {lv : List Int} {st : Int} {n : Nat} {L : Nat → Int} {R : Nat → List Int} {V : Nat → Int}

theorem upTo_range {m : Nat} {z : Int} (h : z ∈ upTo m) : 1 ≤ z ∧ z ≤ m := by
  simp only [upTo, List.mem_map, List.mem_range] at h
  obtain ⟨i, hi, rfl⟩ := h
  omega
theorem syms_good (hf : fitsOK 0 ts ns lv st n L R V) {l : List Int} (hl : ∀ z ∈ l, 0 < z ∧ z < (ts.length : Int) + ns.length) : ∀ a ∈ symsW ts ns l, Word a ∧ a.head? ≠ some 37 := by
  intro a ha
  simp only [symsW, List.mem_map] at ha
  obtain ⟨z, hz, rfl⟩ := ha
  have := hl z hz
  obtain ⟨w1, w2, _⟩ := sym_word hf z.toNat (by omega) (by omega)
  exact ⟨w1, w2⟩
theorem right_range (hf : fitsOK 0 ts ns lv st n L R V) {k : Nat} (hk : k < n) : ∀ z ∈ R k, 0 < z ∧ z < (ts.length : Int) + ns.length := by
  intro z hz
  have htp := hf.terms.1.1
  rcases (hf.prods k (Nat.zero_le _) hk).2.2 z hz with h | h
  · omega
  · unfold isNonI at h
    omega
theorem left_range (hf : fitsOK 0 ts ns lv st n L R V) {k : Nat} (hk : k < n) : (ts.length : Int) ≤ L k ∧ L k < (ts.length : Int) + ns.length := by
  have := (hf.prods k (Nat.zero_le _) hk).1
  unfold isNonI at this
  omega
theorem grade_good (hf : fitsOK 0 ts ns lv st n L R V) {k : Nat} (hk : k < n) (hne : V k ≠ 0) : ∃ p : Nat, 0 < p ∧ p < ts.length ∧ ((ofLev ts (V k) (upTo (ts.length - 1))).getD 0 0) = (p : Int) ∧ (ts.getD p (ByteArray.empty, 0)).2 = V k := by
  have hV := (hf.prods k (Nat.zero_le _) hk).2.1
  obtain ⟨j, hj⟩ : ∃ j : Nat, V k = (j : Int) + 1 := ⟨(V k - 1).toNat, by omega⟩
  obtain ⟨_, t, ht, hlev⟩ := hf.levels j (by omega)
  obtain ⟨p, hp, rfl⟩ := List.getElem_of_mem ht
  have hp0 : p ≠ 0 := by
    intro e
    subst e
    have := hf.terms.1.2
    simp only [List.getD, List.getElem?_eq_getElem hp, Option.getD_some] at this
    rw [this] at hlev
    simp at hlev
    omega
  have hmem : (p : Int) ∈ ofLev ts (V k) (upTo (ts.length - 1)) := by
    refine List.mem_filter.2 ⟨?_, ?_⟩
    · simp only [upTo, List.mem_map, List.mem_range]
      exact ⟨p - 1, by omega, by omega⟩
    · simp only [Int.toNat_natCast, List.getD, List.getElem?_eq_getElem hp, Option.getD_some, beq_iff_eq]
      rw [hlev, hj]
  cases hc : ofLev ts (V k) (upTo (ts.length - 1)) with
  | nil => rw [hc] at hmem; cases hmem
  | cons a b =>
    have ha : a ∈ ofLev ts (V k) (upTo (ts.length - 1)) := by rw [hc]; simp
    have h1 := ofLev_mem ha
    have h2 := (List.mem_filter.1 ha).2
    obtain ⟨q, rfl⟩ : ∃ q : Nat, a = (q : Int) := ⟨a.toNat, by omega⟩
    exact ⟨q, by omega, by omega, rfl, by have h3 := beq_iff_eq.1 h2; rw [Int.toNat_natCast] at h3; exact h3⟩
theorem gradeW_good (hf : fitsOK 0 ts ns lv st n L R V) {k : Nat} (hk : k < n) : ∀ a ∈ gradeW ts ns (V k), Word a := by
  intro a ha
  unfold gradeW at ha
  split at ha
  · simp only [List.mem_singleton] at ha
    subst ha
    exact bare_word (by decide)
  · next hne =>
    obtain ⟨p, h0, h1, e, _⟩ := grade_good hf hk hne
    simp only [List.mem_cons, List.not_mem_nil, or_false] at ha
    rcases ha with rfl | rfl
    · exact bare_word (by decide)
    · rw [e]
      exact (sym_word hf p h0 (by omega)).1
theorem lines_good (hf : fitsOK 0 ts ns lv st n L R V) : ∀ ws ∈ tokL ts ns ++ levL ts ns lv ++ [startL ts ns st] ++ rulesL ts ns n L R V, ∀ a ∈ ws, Word a := by
  intro ws hws a ha
  have hst := hf.start
  unfold isNonI at hst
  have htp := hf.terms.1.1
  simp only [List.mem_append, List.mem_singleton] at hws
  rcases hws with ((hws | hws) | hws) | hws
  · unfold tokL at hws
    split at hws
    · cases hws
    · simp only [List.mem_singleton] at hws
      subst hws
      rcases List.mem_cons.1 ha with rfl | ha
      · exact bare_word (by decide)
      · exact (syms_good hf (fun z hz => by have := upTo_range hz; omega) a ha).1
  · simp only [levL, List.mem_map] at hws
    obtain ⟨j, _, rfl⟩ := hws
    rcases List.mem_cons.1 ha with rfl | ha
    · exact (order_word _).1
    · exact (syms_good hf (fun z hz => by have := ofLev_mem hz; omega) a ha).1
  · subst hws
    simp only [startL, List.mem_cons, List.not_mem_nil, or_false] at ha
    rcases ha with rfl | rfl
    · exact bare_word (by decide)
    · exact (sym_word hf st.toNat (by omega) (by omega)).1
  · simp only [rulesL, List.mem_map, List.mem_range] at hws
    obtain ⟨k, hk, rfl⟩ := hws
    have hL := left_range hf hk
    simp only [ruleW, List.mem_cons, List.mem_append] at ha
    rcases ha with rfl | rfl | ha | ha
    · exact (sym_word hf (L k).toNat (by omega) (by omega)).1
    · exact bare_word (by decide)
    · exact (syms_good hf (right_range hf hk) a ha).1
    · split at ha
      · cases ha
      · exact gradeW_good hf hk a ha
/-- What the first word of a line begins with. -/
theorem header_head (hf : fitsOK 0 ts ns lv st n L R V) : (∀ ws ∈ tokL ts ns ++ levL ts ns lv ++ [startL ts ns st], (ws.headD []).head? = some 37) ∧ ∀ ws ∈ rulesL ts ns n L R V, (ws.headD []).head? ≠ some 37 := by
  refine ⟨fun ws hws => ?_, fun ws hws => ?_⟩
  · simp only [List.mem_append, List.mem_singleton] at hws
    rcases hws with (hws | hws) | hws
    · unfold tokL at hws
      split at hws
      · cases hws
      · simp only [List.mem_singleton] at hws
        subst hws
        rfl
    · simp only [levL, List.mem_map] at hws
      obtain ⟨j, _, rfl⟩ := hws
      exact (order_word _).2.1
    · subst hws
      rfl
  · simp only [rulesL, List.mem_map, List.mem_range] at hws
    obtain ⟨k, hk, rfl⟩ := hws
    have hL := left_range hf hk
    have htp := hf.terms.1.1
    exact (sym_word hf (L k).toNat (by omega) (by omega)).2.1
end

theorem map_range_inj {α : Type} {m m' : Nat} {f g : Nat → α} (h : (List.range m).map f = (List.range m').map g) : m = m' ∧ ∀ i, i < m → f i = g i := by
  have hl := congrArg List.length h
  simp at hl
  subst hl
  refine ⟨rfl, fun i hi => ?_⟩
  have := congrArg (fun l => l[i]?) h
  simpa [hi] using this

theorem data_inj {a b : ByteArray} (h : a.data.toList = b.data.toList) : a = b := by
  apply ByteArray.ext
  exact Array.toList_inj.1 h

section
variable {ts ts' : List (ByteArray × Int)} {ns ns' : List ByteArray} {lv lv' : List Int} {st st' : Int} {n n' : Nat} {L L' : Nat → Int} {R R' : Nat → List Int} {V V' : Nat → Int}

/-- The lines, one by one. -/
theorem lines_same (hf : fitsOK 0 ts ns lv st n L R V) (hf' : fitsOK 0 ts' ns' lv' st' n' L' R' V') (e : textT ts ns lv st n L R V = textT ts' ns' lv' st' n' L' R' V') :
    tokL ts ns = tokL ts' ns' ∧ levL ts ns lv = levL ts' ns' lv' ∧ startL ts ns st = startL ts' ns' st' ∧ rulesL ts ns n L R V = rulesL ts' ns' n' L' R' V' := by
  rw [text_lines hf, text_lines hf'] at e
  have h1 := lines_split (lines_good hf) (lines_good hf') e
  have hd := header_head hf
  have hd' := header_head hf'
  obtain ⟨e1, e2⟩ := split_p (p := fun ws : List (List UInt8) => (ws.headD []).head? = some 37) hd.1 hd'.1 (fun x hx => hd.2 x (List.mem_of_mem_head? hx)) (fun x hx => hd'.2 x (List.mem_of_mem_head? hx)) h1
  have e3 := List.append_inj' e1 rfl
  have e4 : startL ts ns st = startL ts' ns' st' := by simpa using e3.2
  obtain ⟨e5, e6⟩ := split_p (p := fun ws : List (List UInt8) => ws.headD [] = [37, 116, 111, 107, 101, 110]) (b := levL ts ns lv) (b' := levL ts' ns' lv') (fun ws hws => by
      unfold tokL at hws
      split at hws
      · cases hws
      · simp only [List.mem_singleton] at hws
        subst hws
        rfl) (fun ws hws => by
      unfold tokL at hws
      split at hws
      · cases hws
      · simp only [List.mem_singleton] at hws
        subst hws
        rfl) (fun x hx => by
      have := List.mem_of_mem_head? hx
      simp only [levL, List.mem_map] at this
      obtain ⟨j, _, rfl⟩ := this
      exact (order_word _).2.2) (fun x hx => by
      have := List.mem_of_mem_head? hx
      simp only [levL, List.mem_map] at this
      obtain ⟨j, _, rfl⟩ := this
      exact (order_word _).2.2) e3.1
  exact ⟨e5, e6, e4, e2⟩

theorem quoted_inj {a b : List UInt8} (h : [39] ++ a ++ [39] = [39] ++ b ++ [39]) : a = b := by
  simp only [List.cons_append, List.nil_append, List.cons.injEq, true_and] at h
  exact List.append_cancel_right h

/-- The terminals' texts. -/
theorem names_same (hf : fitsOK 0 ts ns lv st n L R V) (hf' : fitsOK 0 ts' ns' lv' st' n' L' R' V') (e : tokL ts ns = tokL ts' ns') : ts.length = ts'.length ∧ ∀ k, (ts.getD k (ByteArray.empty, 0)).1 = (ts'.getD k (ByteArray.empty, 0)).1 := by
  have h1 := hf.terms.1
  have h1' := hf'.terms.1
  have z : ∀ k, ¬ (0 < k ∧ k < ts.length) → ts.length = ts'.length → (ts.getD k (ByteArray.empty, 0)).1 = (ts'.getD k (ByteArray.empty, 0)).1 := fun k hk hl => by
    by_cases h0 : k = 0
    · subst h0
      have a : ts.getD 0 (ByteArray.empty, 0) = (⟨#[]⟩, 0) := h1.2
      have b : ts'.getD 0 (ByteArray.empty, 0) = (⟨#[]⟩, 0) := h1'.2
      rw [a, b]
    · have a : ts.getD k (ByteArray.empty, 0) = (ByteArray.empty, 0) := by simp [List.getD, List.getElem?_eq_none (show ts.length ≤ k by omega)]
      have b : ts'.getD k (ByteArray.empty, 0) = (ByteArray.empty, 0) := by simp [List.getD, List.getElem?_eq_none (show ts'.length ≤ k by omega)]
      rw [a, b]
  unfold tokL at e
  by_cases c : ts.length - 1 = 0
  · rw [if_pos c] at e
    by_cases c' : ts'.length - 1 = 0
    · have hl : ts.length = ts'.length := by omega
      exact ⟨hl, fun k => z k (by omega) hl⟩
    · rw [if_neg c'] at e
      cases e
  · rw [if_neg c] at e
    by_cases c' : ts'.length - 1 = 0
    · rw [if_pos c'] at e
      cases e
    · rw [if_neg c'] at e
      simp only [List.cons.injEq, true_and, and_true, symsW] at e
      have hl := congrArg List.length e
      simp only [List.length_map, upTo_len] at hl
      have hl2 : ts.length = ts'.length := by omega
      refine ⟨hl2, fun k => ?_⟩
      by_cases hk : 0 < k ∧ k < ts.length
      · have h3 := congrArg (fun l => l[k - 1]?) e
        simp only [List.getElem?_map, upTo] at h3
        rw [List.getElem?_range (by omega), List.getElem?_range (by omega)] at h3
        simp only [Option.map_some, Option.some.injEq] at h3
        have e1 : (((k - 1 : Nat) : Int) + 1).toNat = k := by omega
        rw [e1, sym_term k hk.1 hk.2, sym_term k hk.1 (by omega)] at h3
        exact data_inj (quoted_inj h3)
      · exact z k hk hl2
end

end Go.Proofs.Ytkhmhcinepfemaa

/-
  Two grammars that may be, and have one text, are the same: terminals and levels, nonterminals, productions.
-/
namespace Go.Proofs.Ytkhmhcinepfemaa

section
variable {ts ts' : List (ByteArray × Int)} {ns ns' : List ByteArray} {lv lv' : List Int} {st st' : Int} {n n' : Nat} {L L' : Nat → Int} {R R' : Nat → List Int} {V V' : Nat → Int}

theorem term_inj (hf : fitsOK 0 ts ns lv st n L R V) {i j : Nat} (hi : 0 < i ∧ i < ts.length) (hj : 0 < j ∧ j < ts.length) (e : (ts.getD i (ByteArray.empty, 0)).1 = (ts.getD j (ByteArray.empty, 0)).1) : i = j := by
  rcases Nat.lt_trichotomy i j with h | h | h
  · exact absurd e ((hf.terms.2 j hj.1 hj.2).2 i hi.1 h)
  · exact h
  · exact absurd e.symm ((hf.terms.2 i hi.1 hi.2).2 j hj.1 h)
theorem non_inj (hf : fitsOK 0 ts ns lv st n L R V) {i j : Nat} (hi : i < ns.length) (hj : j < ns.length) (e : ns.getD i ByteArray.empty = ns.getD j ByteArray.empty) : i = j := by
  rcases Nat.lt_trichotomy i j with h | h | h
  · exact absurd e ((hf.nons j (Nat.zero_le _) hj).2 i (Nat.zero_le _) h)
  · exact h
  · exact absurd e.symm ((hf.nons i (Nat.zero_le _) hi).2 j (Nat.zero_le _) h)

theorem level_one (hf' : fitsOK 0 ts' ns' lv' st' n' L' R' V') (hn : ts.length = ts'.length ∧ ∀ k, (ts.getD k (ByteArray.empty, 0)).1 = (ts'.getD k (ByteArray.empty, 0)).1) {lev : Int} (e : symsW ts ns (ofLev ts lev (upTo (ts.length - 1))) = symsW ts' ns' (ofLev ts' lev (upTo (ts'.length - 1)))) {i : Nat} (hi : 0 < i ∧ i < ts.length) (hl : (ts.getD i (ByteArray.empty, 0)).2 = lev) : (ts'.getD i (ByteArray.empty, 0)).2 = lev := by
  have hm : (i : Int) ∈ ofLev ts lev (upTo (ts.length - 1)) := by
    refine List.mem_filter.2 ⟨?_, ?_⟩
    · simp only [upTo, List.mem_map, List.mem_range]
      exact ⟨i - 1, by omega, by omega⟩
    · rw [Int.toNat_natCast, beq_iff_eq]
      exact hl
  have hw : symT ts ns i ∈ symsW ts ns (ofLev ts lev (upTo (ts.length - 1))) := List.mem_map.2 ⟨(i : Int), hm, by rw [Int.toNat_natCast]⟩
  rw [e] at hw
  obtain ⟨z, hz, ez⟩ := List.mem_map.1 hw
  have hr := ofLev_mem hz
  obtain ⟨q, rfl⟩ : ∃ q : Nat, z = (q : Int) := ⟨z.toNat, by omega⟩
  rw [Int.toNat_natCast, sym_term i hi.1 hi.2, sym_term q (by omega) (by omega)] at ez
  have e1 := data_inj (quoted_inj ez)
  rw [hn.2 i] at e1
  have e2 := term_inj hf' ⟨by omega, by omega⟩ ⟨hi.1, by omega⟩ e1
  subst e2
  have h3 := beq_iff_eq.1 (List.mem_filter.1 hz).2
  rw [Int.toNat_natCast] at h3
  exact h3

theorem terms_same (hf : fitsOK 0 ts ns lv st n L R V) (hf' : fitsOK 0 ts' ns' lv' st' n' L' R' V') (e : tokL ts ns = tokL ts' ns') (e2 : levL ts ns lv = levL ts' ns' lv') : ts = ts' ∧ lv = lv' := by
  have hn := names_same hf hf' e
  obtain ⟨hl, hw⟩ := map_range_inj e2
  have hlv : ∀ j, j < lv.length → lv.getD j 0 = lv'.getD j 0 := fun j hj => by
    have h1 := hw j hj
    simp only [List.cons.injEq] at h1
    exact order_inj (hf.levels j hj).1 (hf'.levels j (by omega)).1 h1.1
  have hsy : ∀ j, j < lv.length → symsW ts ns (ofLev ts ((j : Int) + 1) (upTo (ts.length - 1))) = symsW ts' ns' (ofLev ts' ((j : Int) + 1) (upTo (ts'.length - 1))) := fun j hj => by
    have h1 := hw j hj
    simp only [List.cons.injEq] at h1
    exact h1.2
  refine ⟨?_, ?_⟩
  · refine List.ext_getElem hn.1 fun i h1 h2 => ?_
    have a : ts.getD i (ByteArray.empty, 0) = ts[i] := by simp [List.getD, h1]
    have b : ts'.getD i (ByteArray.empty, 0) = ts'[i] := by simp [List.getD, h2]
    rw [← a, ← b]
    refine Prod.ext (hn.2 i) ?_
    by_cases h0 : i = 0
    · subst h0
      have a : ts.getD 0 (ByteArray.empty, 0) = (⟨#[]⟩, 0) := hf.terms.1.2
      have b : ts'.getD 0 (ByteArray.empty, 0) = (⟨#[]⟩, 0) := hf'.terms.1.2
      rw [a, b]
    · have r1 : isTextB _ = true ∧ 0 ≤ (ts.getD i (ByteArray.empty, 0)).2 ∧ (ts.getD i (ByteArray.empty, 0)).2 ≤ lv.length := (hf.terms.2 i (by omega) h1).1
      have r2 : isTextB _ = true ∧ 0 ≤ (ts'.getD i (ByteArray.empty, 0)).2 ∧ (ts'.getD i (ByteArray.empty, 0)).2 ≤ lv'.length := (hf'.terms.2 i (by omega) h2).1
      by_cases hz : (ts.getD i (ByteArray.empty, 0)).2 = 0
      · by_cases hz' : (ts'.getD i (ByteArray.empty, 0)).2 = 0
        · rw [hz, hz']
        · obtain ⟨j, hj⟩ : ∃ j : Nat, (ts'.getD i (ByteArray.empty, 0)).2 = (j : Int) + 1 := ⟨((ts'.getD i (ByteArray.empty, 0)).2 - 1).toNat, by omega⟩
          have h9 := level_one hf ⟨hn.1.symm, fun k => (hn.2 k).symm⟩ (hsy j (by omega)).symm ⟨by omega, h2⟩ hj
          omega
      · obtain ⟨j, hj⟩ : ∃ j : Nat, (ts.getD i (ByteArray.empty, 0)).2 = (j : Int) + 1 := ⟨((ts.getD i (ByteArray.empty, 0)).2 - 1).toNat, by omega⟩
        have h9 := level_one hf' hn (hsy j (by omega)) ⟨by omega, h1⟩ hj
        omega
  · refine List.ext_getElem hl fun i h1 h2 => ?_
    have := hlv i h1
    simpa [List.getD, h1, h2] using this
end

section
variable {ts : List (ByteArray × Int)} {ns ns' : List ByteArray} {lv : List Int} {st st' : Int} {n : Nat} {L L' : Nat → Int} {R R' : Nat → List Int} {V V' : Nat → Int}

theorem leftsTo_prefix (L : Nat → Int) {k : Nat} : ∀ {n}, k ≤ n → ∃ t, leftsTo L n = leftsTo L k ++ t := by
  intro n
  induction n with
  | zero => intro h; have : k = 0 := by omega
            subst this; exact ⟨[], by simp⟩
  | succ m ih =>
    intro h
    by_cases e : k = m + 1
    · subst e; exact ⟨[], by simp⟩
    · obtain ⟨t, ht⟩ := ih (by omega)
      rw [leftsTo_succ]
      unfold leftStep
      split
      · exact ⟨t, ht⟩
      · exact ⟨t ++ [L m], by rw [ht, List.append_assoc]⟩
/-- The next Left is one that came, or the next number. -/
theorem left_next (h : validOK ts ns lv st n L R V) {k : Nat} (hk : k < n) : ((L k).toNat - ts.length < (leftsTo L k).length ∧ (leftsTo L (k + 1)).length = (leftsTo L k).length) ∨ ((L k).toNat - ts.length = (leftsTo L k).length ∧ (leftsTo L (k + 1)).length = (leftsTo L k).length + 1) := by
  have ho := (order_iff h.1).1 h.2
  obtain ⟨t, ht⟩ := leftsTo_prefix L (k := k + 1) (n := n) (by omega)
  have hat : ∀ i, i < (leftsTo L (k + 1)).length → (leftsTo L (k + 1)).getD i 0 = (ts.length : Int) + i := fun i hi => by
    have h1 := ho i (by rw [ht, List.length_append]; omega)
    rw [ht] at h1
    have e : (leftsTo L (k + 1) ++ t).getD i 0 = (leftsTo L (k + 1)).getD i 0 := by simp [List.getD, List.getElem?_append_left hi]
    rw [e] at h1
    exact h1
  rw [leftsTo_succ] at hat ⊢
  unfold leftStep at hat ⊢
  by_cases hm : L k ∈ leftsTo L k
  · rw [if_pos hm] at hat ⊢
    left
    obtain ⟨i, hi, e⟩ := List.getElem_of_mem hm
    have h1 := hat i hi
    simp only [List.getD, List.getElem?_eq_getElem hi, Option.getD_some, e] at h1
    exact ⟨by omega, rfl⟩
  · rw [if_neg hm] at hat ⊢
    right
    have h1 := hat (leftsTo L k).length (by simp)
    simp [List.getD] at h1
    exact ⟨by omega, by simp⟩

theorem nons_same (h : validOK ts ns lv st n L R V) (h' : validOK ts ns' lv st' n L' R' V') (e : ∀ k, k < n → ns.getD ((L k).toNat - ts.length) ByteArray.empty = ns'.getD ((L' k).toNat - ts.length) ByteArray.empty) : ns = ns' ∧ ∀ k, k < n → L k = L' k := by
  have hf := (fits_holds ts ns lv st n L R V).2 h.1
  have hf' := (fits_holds ts ns' lv st' n L' R' V').2 h'.1
  have hcn : ∀ k, k ≤ n → (leftsTo L k).length ≤ ns.length := fun k hk => by
    obtain ⟨t, ht⟩ := leftsTo_prefix L hk
    have := h.1.lefts
    rw [ht, List.length_append] at this
    omega
  have hcn' : ∀ k, k ≤ n → (leftsTo L' k).length ≤ ns'.length := fun k hk => by
    obtain ⟨t, ht⟩ := leftsTo_prefix L' hk
    have := h'.1.lefts
    rw [ht, List.length_append] at this
    omega
  have key : ∀ k, k ≤ n → (leftsTo L k).length = (leftsTo L' k).length ∧ (∀ i, i < (leftsTo L k).length → ns.getD i ByteArray.empty = ns'.getD i ByteArray.empty) ∧ ∀ j, j < k → L j = L' j := by
    intro k
    induction k with
    | zero => intro _; exact ⟨rfl, fun i hi => by simp [leftsTo] at hi, fun j hj => by omega⟩
    | succ k ih =>
      intro hk
      obtain ⟨i1, i2, i3⟩ := ih (by omega)
      have r1 := left_range hf (k := k) (by omega)
      have r2 := left_range hf' (k := k) (by omega)
      have ek := e k (by omega)
      have c1 := hcn k (by omega)
      have c1' := hcn' k (by omega)
      have a1 : (L k).toNat - ts.length < ns.length := by omega
      have a2 : (L' k).toNat - ts.length < ns'.length := by omega
      have same : (L k).toNat - ts.length = (L' k).toNat - ts.length := by
        rcases left_next h (k := k) (by omega) with ⟨b1, _⟩ | ⟨b1, _⟩
        · rcases left_next h' (k := k) (by omega) with ⟨b2, _⟩ | ⟨b2, _⟩
          · rw [i2 _ b1] at ek
            exact non_inj hf' (by omega) a2 ek
          · rw [i2 _ b1] at ek
            exact non_inj hf' (by omega) a2 ek
        · rcases left_next h' (k := k) (by omega) with ⟨b2, _⟩ | ⟨b2, _⟩
          · rw [← i2 _ (by omega)] at ek
            exact non_inj hf a1 (by omega) ek
          · omega
      have hLL : L k = L' k := by omega
      have hln : (leftsTo L (k + 1)).length = (leftsTo L' (k + 1)).length := by
        rcases left_next h (k := k) (by omega) with ⟨b1, d1⟩ | ⟨b1, d1⟩ <;> rcases left_next h' (k := k) (by omega) with ⟨b2, d2⟩ | ⟨b2, d2⟩ <;> omega
      refine ⟨hln, fun i hi => ?_, fun j hj => ?_⟩
      · rcases left_next h (k := k) (by omega) with ⟨b1, d1⟩ | ⟨b1, d1⟩
        · exact i2 i (by omega)
        · by_cases hi2 : i < (leftsTo L k).length
          · exact i2 i hi2
          · have e1 : i = (L k).toNat - ts.length := by omega
            have e2 : i = (L' k).toNat - ts.length := by omega
            rw [← e1, ← e2] at ek
            exact ek
      · by_cases hjk : j = k
        · rw [hjk]; exact hLL
        · exact i3 j (by omega)
  obtain ⟨k1, k2, k3⟩ := key n (Nat.le_refl _)
  have l1 := h.1.lefts
  have l2 := h'.1.lefts
  refine ⟨List.ext_getElem (by omega) fun i h1 h2 => ?_, k3⟩
  have := k2 i (by omega)
  simpa [List.getD, h1, h2] using this
end

section
variable {ts : List (ByteArray × Int)} {ns : List ByteArray} {lv : List Int} {st st' : Int} {n : Nat} {L L' : Nat → Int} {R R' : Nat → List Int} {V V' : Nat → Int}

theorem sym_inj (hf : fitsOK 0 ts ns lv st n L R V) {a b : Nat} (ha : 0 < a ∧ a < ts.length + ns.length) (hb : 0 < b ∧ b < ts.length + ns.length) (e : symT ts ns a = symT ts ns b) : a = b := by
  have w1 := (sym_word hf a ha.1 ha.2).2.2.1
  have w2 := (sym_word hf b hb.1 hb.2).2.2.1
  rw [e] at w1
  by_cases h : a < ts.length
  · have h2 : b < ts.length := w2.1 (w1.2 h)
    rw [sym_term a ha.1 h, sym_term b hb.1 h2] at e
    exact term_inj hf ⟨ha.1, h⟩ ⟨hb.1, h2⟩ (data_inj (quoted_inj e))
  · have h2 : ¬ b < ts.length := fun h2 => h (w1.1 (w2.2 h2))
    obtain ⟨i, rfl⟩ : ∃ i, a = ts.length + i := ⟨a - ts.length, by omega⟩
    obtain ⟨j, rfl⟩ : ∃ j, b = ts.length + j := ⟨b - ts.length, by omega⟩
    rw [(sym_non hf i (by omega)).1, (sym_non hf j (by omega)).1] at e
    rw [non_inj hf (by omega) (by omega) (data_inj e)]

theorem syms_inj (hf : fitsOK 0 ts ns lv st n L R V) : ∀ {l l' : List Int}, (∀ z ∈ l, 0 < z ∧ z < (ts.length : Int) + ns.length) → (∀ z ∈ l', 0 < z ∧ z < (ts.length : Int) + ns.length) → symsW ts ns l = symsW ts ns l' → l = l'
  | [], [], _, _, _ => rfl
  | [], z :: r, _, _, h => by simp [symsW] at h
  | z :: r, [], _, _, h => by simp [symsW] at h
  | z :: r, z' :: r', h1, h2, h => by
    simp only [symsW, List.map_cons, List.cons.injEq] at h
    have a := h1 z (by simp)
    have b := h2 z' (by simp)
    have e := sym_inj hf ⟨by omega, by omega⟩ ⟨by omega, by omega⟩ h.1
    have e2 : z = z' := by omega
    rw [e2, syms_inj hf (fun y hy => h1 y (List.mem_cons_of_mem _ hy)) (fun y hy => h2 y (List.mem_cons_of_mem _ hy)) h.2]

theorem gradeW_head (lev : Int) : ∃ a r, gradeW ts ns lev = a :: r ∧ a.head? = some 37 := by
  unfold gradeW
  split
  · exact ⟨_, _, rfl, rfl⟩
  · exact ⟨_, _, rfl, rfl⟩

theorem prod_same (hf : fitsOK 0 ts ns lv st n L R V) (hf' : fitsOK 0 ts ns lv st' n L' R' V') {k : Nat} (hk : k < n) (e : ruleW ts ns (L k) (R k) (V k) = ruleW ts ns (L' k) (R' k) (V' k)) : R k = R' k ∧ V k = V' k := by
  simp only [ruleW, List.cons.injEq, true_and] at e
  have g1 := syms_good hf (right_range hf hk)
  have g2 := syms_good hf' (right_range hf' hk)
  have hh : ∀ (lev : Int) (l : List Int) (x : List UInt8), (if lev = levT ts l then [] else gradeW ts ns lev).head? = some x → ¬ x.head? ≠ some 37 := fun lev l x hx h9 => by
    split at hx
    · cases hx
    · obtain ⟨a, r, e1, e2⟩ := gradeW_head (ts := ts) (ns := ns) lev
      rw [e1] at hx
      simp at hx
      subst hx
      exact h9 e2
  obtain ⟨e1, e2⟩ := split_p (p := fun x : List UInt8 => x.head? ≠ some 37) (fun x hx => (g1 x hx).2) (fun x hx => (g2 x hx).2) (hh _ _) (hh _ _) e.2
  have hR := syms_inj hf (right_range hf hk) (right_range hf' hk) e1
  refine ⟨hR, ?_⟩
  rw [hR] at e2
  by_cases h1 : V k = levT ts (R' k)
  · by_cases h2 : V' k = levT ts (R' k)
    · rw [h1, h2]
    · rw [if_pos h1, if_neg h2] at e2
      obtain ⟨a, r, e3, _⟩ := gradeW_head (ts := ts) (ns := ns) (V' k)
      rw [e3] at e2
      cases e2
  · by_cases h2 : V' k = levT ts (R' k)
    · rw [if_neg h1, if_pos h2] at e2
      obtain ⟨a, r, e3, _⟩ := gradeW_head (ts := ts) (ns := ns) (V k)
      rw [e3] at e2
      cases e2
    · rw [if_neg h1, if_neg h2] at e2
      unfold gradeW at e2
      by_cases z1 : V k = 0
      · by_cases z2 : V' k = 0
        · rw [z1, z2]
        · rw [if_pos z1, if_neg z2] at e2
          simp at e2
      · by_cases z2 : V' k = 0
        · rw [if_neg z1, if_pos z2] at e2
          simp at e2
        · rw [if_neg z1, if_neg z2] at e2
          simp only [List.cons.injEq, true_and, and_true] at e2
          obtain ⟨p, p0, p1, pe, pl⟩ := grade_good hf hk z1
          obtain ⟨q, q0, q1, qe, ql⟩ := grade_good hf' hk z2
          rw [pe, qe, Int.toNat_natCast, Int.toNat_natCast] at e2
          have := sym_inj hf ⟨p0, by omega⟩ ⟨q0, by omega⟩ e2
          subst this
          rw [← pl, ql]
end

theorem text_same {ts ts' : List (ByteArray × Int)} {ns ns' : List ByteArray} {lv lv' : List Int} {st st' : Int} {n n' : Nat} {L L' : Nat → Int} {R R' : Nat → List Int} {V V' : Nat → Int} (h : validOK ts ns lv st n L R V) (h' : validOK ts' ns' lv' st' n' L' R' V') (e : textT ts ns lv st n L R V = textT ts' ns' lv' st' n' L' R' V') : sameG ts ts' ns ns' lv lv' st st' n n' L L' R R' V V' := by
  have hf := (fits_holds ts ns lv st n L R V).2 h.1
  have hf' := (fits_holds ts' ns' lv' st' n' L' R' V').2 h'.1
  obtain ⟨e1, e2, e3, e4⟩ := lines_same hf hf' e
  obtain ⟨rfl, rfl⟩ := terms_same hf hf' e1 e2
  obtain ⟨rfl, hw⟩ := map_range_inj e4
  have htp := hf.terms.1.1
  have hnm : ∀ k, k < n → ns.getD ((L k).toNat - ts.length) ByteArray.empty = ns'.getD ((L' k).toNat - ts.length) ByteArray.empty := fun k hk => by
    have h1 := hw k hk
    simp only [ruleW, List.cons.injEq] at h1
    have r1 := left_range hf hk
    have r2 := left_range hf' hk
    have s1 := sym_non hf ((L k).toNat - ts.length) (by omega)
    have s2 := sym_non hf' ((L' k).toNat - ts.length) (by omega)
    rw [show ts.length + ((L k).toNat - ts.length) = (L k).toNat by omega] at s1
    rw [show ts.length + ((L' k).toNat - ts.length) = (L' k).toNat by omega] at s2
    have h2 := h1.1
    rw [s1.1, s2.1] at h2
    exact data_inj h2
  obtain ⟨rfl, hL⟩ := nons_same h h' hnm
  have hst : st = st' := by
    simp only [startL, List.cons.injEq, true_and, and_true] at e3
    have s1 := hf.start
    have s2 := hf'.start
    unfold isNonI at s1 s2
    have := sym_inj hf (a := st.toNat) (b := st'.toNat) ⟨by omega, by omega⟩ ⟨by omega, by omega⟩ e3
    omega
  exact ⟨rfl, rfl, rfl, hst, rfl, fun k hk => ⟨hL k hk, prod_same hf hf' hk (hw k hk)⟩⟩

end Go.Proofs.Ytkhmhcinepfemaa

/-
  The document's Closed, of any grammar.
-/
namespace Go.Proofs.Ytkhmhcinepfemaa
open Go.RowKit Go.Maps Go.Shelf

attribute [local go_sem] Oper.semAt_some

set_option maxRecDepth 100000 in
set_option maxHeartbeats 1000000 in
theorem rclosed_look (bn on bp op : Nat) (ta la ra : Option Addr) (tn nn ln pn tc nc lc pc rc : Nat) (st L0 V0 : Int) (R0 : List Int) (w : World) (hn : w.cell? ⟨bn, on, none⟩ = some (.string ⟨#[]⟩)) (h0 : 2 ≤ nn) (hp : 2 ≤ pn)
    (p0 : w.cell? ⟨bp, op, none⟩ = some (.int .i64 L0)) (p1 : w.cell? ⟨bp, op + 1, none⟩ = some (.slice ra R0.length rc)) (p2 : w.cell? ⟨bp, op + 2, none⟩ = some (.int .i64 V0)) (hR : IntsAt w ra R0) (hRl : R0.length ≤ 17592186044416) (rF : Bool)
    (hF : ∀ W, w.grownBy W none → Calls Try.prog 42 #[.agg #[.slice ta tn tc, .slice (some ⟨bn, on, none⟩) nn nc, .slice la ln lc, .int .i64 st, .slice (some ⟨bp, op, none⟩) pn pc], .int .i64 1] W fun e w' => e = .returned (.bool rF) ∧ W.grownBy w' none) (r : Bool) (hr : r = true ↔ (L0 = tn ∧ R0 = [st] ∧ V0 = 0) ∧ rF = true) :
    Calls Try.prog 41 #[.agg #[.slice ta tn tc, .slice (some ⟨bn, on, none⟩) nn nc, .slice la ln lc, .int .i64 st, .slice (some ⟨bp, op, none⟩) pn pc]] w fun e w' => e = .returned (.bool r) ∧ w.grownBy w' none := by
  have HF := show Hid _ from hF
  have HRR := show Hid _ from hr
  have hd : decide ((nn : Int) < 2) = false := decide_eq_false (by omega)
  have hd' : decide (nn < 2) = false := decide_eq_false (by omega)
  have hd2 : decide ((pn : Int) < 2) = false := decide_eq_false (by omega)
  have hd2' : decide (pn < 2) = false := decide_eq_false (by omega)
  have HR1 : Hid (R0.length = 1 → ∃ br ofr, ra = some ⟨br, ofr, none⟩ ∧ ∀ W, w.grownBy W none → W.cell? ⟨br, ofr, none⟩ = some (.int .i64 (R0.getD 0 0))) := fun hl => by
    rcases hR with h | ⟨b, off, e, hc⟩
    · rw [h] at hl; simp at hl
    · exact ⟨b, off, e, fun W hW => hW.cell (hc 0 (by omega)) (by simp)⟩
  have HRS : Hid (R0 = [st] ↔ R0.length = 1 ∧ R0.getD 0 0 = st) := by
    show _ ↔ _
    match R0 with
    | [] => simp
    | [x] => simp
    | x :: y :: l => simp
  have n0 : ∀ o, (w.alloc o).cell? ⟨bn, on, none⟩ = some (.string ⟨#[]⟩) := fun o => (World.grownBy_alloc w o none).cell hn (by simp)
  have q0 : ∀ o, (w.alloc o).cell? ⟨bp, op, none⟩ = some (.int .i64 L0) := fun o => (World.grownBy_alloc w o none).cell p0 (by simp)
  have q1 : ∀ o, (w.alloc o).cell? ⟨bp, op + 1, none⟩ = some (.slice ra R0.length rc) := fun o => (World.grownBy_alloc w o none).cell p1 (by simp)
  have q2 : ∀ o, (w.alloc o).cell? ⟨bp, op + 2, none⟩ = some (.int .i64 V0) := fun o => (World.grownBy_alloc w o none).cell p2 (by simp)
  obtain ⟨rn, hrn⟩ : ∃ rn, rn = R0.length := ⟨_, rfl⟩
  have HRN : Hid (R0.length = rn) := hrn.symm
  rw [← hrn] at q1 hRl HR1 HRS
  obtain ⟨z, hz⟩ : ∃ z, z = R0.getD 0 0 := ⟨_, rfl⟩
  rw [← hz] at HR1 HRS
  have HNO : Hid (¬ ((L0 = tn ∧ R0 = [st] ∧ V0 = 0) ∧ rF = true) → r = false) := fun h => Bool.eq_false_iff.2 fun hh => h (hr.1 hh)
  clear hn p0 p1 p2 hR hr hF hrn hz
  by_cases hL : L0 = tn
  · by_cases hl : rn = 1
    · obtain ⟨br, ofr, rfl, hc0⟩ := HR1.out hl
      have hc1 : ∀ o, (w.alloc o).cell? ⟨br, ofr, none⟩ = some (.int .i64 z) := fun o => hc0 _ (World.grownBy_alloc w o none)
      have hc2 : ∀ o o2, ((w.alloc o).alloc o2).cell? ⟨br, ofr, none⟩ = some (.int .i64 z) := fun o o2 => hc0 _ (grown_trans (World.grownBy_alloc w o none) (World.grownBy_alloc _ o2 none))
      have e1 : (L0 != (tn : Int)) = false := by rw [hL]; simp
      have e2 : ((rn : Int) != 1) = false := by rw [hl]; rfl
      have e2' : (rn != 1) = false := by rw [hl]; rfl
      have hrp : 0 < rn := by omega
      by_cases hz : z = st
      · have e3 : (z != st) = false := by rw [hz]; simp
        by_cases hV : V0 = 0
        · have e4 : (V0 != 0) = false := by rw [hV]; rfl
          have HE : Hid (rF = r) := by
            show rF = r
            rw [Bool.eq_iff_iff, HRR.out]
            exact ⟨fun h => ⟨⟨hL, HRS.out.2 ⟨hl, hz⟩, hV⟩, h⟩, fun h => h.2⟩
          have HB : Hid (∀ o2 q, PhAt w ((((w.alloc (.cells #[.slice ta tn tc, .slice (some ⟨bn, on, none⟩) nn nc, .slice la ln lc, .int .i64 st, .slice (some ⟨bp, op, none⟩) pn pc] 27)).alloc o2)).drewN q) w.heap.size #[.slice ta tn tc, .slice (some ⟨bn, on, none⟩) nn nc, .slice la ln lc, .int .i64 st, .slice (some ⟨bp, op, none⟩) pn pc]) := fun o2 q => ((PhAt.mk (World.grownBy_alloc _ _ none) (heap_alloc_last w _)).kept (World.grownBy_alloc _ o2 none)).kept (grown_drewN _ q)
          clear hL hl hz hV HRR HRS HNO HR1
          go_enter Try.func41, Try.ntmps41
          go_wp2_with fail
          go_quiet (fail)
          have HX := HB.out (.cells #[.int .i64 L0, .slice (some ⟨br, ofr, none⟩) rn rc, .int .i64 V0] 47) nq
          generalize (((w.alloc (.cells #[.slice ta tn tc, .slice (some ⟨bn, on, none⟩) nn nc, .slice la ln lc, .int .i64 st, .slice (some ⟨bp, op, none⟩) pn pc] 27)).alloc (.cells #[.int .i64 L0, .slice (some ⟨br, ofr, none⟩) rn rc, .int .i64 V0] 47))).drewN nq = W at *
          obtain ⟨m0, m1, m2, m3, m4⟩ := HX.cells
          have HXH := show Hid _ from HX.grown
          clear HX HB
          go_wp2_with fail
          refine Calls.mono (HF.out W HXH.out) ?_
          rintro e w3 ⟨rfl, hg3⟩
          have HG3 := show Hid _ from grown_trans HXH.out hg3
          clear hg3 m0 m1 m2 m3 m4
          go_wp2_with fail
          go_ret
          exact ⟨by rw [HE.out]; rfl, HG3.out⟩
        · have e4 : (V0 != 0) = true := by simp [hV]
          have hf : r = false := HNO.out fun h => hV h.1.2.2
          clear hL hl hz hV HRR HRS HNO HR1
          go_enter Try.func41, Try.ntmps41
          go_wp2_with fail
          go_quiet (fail)
          go_wp2_with fail
          go_ret
          exact ⟨by first | rfl | (rw [hf]; rfl), grown_trans (grown_trans (World.grownBy_alloc _ _ none) (World.grownBy_alloc _ _ none)) (grown_drewN _ _)⟩
      · have e3 : (z != st) = true := by simp [hz]
        have hf : r = false := HNO.out fun h => hz (HRS.out.1 h.1.2.1).2
        clear hL hl hz HRR HRS HNO HR1
        go_enter Try.func41, Try.ntmps41
        go_wp2_with fail
        go_quiet (fail)
        go_wp2_with fail
        go_ret
        exact ⟨by first | rfl | (rw [hf]; rfl), grown_trans (grown_trans (World.grownBy_alloc _ _ none) (World.grownBy_alloc _ _ none)) (grown_drewN _ _)⟩
    · have e1 : (L0 != (tn : Int)) = false := by rw [hL]; simp
      have e2 : ((rn : Int) != 1) = true := by simp; omega
      have e2' : (rn != 1) = true := by simp [hl]
      have hf : r = false := HNO.out fun h => hl (HRS.out.1 h.1.2.1).1
      clear hL hl HRR HRS HNO HR1
      go_enter Try.func41, Try.ntmps41
      go_wp2_with fail
      go_quiet (fail)
      go_wp2_with fail
      go_ret
      exact ⟨by first | rfl | (rw [hf]; rfl), grown_trans (grown_trans (World.grownBy_alloc _ _ none) (World.grownBy_alloc _ _ none)) (grown_drewN _ _)⟩
  · have e1 : (L0 != (tn : Int)) = true := by simp [hL]
    have hf : r = false := HNO.out fun h => hL h.1.1
    clear hL HRR HRS HNO HR1
    go_enter Try.func41, Try.ntmps41
    go_wp2_with fail
    go_quiet (fail)
    go_wp2_with fail
    go_ret
    exact ⟨by first | rfl | (rw [hf]; rfl), grown_trans (grown_trans (World.grownBy_alloc _ _ none) (World.grownBy_alloc _ _ none)) (grown_drewN _ _)⟩

theorem rclosed_few (ta na la pa : Option Addr) (tn nn ln pn tc nc lc pc : Nat) (st : Int) (w : World) (h : nn < 2) :
    Calls Try.prog 41 #[.agg #[.slice ta tn tc, .slice na nn nc, .slice la ln lc, .int .i64 st, .slice pa pn pc]] w fun e w' => e = .returned (.bool false) ∧ w.grownBy w' none := by
  have hd : decide ((nn : Int) < 2) = true := decide_eq_true (by omega)
  have hd' : decide (nn < 2) = true := decide_eq_true h
  go_enter Try.func41, Try.ntmps41
  go_wp2_with fail
  go_ret
  exact ⟨rfl, World.grownBy_alloc _ _ none⟩

theorem rclosed_name (bn on : Nat) (ta la pa : Option Addr) (tn nn ln pn tc nc lc pc : Nat) (st : Int) (s : ByteArray) (w : World) (h : 2 ≤ nn) (hn : w.cell? ⟨bn, on, none⟩ = some (.string s)) (hs : s ≠ ⟨#[]⟩) :
    Calls Try.prog 41 #[.agg #[.slice ta tn tc, .slice (some ⟨bn, on, none⟩) nn nc, .slice la ln lc, .int .i64 st, .slice pa pn pc]] w fun e w' => e = .returned (.bool false) ∧ w.grownBy w' none := by
  have hd : decide ((nn : Int) < 2) = false := decide_eq_false (by omega)
  have hd' : decide (nn < 2) = false := decide_eq_false (by omega)
  have n0 : ∀ o, (w.alloc o).cell? ⟨bn, on, none⟩ = some (.string s) := fun o => (World.grownBy_alloc w o none).cell hn (by simp)
  have hne2 := isEmpty_false hs
  have hne : (s.toList == (ByteArray.mk #[]).toList) = false := strEq_false hs
  clear hn hs
  go_enter Try.func41, Try.ntmps41
  go_wp2_with fail
  go_ret
  exact ⟨rfl, World.grownBy_alloc _ _ none⟩

theorem rclosed_prods (bn on : Nat) (ta la pa : Option Addr) (tn nn ln pn tc nc lc pc : Nat) (st : Int) (w : World) (h : 2 ≤ nn) (hn : w.cell? ⟨bn, on, none⟩ = some (.string ⟨#[]⟩)) (hp : pn < 2) :
    Calls Try.prog 41 #[.agg #[.slice ta tn tc, .slice (some ⟨bn, on, none⟩) nn nc, .slice la ln lc, .int .i64 st, .slice pa pn pc]] w fun e w' => e = .returned (.bool false) ∧ w.grownBy w' none := by
  have hd : decide ((nn : Int) < 2) = false := decide_eq_false (by omega)
  have hd' : decide (nn < 2) = false := decide_eq_false (by omega)
  have hd2 : decide ((pn : Int) < 2) = true := decide_eq_true (by omega)
  have hd2' : decide (pn < 2) = true := decide_eq_true hp
  have n0 : ∀ o, (w.alloc o).cell? ⟨bn, on, none⟩ = some (.string ⟨#[]⟩) := fun o => (World.grownBy_alloc w o none).cell hn (by simp)
  clear hn
  go_enter Try.func41, Try.ntmps41
  go_wp2_with fail
  go_ret
  exact ⟨rfl, World.grownBy_alloc _ _ none⟩

/-- The document's Closed: is a grammar closed? -/
theorem rclosed_any (ta na la pa : Option Addr) (tc nc lc pc : Nat) (st : Int) (ts : List (ByteArray × Int)) (ns : List ByteArray) (lv : List Int) (n : Nat) (L : Nat → Int) (R : Nat → List Int) (ra : Nat → Option Addr) (rc : Nat → Nat) (V : Nat → Int) (w : World)
    (hG : GAt w ta na la pa tc nc lc pc ts ns lv n L R ra rc V) (hts : ∀ t ∈ ts, t.1.size ≤ 140737488355328) (hns : ∀ s ∈ ns, s.size ≤ 140737488355328) (r : Bool) (hr : r = true ↔ closedOK ts ns lv st n L R V) :
    Calls Try.prog 41 #[.agg #[.slice ta ts.length tc, .slice na ns.length nc, .slice la lv.length lc, .int .i64 st, .slice pa n pc]] w fun e w' => e = .returned (.bool r) ∧ w.grownBy w' none := by
  have no : ¬ closedOK ts ns lv st n L R V → r = false := fun h => Bool.eq_false_iff.2 fun hh => h (hr.1 hh)
  by_cases h2 : ns.length < 2
  · rw [no (fun h => by have h4 := h.2.start; unfold isNonI at h4; omega)]
    exact rclosed_few ta na la pa _ _ _ _ _ _ _ _ st w h2
  · obtain ⟨bn, on, rfl, hnc⟩ : ∃ b off, na = some ⟨b, off, none⟩ ∧ ∀ i, i < ns.length → w.cell? ⟨b, off + i, none⟩ = some (.string (ns.getD i ⟨#[]⟩)) := by
      rcases hG.nons with h | h
      · rw [h] at h2; simp at h2
      · exact h
    have hc := hnc 0 (by omega)
    by_cases hs : ns.getD 0 ⟨#[]⟩ = ⟨#[]⟩
    · rw [hs] at hc
      by_cases hp : n < 2
      · rw [no (fun h => by have := h.2.p1; omega)]
        exact rclosed_prods bn on ta la pa _ _ _ _ _ _ _ _ st w (by omega) hc hp
      · obtain ⟨bp, op, rfl, hps⟩ : ∃ b off, pa = some ⟨b, off, none⟩ ∧ ∀ k, k < n → w.cell? ⟨b, off + k * 3, none⟩ = some (.int .i64 (L k)) ∧ w.cell? ⟨b, off + k * 3 + 1, none⟩ = some (.slice (ra k) (R k).length (rc k)) ∧ w.cell? ⟨b, off + k * 3 + 2, none⟩ = some (.int .i64 (V k)) ∧ IntsAt w (ra k) (R k) ∧ (ra k = none → rc k = 0) ∧ (R k).length ≤ 17592186044416 := by
          rcases hG.prods with h | h
          · omega
          · exact h
        obtain ⟨p0, p1, p2, p3, _, p5⟩ := hps 0 (by omega)
        simp only [Nat.zero_mul, Nat.add_zero] at p0 p1 p2
        obtain ⟨rF, hrF⟩ := boolOf (fitsOK 1 ts ns lv st n L R V)
        refine rclosed_look bn on bp op ta la (ra 0) ts.length ns.length lv.length n tc nc lc pc (rc 0) st (L 0) (V 0) (R 0) w hc (by omega) (by omega) p0 p1 p2 p3 p5 rF (fun W hW => fits_any ta _ la _ ts.length ns.length lv.length n tc nc lc pc 1 st ts ns lv L R ra rc V W (hG.kept hW) ⟨rfl, rfl, rfl⟩ (by omega) (by omega) hts hns rF hrF) r ?_
        rw [hr, hrF]
        exact ⟨fun h => ⟨⟨h.1.left, h.1.right, h.1.level⟩, h.2⟩, fun ⟨⟨h1, h3, h4⟩, h5⟩ => ⟨⟨by omega, hs, by omega, h1, h3, h4⟩, h5⟩⟩
    · rw [no (fun h => hs h.1.name)]
      exact rclosed_name bn on ta la pa _ _ _ _ _ _ _ _ st _ w (by omega) hc hs

end Go.Proofs.Ytkhmhcinepfemaa
