/-
  trans: the ways of Rights and Lefts, pure (TRightsM, over fewer imports).
-/
import Derived.Test.YthoamlahbnphkaaGreatQipdlenonbfcj
import Derived.Test.YthoamlahbnphkaaGreatQaadeodneccno
namespace Go.Proofs.YthoamlahbnphkaaGreat.J
open Go.RowKit Go.Maps Go.Shelf

/-- A kernel of a state but the first has begun items alone. -/
def PB (n : Nat) (R : Nat → List Int) (j : Nat) (k : List It) : Prop := PJ n R j k ∧ (j = 0 ∨ ∀ x ∈ k, 0 < x.2)
theorem CLo_item {tn n : Nat} {L : Nat → Int} {R : Nat → List Int} {k : List It} (hk : ∀ x ∈ k, itB n R x = true) : ∀ x ∈ CLo tn n L R k, itB n R x = true := by
  unfold CLo
  by_cases hh : ∃ l, IsClo tn n L R k l ∧ l.length ≤ k.length + 13000
  · rw [dif_pos hh]
    have h1 := Classical.choose_spec hh
    exact fun x hx => ((h1.1.mem x).1 hx).item hk
  · rw [dif_neg hh]
    exact fun x hx => absurd hx (by simp)
theorem mem_GG {tn n : Nat} {L : Nat → Int} {R : Nat → List Int} {k : List It} {s : Nat} {x : It} : x ∈ GG tn n L R k s ↔ ∃ y ∈ CLo tn n L R k, aheadV R y = (s : Int) ∧ (y.1, y.2 + 1) = x := by
  unfold GG kerT
  rw [List.mem_map]
  constructor
  · rintro ⟨y, hy, rfl⟩
    obtain ⟨h1, h2⟩ := List.mem_filter.1 hy
    exact ⟨y, h1, by simpa using h2, rfl⟩
  · rintro ⟨y, hy, h, rfl⟩
    exact ⟨y, List.mem_filter.2 ⟨hy, by simpa using h⟩, rfl⟩
theorem PB.GG {tn n : Nat} {L : Nat → Int} {R : Nat → List Int} {i m : Nat} {k : List It} (s : Nat) (h : PB n R i k) (hm : i < m) : PB n R m (GG tn n L R k s) := by
  refine ⟨h.1.GG s hm, .inr fun x hx => ?_⟩
  obtain ⟨y, hy, _, rfl⟩ := mem_GG.1 hx
  have h1 := CLo_item h.1.1 y hy
  unfold itB at h1
  simp only [Bool.and_eq_true, decide_eq_true_eq] at h1
  simp only
  omega
section
variable {tn nn n : Nat} {L : Nat → Int} {R : Nat → List Int} {ks : List (List It)} {es : List (List (Nat × Nat))}
theorem edge_of (h : AutF (GG tn n L R) n R (tn + nn) ks es) {q s : Nat} (hq : q < ks.length) (hs : s < tn + nn) (hk : GG tn n L R (ks.getD q []) s ≠ []) : ∃ t : Nat, t < ks.length ∧ leadA es ((q : Int), (s : Int)) = some (t : Int) ∧ ks.getD t [] = GG tn n L R (ks.getD q []) s := by
  have h1 : s ∈ (es.getD q []).map Prod.fst := by rw [h.fst q hq]; exact mem_symsT.2 ⟨hs, hk⟩
  obtain ⟨e, he, rfl⟩ := List.mem_map.1 h1
  obtain ⟨t, h2, e', he', h3, h4⟩ := nextL_some he
  obtain ⟨_, h5, h6⟩ := h.snd q hq e' he'
  refine ⟨t, by rw [← h4]; exact h5, by rw [leadA_at es (by rw [h.len]; exact hq)]; exact h2, ?_⟩
  rw [← h4, h6, h3]
theorem no_edge (h : AutF (GG tn n L R) n R (tn + nn) ks es) {q s : Nat} (hq : q < ks.length) (hk : GG tn n L R (ks.getD q []) s = []) : leadA es ((q : Int), (s : Int)) = none := by
  rw [leadA_at es (by rw [h.len]; exact hq)]
  cases hn : nextL (es.getD q []) (s : Int) with
  | none => rfl
  | some v =>
    obtain ⟨x, hx, h1, _⟩ := nextL_mem hn
    have h2 : x.1 ∈ (es.getD q []).map Prod.fst := List.mem_map.2 ⟨x, hx, rfl⟩
    rw [h.fst q hq] at h2
    have h3 := (mem_symsT.1 h2).2
    rw [show x.1 = s by omega] at h3
    exact absurd hk h3
/-- An item that is not completed goes on. -/
theorem goes_on (h : AutF (GG tn n L R) n R (tn + nn) ks es) (hR : ∀ k, k < n → ∀ x ∈ R k, (0 : Int) < x ∧ x < ((tn + nn : Nat) : Int)) {q P d : Nat} (hq : q < ks.length) (hP : P < n) (hd : d < (R P).length) (hx : ((P : Int), (d : Int)) ∈ CLo tn n L R (ks.getD q [])) : ∃ t : Nat, t < ks.length ∧ leadA es ((q : Int), (R P).getD d 0) = some (t : Int) ∧ ((P : Int), ((d + 1 : Nat) : Int)) ∈ ks.getD t [] := by
  have hm : (R P).getD d 0 ∈ R P := by
    generalize R P = l at hd ⊢
    rw [List.getD_eq_getElem?_getD, List.getElem?_eq_getElem hd]; exact List.getElem_mem hd
  have h1 := hR P hP _ hm
  obtain ⟨s, hs⟩ : ∃ s : Nat, (R P).getD d 0 = (s : Int) := ⟨((R P).getD d 0).toNat, by omega⟩
  have ha : aheadV R ((P : Int), (d : Int)) = (s : Int) := by
    unfold aheadV
    rw [if_neg (by simp only [Int.toNat_natCast]; omega)]
    simp only [Int.toNat_natCast]
    exact hs
  have hg : ((P : Int), ((d + 1 : Nat) : Int)) ∈ GG tn n L R (ks.getD q []) s := mem_GG.2 ⟨_, hx, ha, by simp⟩
  obtain ⟨t, h2, h3, h4⟩ := edge_of (s := s) h hq (by rw [hs] at h1; omega) (fun e => by rw [e] at hg; cases hg)
  exact ⟨t, h2, by rw [hs]; exact h3, by rw [h4]; exact hg⟩
/-- The added one leads nowhere. -/
theorem left_none (h : AutF (GG tn n L R) n R (tn + nn) ks es) (hNo : ∀ k, k < n → ∀ x ∈ R k, x ≠ (tn : Int)) {q : Nat} (hq : q < ks.length) : leadA es ((q : Int), (tn : Int)) = none := by
  refine no_edge h hq (List.eq_nil_iff_forall_not_mem.2 fun x hx => ?_)
  obtain ⟨y, hy, h1, _⟩ := mem_GG.1 hx
  have h2 := CLo_item (h.kok.each q hq).1 y hy
  unfold itB at h2
  simp only [Bool.and_eq_true, decide_eq_true_eq] at h2
  obtain ⟨⟨⟨a1, a2⟩, a3⟩, a4⟩ := h2
  unfold aheadV at h1
  by_cases e : y.2 = ((R y.1.toNat).length : Int)
  · rw [if_pos e] at h1; omega
  · rw [if_neg e] at h1
    have hl : y.2.toNat < (R y.1.toNat).length := by omega
    refine hNo y.1.toNat (by omega) ((R y.1.toNat).getD y.2.toNat 0) ?_ h1
    generalize R y.1.toNat = l at hl ⊢
    rw [List.getD_eq_getElem?_getD, List.getElem?_eq_getElem hl]; exact List.getElem_mem hl
end
/-- The added nonterminal stands in no Right. -/
theorem no_added {ts : List (ByteArray × Int)} {ns : List ByteArray} {lv : List Int} {st : Int} {n : Nat} {L : Nat → Int} {R : Nat → List Int} {V : Nat → Int} (h : closedOK ts ns lv st n L R V) : ∀ k, k < n → ∀ x ∈ R k, x ≠ (ts.length : Int) := by
  obtain ⟨ha, hf⟩ := h
  have hs := hf.start
  unfold isNonI at hs
  intro k hk x hx
  by_cases h0 : k = 0
  · subst h0
    rw [ha.right] at hx
    simp at hx
    omega
  · have := (hf.prods k (by omega) hk).2.2 x hx
    unfold isSymI isNonI at this
    omega

end Go.Proofs.YthoamlahbnphkaaGreat.J
