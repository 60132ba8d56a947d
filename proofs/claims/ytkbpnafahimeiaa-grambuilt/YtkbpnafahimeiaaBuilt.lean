/-
  GramBuilt, walked: it answers true, and nothing that was there turns.
-/
import Derived.Test.YtkbpnafahimeiaaOpsOpen
import Derived.Deep.AppendLies
namespace Go.Proofs.Ytkbpnafahimeiaa
open Go.RowKit

/-! ### The lefts -/
def leftsOf (S : BS) : List Int := S.prods.map (·.left)

theorem gradeGo_lefts (l : Int) : ∀ (hs : List Int) (ps ps' : List PR), gradeGo l ps hs = some ps' → ps'.map (·.left) = ps.map (·.left)
  | [], ps, ps', h => by simp [gradeGo] at h; rw [h]
  | x :: r, ps, ps', h => by
    unfold gradeGo at h
    split at h
    · next hx =>
      rw [gradeGo_lefts l r _ _ h]
      apply List.ext_getElem?
      intro k
      simp only [setLev, List.getElem?_map, List.getElem?_set]
      by_cases e : x.toNat = k
      · subst e
        have : x.toNat < ps.length := by omega
        simp [this, List.getD]
      · simp [e]
    · cases h

theorem does_lefts (S : BS) (kd A : Int) (l : List Int) (s : ByteArray) : leftsOf (S.does kd A l s) = leftsOf S ∨ leftsOf (S.does kd A l s) = leftsOf S ++ [A] := by
  unfold BS.does
  split
  · left; unfold BS.term; split
    · show leftsOf (if _ then _ else _) = _; split <;> rfl
    · rfl
  split
  · left; unfold BS.non; split
    · show leftsOf (if _ then _ else _) = _; split <;> rfl
    · rfl
  split
  · left; unfold BS.level; split
    · cases levGo S (S.sides.length + 1) S.lev l <;> rfl
    · rfl
  split
  · unfold BS.rule
    split
    · split
      · exact .inl rfl
      · right; simp [leftsOf, BS.addP]
    · exact .inl rfl
  split
  · left; unfold BS.grade; split
    · cases hg : gradeGo A S.prods l with
      | none => rfl
      | some ps => exact gradeGo_lefts A l S.prods ps hg
    · rfl
  split
  · left; unfold BS.startA; split <;> rfl
  · exact .inl rfl

theorem nodup_sub_length {l : List Nat} : ∀ {m : List Nat}, l.Nodup → (∀ x ∈ l, x ∈ m) → l.length ≤ m.length := by
  induction l with
  | nil => intro m _ _; simp
  | cons x l ih =>
    intro m hn h
    obtain ⟨h1, h2⟩ := List.nodup_cons.1 hn
    have hx := h x (by simp)
    have := ih (m := m.erase x) h2 (fun y hy => (List.mem_erase_of_ne (a := y) (b := x) (fun e => h1 (by rw [← e]; exact hy))).2 (h y (List.mem_cons_of_mem _ hy)))
    rw [List.length_erase_of_mem hx] at this
    have hp := List.length_pos_of_mem hx
    simp
    omega

/-- No more levels than terminals. -/
theorem sides_le {S : BS} (h : S.OK) : S.sides.length ≤ S.terms.length := by
  have hc : ∀ i, ∃ k, i < S.sides.length → 1 ≤ k ∧ k ≤ S.terms.length ∧ S.lev k = (i : Int) + 1 := fun i => by
    by_cases hi : i < S.sides.length
    · obtain ⟨k, hk⟩ := h.has i hi
      exact ⟨k, fun _ => hk⟩
    · exact ⟨0, fun hi' => absurd hi' hi⟩
  have hf := fun i => Classical.choose_spec (hc i)
  have := nodup_sub_length (l := (List.range S.sides.length).map fun i => Classical.choose (hc i)) (m := (List.range S.terms.length).map (· + 1)) (by
    rw [List.nodup_iff_pairwise_ne, List.pairwise_map]
    refine List.Pairwise.imp_of_mem ?_ (List.nodup_range (n := S.sides.length))
    intro a b ha hb hab e
    have h1 := hf a (by simpa using ha)
    have h2 := hf b (by simpa using hb)
    rw [e] at h1
    have := h1.2.2.symm.trans h2.2.2
    omega) (fun x hx => by
    obtain ⟨i, hi, rfl⟩ := List.mem_map.1 hx
    have h1 := hf i (by simpa using hi)
    exact List.mem_map.2 ⟨Classical.choose (hc i) - 1, by simp; omega, by omega⟩)
  simpa using this

theorem ord_all {S : BS} (h : S.OK) : (ordOf S.prods).Nodup ∧ ∀ i ∈ ordOf S.prods, 1 ≤ i ∧ i ≤ S.nons.length := by
  have := ord_props h S.prods.length (Nat.le_refl _)
  rwa [List.take_length] at this

theorem ord_mem_fold (ps : List PR) : ∀ (out : List Nat) (i : Nat), i ∈ ps.foldl ordStep out ↔ i ∈ out ∨ ∃ p ∈ ps, (-p.left).toNat = i := by
  induction ps with
  | nil => intro out i; simp
  | cons p ps ih =>
    intro out i
    rw [List.foldl_cons, ih]
    unfold ordStep
    split
    · next hm =>
      constructor
      · rintro (h | ⟨q, hq, e⟩)
        · exact .inl h
        · exact .inr ⟨q, List.mem_cons_of_mem _ hq, e⟩
      · rintro (h | ⟨q, hq, e⟩)
        · exact .inl h
        · rcases List.mem_cons.1 hq with rfl | hq
          · exact .inl (e ▸ hm)
          · exact .inr ⟨q, hq, e⟩
    · constructor
      · rintro (h | ⟨q, hq, e⟩)
        · rcases List.mem_append.1 h with h | h
          · exact .inl h
          · simp at h
            exact .inr ⟨p, by simp, h.symm⟩
        · exact .inr ⟨q, List.mem_cons_of_mem _ hq, e⟩
      · rintro (h | ⟨q, hq, e⟩)
        · exact .inl (List.mem_append_left _ h)
        · rcases List.mem_cons.1 hq with rfl | hq
          · exact .inl (by simp [e])
          · exact .inr ⟨q, hq, e⟩
theorem ord_mem (ps : List PR) (i : Nat) : i ∈ ordOf ps ↔ ∃ p ∈ ps, (-p.left).toNat = i := by
  have := ord_mem_fold ps [] i
  simpa [ordOf] using this

/-- Where none is told. -/
theorem told_none {S : BS} (ht : S.tells = false) : S.prods.length = 0 ∨ ∃ i : Nat, 1 ≤ i ∧ i ≤ S.nons.length ∧ ∀ q ∈ S.prods, q.left ≠ -(i : Int) := by
  by_cases h0 : S.prods.length = 0
  · exact .inl h0
  · right
    have hlt : (ordOf S.prods).length < S.nons.length := by
      simp [BS.tells] at ht
      exact ht (by omega)
    apply Classical.byContradiction
    intro hn
    have hall : ∀ i : Nat, 1 ≤ i → i ≤ S.nons.length → i ∈ ordOf S.prods := fun i h1 h2 => by
      apply Classical.byContradiction
      intro hi
      refine hn ⟨i, h1, h2, fun q hq e => hi ((ord_mem _ _).2 ⟨q, hq, by omega⟩)⟩
    have := nodup_sub_length (l := (List.range S.nons.length).map (· + 1)) (m := ordOf S.prods) (by
      rw [List.nodup_iff_pairwise_ne, List.pairwise_map]
      exact List.Pairwise.imp (fun hab e => hab (by omega)) (List.nodup_range (n := S.nons.length))) (fun x hx => by
      obtain ⟨i, hi, rfl⟩ := List.mem_map.1 hx
      exact hall _ (by omega) (by have : i < S.nons.length := by simpa using hi
                                  omega))
    simp at this
    omega

/-! ### Where one is told -/
theorem tells_len {S : BS} (h : S.OK) (ht : S.tells = true) : 0 < S.prods.length ∧ (ordOf S.prods).length = S.nons.length := by
  have h1 : 0 < S.prods.length ∧ S.nons.length ≤ (ordOf S.prods).length := by simpa [BS.tells] using ht
  obtain ⟨hn, hr⟩ := ord_all h
  have := nodup_sub_length (l := ordOf S.prods) (m := (List.range S.nons.length).map (· + 1)) hn (fun x hx => by
    have := hr x hx
    exact List.mem_map.2 ⟨x - 1, by simp; omega, by omega⟩)
  simp at this
  exact ⟨h1.1, by omega⟩

theorem sub_len_mem {l m : List Nat} (hl : l.Nodup) (h : ∀ x ∈ l, x ∈ m) (hlen : m.length ≤ l.length) : ∀ x ∈ m, x ∈ l := fun x hx => by
  apply Classical.byContradiction
  intro hn
  have := nodup_sub_length (l := x :: l) (m := m) (List.nodup_cons.2 ⟨hn, hl⟩) (fun y hy => by
    rcases List.mem_cons.1 hy with rfl | hy
    · exact hx
    · exact h y hy)
  simp at this
  omega

theorem tells_mem {S : BS} (h : S.OK) (ht : S.tells = true) {i : Nat} (h1 : 1 ≤ i) (h2 : i ≤ S.nons.length) : i ∈ ordOf S.prods := by
  obtain ⟨hn, hr⟩ := ord_all h
  refine sub_len_mem (m := (List.range S.nons.length).map (· + 1)) hn (fun x hx => ?_) (by simp [(tells_len h ht).2]) i (List.mem_map.2 ⟨i - 1, by simp; omega, by omega⟩)
  have := hr x hx
  exact List.mem_map.2 ⟨x - 1, by simp; omega, by omega⟩

theorem sym_in {S : BS} (h : S.OK) (ht : S.tells = true) {i : Nat} (h1 : 1 ≤ i) (h2 : i ≤ S.nons.length) : (S.terms.length : Int) + 1 ≤ S.sym i ∧ S.sym i < (S.terms.length : Int) + 1 + S.nons.length := by
  have hm := tells_mem h ht h1 h2
  have hi := List.idxOf_lt_length_iff.2 hm
  rw [(tells_len h ht).2] at hi
  unfold BS.sym symOf
  rw [if_pos hm]
  omega

/-- The order of the lefts: the k-th new one has the k-th number. -/
theorem ord_prefix (ps : List PR) : ∀ out : List Nat, ∃ more, ps.foldl ordStep out = out ++ more := by
  induction ps with
  | nil => intro out; exact ⟨[], by simp⟩
  | cons p ps ih =>
    intro out
    obtain ⟨m, hm⟩ := ih (ordStep out p)
    rw [List.foldl_cons, hm]
    unfold ordStep
    split
    · exact ⟨m, rfl⟩
    · exact ⟨[(-p.left).toNat] ++ m, by simp⟩

theorem ord_take_prefix (ps : List PR) (k : Nat) : ∃ more, ordOf ps = ordOf (ps.take k) ++ more := by
  obtain ⟨m, hm⟩ := ord_prefix (ps.drop k) (ordOf (ps.take k))
  refine ⟨m, ?_⟩
  rw [← hm]
  unfold ordOf
  rw [← List.foldl_append, List.take_append_drop]

theorem lefts_are {S : BS} (h : S.OK) : ∀ k, k ≤ S.prods.length → leftsTo (fun i => sg S.sym (S.prods.getD i ⟨0, [], 0⟩).left) k = (List.range (ordOf (S.prods.take k)).length).map (fun j : Nat => (S.terms.length : Int) + 1 + j)
  | 0, _ => by simp [leftsTo, ordOf]
  | k + 1, hk => by
    have ih := lefts_are h k (by omega)
    have hlt : k < S.prods.length := by omega
    rw [leftsTo_succ, ih, ordOf_succ _ _ hlt]
    have hp : S.prods.getD k ⟨0, [], 0⟩ ∈ S.prods := by
      have : S.prods.getD k ⟨0, [], 0⟩ = S.prods[k] := by simp [List.getD, hlt]
      rw [this]; exact List.getElem_mem _
    have hpl := h.pl _ hp
    obtain ⟨m1, hm1⟩ := ord_take_prefix S.prods k
    have hnd := (ord_all h).1
    obtain ⟨i, hi⟩ : ∃ i, i = (-(S.prods.getD k ⟨0, [], 0⟩).left).toNat := ⟨_, rfl⟩
    have hsg : sg S.sym (S.prods.getD k ⟨0, [], 0⟩).left = S.sym i := by unfold sg; rw [if_pos hpl.2, hi]
    unfold leftStep ordStep
    simp only [hsg]
    rw [← hi]
    by_cases hmem : i ∈ ordOf (S.prods.take k)
    · have hidx := List.idxOf_lt_length_iff.2 hmem
      have hsym : S.sym i = (S.terms.length : Int) + 1 + (ordOf (S.prods.take k)).idxOf i := by
        unfold BS.sym symOf
        rw [hm1, if_pos (List.mem_append_left _ hmem), List.idxOf_append, if_pos hmem]
        simp
      rw [if_pos hmem, if_pos]
      rw [hsym]
      exact List.mem_map.2 ⟨_, by simpa using hidx, rfl⟩
    · obtain ⟨m2, hm2⟩ := ord_take_prefix S.prods (k + 1)
      rw [ordOf_succ _ _ hlt] at hm2
      unfold ordStep at hm2
      rw [← hi, if_neg hmem] at hm2
      have hsym : S.sym i = (S.terms.length : Int) + 1 + (ordOf (S.prods.take k)).length := by
        unfold BS.sym symOf
        rw [hm2, if_pos (by simp), List.append_assoc, List.idxOf_append, if_neg hmem]
        simp
      rw [if_neg hmem, if_neg]
      · rw [hsym, List.length_append]
        simp [List.range_succ]
      · rw [hsym]
        intro hh
        obtain ⟨j, hj, e⟩ := List.mem_map.1 hh
        have : j < (ordOf (S.prods.take k)).length := by simpa using hj
        omega

theorem told_valid {S : BS} (h : S.OK) (ht : S.tells = true) :
    validOK S.gram.terms S.gram.nons S.gram.levels S.gram.start S.gram.prods.length (fun i => (S.gram.prods.getD i ⟨0, [], 0⟩).left) (fun i => (S.gram.prods.getD i ⟨0, [], 0⟩).right) (fun i => (S.gram.prods.getD i ⟨0, [], 0⟩).level) := by
  obtain ⟨h0, hlen⟩ := tells_len h ht
  obtain ⟨hnd, hrg⟩ := ord_all h
  have eT : S.gram.terms.length = S.terms.length + 1 := tms_length S _
  have eN : S.gram.nons.length = S.nons.length := by show ((ordOf S.prods).map _).length = _; rw [List.length_map, hlen]
  have eL : S.gram.levels.length = S.sides.length := rfl
  have eP : S.gram.prods.length = S.prods.length := by show (S.prods.map _).length = _; simp
  have eG : ∀ i, i < S.prods.length → S.gram.prods.getD i ⟨0, [], 0⟩ = ⟨sg S.sym (S.prods.getD i ⟨0, [], 0⟩).left, (S.prods.getD i ⟨0, [], 0⟩).right.map (sg S.sym), (S.prods.getD i ⟨0, [], 0⟩).level⟩ := fun i hi => by simp [BS.gram, List.getD, hi]
  have hmem : ∀ i, i < S.prods.length → S.prods.getD i ⟨0, [], 0⟩ ∈ S.prods := fun i hi => by
    have : S.prods.getD i ⟨0, [], 0⟩ = S.prods[i] := by simp [List.getD, hi]
    rw [this]; exact List.getElem_mem _
  have hsgN : ∀ x : Int, -(S.nons.length : Int) ≤ x → x < 0 → isNonI (S.terms.length + 1) S.nons.length 0 (sg S.sym x) := fun x h1 h2 => by
    unfold sg isNonI
    rw [if_pos h2]
    have := sym_in h ht (i := (-x).toNat) (by omega) (by omega)
    omega
  have hLefts : leftsTo (fun i => (S.gram.prods.getD i ⟨0, [], 0⟩).left) S.gram.prods.length = (List.range S.nons.length).map (fun j : Nat => (S.terms.length : Int) + 1 + j) := by
    have e := lefts_are h S.prods.length (Nat.le_refl _)
    rw [List.take_length, hlen] at e
    rw [← e, eP]
    have : ∀ k, k ≤ S.prods.length → leftsTo (fun i => (S.gram.prods.getD i ⟨0, [], 0⟩).left) k = leftsTo (fun i => sg S.sym (S.prods.getD i ⟨0, [], 0⟩).left) k := by
      intro k
      induction k with
      | zero => intro _; rfl
      | succ k ih =>
        intro hk
        rw [leftsTo_succ, leftsTo_succ, ih (by omega)]
        unfold leftStep
        simp only [eG k (by omega)]
    exact this _ (Nat.le_refl _)
  refine ⟨⟨?_, ?_, ?_, ⟨?_, ?_⟩, ?_, ?_, ?_, ?_⟩, ?_⟩
  · rw [eT, eN]; have := h.syms; omega
  · rw [eP]; exact h.prods
  · refine ⟨(List.range S.terms.length).map fun j => (S.terms.getD j ⟨#[]⟩, S.lev (j + 1)), rfl, fun t htm => ?_, ?_⟩
    · obtain ⟨j, hj, rfl⟩ := List.mem_map.1 htm
      have hj' : j < S.terms.length := by simpa using hj
      refine ⟨h.tnames _ ?_, (h.lev (j + 1)).1, (h.lev (j + 1)).2⟩
      have : S.terms.getD j ⟨#[]⟩ = S.terms[j] := by simp [List.getD, hj']
      show S.terms.getD j ⟨#[]⟩ ∈ S.terms
      rw [this]; exact List.getElem_mem _
    · have : ((List.range S.terms.length).map fun j => (S.terms.getD j ⟨#[]⟩, S.lev (j + 1))).map (·.1) = S.terms := by
        apply List.ext_getElem?
        intro k
        by_cases hk : k < S.terms.length
        · simp [hk, List.getD]
        · simp [hk]
      rw [this]
      exact h.tnd
  · intro s hs
    obtain ⟨i, hi, rfl⟩ := List.mem_map.1 hs
    have hr := hrg i hi
    have e : S.nons.getD (i - 1) ⟨#[]⟩ = S.nons[i - 1]'(by omega) := by simp [List.getD, show i - 1 < S.nons.length by omega]
    show isNameB (S.nons.getD (i - 1) ⟨#[]⟩) = true
    rw [e]
    exact h.nnames _ (List.getElem_mem _)
  · show ((ordOf S.prods).map fun i => S.nons.getD (i - 1) ⟨#[]⟩).Nodup
    rw [List.nodup_iff_pairwise_ne, List.pairwise_map]
    refine List.Pairwise.imp_of_mem ?_ hnd
    intro a b ha hb hab e
    have h1 := hrg a ha
    have h2 := hrg b hb
    have e1 : S.nons.getD (a - 1) ⟨#[]⟩ = S.nons[a - 1]'(by omega) := by simp [List.getD, show a - 1 < S.nons.length by omega]
    have e2 : S.nons.getD (b - 1) ⟨#[]⟩ = S.nons[b - 1]'(by omega) := by simp [List.getD, show b - 1 < S.nons.length by omega]
    rw [e1, e2] at e
    have hpw := List.pairwise_iff_getElem.1 (List.nodup_iff_pairwise_ne.1 h.nnd)
    rcases Nat.lt_trichotomy (a - 1) (b - 1) with hlt | heq | hlt
    · exact hpw _ _ _ _ hlt e
    · exact hab (by omega)
    · exact hpw _ _ _ _ hlt e.symm
  · intro j hj
    have hj' : j < S.sides.length := hj
    refine ⟨?_, ?_⟩
    · have e : S.gram.levels.getD j 0 = S.sides[j] := by show S.sides.getD j 0 = _; simp [List.getD, hj']
      rw [e]
      exact h.sdv _ (List.getElem_mem _)
    · obtain ⟨k, k1, k2, k3⟩ := h.has j hj'
      refine ⟨(S.terms.getD (k - 1) ⟨#[]⟩, S.lev (k - 1 + 1)), ?_, ?_⟩
      · show _ ∈ S.tms S.terms.length
        unfold BS.tms
        exact List.mem_cons_of_mem _ (List.mem_map.2 ⟨k - 1, by simp; omega, rfl⟩)
      · show S.lev (k - 1 + 1) = _
        rw [show k - 1 + 1 = k by omega]
        exact k3
  · intro i hi
    rw [eP] at hi
    have hm := hmem i hi
    have hpl := h.pl _ hm
    have hpr := h.pr _ hm
    have hpv := h.pv _ hm
    simp only [eG i hi]
    rw [eT, eN]
    refine ⟨hsgN _ hpl.1 hpl.2, hpv, fun x hx => ?_⟩
    obtain ⟨y, hy, rfl⟩ := List.mem_map.1 hx
    rcases hpr y hy with ⟨y1, y2⟩ | ⟨y1, y2⟩
    · left
      unfold sg
      rw [if_neg (by omega)]
      omega
    · exact .inr (hsgN y y2 y1)
  · rw [hLefts, eN]; simp
  · obtain ⟨j, hj, j1, j2⟩ := first_ok h h0
    rw [eT, eN]
    show isNonI _ _ 0 (S.sym (-S.first).toNat)
    have := sym_in h ht (i := j) j1 j2
    rw [show (-S.first).toNat = j by omega]
    unfold isNonI
    omega
  · rw [hLefts]
    intro i hi
    have hi' : i + 1 < S.nons.length := by simpa using hi
    have e1 : ((List.range S.nons.length).map (fun j : Nat => (S.terms.length : Int) + 1 + j)).getD i 0 = (S.terms.length : Int) + 1 + i := by simp [List.getD, show i < S.nons.length by omega]
    have e2 : ((List.range S.nons.length).map (fun j : Nat => (S.terms.length : Int) + 1 + j)).getD (i + 1) 0 = (S.terms.length : Int) + 1 + ((i + 1 : Nat) : Int) := by simp [List.getD, hi']
    rw [e1, e2]
    omega

end Go.Proofs.Ytkbpnafahimeiaa

namespace Go.Proofs.Ytkbpnafahimeiaa
open Go.RowKit Go.Shelf

/-- Behind a change of a block that is none of its own; what is new is none either. -/
theorem RAt.outsideN {w w' : World} {r gl : Nat} {S : BS} {Q : Nat → Prop} (h : RAt w r S Q) (hg : w.grownBy w' (some gl)) (hn : ¬ Q gl) : RAt w' r S (fun g => (Q g ∧ g < w.heap.size) ∨ w'.heap.size ≤ g) := by
  obtain ⟨h1, h2, vt, vn, vl, vr, h3, h4⟩ := h
  have ne : ∀ v : Value, (∀ g, v.ownBlock = some g → Q g) → v.ownBlock = none ∨ v.ownBlock ≠ some gl := fun v hv => .inr (fun e => hn (hv gl e))
  have lt : ∀ {B e s n : Nat} {v : Value} {xs : List Value}, w.ownsRow B e s v n xs → ∀ g, v.ownBlock = some g → g < w.heap.size := fun ho g hv => (ho.lt g hv).2
  obtain ⟨rs, e1, e2, e3⟩ := h4.rl
  exact ⟨fun g hg' => .inr hg', .inl ⟨h2, h3.lt⟩, vt, vn, vl, vr, h3.keptOff hg (fun e => hn (by cases e; exact h2)), h4.tl.kept hg (ne _ h4.qt), h4.nl.kept hg (ne _ h4.qn), h4.ll.kept hg (ne _ h4.ql),
    ⟨rs, e1, e2.kept hg (ne _ h4.qr), fun i hi => ⟨World.ownsRow.kept (e3 i hi).1 hg (ne _ (fun g h => ((e3 i hi).2 g h).1)), fun g hv => ⟨.inl ⟨((e3 i hi).2 g hv).1, lt (e3 i hi).1 g hv⟩, ((e3 i hi).2 g hv).2⟩⟩⟩, fun g hv => .inl ⟨h4.qt g hv, lt h4.tl g hv⟩, fun g hv => .inl ⟨h4.qn g hv, lt h4.nl g hv⟩, fun g hv => .inl ⟨h4.ql g hv, lt h4.ll g hv⟩, fun g hv => .inl ⟨h4.qr g hv, lt e2 g hv⟩⟩

theorem Two.spoilN {w w' : World} {K : Nat → Prop} {x b r gl e : Nat} {cs : Array Value} {S1 S2 : BS} {P Q : Nat → Prop} (h : Two w K x b r S1 S2 P Q) (hg : w.grownBy w' (some gl)) (hb : w.heap[gl]? = some (.cells cs e (0, 0))) (he : e ≠ 69) (hP : ¬ P gl) (hQ : ¬ Q gl) (hx : x ≠ gl) :
    Two w' K x b r S1 S2 (fun g => (P g ∧ g < w.heap.size) ∨ w'.heap.size ≤ g) (fun g => (Q g ∧ g < w.heap.size) ∨ w'.heap.size ≤ g) := by
  have k := h.spoil hg hb he hP hQ hx
  have hz := hg.size
  refine ⟨k.pb, h.rb.outsideN hg hQ, ?_, ?_, k.lowP, k.lowB, k.ltK, ?_, k.xb, k.xlt, k.box⟩
  · rintro g hlt (⟨hp, hl⟩ | hl) (⟨hq, _⟩ | hl')
    · exact h.apart g hl hp hq
    · omega
    · omega
    · omega
  · rintro g (⟨hq, _⟩ | hl)
    · exact h.lowQ g hq
    · intro hk; have := h.ltK g hk; omega
  · rintro (⟨hq, _⟩ | hl)
    · exact h.xQ hq
    · have := h.xlt; omega

def KV (X : World) (v : Value) : Nat → Prop := fun g => g < X.heap.size ∨ v.ownBlock = some g

/-- Both builders, and the law's own list. -/
structure BuAt (X w : World) (x b r : Nat) (S : BS) (v : Value) (ys : List Int) : Prop where
  two : ∃ P Q, Two w (KV X v) x b r S S P Q
  gX : X.grownBy w none
  row : w.ownsRow X.heap.size 3 1 v ys.length (ys.map (Value.int .i64))

theorem BuAt.lt {X w : World} {x b r : Nat} {S : BS} {v : Value} {ys : List Int} (h : BuAt X w x b r S v ys) : ∀ g, KV X v g → g < w.heap.size := by
  rintro g (hg | hg)
  · exact Nat.lt_of_lt_of_le hg h.gX.size
  · exact (h.row.lt g hg).2

theorem owns_frm {K : Nat → Prop} {w w' : World} {B e s n : Nat} {v : Value} {xs : List Value} (h : w.ownsRow B e s v n xs) (hf : Frm K w w') (hk : ∀ g, v.ownBlock = some g → K g) : w'.ownsRow B e s v n xs := by
  refine ⟨h.1, ?_⟩
  rcases h.2 with h' | ⟨g, cap, cur, hv, hb, hh, rest⟩
  · exact .inl h'
  · exact .inr ⟨g, cap, cur, hv, hb, (hf.eq g (hk g (by rw [hv]; rfl))).trans hh, rest⟩

theorem BuAt.grown {X w w' : World} {x b r : Nat} {S : BS} {v : Value} {ys : List Int} (h : BuAt X w x b r S v ys) (hf : Frm (KV X v) w w') : X.grownBy w' none :=
  ⟨hf.os.trans h.gX.os, hf.tape.trans h.gX.tape, hf.output.trans h.gX.output, Nat.le_of_not_lt fun hlt => absurd (hf.lt _ (.inl hlt)) (Nat.lt_irrefl _), fun i hi _ => (hf.eq i (.inl hi)).trans (h.gX.block i hi (by simp))⟩

theorem BuAt.frm {X w w' : World} {x b r : Nat} {S S' : BS} {v : Value} {ys : List Int} (h : BuAt X w x b r S v ys) (hT : ∃ P Q, Two w' (KV X v) x b r S' S' P Q) (hf : Frm (KV X v) w w') : BuAt X w' x b r S' v ys :=
  ⟨hT, h.grown hf, owns_frm h.row hf (fun _ hv => .inr hv)⟩

theorem BuAt.kept {X w w' : World} {x b r : Nat} {S : BS} {v : Value} {ys : List Int} (h : BuAt X w x b r S v ys) (hg : w.grownBy w' none) : BuAt X w' x b r S v ys := by
  obtain ⟨P, Q, hT⟩ := h.two
  exact h.frm ⟨_, _, hT.kept hg⟩ ((Frm.refl h.lt).kept hg)

theorem BuAt.does {X w : World} {x b r : Nat} {S : BS} {v : Value} {ys : List Int} (h : BuAt X w x b r S v ys) {a : Option Addr} {n : Nat} {O : Nat → OpD} (hO : OpsAt X a n O) {k : Nat} (hk : k < n) :
    Calls Try.prog 8 #[.pointer (some ⟨x, 0, none⟩), .agg #[.int .i64 (O k).kind, .int .i64 (O k).A, .slice (O k).la (O k).l.length (O k).lc, .string (O k).s]] w fun e w' => e = .returned (.bool true) ∧ BuAt X w' x b r (S.does (O k).kind (O k).A (O k).l (O k).s) v ys := by
  obtain ⟨P, Q, hT⟩ := h.two
  have hb := (hO k hk).choose_spec.choose_spec.2.2.2.2.2
  have hl : ∀ W, Frm (KV X v) w W → IntsAt W (O k).la (O k).l := fun W hW => by
    have hg : X.grownBy W none := h.grown hW
    exact hb.ints.kept hg
  exact (does_any w w _ x b r S P Q hT (Frm.refl h.lt) _ _ _ _ _ _ hl hb.len hb.slen).mono fun e w' ⟨h1, P', Q', h2, h3⟩ => ⟨h1, h.frm ⟨P', Q', h2⟩ h3⟩

/-- The law's own list grows. -/
theorem BuAt.append {X w w1 w' : World} {x b r g cap : Nat} {S : BS} {v : Value} {ys : List Int} {A : Int} (h : BuAt X w x b r S v ys) (h1 : w.grownBy w1 none) (hg : w1.grownBy w' v.ownBlock) (hrow : w'.ownsRow X.heap.size 3 1 (.slice (some ⟨g, 0, none⟩) (ys.length + 1) cap) (ys.length + 1) (ys.map (Value.int .i64) ++ [.int .i64 A])) (hloc : v.ownBlock = some g ∨ g = w1.heap.size) (hlt : g < w'.heap.size) :
    BuAt X w' x b r S (.slice (some ⟨g, 0, none⟩) (ys.length + 1) cap) (ys ++ [A]) := by
  have h' := h.kept h1
  obtain ⟨P, Q, hT⟩ := h'.two
  have hXw := h'.gX.size
  have hbl : b < w1.heap.size := by
    obtain ⟨_, c, hr, _⟩ := hT.pb
    exact (Array.getElem?_eq_some_iff.1 hr).1
  have key : ∃ P' Q', Two w' (KV X v) x b r S S P' Q' ∧ (∀ i, P' i → P i ∧ i < w1.heap.size ∨ w'.heap.size ≤ i) ∧ (∀ i, Q' i → Q i ∧ i < w1.heap.size ∨ w'.heap.size ≤ i) ∧ X.grownBy w' none := by
    cases hv : v.ownBlock with
    | none => rw [hv] at hg; exact ⟨_, _, hT.fresh hg, fun _ h => h, fun _ h => h, grown_trans h'.gX hg⟩
    | some q =>
      rw [hv] at hg
      obtain ⟨cs, hcs⟩ : ∃ cs : Array Value, w1.heap[q]? = some (.cells cs 3 (0, 0)) := by
        rcases h'.row.2 with ⟨e, _⟩ | ⟨g', cap', cur, e, _, hh, _⟩
        · rw [e] at hv; cases hv
        · rw [e] at hv
          have : g' = q := by simpa [Value.ownBlock] using hv
          exact ⟨cur, this ▸ hh⟩
      refine ⟨_, _, hT.spoilN hg hcs (by decide) (fun hp => hT.lowP q hp (.inr hv)) (fun hq => hT.lowQ q hq (.inr hv)) ?_, fun _ h => h, fun _ h => h, grown_new h'.gX hg (h'.row.lt q hv).1⟩
      intro e
      have hb := hT.box
      rw [e, hcs] at hb
      simp at hb
  obtain ⟨P', Q', hT', hP', hQ', hgX⟩ := key
  have hz := hg.size
  refine ⟨⟨P', Q', hT'.rekey ?_⟩, hgX, by simpa using hrow⟩
  rintro i (hi | hi)
  · exact ⟨by omega, fun hp => hT'.lowP i hp (.inl hi), fun hq => hT'.lowQ i hq (.inl hi), fun e => hT'.lowB (.inl (e ▸ hi))⟩
  · have e : i = g := by simp [Value.ownBlock] at hi; exact hi.symm
    subst e
    rcases hloc with hl | hl
    · exact ⟨hlt, fun hp => hT'.lowP i hp (.inr hl), fun hq => hT'.lowQ i hq (.inr hl), fun e => hT'.lowB (.inr (e ▸ hl))⟩
    · refine ⟨hlt, fun hp => ?_, fun hq => ?_, by omega⟩
      · rcases hP' i hp with ⟨_, h2⟩ | h2 <;> omega
      · rcases hQ' i hq with ⟨_, h2⟩ | h2 <;> omega

theorem BuAt.start {X w : World} {x b r : Nat} {S : BS} (h : PlAt (fun g => g < X.heap.size) X w x b r S) : BuAt X w x b r S (.slice none 0 0) [] := by
  obtain ⟨P, Q, hT⟩ := h.two
  refine ⟨⟨P, Q, hT.rekey ?_⟩, h.gX.whole, World.ownsRow_nil _ _ _ _⟩
  rintro g (hg | hg)
  · exact ⟨hT.ltK g hg, fun hp => hT.lowP g hp hg, fun hq => hT.lowQ g hq hg, fun e => hT.lowB (e ▸ hg)⟩
  · cases hg

theorem BuAt.cells {X w : World} {x b r : Nat} {S : BS} {v : Value} {ys : List Int} (h : BuAt X w x b r S v ys) : w.cell? ⟨x, 0, none⟩ = some (.pointer (some ⟨b, 0, none⟩)) := by
  obtain ⟨P, Q, hT⟩ := h.two
  rw [cell_of_row _ _ _ _ _ _ hT.box]; rfl

theorem BuAt.ok {X w : World} {x b r : Nat} {S : BS} {v : Value} {ys : List Int} (h : BuAt X w x b r S v ys) : S.OK := by
  obtain ⟨P, Q, hT⟩ := h.two
  exact hT.ok

theorem BuAt.sizes {X w : World} {x b r : Nat} {S : BS} {v : Value} {ys : List Int} (h : BuAt X w x b r S v ys) : Calls Try.prog 19 #[.pointer (some ⟨b, 0, none⟩)] w fun e w' => e = .returned (.tuple #[.int .i64 S.terms.length, .int .i64 S.nons.length, .int .i64 S.sides.length, .int .i64 S.prods.length]) ∧ BuAt X w' x b r S v ys := by
  obtain ⟨P, Q, hT⟩ := h.two
  refine (sizes_any b { S with P := P } w hT.pb).mono ?_
  rintro e w' ⟨rfl, k, rfl⟩
  exact ⟨rfl, h.kept (grown_drewN w k)⟩

theorem BuAt.grammar {X w : World} {x b r : Nat} {S : BS} {v : Value} {ys : List Int} (h : BuAt X w x b r S v ys) (G : GR) (c : Int) (hG : S.told = (G, c)) : Calls Try.prog 20 #[.pointer (some ⟨b, 0, none⟩)] w fun e w' => ∃ vt vn vl vp, e = .returned (.tuple #[.agg #[vt, vn, vl, .int .i64 G.start, vp], .int .i64 c]) ∧ GramNew w' w.heap.size G vt vn vl vp ∧ w.grownBy w' none := by
  obtain ⟨P, Q, hT⟩ := h.two
  exact grammar_any b { S with P := P } w hT.pb G c hG

theorem ints_oneCell1 (A : Int) : ∀ u ∈ [Value.int .i64 A], u.oneCell' = true := by simp [Value.oneCell']
theorem cell_one1 (w : World) (A : Int) : ∀ j u, [Value.int .i64 A][j]? = some u → (w.alloc (.cells #[.int .i64 A] 3)).cell? ((⟨w.heap.size, 0, none⟩ : Addr).add j) = some u := fun j u h => by
  match j, h with
  | 0, h => cases h; exact cell_of_row _ _ _ _ _ _ (heap_alloc_last w _)

set_option maxRecDepth 100000 in
set_option maxHeartbeats 4000000 in
theorem built_any (a : Option Addr) (n cap : Nat) (O : Nat → OpD) (w : World) (hO : OpsAt w a n O) (hn : n ≤ 17592186044416) :
    Calls Try.prog 5 #[.slice a n cap] w fun e w' => e = .returned (.bool true) ∧ w.grownBy w' none := by
  obtain ⟨i0, hi, hz0, hz1, hz2⟩ := info_parts infoInt
  have HO : Hid (OpsAt w a n O) := hO
  clear hO
  go_enter Try.func5, Try.ntmps5
  go_wp2_with fail
  refine (awake_any _).mono ?_
  rintro e w1 ⟨rfl, hg1⟩
  have HG1 : Hid (w.grownBy w1 none) := hg1
  clear hg1
  go_wp2_with fail
  refine (new_lone w1).mono ?_
  rintro e w2 ⟨rfl, hB2, hg2⟩
  have HB2 := show Hid _ from hB2
  have HG2 := show Hid _ from hg2
  clear hB2 hg2
  go_wp2_with fail
  obtain ⟨w3, hw3⟩ : ∃ w3, w3 = w2.alloc (.cells #[.slice none 0 0, .slice none 0 0, .slice none 0 0, .slice none 0 0, .int .i64 0] 33) := ⟨_, rfl⟩
  obtain ⟨w4, hw4⟩ : ∃ w4, w4 = w3.alloc (.cells #[.pointer (some ⟨w1.heap.size, 0, none⟩), .pointer (some ⟨w2.heap.size, 0, none⟩)] 35) := ⟨_, rfl⟩
  have HP0 := show Hid _ from BuAt.start (PlAt.start HG1.out HB2.out HG2.out hw3 hw4)
  have hz3 : w3.heap.size = w2.heap.size + 1 := by rw [hw3]; simp
  rw [← hw3, ← hw4]
  rw [hz3] at HP0
  clear hw3 hw4 hz3 HB2 HG2 HG1
  generalize w2.heap.size + 1 = x at *
  generalize w1.heap.size = b at *
  generalize w2.heap.size = r at *
  go_loopg [5, 6] n (fun gk v5 i wr => ∃ (k : Nat) (ys : List Int) (la : Option Addr) (lc : Nat), k ≤ n ∧ gk = n - k ∧ i = .int .i64 k ∧ v5 = .slice la ys.length lc ∧ BuAt w wr x b r (plays O k) (.slice la ys.length lc) ys ∧ ys = leftsOf (plays O k))
  case atStart => exact ⟨0, [], none, 0, Nat.zero_le _, rfl, rfl, rfl, HP0.out, rfl⟩
  case round =>
    obtain ⟨k, ys, la, lc, hk, hgk, rfl, rfl, hP, hys⟩ := hrel
    have HP := show Hid _ from hP
    have HGK : Hid (gk = n - k) := hgk
    have HYS : Hid (ys = leftsOf (plays O k)) := hys
    clear hP HP0 hgk hys
    by_cases hlt : k < n
    · obtain ⟨bo, off, rfl, d0, d1, d2, d3, _⟩ := ops_keep HO.out (fun g h => h) ((Frm.refl fun g h => h).kept HP.out.gX) hlt
      have HST := show Hid _ from HP.out.does HO.out hlt
      go_wp2_with fail
      refine Calls.mono HST.out ?_
      rintro e w5 ⟨rfl, hP5⟩
      have HP5 := show Hid _ from hP5
      have HLF := show Hid _ from does_lefts (plays O k) (O k).kind (O k).A (O k).l (O k).s
      have hx5 := hP5.cells
      have HSZ := show Hid _ from hP5.sizes
      have hok := hP5.ok
      obtain ⟨S', hS'⟩ : ∃ S', S' = (plays O k).does (O k).kind (O k).A (O k).l (O k).s := ⟨_, rfl⟩
      have HS' : Hid (plays O (k + 1) = S') := hS'.symm
      rw [← hS'] at HP5 HLF HSZ hok
      have q1 := hok.syms
      have q2 := sides_le hok
      have q3 := hok.prods
      clear hP5 HST d0 d1 d2 d3 hok hS'
      go_wp2_with fail
      refine Calls.mono HSZ.out ?_
      rintro e w6 ⟨rfl, hP6⟩
      have HP6 := show Hid _ from hP6
      clear hP6 HSZ HP5 hx5 HP
      have HPN : Hid ((leftsOf S').length = S'.prods.length) := by show _ = _; simp [leftsOf]
      generalize S'.terms.length = tn at *
      generalize S'.nons.length = nn at *
      generalize S'.sides.length = sn at *
      generalize S'.prods.length = pn at *
      have t1 : decide ((tn : Int) < 0) = false := decide_eq_false (by omega)
      have t2 : decide ((nn : Int) < 0) = false := decide_eq_false (by omega)
      have t3 : decide ((tn : Int) < (sn : Int)) = false := decide_eq_false (by omega)
      have t3' : decide (tn < sn) = false := decide_eq_false (by omega)
      have t4 : decide (64 < (tn : Int) + (nn : Int)) = false := decide_eq_false (by omega)
      have t5 : decide (96 < (pn : Int)) = false := decide_eq_false (by omega)
      go_wp2_with fail
      have HYE : Hid (∀ zs : List Int, zs = ys ∨ zs = leftsOf S' → (zs.length < pn → leftsOf S' = zs ++ [(O k).A]) ∧ (¬ zs.length < pn → zs = leftsOf S')) := by
        intro zs hzs
        have hl := HPN.out
        have hlf := HLF.out
        rw [← HYS.out] at hlf
        rcases hzs with rfl | rfl
        · rcases hlf with h | h
          · exact ⟨fun hh => by rw [h] at hl; omega, fun _ => h.symm⟩
          · exact ⟨fun _ => h, fun hh => by rw [h] at hl; simp at hl; omega⟩
        · exact ⟨fun hh => by omega, fun _ => rfl⟩
      have hyl : ys.length ≤ 96 := by
        have := HLF.out
        rw [← HYS.out] at this
        have hl := HPN.out
        rcases this with h | h
        · rw [h] at hl; omega
        · rw [h] at hl; simp at hl; omega
      go_loopg [5] (pn - ys.length) (fun gx v5 wz => ∃ (zs : List Int) (la' : Option Addr) (lc' : Nat), gx = pn - zs.length ∧ v5 = .slice la' zs.length lc' ∧ BuAt w wz x b r S' (.slice la' zs.length lc') zs ∧ (zs = ys ∨ zs = leftsOf S'))
      case atStart => exact ⟨ys, la, lc, rfl, rfl, HP6.out, .inl rfl⟩
      case round =>
        obtain ⟨zs, la', lc', hgx, rfl, hP7, hzs⟩ := hrel
        have HP7 := show Hid _ from hP7
        have HGX := show Hid _ from hgx
        obtain ⟨hy1, hy2⟩ := HYE.out zs hzs
        have HY1 := show Hid _ from hy1
        have HY2 := show Hid _ from hy2
        have hzl : zs.length ≤ 96 := by
          rcases hzs with h | h
          · rw [h]; exact hyl
          · rw [h, HPN.out]; exact q3
        clear hP7 hgx hy1 hy2 hzs
        obtain ⟨zn, hzn⟩ : ∃ zn, zn = zs.length := ⟨_, rfl⟩
        have HZN : Hid (zs.length = zn) := hzn.symm
        rw [← hzn] at hzl HP7 HGX HY1 HY2 ⊢
        clear hzn
        by_cases hlz : zn < pn
        · obtain ⟨bo', off', e0, d0, d1, d2, d3, _⟩ := ops_keep HO.out (fun g h => h) ((Frm.refl fun g h => h).kept HP7.out.gX) hlt
          simp only [Option.some.injEq, Addr.mk.injEq, and_true] at e0
          obtain ⟨rfl, rfl⟩ := e0
          have HEQ : Hid (leftsOf S' = zs ++ [(O k).A]) := HY1.out hlz
          have HROW : Hid (wr.ownsRow w.heap.size 3 1 (.slice la' zn lc') zn (zs.map (Value.int .i64))) := by
            have := HP7.out.row
            rw [HZN.out] at this
            exact this
          have hsz := HP7.out.gX.size
          clear d0 d2 d3
          go_wp2_with (at_builtin; refine wpList_append_lies _ rfl _ _ 30 rfl w.heap.size 3 i0 (.int .i64 0) 1 8 Try.underlying30 hi hz0 hz1 hz2 rfl (by decide) (.slice la' zn lc') zn (zs.map (Value.int .i64)) rfl (HROW.out.alloc _) ⟨wr.heap.size, 0, none⟩ 1 1 [.int .i64 (O k).A] rfl rfl (cell_one1 _ _) (ints_oneCell1 (O k).A) (by omega) (by unfold maxLen; omega) (by omega) (by simp; omega) _ rfl ?_; intro g4 c4 w7 hown4 hg4 hloc4 hlt4)
          have HP8 : Hid (BuAt w w7 x b r S' (.slice (some ⟨g4, 0, none⟩) (zs ++ [(O k).A]).length c4) (zs ++ [(O k).A])) := by
            show BuAt w w7 x b r S' (.slice (some ⟨g4, 0, none⟩) (zs ++ [(O k).A]).length c4) (zs ++ [(O k).A])
            have h8 := HP7.out
            rw [← HZN.out] at h8 hown4 hg4 hloc4
            have := h8.append (A := (O k).A) (g := g4) (cap := c4) (World.grownBy_alloc wr (.cells #[.int .i64 (O k).A] 3) none) hg4 hown4 hloc4 hlt4
            simpa using this
          clear hown4 hg4 hloc4 hlt4 HROW d1
          go_wp2_with fail
          go_roundg (pn - (zn + 1))
          case measure => have := HGX.out; omega
          case rel => exact ⟨zs ++ [(O k).A], some ⟨g4, 0, none⟩, c4, by simp [HZN.out], by simp [HZN.out], HP8.out, .inr HEQ.out.symm⟩
        · have HEQ : Hid (zs = leftsOf S') := HY2.out hlz
          go_wp2_with fail
          go_roundg (n - (k + 1))
          case measure => have := HGK.out; omega
          case rel => exact ⟨k + 1, zs, la', lc', by omega, rfl, by go_num, by rw [HZN.out], by rw [HS'.out, HZN.out]; exact HP7.out, by rw [HS'.out]; exact HEQ.out⟩
    · have hx5 := HP.out.cells
      have HSZ := show Hid _ from HP.out.sizes
      have hok := HP.out.ok
      have HOK := show Hid _ from hok
      generalize hSe : plays O k = S' at *
      have hq3 := hok.prods
      have hq1 := hok.syms
      have HYL : Hid (ys.length = S'.prods.length) := by show _ = _; rw [HYS.out]; simp [leftsOf]
      clear hok hSe
      go_wp2_with fail
      refine Calls.mono HSZ.out ?_
      rintro e w6 ⟨rfl, hP6⟩
      have HP6 := show Hid _ from hP6
      have hx6 := hP6.cells
      obtain ⟨G, c, hGc⟩ : ∃ G c, S'.told = (G, c) := ⟨_, _, rfl⟩
      have HGR := show Hid _ from hP6.grammar G c hGc
      clear hP6 HSZ hx5 HP
      cases ht : S'.tells with
      | true =>
        rw [told_yes ht] at hGc
        obtain ⟨rfl, rfl⟩ := Prod.mk.inj hGc
        have HV := show Hid _ from told_valid HOK.out ht
        have hTS := told_sizes HOK.out (told_yes ht)
        have eT : S'.gram.terms.length = S'.terms.length + 1 := tms_length S' _
        have eN : S'.gram.nons.length = S'.nons.length := by show ((ordOf S'.prods).map _).length = _; rw [List.length_map, (tells_len HOK.out ht).2]
        have eL : S'.gram.levels.length = S'.sides.length := rfl
        have eP : S'.gram.prods.length = S'.prods.length := by show (S'.prods.map _).length = _; simp
        have HE := show Hid _ from And.intro eT (And.intro eN (And.intro eL eP))
        have HTS := show Hid _ from hTS
        clear hGc hTS eT eN eL eP ht
        go_wp2_with fail
        refine Calls.mono HGR.out ?_
        rintro e w7 ⟨vt, vn, vl, vp, rfl, hN, hg7⟩
        obtain ⟨ta, tc, rfl⟩ := owns_slice hN.terms
        obtain ⟨na, nc, rfl⟩ := owns_slice hN.nons
        obtain ⟨la', lc', rfl⟩ := owns_slice hN.levels
        obtain ⟨pa, pc, rfl⟩ : ∃ pa pc, vp = .slice pa S'.gram.prods.length pc := by obtain ⟨rg, h1, _⟩ := hN.prods; exact owns_slice h1
        obtain ⟨ra, rc, hG⟩ := hN.gat HTS.out.1 HTS.out.2.1 HTS.out.2.2.1 HTS.out.2.2.2.1 HTS.out.2.2.2.2
        have HVC := show Hid (∀ W, w7.grownBy W none → Calls Try.prog 11 _ W _) from fun W hW => valid_any ta na la' pa tc nc lc' pc _ _ _ _ _ _ ra rc _ S'.gram.start W (hG.kept hW) true ⟨fun _ => HV.out, fun _ => rfl⟩
        have HG7 := show Hid _ from (HP6.out.kept hg7).gX
        rw [HE.out.1, HE.out.2.1, HE.out.2.2.1, HE.out.2.2.2] at HVC ⊢
        clear hN hg7 hG HGR HE HTS HV hx6 HP6
        generalize S'.gram.start = st at *
        have hz7 : ∀ o, w7.grownBy (w7.alloc o) none := fun o => World.grownBy_alloc w7 o none
        go_wp2_with fail
        refine Calls.mono (HVC.out _ (hz7 _)) ?_
        rintro e w8 ⟨rfl, hg8⟩
        have hb8 := (hg8.block w7.heap.size (by simp) (by simp)).trans (heap_alloc_last w7 _)
        have m0 := cell_of_row w8 w7.heap.size 0 _ _ _ hb8
        have m1 := cell_of_row w8 w7.heap.size 1 _ _ _ hb8
        have m2 := cell_of_row w8 w7.heap.size 2 _ _ _ hb8
        have m4 := cell_of_row w8 w7.heap.size 4 _ _ _ hb8
        simp at m0 m1 m2 m4
        have HFIN : Hid (w.grownBy w8 none) := grown_trans HG7.out (grown_trans (hz7 _) hg8)
        clear hb8 hg8 HVC
        go_wp2_with fail
        go_ret
        exact ⟨rfl, HFIN.out⟩
      | false =>
        rw [told_no ht] at hGc
        obtain ⟨rfl, rfl⟩ := Prod.mk.inj hGc
        have HNO := show Hid _ from told_none ht
        clear hGc ht
        go_wp2_with fail
        refine Calls.mono HGR.out ?_
        rintro e w7 ⟨vt, vn, vl, vp, rfl, hN, hg7⟩
        obtain ⟨ta, tc, rfl⟩ := owns_slice hN.terms
        obtain ⟨na, nc, rfl⟩ := owns_slice hN.nons
        obtain ⟨la', lc', rfl⟩ := owns_slice hN.levels
        obtain ⟨pa, pc, rfl⟩ : ∃ pa pc, vp = .slice pa GR.none.prods.length pc := by obtain ⟨rg, h1, _⟩ := hN.prods; exact owns_slice h1
        have HP7 := show Hid _ from HP6.out.kept hg7
        have e1 : GR.none.terms.length = 0 := rfl
        have e2 : GR.none.nons.length = 0 := rfl
        have e3 : GR.none.levels.length = 0 := rfl
        have e4 : GR.none.prods.length = 0 := rfl
        have e5 : GR.none.start = 0 := rfl
        rw [e1, e2, e3, e4, e5]
        clear hN hg7 HGR hx6 HP6 e1 e2 e3 e4 e5
        obtain ⟨W, hW⟩ : ∃ W, W = w7.alloc (.cells #[.slice ta 0 tc, .slice na 0 nc, .slice la' 0 lc', .int .i64 0, .slice pa 0 pc] 42) := ⟨_, rfl⟩
        have hgW : w7.grownBy W none := by rw [hW]; exact World.grownBy_alloc w7 _ none
        have hbox : W.heap[w7.heap.size]? = some (.cells #[.slice ta 0 tc, .slice na 0 nc, .slice la' 0 lc', .int .i64 0, .slice pa 0 pc] 42 (0, 0)) := by rw [hW]; exact heap_alloc_last w7 _
        have m4 : W.cell? ⟨w7.heap.size, 4, none⟩ = some (.slice pa 0 pc) := by rw [cell_of_row _ _ _ _ _ _ hbox]; rfl
        have HPW := show Hid _ from HP7.out.kept hgW
        have HW := show Hid _ from hW
        have HROW : Hid (∀ m, m < ys.length → ∃ g, la = some ⟨g, 0, none⟩ ∧ W.cell? ⟨g, m, none⟩ = some (.int .i64 (ys.getD m 0))) := fun m hm => by
          have hr := HPW.out.row
          rcases hr.2 with ⟨_, h0⟩ | ⟨g, cap', cur, hv, _⟩
          · omega
          · simp at hv
            obtain ⟨rfl, rfl⟩ := hv
            refine ⟨g, rfl, owns_cell hr ?_⟩
            simp [List.getD, hm]
        have HFIN : Hid (w.grownBy W none) := HPW.out.gX
        have HNO2 : Hid ((S'.prods.length = 0 ∨ ∃ i : Nat, 1 ≤ i ∧ i < S'.nons.length + 1 ∧ ∀ j, j < ys.length → ys.getD j 0 ≠ -(i : Int))) := by
          rcases HNO.out with h | ⟨i, h1, h2, h3⟩
          · exact .inl h
          · refine .inr ⟨i, h1, by omega, fun j hj => ?_⟩
            have e := HYS.out
            have hj' : j < S'.prods.length := by rw [← HYL.out]; exact hj
            have : ys.getD j 0 = (S'.prods[j]).left := by rw [e]; simp [leftsOf, List.getD, hj']
            rw [this]
            exact h3 _ (List.getElem_mem _)
        have hyl : ys.length ≤ 96 := by rw [HYL.out]; exact hq3
        have hnl : S'.nons.length ≤ 64 := by omega
        clear hW hgW hbox HP7 HPW HNO HYL HYS hq3 hq1
        generalize S'.prods.length = pn at *
        generalize S'.nons.length = nn at *
        generalize S'.terms.length = tn at *
        generalize S'.sides.length = sn at *
        obtain ⟨yn, hyn⟩ : ∃ yn, yn = ys.length := ⟨_, rfl⟩
        have HYN : Hid (ys.length = yn) := hyn.symm
        rw [← hyn] at hyl HROW HNO2 ⊢
        clear hyn
        go_wp2_with fail
        rw [← HW.out]
        generalize w7.heap.size = gb at *
        go_loopg [17, 18] nn (fun gk v17 i wr => ∃ (q : Nat) (sm : Bool), 1 ≤ q ∧ q ≤ nn + 1 ∧ gk = nn + 1 - q ∧ v17 = .bool sm ∧ i = .int .i64 q ∧ (sm = true ↔ (pn = 0 ∨ ∃ i : Nat, 1 ≤ i ∧ i < q ∧ ∀ j, j < yn → ys.getD j 0 ≠ -(i : Int))) ∧ wr = W)
        case atStart => exact ⟨1, _, Nat.le_refl _, by omega, by omega, rfl, rfl, ⟨fun h => .inl (by simpa using h), fun h => by rcases h with h | ⟨i, h1, h2, _⟩; (· simpa using h); (· omega)⟩, rfl⟩
        case round =>
          obtain ⟨q, sm, hq1, hq, hgk, rfl, rfl, hsm, rfl⟩ := hrel
          have HSM := show Hid _ from hsm
          have HGK2 := show Hid _ from hgk
          clear hsm hgk
          by_cases hlq : q < nn + 1
          · have hle : decide ((q : Int) ≤ (nn : Int)) = true := decide_eq_true (by omega)
            have hle' : decide (q ≤ nn) = true := decide_eq_true (by omega)
            go_wp2_with fail
            go_loopg [19, 20] yn (fun gx v19 i wz => ∃ (m : Nat) (is : Bool), m ≤ yn ∧ gx = yn - m ∧ v19 = .bool is ∧ i = .int .i64 m ∧ (is = true ↔ ∃ j, j < m ∧ ys.getD j 0 = -(q : Int)) ∧ wz = wr)
            case atStart => exact ⟨0, false, Nat.zero_le _, rfl, rfl, rfl, ⟨fun h => (by cases h), fun ⟨j, hj, _⟩ => absurd hj (Nat.not_lt_zero j)⟩, rfl⟩
            case round =>
              obtain ⟨m, is, hm, hgx, rfl, rfl, his, rfl⟩ := hrel
              have HIS := show Hid _ from his
              have HGX := show Hid _ from hgx
              clear his hgx
              by_cases hlm : m < yn
              · obtain ⟨g, rfl, hcell⟩ := HROW.out m hlm
                cases is with
                | true =>
                  go_wp2_with fail
                  go_roundg (yn - (m + 1))
                  case measure => have := HGX.out; omega
                  case rel =>
                    refine ⟨m + 1, true, by omega, rfl, rfl, by go_num, ⟨fun _ => ?_, fun _ => rfl⟩, rfl⟩
                    obtain ⟨j, hj, e⟩ := HIS.out.1 (by simp)
                    exact ⟨j, by omega, e⟩
                | false =>
                  have HYV : Hid (∀ z : Int, z = ys.getD m 0 → ((z == -(q : Int)) = true ↔ ∃ j, j < m + 1 ∧ ys.getD j 0 = -(q : Int))) := by
                    intro z hz
                    rw [beq_iff_eq, hz]
                    refine ⟨fun h => ⟨m, by omega, h⟩, fun ⟨j, hj, e⟩ => ?_⟩
                    by_cases hjm : j = m
                    · rw [← hjm]; exact e
                    · have := HIS.out.2 ⟨j, by omega, e⟩
                      cases this
                  obtain ⟨z, hz⟩ : ∃ z, z = ys.getD m 0 := ⟨_, rfl⟩
                  have HZ := show Hid _ from HYV.out z hz
                  rw [← hz] at hcell
                  clear hz HYV
                  go_wp2_with fail
                  go_roundg (yn - (m + 1))
                  case measure => have := HGX.out; omega
                  case rel => exact ⟨m + 1, _, by omega, rfl, rfl, by go_num, HZ.out, rfl⟩
              · obtain rfl : m = yn := by omega
                have HNX : Hid (∀ sm' : Bool, sm' = (sm || !is) → (sm' = true ↔ (pn = 0 ∨ ∃ i : Nat, 1 ≤ i ∧ i < q + 1 ∧ ∀ j, j < m → ys.getD j 0 ≠ -(i : Int)))) := by
                  intro sm' hs
                  rw [hs, Bool.or_eq_true, HSM.out]
                  constructor
                  · rintro ((h | ⟨i, h1, h2, h3⟩) | h)
                    · exact .inl h
                    · exact .inr ⟨i, h1, by omega, h3⟩
                    · refine .inr ⟨q, hq1, by omega, fun j hj e => ?_⟩
                      have := HIS.out.2 ⟨j, hj, e⟩
                      rw [this] at h
                      cases h
                  · rintro (h | ⟨i, h1, h2, h3⟩)
                    · exact .inl (.inl h)
                    · by_cases hiq : i = q
                      · subst hiq
                        right
                        cases hi' : is with
                        | false => rfl
                        | true =>
                          obtain ⟨j, hj, e⟩ := HIS.out.1 hi'
                          exact absurd e (h3 j hj)
                      · exact .inl (.inr ⟨i, h1, by omega, h3⟩)
                cases sm with
                | true =>
                  go_wp2_with fail
                  go_roundg (nn + 1 - (q + 1))
                  case measure => have := HGK2.out; omega
                  case rel => exact ⟨q + 1, true, by omega, by omega, rfl, rfl, by go_num, HNX.out true rfl, rfl⟩
                | false =>
                  go_wp2_with fail
                  go_roundg (nn + 1 - (q + 1))
                  case measure => have := HGK2.out; omega
                  case rel => exact ⟨q + 1, !is, by omega, by omega, rfl, rfl, by go_num, HNX.out _ rfl, rfl⟩
          · have hle : decide ((q : Int) ≤ (nn : Int)) = false := decide_eq_false (by omega)
            have hle' : decide (q ≤ nn) = false := decide_eq_false (by omega)
            obtain rfl : sm = true := HSM.out.2 (by
              rcases HNO2.out with h | ⟨i, h1, h2, h3⟩
              · exact .inl h
              · exact .inr ⟨i, h1, by omega, h3⟩)
            go_wp2_with fail
            go_ret
            exact ⟨rfl, HFIN.out⟩

end Go.Proofs.Ytkbpnafahimeiaa
