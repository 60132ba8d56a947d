/-
  What the builder tells in the end: the grammar that it was made of.
-/
import Derived.Test.YtdlbeffkgdjihaaAgainMath
import Derived.Test.YtdlbeffkgdjihaaSameProd
namespace Go.Proofs.Ytdlbeffkgdjihaa
open Go.RowKit

section
variable {ts : List (ByteArray × Int)} {ns : List ByteArray} {lv : List Int} {st : Int} {n : Nat} {L : Nat → Int} {R : Nat → List Int} {V : Nat → Int}

theorem ord_lefts (h : holdsOK ts ns lv st n L R V) : ∀ k, k ≤ n → ordOf ((List.range k).map (apr ts L R V)) = (leftsTo L k).map fun x : Int => (x - ts.length + 1).toNat
  | 0, _ => by simp [ordOf, leftsTo]
  | k + 1, hk => by
    have ih := ord_lefts h k (by omega)
    have hp := (h.prods k (by omega)).1
    rw [List.range_succ, List.map_append]
    unfold ordOf at ih ⊢
    rw [List.foldl_append, ih, leftsTo_succ]
    have e : (-(apr ts L R V k).left).toNat = (L k - ts.length + 1).toNat := by
      show (-(hdl ts.length (L k))).toNat = _
      rw [hdl_non hp]
      congr 1
      omega
    simp only [List.map_cons, List.map_nil, List.foldl_cons, List.foldl_nil, ordStep, leftStep, e]
    have hm : (L k - ts.length + 1).toNat ∈ (leftsTo L k).map (fun x : Int => (x - ts.length + 1).toNat) ↔ L k ∈ leftsTo L k := by
      constructor
      · intro hm
        obtain ⟨y, hy, ey⟩ := List.mem_map.1 hm
        obtain ⟨j, hj, rfl⟩ := (leftsTo_mem L y k).1 hy
        have hj' := (h.prods j (by omega)).1
        unfold isNonI at hp hj'
        have : L j = L k := by omega
        rw [← this]; exact hy
      · intro hm; exact List.mem_map.2 ⟨_, hm, rfl⟩
    by_cases hin : L k ∈ leftsTo L k
    · rw [if_pos (hm.2 hin), if_pos hin]
    · rw [if_neg (fun x => hin (hm.1 x)), if_neg hin, List.map_append]
      rfl

theorem lefts_are (h : validOK ts ns lv st n L R V) : leftsTo L n = (List.range ns.length).map fun i : Nat => (ts.length : Int) + i := by
  have hl := h.1.lefts
  have ho := (order_iff h.1).1 h.2
  apply List.ext_getElem
  · simp [hl]
  · intro i h1 h2
    have := ho i h1
    have e : (leftsTo L n).getD i 0 = (leftsTo L n)[i] := by simp [List.getD, h1]
    rw [← e, this]
    simp
theorem ord_are (h : validOK ts ns lv st n L R V) : ordOf (AP ts ns lv L R V n).prods = (List.range ns.length).map (· + 1) := by
  show ordOf ((List.range n).map (apr ts L R V)) = _
  rw [ord_lefts h.1 n (Nat.le_refl _), lefts_are h, List.map_map]
  apply List.map_congr_left
  intro i _
  simp only [Function.comp]
  omega
theorem idx_range (m i : Nat) (hi : i < m) : ((List.range m).map (· + 1)).idxOf (i + 1) = i := by
  have hn : ((List.range m).map (· + 1)).Nodup := by
    rw [List.nodup_iff_pairwise_ne, List.pairwise_map]
    exact (List.nodup_range (n := m)).imp (fun h e => h (by omega))
  have hl : i < ((List.range m).map (· + 1)).length := by simpa using hi
  have := hn.idxOf_getElem i hl
  simpa using this

theorem af_sym (h : validOK ts ns lv st n L R V) {x : Int} (hx : isNonI ts.length ns.length 0 x) : (AF ts ns lv L R V n st).sym (x - ts.length + 1).toNat = x := by
  unfold isNonI at hx
  have ho : ordOf (AF ts ns lv L R V n st).prods = (List.range ns.length).map (· + 1) := ord_are h
  have h0 := h.1.terms.names.2.2
  have htl : (AF ts ns lv L R V n st).terms.length = ts.length - 1 := tnames_length
  unfold BS.sym
  rw [ho, htl]
  unfold symOf
  obtain ⟨i, hi⟩ : ∃ i : Nat, x = (ts.length : Int) + i := ⟨(x - ts.length).toNat, by omega⟩
  subst hi
  have e : ((ts.length : Int) + i - ts.length + 1).toNat = i + 1 := by omega
  rw [e, if_pos (List.mem_map.2 ⟨i, List.mem_range.2 (by omega), rfl⟩), idx_range _ _ (by omega)]
  omega
theorem af_sg (h : validOK ts ns lv st n L R V) {x : Int} (hx : isSymI ts.length ns.length 0 x) : sg (AF ts ns lv L R V n st).sym (hdl ts.length x) = x := by
  unfold sg
  by_cases hn : isNonI ts.length ns.length 0 x
  · rw [hdl_non hn]
    have hn' := hn
    unfold isNonI at hn'
    rw [if_pos (by omega), show (-(-(x - ts.length + 1))).toNat = (x - ts.length + 1).toNat by congr 1; omega]
    exact af_sym h hn
  · rcases hx with hx | hx
    · rw [hdl_term hx.2, if_neg (by omega)]
    · exact absurd hx hn

theorem n_pos (h : holdsOK ts ns lv st n L R V) : 0 < n ∧ 0 < ns.length := by
  have h4 := h.start
  unfold isNonI at h4
  have h5 := h.lefts
  have h6 := leftsTo_le L n
  constructor <;> omega
theorem af_tells (h : validOK ts ns lv st n L R V) : 0 < (AF ts ns lv L R V n st).prods.length ∧ (AF ts ns lv L R V n st).nons.length ≤ (ordOf (AF ts ns lv L R V n st).prods).length := by
  have ho : ordOf (AF ts ns lv L R V n st).prods = (List.range ns.length).map (· + 1) := ord_are h
  rw [ho]
  refine ⟨?_, ?_⟩
  · have := (n_pos h.1).1; show 0 < ((List.range n).map (apr ts L R V)).length; simpa using this
  · show ns.length ≤ _; simp

theorem af_terms (h : holdsOK ts ns lv st n L R V) : (AF ts ns lv L R V n st).gram.terms = ts := by
  show (AF ts ns lv L R V n st).tms (tnames ts).length = ts
  have h0 := ((termsOK_idx _ _).1 h.terms).1
  unfold BS.tms
  apply List.ext_getElem?
  intro i
  cases i with
  | zero =>
    have := h0.2
    simp only [List.getElem?_cons_zero]
    rw [List.getElem?_eq_getElem h0.1]
    have e : ts.getD 0 (⟨#[]⟩, 0) = ts[0]'h0.1 := by simp [List.getD, h0.1]
    rw [← e, this]
  | succ j =>
    rw [List.getElem?_cons_succ]
    by_cases hj : j + 1 < ts.length
    · have hj' : j < (tnames ts).length := by rw [tnames_length]; omega
      rw [List.getElem?_map, List.getElem?_range hj', List.getElem?_eq_getElem hj]
      simp only [Option.map_some]
      congr 1
      have e : ts.getD (j + 1) (⟨#[]⟩, 0) = ts[j + 1] := by simp [List.getD, hj]
      rw [← e]
      refine Prod.ext ?_ ?_
      · show (tnames ts).getD j ⟨#[]⟩ = _
        exact tnames_at
      · show levTo ts lv.length (j + 1) = _
        unfold levTo
        rw [if_pos (h.terms.level (j + 1)).2]
    · rw [List.getElem?_eq_none (by simp [tnames_length]; omega), List.getElem?_eq_none (by omega)]
theorem af_nons (h : validOK ts ns lv st n L R V) : (AF ts ns lv L R V n st).gram.nons = ns := by
  have ho : ordOf (AF ts ns lv L R V n st).prods = (List.range ns.length).map (· + 1) := ord_are h
  show (ordOf (AF ts ns lv L R V n st).prods).map (fun i => ns.getD (i - 1) ⟨#[]⟩) = ns
  rw [ho, List.map_map]
  apply List.ext_getElem
  · simp
  · intro i h1 h2
    simp [List.getD, h2]
theorem af_start (h : validOK ts ns lv st n L R V) : (AF ts ns lv L R V n st).gram.start = st := by
  have hs := h.1.start
  have hs' := hs
  unfold isNonI at hs'
  have e : (AF ts ns lv L R V n st).first = -(st - ts.length + 1) := by
    unfold BS.first
    have e1 : (AF ts ns lv L R V n st).start = -(st - ts.length + 1) := hdl_non hs
    rw [e1, if_neg (by omega)]
  show (AF ts ns lv L R V n st).sym (-(AF ts ns lv L R V n st).first).toNat = st
  rw [e, show (-(-(st - ts.length + 1))).toNat = (st - ts.length + 1).toNat by congr 1; omega]
  exact af_sym h hs
theorem af_plen : (AF ts ns lv L R V n st).gram.prods.length = n := by simp [BS.gram, AF, AP]
theorem af_prods (h : validOK ts ns lv st n L R V) {i : Nat} (hi : i < n) : (AF ts ns lv L R V n st).gram.prods.getD i ⟨0, [], 0⟩ = ⟨L i, R i, V i⟩ := by
  have hp := h.1.prods i hi
  have hpl : (AF ts ns lv L R V n st).prods.length = n := by simp [AF, AP]
  rw [gram_prods _ i (by rw [hpl]; exact hi)]
  have e : (AF ts ns lv L R V n st).prods.getD i ⟨0, [], 0⟩ = apr ts L R V i := by
    show ((List.range n).map (apr ts L R V)).getD i ⟨0, [], 0⟩ = _
    simp [List.getD, hi]
  rw [e]
  have e1 : sg (AF ts ns lv L R V n st).sym (hdl ts.length (L i)) = L i := af_sg h (.inr hp.1)
  have e2 : ((R i).map (hdl ts.length)).map (sg (AF ts ns lv L R V n st).sym) = R i := by
    rw [List.map_map]
    conv => rhs; rw [← List.map_id (R i)]
    apply List.map_congr_left
    intro x hx
    exact af_sg h (hp.2.2 x hx)
  show (⟨sg _ (hdl ts.length (L i)), ((R i).map (hdl ts.length)).map (sg _), V i⟩ : PR) = _
  rw [e1, e2]
end

end Go.Proofs.Ytdlbeffkgdjihaa
