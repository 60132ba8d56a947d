/-
  handle and levels of the law GramAgain.
-/
import Derived.Test.YtdlbeffkgdjihaaGradeWalk
import Derived.Test.YtdlbeffkgdjihaaRvLevels
import Derived.Test.YtdlbeffkgdjihaaGrammar
import Derived.Test.YtdlbeffkgdjihaaSameProd
import Derived.Test.YtdlbeffkgdjihaaRvValid
import Derived.Test.YtdlbeffkgdjihaaLevelWalk
namespace Go.Proofs.Ytdlbeffkgdjihaa
open Go.RowKit

section
variable (ts : List (ByteArray × Int)) (ns : List ByteArray) (lv : List Int) (L : Nat → Int) (R : Nat → List Int) (V : Nat → Int)

/-- The terminals' texts, the end marker's not. -/
def tnames : List ByteArray := (ts.map (·.1)).drop 1
/-- A symbol's handle. -/
def hdl (tn : Nat) (x : Int) : Int := if x < tn then x else -(x - tn + 1)
/-- The terminals' levels up to k. -/
def levTo (k : Nat) : Nat → Int := fun j => if (ts.getD j (⟨#[]⟩, 0)).2 ≤ k then (ts.getD j (⟨#[]⟩, 0)).2 else 0
def AT (k : Nat) : BS := { terms := (tnames ts).take k, nons := [], lev := fun _ => 0, sides := [], prods := [], start := 0 }
def AN (k : Nat) : BS := { terms := tnames ts, nons := ns.take k, lev := fun _ => 0, sides := [], prods := [], start := 0 }
def AL (k : Nat) : BS := { terms := tnames ts, nons := ns, lev := levTo ts k, sides := lv.take k, prods := [], start := 0 }
def apr (i : Nat) : PR := ⟨hdl ts.length (L i), (R i).map (hdl ts.length), V i⟩
def AP (k : Nat) : BS := { terms := tnames ts, nons := ns, lev := levTo ts lv.length, sides := lv, prods := (List.range k).map (apr ts L R V), start := 0 }
def AF (n : Nat) (st : Int) : BS := { AP ts ns lv L R V n with start := hdl ts.length st }
end

section
variable {ts : List (ByteArray × Int)} {ns : List ByteArray} {lv : List Int} {st : Int} {n : Nat} {L : Nat → Int} {R : Nat → List Int} {V : Nat → Int}

theorem tnames_length : (tnames ts).length = ts.length - 1 := by simp [tnames]
theorem tnames_at {k : Nat} : (tnames ts).getD k ⟨#[]⟩ = (ts.getD (k + 1) (⟨#[]⟩, 0)).1 := by
  unfold tnames
  by_cases h : k + 1 < ts.length
  · simp [List.getD, h]
  · simp [List.getD, List.getElem?_eq_none (show ts.length ≤ k + 1 by omega)]
theorem take_snoc {α : Type} (d : α) {l : List α} {k : Nat} (h : k < l.length) : l.take (k + 1) = l.take k ++ [l.getD k d] := by
  rw [List.take_succ_eq_append_getElem h]; simp [List.getD, h]
theorem notin_take {l : List ByteArray} (hn : l.Nodup) {k : Nat} (h : k < l.length) : l.getD k ⟨#[]⟩ ∉ l.take k := by
  intro hm
  obtain ⟨j, hj, e⟩ := List.getElem_of_mem hm
  have hj' : j < k := by simp at hj; omega
  refine (nodup_idx ⟨#[]⟩ l).1 hn k j hj' h ?_
  rw [← e]
  simp [List.getD, show j < l.length by omega]

theorem termsOK.names (h : termsOK ts lv.length) : (tnames ts).Nodup ∧ (∀ s ∈ tnames ts, isTextB s = true) ∧ 0 < ts.length := by
  obtain ⟨rest, rfl, h1, h2⟩ := h
  refine ⟨by simpa [tnames] using h2, fun s hs => ?_, by simp⟩
  simp only [tnames, List.map_cons, List.drop_succ_cons, List.drop_zero, List.mem_map] at hs
  obtain ⟨t, ht, rfl⟩ := hs
  exact (h1 t ht).1
theorem getD_mem' {l : List ByteArray} {k : Nat} (h : k < l.length) : l.getD k ⟨#[]⟩ ∈ l := by
  have : l.getD k ⟨#[]⟩ = l[k] := by simp [List.getD, h]
  rw [this]; exact List.getElem_mem _
theorem termsOK.level (h : termsOK ts lv.length) (j : Nat) : 0 ≤ (ts.getD j (⟨#[]⟩, 0)).2 ∧ (ts.getD j (⟨#[]⟩, 0)).2 ≤ lv.length := by
  by_cases hj : j < ts.length
  · obtain ⟨⟨_, h0⟩, h1⟩ := (termsOK_idx _ _).1 h
    by_cases e : j = 0
    · rw [e, h0]; exact ⟨Int.le_refl _, by simp⟩
    · exact (h1 j (by omega) hj).1.2
  · have : ts.getD j (⟨#[]⟩, 0) = (⟨#[]⟩, 0) := by simp [List.getD, List.getElem?_eq_none (show ts.length ≤ j by omega)]
    rw [this]; exact ⟨Int.le_refl _, by simp⟩

theorem numbered_fresh {l : List ByteArray} {s : ByteArray} (h : numOf l s = 0) : numbered false l s = (l.length + 1, 0) := by simp [numbered, h]
theorem at_zero : AT ts 0 = BS.zero := by simp [AT, BS.zero]
theorem at_term (h : holdsOK ts ns lv st n L R V) {k : Nat} (hk : k + 1 < ts.length) : (AT ts k).term (ts.getD (k + 1) (⟨#[]⟩, 0)).1 = ((k : Int) + 1, 0, AT ts (k + 1)) := by
  obtain ⟨h1, h2, h3⟩ := h.terms.names
  have hkl : k < (tnames ts).length := by rw [tnames_length]; omega
  rw [← tnames_at]
  have hs := h2 _ (getD_mem' hkl)
  have hz : numOf (AT ts k).terms ((tnames ts).getD k ⟨#[]⟩) = 0 := numOf_zero (notin_take h1 hkl)
  have hsy := h.syms
  have hl : (AT ts k).terms.length = k := by show ((tnames ts).take k).length = k; rw [List.length_take]; omega
  have hnl : (AT ts k).nons.length = 0 := rfl
  have hf : (AT ts k).full = false := by
    unfold BS.full
    rw [hl, hnl]
    have := tnames_length (ts := ts)
    exact decide_eq_false (by omega)
  have e : (AT ts k).addT ((tnames ts).getD k ⟨#[]⟩) = AT ts (k + 1) := by
    unfold BS.addT AT
    rw [take_snoc ⟨#[]⟩ hkl]
  unfold BS.term
  rw [if_pos hs, hf, numbered_fresh hz, if_pos ⟨hz, rfl⟩, hl, e]
  simp
theorem at_full : AT ts (ts.length - 1) = AN ts ns 0 := by
  unfold AT AN
  rw [List.take_of_length_le (by rw [tnames_length]; omega)]
  simp

theorem an_non (h : holdsOK ts ns lv st n L R V) {k : Nat} (hk : k < ns.length) : (AN ts ns k).non (ns.getD k ⟨#[]⟩) = (-1 - (k : Int), 0, AN ts ns (k + 1)) := by
  obtain ⟨h2, h1⟩ := h.nons
  have hs := h2 _ (getD_mem' hk)
  have hz : numOf (AN ts ns k).nons (ns.getD k ⟨#[]⟩) = 0 := numOf_zero (notin_take h1 hk)
  have hsy := h.syms
  have hl : (AN ts ns k).nons.length = k := by show (ns.take k).length = k; rw [List.length_take]; omega
  have htl : (AN ts ns k).terms.length = ts.length - 1 := tnames_length
  have h3 := h.terms.names.2.2
  have hf : (AN ts ns k).full = false := by
    unfold BS.full
    rw [hl, htl]
    exact decide_eq_false (by omega)
  have e : (AN ts ns k).addN (ns.getD k ⟨#[]⟩) = AN ts ns (k + 1) := by
    unfold BS.addN AN
    rw [take_snoc ⟨#[]⟩ hk]
  unfold BS.non
  rw [if_pos hs, hf, numbered_fresh hz, if_pos ⟨hz, rfl⟩, hl, e]
  simp
  omega
theorem an_full (h : holdsOK ts ns lv st n L R V) : AN ts ns ns.length = AL ts ns lv 0 := by
  unfold AN AL
  rw [List.take_length]
  congr 1
  funext j
  unfold levTo
  have := (h.terms.level j).1
  split
  · simp at *; omega
  · rfl

/-! ### Levels -/
/-- The terminals below m that have level k. -/
def lst (ts : List (ByteArray × Int)) (k : Int) : Nat → List Int
  | 0 => []
  | m + 1 => if 1 ≤ m ∧ (ts.getD m (⟨#[]⟩, 0)).2 = k then lst ts k m ++ [(m : Int)] else lst ts k m
theorem lst_mem (ts : List (ByteArray × Int)) (k x : Int) : ∀ m, x ∈ lst ts k m ↔ ∃ j : Nat, x = (j : Int) ∧ 1 ≤ j ∧ j < m ∧ (ts.getD j (⟨#[]⟩, 0)).2 = k
  | 0 => by simp [lst]
  | m + 1 => by
    unfold lst
    have ih := lst_mem ts k x m
    split
    · next h =>
      rw [List.mem_append, ih, List.mem_singleton]
      constructor
      · rintro (⟨j, e, h1, h2, h3⟩ | e)
        · exact ⟨j, e, h1, by omega, h3⟩
        · exact ⟨m, e, h.1, by omega, h.2⟩
      · rintro ⟨j, e, h1, h2, h3⟩
        by_cases ej : j = m
        · right; rw [e, ej]
        · exact .inl ⟨j, e, h1, by omega, h3⟩
    · next h =>
      rw [ih]
      constructor
      · rintro ⟨j, e, h1, h2, h3⟩; exact ⟨j, e, h1, by omega, h3⟩
      · rintro ⟨j, e, h1, h2, h3⟩
        by_cases ej : j = m
        · exact absurd ⟨by omega, by rw [← ej]; exact h3⟩ h
        · exact ⟨j, e, h1, by omega, h3⟩
theorem lst_nodup (ts : List (ByteArray × Int)) (k : Int) : ∀ m, (lst ts k m).Nodup
  | 0 => by simp [lst]
  | m + 1 => by
    unfold lst
    split
    · refine List.nodup_append.2 ⟨lst_nodup ts k m, by simp, fun a ha b hb => ?_⟩
      obtain ⟨j, rfl, _, hj, _⟩ := (lst_mem ts k a m).1 ha
      rw [List.mem_singleton.1 hb]
      omega
    · exact lst_nodup ts k m
theorem lst_le (ts : List (ByteArray × Int)) (k : Int) : ∀ m, (lst ts k m).length ≤ m
  | 0 => by simp [lst]
  | m + 1 => by
    have := lst_le ts k m
    unfold lst
    split
    · simp; omega
    · omega

theorem levGo_all {S : BS} {K : Int} : ∀ (l : List Int) (lev : Nat → Int), l.Nodup → (∀ h ∈ l, S.isT h = true ∧ lev h.toNat = 0) → levGo S K lev l = some fun j : Nat => if (j : Int) ∈ l then K else lev j
  | [], lev, _, _ => by simp [levGo]
  | a :: r, lev, hn, h => by
    rw [List.nodup_cons] at hn
    obtain ⟨h1, h2⟩ := h a (by simp)
    have ha := isT_iff.1 h1
    unfold levGo
    rw [if_pos ⟨h1, h2⟩, levGo_all r _ hn.2 (fun x hx => by
      obtain ⟨q1, q2⟩ := h x (by simp [hx])
      have hx' := isT_iff.1 q1
      refine ⟨q1, ?_⟩
      have hne : x.toNat ≠ a.toNat := fun e => hn.1 (by have : x = a := by omega
                                                        rw [← this]; exact hx)
      simp [updL, hne, q2])]
    congr 1
    funext j
    by_cases hj : (j : Int) ∈ r
    · simp [hj]
    · by_cases ej : (j : Int) = a
      · have : j = a.toNat := by omega
        rw [if_neg hj, if_pos (by simp [ej])]
        simp [updL, this]
      · have : j ≠ a.toNat := by omega
        rw [if_neg hj, if_neg (by simp [ej, hj])]
        simp [updL, this]

theorem al_level (h : holdsOK ts ns lv st n L R V) {k : Nat} (hk : k < lv.length) : (AL ts ns lv k).level (lv.getD k 0) (lst ts ((k : Int) + 1) ts.length) = ((k : Int) + 1, 0, AL ts ns lv (k + 1)) := by
  obtain ⟨hs, t, ht, e⟩ := h.levels k hk
  have hne : lst ts ((k : Int) + 1) ts.length ≠ [] := by
    obtain ⟨j, hj, rfl⟩ := List.getElem_of_mem ht
    have h0 := (termsOK_idx _ _).1 h.terms
    have ej : ts.getD j (⟨#[]⟩, 0) = ts[j] := by simp [List.getD, hj]
    have hj1 : 1 ≤ j := by
      by_cases e0 : j = 0
      · have hz : ts.getD 0 (⟨#[]⟩, 0) = (⟨#[]⟩, 0) := h0.1.2
        rw [← ej, e0, hz] at e
        have e' : (0 : Int) = (k : Int) + 1 := e
        omega
      · omega
    have : (j : Int) ∈ lst ts ((k : Int) + 1) ts.length := (lst_mem _ _ _ _).2 ⟨j, rfl, hj1, hj, by rw [ej]; exact e⟩
    intro hh
    rw [hh] at this
    simp at this
  have hsl : (AL ts ns lv k).sides.length = k := by show (lv.take k).length = k; rw [List.length_take]; omega
  have hgo := levGo_all (S := AL ts ns lv k) (K := (k : Int) + 1) (lst ts ((k : Int) + 1) ts.length) (AL ts ns lv k).lev (lst_nodup _ _ _) (fun x hx => by
    obtain ⟨j, rfl, h1, h2, h3⟩ := (lst_mem _ _ _ _).1 hx
    refine ⟨isT_iff.2 ⟨by omega, ?_⟩, ?_⟩
    · show (j : Int) ≤ ((tnames ts).length : Int); rw [tnames_length]; omega
    · show levTo ts k _ = 0
      unfold levTo
      have : (j : Int).toNat = j := by omega
      rw [this, h3, if_neg (by omega)])
  unfold BS.level
  rw [if_pos ⟨hs, hne⟩, hsl, hgo]
  simp only
  congr 2
  unfold BS.addL AL
  congr 1
  · funext j
    show (if (j : Int) ∈ lst ts ((k : Int) + 1) ts.length then (k : Int) + 1 else levTo ts k j) = levTo ts (k + 1) j
    unfold levTo
    by_cases hj : (j : Int) ∈ lst ts ((k : Int) + 1) ts.length
    · obtain ⟨j', e1, h1, h2, h3⟩ := (lst_mem _ _ _ _).1 hj
      have : j' = j := by omega
      subst this
      rw [if_pos hj, h3, if_pos (by omega)]
    · rw [if_neg hj]
      by_cases hjl : j < ts.length ∧ 1 ≤ j
      · have hne2 : (ts.getD j (⟨#[]⟩, 0)).2 ≠ (k : Int) + 1 := fun e => hj ((lst_mem _ _ _ _).2 ⟨j, rfl, hjl.2, hjl.1, e⟩)
        by_cases hle : (ts.getD j (⟨#[]⟩, 0)).2 ≤ k
        · rw [if_pos hle, if_pos (by omega)]
        · rw [if_neg hle, if_neg (by omega)]
      · have hz : (ts.getD j (⟨#[]⟩, 0)).2 = 0 := by
          by_cases e0 : j = 0
          · rw [e0]
            have := ((termsOK_idx _ _).1 h.terms).1.2
            rw [this]
          · simp [List.getD, List.getElem?_eq_none (show ts.length ≤ j by omega)]
        rw [hz, if_pos (by omega), if_pos (by omega)]
  · show lv.take k ++ [lv.getD k 0] = lv.take (k + 1)
    exact (take_snoc 0 hk).symm
theorem al_full : AL ts ns lv lv.length = AP ts ns lv L R V 0 := by
  unfold AL AP
  rw [List.take_length]
  simp

/-! ### Productions -/
theorem hdl_non {x : Int} (h : isNonI ts.length ns.length 0 x) : hdl ts.length x = -(x - ts.length + 1) := by
  unfold isNonI at h
  unfold hdl
  rw [if_neg (by omega)]
theorem hdl_term {x : Int} (h : x < ts.length) : hdl ts.length x = x := by unfold hdl; rw [if_pos h]
theorem hdl_isN {S : BS} (hS : S.nons.length = ns.length) {x : Int} (h : isNonI ts.length ns.length 0 x) : S.isN (hdl ts.length x) = true := by
  rw [hdl_non h]
  unfold isNonI at h
  simp only [BS.isN, hS, Bool.and_eq_true, decide_eq_true_eq]
  omega
theorem hdl_good {S : BS} (hS : S.nons.length = ns.length) (hT : S.terms.length = ts.length - 1) {x : Int} (h : isSymI ts.length ns.length 0 x) : (S.isT (hdl ts.length x) || S.isN (hdl ts.length x)) = true := by
  rcases h with h | h
  · have : S.isT (hdl ts.length x) = true := by
      rw [hdl_term h.2]
      simp only [BS.isT, hT, Bool.and_eq_true, decide_eq_true_eq]
      omega
    rw [this]; rfl
  · rw [hdl_isN hS h]; simp

theorem ap_rule (h : holdsOK ts ns lv st n L R V) {k : Nat} (hk : k < n) : ∃ S', (AP ts ns lv L R V k).rule (hdl ts.length (L k)) ((R k).map (hdl ts.length)) = ((k : Int), 0, S') ∧ S'.grade (V k) [(k : Int)] = (0, AP ts ns lv L R V (k + 1)) := by
  have hp := h.prods k hk
  have hc := h.cnt
  have hpl : (AP ts ns lv L R V k).prods.length = k := by simp [AP]
  have hg : (AP ts ns lv L R V k).good ((R k).map (hdl ts.length)) = true := by
    unfold BS.good
    rw [List.all_eq_true]
    intro y hy
    obtain ⟨x, hx, rfl⟩ := List.mem_map.1 hy
    exact hdl_good rfl tnames_length (hp.2.2 x hx)
  refine ⟨(AP ts ns lv L R V k).addP ⟨hdl ts.length (L k), (R k).map (hdl ts.length), (AP ts ns lv L R V k).levOf ((R k).map (hdl ts.length))⟩, ?_, ?_⟩
  · unfold BS.rule
    rw [if_pos ⟨hdl_isN rfl hp.1, hg⟩, hpl, if_neg (by omega)]
  · unfold BS.grade
    have hsl : ((AP ts ns lv L R V k).addP ⟨hdl ts.length (L k), (R k).map (hdl ts.length), (AP ts ns lv L R V k).levOf ((R k).map (hdl ts.length))⟩).sides.length = lv.length := rfl
    rw [hsl, if_pos hp.2.1]
    have hlen : ((AP ts ns lv L R V k).addP ⟨hdl ts.length (L k), (R k).map (hdl ts.length), (AP ts ns lv L R V k).levOf ((R k).map (hdl ts.length))⟩).prods.length = k + 1 := by simp [BS.addP, AP]
    unfold gradeGo
    rw [hlen, if_pos (by omega)]
    unfold gradeGo
    simp only
    congr 1
    unfold BS.addP AP
    simp only
    congr 1
    rw [List.range_succ, List.map_append]
    have e : (k : Int).toNat = k := by omega
    rw [e]
    unfold setLev
    have hl2 : ((List.range k).map (apr ts L R V)).length = k := by simp
    rw [List.set_append_right _ _ (by rw [hl2]; exact Nat.le_refl _), hl2, Nat.sub_self]
    congr 1
    simp [List.getD, hl2, apr]

end

end Go.Proofs.Ytdlbeffkgdjihaa

namespace Go.Proofs.Ytdlbeffkgdjihaa
open Go.RowKit

section
variable {ts : List (ByteArray × Int)} {ns : List ByteArray} {lv : List Int} {st : Int} {n : Nat} {L : Nat → Int} {R : Nat → List Int} {V : Nat → Int}

theorem ord_lefts (h : holdsOK ts ns lv st n L R V) : ∀ k, k ≤ n → ordOf ((List.range k).map (apr ts L R V)) = (leftsTo L k).map fun x : Int => (x - ts.length + 1).toNat
  | 0, _ => by simp [ordOf, leftsTo]
  | k + 1, hk => by
    have ih := ord_lefts h k (by omega)
    have hp := (h.prods k (by omega)).1
    rw [List.range_succ, List.map_append]
    unfold ordOf at ih ⊢
    rw [List.foldl_append, ih, leftsTo_succ]
    have e : (-(apr ts L R V k).left).toNat = (L k - ts.length + 1).toNat := by
      show (-(hdl ts.length (L k))).toNat = _
      rw [hdl_non hp]
      congr 1
      omega
    simp only [List.map_cons, List.map_nil, List.foldl_cons, List.foldl_nil, ordStep, leftStep, e]
    have hm : (L k - ts.length + 1).toNat ∈ (leftsTo L k).map (fun x : Int => (x - ts.length + 1).toNat) ↔ L k ∈ leftsTo L k := by
      constructor
      · intro hm
        obtain ⟨y, hy, ey⟩ := List.mem_map.1 hm
        obtain ⟨j, hj, rfl⟩ := (leftsTo_mem L y k).1 hy
        have hj' := (h.prods j (by omega)).1
        unfold isNonI at hp hj'
        have : L j = L k := by omega
        rw [← this]; exact hy
      · intro hm; exact List.mem_map.2 ⟨_, hm, rfl⟩
    by_cases hin : L k ∈ leftsTo L k
    · rw [if_pos (hm.2 hin), if_pos hin]
    · rw [if_neg (fun x => hin (hm.1 x)), if_neg hin, List.map_append]
      rfl

theorem lefts_are (h : validOK ts ns lv st n L R V) : leftsTo L n = (List.range ns.length).map fun i : Nat => (ts.length : Int) + i := by
  have hl := h.1.lefts
  have ho := (order_iff h.1).1 h.2
  apply List.ext_getElem
  · simp [hl]
  · intro i h1 h2
    have := ho i h1
    have e : (leftsTo L n).getD i 0 = (leftsTo L n)[i] := by simp [List.getD, h1]
    rw [← e, this]
    simp
theorem ord_are (h : validOK ts ns lv st n L R V) : ordOf (AP ts ns lv L R V n).prods = (List.range ns.length).map (· + 1) := by
  show ordOf ((List.range n).map (apr ts L R V)) = _
  rw [ord_lefts h.1 n (Nat.le_refl _), lefts_are h, List.map_map]
  apply List.map_congr_left
  intro i _
  simp only [Function.comp]
  omega
theorem idx_range (m i : Nat) (hi : i < m) : ((List.range m).map (· + 1)).idxOf (i + 1) = i := by
  have hn : ((List.range m).map (· + 1)).Nodup := by
    rw [List.nodup_iff_pairwise_ne, List.pairwise_map]
    exact (List.nodup_range (n := m)).imp (fun h e => h (by omega))
  have hl : i < ((List.range m).map (· + 1)).length := by simpa using hi
  have := hn.idxOf_getElem i hl
  simpa using this

theorem af_sym (h : validOK ts ns lv st n L R V) {x : Int} (hx : isNonI ts.length ns.length 0 x) : (AF ts ns lv L R V n st).sym (x - ts.length + 1).toNat = x := by
  unfold isNonI at hx
  have ho : ordOf (AF ts ns lv L R V n st).prods = (List.range ns.length).map (· + 1) := ord_are h
  have h0 := h.1.terms.names.2.2
  have htl : (AF ts ns lv L R V n st).terms.length = ts.length - 1 := tnames_length
  unfold BS.sym
  rw [ho, htl]
  unfold symOf
  obtain ⟨i, hi⟩ : ∃ i : Nat, x = (ts.length : Int) + i := ⟨(x - ts.length).toNat, by omega⟩
  subst hi
  have e : ((ts.length : Int) + i - ts.length + 1).toNat = i + 1 := by omega
  rw [e, if_pos (List.mem_map.2 ⟨i, List.mem_range.2 (by omega), rfl⟩), idx_range _ _ (by omega)]
  omega
theorem af_sg (h : validOK ts ns lv st n L R V) {x : Int} (hx : isSymI ts.length ns.length 0 x) : sg (AF ts ns lv L R V n st).sym (hdl ts.length x) = x := by
  unfold sg
  by_cases hn : isNonI ts.length ns.length 0 x
  · rw [hdl_non hn]
    have hn' := hn
    unfold isNonI at hn'
    rw [if_pos (by omega), show (-(-(x - ts.length + 1))).toNat = (x - ts.length + 1).toNat by congr 1; omega]
    exact af_sym h hn
  · rcases hx with hx | hx
    · rw [hdl_term hx.2, if_neg (by omega)]
    · exact absurd hx hn

theorem n_pos (h : holdsOK ts ns lv st n L R V) : 0 < n ∧ 0 < ns.length := by
  have h4 := h.start
  unfold isNonI at h4
  have h5 := h.lefts
  have h6 := leftsTo_le L n
  constructor <;> omega
theorem af_tells (h : validOK ts ns lv st n L R V) : 0 < (AF ts ns lv L R V n st).prods.length ∧ (AF ts ns lv L R V n st).nons.length ≤ (ordOf (AF ts ns lv L R V n st).prods).length := by
  have ho : ordOf (AF ts ns lv L R V n st).prods = (List.range ns.length).map (· + 1) := ord_are h
  rw [ho]
  refine ⟨?_, ?_⟩
  · have := (n_pos h.1).1; show 0 < ((List.range n).map (apr ts L R V)).length; simpa using this
  · show ns.length ≤ _; simp

theorem af_terms (h : holdsOK ts ns lv st n L R V) : (AF ts ns lv L R V n st).gram.terms = ts := by
  show (AF ts ns lv L R V n st).tms (tnames ts).length = ts
  have h0 := ((termsOK_idx _ _).1 h.terms).1
  unfold BS.tms
  apply List.ext_getElem?
  intro i
  cases i with
  | zero =>
    have := h0.2
    simp only [List.getElem?_cons_zero]
    rw [List.getElem?_eq_getElem h0.1]
    have e : ts.getD 0 (⟨#[]⟩, 0) = ts[0]'h0.1 := by simp [List.getD, h0.1]
    rw [← e, this]
  | succ j =>
    rw [List.getElem?_cons_succ]
    by_cases hj : j + 1 < ts.length
    · have hj' : j < (tnames ts).length := by rw [tnames_length]; omega
      rw [List.getElem?_map, List.getElem?_range hj', List.getElem?_eq_getElem hj]
      simp only [Option.map_some]
      congr 1
      have e : ts.getD (j + 1) (⟨#[]⟩, 0) = ts[j + 1] := by simp [List.getD, hj]
      rw [← e]
      refine Prod.ext ?_ ?_
      · show (tnames ts).getD j ⟨#[]⟩ = _
        exact tnames_at
      · show levTo ts lv.length (j + 1) = _
        unfold levTo
        rw [if_pos (h.terms.level (j + 1)).2]
    · rw [List.getElem?_eq_none (by simp [tnames_length]; omega), List.getElem?_eq_none (by omega)]
theorem af_nons (h : validOK ts ns lv st n L R V) : (AF ts ns lv L R V n st).gram.nons = ns := by
  have ho : ordOf (AF ts ns lv L R V n st).prods = (List.range ns.length).map (· + 1) := ord_are h
  show (ordOf (AF ts ns lv L R V n st).prods).map (fun i => ns.getD (i - 1) ⟨#[]⟩) = ns
  rw [ho, List.map_map]
  apply List.ext_getElem
  · simp
  · intro i h1 h2
    simp [List.getD, h2]
theorem af_start (h : validOK ts ns lv st n L R V) : (AF ts ns lv L R V n st).gram.start = st := by
  have hs := h.1.start
  have hs' := hs
  unfold isNonI at hs'
  have e : (AF ts ns lv L R V n st).first = -(st - ts.length + 1) := by
    unfold BS.first
    have e1 : (AF ts ns lv L R V n st).start = -(st - ts.length + 1) := hdl_non hs
    rw [e1, if_neg (by omega)]
  show (AF ts ns lv L R V n st).sym (-(AF ts ns lv L R V n st).first).toNat = st
  rw [e, show (-(-(st - ts.length + 1))).toNat = (st - ts.length + 1).toNat by congr 1; omega]
  exact af_sym h hs
theorem af_plen : (AF ts ns lv L R V n st).gram.prods.length = n := by simp [BS.gram, AF, AP]
theorem af_prods (h : validOK ts ns lv st n L R V) {i : Nat} (hi : i < n) : (AF ts ns lv L R V n st).gram.prods.getD i ⟨0, [], 0⟩ = ⟨L i, R i, V i⟩ := by
  have hp := h.1.prods i hi
  have hpl : (AF ts ns lv L R V n st).prods.length = n := by simp [AF, AP]
  rw [gram_prods _ i (by rw [hpl]; exact hi)]
  have e : (AF ts ns lv L R V n st).prods.getD i ⟨0, [], 0⟩ = apr ts L R V i := by
    show ((List.range n).map (apr ts L R V)).getD i ⟨0, [], 0⟩ = _
    simp [List.getD, hi]
  rw [e]
  have e1 : sg (AF ts ns lv L R V n st).sym (hdl ts.length (L i)) = L i := af_sg h (.inr hp.1)
  have e2 : ((R i).map (hdl ts.length)).map (sg (AF ts ns lv L R V n st).sym) = R i := by
    rw [List.map_map]
    conv => rhs; rw [← List.map_id (R i)]
    apply List.map_congr_left
    intro x hx
    exact af_sg h (hp.2.2 x hx)
  show (⟨sg _ (hdl ts.length (L i)), ((R i).map (hdl ts.length)).map (sg _), V i⟩ : PR) = _
  rw [e1, e2]
end

end Go.Proofs.Ytdlbeffkgdjihaa

namespace Go.Proofs.Ytdlbeffkgdjihaa
open Go.RowKit

attribute [local go_sem] Oper.semAt_some

theorem handle_any (ta na la pa : Option Addr) (tn nn ln pn tc nc lc pc : Nat) (st x : Int) (w : World) (ht : tn ≤ 65) (hx : 0 ≤ x ∧ x ≤ 1000) :
    Calls Try.prog 23 #[.agg #[.slice ta tn tc, .slice na nn nc, .slice la ln lc, .int .i64 st, .slice pa pn pc], .int .i64 x] w fun e w' => e = .returned (.int .i64 (hdl tn x)) ∧ w.grownBy w' none := by
  by_cases h : x < (tn : Int)
  · have e : hdl tn x = x := by unfold hdl; rw [if_pos h]
    rw [e]
    have d1 : decide (x < (tn : Int)) = true := decide_eq_true h
    clear e h
    go_enter Try.func23, Try.ntmps23
    go_wp2_with fail
    go_ret
    exact ⟨rfl, World.grownBy_alloc _ _ none⟩
  · have e : hdl tn x = -(x - tn + 1) := by unfold hdl; rw [if_neg h]
    rw [e]
    have d1 : decide (x < (tn : Int)) = false := decide_eq_false h
    have h' : (tn : Int) ≤ x := by omega
    clear e h
    go_enter Try.func23, Try.ntmps23
    go_wp2_with fail
    go_ret
    exact ⟨by first | rfl | go_num, World.grownBy_alloc _ _ none⟩

/-- A box of the grammar at B, the builder at X.heap.size, and all that there was in X. -/
structure LvAt (X wr : World) (B : Nat) (cs : Array Value) (S : BS) : Prop where
  grown : X.grownBy wr none
  box : wr.heap[B]? = some (.cells cs 42 (0, 0))
  ne : B ≠ X.heap.size
  bat : BAt wr X.heap.size S
theorem LvAt.kept {X wr wx : World} {B : Nat} {cs : Array Value} {S : BS} (h : LvAt X wr B cs S) (hg : wr.grownBy wx none) : LvAt X wx B cs S :=
  ⟨grown_trans h.grown hg, (hg.block B (Array.getElem?_eq_some_iff.1 h.box).1 (by simp)).trans h.box, h.ne, h.bat.kept hg⟩
theorem LvAt.step {X wr wx : World} {B : Nat} {cs : Array Value} {S S' : BS} (h : LvAt X wr B cs S) (hg : wr.grownBy wx (some X.heap.size)) (hb : BAt wx X.heap.size S') : LvAt X wx B cs S' :=
  ⟨grown_new h.grown hg (Nat.le_refl _), (hg.block B (Array.getElem?_eq_some_iff.1 h.box).1 (by simp [h.ne])).trans h.box, h.ne, hb⟩
theorem LvAt.cells {X wr : World} {B : Nat} {S : BS} {v0 v1 v2 v3 v4 : Value} (h : LvAt X wr B #[v0, v1, v2, v3, v4] S) : wr.cell? ⟨B, 0, none⟩ = some v0 ∧ wr.cell? ⟨B, 1, none⟩ = some v1 ∧ wr.cell? ⟨B, 2, none⟩ = some v2 ∧ wr.cell? ⟨B, 3, none⟩ = some v3 ∧ wr.cell? ⟨B, 4, none⟩ = some v4 := by
  refine ⟨?_, ?_, ?_, ?_, ?_⟩ <;> rw [cell_of_row _ _ _ _ _ _ h.box] <;> rfl

set_option maxRecDepth 100000 in
set_option maxHeartbeats 4000000 in
theorem levels_any (ta na la pa : Option Addr) (tn nn ln pn tc nc lc pc : Nat) (st : Int) (ts : List (ByteArray × Int)) (ns : List ByteArray) (lv : List Int) (n : Nat) (L : Nat → Int) (R : Nat → List Int) (V : Nat → Int) (X W : World)
    (hT : TermsAt X ta ts) (hL : IntsAt X la lv) (htn : ts.length = tn) (hln : lv.length = ln) (hn : tn ≤ 65) (hb : ln ≤ 64) (hH : holdsOK ts ns lv st n L R V) (hg : X.grownBy W none) (hB : BAt W X.heap.size (AL ts ns lv 0)) :
    Calls Try.prog 22 #[.pointer (some ⟨X.heap.size, 0, none⟩), .agg #[.slice ta tn tc, .slice na nn nc, .slice la ln lc, .int .i64 st, .slice pa pn pc]] W fun e w' => e = .returned (.bool true) ∧ X.grownBy w' none ∧ BAt w' X.heap.size (AL ts ns lv ln) := by
  obtain ⟨i0, hi, hz0, hz1, hz2⟩ := info_parts infoInt
  have HT : Hid (TermsAt X ta ts) := hT
  have HL : Hid (IntsAt X la lv) := hL
  have HTN : Hid (ts.length = tn) := htn
  have HLN : Hid (lv.length = ln) := hln
  have HH : Hid (holdsOK ts ns lv st n L R V) := hH
  have hlt0 := hB.lt
  have HX0 : Hid (LvAt X (W.alloc (.cells #[.slice ta tn tc, .slice na nn nc, .slice la ln lc, .int .i64 st, .slice pa pn pc] 42)) W.heap.size #[.slice ta tn tc, .slice na nn nc, .slice la ln lc, .int .i64 st, .slice pa pn pc] (AL ts ns lv 0)) := ⟨grown_trans hg (World.grownBy_alloc _ _ none), heap_alloc_last W _, by omega, hB.kept (World.grownBy_alloc _ _ none)⟩
  clear hT hL htn hln hH hg hB
  go_enter Try.func22, Try.ntmps22
  go_wp2_with fail
  generalize W.heap.size = B at *
  go_loopg [5] ln (fun gk i wr => ∃ k : Nat, k ≤ ln ∧ gk = ln - k ∧ i = .int .i64 k ∧ LvAt X wr B #[.slice ta tn tc, .slice na nn nc, .slice la ln lc, .int .i64 st, .slice pa pn pc] (AL ts ns lv k))
  case atStart => exact ⟨0, Nat.zero_le _, rfl, rfl, HX0.out⟩
  case round =>
    obtain ⟨k, hk, hgk, rfl, hX⟩ := hrel
    have HX : Hid (LvAt X wr B #[.slice ta tn tc, .slice na nn nc, .slice la ln lc, .int .i64 st, .slice pa pn pc] (AL ts ns lv k)) := hX
    have HGK : Hid (gk = ln - k) := hgk
    clear hX hgk HX0
    obtain ⟨m0, m1, m2, m3, m4⟩ := HX.out.cells
    by_cases hlt : k < ln
    · have HLS : Hid ((AL ts ns lv k).level (lv.getD k 0) (lst ts ((k : Int) + 1) ts.length) = ((k : Int) + 1, 0, AL ts ns lv (k + 1))) := al_level HH.out (by rw [HLN.out]; exact hlt)
      go_wp2_with fail
      clear m0 m1 m2 m3 m4
      generalize wr = Y at *
      have HT0 : Hid (0 < tn) := by have := HH.out.terms.names.2.2; rw [HTN.out] at this; exact this
      go_loopg [6, 7] (tn - 1) (fun gx v6 i wz => ∃ x : Nat, 1 ≤ x ∧ x ≤ tn ∧ gx = tn - x ∧ i = .int .i64 x ∧ ∃ a' c', v6 = .slice a' (lst ts ((k : Int) + 1) x).length c' ∧ Y.grownBy wz none ∧ wz.ownsRow Y.heap.size 3 1 (.slice a' (lst ts ((k : Int) + 1) x).length c') (lst ts ((k : Int) + 1) x).length ((lst ts ((k : Int) + 1) x).map (Value.int .i64)))
      case atStart => exact ⟨1, Nat.le_refl _, HT0.out, rfl, rfl, none, 0, rfl, grown_refl _ _, World.ownsRow_nil _ _ _ _⟩
      case round =>
        obtain ⟨x, hx1, hx, hgx, rfl, a3, c3, rfl, hg, hown⟩ := hrel
        have HG : Hid (Y.grownBy wr none) := hg
        have HO : Hid (wr.ownsRow Y.heap.size 3 1 (.slice a3 (lst ts ((k : Int) + 1) x).length c3) (lst ts ((k : Int) + 1) x).length ((lst ts ((k : Int) + 1) x).map (Value.int .i64))) := hown
        have HX2 : Hid (LvAt X wr B #[.slice ta tn tc, .slice na nn nc, .slice la ln lc, .int .i64 st, .slice pa pn pc] (AL ts ns lv k)) := HX.out.kept hg
        have HGX : Hid (gk = tn - x) := hgx
        have hll := lst_le ts ((k : Int) + 1) x
        clear hg hown hgx
        obtain ⟨m0, m1, m2, m3, m4⟩ := HX2.out.cells
        by_cases hlx : x < tn
        · obtain ⟨bt, off, rfl, hcs⟩ : ∃ b off, ta = some ⟨b, off, none⟩ ∧ ∀ i, i < ts.length → wr.cell? ⟨b, off + i * 2, none⟩ = some (.string (ts.getD i (⟨#[]⟩, 0)).1) ∧ wr.cell? ⟨b, off + i * 2 + 1, none⟩ = some (.int .i64 (ts.getD i (⟨#[]⟩, 0)).2) := by
            rcases HT.out.kept HX2.out.grown with h | h
            · have := HTN.out; rw [h] at this; simp at this; omega
            · exact h
          have c1 := (hcs x (by rw [HTN.out]; exact hlx)).2
          have HST : Hid (lst ts ((k : Int) + 1) (x + 1) = if 1 ≤ x ∧ (ts.getD x (⟨#[]⟩, 0)).2 = (k : Int) + 1 then lst ts ((k : Int) + 1) x ++ [(x : Int)] else lst ts ((k : Int) + 1) x) := rfl
          have hsz2 := HG.out.size
          clear hcs
          generalize (ts.getD x (⟨#[]⟩, 0)).2 = l at *
          generalize lst ts ((k : Int) + 1) x = out at *
          obtain ⟨on, hon⟩ : ∃ on, on = out.length := ⟨_, rfl⟩
          have HON : Hid (out.length = on) := hon.symm
          rw [← hon] at hll HO ⊢
          clear hon
          by_cases he : l = (k : Int) + 1
          · have d1 : (l == (k : Int) + 1) = true := beq_iff_eq.2 he
            have HS2 : Hid (lst ts ((k : Int) + 1) (x + 1) = out ++ [(x : Int)]) := by show _ = _; rw [HST.out, if_pos ⟨hx1, he⟩]
            clear he HST
            go_wp2_with (at_builtin; refine wpList_append_lies _ rfl _ _ 30 rfl Y.heap.size 3 i0 (.int .i64 0) 1 8 Try.underlying30 hi hz0 hz1 hz2 rfl (by decide) (.slice a3 on c3) on (out.map (Value.int .i64)) rfl (HO.out.alloc _) ⟨wr.heap.size, 0, none⟩ 1 1 [.int .i64 x] rfl rfl (cell_one_new _ _ _) (ints_oneCell' [(x : Int)]) (by omega) (by unfold maxLen; omega) (by omega) (by simp; omega) _ rfl ?_; intro g4 c4 w4 hown4 hg4 hloc4 hlt4)
            have HFIN : Hid (w4.ownsRow Y.heap.size 3 1 (.slice (some ⟨g4, 0, none⟩) (out ++ [(x : Int)]).length c4) (out ++ [(x : Int)]).length ((out ++ [(x : Int)]).map (Value.int .i64)) ∧ Y.grownBy w4 none) := by
              refine ⟨by simpa [HON.out] using hown4, ?_⟩
              have hA := grown_trans HG.out (World.grownBy_alloc wr (.cells #[.int .i64 x] 3) none)
              cases hv : (Value.slice a3 on c3).ownBlock with
              | none => rw [hv] at hg4; exact grown_trans hA hg4
              | some q => rw [hv] at hg4; exact grown_new hA hg4 (HO.out.lt q hv).1
            clear hown4 hg4 hloc4 hlt4
            go_wp2_with fail
            go_roundg (tn - (x + 1))
            case measure => have := HGX.out; omega
            case rel => exact ⟨x + 1, by omega, by omega, rfl, by go_num, some ⟨g4, 0, none⟩, c4, by rw [HS2.out]; simp [HON.out], HFIN.out.2, by rw [HS2.out]; exact HFIN.out.1⟩
          · have d1 : (l == (k : Int) + 1) = false := beq_eq_false_iff_ne.2 he
            have HS2 : Hid (lst ts ((k : Int) + 1) (x + 1) = out) := by show _ = _; rw [HST.out, if_neg (fun h => he h.2)]
            clear he HST
            go_wp2_with fail
            go_roundg (tn - (x + 1))
            case measure => have := HGX.out; omega
            case rel => exact ⟨x + 1, by omega, by omega, rfl, by go_num, a3, c3, by rw [HS2.out, HON.out], HG.out, by rw [HS2.out, HON.out]; exact HO.out⟩
        · obtain rfl : x = tn := by omega
          obtain ⟨bl, off, rfl, hcs⟩ : ∃ b off, la = some ⟨b, off, none⟩ ∧ ∀ i, i < lv.length → wr.cell? ⟨b, off + i, none⟩ = some (.int .i64 (lv.getD i 0)) := by
            rcases HL.out.kept HX2.out.grown with h | h
            · have := HLN.out; rw [h] at this; simp at this; omega
            · exact h
          have c1 := hcs k (by rw [HLN.out]; exact hlt)
          have HCL := level_any X.heap.size (AL ts ns lv k) (lv.getD k 0) a3 c3 (lst ts ((k : Int) + 1) x) wr HX2.out.bat (owns_intsAt HO.out rfl) (by omega)
          have hE := HLS.out
          rw [HTN.out] at hE
          rw [hE] at HCL
          have d1 : ((k : Int) + 1 != (k : Int) + 1) = false := bne_self_eq_false _
          clear hcs hE
          generalize lv.getD k 0 = sd at *
          generalize (lst ts ((k : Int) + 1) x).length = on at *
          go_wp2_with fail
          refine HCL.mono ?_
          rintro e w5 ⟨rfl, hB5, hg5⟩
          have HX5 : Hid (LvAt X w5 B #[.slice ta x tc, .slice na nn nc, .slice (some ⟨bl, off, none⟩) ln lc, .int .i64 st, .slice pa pn pc] (AL ts ns lv (k + 1))) := HX2.out.step hg5 hB5
          clear hB5 hg5 HX2 HCL HO m0 m1 m2 m3 m4 c1
          go_wp2_with fail
          go_roundg (ln - (k + 1))
          case measure => have := HGK.out; omega
          case rel => exact ⟨k + 1, by omega, rfl, by go_num, HX5.out⟩
    · obtain rfl : k = ln := by omega
      go_wp2_with fail
      go_ret
      exact ⟨rfl, HX.out.grown, HX.out.bat⟩

end Go.Proofs.Ytdlbeffkgdjihaa
