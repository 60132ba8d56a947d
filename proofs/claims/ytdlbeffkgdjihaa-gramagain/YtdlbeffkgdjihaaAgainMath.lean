/-
  A plain grammar, made anew by a builder: what the builder is behind each call, and what it tells.
-/
import Derived.Test.YtdlbeffkgdjihaaGradeMath
import Derived.Test.YtdlbeffkgdjihaaRvMath
import Derived.Test.YtdlbeffkgdjihaaGrammar
namespace Go.Proofs.Ytdlbeffkgdjihaa
open Go.RowKit

section
variable (ts : List (ByteArray × Int)) (ns : List ByteArray) (lv : List Int) (L : Nat → Int) (R : Nat → List Int) (V : Nat → Int)

/-- The terminals' texts, the end marker's not. -/
def tnames : List ByteArray := (ts.map (·.1)).drop 1
/-- A symbol's handle. -/
def hdl (tn : Nat) (x : Int) : Int := if x < tn then x else -(x - tn + 1)
/-- The terminals' levels up to k. -/
def levTo (k : Nat) : Nat → Int := fun j => if (ts.getD j (⟨#[]⟩, 0)).2 ≤ k then (ts.getD j (⟨#[]⟩, 0)).2 else 0
def AT (k : Nat) : BS := { terms := (tnames ts).take k, nons := [], lev := fun _ => 0, sides := [], prods := [], start := 0 }
def AN (k : Nat) : BS := { terms := tnames ts, nons := ns.take k, lev := fun _ => 0, sides := [], prods := [], start := 0 }
def AL (k : Nat) : BS := { terms := tnames ts, nons := ns, lev := levTo ts k, sides := lv.take k, prods := [], start := 0 }
def apr (i : Nat) : PR := ⟨hdl ts.length (L i), (R i).map (hdl ts.length), V i⟩
def AP (k : Nat) : BS := { terms := tnames ts, nons := ns, lev := levTo ts lv.length, sides := lv, prods := (List.range k).map (apr ts L R V), start := 0 }
def AF (n : Nat) (st : Int) : BS := { AP ts ns lv L R V n with start := hdl ts.length st }
end

section
variable {ts : List (ByteArray × Int)} {ns : List ByteArray} {lv : List Int} {st : Int} {n : Nat} {L : Nat → Int} {R : Nat → List Int} {V : Nat → Int}

theorem tnames_length : (tnames ts).length = ts.length - 1 := by simp [tnames]
theorem tnames_at {k : Nat} : (tnames ts).getD k ⟨#[]⟩ = (ts.getD (k + 1) (⟨#[]⟩, 0)).1 := by
  unfold tnames
  by_cases h : k + 1 < ts.length
  · simp [List.getD, h]
  · simp [List.getD, List.getElem?_eq_none (show ts.length ≤ k + 1 by omega)]
theorem take_snoc {α : Type} (d : α) {l : List α} {k : Nat} (h : k < l.length) : l.take (k + 1) = l.take k ++ [l.getD k d] := by
  rw [List.take_succ_eq_append_getElem h]; simp [List.getD, h]
theorem notin_take {l : List ByteArray} (hn : l.Nodup) {k : Nat} (h : k < l.length) : l.getD k ⟨#[]⟩ ∉ l.take k := by
  intro hm
  obtain ⟨j, hj, e⟩ := List.getElem_of_mem hm
  have hj' : j < k := by simp at hj; omega
  refine (nodup_idx ⟨#[]⟩ l).1 hn k j hj' h ?_
  rw [← e]
  simp [List.getD, show j < l.length by omega]

theorem termsOK.names (h : termsOK ts lv.length) : (tnames ts).Nodup ∧ (∀ s ∈ tnames ts, isTextB s = true) ∧ 0 < ts.length := by
  obtain ⟨rest, rfl, h1, h2⟩ := h
  refine ⟨by simpa [tnames] using h2, fun s hs => ?_, by simp⟩
  simp only [tnames, List.map_cons, List.drop_succ_cons, List.drop_zero, List.mem_map] at hs
  obtain ⟨t, ht, rfl⟩ := hs
  exact (h1 t ht).1
theorem getD_mem' {l : List ByteArray} {k : Nat} (h : k < l.length) : l.getD k ⟨#[]⟩ ∈ l := by
  have : l.getD k ⟨#[]⟩ = l[k] := by simp [List.getD, h]
  rw [this]; exact List.getElem_mem _
theorem termsOK.level (h : termsOK ts lv.length) (j : Nat) : 0 ≤ (ts.getD j (⟨#[]⟩, 0)).2 ∧ (ts.getD j (⟨#[]⟩, 0)).2 ≤ lv.length := by
  by_cases hj : j < ts.length
  · obtain ⟨⟨_, h0⟩, h1⟩ := (termsOK_idx _ _).1 h
    by_cases e : j = 0
    · rw [e, h0]; exact ⟨Int.le_refl _, by simp⟩
    · exact (h1 j (by omega) hj).1.2
  · have : ts.getD j (⟨#[]⟩, 0) = (⟨#[]⟩, 0) := by simp [List.getD, List.getElem?_eq_none (show ts.length ≤ j by omega)]
    rw [this]; exact ⟨Int.le_refl _, by simp⟩

theorem numbered_fresh {l : List ByteArray} {s : ByteArray} (h : numOf l s = 0) : numbered false l s = (l.length + 1, 0) := by simp [numbered, h]
theorem at_zero : AT ts 0 = BS.zero := by simp [AT, BS.zero]
theorem at_term (h : holdsOK ts ns lv st n L R V) {k : Nat} (hk : k + 1 < ts.length) : (AT ts k).term (ts.getD (k + 1) (⟨#[]⟩, 0)).1 = ((k : Int) + 1, 0, AT ts (k + 1)) := by
  obtain ⟨h1, h2, h3⟩ := h.terms.names
  have hkl : k < (tnames ts).length := by rw [tnames_length]; omega
  rw [← tnames_at]
  have hs := h2 _ (getD_mem' hkl)
  have hz : numOf (AT ts k).terms ((tnames ts).getD k ⟨#[]⟩) = 0 := numOf_zero (notin_take h1 hkl)
  have hsy := h.syms
  have hl : (AT ts k).terms.length = k := by show ((tnames ts).take k).length = k; rw [List.length_take]; omega
  have hnl : (AT ts k).nons.length = 0 := rfl
  have hf : (AT ts k).full = false := by
    unfold BS.full
    rw [hl, hnl]
    have := tnames_length (ts := ts)
    exact decide_eq_false (by omega)
  have e : (AT ts k).addT ((tnames ts).getD k ⟨#[]⟩) = AT ts (k + 1) := by
    unfold BS.addT AT
    rw [take_snoc ⟨#[]⟩ hkl]
  unfold BS.term
  rw [if_pos hs, hf, numbered_fresh hz, if_pos ⟨hz, rfl⟩, hl, e]
  simp
theorem at_full : AT ts (ts.length - 1) = AN ts ns 0 := by
  unfold AT AN
  rw [List.take_of_length_le (by rw [tnames_length]; omega)]
  simp

theorem an_non (h : holdsOK ts ns lv st n L R V) {k : Nat} (hk : k < ns.length) : (AN ts ns k).non (ns.getD k ⟨#[]⟩) = (-1 - (k : Int), 0, AN ts ns (k + 1)) := by
  obtain ⟨h2, h1⟩ := h.nons
  have hs := h2 _ (getD_mem' hk)
  have hz : numOf (AN ts ns k).nons (ns.getD k ⟨#[]⟩) = 0 := numOf_zero (notin_take h1 hk)
  have hsy := h.syms
  have hl : (AN ts ns k).nons.length = k := by show (ns.take k).length = k; rw [List.length_take]; omega
  have htl : (AN ts ns k).terms.length = ts.length - 1 := tnames_length
  have h3 := h.terms.names.2.2
  have hf : (AN ts ns k).full = false := by
    unfold BS.full
    rw [hl, htl]
    exact decide_eq_false (by omega)
  have e : (AN ts ns k).addN (ns.getD k ⟨#[]⟩) = AN ts ns (k + 1) := by
    unfold BS.addN AN
    rw [take_snoc ⟨#[]⟩ hk]
  unfold BS.non
  rw [if_pos hs, hf, numbered_fresh hz, if_pos ⟨hz, rfl⟩, hl, e]
  simp
  omega
theorem an_full (h : holdsOK ts ns lv st n L R V) : AN ts ns ns.length = AL ts ns lv 0 := by
  unfold AN AL
  rw [List.take_length]
  congr 1
  funext j
  unfold levTo
  have := (h.terms.level j).1
  split
  · simp at *; omega
  · rfl

/-! ### Levels -/
/-- The terminals below m that have level k. -/
def lst (ts : List (ByteArray × Int)) (k : Int) : Nat → List Int
  | 0 => []
  | m + 1 => if 1 ≤ m ∧ (ts.getD m (⟨#[]⟩, 0)).2 = k then lst ts k m ++ [(m : Int)] else lst ts k m
theorem lst_mem (ts : List (ByteArray × Int)) (k x : Int) : ∀ m, x ∈ lst ts k m ↔ ∃ j : Nat, x = (j : Int) ∧ 1 ≤ j ∧ j < m ∧ (ts.getD j (⟨#[]⟩, 0)).2 = k
  | 0 => by simp [lst]
  | m + 1 => by
    unfold lst
    have ih := lst_mem ts k x m
    split
    · next h =>
      rw [List.mem_append, ih, List.mem_singleton]
      constructor
      · rintro (⟨j, e, h1, h2, h3⟩ | e)
        · exact ⟨j, e, h1, by omega, h3⟩
        · exact ⟨m, e, h.1, by omega, h.2⟩
      · rintro ⟨j, e, h1, h2, h3⟩
        by_cases ej : j = m
        · right; rw [e, ej]
        · exact .inl ⟨j, e, h1, by omega, h3⟩
    · next h =>
      rw [ih]
      constructor
      · rintro ⟨j, e, h1, h2, h3⟩; exact ⟨j, e, h1, by omega, h3⟩
      · rintro ⟨j, e, h1, h2, h3⟩
        by_cases ej : j = m
        · exact absurd ⟨by omega, by rw [← ej]; exact h3⟩ h
        · exact ⟨j, e, h1, by omega, h3⟩
theorem lst_nodup (ts : List (ByteArray × Int)) (k : Int) : ∀ m, (lst ts k m).Nodup
  | 0 => by simp [lst]
  | m + 1 => by
    unfold lst
    split
    · refine List.nodup_append.2 ⟨lst_nodup ts k m, by simp, fun a ha b hb => ?_⟩
      obtain ⟨j, rfl, _, hj, _⟩ := (lst_mem ts k a m).1 ha
      rw [List.mem_singleton.1 hb]
      omega
    · exact lst_nodup ts k m
theorem lst_le (ts : List (ByteArray × Int)) (k : Int) : ∀ m, (lst ts k m).length ≤ m
  | 0 => by simp [lst]
  | m + 1 => by
    have := lst_le ts k m
    unfold lst
    split
    · simp; omega
    · omega

theorem levGo_all {S : BS} {K : Int} : ∀ (l : List Int) (lev : Nat → Int), l.Nodup → (∀ h ∈ l, S.isT h = true ∧ lev h.toNat = 0) → levGo S K lev l = some fun j : Nat => if (j : Int) ∈ l then K else lev j
  | [], lev, _, _ => by simp [levGo]
  | a :: r, lev, hn, h => by
    rw [List.nodup_cons] at hn
    obtain ⟨h1, h2⟩ := h a (by simp)
    have ha := isT_iff.1 h1
    unfold levGo
    rw [if_pos ⟨h1, h2⟩, levGo_all r _ hn.2 (fun x hx => by
      obtain ⟨q1, q2⟩ := h x (by simp [hx])
      have hx' := isT_iff.1 q1
      refine ⟨q1, ?_⟩
      have hne : x.toNat ≠ a.toNat := fun e => hn.1 (by have : x = a := by omega
                                                        rw [← this]; exact hx)
      simp [updL, hne, q2])]
    congr 1
    funext j
    by_cases hj : (j : Int) ∈ r
    · simp [hj]
    · by_cases ej : (j : Int) = a
      · have : j = a.toNat := by omega
        rw [if_neg hj, if_pos (by simp [ej])]
        simp [updL, this]
      · have : j ≠ a.toNat := by omega
        rw [if_neg hj, if_neg (by simp [ej, hj])]
        simp [updL, this]

theorem al_level (h : holdsOK ts ns lv st n L R V) {k : Nat} (hk : k < lv.length) : (AL ts ns lv k).level (lv.getD k 0) (lst ts ((k : Int) + 1) ts.length) = ((k : Int) + 1, 0, AL ts ns lv (k + 1)) := by
  obtain ⟨hs, t, ht, e⟩ := h.levels k hk
  have hne : lst ts ((k : Int) + 1) ts.length ≠ [] := by
    obtain ⟨j, hj, rfl⟩ := List.getElem_of_mem ht
    have h0 := (termsOK_idx _ _).1 h.terms
    have ej : ts.getD j (⟨#[]⟩, 0) = ts[j] := by simp [List.getD, hj]
    have hj1 : 1 ≤ j := by
      by_cases e0 : j = 0
      · have hz : ts.getD 0 (⟨#[]⟩, 0) = (⟨#[]⟩, 0) := h0.1.2
        rw [← ej, e0, hz] at e
        have e' : (0 : Int) = (k : Int) + 1 := e
        omega
      · omega
    have : (j : Int) ∈ lst ts ((k : Int) + 1) ts.length := (lst_mem _ _ _ _).2 ⟨j, rfl, hj1, hj, by rw [ej]; exact e⟩
    intro hh
    rw [hh] at this
    simp at this
  have hsl : (AL ts ns lv k).sides.length = k := by show (lv.take k).length = k; rw [List.length_take]; omega
  have hgo := levGo_all (S := AL ts ns lv k) (K := (k : Int) + 1) (lst ts ((k : Int) + 1) ts.length) (AL ts ns lv k).lev (lst_nodup _ _ _) (fun x hx => by
    obtain ⟨j, rfl, h1, h2, h3⟩ := (lst_mem _ _ _ _).1 hx
    refine ⟨isT_iff.2 ⟨by omega, ?_⟩, ?_⟩
    · show (j : Int) ≤ ((tnames ts).length : Int); rw [tnames_length]; omega
    · show levTo ts k _ = 0
      unfold levTo
      have : (j : Int).toNat = j := by omega
      rw [this, h3, if_neg (by omega)])
  unfold BS.level
  rw [if_pos ⟨hs, hne⟩, hsl, hgo]
  simp only
  congr 2
  unfold BS.addL AL
  congr 1
  · funext j
    show (if (j : Int) ∈ lst ts ((k : Int) + 1) ts.length then (k : Int) + 1 else levTo ts k j) = levTo ts (k + 1) j
    unfold levTo
    by_cases hj : (j : Int) ∈ lst ts ((k : Int) + 1) ts.length
    · obtain ⟨j', e1, h1, h2, h3⟩ := (lst_mem _ _ _ _).1 hj
      have : j' = j := by omega
      subst this
      rw [if_pos hj, h3, if_pos (by omega)]
    · rw [if_neg hj]
      by_cases hjl : j < ts.length ∧ 1 ≤ j
      · have hne2 : (ts.getD j (⟨#[]⟩, 0)).2 ≠ (k : Int) + 1 := fun e => hj ((lst_mem _ _ _ _).2 ⟨j, rfl, hjl.2, hjl.1, e⟩)
        by_cases hle : (ts.getD j (⟨#[]⟩, 0)).2 ≤ k
        · rw [if_pos hle, if_pos (by omega)]
        · rw [if_neg hle, if_neg (by omega)]
      · have hz : (ts.getD j (⟨#[]⟩, 0)).2 = 0 := by
          by_cases e0 : j = 0
          · rw [e0]
            have := ((termsOK_idx _ _).1 h.terms).1.2
            rw [this]
          · simp [List.getD, List.getElem?_eq_none (show ts.length ≤ j by omega)]
        rw [hz, if_pos (by omega), if_pos (by omega)]
  · show lv.take k ++ [lv.getD k 0] = lv.take (k + 1)
    exact (take_snoc 0 hk).symm
theorem al_full : AL ts ns lv lv.length = AP ts ns lv L R V 0 := by
  unfold AL AP
  rw [List.take_length]
  simp

/-! ### Productions -/
theorem hdl_non {x : Int} (h : isNonI ts.length ns.length 0 x) : hdl ts.length x = -(x - ts.length + 1) := by
  unfold isNonI at h
  unfold hdl
  rw [if_neg (by omega)]
theorem hdl_term {x : Int} (h : x < ts.length) : hdl ts.length x = x := by unfold hdl; rw [if_pos h]
theorem hdl_isN {S : BS} (hS : S.nons.length = ns.length) {x : Int} (h : isNonI ts.length ns.length 0 x) : S.isN (hdl ts.length x) = true := by
  rw [hdl_non h]
  unfold isNonI at h
  simp only [BS.isN, hS, Bool.and_eq_true, decide_eq_true_eq]
  omega
theorem hdl_good {S : BS} (hS : S.nons.length = ns.length) (hT : S.terms.length = ts.length - 1) {x : Int} (h : isSymI ts.length ns.length 0 x) : (S.isT (hdl ts.length x) || S.isN (hdl ts.length x)) = true := by
  rcases h with h | h
  · have : S.isT (hdl ts.length x) = true := by
      rw [hdl_term h.2]
      simp only [BS.isT, hT, Bool.and_eq_true, decide_eq_true_eq]
      omega
    rw [this]; rfl
  · rw [hdl_isN hS h]; simp

theorem ap_rule (h : holdsOK ts ns lv st n L R V) {k : Nat} (hk : k < n) : ∃ S', (AP ts ns lv L R V k).rule (hdl ts.length (L k)) ((R k).map (hdl ts.length)) = ((k : Int), 0, S') ∧ S'.grade (V k) [(k : Int)] = (0, AP ts ns lv L R V (k + 1)) := by
  have hp := h.prods k hk
  have hc := h.cnt
  have hpl : (AP ts ns lv L R V k).prods.length = k := by simp [AP]
  have hg : (AP ts ns lv L R V k).good ((R k).map (hdl ts.length)) = true := by
    unfold BS.good
    rw [List.all_eq_true]
    intro y hy
    obtain ⟨x, hx, rfl⟩ := List.mem_map.1 hy
    exact hdl_good rfl tnames_length (hp.2.2 x hx)
  refine ⟨(AP ts ns lv L R V k).addP ⟨hdl ts.length (L k), (R k).map (hdl ts.length), (AP ts ns lv L R V k).levOf ((R k).map (hdl ts.length))⟩, ?_, ?_⟩
  · unfold BS.rule
    rw [if_pos ⟨hdl_isN rfl hp.1, hg⟩, hpl, if_neg (by omega)]
  · unfold BS.grade
    have hsl : ((AP ts ns lv L R V k).addP ⟨hdl ts.length (L k), (R k).map (hdl ts.length), (AP ts ns lv L R V k).levOf ((R k).map (hdl ts.length))⟩).sides.length = lv.length := rfl
    rw [hsl, if_pos hp.2.1]
    have hlen : ((AP ts ns lv L R V k).addP ⟨hdl ts.length (L k), (R k).map (hdl ts.length), (AP ts ns lv L R V k).levOf ((R k).map (hdl ts.length))⟩).prods.length = k + 1 := by simp [BS.addP, AP]
    unfold gradeGo
    rw [hlen, if_pos (by omega)]
    unfold gradeGo
    simp only
    congr 1
    unfold BS.addP AP
    simp only
    congr 1
    rw [List.range_succ, List.map_append]
    have e : (k : Int).toNat = k := by omega
    rw [e]
    unfold setLev
    have hl2 : ((List.range k).map (apr ts L R V)).length = k := by simp
    rw [List.set_append_right _ _ (by rw [hl2]; exact Nat.le_refl _), hl2, Nat.sub_self]
    congr 1
    simp [List.getD, hl2, apr]

end

end Go.Proofs.Ytdlbeffkgdjihaa
