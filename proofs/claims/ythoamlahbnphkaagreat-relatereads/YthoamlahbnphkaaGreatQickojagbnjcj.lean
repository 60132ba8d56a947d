/-
  relate: the law RelateReads, for every grammar.
-/
import Derived.Test.YthoamlahbnphkaaGreatQijgafgkhnojp
namespace Go.Proofs.YthoamlahbnphkaaGreat.J
open Go.RowKit Go.Maps Go.Shelf

theorem getD_some' {l : List It} {k : Nat} {x : It} (hk : k < l.length) (e : l.getD k (0, 0) = x) : l[k]? = some x := by
  rw [List.getD_eq_getElem?_getD, List.getElem?_eq_getElem hk] at e
  rw [List.getElem?_eq_getElem hk]
  exact congrArg some e
theorem nextL_of_in {tn N : Nat} {es : List (List (Nat × Nat))} {q s : Nat} (h : ((q : Int), (s : Int)) ∈ trT tn es N) : q < N ∧ tn ≤ s ∧ ∃ t : Nat, nextL (es.getD q []) (s : Int) = some (t : Int) := by
  obtain ⟨q', h1, e, h2, h3, h4⟩ := trT_mem h
  simp only [Prod.mk.injEq] at h4
  have e1 : q = q' := by omega
  have e2 : s = e.1 := by omega
  subst e1
  obtain ⟨t, h5, _⟩ := nextL_some h2
  exact ⟨h1, by omega, t, by rw [e2]; exact h5⟩

section
variable (ta na la pa : Option Addr) (tc nc lc pc : Nat) (ts : List (ByteArray × Int)) (ns : List ByteArray) (lv : List Int) (n : Nat) (L : Nat → Int) (R : Nat → List Int) (ra : Nat → Option Addr) (rc : Nat → Nat) (V : Nat → Int) (st : Int) (w : World) (tn nn ln : Nat) (hlen : ts.length = tn ∧ ns.length = nn ∧ lv.length = ln) (hG : GAt w ta na la pa tc nc lc pc ts ns lv n L R ra rc V) (hts : ∀ t ∈ ts, t.1.size ≤ 140737488355328) (hns : ∀ s ∈ ns, s.size ≤ 140737488355328)
include hlen hG hts hns
theorem closedU (r : Bool) (hr : r = true ↔ closedOK ts ns lv st n L R V) (X : World) (hX : w.grownBy X none) : Calls Tryz.prog 37 #[.agg #[.slice ta tn tc, .slice na nn nc, .slice la ln lc, .int .i64 st, .slice pa n pc]] X fun e y => e = .returned (.bool r) ∧ X.grownBy y none := by
  obtain ⟨rfl, rfl, rfl⟩ := hlen
  exact rclosed_any ta na la pa tc nc lc pc st ts ns lv n L R ra rc V X (hG.kept hX) hts hns r hr
theorem askedBad (h : ¬ closedOK ts ns lv st n L R V ∨ (closedOK ts ns lv st n L R V ∧ autoF (GG tn n L R) (tn + nn) 256 = none)) (X : World) (hX : w.grownBy X none) : Calls Tryz.prog 18 #[.agg #[.slice ta tn tc, .slice na nn nc, .slice la ln lc, .int .i64 st, .slice pa n pc]] X fun e y => e = .returned (.tuple #[.pointer none, .bool true]) ∧ X.grownBy y none := by
  rcases h with hc | ⟨hc, hau⟩
  · exact uasked_bad1 ta na la pa tc nc lc pc n st X tn nn ln
      (fun Y hY => buildBad ta na la pa tc nc lc pc ts ns lv n L R ra rc V st Y tn nn ln hlen (hG.kept (grown_trans hX hY)) hc)
      (fun Y hY => listX_bad ta na la pa tc nc lc pc n st Y tn nn ln 1 (.inl rfl) (ofBad1 ta na la pa tc nc lc pc ts ns lv n L R ra rc V st Y tn nn ln hlen (hG.kept (grown_trans hX hY)) hc))
      (fun Y hY => rel_bad ta na la pa tc nc lc pc ts ns lv n L R ra rc V st w tn nn ln hlen hG (.inl ⟨rfl, hc⟩) Y (grown_trans hX hY))
      (fun Y hY => closedU ta na la pa tc nc lc pc ts ns lv n L R ra rc V st w tn nn ln hlen hG hts hns false (by simp [hc]) Y (grown_trans hX hY))
  · exact uasked_bad11 ta na la pa tc nc lc pc n st X tn nn ln
      (fun Y hY => build_none ta na la pa tc nc lc pc ts ns lv n L R ra rc V st w tn nn ln hlen hG hc hau Y (grown_trans hX hY))
      (fun Y hY => listX_bad ta na la pa tc nc lc pc n st Y tn nn ln 11 (.inr rfl) (ofBad11 ta na la pa tc nc lc pc ts ns lv n L R ra rc V st Y tn nn ln hlen (hG.kept (grown_trans hX hY)) hc hau))
      (fun Y hY => rel_bad ta na la pa tc nc lc pc ts ns lv n L R ra rc V st w tn nn ln hlen hG (.inr ⟨rfl, hc, hau⟩) Y (grown_trans hX hY))
      (fun Y hY => closedU ta na la pa tc nc lc pc ts ns lv n L R ra rc V st w tn nn ln hlen hG hts hns true (by simp [hc]) Y (grown_trans hX hY))
theorem askedOk (hc : closedOK ts ns lv st n L R V) {ks : List (List It)} {es : List (List (Nat × Nat))} (h : autoF (GG tn n L R) (tn + nn) 256 = some (ks, es)) (X : World) (hX : w.grownBy X none) : Calls Tryz.prog 18 #[.agg #[.slice ta tn tc, .slice na nn nc, .slice la ln lc, .int .i64 st, .slice pa n pc]] X fun e y => UAskTold ta na la pa tc nc lc pc n st tn nn ln (trT tn es ks.length) (nulB tn n L R) X e y := by
  have hO := relOK ta na la pa tc nc lc pc ts ns lv n L R ra rc V st w tn nn ln hlen hG hc h
  have hM := hO.may
  exact uasked_ok ta na la pa tc nc lc pc n st X tn nn ln ks es (trT tn es ks.length) (nulB tn n L R) ks.length (trT tn es ks.length).length _ _ _
    (fun Y hY => build_some ta na la pa tc nc lc pc ts ns lv n L R ra rc V st w tn nn ln hlen hG hc h Y (grown_trans hX hY))
    (fun Y hY => listX_ok ta na la pa tc nc lc pc n st Y tn nn ln ks es hO.eok.le (fun q hq => (hO.eok.each q hq).1) (ofOk ta na la pa tc nc lc pc ts ns lv n L R ra rc V st Y tn nn ln hlen (hG.kept (grown_trans hX hY)) hc h).1)
    (fun Y hY => rel_reads ta na la pa tc nc lc pc ts ns lv n L R ra rc V st w tn nn ln hlen hG hc h Y (grown_trans hX hY))
    (fun Y hY => rel_includes ta na la pa tc nc lc pc ts ns lv n L R ra rc V st w tn nn ln hlen hG hc h Y (grown_trans hX hY))
    (fun Y hY => rel_lookback ta na la pa tc nc lc pc ts ns lv n L R ra rc V st w tn nn ln hlen hG hc h Y (grown_trans hX hY))
    (fun Y hY => closedU ta na la pa tc nc lc pc ts ns lv n L R ra rc V st w tn nn ln hlen hG hts hns true (by simp [hc]) Y (grown_trans hX hY))
    (fun Y hY => nullable_ok ta na la pa tc nc lc pc ts ns lv n L R ra rc V st Y tn nn ln hlen (hG.kept (grown_trans hX hY)) (.inr hc) (cl := true) ⟨hM.t0, hM.tmax, hM.n0, hM.nmax, hM.pmax, hM.p0, hM.left, hM.right, hM.start, hM.added⟩ (nulB tn n L R) (fun i => nulB_iff tn n L R i))
omit hts hns in
theorem walkU (hc : closedOK ts ns lv st n L R V) {ks : List (List It)} {es : List (List (Nat × Nat))} (h : autoF (GG tn n L R) (tn + nn) 256 = some (ks, es)) (X : World) (hX : w.grownBy X none) (q : Nat) (hq : q < ks.length) (a : Option Addr) (c : Nat) (row : List Int) (hI : IntsAt X a row) (hl : row.length ≤ 1000000) (hs : ∀ x ∈ row, 0 ≤ x ∧ x < ((tn + nn : Nat) : Int)) : Calls Tryz.prog 19 #[.agg #[.slice ta tn tc, .slice na nn nc, .slice la ln lc, .int .i64 st, .slice pa n pc], .int .i64 (q : Int), .slice a row.length c] X fun e y => e = .returned (.tuple #[.int .i64 (wayV (wayF es (some (q : Int)) row)), .int .i64 0]) ∧ X.grownBy y none := by
  have hO := relOK ta na la pa tc nc lc pc ts ns lv n L R ra rc V st w tn nn ln hlen hG hc h
  exact walkX_ok ta na la pa tc nc lc pc n st X tn nn ln ks es hO.may.tmax hO.may.nmax hO.eok.le hO.eok.ok (ofOk ta na la pa tc nc lc pc ts ns lv n L R ra rc V st X tn nn ln hlen (hG.kept hX) hc h).1 q hq a c row hI (by omega) (fun x hx => by
    unfold noB
    rw [decide_eq_true (hs x hx)]; rfl)
theorem ureads_core : Calls Tryz.prog 4 #[.agg #[.slice ta tn tc, .slice na nn nc, .slice la ln lc, .int .i64 st, .slice pa n pc]] w fun e y => e = .returned (.bool true) ∧ w.grownBy y none := by
  by_cases hc : closedOK ts ns lv st n L R V
  · cases hau : autoF (GG tn n L R) (tn + nn) 256 with
    | none => exact ureadsL_bad ta na la pa tc nc lc pc n st w tn nn ln (askedBad ta na la pa tc nc lc pc ts ns lv n L R ra rc V st w tn nn ln hlen hG hts hns (.inr ⟨hc, hau⟩))
    | some p =>
      obtain ⟨ks, es⟩ := p
      have hO := relOK ta na la pa tc nc lc pc ts ns lv n L R ra rc V st w tn nn ln hlen hG hc hau
      have hbh : ∀ k, k < (trT tn es ks.length).length → bhF es ((trT tn es ks.length).getD k (0, 0)) < ks.length := fun k hk => hO.rl.bh hk
      refine ureadsL_ok ta na la pa tc nc lc pc n st w tn nn ln ks.length (trT tn es ks.length).length (trT tn es ks.length) (nulB tn n L R) (foldQ (fun _ => []) (rdT es (trT tn es ks.length) tn (nulB tn n L R) (trT tn es ks.length).length)) (fun i => bhF es ((trT tn es ks.length).getD i (0, 0))) rfl hO.rl.t40 hO.may.nmax hO.may.tmax (fun j hj => ?_) (askedOk ta na la pa tc nc lc pc ts ns lv n L R ra rc V st w tn nn ln hlen hG hts hns hc hau) (rel_reads ta na la pa tc nc lc pc ts ns lv n L R ra rc V st w tn nn ln hlen hG hc hau) (fun X i q s b hX hi e hI => ?_) (fun i hi => ?_)
      · obtain ⟨q, s, e, h1, h2⟩ := hO.rl.at hj
        have hin := getD_in (l := trT tn es ks.length) (i := j) (d := (0, 0)) hj
        rw [e] at hin
        exact ⟨q, s, e, h1, (nextL_of_in hin).2.1, h2⟩
      · obtain ⟨q', s', e', h4, h5⟩ := hO.rl.at hi
        rw [e] at e'
        simp only [Prod.mk.injEq] at e'
        obtain ⟨rfl, rfl⟩ := e'
        have hin := getD_in (l := trT tn es ks.length) (i := i) (d := (0, 0)) hi
        rw [e] at hin
        obtain ⟨h1, h2, t, h3⟩ := nextL_of_in hin
        refine (walkU ta na la pa tc nc lc pc ts ns lv n L R ra rc V st w tn nn ln hlen hG hc hau X hX q' h1 (some ⟨b, 0, none⟩) 1 [(s' : Int)] hI (by simp) (fun x hx => by rw [List.mem_singleton.1 hx]; omega)).mono ?_
        rintro e2 y ⟨rfl, hg⟩
        refine ⟨?_, hg⟩
        have e4 : wayV (wayF es (some (q' : Int)) [(s' : Int)]) = (bhF es ((trT tn es ks.length).getD i (0, 0)) : Int) := by
          rw [e]
          show wayV (leadA es ((q' : Int), (s' : Int))) = _
          rw [leadA_at es (by rw [hO.aut.len]; exact h1), h3]
          unfold bhF ldF
          simp only [Int.toNat_natCast]
          rw [h3]
          rfl
        rw [e4]
      · obtain ⟨h1, h2, h3⟩ := reads_spec (F := nulB tn n L R) hO.nodup hbh i hi
        exact ⟨Nat.le_trans (asc_len h1 h2) hO.rl.t40, h1, h2, fun k q s hk e => h3 k q s (getD_some' hk e)⟩
  · exact ureadsL_bad ta na la pa tc nc lc pc n st w tn nn ln (askedBad ta na la pa tc nc lc pc ts ns lv n L R ra rc V st w tn nn ln hlen hG hts hns (.inl hc))
end

end Go.Proofs.YthoamlahbnphkaaGreat.J
