/-
  ShowTexts, walked.
-/
import Derived.Test.YtkhmhcinepfemaaQooeliklicoka
namespace Go.Proofs.Ytkhmhcinepfemaa
open Go.RowKit Go.Maps Go.Shelf

attribute [local go_sem] Oper.semAt_some

theorem symsT_ge (ts : List (ByteArray × Int)) (ns : List ByteArray) : ∀ l : List Int, l.length ≤ (symsT ts ns true l).length
  | [] => by simp
  | z :: r => by
    have h1 := symsT_ge ts ns r
    have h2 : (sp true).length = 1 := rfl
    simp only [symsT, List.length_append, List.length_cons]
    omega

theorem rsum_text {ts : List (ByteArray × Int)} {ns : List ByteArray} {lv : List Int} {st : Int} {n : Nat} {L : Nat → Int} {R : Nat → List Int} {V : Nat → Int} (h : validOK ts ns lv st n L R V ∨ closedOK ts ns lv st n L R V) (ht : (textT ts ns lv st n L R V).length ≤ 8192) : rsum R n ≤ 8192 := by
  have key : ∀ k, k ≤ n → rsum R k ≤ 1 + (rulesT ts ns L R V k).length ∧ (rsum R k ≤ (rulesT ts ns L R V k).length ∨ closedOK ts ns lv st n L R V) := by
    intro k
    induction k with
    | zero => intro _; exact ⟨by simp [rsum], .inl (by simp [rsum])⟩
    | succ k ih =>
      intro hk
      obtain ⟨i1, i2⟩ := ih (by omega)
      obtain ⟨ad, had, hf, ha⟩ := either_fits h
      rw [rulesT]
      by_cases hp : ns.getD ((L k).toNat - ts.length) ByteArray.empty = ⟨#[]⟩
      · have hc : ad = 1 ∧ k = 0 := by
          rcases Nat.lt_or_ge k ad with hlt | hge
          · omega
          · exfalso
            have hpp := (hf.prods k hge (by omega)).1
            unfold isNonI at hpp
            have hN := (hf.nons ((L k).toNat - ts.length) (by omega) (by omega)).1
            have hN2 : isNameB (ns.getD ((L k).toNat - ts.length) ByteArray.empty) = true := hN
            rw [hp] at hN2
            revert hN2
            decide
        obtain ⟨h1, rfl⟩ := hc
        have hA := ha h1
        rw [if_pos hp, List.append_nil]
        have e : rsum R (0 + 1) = 1 := by simp [rsum, hA.right]
        rw [e]
        refine ⟨by omega, .inr ?_⟩
        subst h1
        exact ⟨hA, hf⟩
      · rw [if_neg hp]
        have h3 : (R k).length ≤ (ruleT ts ns (L k) (R k) (V k)).length := by
          have := symsT_ge ts ns (R k)
          simp only [ruleT, List.length_append]
          omega
        rw [List.length_append]
        simp only [rsum]
        refine ⟨by omega, ?_⟩
        rcases i2 with i2 | i2
        · exact .inl (by omega)
        · exact .inr i2
  have h1 := (key n (Nat.le_refl _)).1
  have h2 : 3 ≤ (headT ts ns ⟨#[37, 115, 116, 97, 114, 116]⟩ [st]).length := by
    simp only [headT, List.length_append, List.length_cons, List.length_nil]
    omega
  simp only [textT, List.length_append] at ht
  omega

set_option maxRecDepth 100000 in
theorem rtext_no (ta na la pa : Option Addr) (tn nn ln n tc nc lc pc : Nat) (st : Int) (w : World) (hE : ∀ Y, w.grownBy Y none → Calls Try.prog 22 #[.agg #[.slice ta tn tc, .slice na nn nc, .slice la ln lc, .int .i64 st, .slice pa n pc]] Y fun e w' => e = .returned (.bool false) ∧ Y.grownBy w' none) :
    Calls Try.prog 9 #[.agg #[.slice ta tn tc, .slice na nn nc, .slice la ln lc, .int .i64 st, .slice pa n pc]] w fun e w' => e = .returned (.tuple #[.string ⟨#[]⟩, .int .i64 1]) ∧ w.grownBy w' none := by
  have HX0 : Hid (w.grownBy (w.alloc (.cells #[.slice ta tn tc, .slice na nn nc, .slice la ln lc, .int .i64 st, .slice pa n pc] 27)) none) := World.grownBy_alloc _ _ none
  have HE : Hid (∀ Y, w.grownBy Y none → Calls Try.prog 22 #[.agg #[.slice ta tn tc, .slice na nn nc, .slice la ln lc, .int .i64 st, .slice pa n pc]] Y fun e w' => e = .returned (.bool false) ∧ Y.grownBy w' none) := hE
  clear hE
  go_enter Try.func9, Try.ntmps9
  go_wp2_with fail
  refine Calls.mono (HE.out _ HX0.out) ?_
  rintro e w1 ⟨rfl, hg1⟩
  have HG1 : Hid (w.grownBy w1 none) := grown_trans HX0.out hg1
  clear hg1
  go_wp2_with fail
  go_ret2
  exact ⟨rfl, HG1.out⟩

set_option maxRecDepth 100000 in
set_option maxHeartbeats 4000000 in
theorem texts_core (ta na la pa : Option Addr) (tc nc lc pc : Nat) (ts : List (ByteArray × Int)) (ns : List ByteArray) (lv : List Int) (n : Nat) (L : Nat → Int) (R : Nat → List Int) (ra : Nat → Option Addr) (rc : Nat → Nat) (V : Nat → Int) (st : Int) (w : World) (tn nn ln : Nat) (hlen : ts.length = tn ∧ ns.length = nn ∧ lv.length = ln) (hG : GAt w ta na la pa tc nc lc pc ts ns lv n L R ra rc V) (hnt : ta = none → tn = 0 ∧ tc = 0) (hnl : la = none → ln = 0 ∧ lc = 0)
    (h1 : tn ≤ 1048576) (h2 : nn ≤ 1048576) (h4 : n ≤ 1048576) (h5 : ∀ i, i < n → (R i).length ≤ 1048576) (hts : ∀ t ∈ ts, t.1.size ≤ 140737488355328) (hns : ∀ s ∈ ns, s.size ≤ 140737488355328) :
    Calls Try.prog 3 #[.agg #[.slice ta tn tc, .slice na nn nc, .slice la ln lc, .int .i64 st, .slice pa n pc]] w fun e w' => e = .returned (.bool true) ∧ w.grownBy w' none := by
  obtain ⟨r, hr⟩ := boolOf (validOK ts ns lv st n L R V ∨ closedOK ts ns lv st n L R V)
  have HX0 : Hid (PhAt w (w.alloc (.cells #[.slice ta tn tc, .slice na nn nc, .slice la ln lc, .int .i64 st, .slice pa n pc] 27)) w.heap.size #[.slice ta tn tc, .slice na nn nc, .slice la ln lc, .int .i64 st, .slice pa n pc]) := ⟨World.grownBy_alloc _ _ none, heap_alloc_last w _⟩
  have HCP : Hid (∀ Y, w.grownBy Y none → Calls Try.prog 7 #[.agg #[.slice ta tn tc, .slice na nn nc, .slice la ln lc, .int .i64 st, .slice pa n pc]] Y fun e w' => ∃ ta' na' la' pa' tc' nc' lc' pc' ra' rc', e = .returned (.agg #[.slice ta' tn tc', .slice na' nn nc', .slice la' ln lc', .int .i64 st, .slice pa' n pc']) ∧ GAt w' ta' na' la' pa' tc' nc' lc' pc' ts ns lv n L R ra' rc' V ∧ (∀ i, i < n → (R i).length ≤ rc' i) ∧ (ta' = none → tn = 0 ∧ tc' = 0) ∧ (la' = none → ln = 0 ∧ lc' = 0) ∧ Y.grownBy w' none) := fun Y hY => rcopy_any ta na la pa tn nn ln n tc nc lc pc st ts ns lv L R ra rc V Y hlen (hG.kept hY) hnt hnl (by omega) (by omega) (by omega)
  obtain ⟨s1, hs1⟩ : ∃ s : ByteArray, s = if r && decide ((textT ts ns lv st n L R V).length ≤ 8192) then strOf (textT ts ns lv st n L R V) else ⟨#[]⟩ := ⟨_, rfl⟩
  obtain ⟨e1, he1⟩ : ∃ e : Int, e = if r then (if decide ((textT ts ns lv st n L R V).length ≤ 8192) then 0 else 11) else 1 := ⟨_, rfl⟩
  have KT : Hid (∀ ta' na' la' pa' tc' nc' lc' pc' ra' rc', ∀ Y, GAt Y ta' na' la' pa' tc' nc' lc' pc' ts ns lv n L R ra' rc' V → Calls Try.prog 8 #[.agg #[.slice ta' tn tc', .slice na' nn nc', .slice la' ln lc', .int .i64 st, .slice pa' n pc']] Y fun e w' => e = .returned (.tuple #[.string s1, .int .i64 e1]) ∧ Y.grownBy w' none) := by
    intro ta' na' la' pa' tc' nc' lc' pc' ra' rc' Y hGY
    have hx : decide (rsum R n ≤ 8192) = true ∨ ¬ (textT ts ns lv st n L R V).length ≤ 8192 ∨ r = false := by
      cases r with
      | false => exact .inr (.inr rfl)
      | true =>
        by_cases ht : (textT ts ns lv st n L R V).length ≤ 8192
        · exact .inl (decide_eq_true (rsum_text (hr.1 rfl) ht))
        · exact .inr (.inl ht)
    have h9 := text_core ta' na' la' pa' tc' nc' lc' pc' ts ns lv n L R ra' rc' V st Y tn nn ln hlen hGY r hr (fun hrt => by have h8 := (either_text (hr.1 hrt)).1; rw [hlen.1, hlen.2.1, hlen.2.2] at h8; exact h8) (fun hrt => by have h8 := (either_text (hr.1 hrt)).2; rw [hlen.2.2] at h8; exact h8)
    rw [hs1, he1]
    rcases hx with hx | hx | hx
    · rw [hx] at h9
      simpa [strOf] using h9
    · rw [decide_eq_false hx] at h9 ⊢
      simpa using h9
    · subst hx
      simpa using h9
  have KD : Hid (∀ Y, w.grownBy Y none → Calls Try.prog 9 #[.agg #[.slice ta tn tc, .slice na nn nc, .slice la ln lc, .int .i64 st, .slice pa n pc]] Y fun e w' => e = .returned (.tuple #[.string s1, .int .i64 e1]) ∧ Y.grownBy w' none) := fun Y hY => by
    rw [hs1, he1]
    cases r with
    | false => exact rtext_no ta na la pa tn nn ln n tc nc lc pc st Y (fun Z hZ => rEither_any ta na la pa tc nc lc pc ts ns lv n L R ra rc V st Z tn nn ln hlen (hG.kept (grown_trans hY hZ)) hts hns false hr)
    | true =>
      have h9 := rtext_core ta na la pa tc nc lc pc ts ns lv n L R ra rc V st Y tn nn ln hlen (hG.kept hY) h5 hts hns (hr.1 rfl)
      simpa using h9
  have KSM : Hid (∀ ta' na' la' pa' tc' nc' lc' pc' ra' rc', ∀ Y, w.grownBy Y none → GAt Y ta' na' la' pa' tc' nc' lc' pc' ts ns lv n L R ra' rc' V → Calls Try.prog 10 #[.agg #[.slice ta' tn tc', .slice na' nn nc', .slice la' ln lc', .int .i64 st, .slice pa' n pc'], .agg #[.slice ta tn tc, .slice na nn nc, .slice la ln lc, .int .i64 st, .slice pa n pc]] Y fun e w' => e = .returned (.bool true) ∧ Y.grownBy w' none) := by
    intro ta' na' la' pa' tc' nc' lc' pc' ra' rc' Y hY hGY
    have h9 := rsame_any (st := st) (st' := st) hGY (hG.kept hY) true ⟨fun _ => ⟨rfl, rfl, rfl, rfl, rfl, fun i hi => ⟨rfl, rfl, rfl⟩⟩, fun _ => rfl⟩
    rw [hlen.1, hlen.2.1, hlen.2.2] at h9
    exact h9
  have KA : Hid (∀ Y, Calls Try.prog 11 #[] Y fun e w' => e = .returned (.bool true) ∧ Y.grownBy w' none) := hawake_any
  clear hG hnt hnl hlen hr h5 hts hns hs1 he1
  go_enter Try.func3, Try.ntmps3
  go_wp2_with fail
  refine Calls.mono (HCP.out _ HX0.out.grown) ?_
  rintro e w1 ⟨ta', na', la', pa', tc', nc', lc', pc', ra', rc', rfl, hG', _, _, _, hg1⟩
  have HG1 : Hid (GAt w1 ta' na' la' pa' tc' nc' lc' pc' ts ns lv n L R ra' rc' V) := hG'
  have HX1 : Hid (PhAt w w1 w.heap.size #[.slice ta tn tc, .slice na nn nc, .slice la ln lc, .int .i64 st, .slice pa n pc]) := HX0.out.kept hg1
  have KT1 := show Hid _ from KT.out ta' na' la' pa' tc' nc' lc' pc' ra' rc'
  have KS1 := show Hid _ from KSM.out ta' na' la' pa' tc' nc' lc' pc' ra' rc'
  clear hG' hg1 HX0 HCP KT KSM
  go_wp2_with fail
  obtain ⟨C, hC⟩ : ∃ C, C = w1.heap.size := ⟨_, rfl⟩
  obtain ⟨X1, hX1⟩ : ∃ X1, X1 = w1.alloc (.cells #[.slice ta' tn tc', .slice na' nn nc', .slice la' ln lc', .int .i64 st, .slice pa' n pc'] 27) := ⟨_, rfl⟩
  have HWX : Hid (w1.grownBy X1 none) := by rw [hX1]; exact World.grownBy_alloc _ _ none
  have hCb : X1.heap[C]? = some (.cells #[.slice ta' tn tc', .slice na' nn nc', .slice la' ln lc', .int .i64 st, .slice pa' n pc'] 27 (0, 0)) := by rw [hX1, hC]; exact heap_alloc_last w1 _
  have HB : Hid (∀ Y, X1.grownBy Y none → PhAt w Y w.heap.size #[.slice ta tn tc, .slice na nn nc, .slice la ln lc, .int .i64 st, .slice pa n pc] ∧ PhAt X1 Y C #[.slice ta' tn tc', .slice na' nn nc', .slice la' ln lc', .int .i64 st, .slice pa' n pc']) := fun Y hY => ⟨HX1.out.kept (grown_trans HWX.out hY), hY, (hY.block _ (Array.getElem?_eq_some_iff.1 hCb).1 (by simp)).trans hCb⟩
  have HWX0 : Hid (w.grownBy X1 none) := grown_trans HX1.out.grown HWX.out
  rw [← hC, ← hX1]
  clear hC hX1 hCb
  refine Calls.mono (KT1.out _ (HG1.out.kept HWX.out)) ?_
  rintro e w2 ⟨rfl, hg2⟩
  have HG2 : Hid (X1.grownBy w2 none) := hg2
  obtain ⟨q0, q1, q2, q3, q4⟩ := (HB.out w2 hg2).1.cells
  clear hg2
  go_wp2_with fail
  refine Calls.mono (KD.out _ (grown_trans HWX0.out HG2.out)) ?_
  rintro e w3 ⟨rfl, hg3⟩
  have HG3 : Hid (X1.grownBy w3 none) := grown_trans HG2.out hg3
  clear hg3 q0 q1 q2 q3 q4
  obtain ⟨q0, q1, q2, q3, q4⟩ := (HB.out w3 HG3.out).1.cells
  obtain ⟨c0, c1, c2, c3, c4⟩ := (HB.out w3 HG3.out).2.cells
  go_wp2_with fail
  refine Calls.mono (KS1.out _ (grown_trans HWX0.out HG3.out) (HG1.out.kept (grown_trans HWX.out HG3.out))) ?_
  rintro e w4 ⟨rfl, hg4⟩
  have HG4 : Hid (X1.grownBy w4 none) := grown_trans HG3.out hg4
  clear hg4 q0 q1 q2 q3 q4 c0 c1 c2 c3 c4
  go_wp2_with fail
  refine Calls.mono (KA.out _) ?_
  rintro e w5 ⟨rfl, hg5⟩
  have HG5 : Hid (X1.grownBy w5 none) := grown_trans HG4.out hg5
  clear hg5
  go_wp2_with fail
  go_ret
  exact ⟨rfl, grown_trans HWX0.out HG5.out⟩

end Go.Proofs.Ytkhmhcinepfemaa
