import Derived.Test.YtkhmhcinepfemaaQbfoegajdkjhm
import Derived.Test.YtkhmhcinepfemaaQfehnckohiaej
import Derived.Test.YtkhmhcinepfemaaQdcilpmlpoibo
import Derived.Test.YtkhmhcinepfemaaQejpkdhbolflg
import Derived.ProofKit
import Derived.OpenShut
import Derived.SliceStrings
import Derived.Deep.Slices
import Derived.SizedLaws

/-
  ShowTwo, walked.
-/
namespace Go.Proofs.Ytkhmhcinepfemaa
open Go.RowKit Go.Maps Go.Shelf

attribute [local go_sem] Oper.semAt_some

theorem same_text {ts ts' : List (ByteArray × Int)} {ns ns' : List ByteArray} {lv lv' : List Int} {st st' : Int} {n n' : Nat} {L L' : Nat → Int} {R R' : Nat → List Int} {V V' : Nat → Int} (h : sameG ts ts' ns ns' lv lv' st st' n n' L L' R R' V V') : textT ts ns lv st n L R V = textT ts' ns' lv' st' n' L' R' V' := by
  obtain ⟨rfl, rfl, rfl, rfl, rfl, hp⟩ := h
  have hr : ∀ k, k ≤ n → rulesT ts ns L R V k = rulesT ts ns L' R' V' k := by
    intro k
    induction k with
    | zero => intro _; rfl
    | succ k ih =>
      intro hk
      obtain ⟨e1, e2, e3⟩ := hp k (by omega)
      rw [rulesT, rulesT, ih (by omega), e1, e2, e3]
  rw [textT, textT, hr n (Nat.le_refl _)]

/-- What show.Text tells of a grammar. -/
def tellS (r : Bool) (t : List UInt8) (rs : Nat) : ByteArray := if r && decide (rs ≤ 8192) && decide (t.length ≤ 8192) then ⟨t.toArray⟩ else ⟨#[]⟩
def tellE (r : Bool) (t : List UInt8) (rs : Nat) : Int := if r then (if decide (rs ≤ 8192) && decide (t.length ≤ 8192) then 0 else 11) else 1

theorem tell_ok {r : Bool} {t : List UInt8} {rs : Nat} (h : tellE r t rs = 0) : tellS r t rs = ⟨t.toArray⟩ := by
  unfold tellE at h
  unfold tellS
  cases r
  · simp at h
  · cases h2 : (decide (rs ≤ 8192) && decide (t.length ≤ 8192))
    · rw [h2] at h; simp at h
    · simp only [Bool.true_and]
      rw [h2]
      simp

theorem text_any {ta na la pa : Option Addr} {tc nc lc pc : Nat} {ts : List (ByteArray × Int)} {ns : List ByteArray} {lv : List Int} {n : Nat} {L : Nat → Int} {R : Nat → List Int} {ra : Nat → Option Addr} {rc : Nat → Nat} {V : Nat → Int} {st : Int} {w : World} {tn nn ln : Nat} (hlen : ts.length = tn ∧ ns.length = nn ∧ lv.length = ln) (hG : GAt w ta na la pa tc nc lc pc ts ns lv n L R ra rc V) (r : Bool) (hr : r = true ↔ validOK ts ns lv st n L R V ∨ closedOK ts ns lv st n L R V) :
    Calls Try.prog 8 #[.agg #[.slice ta tn tc, .slice na nn nc, .slice la ln lc, .int .i64 st, .slice pa n pc]] w fun e w' => e = .returned (.tuple #[.string (tellS r (textT ts ns lv st n L R V) (rsum R n)), .int .i64 (tellE r (textT ts ns lv st n L R V) (rsum R n))]) ∧ w.grownBy w' none :=
  text_core ta na la pa tc nc lc pc ts ns lv n L R ra rc V st w tn nn ln hlen hG r hr (fun hrt => by have h8 := (either_text (hr.1 hrt)).1; rw [hlen.1, hlen.2.1, hlen.2.2] at h8; exact h8) (fun hrt => by have h8 := (either_text (hr.1 hrt)).2; rw [hlen.2.2] at h8; exact h8)

set_option maxRecDepth 100000 in
set_option maxHeartbeats 4000000 in
theorem two_core (ta na la pa ta2 na2 la2 pa2 : Option Addr) (tc nc lc pc tc2 nc2 lc2 pc2 : Nat) (ts ts2 : List (ByteArray × Int)) (ns ns2 : List ByteArray) (lv lv2 : List Int) (n n2 : Nat) (L L2 : Nat → Int) (R R2 : Nat → List Int) (ra ra2 : Nat → Option Addr) (rc rc2 : Nat → Nat) (V V2 : Nat → Int) (st st2 : Int) (w : World) (tn nn ln tn2 nn2 ln2 : Nat)
    (hlen : ts.length = tn ∧ ns.length = nn ∧ lv.length = ln) (hG : GAt w ta na la pa tc nc lc pc ts ns lv n L R ra rc V) (hnt : ta = none → tn = 0 ∧ tc = 0) (hnl : la = none → ln = 0 ∧ lc = 0) (h1 : tn ≤ 5864062014805) (h2 : nn ≤ 8796093022208) (h4 : n ≤ 3518437208883) (hts : ∀ t ∈ ts, t.1.size ≤ 140737488355328) (hns : ∀ s ∈ ns, s.size ≤ 140737488355328)
    (hlen2 : ts2.length = tn2 ∧ ns2.length = nn2 ∧ lv2.length = ln2) (hG2 : GAt w ta2 na2 la2 pa2 tc2 nc2 lc2 pc2 ts2 ns2 lv2 n2 L2 R2 ra2 rc2 V2) (hnt2 : ta2 = none → tn2 = 0 ∧ tc2 = 0) (hnl2 : la2 = none → ln2 = 0 ∧ lc2 = 0) (h12 : tn2 ≤ 5864062014805) (h22 : nn2 ≤ 8796093022208) (h42 : n2 ≤ 3518437208883) (hts2 : ∀ t ∈ ts2, t.1.size ≤ 140737488355328) (hns2 : ∀ s ∈ ns2, s.size ≤ 140737488355328) :
    Calls Try.prog 6 #[.agg #[.slice ta tn tc, .slice na nn nc, .slice la ln lc, .int .i64 st, .slice pa n pc], .agg #[.slice ta2 tn2 tc2, .slice na2 nn2 nc2, .slice la2 ln2 lc2, .int .i64 st2, .slice pa2 n2 pc2]] w fun e w' => e = .returned (.bool true) ∧ w.grownBy w' none := by
  obtain ⟨r, hr⟩ := boolOf (validOK ts ns lv st n L R V ∨ closedOK ts ns lv st n L R V)
  obtain ⟨r2, hr2⟩ := boolOf (validOK ts2 ns2 lv2 st2 n2 L2 R2 V2 ∨ closedOK ts2 ns2 lv2 st2 n2 L2 R2 V2)
  obtain ⟨v, hv⟩ := boolOf (validOK ts ns lv st n L R V)
  obtain ⟨v2, hv2⟩ := boolOf (validOK ts2 ns2 lv2 st2 n2 L2 R2 V2)
  obtain ⟨sm, hsm⟩ := boolOf (sameG ts ts2 ns ns2 lv lv2 st st2 n n2 L L2 R R2 V V2)
  obtain ⟨s1, hs1⟩ : ∃ x, x = tellS r (textT ts ns lv st n L R V) (rsum R n) := ⟨_, rfl⟩
  obtain ⟨e1, he1⟩ : ∃ x, x = tellE r (textT ts ns lv st n L R V) (rsum R n) := ⟨_, rfl⟩
  obtain ⟨s2, hs2⟩ : ∃ x, x = tellS r2 (textT ts2 ns2 lv2 st2 n2 L2 R2 V2) (rsum R2 n2) := ⟨_, rfl⟩
  obtain ⟨e2, he2⟩ : ∃ x, x = tellE r2 (textT ts2 ns2 lv2 st2 n2 L2 R2 V2) (rsum R2 n2) := ⟨_, rfl⟩
  have HC1 : Hid (∀ Y, w.grownBy Y none → Calls Try.prog 7 #[.agg #[.slice ta tn tc, .slice na nn nc, .slice la ln lc, .int .i64 st, .slice pa n pc]] Y fun e w' => ∃ ta' na' la' pa' tc' nc' lc' pc' ra' rc', e = .returned (.agg #[.slice ta' tn tc', .slice na' nn nc', .slice la' ln lc', .int .i64 st, .slice pa' n pc']) ∧ GAt w' ta' na' la' pa' tc' nc' lc' pc' ts ns lv n L R ra' rc' V ∧ (∀ i, i < n → (R i).length ≤ rc' i) ∧ (ta' = none → tn = 0 ∧ tc' = 0) ∧ (la' = none → ln = 0 ∧ lc' = 0) ∧ Y.grownBy w' none) := fun Y hY => rcopy_any ta na la pa tn nn ln n tc nc lc pc st ts ns lv L R ra rc V Y hlen (hG.kept hY) hnt hnl (by omega) (by omega) (by omega)
  have HC2 : Hid (∀ Y, w.grownBy Y none → Calls Try.prog 7 #[.agg #[.slice ta2 tn2 tc2, .slice na2 nn2 nc2, .slice la2 ln2 lc2, .int .i64 st2, .slice pa2 n2 pc2]] Y fun e w' => ∃ ta' na' la' pa' tc' nc' lc' pc' ra' rc', e = .returned (.agg #[.slice ta' tn2 tc', .slice na' nn2 nc', .slice la' ln2 lc', .int .i64 st2, .slice pa' n2 pc']) ∧ GAt w' ta' na' la' pa' tc' nc' lc' pc' ts2 ns2 lv2 n2 L2 R2 ra' rc' V2 ∧ (∀ i, i < n2 → (R2 i).length ≤ rc' i) ∧ (ta' = none → tn2 = 0 ∧ tc' = 0) ∧ (la' = none → ln2 = 0 ∧ lc' = 0) ∧ Y.grownBy w' none) := fun Y hY => rcopy_any ta2 na2 la2 pa2 tn2 nn2 ln2 n2 tc2 nc2 lc2 pc2 st2 ts2 ns2 lv2 L2 R2 ra2 rc2 V2 Y hlen2 (hG2.kept hY) hnt2 hnl2 (by omega) (by omega) (by omega)
  have HT1 : Hid (∀ ta' na' la' pa' tc' nc' lc' pc' ra' rc', ∀ Y, GAt Y ta' na' la' pa' tc' nc' lc' pc' ts ns lv n L R ra' rc' V → Calls Try.prog 8 #[.agg #[.slice ta' tn tc', .slice na' nn nc', .slice la' ln lc', .int .i64 st, .slice pa' n pc']] Y fun e w' => e = .returned (.tuple #[.string s1, .int .i64 e1]) ∧ Y.grownBy w' none) := by
    intro ta' na' la' pa' tc' nc' lc' pc' ra' rc' Y hY
    rw [hs1, he1]
    exact text_any hlen hY r hr
  have HT2 : Hid (∀ ta' na' la' pa' tc' nc' lc' pc' ra' rc', ∀ Y, GAt Y ta' na' la' pa' tc' nc' lc' pc' ts2 ns2 lv2 n2 L2 R2 ra' rc' V2 → Calls Try.prog 8 #[.agg #[.slice ta' tn2 tc', .slice na' nn2 nc', .slice la' ln2 lc', .int .i64 st2, .slice pa' n2 pc']] Y fun e w' => e = .returned (.tuple #[.string s2, .int .i64 e2]) ∧ Y.grownBy w' none) := by
    intro ta' na' la' pa' tc' nc' lc' pc' ra' rc' Y hY
    rw [hs2, he2]
    exact text_any hlen2 hY r2 hr2
  have HV1 : Hid (∀ Y, w.grownBy Y none → Calls Try.prog 24 #[.agg #[.slice ta tn tc, .slice na nn nc, .slice la ln lc, .int .i64 st, .slice pa n pc]] Y fun e w' => e = .returned (.bool v) ∧ Y.grownBy w' none) := fun Y hY => by
    have := rvalid_any ta na la pa tc nc lc pc st ts ns lv n L R ra rc V Y (hG.kept hY) hts hns v hv
    rwa [hlen.1, hlen.2.1, hlen.2.2] at this
  have HV2 : Hid (∀ Y, w.grownBy Y none → Calls Try.prog 24 #[.agg #[.slice ta2 tn2 tc2, .slice na2 nn2 nc2, .slice la2 ln2 lc2, .int .i64 st2, .slice pa2 n2 pc2]] Y fun e w' => e = .returned (.bool v2) ∧ Y.grownBy w' none) := fun Y hY => by
    have := rvalid_any ta2 na2 la2 pa2 tc2 nc2 lc2 pc2 st2 ts2 ns2 lv2 n2 L2 R2 ra2 rc2 V2 Y (hG2.kept hY) hts2 hns2 v2 hv2
    rwa [hlen2.1, hlen2.2.1, hlen2.2.2] at this
  have HSM : Hid (∀ Y, w.grownBy Y none → Calls Try.prog 10 #[.agg #[.slice ta tn tc, .slice na nn nc, .slice la ln lc, .int .i64 st, .slice pa n pc], .agg #[.slice ta2 tn2 tc2, .slice na2 nn2 nc2, .slice la2 ln2 lc2, .int .i64 st2, .slice pa2 n2 pc2]] Y fun e w' => e = .returned (.bool sm) ∧ Y.grownBy w' none) := fun Y hY => by
    have h9 := rsame_any (st := st) (st' := st2) (hG.kept hY) (hG2.kept hY) sm hsm
    rw [hlen.1, hlen.2.1, hlen.2.2, hlen2.1, hlen2.2.1, hlen2.2.2] at h9
    exact h9
  have KA : Hid (∀ Y, Calls Try.prog 11 #[] Y fun e w' => e = .returned (.bool true) ∧ Y.grownBy w' none) := hawake_any
  have HEQ : Hid (v = true → v2 = true → e1 = 0 → e2 = 0 → (s1.toList == s2.toList) = sm) := fun a b c d => by
    rw [Bool.eq_iff_iff, beq_iff_eq, ByteArray.toList_eq, ByteArray.toList_eq, hsm, hs1, hs2, tell_ok (by rw [← he1]; exact c), tell_ok (by rw [← he2]; exact d)]
    constructor
    · intro e
      exact text_same (hv.1 a) (hv2.1 b) (by simpa using e)
    · intro e
      rw [same_text e]
  have HX0 : Hid (Ph2 w _ #[.slice ta tn tc, .slice na nn nc, .slice la ln lc, .int .i64 st, .slice pa n pc] #[.slice ta2 tn2 tc2, .slice na2 nn2 nc2, .slice la2 ln2 lc2, .int .i64 st2, .slice pa2 n2 pc2]) := Ph2.mk' w _ _
  clear hG hG2 hnt hnl hnt2 hnl2 hlen hlen2 hr hr2 hv hv2 hsm hts hns hts2 hns2 hs1 hs2 he1 he2
  go_enter Try.func6, Try.ntmps6
  go_wp2_with fail
  refine Calls.mono (HC1.out _ HX0.out.grown) ?_
  rintro e w1 ⟨ta', na', la', pa', tc', nc', lc', pc', ra', rc', rfl, hG', _, _, _, hg1⟩
  have KT1 := show Hid _ from HT1.out ta' na' la' pa' tc' nc' lc' pc' ra' rc' w1 hG'
  have HX1 : Hid (Ph2 w w1 #[.slice ta tn tc, .slice na nn nc, .slice la ln lc, .int .i64 st, .slice pa n pc] #[.slice ta2 tn2 tc2, .slice na2 nn2 nc2, .slice la2 ln2 lc2, .int .i64 st2, .slice pa2 n2 pc2]) := HX0.out.kept hg1
  clear hG' hg1 HX0 HT1 HC1
  go_wp2_with fail
  refine Calls.mono KT1.out ?_
  rintro e w2 ⟨rfl, hg2⟩
  have HX2 : Hid (Ph2 w w2 #[.slice ta tn tc, .slice na nn nc, .slice la ln lc, .int .i64 st, .slice pa n pc] #[.slice ta2 tn2 tc2, .slice na2 nn2 nc2, .slice la2 ln2 lc2, .int .i64 st2, .slice pa2 n2 pc2]) := HX1.out.kept hg2
  clear hg2 KT1 HX1
  obtain ⟨⟨m0, m1, m2, m3, m4⟩, n0, n1, n3, n4, n5⟩ := HX2.out.cells
  go_wp2_with fail
  refine Calls.mono (HC2.out _ HX2.out.grown) ?_
  rintro e w3 ⟨ta', na', la', pa', tc', nc', lc', pc', ra', rc', rfl, hG', _, _, _, hg3⟩
  have KT2 := show Hid _ from HT2.out ta' na' la' pa' tc' nc' lc' pc' ra' rc' w3 hG'
  have HX3 : Hid (Ph2 w w3 #[.slice ta tn tc, .slice na nn nc, .slice la ln lc, .int .i64 st, .slice pa n pc] #[.slice ta2 tn2 tc2, .slice na2 nn2 nc2, .slice la2 ln2 lc2, .int .i64 st2, .slice pa2 n2 pc2]) := HX2.out.kept hg3
  clear hG' hg3 HX2 HT2 HC2 m0 m1 m2 m3 m4 n0 n1 n3 n4 n5
  go_wp2_with fail
  refine Calls.mono KT2.out ?_
  rintro e w4 ⟨rfl, hg4⟩
  have HX4 : Hid (Ph2 w w4 #[.slice ta tn tc, .slice na nn nc, .slice la ln lc, .int .i64 st, .slice pa n pc] #[.slice ta2 tn2 tc2, .slice na2 nn2 nc2, .slice la2 ln2 lc2, .int .i64 st2, .slice pa2 n2 pc2]) := HX3.out.kept hg4
  clear hg4 KT2 HX3
  obtain ⟨⟨m0, m1, m2, m3, m4⟩, n0, n1, n3, n4, n5⟩ := HX4.out.cells
  go_wp2_with fail
  refine Calls.mono (HV1.out _ HX4.out.grown) ?_
  rintro e w5 ⟨rfl, hg5⟩
  have HX5 : Hid (Ph2 w w5 #[.slice ta tn tc, .slice na nn nc, .slice la ln lc, .int .i64 st, .slice pa n pc] #[.slice ta2 tn2 tc2, .slice na2 nn2 nc2, .slice la2 ln2 lc2, .int .i64 st2, .slice pa2 n2 pc2]) := HX4.out.kept hg5
  clear hg5 HX4 m0 m1 m2 m3 m4 n0 n1 n3 n4 n5
  obtain ⟨⟨m0, m1, m2, m3, m4⟩, n0, n1, n3, n4, n5⟩ := HX5.out.cells
  cases v with
  | false =>
    go_wp2_with fail
    refine Calls.mono (KA.out _) ?_
    rintro e w6 ⟨rfl, hg6⟩
    have HG6 : Hid (w.grownBy w6 none) := grown_trans HX5.out.grown hg6
    clear hg6
    go_wp2_with fail
    go_ret
    exact ⟨rfl, HG6.out⟩
  | true =>
    go_wp2_with fail
    refine Calls.mono (HV2.out _ HX5.out.grown) ?_
    rintro e w6 ⟨rfl, hg6⟩
    have HX6 : Hid (Ph2 w w6 #[.slice ta tn tc, .slice na nn nc, .slice la ln lc, .int .i64 st, .slice pa n pc] #[.slice ta2 tn2 tc2, .slice na2 nn2 nc2, .slice la2 ln2 lc2, .int .i64 st2, .slice pa2 n2 pc2]) := HX5.out.kept hg6
    clear hg6 HX5 m0 m1 m2 m3 m4 n0 n1 n3 n4 n5
    obtain ⟨⟨m0, m1, m2, m3, m4⟩, n0, n1, n3, n4, n5⟩ := HX6.out.cells
    have hcase : v2 = false ∨ (v2 = true ∧ (e1 == 0) = false) ∨ (v2 = true ∧ e1 = 0 ∧ (e2 == 0) = false) ∨ (v2 = true ∧ e1 = 0 ∧ e2 = 0) := by
      cases v2
      · exact .inl rfl
      · by_cases a : e1 = 0
        · by_cases b : e2 = 0
          · exact .inr (.inr (.inr ⟨rfl, a, b⟩))
          · exact .inr (.inr (.inl ⟨rfl, a, by simp [b]⟩))
        · exact .inr (.inl ⟨rfl, by simp [a]⟩)
    rcases hcase with rfl | ⟨rfl, hd⟩ | ⟨rfl, rfl, hd⟩ | ⟨rfl, rfl, rfl⟩
    case inr.inr.inr =>
      have hd : (s1.toList == s2.toList) = sm := by first | exact HEQ.out trivial trivial rfl rfl | exact HEQ.out trivial trivial trivial trivial | exact HEQ.out rfl rfl | exact HEQ.out rfl rfl rfl rfl | simpa using HEQ.out
      clear HEQ
      go_wp2_with fail
      refine Calls.mono (HSM.out _ HX6.out.grown) ?_
      rintro e w7 ⟨rfl, hg7⟩
      have HG7 : Hid (w.grownBy w7 none) := grown_trans HX6.out.grown hg7
      clear hg7
      go_wp2_with fail
      refine Calls.mono (KA.out _) ?_
      rintro e w8 ⟨rfl, hg8⟩
      have HG8 : Hid (w.grownBy w8 none) := grown_trans HG7.out hg8
      clear hg8
      go_wp2_with fail
      go_ret
      exact ⟨rfl, HG8.out⟩
    all_goals
      go_wp2_with fail
      refine Calls.mono (KA.out _) ?_
      rintro e w7 ⟨rfl, hg7⟩
      have HG7 : Hid (w.grownBy w7 none) := grown_trans HX6.out.grown hg7
      clear hg7
      go_wp2_with fail
      go_ret
      exact ⟨rfl, HG7.out⟩

end Go.Proofs.Ytkhmhcinepfemaa

/-
  A grammar that came in, as the walks take it.
-/
namespace Go.Proofs.Ytkhmhcinepfemaa
open Go.ChangeShapes Go.WideShapes Go.ChangeAt Go.RowKit Go.Deep

theorem cellsInt : Try.prog.cellsOf 3 = 1 := by kernel_rfl
theorem cellsStr : Try.prog.cellsOf 9 = 1 := by kernel_rfl
theorem cellsInts : Try.prog.cellsOf 24 = 1 := by kernel_rfl
theorem cellsTerm : Try.prog.cellsOf 60 = 2 := by kernel_rfl
theorem cellsProd : Try.prog.cellsOf 47 = 3 := by kernel_rfl
theorem cellsTerms : Try.prog.cellsOf 22 = 1 := by kernel_rfl
theorem cellsStrs : Try.prog.cellsOf 23 = 1 := by kernel_rfl
theorem cellsProds : Try.prog.cellsOf 25 = 1 := by kernel_rfl
theorem cellsGram : Try.prog.cellsOf 27 = 5 := by kernel_rfl
theorem bytesInt : Try.prog.bytesOf 3 = 8 := by kernel_rfl
theorem bytesStr : Try.prog.bytesOf 9 = 16 := by kernel_rfl
theorem bytesTerm : Try.prog.bytesOf 60 = 24 := by kernel_rfl
theorem bytesProd : Try.prog.bytesOf 47 = 40 := by kernel_rfl

theorem weights_mem_all {H : Type} {P : Program} {e : TypeId} {d : DataW H} : ∀ {l : List (DataW H)}, d ∈ l → ∀ n ∈ d.weights P e, n ∈ DataW.weightsAll P e l
  | d0 :: l, hd, n, hn => by
    simp only [DataW.weightsAll, List.mem_append]
    rcases List.mem_cons.1 hd with rfl | h
    · exact .inl hn
    · exact .inr (weights_mem_all h n hn)

theorem ints_of_open {W : World} {x : Addr} {len cap : Nat} {zs : List Int} (hl : len ≤ cap) (hz : zs.length = cap) (hc : ∀ i, i < zs.length → W.cell? (x.add i) = some (.int .i64 (zs.getD i 0))) :
    IntsAt W (some x) (zs.take len) := by
  by_cases h0 : len = 0
  · subst h0; exact .inl (by simp)
  · obtain ⟨b, off, spot⟩ := x
    have h1 := hc 0 (by omega)
    have hs : spot = none := by simpa [Addr.add] using World.cell?_spot h1
    subst hs
    refine .inr ⟨b, off, rfl, fun i hi => ?_⟩
    have hi' : i < len := by simp at hi; omega
    have h2 := hc i (by omega)
    rw [Addr.add_mid] at h2
    rw [h2]
    congr 2
    simp [List.getD, hi']
theorem strs_of_open {W : World} {x : Addr} {len cap : Nat} {zs : List ByteArray} (hl : len ≤ cap) (hz : zs.length = cap) (hc : ∀ i, i < zs.length → W.cell? (x.add i) = some (.string (zs.getD i ByteArray.empty))) :
    StrsAt W (some x) (zs.take len) := by
  by_cases h0 : len = 0
  · subst h0; exact .inl (by simp)
  · obtain ⟨b, off, spot⟩ := x
    have h1 := hc 0 (by omega)
    have hs : spot = none := by simpa [Addr.add] using World.cell?_spot h1
    subst hs
    refine .inr ⟨b, off, rfl, fun i hi => ?_⟩
    have hi' : i < len := by simp at hi; omega
    have h2 := hc i (by omega)
    rw [Addr.add_mid] at h2
    rw [h2]
    congr 2
    have hi2 : i < zs.length := by omega
    simp [List.getD, hi', hi2]

section
variable {H : Type} {enc : TypeId × Value → H} {W : World} {fuel : Nat} {cs : List Value} {x : DataW H × List MemPlace}

theorem open_ints_in (h : DataW.trod enc Try.prog W 0 (fun _ => true) true fuel 24 cs = some x) (hw : ∀ n ∈ x.1.weights Try.prog 24, n ≤ reachBytes) :
    ∃ (a : Option Addr) (l : List Int) (c : Nat), cs = [.slice a l.length c] ∧ IntsAt W a l ∧ l.length ≤ 17592186044416 ∧ l.length ≤ c ∧ (a = none → l.length = 0 ∧ c = 0) ∧ ∀ z ∈ l, (Lit.int .i64 z).wf = true := by
  rcases open_ints Try.underlying24 Try.underlying3 cellsInt h with ⟨hcs, _⟩ | ⟨y, l, c, zs, hcs, _, hl, hm, hz, hx, hcell, hwz⟩
  · exact ⟨none, [], 0, hcs, .inl rfl, by decide, Nat.le_refl _, fun _ => ⟨rfl, rfl⟩, by simp⟩
  · have hz' : zs.length = c := by simpa using hz
    have hlen : (zs.take l).length = l := by rw [List.length_take]; omega
    refine ⟨some y, zs.take l, c, by rw [hlen]; exact hcs, ints_of_open hl hz' hcell, ?_, by rw [hlen]; exact hl, (fun h => by cases h), fun z hz => hwz z (List.mem_of_mem_take hz)⟩
    have := hw ((lits (H := H) .i64 (zs.take l)).length * 8 + (lits (H := H) .i64 (zs.drop l)).length * 8) (by rw [hx]; simp [DataW.weights, Try.underlying24, bytesInt, Nat.add_mul])
    simp only [lits, List.length_map, List.length_take, List.length_drop, reachBytes] at this
    rw [hlen]
    omega

theorem open_strs_in (h : DataW.trod enc Try.prog W 0 (fun _ => true) true fuel 23 cs = some x) (hw : ∀ n ∈ x.1.weights Try.prog 23, n ≤ reachBytes) :
    ∃ (a : Option Addr) (l : List ByteArray) (c : Nat), cs = [.slice a l.length c] ∧ StrsAt W a l ∧ l.length ≤ 8796093022208 ∧ l.length ≤ c ∧ (a = none → l.length = 0 ∧ c = 0) ∧ ∀ s ∈ l, s.size ≤ 140737488355328 := by
  rcases open_strings Try.underlying23 Try.underlying9 cellsStr h with ⟨hcs, _⟩ | ⟨y, l, c, zs, hcs, _, hl, hm, hz, hx, hcell, hwz⟩
  · exact ⟨none, [], 0, hcs, .inl rfl, by decide, Nat.le_refl _, fun _ => ⟨rfl, rfl⟩, by simp⟩
  · have hz' : zs.length = c := by simpa using hz
    have hlen : (zs.take l).length = l := by rw [List.length_take]; omega
    refine ⟨some y, zs.take l, c, by rw [hlen]; exact hcs, strs_of_open hl hz' hcell, ?_, by rw [hlen]; exact hl, (fun h => by cases h), fun s hs => ?_⟩
    rotate_left
    · have := hw s.data.toList.length (by
        rw [hx]
        simp only [DataW.weights, Try.underlying23, List.mem_cons, List.mem_append]
        exact .inr (.inl (weights_mem_all (List.mem_map.2 ⟨s, hs, rfl⟩) _ (by simp [DataW.weights]))))
      have e : s.data.toList.length = s.size := by simp
      unfold reachBytes at this
      omega
    have := hw ((strs (H := H) (zs.take l)).length * 16 + (strs (H := H) (zs.drop l)).length * 16) (by rw [hx]; simp [DataW.weights, Try.underlying23, bytesStr, Nat.add_mul])
    simp only [strs, List.length_map, List.length_take, List.length_drop, reachBytes] at this
    rw [hlen]
    omega

set_option maxRecDepth 100000 in
theorem open_terms_in (h : DataW.trod enc Try.prog W 0 (fun _ => true) true fuel 22 cs = some x) (hw : ∀ n ∈ x.1.weights Try.prog 22, n ≤ reachBytes) :
    ∃ (a : Option Addr) (l : List (ByteArray × Int)) (c : Nat), cs = [.slice a l.length c] ∧ TermsAt W a l ∧ l.length ≤ 5864062014805 ∧ l.length ≤ c ∧ (a = none → l.length = 0 ∧ c = 0) ∧ ∀ t ∈ l, (Lit.int .i64 t.2).wf = true ∧ t.1.size ≤ 140737488355328 := by
  rcases open_slice Try.underlying22 h with ⟨hcs, _⟩ | ⟨ad, len, cap, m, n, D, Pl, hcs, _, hl, hm, hmm, hx, heach⟩
  · exact ⟨none, [], 0, hcs, .inl rfl, by decide, Nat.le_refl _, fun _ => ⟨rfl, rfl⟩, by simp⟩
  · simp only [if_true] at hmm
    subst hx
    rw [cellsTerm] at heach
    have hlen : len ≤ 5864062014805 := by
      have := hw (((List.range len).map D).length * 24 + ((List.range (m - len)).map fun j => D (len + j)).length * 24) (by simp [DataW.weights, Try.underlying22, bytesTerm, Nat.add_mul])
      simp only [List.length_map, List.length_range, reachBytes] at this
      omega
    have each : ∀ i, i < len → ∃ t : ByteArray × Int, ∃ b off, ad = ⟨b, off, none⟩ ∧ W.cell? ⟨b, off + i * 2, none⟩ = some (.string t.1) ∧ W.cell? ⟨b, off + i * 2 + 1, none⟩ = some (.int .i64 t.2) ∧ (Lit.int .i64 t.2).wf = true ∧ t.1.size ≤ 140737488355328 := by
      intro i hi
      obtain ⟨cs', h1, h2⟩ := heach i (by omega)
      obtain ⟨_, hcl, hcell⟩ := World.cells?_some h1
      obtain ⟨xs, k, hk, hxy, _, hxl, hfs⟩ := DataW.trod_struct Try.underlying60 h2
      match xs, hxl, cs', hcl with
      | [y0, y1], _, [v0, v1], _ =>
        have g0 := hfs 0 _ rfl
        have g1 := hfs 1 _ rfl
        simp [cellsInt, cellsStr] at g0 g1
        simp only [Prod.mk.injEq] at hxy
        obtain ⟨s0, e0, ed0, _⟩ := DataW.trod_string Try.underlying9 g0
        have hsz : s0.size ≤ 140737488355328 := by
          have := hw s0.data.toList.length (by
            simp only [DataW.weights, Try.underlying22, List.mem_cons, List.mem_append]
            refine .inr (.inl (weights_mem_all (List.mem_map.2 ⟨i, List.mem_range.2 hi, rfl⟩) _ ?_))
            rw [hxy.1]
            simp only [DataW.weights, Try.underlying60]
            refine DataW.weights_mem_each (j := 0) (t := 9) (d := y0.1) rfl rfl _ ?_
            rw [show y0.1 = .lit (.string s0.data.toList) from congrArg Prod.fst ed0]
            simp [DataW.weights])
          have e : s0.data.toList.length = s0.size := by simp
          unfold reachBytes at this
          omega
        obtain ⟨z1, e1, _, w1⟩ := DataW.trod_int Try.underlying3 g1
        simp only [List.cons.injEq, and_true] at e0 e1
        subst e0 e1
        have c0 := hcell 0 (by omega)
        have c1 := hcell 1 (by omega)
        rw [Deep.add_add] at c0 c1
        obtain ⟨b, off, spot⟩ := ad
        have hs : spot = none := by
          obtain ⟨cs0, h10, _⟩ := heach 0 (by omega)
          obtain ⟨_, hcl0, hcell0⟩ := World.cells?_some h10
          have q0 := hcell0 0 (by omega)
          rw [List.getElem?_eq_getElem (by omega)] at q0
          simpa [Addr.add] using World.cell?_spot q0
        subst hs
        rw [add_plain] at c0 c1
        exact ⟨(s0, z1), b, off, rfl, by simpa using c0, by simpa [Nat.add_assoc] using c1, w1, hsz⟩
    obtain ⟨S, hS⟩ := choose_lt (α := ByteArray × Int) each
    have hg : ∀ i, i < len → ((List.range len).map S).getD i (⟨#[]⟩, 0) = S i := fun i hi => by simp [List.getD, hi]
    refine ⟨some ad, (List.range len).map S, cap, by simpa using hcs, ?_, by simpa using hlen, by simpa using hl, fun h => (by cases h), fun t ht => ?_⟩
    · by_cases h0 : len = 0
      · subst h0; exact .inl (by simp)
      · obtain ⟨b, off, rfl, _⟩ := hS 0 (by omega)
        refine .inr ⟨b, off, rfl, fun i hi => ?_⟩
        have hi' : i < len := by simpa using hi
        obtain ⟨b', off', e, r1, r2, _⟩ := hS i hi'
        simp only [Addr.mk.injEq, and_true] at e
        obtain ⟨rfl, rfl⟩ := e
        rw [hg i hi']
        exact ⟨r1, r2⟩
    · obtain ⟨i, hi, rfl⟩ := List.mem_map.1 ht
      obtain ⟨_, _, _, _, _, hwf⟩ := hS i (by simpa using hi)
      exact hwf

set_option maxRecDepth 100000 in
theorem open_prods_in (h : DataW.trod enc Try.prog W 0 (fun _ => true) true fuel 25 cs = some x) (hw : ∀ n ∈ x.1.weights Try.prog 25, n ≤ reachBytes) :
    ∃ (a : Option Addr) (n c : Nat) (L V : Nat → Int) (R : Nat → List Int) (ra : Nat → Option Addr) (rc : Nat → Nat), cs = [.slice a n c] ∧ ProdsAt W a n L R ra rc V ∧ n ≤ 3518437208883 ∧ n ≤ c ∧ (a = none → n = 0 ∧ c = 0) ∧ ∀ i, i < n → (R i).length ≤ rc i ∧ (Lit.int .i64 (L i)).wf = true ∧ (Lit.int .i64 (V i)).wf = true ∧ ∀ z ∈ R i, (Lit.int .i64 z).wf = true := by
  rcases open_slice Try.underlying25 h with ⟨hcs, _⟩ | ⟨ad, len, cap, m, n, D, Pl, hcs, _, hl, hm, hmm, hx, heach⟩
  · exact ⟨none, 0, 0, fun _ => 0, fun _ => 0, fun _ => [], fun _ => none, fun _ => 0, hcs, .inl rfl, by decide, Nat.le_refl _, fun _ => ⟨rfl, rfl⟩, fun i hi => absurd hi (Nat.not_lt_zero i)⟩
  · simp only [if_true] at hmm
    subst hx
    rw [cellsProd] at heach
    have hlen : len ≤ 3518437208883 := by
      have := hw (((List.range len).map D).length * 40 + ((List.range (m - len)).map fun j => D (len + j)).length * 40) (by simp [DataW.weights, Try.underlying25, bytesProd, Nat.add_mul])
      simp only [List.length_map, List.length_range, reachBytes] at this
      omega
    have each : ∀ i, i < len → ∃ t : Int × Int × List Int × Option Addr × Nat, ∃ b off, ad = ⟨b, off, none⟩ ∧ (W.cell? ⟨b, off + i * 3, none⟩ = some (.int .i64 t.1) ∧ W.cell? ⟨b, off + i * 3 + 1, none⟩ = some (.slice t.2.2.2.1 t.2.2.1.length t.2.2.2.2) ∧ W.cell? ⟨b, off + i * 3 + 2, none⟩ = some (.int .i64 t.2.1) ∧ IntsAt W t.2.2.2.1 t.2.2.1 ∧ (t.2.2.2.1 = none → t.2.2.2.2 = 0) ∧ t.2.2.1.length ≤ 17592186044416) ∧
        t.2.2.1.length ≤ t.2.2.2.2 ∧ (Lit.int .i64 t.1).wf = true ∧ (Lit.int .i64 t.2.1).wf = true ∧ ∀ z ∈ t.2.2.1, (Lit.int .i64 z).wf = true := by
      intro i hi
      obtain ⟨cs', h1, h2⟩ := heach i (by omega)
      obtain ⟨_, hcl, hcell⟩ := World.cells?_some h1
      obtain ⟨xs, k, hk, hxy, _, hxl, hfs⟩ := DataW.trod_struct Try.underlying47 h2
      have hDw : ∀ n ∈ (D i).weights Try.prog 47, n ≤ reachBytes := fun q hq => hw q (by
        simp only [DataW.weights, Try.underlying25, List.mem_cons, List.mem_append]
        exact .inr (.inl (weights_mem_all (List.mem_map.2 ⟨i, List.mem_range.2 hi, rfl⟩) q hq)))
      match xs, hxl, cs', hcl with
      | [y0, y1, y2], _, [v0, v1, v2], _ =>
        have g0 := hfs 0 _ rfl
        have g1 := hfs 1 _ rfl
        have g2 := hfs 2 _ rfl
        simp [cellsInt, cellsInts] at g0 g1 g2
        simp only [Prod.mk.injEq] at hxy
        have hw1 : ∀ n ∈ y1.1.weights Try.prog 24, n ≤ reachBytes := fun q hq => hDw q (by
          rw [hxy.1]
          simp only [DataW.weights, Try.underlying47]
          exact DataW.weights_mem_each (j := 1) (t := 24) (d := y1.1) rfl rfl q hq)
        obtain ⟨z0, e0, _, w0⟩ := DataW.trod_int Try.underlying3 g0
        obtain ⟨la, l, lc, e1, hints, hll, hlc, hnil, hwl⟩ := open_ints_in g1 hw1
        obtain ⟨z2, e2, _, w2⟩ := DataW.trod_int Try.underlying3 g2
        simp only [List.cons.injEq, and_true] at e0 e1 e2
        subst e0 e1 e2
        have c0 := hcell 0 (by omega)
        have c1 := hcell 1 (by omega)
        have c2 := hcell 2 (by omega)
        rw [Deep.add_add] at c0 c1 c2
        obtain ⟨b, off, spot⟩ := ad
        have hs : spot = none := by
          obtain ⟨cs0, h10, _⟩ := heach 0 (by omega)
          obtain ⟨_, hcl0, hcell0⟩ := World.cells?_some h10
          have q0 := hcell0 0 (by omega)
          rw [List.getElem?_eq_getElem (by omega)] at q0
          simpa [Addr.add] using World.cell?_spot q0
        subst hs
        rw [add_plain] at c0 c1 c2
        exact ⟨(z0, z2, l, la, lc), b, off, rfl, ⟨by simpa using c0, by simpa [Nat.add_assoc] using c1, by simpa [Nat.add_assoc] using c2, hints, fun h => (hnil h).2, hll⟩, hlc, w0, w2, hwl⟩
    obtain ⟨S, hS⟩ := choose_lt (α := Int × Int × List Int × Option Addr × Nat) each
    refine ⟨some ad, len, cap, fun i => (S i).1, fun i => (S i).2.1, fun i => (S i).2.2.1, fun i => (S i).2.2.2.1, fun i => (S i).2.2.2.2, hcs, ?_, hlen, hl, fun h => (by cases h), fun i hi => ?_⟩
    · by_cases h0 : len = 0
      · exact .inl h0
      · obtain ⟨b, off, rfl, _⟩ := hS 0 (by omega)
        refine .inr ⟨b, off, rfl, fun i hi => ?_⟩
        obtain ⟨b', off', e, r, _⟩ := hS i hi
        simp only [Addr.mk.injEq, and_true] at e
        obtain ⟨rfl, rfl⟩ := e
        exact r
    · obtain ⟨_, _, _, _, r⟩ := hS i hi
      exact r

/-- What else is known of a grammar that came in. -/
structure GIn (ta la : Option Addr) (tc lc : Nat) (ts : List (ByteArray × Int)) (lv : List Int) (n : Nat) (L : Nat → Int) (R : Nat → List Int) (rc : Nat → Nat) (V : Nat → Int) (st : Int) (ns : List ByteArray) : Prop where
  tn : ts.length ≤ 5864062014805
  nn : ns.length ≤ 8796093022208
  pn : n ≤ 3518437208883
  tnil : ta = none → ts.length = 0 ∧ tc = 0
  lnil : la = none → lv.length = 0 ∧ lc = 0
  lcap : lv.length ≤ lc
  rcap : ∀ i, i < n → (R i).length ≤ rc i
  lvl : ∀ t ∈ ts, (Lit.int .i64 t.2).wf = true ∧ t.1.size ≤ 140737488355328
  nsz : ∀ s ∈ ns, s.size ≤ 140737488355328
  lvw : ∀ z ∈ lv, (Lit.int .i64 z).wf = true
  stw : (Lit.int .i64 st).wf = true
  prw : ∀ i, i < n → (Lit.int .i64 (L i)).wf = true ∧ (Lit.int .i64 (V i)).wf = true ∧ ∀ z ∈ R i, (Lit.int .i64 z).wf = true

set_option maxRecDepth 100000 in
theorem open_gram {base : Nat} {v : Value} {d : DataW H} {p : List MemPlace} (hv : Value.okWide Try.prog W .any base 27 v) (h : DataW.Trod enc Try.prog W 0 (fun _ => true) true 27 v d p) (hw : ∀ n ∈ d.weights Try.prog 27, n ≤ reachBytes) :
    ∃ ta na la pa tc nc lc pc ts ns lv n L R ra rc V st, v = .agg #[.slice ta ts.length tc, .slice na ns.length nc, .slice la lv.length lc, .int .i64 st, .slice pa n pc] ∧ GAt W ta na la pa tc nc lc pc ts ns lv n L R ra rc V ∧ GIn ta la tc lc ts lv n L R rc V st ns := by
  obtain ⟨cs, rfl, hsz⟩ := okWide_struct Try.underlying27 hv
  obtain ⟨fuel, hf⟩ := h
  obtain ⟨xs, k, hk, hxy, hcl, hxl, hfs⟩ := DataW.trod_struct Try.underlying27 hf
  rw [cellsGram] at hsz
  obtain ⟨l, rfl⟩ : ∃ l : List Value, cs = l.toArray := ⟨cs.toList, by simp⟩
  simp only [Value.cells] at hfs hcl
  have hl : l.length = 5 := by simpa using hsz
  match xs, hxl, l, hl with
  | [y0, y1, y2, y3, y4], _, [v0, v1, v2, v3, v4], _ =>
    have g0 := hfs 0 _ rfl
    have g1 := hfs 1 _ rfl
    have g2 := hfs 2 _ rfl
    have g3 := hfs 3 _ rfl
    have g4 := hfs 4 _ rfl
    simp [cellsInt, cellsInts, cellsTerms, cellsStrs, cellsProds] at g0 g1 g2 g3 g4
    simp only [Prod.mk.injEq] at hxy
    have hwj : ∀ (j : Nat) (t : TypeId) (y : DataW H × List MemPlace), ((Try.prog.fieldsOf 27).toList.map (·.type))[j]? = some t → ([y0, y1, y2, y3, y4].map (·.1))[j]? = some y.1 → ∀ n ∈ y.1.weights Try.prog t, n ≤ reachBytes := fun j t y h1 h2 q hq => hw q (by
      rw [hxy.1]
      simp only [DataW.weights, Try.underlying27]
      simp only [Program.fieldsOf, Try.underlying27] at h1
      exact DataW.weights_mem_each (j := j) (t := t) (d := y.1) h1 h2 q hq)
    have hw0 := hwj 0 22 y0 (by kernel_rfl) rfl
    have hw1 := hwj 1 23 y1 (by kernel_rfl) rfl
    have hw2 := hwj 2 24 y2 (by kernel_rfl) rfl
    have hw4 := hwj 4 25 y4 (by kernel_rfl) rfl
    obtain ⟨ta, ts, tc, e0, hT, hTl, hTc, hTn, hTw⟩ := open_terms_in g0 hw0
    obtain ⟨na, ns, nc, e1, hN, hNl, hNc, hNn, hNs⟩ := open_strs_in g1 hw1
    obtain ⟨la, lv, lc, e2, hL, hLl, hLc, hLn, hLw⟩ := open_ints_in g2 hw2
    obtain ⟨st, e3, _, w3⟩ := DataW.trod_int Try.underlying3 g3
    obtain ⟨pa, n, pc, L, V, R, ra, rc, e4, hP, hPl, hPc, hPn, hPw⟩ := open_prods_in g4 hw4
    simp only [List.cons.injEq, and_true] at e0 e1 e2 e3 e4
    subst e0 e1 e2 e3 e4
    exact ⟨ta, na, la, pa, tc, nc, lc, pc, ts, ns, lv, n, L, R, ra, rc, V, st, rfl, ⟨hT, hN, hL, hP, hTc, hNc, hPc, hNn, hPn, by omega, by omega, by omega, by omega⟩, hTl, hNl, hPl, hTn, hLn, hLc, fun i hi => (hPw i hi).1, hTw, hNs, hLw, w3, fun i hi => (hPw i hi).2⟩
end

end Go.Proofs.Ytkhmhcinepfemaa
