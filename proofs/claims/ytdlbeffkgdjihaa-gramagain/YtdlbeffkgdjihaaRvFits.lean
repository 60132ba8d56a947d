/-
  The document's fits and Valid.
-/
import Derived.Test.YtdlbeffkgdjihaaRvLefts
namespace Go.Proofs.Ytdlbeffkgdjihaa
open Go.RowKit

attribute [local go_sem] Oper.semAt_some

set_option maxRecDepth 100000 in
set_option maxHeartbeats 4000000 in
theorem fits_any (ta na la pa : Option Addr) (tn nn ln pn tc nc lc pc ad : Nat) (st : Int) (ts : List (ByteArray × Int)) (ns : List ByteArray) (lv : List Int) (L : Nat → Int) (R : Nat → List Int) (ra : Nat → Option Addr) (rc : Nat → Nat) (V : Nat → Int) (w : World)
    (hG : GAt w ta na la pa tc nc lc pc ts ns lv pn L R ra rc V) (hln : ts.length = tn ∧ ns.length = nn ∧ lv.length = ln) (had : ad ≤ 1) (hadn : ad ≤ nn) (hts : ∀ t ∈ ts, t.1.size ≤ 140737488355328) (hns : ∀ s ∈ ns, s.size ≤ 140737488355328)
    (r : Bool) (hr : r = true ↔ fitsOK ad ts ns lv st pn L R V) :
    Calls Try.prog 46 #[.agg #[.slice ta tn tc, .slice na nn nc, .slice la ln lc, .int .i64 st, .slice pa pn pc], .int .i64 ad] w fun e w' => e = .returned (.bool r) ∧ w.grownBy w' none := by
  have HG : Hid (GAt w ta na la pa tc nc lc pc ts ns lv pn L R ra rc V) := hG
  have HLN : Hid (ts.length = tn ∧ ns.length = nn ∧ lv.length = ln) := hln
  have HTS : Hid (∀ t ∈ ts, t.1.size ≤ 140737488355328) := hts
  have HNS : Hid (∀ s ∈ ns, s.size ≤ 140737488355328) := hns
  have HR : Hid (r = true ↔ fitsOK ad ts ns lv st pn L R V) := hr
  have HRF : Hid (¬ fitsOK ad ts ns lv st pn L R V → r = false) := fun hno => Bool.eq_false_iff.2 fun hh => hno (hr.1 hh)
  have HX0 : Hid (PhAt w (w.alloc (.cells #[.slice ta tn tc, .slice na nn nc, .slice la ln lc, .int .i64 st, .slice pa pn pc] 42)) w.heap.size #[.slice ta tn tc, .slice na nn nc, .slice la ln lc, .int .i64 st, .slice pa pn pc]) := ⟨World.grownBy_alloc _ _ none, heap_alloc_last w _⟩
  have hbt : tn ≤ 17592186044416 := by rw [← hln.1]; exact hG.tlen
  have hbn : nn ≤ 17592186044416 := by rw [← hln.2.1]; exact hG.nlen
  have hbl : ln ≤ 17592186044416 := by rw [← hln.2.2]; exact hG.llen
  have hbp := hG.plen
  clear hG hln hts hns hr
  go_enter Try.func46, Try.ntmps46
  have hcase : (64 + ad < nn ∨ (¬ 64 + ad < nn ∧ 65 < tn) ∨ (¬ 64 + ad < nn ∧ ¬ 65 < tn ∧ 96 + ad < pn) ∨ (¬ 64 + ad < nn ∧ ¬ 65 < tn ∧ ¬ 96 + ad < pn ∧ pn < 1 + ad) ∨ (¬ 64 + ad < nn ∧ ¬ 65 < tn ∧ ¬ 96 + ad < pn ∧ ¬ pn < 1 + ad ∧ 64 < ln)) ∨ (¬ 64 + ad < nn ∧ ¬ 65 < tn ∧ ¬ 96 + ad < pn ∧ ¬ pn < 1 + ad ∧ ¬ 64 < ln) := by omega
  rcases hcase with hc | hc
  · have hf : r = false := HRF.out fun h => by
      obtain ⟨e1, e2, e3⟩ := HLN.out
      have h1 := h.nn
      have h2 := h.tn
      have h3 := h.pn
      have h4 := h.p1
      have h5 := h.ln
      rw [e2] at h1
      rw [e1] at h2
      rw [e3] at h5
      omega
    rcases hc with hc | hc | hc | hc | hc
    all_goals
      first | (have d1 : decide (64 + (ad : Int) < nn) = true := decide_eq_true (by omega)) | (have d1 : decide (64 + (ad : Int) < nn) = false := decide_eq_false (by omega))
      try first | (have d2 : decide (65 < (tn : Int)) = true := decide_eq_true (by omega)) | (have d2 : decide (65 < (tn : Int)) = false := decide_eq_false (by omega))
      try first | (have d3 : decide (96 + (ad : Int) < pn) = true := decide_eq_true (by omega)) | (have d3 : decide (96 + (ad : Int) < pn) = false := decide_eq_false (by omega))
      try first | (have d4 : decide ((pn : Int) < 1 + ad) = true := decide_eq_true (by omega)) | (have d4 : decide ((pn : Int) < 1 + ad) = false := decide_eq_false (by omega))
      try first | (have d5 : decide (64 < (ln : Int)) = true := decide_eq_true (by omega)) | (have d5 : decide (64 < (ln : Int)) = false := decide_eq_false (by omega))
      clear hc
      go_wp2_with fail
      go_ret
      exact ⟨by first | rfl | (rw [hf]; rfl), HX0.out.grown⟩
  · have d1 : decide (64 + (ad : Int) < nn) = false := decide_eq_false (by omega)
    have d2 : decide (65 < (tn : Int)) = false := decide_eq_false (by omega)
    have d3 : decide (96 + (ad : Int) < pn) = false := decide_eq_false (by omega)
    have d4 : decide ((pn : Int) < 1 + ad) = false := decide_eq_false (by omega)
    have d5 : decide (64 < (ln : Int)) = false := decide_eq_false (by omega)
    obtain ⟨h1, h2, h3, h4, h5⟩ := hc
    by_cases h6 : 64 < (tn : Int) - 1 + nn - ad
    · have d6 : decide (64 < (tn : Int) - 1 + nn - ad) = true := decide_eq_true h6
      have hf : r = false := HRF.out fun h => by
        have h7 := h.syms
        rw [HLN.out.1, HLN.out.2.1] at h7
        omega
      go_wp2_with fail
      go_ret
      exact ⟨by first | rfl | (rw [hf]; rfl), HX0.out.grown⟩
    · have d6 : decide (64 < (tn : Int) - 1 + nn - ad) = false := decide_eq_false h6
      obtain ⟨rT, hrT⟩ := boolOf ((0 < ts.length ∧ ts.getD 0 (⟨#[]⟩, 0) = (⟨#[]⟩, 0)) ∧ ∀ i, 1 ≤ i → i < ts.length → termAt ts ln i)
      have KT : Hid (∀ W, w.grownBy W none → Calls Try.prog 75 #[.agg #[.slice ta tn tc, .slice na nn nc, .slice la ln lc, .int .i64 st, .slice pa pn pc]] W fun e w' => e = .returned (.bool rT) ∧ W.grownBy w' none) := fun W hg => termsFit_any ta na la pa tn nn ln pn tc nc lc pc st ts W (HG.out.kept hg).terms HLN.out.1 (by omega) HTS.out rT hrT
      have HRT : Hid (rT = true ↔ ((0 < ts.length ∧ ts.getD 0 (⟨#[]⟩, 0) = (⟨#[]⟩, 0)) ∧ ∀ i, 1 ≤ i → i < ts.length → termAt ts ln i)) := hrT
      have HNUM : Hid (¬ 64 + ad < nn ∧ ¬ 65 < tn ∧ ¬ 96 + ad < pn ∧ ¬ pn < 1 + ad ∧ ¬ 64 < ln ∧ ¬ 64 < (tn : Int) - 1 + nn - ad) := ⟨h1, h2, h3, h4, h5, h6⟩
      clear hrT
      go_wp2_with fail
      refine (KT.out _ HX0.out.grown).mono ?_
      rintro e w1 ⟨rfl, hg1⟩
      have HX1 : Hid (PhAt w w1 w.heap.size #[.slice ta tn tc, .slice na nn nc, .slice la ln lc, .int .i64 st, .slice pa pn pc]) := HX0.out.kept hg1
      clear hg1 HX0 KT d1 d2 d3 d4 d5 d6
      cases rT with
      | false =>
        have hf : r = false := HRF.out fun h => by
          have h7 := h.terms
          rw [HLN.out.2.2] at h7
          have := HRT.out.2 h7
          cases this
        go_wp2_with fail
        go_ret
        exact ⟨by first | rfl | (rw [hf]; rfl), HX1.out.grown⟩
      | true =>
        have HTT := HRT.out.1 rfl
        have HT0 : Hid (0 < tn) := by have := HTT.1.1; rw [HLN.out.1] at this; exact this
        obtain ⟨rB, hrB⟩ := boolOf (∀ j, j < lv.length → levelOK ts lv j)
        obtain ⟨rC, hrC⟩ := boolOf (∀ i, ad ≤ i → i < ns.length → nonAt ns ad i)
        obtain ⟨rD, hrD⟩ := boolOf (∀ i, ad ≤ i → i < pn → prodOK tn nn ln ad (L i) (R i) (V i))
        have KB : Hid (∀ W, w.grownBy W none → Calls Try.prog 76 #[.agg #[.slice ta tn tc, .slice na nn nc, .slice la ln lc, .int .i64 st, .slice pa pn pc]] W fun e w' => e = .returned (.bool rB) ∧ W.grownBy w' none) := fun W hg => levelsFit_any ta na la pa tn nn ln pn tc nc lc pc st ts lv W (HG.out.kept hg).terms (HG.out.kept hg).levels HLN.out.1 HLN.out.2.2 (by omega) (by omega) rB hrB
        have KC : Hid (∀ W, w.grownBy W none → Calls Try.prog 77 #[.agg #[.slice ta tn tc, .slice na nn nc, .slice la ln lc, .int .i64 st, .slice pa pn pc], .int .i64 ad] W fun e w' => e = .returned (.bool rC) ∧ W.grownBy w' none) := fun W hg => nonsFit_any ta na la pa tn nn ln pn tc nc lc pc ad st ns W (HG.out.kept hg).nons HLN.out.2.1 (by omega) hadn HNS.out rC hrC
        have KD : Hid (∀ W, w.grownBy W none → Calls Try.prog 78 #[.agg #[.slice ta tn tc, .slice na nn nc, .slice la ln lc, .int .i64 st, .slice pa pn pc], .int .i64 ad, .int .i64 ((tn : Int) + ad)] W fun e w' => e = .returned (.bool rD) ∧ W.grownBy w' none) := fun W hg => prodsFit_any ta na la pa tn nn ln pn tc nc lc pc ad st _ L R ra rc V W (HG.out.kept hg).prods (by omega) HT0.out (by omega) (by omega) (by omega) rfl rD hrD
        obtain ⟨M, hM⟩ : ∃ M, M = (leftsTo (fun i => L (ad + i)) (pn - ad)).length := ⟨_, rfl⟩
        have KL : Hid (∀ W, w.grownBy W none → Calls Try.prog 47 #[.agg #[.slice ta tn tc, .slice na nn nc, .slice la ln lc, .int .i64 st, .slice pa pn pc], .int .i64 ad] W fun e w' => ∃ a' c', e = .returned (.slice a' M c') ∧ W.grownBy w' none) := fun W hg => (rlefts_any ta na la pa tn nn ln pn tc nc lc pc ad st L R ra rc V W (HG.out.kept hg).prods (by omega) (by omega) (fun k => leftsTo (fun i => L (ad + i)) k) (fun _ => rfl)).mono fun e w' h => by
          obtain ⟨a', c', he, _, hg'⟩ := h
          exact ⟨a', c', by rw [hM]; exact he, hg'⟩
        have HRB : Hid (rB = true ↔ ∀ j, j < lv.length → levelOK ts lv j) := hrB
        have HRC : Hid (rC = true ↔ ∀ i, ad ≤ i → i < ns.length → nonAt ns ad i) := hrC
        have HRD : Hid (rD = true ↔ ∀ i, ad ≤ i → i < pn → prodOK tn nn ln ad (L i) (R i) (V i)) := hrD
        have HM : Hid (M = (leftsTo (fun i => L (ad + i)) (pn - ad)).length) := hM
        have HEQ : Hid (r = true ↔ rB = true ∧ rC = true ∧ rD = true ∧ (M : Int) = (nn : Int) - ad ∧ (tn : Int) + ad ≤ st ∧ st < (tn : Int) + nn) := by
          show _ ↔ _
          rw [HR.out, HRB.out, HRC.out, HRD.out]
          obtain ⟨e1, e2, e3⟩ := HLN.out
          constructor
          · intro h
            have h7 := h.prods
            have h8 := h.lefts
            have h9 := h.start
            rw [e1, e2, e3] at h7
            rw [e2, ← hM] at h8
            rw [e1, e2] at h9
            exact ⟨h.levels, h.nons, h7, by omega, h9.1, h9.2⟩
          · rintro ⟨q1, q2, q3, q4, q5, q6⟩
            have HT' := HTT
            refine ⟨by rw [e2]; omega, by rw [e1]; omega, by omega, by omega, by rw [e3]; omega, by rw [e1, e2]; omega, by rw [e3]; exact HT', q1, q2, by rw [e1, e2, e3]; exact q3, by rw [e2, ← hM]; omega, by rw [e1, e2]; exact ⟨q5, q6⟩⟩
        have hMb : M ≤ 97 := by rw [hM]; exact Nat.le_trans (leftsTo_le _ _) (by omega)
        clear hrB hrC hrD hM HTT
        obtain ⟨m0, m1, m2, m3, m4⟩ := HX1.out.cells
        go_wp2_with fail
        refine (KB.out _ HX1.out.grown).mono ?_
        rintro e w2 ⟨rfl, hg2⟩
        have HX2 : Hid (PhAt w w2 w.heap.size #[.slice ta tn tc, .slice na nn nc, .slice la ln lc, .int .i64 st, .slice pa pn pc]) := HX1.out.kept hg2
        clear hg2 HX1 KB m0 m1 m2 m3 m4
        obtain ⟨m0, m1, m2, m3, m4⟩ := HX2.out.cells
        go_wp2_with fail
        refine (KC.out _ HX2.out.grown).mono ?_
        rintro e w3 ⟨rfl, hg3⟩
        have HX3 : Hid (PhAt w w3 w.heap.size #[.slice ta tn tc, .slice na nn nc, .slice la ln lc, .int .i64 st, .slice pa pn pc]) := HX2.out.kept hg3
        clear hg3 HX2 KC m0 m1 m2 m3 m4
        obtain ⟨m0, m1, m2, m3, m4⟩ := HX3.out.cells
        go_wp2_with fail
        refine (KD.out _ HX3.out.grown).mono ?_
        rintro e w4 ⟨rfl, hg4⟩
        have HX4 : Hid (PhAt w w4 w.heap.size #[.slice ta tn tc, .slice na nn nc, .slice la ln lc, .int .i64 st, .slice pa pn pc]) := HX3.out.kept hg4
        clear hg4 HX3 KD m0 m1 m2 m3 m4
        obtain ⟨m0, m1, m2, m3, m4⟩ := HX4.out.cells
        go_wp2_with fail
        refine (KL.out _ HX4.out.grown).mono ?_
        rintro e w5 ⟨la', lc', rfl, hg5⟩
        have HX5 : Hid (PhAt w w5 w.heap.size #[.slice ta tn tc, .slice na nn nc, .slice la ln lc, .int .i64 st, .slice pa pn pc]) := HX4.out.kept hg5
        clear hg5 HX4 KL m0 m1 m2 m3 m4
        go_wp2_with fail
        have hA : (fun x => PhAt w x w.heap.size #[.slice ta tn tc, .slice na nn nc, .slice la ln lc, .int .i64 st, .slice pa pn pc]) w5.drew := HX5.out.kept (grown_drewN w5 1)
        haveI hne : Nonempty (WBox (fun x => PhAt w x w.heap.size #[.slice ta tn tc, .slice na nn nc, .slice la ln lc, .int .i64 st, .slice pa pn pc])) := ⟨⟨_, hA⟩⟩
        have g0 := fun s : WBox (fun x => PhAt w x w.heap.size #[.slice ta tn tc, .slice na nn nc, .slice la ln lc, .int .i64 st, .slice pa pn pc]) => s.ok.cells.1
        have g1 := fun s : WBox (fun x => PhAt w x w.heap.size #[.slice ta tn tc, .slice na nn nc, .slice la ln lc, .int .i64 st, .slice pa pn pc]) => s.ok.cells.2.1
        have g2 := fun s : WBox (fun x => PhAt w x w.heap.size #[.slice ta tn tc, .slice na nn nc, .slice la ln lc, .int .i64 st, .slice pa pn pc]) => s.ok.cells.2.2.1
        have g3 := fun s : WBox (fun x => PhAt w x w.heap.size #[.slice ta tn tc, .slice na nn nc, .slice la ln lc, .int .i64 st, .slice pa pn pc]) => s.ok.cells.2.2.2.1
        have g4 := fun s : WBox (fun x => PhAt w x w.heap.size #[.slice ta tn tc, .slice na nn nc, .slice la ln lc, .int .i64 st, .slice pa pn pc]) => s.ok.cells.2.2.2.2
        have K1 : Hid (∀ s : WBox (fun x => PhAt w x w.heap.size #[.slice ta tn tc, .slice na nn nc, .slice la ln lc, .int .i64 st, .slice pa pn pc]), Calls Try.prog 79 #[.agg #[.slice ta tn tc, .slice na nn nc, .slice la ln lc, .int .i64 st, .slice pa pn pc]] s.w fun e w' => e = .returned (.int .i64 ((tn : Int) + nn)) ∧ ∃ s' : WBox (fun x => PhAt w x w.heap.size #[.slice ta tn tc, .slice na nn nc, .slice la ln lc, .int .i64 st, .slice pa pn pc]), w' = s'.w) := fun s => calls_class ((symbols_any ta na la pa tn nn ln pn tc nc lc pc st s.w (by omega) (by omega)).mono fun e w' h => ⟨h.1, s.ok.kept h.2⟩)
        have hcase : (rB = false ∨ (rB = true ∧ rC = false) ∨ (rB = true ∧ rC = true ∧ rD = false) ∨ (rB = true ∧ rC = true ∧ rD = true ∧ ¬ (M : Int) = (nn : Int) - ad) ∨ (rB = true ∧ rC = true ∧ rD = true ∧ (M : Int) = (nn : Int) - ad ∧ ¬ (tn : Int) + ad ≤ st)) ∨ (rB = true ∧ rC = true ∧ rD = true ∧ (M : Int) = (nn : Int) - ad ∧ (tn : Int) + ad ≤ st) := by
          cases rB <;> cases rC <;> cases rD <;> simp <;> omega
        rcases hcase with hc | hc
        · have hf : r = false := Bool.eq_false_iff.2 fun hh => by
            obtain ⟨q1, q2, q3, q4, q5, q6⟩ := HEQ.out.1 hh
            subst q1 q2 q3
            simp at hc
            omega
          rcases hc with hc | ⟨hc, hc2⟩ | ⟨hc, hc2, hc3⟩ | ⟨hc, hc2, hc3, hc4⟩ | ⟨hc, hc2, hc3, hc4, hc5⟩
          all_goals
            try subst hc
            try subst hc2
            try subst hc3
            try first | (have d6 : ((M : Int) == (nn : Int) - ad) = true := beq_iff_eq.2 (by omega)) | (have d6 : ((M : Int) == (nn : Int) - ad) = false := beq_eq_false_iff_ne.2 (by omega))
            try first | (have d7 : decide ((tn : Int) + ad ≤ st) = true := decide_eq_true (by omega)) | (have d7 : decide ((tn : Int) + ad ≤ st) = false := decide_eq_false (by omega))
            try clear hc5
            try clear hc4
            refine wp_region_class (p := fun x => PhAt w x w.heap.size #[.slice ta tn tc, .slice na nn nc, .slice la ln lc, .int .i64 st, .slice pa pn pc]) (by kernel_rfl) (by kernel_rfl) hA ?_
            repeat (go_big_quiet_step (first | (go_at_call 79; rename_i s; with_reducible exact K1.out s)))
            refine wpQuiet_nil ?_
            rintro _ ⟨s, rfl⟩
            go_wp2_with fail
            go_ret
            exact ⟨by first | rfl | (rw [hf]; rfl), s.ok.grown⟩
        · obtain ⟨hc, hc2, hc3, hc4, hc5⟩ := hc
          subst hc hc2 hc3
          have HFIN : Hid (decide (st < (tn : Int) + nn) = r) := by
            show _ = _
            rw [Bool.eq_iff_iff, HEQ.out, decide_eq_true_eq]
            exact ⟨fun h => ⟨rfl, rfl, rfl, hc4, hc5, h⟩, fun h => h.2.2.2.2.2⟩
          have d6 : ((M : Int) == (nn : Int) - ad) = true := beq_iff_eq.2 hc4
          have d7 : decide ((tn : Int) + ad ≤ st) = true := decide_eq_true hc5
          clear hc4 hc5
          refine wp_region_class (p := fun x => PhAt w x w.heap.size #[.slice ta tn tc, .slice na nn nc, .slice la ln lc, .int .i64 st, .slice pa pn pc]) (by kernel_rfl) (by kernel_rfl) hA ?_
          repeat (go_big_quiet_step (first | (go_at_call 79; rename_i s; with_reducible exact K1.out s)))
          refine wpQuiet_nil ?_
          rintro _ ⟨s, rfl⟩
          go_wp2_with fail
          go_ret
          exact ⟨by rw [← HFIN.out]; rfl, s.ok.grown⟩

end Go.Proofs.Ytdlbeffkgdjihaa
