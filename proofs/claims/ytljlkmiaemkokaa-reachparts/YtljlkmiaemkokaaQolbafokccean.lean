import Derived.Test.YtljlkmiaemkokaaQmkojbhklbdpn
import Derived.Test.YtljlkmiaemkokaaQjfbjlfkilcge
import Derived.Test.YtljlkmiaemkokaaQeileiobghnno

/-
  Closed, of any grammar: the program's and the document's.
-/
namespace Go.Proofs.Ytljlkmiaemkokaa
open Go.RowKit Go.Maps Go.Shelf

attribute [local go_sem] Oper.semAt_some

/-- All that holds asks of a grammar with the added ones. -/
structure holds1OK (ts : List (ByteArray × Int)) (ns : List ByteArray) (lv : List Int) (st : Int) (n : Nat) (L : Nat → Int) (R : Nat → List Int) (V : Nat → Int) : Prop where
  syms : (ts.length : Int) - 1 + (ns.length - 1 : Nat) ≤ 64
  cnt : n - 1 ≤ 96
  terms : termsOK ts lv.length
  nons : (∀ s ∈ ns.drop 1, isNameB s = true) ∧ (ns.drop 1).Nodup
  levels : ∀ j, j < lv.length → levelOK ts lv j
  prods : ∀ i, i < n - 1 → prodOK ts.length ns.length lv.length 1 (L (1 + i)) (R (1 + i)) (V (1 + i))
  lefts : (leftsTo (fun i => L (1 + i)) (n - 1)).length = ns.length - 1
  start : isNonI ts.length ns.length 1 st

theorem nons1_idx (ns : List ByteArray) : ((∀ s ∈ ns.drop 1, isNameB s = true) ∧ (ns.drop 1).Nodup) ↔ ∀ i, 1 ≤ i → i < ns.length → nonAt ns 1 i := by
  have eD : ∀ i, (ns.drop 1).getD i ⟨#[]⟩ = ns.getD (1 + i) ⟨#[]⟩ := fun i => by rw [Nat.add_comm]; simp [List.getD]
  rw [nonsOK_idx]
  constructor
  · intro h i h1 hi
    obtain ⟨a, b⟩ := h (i - 1) (Nat.zero_le _) (by simp; omega)
    rw [eD, show 1 + (i - 1) = i by omega] at a
    refine ⟨a, fun k hk1 hk => ?_⟩
    have := b (k - 1) (Nat.zero_le _) (by omega)
    rw [eD, eD, show 1 + (k - 1) = k by omega, show 1 + (i - 1) = i by omega] at this
    exact this
  · intro h i _ hi
    have hi' : 1 + i < ns.length := by simp at hi; omega
    obtain ⟨a, b⟩ := h (1 + i) (by omega) hi'
    refine ⟨by rw [eD]; exact a, fun k _ hk => ?_⟩
    rw [eD, eD]
    exact b (1 + k) (by omega) (by omega)

theorem fits_holds1 (ts : List (ByteArray × Int)) (ns : List ByteArray) (lv : List Int) (st : Int) (n : Nat) (L : Nat → Int) (R : Nat → List Int) (V : Nat → Int) (hn : 0 < ns.length) : fitsOK 1 ts ns lv st n L R V ↔ holds1OK ts ns lv st n L R V := by
  constructor
  · intro h
    refine ⟨by have := h.syms; omega, by have := h.pn; omega, (termsOK_idx _ _).2 h.terms, (nons1_idx _).2 h.nons, h.levels, fun i hi => h.prods (1 + i) (by omega) (by omega), ?_, h.start⟩
    have := h.lefts
    omega
  · intro h
    have ht := (termsOK_idx _ _).1 h.terms
    have h1 := h.syms
    have h2 := ht.1.1
    have h3 := levels_few ht.1.1 ht.1.2 h.levels
    have h4 := h.start
    unfold isNonI at h4
    have h5 := h.lefts
    have h6 := leftsTo_le (fun i => L (1 + i)) (n - 1)
    have h7 := h.cnt
    refine ⟨by omega, by omega, by omega, by omega, by omega, by omega, ht, h.levels, (nons1_idx _).1 h.nons, fun i hi1 hi => ?_, by omega, h.start⟩
    have := h.prods (i - 1) (by omega)
    rw [show 1 + (i - 1) = i by omega] at this
    exact this

theorem ProdsAt.kept {w w' : World} {a : Option Addr} {n : Nat} {L : Nat → Int} {R : Nat → List Int} {ra : Nat → Option Addr} {rc : Nat → Nat} {V : Nat → Int} (h : ProdsAt w a n L R ra rc V) (hg : w.grownBy w' none) : ProdsAt w' a n L R ra rc V := by
  rcases h with h | ⟨b, off, e, hc⟩
  · exact .inl h
  · refine .inr ⟨b, off, e, fun k hk => ?_⟩
    obtain ⟨h1, h2, h3, h4, h5⟩ := hc k hk
    exact ⟨hg.cell h1 (by simp), hg.cell h2 (by simp), hg.cell h3 (by simp), h4.kept hg, h5⟩

/-- A list from its second one on. -/
theorem strs_drop {w : World} {b off : Nat} {ns : List ByteArray} (h : StrsAt w (some ⟨b, off, none⟩) ns) : StrsAt w (some ⟨b, off + 1, none⟩) (ns.drop 1) := by
  rcases h with h | ⟨b', off', e, hc⟩
  · left; rw [h]; rfl
  · simp only [Option.some.injEq, Addr.mk.injEq, and_true] at e
    obtain ⟨rfl, rfl⟩ := e
    refine .inr ⟨b, off + 1, rfl, fun i hi => ?_⟩
    have := hc (1 + i) (by simp at hi; omega)
    rw [show off + (1 + i) = off + 1 + i by omega] at this
    rw [this, Nat.add_comm 1 i]
    simp [List.getD]
theorem prods_drop {w : World} {b off n : Nat} {L : Nat → Int} {R : Nat → List Int} {ra : Nat → Option Addr} {rc : Nat → Nat} {V : Nat → Int} (h : ProdsAt w (some ⟨b, off, none⟩) n L R ra rc V) : ProdsAt w (some ⟨b, off + 3, none⟩) (n - 1) (fun i => L (1 + i)) (fun i => R (1 + i)) (fun i => ra (1 + i)) (fun i => rc (1 + i)) (fun i => V (1 + i)) := by
  rcases h with h | ⟨b', off', e, hc⟩
  · left; rw [h]
  · simp only [Option.some.injEq, Addr.mk.injEq, and_true] at e
    obtain ⟨rfl, rfl⟩ := e
    refine .inr ⟨b, off + 3, rfl, fun i hi => ?_⟩
    have := hc (1 + i) (by omega)
    rw [show off + (1 + i) * 3 = off + 3 + i * 3 by omega] at this
    exact this

set_option maxRecDepth 100000 in
set_option maxHeartbeats 1000000 in
theorem holds_one (ta na la pa : Option Addr) (tc nc lc pc : Nat) (ts : List (ByteArray × Int)) (ns : List ByteArray) (lv : List Int) (n : Nat) (L : Nat → Int) (R : Nat → List Int) (ra : Nat → Option Addr) (rc : Nat → Nat) (V : Nat → Int) (st : Int) (w : World) (hG : GAt w ta na la pa tc nc lc pc ts ns lv n L R ra rc V) (h0n : 0 < ns.length) (h0p : 0 < n) (r : Bool) (hr : r = true ↔ holds1OK ts ns lv st n L R V) :
    Calls Try.prog 50 #[.agg #[.slice ta ts.length tc, .slice na ns.length nc, .slice la lv.length lc, .int .i64 st, .slice pa n pc], .int .i64 1] w fun e w' => e = .returned (.bool r) ∧ w.grownBy w' none := by
  have htl := hG.tlen
  have hnl := hG.nlen
  have hpl := hG.plen
  have hnc := hG.ncap
  have hpc := hG.pcap
  have HG : Hid (GAt w ta na la pa tc nc lc pc ts ns lv n L R ra rc V) := hG
  have HRR : Hid (r = true ↔ holds1OK ts ns lv st n L R V) := hr
  have HRF : Hid (¬ holds1OK ts ns lv st n L R V → r = false) := fun hno => Bool.eq_false_iff.2 fun hh => hno (hr.1 hh)
  have HX0 : Hid (∀ q, PhAt w ((w.alloc (.cells #[.slice ta ts.length tc, .slice na ns.length nc, .slice la lv.length lc, .int .i64 st, .slice pa n pc] 27)).drewN q) w.heap.size #[.slice ta ts.length tc, .slice na ns.length nc, .slice la lv.length lc, .int .i64 st, .slice pa n pc]) := fun q => (PhAt.mk (World.grownBy_alloc _ _ none) (heap_alloc_last w _)).kept (grown_drewN _ q)
  obtain ⟨bn, on, hna⟩ : ∃ b off, na = some ⟨b, off, none⟩ := by
    rcases hG.nons with h | ⟨b, off, e, _⟩
    · rw [h] at h0n; simp at h0n
    · exact ⟨b, off, e⟩
  obtain ⟨bp, op, hpa⟩ : ∃ b off, pa = some ⟨b, off, none⟩ := by
    rcases hG.prods with h | ⟨b, off, e, _⟩
    · omega
    · exact ⟨b, off, e⟩
  obtain ⟨na1, nc1, hsn, hN1⟩ : ∃ na1 nc1, (∀ W, (Instr.slice 23 (.slice na ns.length nc) (some (.int .i64 1)) none none).run Try.prog W = .ok (.slice na1 (ns.length - 1) nc1) W) ∧ StrsAt w na1 (ns.drop 1) := by
    have hS := hG.nons
    subst hna
    by_cases hc1 : nc = 1
    · refine ⟨some ⟨bn, on, none⟩, 0, fun W => ?_, .inl (List.drop_eq_nil_of_le (by omega))⟩
      have hl : ns.length = 1 := by omega
      rw [hl, hc1]
      go_simp
    · refine ⟨some ⟨bn, on + 1, none⟩, nc - 1, fun W => ?_, strs_drop hS⟩
      have h1 : (1 : Int) ≤ ns.length := by omega
      have h2 : (ns.length : Int) ≤ nc := by omega
      have h3 : 1 < nc := by omega
      generalize ns.length = N at *
      go_simp
  obtain ⟨pa1, pc1, hsp, hP1⟩ : ∃ pa1 pc1, (∀ W, (Instr.slice 25 (.slice pa n pc) (some (.int .i64 1)) none none).run Try.prog W = .ok (.slice pa1 (n - 1) pc1) W) ∧ ProdsAt w pa1 (n - 1) (fun i => L (1 + i)) (fun i => R (1 + i)) (fun i => ra (1 + i)) (fun i => rc (1 + i)) (fun i => V (1 + i)) := by
    have hS := hG.prods
    subst hpa
    by_cases hc1 : pc = 1
    · refine ⟨some ⟨bp, op, none⟩, 0, fun W => ?_, .inl (by omega)⟩
      have hl : n = 1 := by omega
      rw [hl, hc1]
      go_simp
    · refine ⟨some ⟨bp, op + 3, none⟩, pc - 1, fun W => ?_, prods_drop hS⟩
      have h1 : (1 : Int) ≤ n := by omega
      have h2 : (n : Int) ≤ pc := by omega
      have h3 : 1 < pc := by omega
      go_simp
  have HN1 : Hid (StrsAt w na1 (ns.drop 1)) := hN1
  have HP1 : Hid (ProdsAt w pa1 (n - 1) (fun i => L (1 + i)) (fun i => R (1 + i)) (fun i => ra (1 + i)) (fun i => rc (1 + i)) (fun i => V (1 + i))) := hP1
  obtain ⟨nn1, hnn1⟩ : ∃ nn1, nn1 = ns.length - 1 := ⟨_, rfl⟩
  obtain ⟨n1, hn1⟩ : ∃ n1, n1 = n - 1 := ⟨_, rfl⟩
  have HNP : Hid (ns.length - 1 = nn1 ∧ n - 1 = n1 ∧ (ns.drop 1).length = nn1) := ⟨hnn1.symm, hn1.symm, by simp [hnn1]⟩
  rw [← hnn1] at hsn
  rw [← hn1] at hsp
  have hb1 : nn1 ≤ 17592186044416 := by omega
  have hb2 : n1 ≤ 17592186044416 := by omega
  clear hN1 hP1 hnn1 hn1 hna hpa
  obtain ⟨tn, htn⟩ : ∃ tn, tn = ts.length := ⟨_, rfl⟩
  obtain ⟨nn, hnn⟩ : ∃ nn, nn = ns.length := ⟨_, rfl⟩
  obtain ⟨ln, hln⟩ : ∃ ln, ln = lv.length := ⟨_, rfl⟩
  have HTN : Hid (ts.length = tn ∧ ns.length = nn ∧ lv.length = ln) := ⟨htn.symm, hnn.symm, hln.symm⟩
  rw [← htn] at htl HX0 ⊢
  rw [← hnn] at hnl hnc h0n hsn HX0 ⊢
  rw [← hln] at HX0 ⊢
  clear hG hr htn hnn hln
  go_enter Try.func50, Try.ntmps50
  go_wp2_with fail
  go_quiet (fail)
  have HX := HX0.out nq
  generalize (w.alloc (.cells #[.slice ta tn tc, .slice na nn nc, .slice la ln lc, .int .i64 st, .slice pa n pc] 27)).drewN nq = W at *
  have HXH : Hid (PhAt w W w.heap.size #[.slice ta tn tc, .slice na nn nc, .slice la ln lc, .int .i64 st, .slice pa n pc]) := HX
  obtain ⟨m0, m1, m2, m3, m4⟩ := HX.cells
  clear HX HX0 hsn hsp
  by_cases hlim : 64 < (tn : Int) - 1 + nn1
  · have hd : decide (64 < (tn : Int) - 1 + nn1) = true := decide_eq_true hlim
    have hf : r = false := HRF.out fun h => by have h1 := h.syms; rw [HTN.out.1, HNP.out.1] at h1; omega
    go_wp2_with fail
    go_ret
    exact ⟨by first | rfl | (rw [hf]; rfl), HXH.out.grown⟩
  · have hd : decide (64 < (tn : Int) - 1 + nn1) = false := decide_eq_false hlim
    by_cases hlp : 96 < n1
    · have hd2 : decide (96 < (n1 : Int)) = true := decide_eq_true (by omega)
      have hf : r = false := HRF.out fun h => by have h1 := h.cnt; rw [HNP.out.2.1] at h1; omega
      go_wp2_with fail
      go_ret
      exact ⟨by first | rfl | (rw [hf]; rfl), HXH.out.grown⟩
    · have hd2 : decide (96 < (n1 : Int)) = false := decide_eq_false (by omega)
      have hnn65 : nn1 ≤ 65 := by omega
      have htn65 : tn ≤ 65 := by omega
      have hn96 : n1 ≤ 96 := by omega
      obtain ⟨rT, hrT⟩ := boolOf (termsOK ts ln)
      have HTT : Hid (Calls Try.prog 69 #[.agg #[.slice ta tn tc, .slice na nn nc, .slice la ln lc, .int .i64 st, .slice pa n pc]] W fun e w' => e = .returned (.bool rT) ∧ W.grownBy w' none) := by
        have := termsHold_any ta na la pa nn ln n tc nc lc pc st ts W (HG.out.kept HXH.out.grown).terms (by rw [HTN.out.1]; exact htn65) HG.out.tcap rT hrT
        rwa [HTN.out.1] at this
      have HRT : Hid (rT = true ↔ termsOK ts ln) := hrT
      have HLM : Hid (¬ 64 < (tn : Int) - 1 + nn1) := hlim
      clear hrT hlim hlp
      cases rT with
      | false =>
        have hf : r = false := HRF.out fun h => by have h1 := h.terms; rw [HTN.out.2.2] at h1; have := HRT.out.2 h1; cases this
        go_wp2_with fail
        refine HTT.out.mono ?_
        rintro e w2 ⟨rfl, hg2⟩
        have HG2 : Hid (w.grownBy w2 none) := grown_trans HXH.out.grown hg2
        clear hg2 m0 m1 m2 m3 m4
        go_wp2_with fail
        go_ret
        exact ⟨by first | rfl | (rw [hf]; rfl), HG2.out⟩
      | true =>
        go_wp2_with fail
        refine HTT.out.mono ?_
        rintro e w2 ⟨rfl, hg2⟩
        have HX2 : Hid (PhAt w w2 w.heap.size #[.slice ta tn tc, .slice na nn nc, .slice la ln lc, .int .i64 st, .slice pa n pc]) := HXH.out.kept hg2
        clear hg2 m0 m1 m2 m3 m4 HTT HXH
        have HNH : Hid (Calls Try.prog 70 #[.slice na1 nn1 nc1] w2 fun e w' => ∃ r, e = .returned (.bool r) ∧ (r = true ↔ (∀ s ∈ ns.drop 1, isNameB s = true) ∧ (ns.drop 1).Nodup) ∧ w2.grownBy w' none) := by
          have := nonsHold_any na1 nc1 (ns.drop 1) w2 (HN1.out.kept HX2.out.grown) (by rw [HNP.out.2.2]; exact hnn65)
          rwa [HNP.out.2.2] at this
        go_wp2_with fail
        refine HNH.out.mono ?_
        rintro e w3 ⟨rN, rfl, hrN, hg3⟩
        have HRN : Hid (rN = true ↔ (∀ s ∈ ns.drop 1, isNameB s = true) ∧ (ns.drop 1).Nodup) := hrN
        have HX3 : Hid (PhAt w w3 w.heap.size #[.slice ta tn tc, .slice na nn nc, .slice la ln lc, .int .i64 st, .slice pa n pc]) := HX2.out.kept hg3
        clear hrN hg3 HNH HX2
        cases rN with
        | false =>
          have hf : r = false := HRF.out fun h => by have := HRN.out.2 h.nons; cases this
          have HGE : Hid (w.grownBy w3 none) := HX3.out.grown
          clear HX3
          go_wp2_with fail
          go_ret
          exact ⟨by first | rfl | (rw [hf]; rfl), HGE.out⟩
        | true =>
          obtain ⟨rL, hrL⟩ := boolOf (∀ j, j < lv.length → levelOK ts lv j)
          have HLH : Hid (Calls Try.prog 71 #[.agg #[.slice ta tn tc, .slice na nn nc, .slice la ln lc, .int .i64 st, .slice pa n pc]] w3 fun e w' => e = .returned (.bool rL) ∧ w3.grownBy w' none) := by
            have := levelsHold_any ta na la pa nn n tc nc lc pc st ts lv w3 (HG.out.kept HX3.out.grown).terms (HG.out.kept HX3.out.grown).levels (by rw [HTN.out.1]; exact htn65) HG.out.llen rL hrL
            rwa [HTN.out.1, HTN.out.2.2] at this
          have HRL : Hid (rL = true ↔ ∀ j, j < lv.length → levelOK ts lv j) := hrL
          clear hrL
          obtain ⟨m0, m1, m2, m3, m4⟩ := HX3.out.cells
          go_wp2_with fail
          refine HLH.out.mono ?_
          rintro e w4 ⟨rfl, hg4⟩
          have HX4 : Hid (PhAt w w4 w.heap.size #[.slice ta tn tc, .slice na nn nc, .slice la ln lc, .int .i64 st, .slice pa n pc]) := HX3.out.kept hg4
          clear hg4 HLH HX3 m0 m1 m2 m3 m4
          cases rL with
          | false =>
            have hf : r = false := HRF.out fun h => by have := HRL.out.2 h.levels; cases this
            have HGE : Hid (w.grownBy w4 none) := HX4.out.grown
            clear HX4
            go_wp2_with fail
            go_ret
            exact ⟨by first | rfl | (rw [hf]; rfl), HGE.out⟩
          | true =>
            obtain ⟨rP, hrP⟩ := boolOf (∀ i, i < n1 → prodOK tn nn ln 1 (L (1 + i)) (R (1 + i)) (V (1 + i)))
            have HPH : Hid (Calls Try.prog 72 #[.agg #[.slice ta tn tc, .slice na nn nc, .slice la ln lc, .int .i64 st, .slice pa n pc], .slice pa1 n1 pc1, .int .i64 1] w4 fun e w' => e = .returned (.bool rP) ∧ w4.grownBy w' none) :=
              prodsHold_any ta na la pa pa1 tn nn ln n tc nc lc pc n1 pc1 1 st (fun i => L (1 + i)) (fun i => R (1 + i)) (fun i => ra (1 + i)) (fun i => rc (1 + i)) (fun i => V (1 + i)) w4 (by have := HP1.out.kept HX4.out.grown; rw [HNP.out.2.1] at this; exact this) (by omega) (by omega) (by omega) (by omega) rP hrP
            have HRP : Hid (rP = true ↔ ∀ i, i < n1 → prodOK tn nn ln 1 (L (1 + i)) (R (1 + i)) (V (1 + i))) := hrP
            clear hrP
            obtain ⟨m0, m1, m2, m3, m4⟩ := HX4.out.cells
            go_wp2_with fail
            refine HPH.out.mono ?_
            rintro e w5 ⟨rfl, hg5⟩
            have HX5 : Hid (PhAt w w5 w.heap.size #[.slice ta tn tc, .slice na nn nc, .slice la ln lc, .int .i64 st, .slice pa n pc]) := HX4.out.kept hg5
            clear hg5 HPH HX4 m0 m1 m2 m3 m4
            cases rP with
            | false =>
              have hf : r = false := HRF.out fun h => by have h1 := h.prods; rw [HTN.out.1, HTN.out.2.1, HTN.out.2.2, HNP.out.2.1] at h1; have := HRP.out.2 h1; cases this
              have HGE : Hid (w.grownBy w5 none) := HX5.out.grown
              clear HX5
              go_wp2_with fail
              go_ret
              exact ⟨by first | rfl | (rw [hf]; rfl), HGE.out⟩
            | true =>
              have HLF : Hid (Calls Try.prog 73 #[.slice pa1 n1 pc1] w5 fun e w' => ∃ a' c', e = .returned (.slice a' (leftsTo (fun i => L (1 + i)) n1).length c') ∧ w'.ownsRow w5.heap.size 3 1 (.slice a' (leftsTo (fun i => L (1 + i)) n1).length c') (leftsTo (fun i => L (1 + i)) n1).length ((leftsTo (fun i => L (1 + i)) n1).map (Value.int .i64)) ∧ w5.grownBy w' none) := lefts_any pa1 n1 pc1 (fun i => L (1 + i)) (fun i => R (1 + i)) (fun i => ra (1 + i)) (fun i => rc (1 + i)) (fun i => V (1 + i)) w5 (by have := HP1.out.kept HX5.out.grown; rw [HNP.out.2.1] at this; exact this) (by omega)
              have hML := leftsTo_le (fun i => L (1 + i)) n1
              obtain ⟨M, hM⟩ : ∃ M, M = (leftsTo (fun i => L (1 + i)) n1).length := ⟨_, rfl⟩
              have HMM : Hid ((leftsTo (fun i => L (1 + i)) n1).length = M) := hM.symm
              rw [← hM] at hML HLF
              clear hM
              go_wp2_with fail
              refine HLF.out.mono ?_
              rintro e w6 ⟨a', c', rfl, _, hg6⟩
              have HX6 : Hid (PhAt w w6 w.heap.size #[.slice ta tn tc, .slice na nn nc, .slice la ln lc, .int .i64 st, .slice pa n pc]) := HX5.out.kept hg6
              clear hg6 HLF HX5
              obtain ⟨m0, m1, m2, m3, m4⟩ := HX6.out.cells
              by_cases hMn : M = nn1
              · have hb : ((M : Int) == (nn1 : Int)) = true := beq_iff_eq.2 (by omega)
                have HMN : Hid (M = nn1) := hMn
                have HIN := isNonOf_any ta na la pa tn nn ln n tc nc lc pc 1 st st w6 (by omega) (by omega) (by omega)
                have HFIN : Hid ((decide ((tn : Int) + (1 : Nat) ≤ st) && decide (st < (tn : Int) + nn)) = r) := by
                  show (decide ((tn : Int) + (1 : Nat) ≤ st) && decide (st < (tn : Int) + nn)) = r
                  rw [Bool.eq_iff_iff, HRR.out, Bool.and_eq_true, decide_eq_true_eq, decide_eq_true_eq]
                  obtain ⟨t1, t2, t3⟩ := HTN.out
                  constructor
                  · intro hs
                    exact ⟨by rw [t1, HNP.out.1]; have := HLM.out; omega, by rw [HNP.out.2.1]; exact hn96, by rw [t3]; exact HRT.out.1 (by first | rfl | trivial), HRN.out.1 (by first | rfl | trivial), HRL.out.1 (by first | rfl | trivial), by rw [t1, t2, t3, HNP.out.2.1]; exact HRP.out.1 (by first | rfl | trivial), by rw [HNP.out.1, HNP.out.2.1, HMM.out]; exact HMN.out, by rw [t1, t2]; exact hs⟩
                  · intro h
                    have h1 := h.start
                    rw [t1, t2] at h1
                    exact h1
                clear hMn
                go_wp2_with fail
                refine HIN.mono ?_
                rintro e w7 ⟨rfl, hg7⟩
                rw [HFIN.out]
                have HGE : Hid (w.grownBy w7 none) := grown_trans HX6.out.grown hg7
                clear hg7 HIN m0 m1 m2 m3 m4
                go_wp2_with fail
                go_ret
                exact ⟨rfl, HGE.out⟩
              · have hb : ((M : Int) == (nn1 : Int)) = false := beq_eq_false_iff_ne.2 (by omega)
                have hf : r = false := HRF.out fun h => by have h1 := h.lefts; rw [HNP.out.1, HNP.out.2.1, HMM.out] at h1; exact hMn h1
                have HGE : Hid (w.grownBy w6 none) := HX6.out.grown
                clear hMn HX6
                go_wp2_with fail
                go_ret
                exact ⟨by first | rfl | (rw [hf]; rfl), HGE.out⟩

/-- Is a grammar closed? -/
def closedOK (ts : List (ByteArray × Int)) (ns : List ByteArray) (lv : List Int) (st : Int) (n : Nat) (L : Nat → Int) (R : Nat → List Int) (V : Nat → Int) : Prop := addedOK ts ns st n L R V ∧ fitsOK 1 ts ns lv st n L R V

set_option maxRecDepth 100000 in
set_option maxHeartbeats 1000000 in
theorem closed_any (ta na la pa : Option Addr) (tc nc lc pc : Nat) (ts : List (ByteArray × Int)) (ns : List ByteArray) (lv : List Int) (n : Nat) (L : Nat → Int) (R : Nat → List Int) (ra : Nat → Option Addr) (rc : Nat → Nat) (V : Nat → Int) (st : Int) (w : World) (hG : GAt w ta na la pa tc nc lc pc ts ns lv n L R ra rc V) (r : Bool) (hr : r = true ↔ closedOK ts ns lv st n L R V) :
    Calls Try.prog 39 #[.agg #[.slice ta ts.length tc, .slice na ns.length nc, .slice la lv.length lc, .int .i64 st, .slice pa n pc]] w fun e w' => e = .returned (.bool r) ∧ w.grownBy w' none := by
  obtain ⟨rA, hrA⟩ := boolOf (addedOK ts ns st n L R V)
  obtain ⟨rF, hrF⟩ := boolOf (fitsOK 1 ts ns lv st n L R V)
  have HA : Hid (∀ W, w.grownBy W none → Calls Try.prog 63 #[.agg #[.slice ta ts.length tc, .slice na ns.length nc, .slice la lv.length lc, .int .i64 st, .slice pa n pc]] W fun e w' => e = .returned (.bool rA) ∧ W.grownBy w' none) := fun W hg => hasAdded_any st (hG.kept hg) rA hrA
  have HH : Hid (rA = true → ∀ W, w.grownBy W none → Calls Try.prog 50 #[.agg #[.slice ta ts.length tc, .slice na ns.length nc, .slice la lv.length lc, .int .i64 st, .slice pa n pc], .int .i64 1] W fun e w' => e = .returned (.bool rF) ∧ W.grownBy w' none) := fun hA W hg =>
    holds_one ta na la pa tc nc lc pc ts ns lv n L R ra rc V st W (hG.kept hg) (hrA.1 hA).nn (hrA.1 hA).pn rF (hrF.trans (fits_holds1 ts ns lv st n L R V (hrA.1 hA).nn))
  have HR : Hid ((rA && rF) = r) := by
    show (rA && rF) = r
    rw [Bool.eq_iff_iff, hr, Bool.and_eq_true, hrA, hrF]
    rfl
  have HB : Hid (∀ w2, (w.alloc (.cells #[.slice ta ts.length tc, .slice na ns.length nc, .slice la lv.length lc, .int .i64 st, .slice pa n pc] 27)).grownBy w2 none → PhAt w w2 w.heap.size #[.slice ta ts.length tc, .slice na ns.length nc, .slice la lv.length lc, .int .i64 st, .slice pa n pc]) := fun w2 h2 => (PhAt.mk (World.grownBy_alloc _ _ none) (heap_alloc_last w _)).kept h2
  clear hG hr hrA hrF
  generalize ts.length = tn at *
  generalize ns.length = nn at *
  generalize lv.length = ln at *
  cases rA with
  | false =>
    go_enter Try.func39, Try.ntmps39
    go_wp2_with fail
    refine Calls.mono (HA.out _ (World.grownBy_alloc _ _ none)) ?_
    rintro e w2 ⟨rfl, hg2⟩
    have HX := show Hid _ from (HB.out w2 hg2).grown
    clear hg2
    go_wp2_with fail
    go_ret
    exact ⟨by rw [← HR.out]; rfl, HX.out⟩
  | true =>
    go_enter Try.func39, Try.ntmps39
    go_wp2_with fail
    refine Calls.mono (HA.out _ (World.grownBy_alloc _ _ none)) ?_
    rintro e w2 ⟨rfl, hg2⟩
    have HX := show Hid _ from HB.out w2 hg2
    obtain ⟨m0, m1, m2, m3, m4⟩ := HX.out.cells
    clear hg2
    go_wp2_with fail
    refine Calls.mono (HH.out (by simp) w2 HX.out.grown) ?_
    rintro e w3 ⟨rfl, hg3⟩
    have HX3 := show Hid _ from grown_trans HX.out.grown hg3
    clear hg3 m0 m1 m2 m3 m4
    go_wp2_with fail
    go_ret
    exact ⟨by rw [← HR.out]; rfl, HX3.out⟩

end Go.Proofs.Ytljlkmiaemkokaa

/-
  The document's Closed, of any grammar.
-/
namespace Go.Proofs.Ytljlkmiaemkokaa
open Go.RowKit Go.Maps Go.Shelf

attribute [local go_sem] Oper.semAt_some

set_option maxRecDepth 100000 in
set_option maxHeartbeats 1000000 in
theorem rclosed_look (bn on bp op : Nat) (ta la ra : Option Addr) (tn nn ln pn tc nc lc pc rc : Nat) (st L0 V0 : Int) (R0 : List Int) (w : World) (hn : w.cell? ⟨bn, on, none⟩ = some (.string ⟨#[]⟩)) (h0 : 2 ≤ nn) (hp : 2 ≤ pn)
    (p0 : w.cell? ⟨bp, op, none⟩ = some (.int .i64 L0)) (p1 : w.cell? ⟨bp, op + 1, none⟩ = some (.slice ra R0.length rc)) (p2 : w.cell? ⟨bp, op + 2, none⟩ = some (.int .i64 V0)) (hR : IntsAt w ra R0) (hRl : R0.length ≤ 17592186044416) (rF : Bool)
    (hF : ∀ W, w.grownBy W none → Calls Try.prog 36 #[.agg #[.slice ta tn tc, .slice (some ⟨bn, on, none⟩) nn nc, .slice la ln lc, .int .i64 st, .slice (some ⟨bp, op, none⟩) pn pc], .int .i64 1] W fun e w' => e = .returned (.bool rF) ∧ W.grownBy w' none) (r : Bool) (hr : r = true ↔ (L0 = tn ∧ R0 = [st] ∧ V0 = 0) ∧ rF = true) :
    Calls Try.prog 18 #[.agg #[.slice ta tn tc, .slice (some ⟨bn, on, none⟩) nn nc, .slice la ln lc, .int .i64 st, .slice (some ⟨bp, op, none⟩) pn pc]] w fun e w' => e = .returned (.bool r) ∧ w.grownBy w' none := by
  have HF := show Hid _ from hF
  have HRR := show Hid _ from hr
  have hd : decide ((nn : Int) < 2) = false := decide_eq_false (by omega)
  have hd' : decide (nn < 2) = false := decide_eq_false (by omega)
  have hd2 : decide ((pn : Int) < 2) = false := decide_eq_false (by omega)
  have hd2' : decide (pn < 2) = false := decide_eq_false (by omega)
  have HR1 : Hid (R0.length = 1 → ∃ br ofr, ra = some ⟨br, ofr, none⟩ ∧ ∀ W, w.grownBy W none → W.cell? ⟨br, ofr, none⟩ = some (.int .i64 (R0.getD 0 0))) := fun hl => by
    rcases hR with h | ⟨b, off, e, hc⟩
    · rw [h] at hl; simp at hl
    · exact ⟨b, off, e, fun W hW => hW.cell (hc 0 (by omega)) (by simp)⟩
  have HRS : Hid (R0 = [st] ↔ R0.length = 1 ∧ R0.getD 0 0 = st) := by
    show _ ↔ _
    match R0 with
    | [] => simp
    | [x] => simp
    | x :: y :: l => simp
  have n0 : ∀ o, (w.alloc o).cell? ⟨bn, on, none⟩ = some (.string ⟨#[]⟩) := fun o => (World.grownBy_alloc w o none).cell hn (by simp)
  have q0 : ∀ o, (w.alloc o).cell? ⟨bp, op, none⟩ = some (.int .i64 L0) := fun o => (World.grownBy_alloc w o none).cell p0 (by simp)
  have q1 : ∀ o, (w.alloc o).cell? ⟨bp, op + 1, none⟩ = some (.slice ra R0.length rc) := fun o => (World.grownBy_alloc w o none).cell p1 (by simp)
  have q2 : ∀ o, (w.alloc o).cell? ⟨bp, op + 2, none⟩ = some (.int .i64 V0) := fun o => (World.grownBy_alloc w o none).cell p2 (by simp)
  obtain ⟨rn, hrn⟩ : ∃ rn, rn = R0.length := ⟨_, rfl⟩
  have HRN : Hid (R0.length = rn) := hrn.symm
  rw [← hrn] at q1 hRl HR1 HRS
  obtain ⟨z, hz⟩ : ∃ z, z = R0.getD 0 0 := ⟨_, rfl⟩
  rw [← hz] at HR1 HRS
  have HNO : Hid (¬ ((L0 = tn ∧ R0 = [st] ∧ V0 = 0) ∧ rF = true) → r = false) := fun h => Bool.eq_false_iff.2 fun hh => h (hr.1 hh)
  clear hn p0 p1 p2 hR hr hF hrn hz
  by_cases hL : L0 = tn
  · by_cases hl : rn = 1
    · obtain ⟨br, ofr, rfl, hc0⟩ := HR1.out hl
      have hc1 : ∀ o, (w.alloc o).cell? ⟨br, ofr, none⟩ = some (.int .i64 z) := fun o => hc0 _ (World.grownBy_alloc w o none)
      have hc2 : ∀ o o2, ((w.alloc o).alloc o2).cell? ⟨br, ofr, none⟩ = some (.int .i64 z) := fun o o2 => hc0 _ (grown_trans (World.grownBy_alloc w o none) (World.grownBy_alloc _ o2 none))
      have e1 : (L0 != (tn : Int)) = false := by rw [hL]; simp
      have e2 : ((rn : Int) != 1) = false := by rw [hl]; rfl
      have e2' : (rn != 1) = false := by rw [hl]; rfl
      have hrp : 0 < rn := by omega
      by_cases hz : z = st
      · have e3 : (z != st) = false := by rw [hz]; simp
        by_cases hV : V0 = 0
        · have e4 : (V0 != 0) = false := by rw [hV]; rfl
          have HE : Hid (rF = r) := by
            show rF = r
            rw [Bool.eq_iff_iff, HRR.out]
            exact ⟨fun h => ⟨⟨hL, HRS.out.2 ⟨hl, hz⟩, hV⟩, h⟩, fun h => h.2⟩
          have HB : Hid (∀ o2 q, PhAt w ((((w.alloc (.cells #[.slice ta tn tc, .slice (some ⟨bn, on, none⟩) nn nc, .slice la ln lc, .int .i64 st, .slice (some ⟨bp, op, none⟩) pn pc] 27)).alloc o2)).drewN q) w.heap.size #[.slice ta tn tc, .slice (some ⟨bn, on, none⟩) nn nc, .slice la ln lc, .int .i64 st, .slice (some ⟨bp, op, none⟩) pn pc]) := fun o2 q => ((PhAt.mk (World.grownBy_alloc _ _ none) (heap_alloc_last w _)).kept (World.grownBy_alloc _ o2 none)).kept (grown_drewN _ q)
          clear hL hl hz hV HRR HRS HNO HR1
          go_enter Try.func18, Try.ntmps18
          go_wp2_with fail
          go_quiet (fail)
          have HX := HB.out (.cells #[.int .i64 L0, .slice (some ⟨br, ofr, none⟩) rn rc, .int .i64 V0] 45) nq
          generalize (((w.alloc (.cells #[.slice ta tn tc, .slice (some ⟨bn, on, none⟩) nn nc, .slice la ln lc, .int .i64 st, .slice (some ⟨bp, op, none⟩) pn pc] 27)).alloc (.cells #[.int .i64 L0, .slice (some ⟨br, ofr, none⟩) rn rc, .int .i64 V0] 45))).drewN nq = W at *
          obtain ⟨m0, m1, m2, m3, m4⟩ := HX.cells
          have HXH := show Hid _ from HX.grown
          clear HX HB
          go_wp2_with fail
          refine Calls.mono (HF.out W HXH.out) ?_
          rintro e w3 ⟨rfl, hg3⟩
          have HG3 := show Hid _ from grown_trans HXH.out hg3
          clear hg3 m0 m1 m2 m3 m4
          go_wp2_with fail
          go_ret
          exact ⟨by rw [HE.out]; rfl, HG3.out⟩
        · have e4 : (V0 != 0) = true := by simp [hV]
          have hf : r = false := HNO.out fun h => hV h.1.2.2
          clear hL hl hz hV HRR HRS HNO HR1
          go_enter Try.func18, Try.ntmps18
          go_wp2_with fail
          go_quiet (fail)
          go_wp2_with fail
          go_ret
          exact ⟨by first | rfl | (rw [hf]; rfl), grown_trans (grown_trans (World.grownBy_alloc _ _ none) (World.grownBy_alloc _ _ none)) (grown_drewN _ _)⟩
      · have e3 : (z != st) = true := by simp [hz]
        have hf : r = false := HNO.out fun h => hz (HRS.out.1 h.1.2.1).2
        clear hL hl hz HRR HRS HNO HR1
        go_enter Try.func18, Try.ntmps18
        go_wp2_with fail
        go_quiet (fail)
        go_wp2_with fail
        go_ret
        exact ⟨by first | rfl | (rw [hf]; rfl), grown_trans (grown_trans (World.grownBy_alloc _ _ none) (World.grownBy_alloc _ _ none)) (grown_drewN _ _)⟩
    · have e1 : (L0 != (tn : Int)) = false := by rw [hL]; simp
      have e2 : ((rn : Int) != 1) = true := by simp; omega
      have e2' : (rn != 1) = true := by simp [hl]
      have hf : r = false := HNO.out fun h => hl (HRS.out.1 h.1.2.1).1
      clear hL hl HRR HRS HNO HR1
      go_enter Try.func18, Try.ntmps18
      go_wp2_with fail
      go_quiet (fail)
      go_wp2_with fail
      go_ret
      exact ⟨by first | rfl | (rw [hf]; rfl), grown_trans (grown_trans (World.grownBy_alloc _ _ none) (World.grownBy_alloc _ _ none)) (grown_drewN _ _)⟩
  · have e1 : (L0 != (tn : Int)) = true := by simp [hL]
    have hf : r = false := HNO.out fun h => hL h.1.1
    clear hL HRR HRS HNO HR1
    go_enter Try.func18, Try.ntmps18
    go_wp2_with fail
    go_quiet (fail)
    go_wp2_with fail
    go_ret
    exact ⟨by first | rfl | (rw [hf]; rfl), grown_trans (grown_trans (World.grownBy_alloc _ _ none) (World.grownBy_alloc _ _ none)) (grown_drewN _ _)⟩

theorem rclosed_few (ta na la pa : Option Addr) (tn nn ln pn tc nc lc pc : Nat) (st : Int) (w : World) (h : nn < 2) :
    Calls Try.prog 18 #[.agg #[.slice ta tn tc, .slice na nn nc, .slice la ln lc, .int .i64 st, .slice pa pn pc]] w fun e w' => e = .returned (.bool false) ∧ w.grownBy w' none := by
  have hd : decide ((nn : Int) < 2) = true := decide_eq_true (by omega)
  have hd' : decide (nn < 2) = true := decide_eq_true h
  go_enter Try.func18, Try.ntmps18
  go_wp2_with fail
  go_ret
  exact ⟨rfl, World.grownBy_alloc _ _ none⟩

theorem rclosed_name (bn on : Nat) (ta la pa : Option Addr) (tn nn ln pn tc nc lc pc : Nat) (st : Int) (s : ByteArray) (w : World) (h : 2 ≤ nn) (hn : w.cell? ⟨bn, on, none⟩ = some (.string s)) (hs : s ≠ ⟨#[]⟩) :
    Calls Try.prog 18 #[.agg #[.slice ta tn tc, .slice (some ⟨bn, on, none⟩) nn nc, .slice la ln lc, .int .i64 st, .slice pa pn pc]] w fun e w' => e = .returned (.bool false) ∧ w.grownBy w' none := by
  have hd : decide ((nn : Int) < 2) = false := decide_eq_false (by omega)
  have hd' : decide (nn < 2) = false := decide_eq_false (by omega)
  have n0 : ∀ o, (w.alloc o).cell? ⟨bn, on, none⟩ = some (.string s) := fun o => (World.grownBy_alloc w o none).cell hn (by simp)
  have hne2 := isEmpty_false hs
  have hne : (s.toList == (ByteArray.mk #[]).toList) = false := strEq_false hs
  clear hn hs
  go_enter Try.func18, Try.ntmps18
  go_wp2_with fail
  go_ret
  exact ⟨rfl, World.grownBy_alloc _ _ none⟩

theorem rclosed_prods (bn on : Nat) (ta la pa : Option Addr) (tn nn ln pn tc nc lc pc : Nat) (st : Int) (w : World) (h : 2 ≤ nn) (hn : w.cell? ⟨bn, on, none⟩ = some (.string ⟨#[]⟩)) (hp : pn < 2) :
    Calls Try.prog 18 #[.agg #[.slice ta tn tc, .slice (some ⟨bn, on, none⟩) nn nc, .slice la ln lc, .int .i64 st, .slice pa pn pc]] w fun e w' => e = .returned (.bool false) ∧ w.grownBy w' none := by
  have hd : decide ((nn : Int) < 2) = false := decide_eq_false (by omega)
  have hd' : decide (nn < 2) = false := decide_eq_false (by omega)
  have hd2 : decide ((pn : Int) < 2) = true := decide_eq_true (by omega)
  have hd2' : decide (pn < 2) = true := decide_eq_true hp
  have n0 : ∀ o, (w.alloc o).cell? ⟨bn, on, none⟩ = some (.string ⟨#[]⟩) := fun o => (World.grownBy_alloc w o none).cell hn (by simp)
  clear hn
  go_enter Try.func18, Try.ntmps18
  go_wp2_with fail
  go_ret
  exact ⟨rfl, World.grownBy_alloc _ _ none⟩

/-- The document's Closed: is a grammar closed? -/
theorem rclosed_any (ta na la pa : Option Addr) (tc nc lc pc : Nat) (st : Int) (ts : List (ByteArray × Int)) (ns : List ByteArray) (lv : List Int) (n : Nat) (L : Nat → Int) (R : Nat → List Int) (ra : Nat → Option Addr) (rc : Nat → Nat) (V : Nat → Int) (w : World)
    (hG : GAt w ta na la pa tc nc lc pc ts ns lv n L R ra rc V) (hts : ∀ t ∈ ts, t.1.size ≤ 140737488355328) (hns : ∀ s ∈ ns, s.size ≤ 140737488355328) (r : Bool) (hr : r = true ↔ closedOK ts ns lv st n L R V) :
    Calls Try.prog 18 #[.agg #[.slice ta ts.length tc, .slice na ns.length nc, .slice la lv.length lc, .int .i64 st, .slice pa n pc]] w fun e w' => e = .returned (.bool r) ∧ w.grownBy w' none := by
  have no : ¬ closedOK ts ns lv st n L R V → r = false := fun h => Bool.eq_false_iff.2 fun hh => h (hr.1 hh)
  by_cases h2 : ns.length < 2
  · rw [no (fun h => by have h4 := h.2.start; unfold isNonI at h4; omega)]
    exact rclosed_few ta na la pa _ _ _ _ _ _ _ _ st w h2
  · obtain ⟨bn, on, rfl, hnc⟩ : ∃ b off, na = some ⟨b, off, none⟩ ∧ ∀ i, i < ns.length → w.cell? ⟨b, off + i, none⟩ = some (.string (ns.getD i ⟨#[]⟩)) := by
      rcases hG.nons with h | h
      · rw [h] at h2; simp at h2
      · exact h
    have hc := hnc 0 (by omega)
    by_cases hs : ns.getD 0 ⟨#[]⟩ = ⟨#[]⟩
    · rw [hs] at hc
      by_cases hp : n < 2
      · rw [no (fun h => by have := h.2.p1; omega)]
        exact rclosed_prods bn on ta la pa _ _ _ _ _ _ _ _ st w (by omega) hc hp
      · obtain ⟨bp, op, rfl, hps⟩ : ∃ b off, pa = some ⟨b, off, none⟩ ∧ ∀ k, k < n → w.cell? ⟨b, off + k * 3, none⟩ = some (.int .i64 (L k)) ∧ w.cell? ⟨b, off + k * 3 + 1, none⟩ = some (.slice (ra k) (R k).length (rc k)) ∧ w.cell? ⟨b, off + k * 3 + 2, none⟩ = some (.int .i64 (V k)) ∧ IntsAt w (ra k) (R k) ∧ (ra k = none → rc k = 0) ∧ (R k).length ≤ 17592186044416 := by
          rcases hG.prods with h | h
          · omega
          · exact h
        obtain ⟨p0, p1, p2, p3, _, p5⟩ := hps 0 (by omega)
        simp only [Nat.zero_mul, Nat.add_zero] at p0 p1 p2
        obtain ⟨rF, hrF⟩ := boolOf (fitsOK 1 ts ns lv st n L R V)
        refine rclosed_look bn on bp op ta la (ra 0) ts.length ns.length lv.length n tc nc lc pc (rc 0) st (L 0) (V 0) (R 0) w hc (by omega) (by omega) p0 p1 p2 p3 p5 rF (fun W hW => fits_any ta _ la _ ts.length ns.length lv.length n tc nc lc pc 1 st ts ns lv L R ra rc V W (hG.kept hW) ⟨rfl, rfl, rfl⟩ (by omega) (by omega) hts hns rF hrF) r ?_
        rw [hr, hrF]
        exact ⟨fun h => ⟨⟨h.1.left, h.1.right, h.1.level⟩, h.2⟩, fun ⟨⟨h1, h3, h4⟩, h5⟩ => ⟨⟨by omega, hs, by omega, h1, h3, h4⟩, h5⟩⟩
    · rw [no (fun h => hs h.1.name)]
      exact rclosed_name bn on ta la pa _ _ _ _ _ _ _ _ st _ w (by omega) hc hs

end Go.Proofs.Ytljlkmiaemkokaa

/-
  The document's Same of two grammars, walked.
-/
namespace Go.Proofs.Ytljlkmiaemkokaa
open Go.RowKit Go.Maps Go.Shelf

attribute [local go_sem] Oper.semAt_some

section
variable (ta na la pa ta' na' la' pa' : Option Addr) (tn nn ln pn tc nc lc pc tn' nn' ln' pn' tc' nc' lc' pc' : Nat) (st st' : Int)

set_option maxRecDepth 100000 in
set_option maxHeartbeats 1000000 in
theorem rsame_short (w : World) (rL : Bool) (hno : ¬ (rL = true ∧ st = st' ∧ tn = tn' ∧ nn = nn' ∧ pn = pn'))
    (hL : ∀ W, w.grownBy W none → Calls Try.prog 31 #[.slice la ln lc, .slice la' ln' lc'] W fun e w' => e = .returned (.bool rL) ∧ W.grownBy w' none) :
    Calls Try.prog 14 #[.agg #[.slice ta tn tc, .slice na nn nc, .slice la ln lc, .int .i64 st, .slice pa pn pc], .agg #[.slice ta' tn' tc', .slice na' nn' nc', .slice la' ln' lc', .int .i64 st', .slice pa' pn' pc']] w fun e w' => e = .returned (.bool false) ∧ w.grownBy w' none := by
  have HL : Hid (∀ W, w.grownBy W none → Calls Try.prog 31 #[.slice la ln lc, .slice la' ln' lc'] W fun e w' => e = .returned (.bool rL) ∧ W.grownBy w' none) := hL
  have HX : Hid (Ph2 w _ #[.slice ta tn tc, .slice na nn nc, .slice la ln lc, .int .i64 st, .slice pa pn pc] #[.slice ta' tn' tc', .slice na' nn' nc', .slice la' ln' lc', .int .i64 st', .slice pa' pn' pc']) := Ph2.mk' w _ _
  have HNO : Hid (¬ (rL = true ∧ st = st' ∧ tn = tn' ∧ nn = nn' ∧ pn = pn')) := hno
  clear hL hno
  go_enter Try.func14, Try.ntmps14
  go_wp2_with fail
  refine (HL.out _ HX.out.grown).mono ?_
  rintro e w1 ⟨rfl, hg1⟩
  have HX1 : Hid (Ph2 w w1 #[.slice ta tn tc, .slice na nn nc, .slice la ln lc, .int .i64 st, .slice pa pn pc] #[.slice ta' tn' tc', .slice na' nn' nc', .slice la' ln' lc', .int .i64 st', .slice pa' pn' pc']) := HX.out.kept hg1
  clear hg1 HX HL
  obtain ⟨⟨m0, m1, m2, m3, m4⟩, n0, n1, n2, n3, n4⟩ := HX1.out.cells
  cases rL with
  | false =>
    go_wp2_with fail
    go_ret
    exact ⟨rfl, HX1.out.grown⟩
  | true =>
    by_cases h1 : st = st'
    · have d1 : (st != st') = false := by simp [h1]
      have H1 : Hid (st = st') := h1
      clear h1
      by_cases h2 : tn = tn'
      · have d2 : ((tn : Int) != (tn' : Int)) = false := by simp [h2]
        have H2 : Hid (tn = tn') := h2
        clear h2
        by_cases h3 : nn = nn'
        · have d3 : ((nn : Int) != (nn' : Int)) = false := by simp [h3]
          have H3 : Hid (nn = nn') := h3
          clear h3
          by_cases h4 : pn = pn'
          · exact absurd ⟨rfl, H1.out, H2.out, H3.out, h4⟩ HNO.out
          · have d4 : ((pn : Int) != (pn' : Int)) = true := by simp; omega
            clear h4
            go_wp2_with fail
            go_ret
            exact ⟨rfl, HX1.out.grown⟩
        · have d3 : ((nn : Int) != (nn' : Int)) = true := by simp; omega
          clear h3
          go_wp2_with fail
          go_ret
          exact ⟨rfl, HX1.out.grown⟩
      · have d2 : ((tn : Int) != (tn' : Int)) = true := by simp; omega
        clear h2
        go_wp2_with fail
        go_ret
        exact ⟨rfl, HX1.out.grown⟩
    · have d1 : (st != st') = true := by simp [h1]
      clear h1
      go_wp2_with fail
      go_ret
      exact ⟨rfl, HX1.out.grown⟩
end

theorem prod2_cells {w W : World} {l1 l2 v1 v2 : Int} {s1 s2 : Value} (hg : ((w.alloc (.cells #[.int .i64 l1, s1, .int .i64 v1] 45)).alloc (.cells #[.int .i64 l2, s2, .int .i64 v2] 45)).grownBy W none) :
    W.cell? ⟨w.heap.size, 0, none⟩ = some (.int .i64 l1) ∧ W.cell? ⟨w.heap.size, 2, none⟩ = some (.int .i64 v1) ∧ W.cell? ⟨w.heap.size + 1, 0, none⟩ = some (.int .i64 l2) ∧ W.cell? ⟨w.heap.size + 1, 2, none⟩ = some (.int .i64 v2) := by
  have h1 := heap_alloc_last w (.cells #[.int .i64 l1, s1, .int .i64 v1] 45)
  have h2 := heap_alloc_last (w.alloc (.cells #[.int .i64 l1, s1, .int .i64 v1] 45)) (.cells #[.int .i64 l2, s2, .int .i64 v2] 45)
  rw [World.size_alloc] at h2
  have h1' := ((World.grownBy_alloc (w.alloc (.cells #[.int .i64 l1, s1, .int .i64 v1] 45)) (.cells #[.int .i64 l2, s2, .int .i64 v2] 45) none).block _ (Array.getElem?_eq_some_iff.1 h1).1 (by simp)).trans h1
  have g1 := (hg.block _ (Array.getElem?_eq_some_iff.1 h1').1 (by simp)).trans h1'
  have g2 := (hg.block _ (Array.getElem?_eq_some_iff.1 h2).1 (by simp)).trans h2
  refine ⟨?_, ?_, ?_, ?_⟩
  · rw [cell_of_row _ _ _ _ _ _ g1]; rfl
  · rw [cell_of_row _ _ _ _ _ _ g1]; rfl
  · rw [cell_of_row _ _ _ _ _ _ g2]; rfl
  · rw [cell_of_row _ _ _ _ _ _ g2]; rfl

section
variable (ta na la pa ta' na' la' pa' : Option Addr) (tn nn ln pn tc nc lc pc ln' tc' nc' lc' pc' : Nat) (st : Int)

set_option maxRecDepth 100000 in
set_option maxHeartbeats 2000000 in
theorem rsame_long (w : World) (ts ts' : List (ByteArray × Int)) (ns ns' : List ByteArray) (L1 L2 V1 V2 : Nat → Int) (R1 R2 : Nat → List Int) (ra1 ra2 : Nat → Option Addr) (rc1 rc2 : Nat → Nat)
    (hlen : ts.length = tn ∧ ts'.length = tn ∧ ns.length = nn ∧ ns'.length = nn) (hT1 : TermsAt w ta ts) (hT2 : TermsAt w ta' ts') (hN1 : StrsAt w na ns) (hN2 : StrsAt w na' ns') (hP1 : ProdsAt w pa pn L1 R1 ra1 rc1 V1) (hP2 : ProdsAt w pa' pn L2 R2 ra2 rc2 V2)
    (hbt : tn ≤ 17592186044416) (hbn : nn ≤ 17592186044416) (hbp : pn ≤ 17592186044416) (r : Bool) (hr : r = true ↔ (ts = ts' ∧ ns = ns' ∧ prodsSame pn pn L1 R1 V1 L2 R2 V2))
    (hL : ∀ W, w.grownBy W none → Calls Try.prog 31 #[.slice la ln lc, .slice la' ln' lc'] W fun e w' => e = .returned (.bool true) ∧ W.grownBy w' none) :
    Calls Try.prog 14 #[.agg #[.slice ta tn tc, .slice na nn nc, .slice la ln lc, .int .i64 st, .slice pa pn pc], .agg #[.slice ta' tn tc', .slice na' nn nc', .slice la' ln' lc', .int .i64 st, .slice pa' pn pc']] w fun e w' => e = .returned (.bool r) ∧ w.grownBy w' none := by
  have HL : Hid (∀ W, w.grownBy W none → Calls Try.prog 31 #[.slice la ln lc, .slice la' ln' lc'] W fun e w' => e = .returned (.bool true) ∧ W.grownBy w' none) := hL
  have HX0 : Hid (Ph2 w _ #[.slice ta tn tc, .slice na nn nc, .slice la ln lc, .int .i64 st, .slice pa pn pc] #[.slice ta' tn tc', .slice na' nn nc', .slice la' ln' lc', .int .i64 st, .slice pa' pn pc']) := Ph2.mk' w _ _
  have HR : Hid (r = true ↔ (ts = ts' ∧ ns = ns' ∧ prodsSame pn pn L1 R1 V1 L2 R2 V2)) := hr
  have HLEN : Hid (ts.length = tn ∧ ts'.length = tn ∧ ns.length = nn ∧ ns'.length = nn) := hlen
  have HT1 : Hid (TermsAt w ta ts) := hT1
  have HT2 : Hid (TermsAt w ta' ts') := hT2
  have HN1 : Hid (StrsAt w na ns) := hN1
  have HN2 : Hid (StrsAt w na' ns') := hN2
  have HP1 : Hid (ProdsAt w pa pn L1 R1 ra1 rc1 V1) := hP1
  have HP2 : Hid (ProdsAt w pa' pn L2 R2 ra2 rc2 V2) := hP2
  clear hL hr hlen hT1 hT2 hN1 hN2 hP1 hP2
  go_enter Try.func14, Try.ntmps14
  go_wp2_with fail
  refine (HL.out _ HX0.out.grown).mono ?_
  rintro e w1 ⟨rfl, hg1⟩
  have HX1 : Hid (Ph2 w w1 #[.slice ta tn tc, .slice na nn nc, .slice la ln lc, .int .i64 st, .slice pa pn pc] #[.slice ta' tn tc', .slice na' nn nc', .slice la' ln' lc', .int .i64 st, .slice pa' pn pc']) := HX0.out.kept hg1
  clear hg1 HX0 HL
  obtain ⟨⟨m0, m1, m2, m3, m4⟩, n0, n1, n2, n3, n4⟩ := HX1.out.cells
  have d1 : (st != st) = false := bne_self_eq_false _
  have d2 : ((tn : Int) != (tn : Int)) = false := bne_self_eq_false _
  have d3 : ((nn : Int) != (nn : Int)) = false := bne_self_eq_false _
  have d4 : ((pn : Int) != (pn : Int)) = false := bne_self_eq_false _
  go_wp2_with fail
  clear m0 m1 m2 m3 m4 n0 n1 n2 n3 n4 d1 d2 d3 d4
  go_loopw [6] (fun i wr => ∃ k : Nat, k ≤ tn ∧ i = .int .i64 k ∧ Ph2 w wr #[.slice ta tn tc, .slice na nn nc, .slice la ln lc, .int .i64 st, .slice pa pn pc] #[.slice ta' tn tc', .slice na' nn nc', .slice la' ln' lc', .int .i64 st, .slice pa' pn pc'] ∧ ∀ j, j < k → ts.getD j (⟨#[]⟩, 0) = ts'.getD j (⟨#[]⟩, 0)) (fun i _ => tn - (intOf i).toNat)
  case atStart => exact ⟨0, Nat.zero_le _, rfl, HX1.out, fun j hj => by omega⟩
  case round =>
    clear HX1
    obtain ⟨k, hk, rfl, hX, hall⟩ := hrel
    have HX : Hid (Ph2 w wr #[.slice ta tn tc, .slice na nn nc, .slice la ln lc, .int .i64 st, .slice pa pn pc] #[.slice ta' tn tc', .slice na' nn nc', .slice la' ln' lc', .int .i64 st, .slice pa' pn pc']) := hX
    have HA : Hid (∀ j, j < k → ts.getD j (⟨#[]⟩, 0) = ts'.getD j (⟨#[]⟩, 0)) := hall
    clear hX hall
    by_cases hlt : k < tn
    · clear HP1 HP2 HN1 HN2
      obtain ⟨b1, o1, rfl, hc1⟩ : ∃ b off, ta = some ⟨b, off, none⟩ ∧ ∀ i, i < ts.length → wr.cell? ⟨b, off + i * 2, none⟩ = some (.string (ts.getD i (⟨#[]⟩, 0)).1) ∧ wr.cell? ⟨b, off + i * 2 + 1, none⟩ = some (.int .i64 (ts.getD i (⟨#[]⟩, 0)).2) := by
        rcases HT1.out.kept HX.out.grown with h | h
        · have := HLEN.out; subst h; simp at this; omega
        · exact h
      obtain ⟨b2, o2, rfl, hc2⟩ : ∃ b off, ta' = some ⟨b, off, none⟩ ∧ ∀ i, i < ts'.length → wr.cell? ⟨b, off + i * 2, none⟩ = some (.string (ts'.getD i (⟨#[]⟩, 0)).1) ∧ wr.cell? ⟨b, off + i * 2 + 1, none⟩ = some (.int .i64 (ts'.getD i (⟨#[]⟩, 0)).2) := by
        rcases HT2.out.kept HX.out.grown with h | h
        · have := HLEN.out; subst h; simp at this; omega
        · exact h
      obtain ⟨e1, e3⟩ := hc1 k (by rw [HLEN.out.1]; exact hlt)
      obtain ⟨e2, e4⟩ := hc2 k (by rw [HLEN.out.2.1]; exact hlt)
      obtain ⟨⟨m0, _⟩, n0, _⟩ := HX.out.cells
      have HF : Hid (ts.getD k (⟨#[]⟩, 0) ≠ ts'.getD k (⟨#[]⟩, 0) → r = false) := fun h => Bool.eq_false_iff.2 fun hh => h (by rw [(HR.out.1 hh).1])
      have HS : Hid (ts.getD k (⟨#[]⟩, 0) = ts'.getD k (⟨#[]⟩, 0) → ∀ j, j < k + 1 → ts.getD j (⟨#[]⟩, 0) = ts'.getD j (⟨#[]⟩, 0)) := fun h j hj => by
        by_cases e : j = k
        · rw [e]; exact h
        · exact HA.out j (by omega)
      clear hc1 hc2
      generalize ts.getD k (⟨#[]⟩, 0) = x at *
      generalize ts'.getD k (⟨#[]⟩, 0) = y at *
      obtain ⟨x, u⟩ := x
      obtain ⟨y, v⟩ := y
      have hne := neqTerm x y u v
      by_cases hxy : (x, u) = (y, v)
      · have hd : (x.toList == y.toList && u == v) = true := by simp at hxy; simp [hxy]
        have hne' : ∀ w, (binOp .neq 57 (.agg #[.string x, .int .i64 u]) (.agg #[.string y, .int .i64 v])).run Try.prog w = .ok (.bool false) w := fun w => by rw [hne, hd]; rfl
        have HS' := HS.out hxy
        have HS2 : Hid (∀ j, j < k + 1 → ts.getD j (⟨#[]⟩, 0) = ts'.getD j (⟨#[]⟩, 0)) := HS'
        clear hxy HS' HS HF hd hne
        go_wp2_with fail
        go_quiet (fail)
        go_wp2
        go_roundw
        case rel => exact ⟨k + 1, by omega, by go_num, HX.out.kept (grown_drewN _ _), HS2.out⟩
        case measure => simp [intOf]; omega
      · have hd : (x.toList == y.toList && u == v) = false := by
          rw [Bool.eq_false_iff]
          intro h
          simp only [Bool.and_eq_true, beq_iff_eq, bytes_toList] at h
          exact hxy (by rw [h.1, h.2])
        have hne' : ∀ w, (binOp .neq 57 (.agg #[.string x, .int .i64 u]) (.agg #[.string y, .int .i64 v])).run Try.prog w = .ok (.bool true) w := fun w => by rw [hne, hd]; rfl
        have hrf := HF.out hxy
        clear hxy HS HF hd hne
        go_wp2_with fail
        go_quiet (fail)
        go_wp2
        go_ret
        exact ⟨by rw [hrf]; rfl, grown_trans HX.out.grown (grown_drewN _ _)⟩
    · obtain rfl : tn = k := by omega
      have HTS : Hid (ts = ts') := list_same (⟨#[]⟩, 0) (by rw [HLEN.out.1, HLEN.out.2.1]) fun i hi => HA.out i (by rw [← HLEN.out.1]; exact hi)
      clear HA hlt hk HT1 HT2
      obtain ⟨⟨m0, _⟩, n0, _⟩ := HX.out.cells
      go_wp2_with fail
      clear m0 n0
      go_loopw [7] (fun i wr => ∃ k : Nat, k ≤ nn ∧ i = .int .i64 k ∧ Ph2 w wr #[.slice ta tn tc, .slice na nn nc, .slice la ln lc, .int .i64 st, .slice pa pn pc] #[.slice ta' tn tc', .slice na' nn nc', .slice la' ln' lc', .int .i64 st, .slice pa' pn pc'] ∧ ∀ j, j < k → ns.getD j ⟨#[]⟩ = ns'.getD j ⟨#[]⟩) (fun i _ => nn - (intOf i).toNat)
      case atStart => exact ⟨0, Nat.zero_le _, rfl, HX.out, fun j hj => by omega⟩
      case round =>
        clear HX
        obtain ⟨k, hk, rfl, hX, hall⟩ := hrel
        have HX : Hid (Ph2 w wr #[.slice ta tn tc, .slice na nn nc, .slice la ln lc, .int .i64 st, .slice pa pn pc] #[.slice ta' tn tc', .slice na' nn nc', .slice la' ln' lc', .int .i64 st, .slice pa' pn pc']) := hX
        have HA : Hid (∀ j, j < k → ns.getD j ⟨#[]⟩ = ns'.getD j ⟨#[]⟩) := hall
        clear hX hall
        by_cases hlt : k < nn
        · clear HP1 HP2
          obtain ⟨b1, o1, rfl, hc1⟩ : ∃ b off, na = some ⟨b, off, none⟩ ∧ ∀ i, i < ns.length → wr.cell? ⟨b, off + i, none⟩ = some (.string (ns.getD i ⟨#[]⟩)) := by
            rcases HN1.out.kept HX.out.grown with h | h
            · have := HLEN.out; subst h; simp at this; omega
            · exact h
          obtain ⟨b2, o2, rfl, hc2⟩ : ∃ b off, na' = some ⟨b, off, none⟩ ∧ ∀ i, i < ns'.length → wr.cell? ⟨b, off + i, none⟩ = some (.string (ns'.getD i ⟨#[]⟩)) := by
            rcases HN2.out.kept HX.out.grown with h | h
            · have := HLEN.out; subst h; simp at this; omega
            · exact h
          have e1 := hc1 k (by rw [HLEN.out.2.2.1]; exact hlt)
          have e2 := hc2 k (by rw [HLEN.out.2.2.2]; exact hlt)
          obtain ⟨⟨_, m1, _⟩, _, n1, _⟩ := HX.out.cells
          have HF : Hid (ns.getD k ⟨#[]⟩ ≠ ns'.getD k ⟨#[]⟩ → r = false) := fun h => Bool.eq_false_iff.2 fun hh => h (by rw [(HR.out.1 hh).2.1])
          have HS : Hid (ns.getD k ⟨#[]⟩ = ns'.getD k ⟨#[]⟩ → ∀ j, j < k + 1 → ns.getD j ⟨#[]⟩ = ns'.getD j ⟨#[]⟩) := fun h j hj => by
            by_cases e : j = k
            · rw [e]; exact h
            · exact HA.out j (by omega)
          clear hc1 hc2
          generalize ns.getD k ⟨#[]⟩ = x at *
          generalize ns'.getD k ⟨#[]⟩ = y at *
          by_cases hxy : x = y
          · have hd : (x.toList == y.toList) = true := by simp [hxy]
            have HS' := HS.out hxy
            have HS2 : Hid (∀ j, j < k + 1 → ns.getD j ⟨#[]⟩ = ns'.getD j ⟨#[]⟩) := HS'
            clear hxy HS' HS HF
            go_wp2_with fail
            go_quiet (fail)
            go_wp2
            go_roundw
            case rel => exact ⟨k + 1, by omega, by go_num, HX.out.kept (grown_drewN _ _), HS2.out⟩
            case measure => simp [intOf]; omega
          · have hd : (x.toList == y.toList) = false := beq_eq_false_iff_ne.2 fun h => hxy ((bytes_toList x y).1 h)
            have hrf := HF.out hxy
            clear hxy HS HF
            go_wp2_with fail
            go_quiet (fail)
            go_wp2
            go_ret
            exact ⟨by rw [hrf]; rfl, grown_trans HX.out.grown (grown_drewN _ _)⟩
        · obtain rfl : nn = k := by omega
          have HNS : Hid (ns = ns') := list_same ⟨#[]⟩ (by rw [HLEN.out.2.2.1, HLEN.out.2.2.2]) fun i hi => HA.out i (by rw [← HLEN.out.2.2.1]; exact hi)
          clear HA hlt hk HN1 HN2
          obtain ⟨⟨_, m1, _⟩, _, n1, _⟩ := HX.out.cells
          go_wp2_with fail
          clear m1 n1
          go_loopw [8] (fun i wr => ∃ k : Nat, k ≤ pn ∧ i = .int .i64 k ∧ Ph2 w wr #[.slice ta tn tc, .slice na nn nc, .slice la ln lc, .int .i64 st, .slice pa pn pc] #[.slice ta' tn tc', .slice na' nn nc', .slice la' ln' lc', .int .i64 st, .slice pa' pn pc'] ∧ ∀ j, j < k → L1 j = L2 j ∧ R1 j = R2 j ∧ V1 j = V2 j) (fun i _ => pn - (intOf i).toNat)
          case atStart => exact ⟨0, Nat.zero_le _, rfl, HX.out, fun j hj => by omega⟩
          case round =>
            clear HX
            obtain ⟨k, hk, rfl, hX, hall⟩ := hrel
            have HX : Hid (Ph2 w wr #[.slice ta tn tc, .slice na nn nc, .slice la ln lc, .int .i64 st, .slice pa pn pc] #[.slice ta' tn tc', .slice na' nn nc', .slice la' ln' lc', .int .i64 st, .slice pa' pn pc']) := hX
            have HA : Hid (∀ j, j < k → L1 j = L2 j ∧ R1 j = R2 j ∧ V1 j = V2 j) := hall
            clear hX hall
            by_cases hlt : k < pn
            · obtain ⟨b1, o1, rfl, hc1⟩ : ∃ b off, pa = some ⟨b, off, none⟩ ∧ ∀ k, k < pn → w.cell? ⟨b, off + k * 3, none⟩ = some (.int .i64 (L1 k)) ∧ w.cell? ⟨b, off + k * 3 + 1, none⟩ = some (.slice (ra1 k) (R1 k).length (rc1 k)) ∧ w.cell? ⟨b, off + k * 3 + 2, none⟩ = some (.int .i64 (V1 k)) ∧ IntsAt w (ra1 k) (R1 k) ∧ (ra1 k = none → rc1 k = 0) ∧ (R1 k).length ≤ 17592186044416 := by
                rcases HP1.out with h | h
                · omega
                · exact h
              obtain ⟨b2, o2, rfl, hc2⟩ : ∃ b off, pa' = some ⟨b, off, none⟩ ∧ ∀ k, k < pn → w.cell? ⟨b, off + k * 3, none⟩ = some (.int .i64 (L2 k)) ∧ w.cell? ⟨b, off + k * 3 + 1, none⟩ = some (.slice (ra2 k) (R2 k).length (rc2 k)) ∧ w.cell? ⟨b, off + k * 3 + 2, none⟩ = some (.int .i64 (V2 k)) ∧ IntsAt w (ra2 k) (R2 k) ∧ (ra2 k = none → rc2 k = 0) ∧ (R2 k).length ≤ 17592186044416 := by
                rcases HP2.out with h | h
                · omega
                · exact h
              obtain ⟨p1, p2, p3, p4, _, p6⟩ := hc1 k hlt
              obtain ⟨q1, q2, q3, q4, _, _⟩ := hc2 k hlt
              have p1 := HX.out.grown.cell p1 (by simp)
              have p2 := HX.out.grown.cell p2 (by simp)
              have p3 := HX.out.grown.cell p3 (by simp)
              have q1' := fun o => (World.grownBy_alloc wr o none).cell (HX.out.grown.cell q1 (by simp)) (by simp)
              have q2' := fun o => (World.grownBy_alloc wr o none).cell (HX.out.grown.cell q2 (by simp)) (by simp)
              have q3' := fun o => (World.grownBy_alloc wr o none).cell (HX.out.grown.cell q3 (by simp)) (by simp)
              obtain ⟨⟨_, _, _, _, m4⟩, _, _, _, _, n4⟩ := HX.out.cells
              have n4' := fun o => (World.grownBy_alloc wr o none).cell n4 (by simp)
              obtain ⟨rk, hrk⟩ := boolOf (R1 k = R2 k)
              have HC : Hid (∀ W, w.grownBy W none → Calls Try.prog 31 #[.slice (ra1 k) (R1 k).length (rc1 k), .slice (ra2 k) (R2 k).length (rc2 k)] W fun e w' => e = .returned (.bool rk) ∧ W.grownBy w' none) := fun W hg =>
                (sameInts_any (ra1 k) (ra2 k) (rc1 k) (rc2 k) (R1 k) (R2 k) W (p4.kept hg) (q4.kept hg) p6 rk hrk).mono fun e w' h => ⟨h.1, by obtain ⟨q, hq⟩ := h.2; rw [hq]; exact grown_drewN _ _⟩
              have HS : Hid (rk = true → L1 k = L2 k → V1 k = V2 k → ∀ j, j < k + 1 → L1 j = L2 j ∧ R1 j = R2 j ∧ V1 j = V2 j) := fun h h1 h2 j hj => by
                by_cases e : j = k
                · rw [e]; exact ⟨h1, hrk.1 h, h2⟩
                · exact HA.out j (by omega)
              have HF1 : Hid (rk = false → r = false) := fun h => Bool.eq_false_iff.2 fun hh => by
                have := hrk.2 ((HR.out.1 hh).2.2.2 k hlt).2.1
                rw [h] at this
                cases this
              have HF2 : Hid (L1 k ≠ L2 k → r = false) := fun h => Bool.eq_false_iff.2 fun hh => h ((HR.out.1 hh).2.2.2 k hlt).1
              have HF3 : Hid (V1 k ≠ V2 k → r = false) := fun h => Bool.eq_false_iff.2 fun hh => h ((HR.out.1 hh).2.2.2 k hlt).2.2
              clear hc1 hc2 p4 q4 p6 q1 q2 q3 hrk n4
              generalize (R1 k).length = z1 at *
              generalize (R2 k).length = z2 at *
              generalize L1 k = l1 at *
              generalize L2 k = l2 at *
              generalize V1 k = v1 at *
              generalize V2 k = v2 at *
              generalize ra1 k = x1 at *
              generalize ra2 k = x2 at *
              generalize rc1 k = y1 at *
              generalize rc2 k = y2 at *
              go_wp2_with fail
              refine (HC.out _ (grown_trans (grown_trans HX.out.grown (World.grownBy_alloc _ _ none)) (World.grownBy_alloc _ _ none))).mono ?_
              rintro e w2 ⟨rfl, hg2⟩
              have HX2 : Hid (Ph2 w w2 #[.slice ta tn tc, .slice na nn nc, .slice la ln lc, .int .i64 st, .slice (some ⟨b1, o1, none⟩) pn pc] #[.slice ta' tn tc', .slice na' nn nc', .slice la' ln' lc', .int .i64 st, .slice (some ⟨b2, o2, none⟩) pn pc']) := HX.out.kept (grown_trans (grown_trans (World.grownBy_alloc _ _ none) (World.grownBy_alloc _ _ none)) hg2)
              obtain ⟨u1, u2, u3, u4⟩ := prod2_cells hg2
              clear hg2 HX HC p1 p2 p3 q1' q2' q3' n4' m4
              cases rk with
              | false =>
                have hrf := HF1.out rfl
                clear HS HF1 HF2 HF3
                go_wp2_with fail
                go_ret
                exact ⟨by rw [hrf]; rfl, HX2.out.grown⟩
              | true =>
                by_cases h1 : l1 = l2
                · have d1 : (l1 != l2) = false := by simp [h1]
                  by_cases h2 : v1 = v2
                  · have d2 : (v1 != v2) = false := by simp [h2]
                    have HS2 : Hid (∀ j, j < k + 1 → L1 j = L2 j ∧ R1 j = R2 j ∧ V1 j = V2 j) := HS.out rfl h1 h2
                    clear HS HF1 HF2 HF3 h1 h2
                    go_wp2_with fail
                    go_roundw
                    case rel => exact ⟨k + 1, by omega, by go_num, HX2.out, HS2.out⟩
                    case measure => simp [intOf]; omega
                  · have d2 : (v1 != v2) = true := by simp [h2]
                    have hrf := HF3.out h2
                    clear HS HF1 HF2 HF3 h1 h2
                    go_wp2_with fail
                    go_ret
                    exact ⟨by rw [hrf]; rfl, HX2.out.grown⟩
                · have d1 : (l1 != l2) = true := by simp [h1]
                  have hrf := HF2.out h1
                  clear HS HF1 HF2 HF3 h1
                  go_wp2_with fail
                  go_ret
                  exact ⟨by rw [hrf]; rfl, HX2.out.grown⟩
            · obtain rfl : pn = k := by omega
              have hrt : r = true := HR.out.2 ⟨HTS.out, HNS.out, rfl, HA.out⟩
              obtain ⟨⟨_, _, _, _, m4⟩, _, _, _, _, n4⟩ := HX.out.cells
              go_wp2_with fail
              go_ret
              exact ⟨by rw [hrt]; rfl, HX.out.grown⟩
end

end Go.Proofs.Ytljlkmiaemkokaa
