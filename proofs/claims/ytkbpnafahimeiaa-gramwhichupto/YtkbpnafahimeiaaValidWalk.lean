/-
  inOrder, Valid: is a grammar plain?
-/
import Derived.Test.YtkbpnafahimeiaaHolds
namespace Go.Proofs.Ytkbpnafahimeiaa
open Go.RowKit Go.Maps Go.Shelf

attribute [local go_sem] Oper.semAt_some

/-- A grammar, wherever it lies. -/
structure GAt (w : World) (ta na la pa : Option Addr) (tc nc lc pc : Nat) (ts : List (ByteArray × Int)) (ns : List ByteArray) (lv : List Int) (n : Nat) (L : Nat → Int) (R : Nat → List Int) (ra : Nat → Option Addr) (rc : Nat → Nat) (V : Nat → Int) : Prop where
  terms : TermsAt w ta ts
  nons : StrsAt w na ns
  levels : IntsAt w la lv
  prods : ProdsAt w pa n L R ra rc V
  tcap : ts.length ≤ tc
  ncap : ns.length ≤ nc
  pcap : n ≤ pc
  nnil : na = none → ns.length = 0 ∧ nc = 0
  pnil : pa = none → n = 0 ∧ pc = 0
  tlen : ts.length ≤ 17592186044416
  nlen : ns.length ≤ 17592186044416
  llen : lv.length ≤ 17592186044416
  plen : n ≤ 17592186044416

theorem GAt.kept {w w' : World} {ta na la pa : Option Addr} {tc nc lc pc : Nat} {ts : List (ByteArray × Int)} {ns : List ByteArray} {lv : List Int} {n : Nat} {L : Nat → Int} {R : Nat → List Int} {ra : Nat → Option Addr} {rc : Nat → Nat} {V : Nat → Int} (h : GAt w ta na la pa tc nc lc pc ts ns lv n L R ra rc V) (hg : w.grownBy w' none) : GAt w' ta na la pa tc nc lc pc ts ns lv n L R ra rc V := by
  refine ⟨h.terms.kept hg, h.nons.kept hg, h.levels.kept hg, ?_, h.tcap, h.ncap, h.pcap, h.nnil, h.pnil, h.tlen, h.nlen, h.llen, h.plen⟩
  rcases h.prods with h0 | ⟨b, off, ha, hc⟩
  · exact .inl h0
  · exact .inr ⟨b, off, ha, fun k hk => by
      obtain ⟨h1, h2, h3, h4, h5⟩ := hc k hk
      exact ⟨hg.cell h1 (by simp), hg.cell h2 (by simp), hg.cell h3 (by simp), h4.kept hg, h5⟩⟩

/-- All but the order. -/
structure holdsOK (ts : List (ByteArray × Int)) (ns : List ByteArray) (lv : List Int) (st : Int) (n : Nat) (L : Nat → Int) (R : Nat → List Int) (V : Nat → Int) : Prop where
  syms : (ts.length : Int) - 1 + ns.length ≤ 64
  cnt : n ≤ 96
  terms : termsOK ts lv.length
  nons : (∀ s ∈ ns, isNameB s = true) ∧ ns.Nodup
  levels : ∀ j, j < lv.length → levelOK ts lv j
  prods : ∀ i, i < n → prodOK ts.length ns.length lv.length 0 (L i) (R i) (V i)
  lefts : (leftsTo L n).length = ns.length
  start : isNonI ts.length ns.length 0 st

theorem boolOf (p : Prop) : ∃ r : Bool, r = true ↔ p := by
  by_cases h : p
  · exact ⟨true, by simp [h]⟩
  · exact ⟨false, by simp [h]⟩

set_option maxRecDepth 100000 in
set_option maxHeartbeats 1000000 in
theorem holds_zero (ta na la pa : Option Addr) (tc nc lc pc : Nat) (ts : List (ByteArray × Int)) (ns : List ByteArray) (lv : List Int) (n : Nat) (L : Nat → Int) (R : Nat → List Int) (ra : Nat → Option Addr) (rc : Nat → Nat) (V : Nat → Int) (st : Int) (w : World) (hG : GAt w ta na la pa tc nc lc pc ts ns lv n L R ra rc V) (r : Bool) (hr : r = true ↔ holdsOK ts ns lv st n L R V) :
    Calls Try.prog 29 #[.agg #[.slice ta ts.length tc, .slice na ns.length nc, .slice la lv.length lc, .int .i64 st, .slice pa n pc], .int .i64 0] w fun e w' => e = .returned (.bool r) ∧ w.grownBy w' none := by
  have htl := hG.tlen
  have hnl := hG.nlen
  have hpl := hG.plen
  have hnc := hG.ncap
  have hpc := hG.pcap
  have HG : Hid (GAt w ta na la pa tc nc lc pc ts ns lv n L R ra rc V) := hG
  have HRR : Hid (r = true ↔ holdsOK ts ns lv st n L R V) := hr
  have HRF : Hid (¬ holdsOK ts ns lv st n L R V → r = false) := fun hno => Bool.eq_false_iff.2 fun hh => hno (hr.1 hh)
  have HX0 : Hid (∀ q, PhAt w ((w.alloc (.cells #[.slice ta ts.length tc, .slice na ns.length nc, .slice la lv.length lc, .int .i64 st, .slice pa n pc] 42)).drewN q) w.heap.size #[.slice ta ts.length tc, .slice na ns.length nc, .slice la lv.length lc, .int .i64 st, .slice pa n pc]) := fun q => (PhAt.mk (World.grownBy_alloc _ _ none) (heap_alloc_last w _)).kept (grown_drewN _ q)
  have hsn : ∀ W, (Instr.slice 29 (.slice na ns.length nc) (some (.int .i64 0)) none none).run Try.prog W = .ok (.slice na ns.length nc) W := fun W => by
    cases na with
    | none => obtain ⟨h1, h2⟩ := hG.nnil rfl; rw [h1, h2]; kernel_rfl
    | some x => go_simp
  have hsp : ∀ W, (Instr.slice 40 (.slice pa n pc) (some (.int .i64 0)) none none).run Try.prog W = .ok (.slice pa n pc) W := fun W => by
    cases pa with
    | none => obtain ⟨h1, h2⟩ := hG.pnil rfl; rw [h1, h2]; kernel_rfl
    | some x => go_simp
  obtain ⟨tn, htn⟩ : ∃ tn, tn = ts.length := ⟨_, rfl⟩
  obtain ⟨nn, hnn⟩ : ∃ nn, nn = ns.length := ⟨_, rfl⟩
  obtain ⟨ln, hln⟩ : ∃ ln, ln = lv.length := ⟨_, rfl⟩
  have HTN : Hid (ts.length = tn ∧ ns.length = nn ∧ lv.length = ln) := ⟨htn.symm, hnn.symm, hln.symm⟩
  rw [← htn] at htl HX0 ⊢
  rw [← hnn] at hnl hnc hsn HX0 ⊢
  rw [← hln] at HX0 ⊢
  clear hG hr htn hnn hln
  go_enter Try.func29, Try.ntmps29
  go_wp2_with fail
  go_quiet (fail)
  have HX := HX0.out nq
  generalize (w.alloc (.cells #[.slice ta tn tc, .slice na nn nc, .slice la ln lc, .int .i64 st, .slice pa n pc] 42)).drewN nq = W at *
  have HXH : Hid (PhAt w W w.heap.size #[.slice ta tn tc, .slice na nn nc, .slice la ln lc, .int .i64 st, .slice pa n pc]) := HX
  obtain ⟨m0, m1, m2, m3, m4⟩ := HX.cells
  clear HX HX0 hsn hsp
  by_cases hlim : 64 < (tn : Int) - 1 + nn
  · have hd : decide (64 < (tn : Int) - 1 + nn) = true := decide_eq_true hlim
    have hf : r = false := HRF.out fun h => by have h1 := h.syms; rw [HTN.out.1, HTN.out.2.1] at h1; omega
    go_wp2_with fail
    go_ret
    exact ⟨by first | rfl | (rw [hf]; rfl), HXH.out.grown⟩
  · have hd : decide (64 < (tn : Int) - 1 + nn) = false := decide_eq_false hlim
    by_cases hlp : 96 < n
    · have hd2 : decide (96 < (n : Int)) = true := decide_eq_true (by omega)
      have hf : r = false := HRF.out fun h => by have h1 := h.cnt; omega
      go_wp2_with fail
      go_ret
      exact ⟨by first | rfl | (rw [hf]; rfl), HXH.out.grown⟩
    · have hd2 : decide (96 < (n : Int)) = false := decide_eq_false (by omega)
      have hnn65 : nn ≤ 65 := by omega
      have htn65 : tn ≤ 65 := by omega
      have hn96 : n ≤ 96 := by omega
      obtain ⟨rT, hrT⟩ := boolOf (termsOK ts ln)
      have HTT : Hid (Calls Try.prog 64 #[.agg #[.slice ta tn tc, .slice na nn nc, .slice la ln lc, .int .i64 st, .slice pa n pc]] W fun e w' => e = .returned (.bool rT) ∧ W.grownBy w' none) := by
        have := termsHold_any ta na la pa nn ln n tc nc lc pc st ts W (HG.out.kept HXH.out.grown).terms (by rw [HTN.out.1]; exact htn65) HG.out.tcap rT hrT
        rwa [HTN.out.1] at this
      have HRT : Hid (rT = true ↔ termsOK ts ln) := hrT
      have HLM : Hid (¬ 64 < (tn : Int) - 1 + nn) := hlim
      clear hrT hlim hlp
      cases rT with
      | false =>
        have hf : r = false := HRF.out fun h => by have h1 := h.terms; rw [HTN.out.2.2] at h1; have := HRT.out.2 h1; cases this
        go_wp2_with fail
        refine HTT.out.mono ?_
        rintro e w2 ⟨rfl, hg2⟩
        have HG2 : Hid (w.grownBy w2 none) := grown_trans HXH.out.grown hg2
        clear hg2 m0 m1 m2 m3 m4
        go_wp2_with fail
        go_ret
        exact ⟨by first | rfl | (rw [hf]; rfl), HG2.out⟩
      | true =>
        go_wp2_with fail
        refine HTT.out.mono ?_
        rintro e w2 ⟨rfl, hg2⟩
        have HX2 : Hid (PhAt w w2 w.heap.size #[.slice ta tn tc, .slice na nn nc, .slice la ln lc, .int .i64 st, .slice pa n pc]) := HXH.out.kept hg2
        clear hg2 m0 m1 m2 m3 m4 HTT HXH
        have HNH : Hid (Calls Try.prog 65 #[.slice na nn nc] w2 fun e w' => ∃ r, e = .returned (.bool r) ∧ (r = true ↔ (∀ s ∈ ns, isNameB s = true) ∧ ns.Nodup) ∧ w2.grownBy w' none) := by
          have := nonsHold_any na nc ns w2 (HG.out.kept HX2.out.grown).nons (by rw [HTN.out.2.1]; exact hnn65)
          rwa [HTN.out.2.1] at this
        go_wp2_with fail
        refine HNH.out.mono ?_
        rintro e w3 ⟨rN, rfl, hrN, hg3⟩
        have HRN : Hid (rN = true ↔ (∀ s ∈ ns, isNameB s = true) ∧ ns.Nodup) := hrN
        have HX3 : Hid (PhAt w w3 w.heap.size #[.slice ta tn tc, .slice na nn nc, .slice la ln lc, .int .i64 st, .slice pa n pc]) := HX2.out.kept hg3
        clear hrN hg3 HNH HX2
        cases rN with
        | false =>
          have hf : r = false := HRF.out fun h => by have := HRN.out.2 h.nons; cases this
          have HGE : Hid (w.grownBy w3 none) := HX3.out.grown
          clear HX3
          go_wp2_with fail
          go_ret
          exact ⟨by first | rfl | (rw [hf]; rfl), HGE.out⟩
        | true =>
          obtain ⟨rL, hrL⟩ := boolOf (∀ j, j < lv.length → levelOK ts lv j)
          have HLH : Hid (Calls Try.prog 66 #[.agg #[.slice ta tn tc, .slice na nn nc, .slice la ln lc, .int .i64 st, .slice pa n pc]] w3 fun e w' => e = .returned (.bool rL) ∧ w3.grownBy w' none) := by
            have := levelsHold_any ta na la pa nn n tc nc lc pc st ts lv w3 (HG.out.kept HX3.out.grown).terms (HG.out.kept HX3.out.grown).levels (by rw [HTN.out.1]; exact htn65) HG.out.llen rL hrL
            rwa [HTN.out.1, HTN.out.2.2] at this
          have HRL : Hid (rL = true ↔ ∀ j, j < lv.length → levelOK ts lv j) := hrL
          clear hrL
          obtain ⟨m0, m1, m2, m3, m4⟩ := HX3.out.cells
          go_wp2_with fail
          refine HLH.out.mono ?_
          rintro e w4 ⟨rfl, hg4⟩
          have HX4 : Hid (PhAt w w4 w.heap.size #[.slice ta tn tc, .slice na nn nc, .slice la ln lc, .int .i64 st, .slice pa n pc]) := HX3.out.kept hg4
          clear hg4 HLH HX3 m0 m1 m2 m3 m4
          cases rL with
          | false =>
            have hf : r = false := HRF.out fun h => by have := HRL.out.2 h.levels; cases this
            have HGE : Hid (w.grownBy w4 none) := HX4.out.grown
            clear HX4
            go_wp2_with fail
            go_ret
            exact ⟨by first | rfl | (rw [hf]; rfl), HGE.out⟩
          | true =>
            obtain ⟨rP, hrP⟩ := boolOf (∀ i, i < n → prodOK tn nn ln 0 (L i) (R i) (V i))
            have HPH : Hid (Calls Try.prog 67 #[.agg #[.slice ta tn tc, .slice na nn nc, .slice la ln lc, .int .i64 st, .slice pa n pc], .slice pa n pc, .int .i64 0] w4 fun e w' => e = .returned (.bool rP) ∧ w4.grownBy w' none) :=
              prodsHold_any ta na la pa pa tn nn ln n tc nc lc pc n pc 0 st L R ra rc V w4 (HG.out.kept HX4.out.grown).prods (by omega) (by omega) (by omega) (by omega) rP hrP
            have HRP : Hid (rP = true ↔ ∀ i, i < n → prodOK tn nn ln 0 (L i) (R i) (V i)) := hrP
            clear hrP
            obtain ⟨m0, m1, m2, m3, m4⟩ := HX4.out.cells
            go_wp2_with fail
            refine HPH.out.mono ?_
            rintro e w5 ⟨rfl, hg5⟩
            have HX5 : Hid (PhAt w w5 w.heap.size #[.slice ta tn tc, .slice na nn nc, .slice la ln lc, .int .i64 st, .slice pa n pc]) := HX4.out.kept hg5
            clear hg5 HPH HX4 m0 m1 m2 m3 m4
            cases rP with
            | false =>
              have hf : r = false := HRF.out fun h => by have h1 := h.prods; rw [HTN.out.1, HTN.out.2.1, HTN.out.2.2] at h1; have := HRP.out.2 h1; cases this
              have HGE : Hid (w.grownBy w5 none) := HX5.out.grown
              clear HX5
              go_wp2_with fail
              go_ret
              exact ⟨by first | rfl | (rw [hf]; rfl), HGE.out⟩
            | true =>
              have HLF : Hid (Calls Try.prog 68 #[.slice pa n pc] w5 fun e w' => ∃ a' c', e = .returned (.slice a' (leftsTo L n).length c') ∧ w'.ownsRow w5.heap.size 3 1 (.slice a' (leftsTo L n).length c') (leftsTo L n).length ((leftsTo L n).map (Value.int .i64)) ∧ w5.grownBy w' none) := lefts_any pa n pc L R ra rc V w5 (HG.out.kept HX5.out.grown).prods (by omega)
              have hML := leftsTo_le L n
              obtain ⟨M, hM⟩ : ∃ M, M = (leftsTo L n).length := ⟨_, rfl⟩
              have HMM : Hid ((leftsTo L n).length = M) := hM.symm
              rw [← hM] at hML HLF
              clear hM
              go_wp2_with fail
              refine HLF.out.mono ?_
              rintro e w6 ⟨a', c', rfl, _, hg6⟩
              have HX6 : Hid (PhAt w w6 w.heap.size #[.slice ta tn tc, .slice na nn nc, .slice la ln lc, .int .i64 st, .slice pa n pc]) := HX5.out.kept hg6
              clear hg6 HLF HX5
              obtain ⟨m0, m1, m2, m3, m4⟩ := HX6.out.cells
              by_cases hMn : M = nn
              · have hb : ((M : Int) == (nn : Int)) = true := beq_iff_eq.2 (by omega)
                have HMN : Hid (M = nn) := hMn
                have HIN := isNonOf_any ta na la pa tn nn ln n tc nc lc pc 0 st st w6 (by omega) (by omega) (by omega)
                have HFIN : Hid ((decide ((tn : Int) + (0 : Nat) ≤ st) && decide (st < (tn : Int) + nn)) = r) := by
                  show (decide ((tn : Int) + (0 : Nat) ≤ st) && decide (st < (tn : Int) + nn)) = r
                  rw [Bool.eq_iff_iff, HRR.out, Bool.and_eq_true, decide_eq_true_eq, decide_eq_true_eq]
                  obtain ⟨t1, t2, t3⟩ := HTN.out
                  constructor
                  · intro hs
                    exact ⟨by rw [t1, t2]; have := HLM.out; omega, hn96, by rw [t3]; exact HRT.out.1 (by first | rfl | trivial), HRN.out.1 (by first | rfl | trivial), HRL.out.1 (by first | rfl | trivial), by rw [t1, t2, t3]; exact HRP.out.1 (by first | rfl | trivial), by rw [HMM.out, t2]; exact HMN.out, by rw [t1, t2]; exact hs⟩
                  · intro h
                    have h1 := h.start
                    rw [t1, t2] at h1
                    exact h1
                clear hMn
                go_wp2_with fail
                refine HIN.mono ?_
                rintro e w7 ⟨rfl, hg7⟩
                rw [HFIN.out]
                have HGE : Hid (w.grownBy w7 none) := grown_trans HX6.out.grown hg7
                clear hg7 HIN m0 m1 m2 m3 m4
                go_wp2_with fail
                go_ret
                exact ⟨rfl, HGE.out⟩
              · have hb : ((M : Int) == (nn : Int)) = false := beq_eq_false_iff_ne.2 (by omega)
                have hf : r = false := HRF.out fun h => by have h1 := h.lefts; rw [HMM.out, HTN.out.2.1] at h1; exact hMn h1
                have HGE : Hid (w.grownBy w6 none) := HX6.out.grown
                clear hMn HX6
                go_wp2_with fail
                go_ret
                exact ⟨by first | rfl | (rw [hf]; rfl), HGE.out⟩

end Go.Proofs.Ytkbpnafahimeiaa

namespace Go.Proofs.Ytkbpnafahimeiaa
open Go.RowKit Go.Maps Go.Shelf

attribute [local go_sem] Oper.semAt_some

theorem inOrder_any (ta na la pa : Option Addr) (tn nn ln tc nc lc pc n : Nat) (st : Int) (L : Nat → Int) (R : Nat → List Int) (ra : Nat → Option Addr) (rc : Nat → Nat) (V : Nat → Int) (w : World) (hP : ∀ W, w.grownBy W none → ProdsAt W pa n L R ra rc V) (hn : n ≤ 96) (r : Bool) (hr : r = true ↔ Asc (leftsTo L n)) :
    Calls Try.prog 30 #[.agg #[.slice ta tn tc, .slice na nn nc, .slice la ln lc, .int .i64 st, .slice pa n pc]] w fun e w' => e = .returned (.bool r) ∧ w.grownBy w' none := by
  have HLF : Hid (∀ o, Calls Try.prog 68 #[.slice pa n pc] (w.alloc o) fun e w' => ∃ a' c', e = .returned (.slice a' (leftsTo L n).length c') ∧ w'.ownsRow (w.alloc o).heap.size 3 1 (.slice a' (leftsTo L n).length c') (leftsTo L n).length ((leftsTo L n).map (Value.int .i64)) ∧ (w.alloc o).grownBy w' none) := fun o => lefts_any pa n pc L R ra rc V _ (hP _ (World.grownBy_alloc _ _ none)) (by omega)
  have HIS : Hid (∀ W a c B, W.ownsRow B 3 1 (.slice a (leftsTo L n).length c) (leftsTo L n).length ((leftsTo L n).map (Value.int .i64)) → Calls Try.prog 70 #[.slice a (leftsTo L n).length c] W fun e w' => e = .returned (.bool r) ∧ W.grownBy w' none) := fun W a c B ho => isSorted_any a c (leftsTo L n) W (owns_intsAt ho rfl) (by have := leftsTo_le L n; omega) r hr
  clear hP hr
  generalize (leftsTo L n).map (Value.int .i64) = xs at *
  generalize (leftsTo L n).length = M at *
  go_enter Try.func30, Try.ntmps30
  go_wp2_with fail
  refine (HLF.out _).mono ?_
  rintro e w2 ⟨a', c', rfl, ho, hg2⟩
  have his := HIS.out w2 a' c' _ ho
  have HG2 : Hid (w.grownBy w2 none) := grown_trans (World.grownBy_alloc _ _ none) hg2
  clear ho hg2 HIS HLF
  go_wp2_with fail
  refine his.mono ?_
  rintro e w3 ⟨rfl, hg3⟩
  go_wp2_with fail
  go_ret
  exact ⟨rfl, grown_trans HG2.out hg3⟩

def validOK (ts : List (ByteArray × Int)) (ns : List ByteArray) (lv : List Int) (st : Int) (n : Nat) (L : Nat → Int) (R : Nat → List Int) (V : Nat → Int) : Prop := holdsOK ts ns lv st n L R V ∧ Asc (leftsTo L n)

set_option maxRecDepth 100000 in
theorem valid_any (ta na la pa : Option Addr) (tc nc lc pc : Nat) (ts : List (ByteArray × Int)) (ns : List ByteArray) (lv : List Int) (n : Nat) (L : Nat → Int) (R : Nat → List Int) (ra : Nat → Option Addr) (rc : Nat → Nat) (V : Nat → Int) (st : Int) (w : World) (hG : GAt w ta na la pa tc nc lc pc ts ns lv n L R ra rc V) (r : Bool) (hr : r = true ↔ validOK ts ns lv st n L R V) :
    Calls Try.prog 11 #[.agg #[.slice ta ts.length tc, .slice na ns.length nc, .slice la lv.length lc, .int .i64 st, .slice pa n pc]] w fun e w' => e = .returned (.bool r) ∧ w.grownBy w' none := by
  have HG : Hid (GAt w ta na la pa tc nc lc pc ts ns lv n L R ra rc V) := hG
  have HRR : Hid (r = true ↔ validOK ts ns lv st n L R V) := hr
  obtain ⟨rH, hrH⟩ := boolOf (holdsOK ts ns lv st n L R V)
  have HRH : Hid (rH = true ↔ holdsOK ts ns lv st n L R V) := hrH
  have HH : Hid (∀ W, w.grownBy W none → Calls Try.prog 29 #[.agg #[.slice ta ts.length tc, .slice na ns.length nc, .slice la lv.length lc, .int .i64 st, .slice pa n pc], .int .i64 0] W fun e w' => e = .returned (.bool rH) ∧ W.grownBy w' none) := fun W hW => holds_zero ta na la pa tc nc lc pc ts ns lv n L R ra rc V st W (hG.kept hW) rH hrH
  have HO : Hid (n ≤ 96 → ∀ W r', w.grownBy W none → (r' = true ↔ Asc (leftsTo L n)) → Calls Try.prog 30 #[.agg #[.slice ta ts.length tc, .slice na ns.length nc, .slice la lv.length lc, .int .i64 st, .slice pa n pc]] W fun e w' => e = .returned (.bool r') ∧ W.grownBy w' none) := fun h W r' hW hr' => inOrder_any ta na la pa ts.length ns.length lv.length tc nc lc pc n st L R ra rc V W (fun X hX => (hG.kept (grown_trans hW hX)).prods) h r' hr'
  have HX0 : Hid (PhAt w (w.alloc (.cells #[.slice ta ts.length tc, .slice na ns.length nc, .slice la lv.length lc, .int .i64 st, .slice pa n pc] 42)) w.heap.size #[.slice ta ts.length tc, .slice na ns.length nc, .slice la lv.length lc, .int .i64 st, .slice pa n pc]) := ⟨World.grownBy_alloc _ _ none, heap_alloc_last w _⟩
  clear hG hr hrH
  generalize ts.length = tn at *
  generalize ns.length = nn at *
  generalize lv.length = ln at *
  cases rH with
  | false =>
    have hf : r = false := Bool.eq_false_iff.2 fun hh => by have := HRH.out.2 (HRR.out.1 hh).1; cases this
    go_enter Try.func11, Try.ntmps11
    go_wp2_with fail
    refine (HH.out _ HX0.out.grown).mono ?_
    rintro e w2 ⟨rfl, hg2⟩
    have HG2 : Hid (w.grownBy w2 none) := grown_trans HX0.out.grown hg2
    clear hg2 HX0
    go_wp2_with fail
    go_ret
    exact ⟨by first | rfl | (rw [hf]; rfl), HG2.out⟩
  | true =>
    have HOK := HRH.out.1 rfl
    have HCN : Hid (n ≤ 96) := HOK.cnt
    have HRA : Hid (r = true ↔ Asc (leftsTo L n)) := by
      constructor
      · intro h; exact (HRR.out.1 h).2
      · intro h; exact HRR.out.2 ⟨HOK, h⟩
    clear HOK HRR HRH
    go_enter Try.func11, Try.ntmps11
    go_wp2_with fail
    refine (HH.out _ HX0.out.grown).mono ?_
    rintro e w2 ⟨rfl, hg2⟩
    have HX2 : Hid (PhAt w w2 w.heap.size #[.slice ta tn tc, .slice na nn nc, .slice la ln lc, .int .i64 st, .slice pa n pc]) := HX0.out.kept hg2
    obtain ⟨m0, m1, m2, m3, m4⟩ := HX2.out.cells
    have ho := HO.out HCN.out w2 r HX2.out.grown HRA.out
    clear hg2 HX0 HO HH
    go_wp2_with fail
    refine ho.mono ?_
    rintro e w3 ⟨rfl, hg3⟩
    go_wp2_with fail
    go_ret
    exact ⟨rfl, grown_trans HX2.out.grown hg3⟩

end Go.Proofs.Ytkbpnafahimeiaa
