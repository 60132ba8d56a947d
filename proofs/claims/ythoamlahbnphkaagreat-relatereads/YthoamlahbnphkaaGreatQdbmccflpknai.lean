import Derived.Test.YthoamlahbnphkaaGreatQbloibadcnhog
import Derived.Test.YthoamlahbnphkaaGreatQkmieignlfdpa
import Derived.Deep.LoopGhost
import Derived.Outline

/-
  termsHold of whatever slice.
-/
namespace Go.Proofs.YthoamlahbnphkaaGreat
open Go.RowKit Go.Maps Go.Shelf

attribute [local go_sem] Oper.semAt_some

set_option maxRecDepth 100000 in
theorem termsHold_one (b off : Nat) (na la pa : Option Addr) (nn ln pn nc lc pc : Nat) (st : Int) (t : ByteArray × Int) (w : World) (hT : TermsAt w (some ⟨b, off, none⟩) [t]) (r : Bool) (hr : r = true ↔ termsOK [t] ln) :
    Calls Tryz.prog 106 #[.agg #[.slice (some ⟨b, off, none⟩) 1 1, .slice na nn nc, .slice la ln lc, .int .i64 st, .slice pa pn pc]] w fun e w' => e = .returned (.bool r) ∧ w.grownBy w' none := by
  obtain ⟨j0, hj, hy0, hy1, hy2⟩ := info_parts infoStr
  obtain ⟨s0, l0⟩ := t
  have hcs : w.cell? ⟨b, off, none⟩ = some (.string s0) ∧ w.cell? ⟨b, off + 1, none⟩ = some (.int .i64 l0) := by
    rcases hT with h | ⟨b', off', he, h⟩
    · cases h
    · simp only [Option.some.injEq, Addr.mk.injEq, and_true] at he
      obtain ⟨rfl, rfl⟩ := he
      have := h 0 (by simp)
      simpa using this
  have hA1 : ∀ o, (w.alloc o).cell? ⟨b, off, none⟩ = some (.string s0) := fun o => (World.grownBy_alloc w o none).cell hcs.1 (by simp)
  have hA2 : ∀ o, (w.alloc o).cell? ⟨b, off + 1, none⟩ = some (.int .i64 l0) := fun o => (World.grownBy_alloc w o none).cell hcs.2 (by simp)
  have hq := fun w => neqTerm s0 ⟨#[]⟩ l0 0 w
  have hqg : Tryz.prog.eqGuardType Tryz.prog.depth 88 = false := by kernel_rfl
  have HRR : Hid (r = true ↔ termsOK [(s0, l0)] ln) := hr
  clear hcs hT hr
  by_cases hmk : s0 = ⟨#[]⟩ ∧ l0 = 0
  · obtain ⟨rfl, rfl⟩ := hmk
    have hq' : ∀ w, (binOp .neq 88 (.agg #[.string ⟨#[]⟩, .int .i64 0]) (.agg #[.string ⟨#[]⟩, .int .i64 0])).run Tryz.prog w = .ok (.bool false) w := fun w => by rw [hq]; simp
    have hrt : r = true := HRR.out.2 ⟨[], rfl, (fun t ht => by cases ht), (by simp)⟩
    have HNT : Hid (∀ W a c, Calls Tryz.prog 132 #[.slice a 0 c] W fun e w' => e = .returned (.bool true) ∧ W.grownBy w' none) := fun W a c => (noTwoAlike_any a c [] W (.inl rfl) (by simp) (fun s hs => by cases hs)).mono fun e w' ⟨r', he, h1, h2⟩ => ⟨by rw [he, h1.2 List.nodup_nil], h2⟩
    have HBX : Hid (∀ w1, (w.alloc (.cells #[.slice (some ⟨b, off, none⟩) 1 1, .slice na nn nc, .slice la ln lc, .int .i64 st, .slice pa pn pc] 27)).grownBy w1 none → w1.heap[w.heap.size]? = some (.cells #[.slice (some ⟨b, off, none⟩) 1 1, .slice na nn nc, .slice la ln lc, .int .i64 st, .slice pa pn pc] 27 (0, 0))) := fun w1 hg => (hg.block w.heap.size (by simp) (by simp)).trans (heap_alloc_last w _)
    clear hq
    go_enter Tryz.func106, Tryz.ntmps106
    go_wp2_with (at_make; refine wpList_make_own _ rfl _ _ 23 rfl (w.heap.size + 1) 9 j0 (.string ByteArray.empty) 1 Tryz.underlying23 hj hy0 hy1 .i64 .i64 _ 0 rfl rfl (by simp) (by rw [hy2]; omega) (by unfold maxLen; omega) (by simp) ?_; intro w1 hown1 hg1; have hbx1 := HBX.out w1 hg1; have k0 := cell_of_row w1 w.heap.size 0 _ _ _ hbx1; simp only [List.getElem?_toArray, List.getElem?_cons_zero] at k0)
    have HG1 : Hid (w.grownBy w1 none) := grown_trans (World.grownBy_alloc _ _ none) hg1
    clear hown1 hg1 hbx1 hA1 hA2
    refine wp_loop_rounds 1 ?_
    rw [rounds_succ]
    go_wp2_with fail
    refine (HNT.out _ _ _).mono ?_
    rintro e w5 ⟨rfl, hg5⟩
    go_wp2_with fail
    go_ret
    exact ⟨by first | rfl | (rw [hrt]; rfl), grown_trans HG1.out hg5⟩
  · have hb : (!(s0.toList == (ByteArray.mk #[]).toList && l0 == 0)) = true := by
      rw [Bool.not_eq_true', Bool.eq_false_iff]
      intro h
      rw [Bool.and_eq_true] at h
      exact hmk ⟨(toList_empty s0).1 (by simpa using h.1), by simpa using h.2⟩
    rw [hb] at hq
    have hrf : r = false := Bool.eq_false_iff.2 fun hh => by
      obtain ⟨rest', he, _⟩ := HRR.out.1 hh
      simp at he
      exact hmk he.1
    clear hb hmk
    go_enter Tryz.func106, Tryz.ntmps106
    go_wp2_with fail
    go_ret
    exact ⟨by first | rfl | (rw [hrf]; rfl), World.grownBy_alloc _ _ none⟩

theorem termsHold_any (ta na la pa : Option Addr) (nn ln pn tc nc lc pc : Nat) (st : Int) (ts : List (ByteArray × Int)) (w : World) (hT : TermsAt w ta ts) (hn : ts.length ≤ 65) (hc : ts.length ≤ tc) (r : Bool) (hr : r = true ↔ termsOK ts ln) :
    Calls Tryz.prog 106 #[.agg #[.slice ta ts.length tc, .slice na nn nc, .slice la ln lc, .int .i64 st, .slice pa pn pc]] w fun e w' => e = .returned (.bool r) ∧ w.grownBy w' none := by
  cases hts : ts with
  | nil =>
    have : r = false := Bool.eq_false_iff.2 fun h => by
      obtain ⟨rest, he, _⟩ := hr.1 h
      rw [hts] at he; cases he
    rw [this]
    exact termsHold_none ta na la pa nn ln pn tc nc lc pc st w
  | cons t rest =>
    rw [← hts]
    have hT' := hT
    rcases hT with h | ⟨b, off, rfl, _⟩
    · rw [hts] at h; cases h
    · have hpos : 0 < ts.length := by rw [hts]; simp
      by_cases h1 : tc = 1
      · have hl1 : ts.length = 1 := by omega
        obtain ⟨t', rfl⟩ : ∃ t', ts = [t'] := by
          match ts, hl1 with
          | [t'], _ => exact ⟨t', rfl⟩
        rw [h1]
        exact termsHold_one b off na la pa nn ln pn nc lc pc st t' w hT' r hr
      · exact termsHold_some b off na la pa nn ln pn tc nc lc pc st ts w hT' hpos hn hc h1 r hr

end Go.Proofs.YthoamlahbnphkaaGreat

/-
  inOrder, Valid: is a grammar plain?
-/
namespace Go.Proofs.YthoamlahbnphkaaGreat
open Go.RowKit Go.Maps Go.Shelf

attribute [local go_sem] Oper.semAt_some

/-- A grammar, wherever it lies. -/
structure GAt (w : World) (ta na la pa : Option Addr) (tc nc lc pc : Nat) (ts : List (ByteArray × Int)) (ns : List ByteArray) (lv : List Int) (n : Nat) (L : Nat → Int) (R : Nat → List Int) (ra : Nat → Option Addr) (rc : Nat → Nat) (V : Nat → Int) : Prop where
  terms : TermsAt w ta ts
  nons : StrsAt w na ns
  levels : IntsAt w la lv
  prods : ProdsAt w pa n L R ra rc V
  tcap : ts.length ≤ tc
  ncap : ns.length ≤ nc
  pcap : n ≤ pc
  nnil : na = none → ns.length = 0 ∧ nc = 0
  pnil : pa = none → n = 0 ∧ pc = 0
  tlen : ts.length ≤ 17592186044416
  nlen : ns.length ≤ 17592186044416
  llen : lv.length ≤ 17592186044416
  plen : n ≤ 17592186044416

theorem GAt.kept {w w' : World} {ta na la pa : Option Addr} {tc nc lc pc : Nat} {ts : List (ByteArray × Int)} {ns : List ByteArray} {lv : List Int} {n : Nat} {L : Nat → Int} {R : Nat → List Int} {ra : Nat → Option Addr} {rc : Nat → Nat} {V : Nat → Int} (h : GAt w ta na la pa tc nc lc pc ts ns lv n L R ra rc V) (hg : w.grownBy w' none) : GAt w' ta na la pa tc nc lc pc ts ns lv n L R ra rc V := by
  refine ⟨h.terms.kept hg, h.nons.kept hg, h.levels.kept hg, ?_, h.tcap, h.ncap, h.pcap, h.nnil, h.pnil, h.tlen, h.nlen, h.llen, h.plen⟩
  rcases h.prods with h0 | ⟨b, off, ha, hc⟩
  · exact .inl h0
  · exact .inr ⟨b, off, ha, fun k hk => by
      obtain ⟨h1, h2, h3, h4, h5⟩ := hc k hk
      exact ⟨hg.cell h1 (by simp), hg.cell h2 (by simp), hg.cell h3 (by simp), h4.kept hg, h5⟩⟩

/-- All but the order. -/
structure holdsOK (ts : List (ByteArray × Int)) (ns : List ByteArray) (lv : List Int) (st : Int) (n : Nat) (L : Nat → Int) (R : Nat → List Int) (V : Nat → Int) : Prop where
  syms : (ts.length : Int) - 1 + ns.length ≤ 64
  cnt : n ≤ 96
  terms : termsOK ts lv.length
  nons : (∀ s ∈ ns, isNameB s = true) ∧ ns.Nodup
  levels : ∀ j, j < lv.length → levelOK ts lv j
  prods : ∀ i, i < n → prodOK ts.length ns.length lv.length 0 (L i) (R i) (V i)
  lefts : (leftsTo L n).length = ns.length
  start : isNonI ts.length ns.length 0 st

theorem boolOf (p : Prop) : ∃ r : Bool, r = true ↔ p := by
  by_cases h : p
  · exact ⟨true, by simp [h]⟩
  · exact ⟨false, by simp [h]⟩

set_option maxRecDepth 100000 in
set_option maxHeartbeats 1000000 in
theorem holds_zero (ta na la pa : Option Addr) (tc nc lc pc : Nat) (ts : List (ByteArray × Int)) (ns : List ByteArray) (lv : List Int) (n : Nat) (L : Nat → Int) (R : Nat → List Int) (ra : Nat → Option Addr) (rc : Nat → Nat) (V : Nat → Int) (st : Int) (w : World) (hG : GAt w ta na la pa tc nc lc pc ts ns lv n L R ra rc V) (r : Bool) (hr : r = true ↔ holdsOK ts ns lv st n L R V) :
    Calls Tryz.prog 71 #[.agg #[.slice ta ts.length tc, .slice na ns.length nc, .slice la lv.length lc, .int .i64 st, .slice pa n pc], .int .i64 0] w fun e w' => e = .returned (.bool r) ∧ w.grownBy w' none := by
  have htl := hG.tlen
  have hnl := hG.nlen
  have hpl := hG.plen
  have hnc := hG.ncap
  have hpc := hG.pcap
  have HG : Hid (GAt w ta na la pa tc nc lc pc ts ns lv n L R ra rc V) := hG
  have HRR : Hid (r = true ↔ holdsOK ts ns lv st n L R V) := hr
  have HRF : Hid (¬ holdsOK ts ns lv st n L R V → r = false) := fun hno => Bool.eq_false_iff.2 fun hh => hno (hr.1 hh)
  have HX0 : Hid (∀ q, PhAt w ((w.alloc (.cells #[.slice ta ts.length tc, .slice na ns.length nc, .slice la lv.length lc, .int .i64 st, .slice pa n pc] 27)).drewN q) w.heap.size #[.slice ta ts.length tc, .slice na ns.length nc, .slice la lv.length lc, .int .i64 st, .slice pa n pc]) := fun q => (PhAt.mk (World.grownBy_alloc _ _ none) (heap_alloc_last w _)).kept (grown_drewN _ q)
  have hsn : ∀ W, (Instr.slice 23 (.slice na ns.length nc) (some (.int .i64 0)) none none).run Tryz.prog W = .ok (.slice na ns.length nc) W := fun W => by
    cases na with
    | none => obtain ⟨h1, h2⟩ := hG.nnil rfl; rw [h1, h2]; kernel_rfl
    | some x => go_simp
  have hsp : ∀ W, (Instr.slice 25 (.slice pa n pc) (some (.int .i64 0)) none none).run Tryz.prog W = .ok (.slice pa n pc) W := fun W => by
    cases pa with
    | none => obtain ⟨h1, h2⟩ := hG.pnil rfl; rw [h1, h2]; kernel_rfl
    | some x => go_simp
  obtain ⟨tn, htn⟩ : ∃ tn, tn = ts.length := ⟨_, rfl⟩
  obtain ⟨nn, hnn⟩ : ∃ nn, nn = ns.length := ⟨_, rfl⟩
  obtain ⟨ln, hln⟩ : ∃ ln, ln = lv.length := ⟨_, rfl⟩
  have HTN : Hid (ts.length = tn ∧ ns.length = nn ∧ lv.length = ln) := ⟨htn.symm, hnn.symm, hln.symm⟩
  rw [← htn] at htl HX0 ⊢
  rw [← hnn] at hnl hnc hsn HX0 ⊢
  rw [← hln] at HX0 ⊢
  clear hG hr htn hnn hln
  go_enter Tryz.func71, Tryz.ntmps71
  go_wp2_with fail
  go_quiet (fail)
  have HX := HX0.out nq
  generalize (w.alloc (.cells #[.slice ta tn tc, .slice na nn nc, .slice la ln lc, .int .i64 st, .slice pa n pc] 27)).drewN nq = W at *
  have HXH : Hid (PhAt w W w.heap.size #[.slice ta tn tc, .slice na nn nc, .slice la ln lc, .int .i64 st, .slice pa n pc]) := HX
  obtain ⟨m0, m1, m2, m3, m4⟩ := HX.cells
  clear HX HX0 hsn hsp
  by_cases hlim : 64 < (tn : Int) - 1 + nn
  · have hd : decide (64 < (tn : Int) - 1 + nn) = true := decide_eq_true hlim
    have hf : r = false := HRF.out fun h => by have h1 := h.syms; rw [HTN.out.1, HTN.out.2.1] at h1; omega
    go_wp2_with fail
    go_ret
    exact ⟨by first | rfl | (rw [hf]; rfl), HXH.out.grown⟩
  · have hd : decide (64 < (tn : Int) - 1 + nn) = false := decide_eq_false hlim
    by_cases hlp : 96 < n
    · have hd2 : decide (96 < (n : Int)) = true := decide_eq_true (by omega)
      have hf : r = false := HRF.out fun h => by have h1 := h.cnt; omega
      go_wp2_with fail
      go_ret
      exact ⟨by first | rfl | (rw [hf]; rfl), HXH.out.grown⟩
    · have hd2 : decide (96 < (n : Int)) = false := decide_eq_false (by omega)
      have hnn65 : nn ≤ 65 := by omega
      have htn65 : tn ≤ 65 := by omega
      have hn96 : n ≤ 96 := by omega
      obtain ⟨rT, hrT⟩ := boolOf (termsOK ts ln)
      have HTT : Hid (Calls Tryz.prog 106 #[.agg #[.slice ta tn tc, .slice na nn nc, .slice la ln lc, .int .i64 st, .slice pa n pc]] W fun e w' => e = .returned (.bool rT) ∧ W.grownBy w' none) := by
        have := termsHold_any ta na la pa nn ln n tc nc lc pc st ts W (HG.out.kept HXH.out.grown).terms (by rw [HTN.out.1]; exact htn65) HG.out.tcap rT hrT
        rwa [HTN.out.1] at this
      have HRT : Hid (rT = true ↔ termsOK ts ln) := hrT
      have HLM : Hid (¬ 64 < (tn : Int) - 1 + nn) := hlim
      clear hrT hlim hlp
      cases rT with
      | false =>
        have hf : r = false := HRF.out fun h => by have h1 := h.terms; rw [HTN.out.2.2] at h1; have := HRT.out.2 h1; cases this
        go_wp2_with fail
        refine HTT.out.mono ?_
        rintro e w2 ⟨rfl, hg2⟩
        have HG2 : Hid (w.grownBy w2 none) := grown_trans HXH.out.grown hg2
        clear hg2 m0 m1 m2 m3 m4
        go_wp2_with fail
        go_ret
        exact ⟨by first | rfl | (rw [hf]; rfl), HG2.out⟩
      | true =>
        go_wp2_with fail
        refine HTT.out.mono ?_
        rintro e w2 ⟨rfl, hg2⟩
        have HX2 : Hid (PhAt w w2 w.heap.size #[.slice ta tn tc, .slice na nn nc, .slice la ln lc, .int .i64 st, .slice pa n pc]) := HXH.out.kept hg2
        clear hg2 m0 m1 m2 m3 m4 HTT HXH
        have HNH : Hid (Calls Tryz.prog 107 #[.slice na nn nc] w2 fun e w' => ∃ r, e = .returned (.bool r) ∧ (r = true ↔ (∀ s ∈ ns, isNameB s = true) ∧ ns.Nodup) ∧ w2.grownBy w' none) := by
          have := nonsHold_any na nc ns w2 (HG.out.kept HX2.out.grown).nons (by rw [HTN.out.2.1]; exact hnn65)
          rwa [HTN.out.2.1] at this
        go_wp2_with fail
        refine HNH.out.mono ?_
        rintro e w3 ⟨rN, rfl, hrN, hg3⟩
        have HRN : Hid (rN = true ↔ (∀ s ∈ ns, isNameB s = true) ∧ ns.Nodup) := hrN
        have HX3 : Hid (PhAt w w3 w.heap.size #[.slice ta tn tc, .slice na nn nc, .slice la ln lc, .int .i64 st, .slice pa n pc]) := HX2.out.kept hg3
        clear hrN hg3 HNH HX2
        cases rN with
        | false =>
          have hf : r = false := HRF.out fun h => by have := HRN.out.2 h.nons; cases this
          have HGE : Hid (w.grownBy w3 none) := HX3.out.grown
          clear HX3
          go_wp2_with fail
          go_ret
          exact ⟨by first | rfl | (rw [hf]; rfl), HGE.out⟩
        | true =>
          obtain ⟨rL, hrL⟩ := boolOf (∀ j, j < lv.length → levelOK ts lv j)
          have HLH : Hid (Calls Tryz.prog 108 #[.agg #[.slice ta tn tc, .slice na nn nc, .slice la ln lc, .int .i64 st, .slice pa n pc]] w3 fun e w' => e = .returned (.bool rL) ∧ w3.grownBy w' none) := by
            have := levelsHold_any ta na la pa nn n tc nc lc pc st ts lv w3 (HG.out.kept HX3.out.grown).terms (HG.out.kept HX3.out.grown).levels (by rw [HTN.out.1]; exact htn65) HG.out.llen rL hrL
            rwa [HTN.out.1, HTN.out.2.2] at this
          have HRL : Hid (rL = true ↔ ∀ j, j < lv.length → levelOK ts lv j) := hrL
          clear hrL
          obtain ⟨m0, m1, m2, m3, m4⟩ := HX3.out.cells
          go_wp2_with fail
          refine HLH.out.mono ?_
          rintro e w4 ⟨rfl, hg4⟩
          have HX4 : Hid (PhAt w w4 w.heap.size #[.slice ta tn tc, .slice na nn nc, .slice la ln lc, .int .i64 st, .slice pa n pc]) := HX3.out.kept hg4
          clear hg4 HLH HX3 m0 m1 m2 m3 m4
          cases rL with
          | false =>
            have hf : r = false := HRF.out fun h => by have := HRL.out.2 h.levels; cases this
            have HGE : Hid (w.grownBy w4 none) := HX4.out.grown
            clear HX4
            go_wp2_with fail
            go_ret
            exact ⟨by first | rfl | (rw [hf]; rfl), HGE.out⟩
          | true =>
            obtain ⟨rP, hrP⟩ := boolOf (∀ i, i < n → prodOK tn nn ln 0 (L i) (R i) (V i))
            have HPH : Hid (Calls Tryz.prog 109 #[.agg #[.slice ta tn tc, .slice na nn nc, .slice la ln lc, .int .i64 st, .slice pa n pc], .slice pa n pc, .int .i64 0] w4 fun e w' => e = .returned (.bool rP) ∧ w4.grownBy w' none) :=
              prodsHold_any ta na la pa pa tn nn ln n tc nc lc pc n pc 0 st L R ra rc V w4 (HG.out.kept HX4.out.grown).prods (by omega) (by omega) (by omega) (by omega) rP hrP
            have HRP : Hid (rP = true ↔ ∀ i, i < n → prodOK tn nn ln 0 (L i) (R i) (V i)) := hrP
            clear hrP
            obtain ⟨m0, m1, m2, m3, m4⟩ := HX4.out.cells
            go_wp2_with fail
            refine HPH.out.mono ?_
            rintro e w5 ⟨rfl, hg5⟩
            have HX5 : Hid (PhAt w w5 w.heap.size #[.slice ta tn tc, .slice na nn nc, .slice la ln lc, .int .i64 st, .slice pa n pc]) := HX4.out.kept hg5
            clear hg5 HPH HX4 m0 m1 m2 m3 m4
            cases rP with
            | false =>
              have hf : r = false := HRF.out fun h => by have h1 := h.prods; rw [HTN.out.1, HTN.out.2.1, HTN.out.2.2] at h1; have := HRP.out.2 h1; cases this
              have HGE : Hid (w.grownBy w5 none) := HX5.out.grown
              clear HX5
              go_wp2_with fail
              go_ret
              exact ⟨by first | rfl | (rw [hf]; rfl), HGE.out⟩
            | true =>
              have HLF : Hid (Calls Tryz.prog 110 #[.slice pa n pc] w5 fun e w' => ∃ a' c', e = .returned (.slice a' (leftsTo L n).length c') ∧ w'.ownsRow w5.heap.size 3 1 (.slice a' (leftsTo L n).length c') (leftsTo L n).length ((leftsTo L n).map (Value.int .i64)) ∧ w5.grownBy w' none) := lefts_any pa n pc L R ra rc V w5 (HG.out.kept HX5.out.grown).prods (by omega)
              have hML := leftsTo_le L n
              obtain ⟨M, hM⟩ : ∃ M, M = (leftsTo L n).length := ⟨_, rfl⟩
              have HMM : Hid ((leftsTo L n).length = M) := hM.symm
              rw [← hM] at hML HLF
              clear hM
              go_wp2_with fail
              refine HLF.out.mono ?_
              rintro e w6 ⟨a', c', rfl, _, hg6⟩
              have HX6 : Hid (PhAt w w6 w.heap.size #[.slice ta tn tc, .slice na nn nc, .slice la ln lc, .int .i64 st, .slice pa n pc]) := HX5.out.kept hg6
              clear hg6 HLF HX5
              obtain ⟨m0, m1, m2, m3, m4⟩ := HX6.out.cells
              by_cases hMn : M = nn
              · have hb : ((M : Int) == (nn : Int)) = true := beq_iff_eq.2 (by omega)
                have HMN : Hid (M = nn) := hMn
                have HIN := isNonOf_any ta na la pa tn nn ln n tc nc lc pc 0 st st w6 (by omega) (by omega) (by omega)
                have HFIN : Hid ((decide ((tn : Int) + (0 : Nat) ≤ st) && decide (st < (tn : Int) + nn)) = r) := by
                  show (decide ((tn : Int) + (0 : Nat) ≤ st) && decide (st < (tn : Int) + nn)) = r
                  rw [Bool.eq_iff_iff, HRR.out, Bool.and_eq_true, decide_eq_true_eq, decide_eq_true_eq]
                  obtain ⟨t1, t2, t3⟩ := HTN.out
                  constructor
                  · intro hs
                    exact ⟨by rw [t1, t2]; have := HLM.out; omega, hn96, by rw [t3]; exact HRT.out.1 (by first | rfl | trivial), HRN.out.1 (by first | rfl | trivial), HRL.out.1 (by first | rfl | trivial), by rw [t1, t2, t3]; exact HRP.out.1 (by first | rfl | trivial), by rw [HMM.out, t2]; exact HMN.out, by rw [t1, t2]; exact hs⟩
                  · intro h
                    have h1 := h.start
                    rw [t1, t2] at h1
                    exact h1
                clear hMn
                go_wp2_with fail
                refine HIN.mono ?_
                rintro e w7 ⟨rfl, hg7⟩
                rw [HFIN.out]
                have HGE : Hid (w.grownBy w7 none) := grown_trans HX6.out.grown hg7
                clear hg7 HIN m0 m1 m2 m3 m4
                go_wp2_with fail
                go_ret
                exact ⟨rfl, HGE.out⟩
              · have hb : ((M : Int) == (nn : Int)) = false := beq_eq_false_iff_ne.2 (by omega)
                have hf : r = false := HRF.out fun h => by have h1 := h.lefts; rw [HMM.out, HTN.out.2.1] at h1; exact hMn h1
                have HGE : Hid (w.grownBy w6 none) := HX6.out.grown
                clear hMn HX6
                go_wp2_with fail
                go_ret
                exact ⟨by first | rfl | (rw [hf]; rfl), HGE.out⟩

end Go.Proofs.YthoamlahbnphkaaGreat

namespace Go.Proofs.YthoamlahbnphkaaGreat
open Go.RowKit Go.Maps Go.Shelf

attribute [local go_sem] Oper.semAt_some

theorem inOrder_any (ta na la pa : Option Addr) (tn nn ln tc nc lc pc n : Nat) (st : Int) (L : Nat → Int) (R : Nat → List Int) (ra : Nat → Option Addr) (rc : Nat → Nat) (V : Nat → Int) (w : World) (hP : ∀ W, w.grownBy W none → ProdsAt W pa n L R ra rc V) (hn : n ≤ 96) (r : Bool) (hr : r = true ↔ Asc (leftsTo L n)) :
    Calls Tryz.prog 122 #[.agg #[.slice ta tn tc, .slice na nn nc, .slice la ln lc, .int .i64 st, .slice pa n pc]] w fun e w' => e = .returned (.bool r) ∧ w.grownBy w' none := by
  have HLF : Hid (∀ o, Calls Tryz.prog 110 #[.slice pa n pc] (w.alloc o) fun e w' => ∃ a' c', e = .returned (.slice a' (leftsTo L n).length c') ∧ w'.ownsRow (w.alloc o).heap.size 3 1 (.slice a' (leftsTo L n).length c') (leftsTo L n).length ((leftsTo L n).map (Value.int .i64)) ∧ (w.alloc o).grownBy w' none) := fun o => lefts_any pa n pc L R ra rc V _ (hP _ (World.grownBy_alloc _ _ none)) (by omega)
  have HIS : Hid (∀ W a c B, W.ownsRow B 3 1 (.slice a (leftsTo L n).length c) (leftsTo L n).length ((leftsTo L n).map (Value.int .i64)) → Calls Tryz.prog 150 #[.slice a (leftsTo L n).length c] W fun e w' => e = .returned (.bool r) ∧ W.grownBy w' none) := fun W a c B ho => isSorted_any a c (leftsTo L n) W (owns_intsAt ho rfl) (by have := leftsTo_le L n; omega) r hr
  clear hP hr
  generalize (leftsTo L n).map (Value.int .i64) = xs at *
  generalize (leftsTo L n).length = M at *
  go_enter Tryz.func122, Tryz.ntmps122
  go_wp2_with fail
  refine (HLF.out _).mono ?_
  rintro e w2 ⟨a', c', rfl, ho, hg2⟩
  have his := HIS.out w2 a' c' _ ho
  have HG2 : Hid (w.grownBy w2 none) := grown_trans (World.grownBy_alloc _ _ none) hg2
  clear ho hg2 HIS HLF
  go_wp2_with fail
  refine his.mono ?_
  rintro e w3 ⟨rfl, hg3⟩
  go_wp2_with fail
  go_ret
  exact ⟨rfl, grown_trans HG2.out hg3⟩

def validOK (ts : List (ByteArray × Int)) (ns : List ByteArray) (lv : List Int) (st : Int) (n : Nat) (L : Nat → Int) (R : Nat → List Int) (V : Nat → Int) : Prop := holdsOK ts ns lv st n L R V ∧ Asc (leftsTo L n)

set_option maxRecDepth 100000 in
theorem valid_any (ta na la pa : Option Addr) (tc nc lc pc : Nat) (ts : List (ByteArray × Int)) (ns : List ByteArray) (lv : List Int) (n : Nat) (L : Nat → Int) (R : Nat → List Int) (ra : Nat → Option Addr) (rc : Nat → Nat) (V : Nat → Int) (st : Int) (w : World) (hG : GAt w ta na la pa tc nc lc pc ts ns lv n L R ra rc V) (r : Bool) (hr : r = true ↔ validOK ts ns lv st n L R V) :
    Calls Tryz.prog 99 #[.agg #[.slice ta ts.length tc, .slice na ns.length nc, .slice la lv.length lc, .int .i64 st, .slice pa n pc]] w fun e w' => e = .returned (.bool r) ∧ w.grownBy w' none := by
  have HG : Hid (GAt w ta na la pa tc nc lc pc ts ns lv n L R ra rc V) := hG
  have HRR : Hid (r = true ↔ validOK ts ns lv st n L R V) := hr
  obtain ⟨rH, hrH⟩ := boolOf (holdsOK ts ns lv st n L R V)
  have HRH : Hid (rH = true ↔ holdsOK ts ns lv st n L R V) := hrH
  have HH : Hid (∀ W, w.grownBy W none → Calls Tryz.prog 71 #[.agg #[.slice ta ts.length tc, .slice na ns.length nc, .slice la lv.length lc, .int .i64 st, .slice pa n pc], .int .i64 0] W fun e w' => e = .returned (.bool rH) ∧ W.grownBy w' none) := fun W hW => holds_zero ta na la pa tc nc lc pc ts ns lv n L R ra rc V st W (hG.kept hW) rH hrH
  have HO : Hid (n ≤ 96 → ∀ W r', w.grownBy W none → (r' = true ↔ Asc (leftsTo L n)) → Calls Tryz.prog 122 #[.agg #[.slice ta ts.length tc, .slice na ns.length nc, .slice la lv.length lc, .int .i64 st, .slice pa n pc]] W fun e w' => e = .returned (.bool r') ∧ W.grownBy w' none) := fun h W r' hW hr' => inOrder_any ta na la pa ts.length ns.length lv.length tc nc lc pc n st L R ra rc V W (fun X hX => (hG.kept (grown_trans hW hX)).prods) h r' hr'
  have HX0 : Hid (PhAt w (w.alloc (.cells #[.slice ta ts.length tc, .slice na ns.length nc, .slice la lv.length lc, .int .i64 st, .slice pa n pc] 27)) w.heap.size #[.slice ta ts.length tc, .slice na ns.length nc, .slice la lv.length lc, .int .i64 st, .slice pa n pc]) := ⟨World.grownBy_alloc _ _ none, heap_alloc_last w _⟩
  clear hG hr hrH
  generalize ts.length = tn at *
  generalize ns.length = nn at *
  generalize lv.length = ln at *
  cases rH with
  | false =>
    have hf : r = false := Bool.eq_false_iff.2 fun hh => by have := HRH.out.2 (HRR.out.1 hh).1; cases this
    go_enter Tryz.func99, Tryz.ntmps99
    go_wp2_with fail
    refine (HH.out _ HX0.out.grown).mono ?_
    rintro e w2 ⟨rfl, hg2⟩
    have HG2 : Hid (w.grownBy w2 none) := grown_trans HX0.out.grown hg2
    clear hg2 HX0
    go_wp2_with fail
    go_ret
    exact ⟨by first | rfl | (rw [hf]; rfl), HG2.out⟩
  | true =>
    have HOK := HRH.out.1 rfl
    have HCN : Hid (n ≤ 96) := HOK.cnt
    have HRA : Hid (r = true ↔ Asc (leftsTo L n)) := by
      constructor
      · intro h; exact (HRR.out.1 h).2
      · intro h; exact HRR.out.2 ⟨HOK, h⟩
    clear HOK HRR HRH
    go_enter Tryz.func99, Tryz.ntmps99
    go_wp2_with fail
    refine (HH.out _ HX0.out.grown).mono ?_
    rintro e w2 ⟨rfl, hg2⟩
    have HX2 : Hid (PhAt w w2 w.heap.size #[.slice ta tn tc, .slice na nn nc, .slice la ln lc, .int .i64 st, .slice pa n pc]) := HX0.out.kept hg2
    obtain ⟨m0, m1, m2, m3, m4⟩ := HX2.out.cells
    have ho := HO.out HCN.out w2 r HX2.out.grown HRA.out
    clear hg2 HX0 HO HH
    go_wp2_with fail
    refine ho.mono ?_
    rintro e w3 ⟨rfl, hg3⟩
    go_wp2_with fail
    go_ret
    exact ⟨rfl, grown_trans HX2.out.grown hg3⟩

end Go.Proofs.YthoamlahbnphkaaGreat

/-
  numbered of a builder, walked.
-/
namespace Go.Proofs.YthoamlahbnphkaaGreat
open Go.RowKit Go.Maps Go.Shelf

def updR (R : Nat → List Int) (k : Nat) (l : List Int) : Nat → List Int := fun i => if i = k then l else R i
/-- A handle's symbol, by the symbols' row. -/
def sg (σ : Nat → Int) (h : Int) : Int := if h < 0 then σ (-h).toNat else h
def mapTo (σ : Nat → Int) (j : Nat) (l : List Int) : List Int := (l.take j).map (sg σ) ++ l.drop j

theorem mapTo_length (σ : Nat → Int) (j : Nat) (l : List Int) : (mapTo σ j l).length = l.length := by simp [mapTo]; omega
theorem mapTo_zero (σ : Nat → Int) (l : List Int) : mapTo σ 0 l = l := by simp [mapTo]
theorem mapTo_all (σ : Nat → Int) (l : List Int) : mapTo σ l.length l = l.map (sg σ) := by simp [mapTo]
theorem mapTo_at (σ : Nat → Int) (j : Nat) (l : List Int) (hj : j < l.length) : (mapTo σ j l)[j]? = some (l.getD j 0) := by
  unfold mapTo
  rw [List.getElem?_append_right (by simp; omega)]
  simp [List.getD, hj, Nat.min_eq_left (Nat.le_of_lt hj)]
theorem mapTo_succ (σ : Nat → Int) (j : Nat) (l : List Int) (hj : j < l.length) : mapTo σ (j + 1) l = (mapTo σ j l).set j (sg σ (l.getD j 0)) := by
  unfold mapTo
  have hl : ((l.take j).map (sg σ)).length = j := by simp; omega
  rw [List.set_append_right _ _ (by omega), hl, Nat.sub_self]
  rw [List.drop_eq_getElem_cons hj, List.set_cons_zero, List.take_succ_eq_append_getElem hj, List.map_append]
  simp [List.getD, hj]

theorem NewProds.congr {w wr : World} {B n : Nat} {v : Value} {L L' : Nat → Int} {R R' : Nat → List Int} {V : Nat → Int} {rg : Nat → Value} (h : NewProds w wr B v n n L R V rg) (h1 : ∀ i, i < n → L i = L' i) (h2 : ∀ i, i < n → R i = R' i) : NewProds w wr B v n n L' R' V rg :=
  ⟨by rw [← prodRow_ext h1 (fun _ _ => rfl) (fun _ _ => rfl)]; exact h.row, fun i hi => by rw [← h2 i hi]; exact h.rights i hi, h.apart, h.disj, h.lo, h.grown⟩

theorem NewProds.setLeft {w wr : World} {B g n c k : Nat} {L : Nat → Int} {R : Nat → List Int} {V : Nat → Int} {rg : Nat → Value} (h : NewProds w wr B (.slice (some ⟨g, 0, none⟩) n c) n n L R V rg) (hk : k < n) (x : Int) :
    NewProds w (wr.setCell ⟨g, k * 3, none⟩ (.int .i64 x)) B (.slice (some ⟨g, 0, none⟩) n c) n n (updI L k x) R V rg := by
  have hst := grown_setCell (w := wr) g (k * 3) (.int .i64 x)
  have hgB := h.row.lt g rfl
  refine ⟨by rw [← prodRow_setL L rg V k x n hk]; exact owns_set h.row _, fun i hi => (h.rights i hi).kept hst ?_, h.apart, h.disj, h.lo, grown_new h.grown hst (Nat.le_trans h.lo hgB.1)⟩
  cases hx : (rg i).ownBlock with
  | none => exact .inl rfl
  | some y => have := h.apart i hi y hx; simp [Value.ownBlock] at this; exact .inr (by simp; omega)

theorem NewProds.setRight {w wr : World} {B g n c k j gk ck : Nat} {L : Nat → Int} {R : Nat → List Int} {V : Nat → Int} {rg : Nat → Value} (h : NewProds w wr B (.slice (some ⟨g, 0, none⟩) n c) n n L R V rg) (hk : k < n) (hr : rg k = .slice (some ⟨gk, 0, none⟩) (R k).length ck) (x : Int) :
    NewProds w (wr.setCell ⟨gk, j, none⟩ (.int .i64 x)) B (.slice (some ⟨g, 0, none⟩) n c) n n L (updR R k ((R k).set j x)) V rg := by
  have hst := grown_setCell (w := wr) gk j (.int .i64 x)
  have hkr := h.rights k hk
  have hkb : (rg k).ownBlock = some gk := by rw [hr]; rfl
  have hgB := hkr.lt gk hkb
  refine ⟨h.row.kept hst ?_, fun i hi => ?_, h.apart, h.disj, h.lo, grown_new h.grown hst (Nat.le_trans h.lo hgB.1)⟩
  · exact .inr (h.apart k hk gk hkb)
  · by_cases e : i = k
    · subst e
      have e1 : updR R i ((R i).set j x) i = (R i).set j x := by simp [updR]
      rw [e1, List.length_set, List.map_set]
      rw [hr] at hkr ⊢
      exact owns_set hkr _
    · have e1 : updR R k ((R k).set j x) i = R i := by simp [updR, e]
      rw [e1]
      refine (h.rights i hi).kept hst ?_
      cases hx : (rg i).ownBlock with
      | none => exact .inl rfl
      | some y =>
        right
        intro hh
        have hy : y = gk := by simpa using hh
        subst hy
        by_cases hlt : i < k
        · exact h.disj i k hlt hk y hx hkb
        · exact h.disj k i (by omega) hi y hkb hx

/-- The stage at production k, j of its right side's symbols laid. -/
def LS (σ : Nat → Int) (L : Nat → Int) (k : Nat) : Nat → Int := fun i => if i < k then sg σ (L i) else L i
def RS (σ : Nat → Int) (R : Nat → List Int) (k j : Nat) : Nat → List Int := fun i => if i < k then (R i).map (sg σ) else if i = k then mapTo σ j (R i) else R i

theorem LS_succ (σ : Nat → Int) (L : Nat → Int) (k i : Nat) : updI (LS σ L k) k (sg σ (L k)) i = LS σ L (k + 1) i := by
  unfold updI LS
  by_cases h : i = k
  · subst h; simp
  · by_cases h2 : i < k
    · simp [h, h2, show i < k + 1 by omega]
    · simp [h, h2, show ¬ i < k + 1 by omega]
theorem RS_len (σ : Nat → Int) (R : Nat → List Int) (k j i : Nat) : (RS σ R k j i).length = (R i).length := by
  unfold RS
  split
  · simp
  · split
    · exact mapTo_length _ _ _
    · rfl
theorem RS_step (σ : Nat → Int) (R : Nat → List Int) (k j : Nat) (hj : j < (R k).length) (i : Nat) : updR (RS σ R k j) k ((RS σ R k j k).set j (sg σ ((R k).getD j 0))) i = RS σ R k (j + 1) i := by
  unfold updR
  by_cases h : i = k
  · subst h
    simp [RS, mapTo_succ σ j (R i) hj]
  · simp [RS, h]
theorem RS_pos (σ : Nat → Int) (R : Nat → List Int) (k j : Nat) (hj : j < (R k).length) (h0 : ¬ (R k).getD j 0 < 0) (i : Nat) : RS σ R k j i = RS σ R k (j + 1) i := by
  unfold RS
  split
  · rfl
  · split
    · next h => 
      subst h
      rw [mapTo_succ σ j (R i) hj]
      apply List.ext_getElem?
      intro x
      rw [List.getElem?_set]
      split
      · next e =>
        subst e
        rw [if_pos (by rw [mapTo_length]; exact hj), mapTo_at σ j (R i) hj]
        unfold sg
        rw [if_neg h0]
      · rfl
    · rfl
theorem RS_end (σ : Nat → Int) (R : Nat → List Int) (k i : Nat) : RS σ R k (R k).length i = RS σ R (k + 1) 0 i := by
  unfold RS
  by_cases h : i < k
  · simp [h, show i < k + 1 by omega]
  · by_cases h2 : i = k
    · subst h2; simp [mapTo_all]
    · by_cases h3 : i = k + 1
      · subst h3; simp [mapTo_zero, show ¬ k + 1 < k by omega]
      · simp [h, h2, show ¬ i < k + 1 by omega, h3]
theorem RS_start (σ : Nat → Int) (R : Nat → List Int) (i : Nat) : RS σ R 0 0 i = R i := by
  unfold RS
  split
  · omega
  · split
    · exact mapTo_zero _ _
    · rfl

end Go.Proofs.YthoamlahbnphkaaGreat

namespace Go.Proofs.YthoamlahbnphkaaGreat
open Go.RowKit Go.Maps Go.Shelf

attribute [local go_sem] Oper.semAt_some

end Go.Proofs.YthoamlahbnphkaaGreat

/-
  Grammar of a builder: what is told, and the memory that it lies in.
-/
namespace Go.Proofs.YthoamlahbnphkaaGreat
open Go.RowKit Go.Maps Go.Shelf

/-- A grammar as it is told. -/
structure GR where
  terms : List (ByteArray × Int)
  nons : List ByteArray
  levels : List Int
  start : Int
  prods : List PR

/-- A grammar in memory of its own, from block B on. -/
structure GramNew (w : World) (B : Nat) (G : GR) (vt vn vl vp : Value) : Prop where
  terms : w.ownsRow B 88 2 vt G.terms.length (tmsL G.terms)
  nons : w.ownsRow B 9 1 vn G.nons.length (G.nons.map Value.string)
  levels : w.ownsRow B 3 1 vl G.levels.length (G.levels.map (Value.int .i64))
  prods : ∃ rg : Nat → Value, w.ownsRow B 71 3 vp G.prods.length (prodRow G.prods.length (fun i => (G.prods.getD i ⟨0, [], 0⟩).left) rg (fun i => (G.prods.getD i ⟨0, [], 0⟩).level)) ∧
    ∀ i, i < G.prods.length → w.ownsRow B 3 1 (rg i) (G.prods.getD i ⟨0, [], 0⟩).right.length ((G.prods.getD i ⟨0, [], 0⟩).right.map (Value.int .i64))

theorem GramNew.kept {w w' : World} {B : Nat} {G : GR} {vt vn vl vp : Value} (h : GramNew w B G vt vn vl vp) (hg : w.grownBy w' none) : GramNew w' B G vt vn vl vp := by
  obtain ⟨rg, h1, h2⟩ := h.prods
  exact ⟨h.terms.kept hg (by cases hv : vt.ownBlock <;> simp), h.nons.kept hg (by cases hv : vn.ownBlock <;> simp), h.levels.kept hg (by cases hv : vl.ownBlock <;> simp), rg, h1.kept hg (by cases hv : vp.ownBlock <;> simp), fun i hi => (h2 i hi).kept hg (by cases hv : (rg i).ownBlock <;> simp)⟩

def BS.sym (S : BS) (i : Nat) : Int := symOf (S.terms.length + 1) (ordOf S.prods) i
def BS.first (S : BS) : Int := if S.start = 0 then (S.prods.getD 0 ⟨0, [], 0⟩).left else S.start
/-- Is there a grammar to tell? -/
def BS.tells (S : BS) : Bool := decide (0 < S.prods.length) && decide (S.nons.length ≤ (ordOf S.prods).length)
/-- The grammar that is told. -/
def BS.gram (S : BS) : GR :=
  { terms := S.tms S.terms.length, nons := (ordOf S.prods).map (fun i => S.nons.getD (i - 1) ⟨#[]⟩), levels := S.sides, start := S.sym (-S.first).toNat,
    prods := S.prods.map fun p => ⟨sg S.sym p.left, p.right.map (sg S.sym), p.level⟩ }

theorem outL_map (S : BS) (out : List Nat) : outL S out = (out.map (fun i => S.nons.getD (i - 1) ⟨#[]⟩)).map Value.string := by simp [outL]

theorem owns_lower {w : World} {B B' e size n : Nat} {v : Value} {xs : List Value} (h : w.ownsRow B e size v n xs) (hle : B' ≤ B) : w.ownsRow B' e size v n xs := by
  refine ⟨h.1, ?_⟩
  rcases h.2 with h' | ⟨g, cap, cur, hv, hb, rest⟩
  · exact .inl h'
  · exact .inr ⟨g, cap, cur, hv, Nat.le_trans hle hb, rest⟩

theorem gram_prods (S : BS) (i : Nat) (hi : i < S.prods.length) : S.gram.prods.getD i ⟨0, [], 0⟩ = ⟨sg S.sym (S.prods.getD i ⟨0, [], 0⟩).left, (S.prods.getD i ⟨0, [], 0⟩).right.map (sg S.sym), (S.prods.getD i ⟨0, [], 0⟩).level⟩ := by
  simp [BS.gram, List.getD, hi]

theorem gram_new {w X : World} {S : BS} {vt vn vl vp : Value} {rg : Nat → Value} (ht : X.ownsRow w.heap.size 88 2 vt (S.terms.length + 1) (tmsL (S.tms S.terms.length))) (hn : X.ownsRow w.heap.size 9 1 vn (ordOf S.prods).length (outL S (ordOf S.prods)))
    (hl : X.ownsRow w.heap.size 3 1 vl S.sides.length (S.sides.map (Value.int .i64)))
    (hp : X.ownsRow w.heap.size 71 3 vp S.prods.length (prodRow S.prods.length (fun i => sg S.sym (S.prods.getD i ⟨0, [], 0⟩).left) rg (fun i => (S.prods.getD i ⟨0, [], 0⟩).level)))
    (hr : ∀ i, i < S.prods.length → X.ownsRow w.heap.size 3 1 (rg i) ((S.prods.getD i ⟨0, [], 0⟩).right.map (sg S.sym)).length (((S.prods.getD i ⟨0, [], 0⟩).right.map (sg S.sym)).map (Value.int .i64))) : GramNew X w.heap.size S.gram vt vn vl vp := by
  have hlen : S.gram.prods.length = S.prods.length := by simp [BS.gram]
  refine ⟨?_, ?_, hl, rg, ?_, fun i hi => ?_⟩
  · have : S.gram.terms.length = S.terms.length + 1 := tms_length S _
    rw [this]; exact ht
  · have : S.gram.nons.length = (ordOf S.prods).length := by simp [BS.gram]
    rw [this]
    rw [outL_map] at hn
    exact hn
  · rw [hlen, prodRow_ext (L' := fun i => sg S.sym (S.prods.getD i ⟨0, [], 0⟩).left) (r' := rg) (V' := fun i => (S.prods.getD i ⟨0, [], 0⟩).level) (fun i hi => by rw [gram_prods S i hi]) (fun _ _ => rfl) (fun i hi => by rw [gram_prods S i hi])]
    exact hp
  · rw [hlen] at hi
    rw [gram_prods S i hi]
    exact hr i hi

end Go.Proofs.YthoamlahbnphkaaGreat

/-
  Grammar of a builder, walked.
-/
namespace Go.Proofs.YthoamlahbnphkaaGreat
open Go.RowKit Go.Maps Go.Shelf

attribute [local go_sem] Oper.semAt_some

/-- The zero grammar's cells. -/
def zeroGC : Array Value := #[.slice none 0 0, .slice none 0 0, .slice none 0 0, .int .i64 0, .slice none 0 0]

theorem grown_setRow (w : World) (g : Nat) (cs : Array Value) : w.grownBy (w.setRow g cs) (some g) := by
  refine ⟨rfl, rfl, rfl, ?_, fun k hk hne => ?_⟩
  · unfold World.setRow; simp
  · have hne' : g ≠ k := fun e => hne (by rw [e])
    unfold World.setRow
    simp [Array.getElem?_modify, hne']

theorem set5_heap {w : World} {g : Nat} {t : TypeId} {a0 a1 a2 a3 a4 : Value} (h : w.heap[g]? = some (.cells #[a0, a1, a2, a3, a4] t (0, 0))) (v0 v1 v2 v3 v4 : Value) :
    (((((w.setCell ⟨g, 0, none⟩ v0).setCell ⟨g, 1, none⟩ v1).setCell ⟨g, 2, none⟩ v2).setCell ⟨g, 3, none⟩ v3).setCell ⟨g, 4, none⟩ v4).heap[g]? = some (.cells #[v0, v1, v2, v3, v4] t (0, 0)) := by
  have h0 := heap_setCell_same w g 0 _ _ v0 h
  have h1 := heap_setCell_same _ g 1 _ _ v1 h0
  have h2 := heap_setCell_same _ g 2 _ _ v2 h1
  have h3 := heap_setCell_same _ g 3 _ _ v3 h2
  exact heap_setCell_same _ g 4 _ _ v4 h3
theorem set5_grown (w : World) (g : Nat) (v0 v1 v2 v3 v4 : Value) :
    w.grownBy (((((w.setCell ⟨g, 0, none⟩ v0).setCell ⟨g, 1, none⟩ v1).setCell ⟨g, 2, none⟩ v2).setCell ⟨g, 3, none⟩ v3).setCell ⟨g, 4, none⟩ v4) (some g) :=
  grown_trans (grown_trans (grown_trans (grown_trans (grown_setCell _ _ _) (grown_setCell _ _ _)) (grown_setCell _ _ _)) (grown_setCell _ _ _)) (grown_setCell _ _ _)

theorem step_store_row {ops : Array Oper} {o : Oper} {a : Act} {w : World} {K : Act → World → Prop} {Q : Exit → Act → World → Prop} {E : Prop} (hgd : o.guard = none) (ty : TypeId) (x y : Operand) (ho : o.op = .store ty x y)
    (g : Nat) (cells : Array Value) (hx : a.eval x = .pointer (some ⟨g, 0, none⟩)) (hy : a.eval y = .agg cells)
    (t : TypeId) (old : Array Value) (hg : w.heap[g]? = some (.cells old t (0, 0))) (hi : (Tryz.prog.info? ty).map (·.size) = some cells.size)
    (hold : old.size = cells.size) (h1 : cells.all (·.oneCell') = true) (h : K (a.put o.dst undef) (w.setRow g cells)) :
    if Region.wanted o (yielded ops a.tmps) = true then Oper.wp Tryz.prog o a w K Q else E := by
  have hw : Region.wanted o (yielded ops a.tmps) = true := by simp [Region.wanted, hgd]
  rw [if_pos hw]
  exact wp_store_row ty x y ho g cells hx hy t old hg hi hold h1 h

end Go.Proofs.YthoamlahbnphkaaGreat

/-
  Grammar of a builder, where there is one to tell.
-/
namespace Go.Proofs.YthoamlahbnphkaaGreat
open Go.RowKit Go.Maps Go.Shelf

attribute [local go_sem] Oper.semAt_some

theorem keepR {W W' : World} {B e s n : Nat} {v : Value} {xs : List Value} (h : W.ownsRow B e s v n xs) (hg : W.grownBy W' none) : Hid (W'.ownsRow B e s v n xs) := h.kept hg (by cases hv : v.ownBlock <;> simp)
theorem owns_hid {W : World} {B B' e s n : Nat} {v : Value} {xs : List Value} (h : W.ownsRow B e s v n xs) (hle : B' ≤ B) : Hid (W.ownsRow B' e s v n xs) := owns_lower h hle

/-- The told productions, in their own memory. -/
structure PNew (W : World) (B : Nat) (v : Value) (S : BS) (rg : Nat → Value) : Prop where
  row : W.ownsRow B 71 3 v S.prods.length (prodRow S.prods.length (fun i => sg S.sym (S.prods.getD i ⟨0, [], 0⟩).left) rg (fun i => (S.prods.getD i ⟨0, [], 0⟩).level))
  rights : ∀ i, i < S.prods.length → W.ownsRow B 3 1 (rg i) ((S.prods.getD i ⟨0, [], 0⟩).right.map (sg S.sym)).length (((S.prods.getD i ⟨0, [], 0⟩).right.map (sg S.sym)).map (Value.int .i64))
theorem keepP {W W' : World} {B : Nat} {v : Value} {S : BS} {rg : Nat → Value} (h : PNew W B v S rg) (hg : W.grownBy W' none) : Hid (PNew W' B v S rg) :=
  ⟨h.row.kept hg (by cases hv : v.ownBlock <;> simp), fun i hi => (h.rights i hi).kept hg (by cases hv : (rg i).ownBlock <;> simp)⟩
theorem pnew_of {X W : World} {B : Nat} {v : Value} {S : BS} {rg : Nat → Value} (h : NewProds X W X.heap.size v S.prods.length S.prods.length (fun i => sg S.sym (S.prods.getD i ⟨0, [], 0⟩).left) (fun i => (S.prods.getD i ⟨0, [], 0⟩).right.map (sg S.sym)) (fun i => (S.prods.getD i ⟨0, [], 0⟩).level) rg) (hle : B ≤ X.heap.size) : Hid (PNew W B v S rg) :=
  ⟨owns_lower h.row hle, fun i hi => owns_lower (h.rights i hi) hle⟩

theorem owns_off {W W' : World} {B e s n k : Nat} {v : Value} {xs : List Value} (h : W.ownsRow (k + 1) e s v n xs) (hst : W.grownBy W' (some k)) (hB : B ≤ k) : W'.ownsRow B e s v n xs := by
  refine owns_lower (h.kept hst ?_) (Nat.le_trans hB (Nat.le_succ k))
  cases hv : v.ownBlock with
  | none => exact .inl rfl
  | some g => have := (h.lt g hv).1; exact .inr (by simp; omega)

theorem wrapJ (j : Nat) (h : j ≤ 64) : IntKind.i64.wrap (j : Int) = (j : Int) := by
  simp [IntKind.wrap, IntKind.signed, IntKind.bits]
  omega

theorem first_ok {S : BS} (h : S.OK) (h0 : 0 < S.prods.length) : ∃ j : Nat, S.first = -(j : Int) ∧ 1 ≤ j ∧ j ≤ S.nons.length := by
  have hb : -(S.nons.length : Int) ≤ S.first ∧ S.first < 0 := by
    unfold BS.first
    split
    · refine h.pl _ ?_
      have : S.prods.getD 0 ⟨0, [], 0⟩ = S.prods[0] := by simp [List.getD, h0]
      rw [this]; exact List.getElem_mem _
    · next hne =>
      rcases h.st with h' | h'
      · exact absurd h' hne
      · exact h'
  obtain ⟨j, hj⟩ := Int.eq_ofNat_of_zero_le (show 0 ≤ -S.first by omega)
  exact ⟨j, by omega, by omega, by omega⟩

end Go.Proofs.YthoamlahbnphkaaGreat
