import Derived.Test.YthoamlahbnphkaaGreatQbloibadcnhog
import Derived.Test.YthoamlahbnphkaaGreatQfkkcbeaigjcf
import Derived.Deep.LoopGhost
import Derived.Outline
import Derived.Test.YthoamlahbnphkaaGreatQkbonjeeknifk
import Derived.BigQuiet
import Derived.Deep.MidRow
import Derived.Deep.WholeRow

/-
  termsHold of whatever slice.
-/
namespace Go.Proofs.YthoamlahbnphkaaGreat
open Go.RowKit Go.Maps Go.Shelf

attribute [local go_sem] Oper.semAt_some

set_option maxRecDepth 100000 in
theorem termsHold_one (b off : Nat) (na la pa : Option Addr) (nn ln pn nc lc pc : Nat) (st : Int) (t : ByteArray × Int) (w : World) (hT : TermsAt w (some ⟨b, off, none⟩) [t]) (r : Bool) (hr : r = true ↔ termsOK [t] ln) :
    Calls Tryz.prog 106 #[.agg #[.slice (some ⟨b, off, none⟩) 1 1, .slice na nn nc, .slice la ln lc, .int .i64 st, .slice pa pn pc]] w fun e w' => e = .returned (.bool r) ∧ w.grownBy w' none := by
  obtain ⟨j0, hj, hy0, hy1, hy2⟩ := info_parts infoStr
  obtain ⟨s0, l0⟩ := t
  have hcs : w.cell? ⟨b, off, none⟩ = some (.string s0) ∧ w.cell? ⟨b, off + 1, none⟩ = some (.int .i64 l0) := by
    rcases hT with h | ⟨b', off', he, h⟩
    · cases h
    · simp only [Option.some.injEq, Addr.mk.injEq, and_true] at he
      obtain ⟨rfl, rfl⟩ := he
      have := h 0 (by simp)
      simpa using this
  have hA1 : ∀ o, (w.alloc o).cell? ⟨b, off, none⟩ = some (.string s0) := fun o => (World.grownBy_alloc w o none).cell hcs.1 (by simp)
  have hA2 : ∀ o, (w.alloc o).cell? ⟨b, off + 1, none⟩ = some (.int .i64 l0) := fun o => (World.grownBy_alloc w o none).cell hcs.2 (by simp)
  have hq := fun w => neqTerm s0 ⟨#[]⟩ l0 0 w
  have hqg : Tryz.prog.eqGuardType Tryz.prog.depth 88 = false := by kernel_rfl
  have HRR : Hid (r = true ↔ termsOK [(s0, l0)] ln) := hr
  clear hcs hT hr
  by_cases hmk : s0 = ⟨#[]⟩ ∧ l0 = 0
  · obtain ⟨rfl, rfl⟩ := hmk
    have hq' : ∀ w, (binOp .neq 88 (.agg #[.string ⟨#[]⟩, .int .i64 0]) (.agg #[.string ⟨#[]⟩, .int .i64 0])).run Tryz.prog w = .ok (.bool false) w := fun w => by rw [hq]; simp
    have hrt : r = true := HRR.out.2 ⟨[], rfl, (fun t ht => by cases ht), (by simp)⟩
    have HNT : Hid (∀ W a c, Calls Tryz.prog 132 #[.slice a 0 c] W fun e w' => e = .returned (.bool true) ∧ W.grownBy w' none) := fun W a c => (noTwoAlike_any a c [] W (.inl rfl) (by simp) (fun s hs => by cases hs)).mono fun e w' ⟨r', he, h1, h2⟩ => ⟨by rw [he, h1.2 List.nodup_nil], h2⟩
    have HBX : Hid (∀ w1, (w.alloc (.cells #[.slice (some ⟨b, off, none⟩) 1 1, .slice na nn nc, .slice la ln lc, .int .i64 st, .slice pa pn pc] 27)).grownBy w1 none → w1.heap[w.heap.size]? = some (.cells #[.slice (some ⟨b, off, none⟩) 1 1, .slice na nn nc, .slice la ln lc, .int .i64 st, .slice pa pn pc] 27 (0, 0))) := fun w1 hg => (hg.block w.heap.size (by simp) (by simp)).trans (heap_alloc_last w _)
    clear hq
    go_enter Tryz.func106, Tryz.ntmps106
    go_wp2_with (at_make; refine wpList_make_own _ rfl _ _ 23 rfl (w.heap.size + 1) 9 j0 (.string ByteArray.empty) 1 Tryz.underlying23 hj hy0 hy1 .i64 .i64 _ 0 rfl rfl (by simp) (by rw [hy2]; omega) (by unfold maxLen; omega) (by simp) ?_; intro w1 hown1 hg1; have hbx1 := HBX.out w1 hg1; have k0 := cell_of_row w1 w.heap.size 0 _ _ _ hbx1; simp only [List.getElem?_toArray, List.getElem?_cons_zero] at k0)
    have HG1 : Hid (w.grownBy w1 none) := grown_trans (World.grownBy_alloc _ _ none) hg1
    clear hown1 hg1 hbx1 hA1 hA2
    refine wp_loop_rounds 1 ?_
    rw [rounds_succ]
    go_wp2_with fail
    refine (HNT.out _ _ _).mono ?_
    rintro e w5 ⟨rfl, hg5⟩
    go_wp2_with fail
    go_ret
    exact ⟨by first | rfl | (rw [hrt]; rfl), grown_trans HG1.out hg5⟩
  · have hb : (!(s0.toList == (ByteArray.mk #[]).toList && l0 == 0)) = true := by
      rw [Bool.not_eq_true', Bool.eq_false_iff]
      intro h
      rw [Bool.and_eq_true] at h
      exact hmk ⟨(toList_empty s0).1 (by simpa using h.1), by simpa using h.2⟩
    rw [hb] at hq
    have hrf : r = false := Bool.eq_false_iff.2 fun hh => by
      obtain ⟨rest', he, _⟩ := HRR.out.1 hh
      simp at he
      exact hmk he.1
    clear hb hmk
    go_enter Tryz.func106, Tryz.ntmps106
    go_wp2_with fail
    go_ret
    exact ⟨by first | rfl | (rw [hrf]; rfl), World.grownBy_alloc _ _ none⟩

theorem termsHold_any (ta na la pa : Option Addr) (nn ln pn tc nc lc pc : Nat) (st : Int) (ts : List (ByteArray × Int)) (w : World) (hT : TermsAt w ta ts) (hn : ts.length ≤ 65) (hc : ts.length ≤ tc) (r : Bool) (hr : r = true ↔ termsOK ts ln) :
    Calls Tryz.prog 106 #[.agg #[.slice ta ts.length tc, .slice na nn nc, .slice la ln lc, .int .i64 st, .slice pa pn pc]] w fun e w' => e = .returned (.bool r) ∧ w.grownBy w' none := by
  cases hts : ts with
  | nil =>
    have : r = false := Bool.eq_false_iff.2 fun h => by
      obtain ⟨rest, he, _⟩ := hr.1 h
      rw [hts] at he; cases he
    rw [this]
    exact termsHold_none ta na la pa nn ln pn tc nc lc pc st w
  | cons t rest =>
    rw [← hts]
    have hT' := hT
    rcases hT with h | ⟨b, off, rfl, _⟩
    · rw [hts] at h; cases h
    · have hpos : 0 < ts.length := by rw [hts]; simp
      by_cases h1 : tc = 1
      · have hl1 : ts.length = 1 := by omega
        obtain ⟨t', rfl⟩ : ∃ t', ts = [t'] := by
          match ts, hl1 with
          | [t'], _ => exact ⟨t', rfl⟩
        rw [h1]
        exact termsHold_one b off na la pa nn ln pn nc lc pc st t' w hT' r hr
      · exact termsHold_some b off na la pa nn ln pn tc nc lc pc st ts w hT' hpos hn hc h1 r hr

end Go.Proofs.YthoamlahbnphkaaGreat

/-
  inOrder, Valid: is a grammar plain?
-/
namespace Go.Proofs.YthoamlahbnphkaaGreat
open Go.RowKit Go.Maps Go.Shelf

attribute [local go_sem] Oper.semAt_some

/-- A grammar, wherever it lies. -/
structure GAt (w : World) (ta na la pa : Option Addr) (tc nc lc pc : Nat) (ts : List (ByteArray × Int)) (ns : List ByteArray) (lv : List Int) (n : Nat) (L : Nat → Int) (R : Nat → List Int) (ra : Nat → Option Addr) (rc : Nat → Nat) (V : Nat → Int) : Prop where
  terms : TermsAt w ta ts
  nons : StrsAt w na ns
  levels : IntsAt w la lv
  prods : ProdsAt w pa n L R ra rc V
  tcap : ts.length ≤ tc
  ncap : ns.length ≤ nc
  pcap : n ≤ pc
  nnil : na = none → ns.length = 0 ∧ nc = 0
  pnil : pa = none → n = 0 ∧ pc = 0
  tlen : ts.length ≤ 17592186044416
  nlen : ns.length ≤ 17592186044416
  llen : lv.length ≤ 17592186044416
  plen : n ≤ 17592186044416

theorem GAt.kept {w w' : World} {ta na la pa : Option Addr} {tc nc lc pc : Nat} {ts : List (ByteArray × Int)} {ns : List ByteArray} {lv : List Int} {n : Nat} {L : Nat → Int} {R : Nat → List Int} {ra : Nat → Option Addr} {rc : Nat → Nat} {V : Nat → Int} (h : GAt w ta na la pa tc nc lc pc ts ns lv n L R ra rc V) (hg : w.grownBy w' none) : GAt w' ta na la pa tc nc lc pc ts ns lv n L R ra rc V := by
  refine ⟨h.terms.kept hg, h.nons.kept hg, h.levels.kept hg, ?_, h.tcap, h.ncap, h.pcap, h.nnil, h.pnil, h.tlen, h.nlen, h.llen, h.plen⟩
  rcases h.prods with h0 | ⟨b, off, ha, hc⟩
  · exact .inl h0
  · exact .inr ⟨b, off, ha, fun k hk => by
      obtain ⟨h1, h2, h3, h4, h5⟩ := hc k hk
      exact ⟨hg.cell h1 (by simp), hg.cell h2 (by simp), hg.cell h3 (by simp), h4.kept hg, h5⟩⟩

/-- All but the order. -/
structure holdsOK (ts : List (ByteArray × Int)) (ns : List ByteArray) (lv : List Int) (st : Int) (n : Nat) (L : Nat → Int) (R : Nat → List Int) (V : Nat → Int) : Prop where
  syms : (ts.length : Int) - 1 + ns.length ≤ 64
  cnt : n ≤ 96
  terms : termsOK ts lv.length
  nons : (∀ s ∈ ns, isNameB s = true) ∧ ns.Nodup
  levels : ∀ j, j < lv.length → levelOK ts lv j
  prods : ∀ i, i < n → prodOK ts.length ns.length lv.length 0 (L i) (R i) (V i)
  lefts : (leftsTo L n).length = ns.length
  start : isNonI ts.length ns.length 0 st

theorem boolOf (p : Prop) : ∃ r : Bool, r = true ↔ p := by
  by_cases h : p
  · exact ⟨true, by simp [h]⟩
  · exact ⟨false, by simp [h]⟩

set_option maxRecDepth 100000 in
set_option maxHeartbeats 1000000 in
theorem holds_zero (ta na la pa : Option Addr) (tc nc lc pc : Nat) (ts : List (ByteArray × Int)) (ns : List ByteArray) (lv : List Int) (n : Nat) (L : Nat → Int) (R : Nat → List Int) (ra : Nat → Option Addr) (rc : Nat → Nat) (V : Nat → Int) (st : Int) (w : World) (hG : GAt w ta na la pa tc nc lc pc ts ns lv n L R ra rc V) (r : Bool) (hr : r = true ↔ holdsOK ts ns lv st n L R V) :
    Calls Tryz.prog 71 #[.agg #[.slice ta ts.length tc, .slice na ns.length nc, .slice la lv.length lc, .int .i64 st, .slice pa n pc], .int .i64 0] w fun e w' => e = .returned (.bool r) ∧ w.grownBy w' none := by
  have htl := hG.tlen
  have hnl := hG.nlen
  have hpl := hG.plen
  have hnc := hG.ncap
  have hpc := hG.pcap
  have HG : Hid (GAt w ta na la pa tc nc lc pc ts ns lv n L R ra rc V) := hG
  have HRR : Hid (r = true ↔ holdsOK ts ns lv st n L R V) := hr
  have HRF : Hid (¬ holdsOK ts ns lv st n L R V → r = false) := fun hno => Bool.eq_false_iff.2 fun hh => hno (hr.1 hh)
  have HX0 : Hid (∀ q, PhAt w ((w.alloc (.cells #[.slice ta ts.length tc, .slice na ns.length nc, .slice la lv.length lc, .int .i64 st, .slice pa n pc] 27)).drewN q) w.heap.size #[.slice ta ts.length tc, .slice na ns.length nc, .slice la lv.length lc, .int .i64 st, .slice pa n pc]) := fun q => (PhAt.mk (World.grownBy_alloc _ _ none) (heap_alloc_last w _)).kept (grown_drewN _ q)
  have hsn : ∀ W, (Instr.slice 23 (.slice na ns.length nc) (some (.int .i64 0)) none none).run Tryz.prog W = .ok (.slice na ns.length nc) W := fun W => by
    cases na with
    | none => obtain ⟨h1, h2⟩ := hG.nnil rfl; rw [h1, h2]; kernel_rfl
    | some x => go_simp
  have hsp : ∀ W, (Instr.slice 25 (.slice pa n pc) (some (.int .i64 0)) none none).run Tryz.prog W = .ok (.slice pa n pc) W := fun W => by
    cases pa with
    | none => obtain ⟨h1, h2⟩ := hG.pnil rfl; rw [h1, h2]; kernel_rfl
    | some x => go_simp
  obtain ⟨tn, htn⟩ : ∃ tn, tn = ts.length := ⟨_, rfl⟩
  obtain ⟨nn, hnn⟩ : ∃ nn, nn = ns.length := ⟨_, rfl⟩
  obtain ⟨ln, hln⟩ : ∃ ln, ln = lv.length := ⟨_, rfl⟩
  have HTN : Hid (ts.length = tn ∧ ns.length = nn ∧ lv.length = ln) := ⟨htn.symm, hnn.symm, hln.symm⟩
  rw [← htn] at htl HX0 ⊢
  rw [← hnn] at hnl hnc hsn HX0 ⊢
  rw [← hln] at HX0 ⊢
  clear hG hr htn hnn hln
  go_enter Tryz.func71, Tryz.ntmps71
  go_wp2_with fail
  go_quiet (fail)
  have HX := HX0.out nq
  generalize (w.alloc (.cells #[.slice ta tn tc, .slice na nn nc, .slice la ln lc, .int .i64 st, .slice pa n pc] 27)).drewN nq = W at *
  have HXH : Hid (PhAt w W w.heap.size #[.slice ta tn tc, .slice na nn nc, .slice la ln lc, .int .i64 st, .slice pa n pc]) := HX
  obtain ⟨m0, m1, m2, m3, m4⟩ := HX.cells
  clear HX HX0 hsn hsp
  by_cases hlim : 64 < (tn : Int) - 1 + nn
  · have hd : decide (64 < (tn : Int) - 1 + nn) = true := decide_eq_true hlim
    have hf : r = false := HRF.out fun h => by have h1 := h.syms; rw [HTN.out.1, HTN.out.2.1] at h1; omega
    go_wp2_with fail
    go_ret
    exact ⟨by first | rfl | (rw [hf]; rfl), HXH.out.grown⟩
  · have hd : decide (64 < (tn : Int) - 1 + nn) = false := decide_eq_false hlim
    by_cases hlp : 96 < n
    · have hd2 : decide (96 < (n : Int)) = true := decide_eq_true (by omega)
      have hf : r = false := HRF.out fun h => by have h1 := h.cnt; omega
      go_wp2_with fail
      go_ret
      exact ⟨by first | rfl | (rw [hf]; rfl), HXH.out.grown⟩
    · have hd2 : decide (96 < (n : Int)) = false := decide_eq_false (by omega)
      have hnn65 : nn ≤ 65 := by omega
      have htn65 : tn ≤ 65 := by omega
      have hn96 : n ≤ 96 := by omega
      obtain ⟨rT, hrT⟩ := boolOf (termsOK ts ln)
      have HTT : Hid (Calls Tryz.prog 106 #[.agg #[.slice ta tn tc, .slice na nn nc, .slice la ln lc, .int .i64 st, .slice pa n pc]] W fun e w' => e = .returned (.bool rT) ∧ W.grownBy w' none) := by
        have := termsHold_any ta na la pa nn ln n tc nc lc pc st ts W (HG.out.kept HXH.out.grown).terms (by rw [HTN.out.1]; exact htn65) HG.out.tcap rT hrT
        rwa [HTN.out.1] at this
      have HRT : Hid (rT = true ↔ termsOK ts ln) := hrT
      have HLM : Hid (¬ 64 < (tn : Int) - 1 + nn) := hlim
      clear hrT hlim hlp
      cases rT with
      | false =>
        have hf : r = false := HRF.out fun h => by have h1 := h.terms; rw [HTN.out.2.2] at h1; have := HRT.out.2 h1; cases this
        go_wp2_with fail
        refine HTT.out.mono ?_
        rintro e w2 ⟨rfl, hg2⟩
        have HG2 : Hid (w.grownBy w2 none) := grown_trans HXH.out.grown hg2
        clear hg2 m0 m1 m2 m3 m4
        go_wp2_with fail
        go_ret
        exact ⟨by first | rfl | (rw [hf]; rfl), HG2.out⟩
      | true =>
        go_wp2_with fail
        refine HTT.out.mono ?_
        rintro e w2 ⟨rfl, hg2⟩
        have HX2 : Hid (PhAt w w2 w.heap.size #[.slice ta tn tc, .slice na nn nc, .slice la ln lc, .int .i64 st, .slice pa n pc]) := HXH.out.kept hg2
        clear hg2 m0 m1 m2 m3 m4 HTT HXH
        have HNH : Hid (Calls Tryz.prog 107 #[.slice na nn nc] w2 fun e w' => ∃ r, e = .returned (.bool r) ∧ (r = true ↔ (∀ s ∈ ns, isNameB s = true) ∧ ns.Nodup) ∧ w2.grownBy w' none) := by
          have := nonsHold_any na nc ns w2 (HG.out.kept HX2.out.grown).nons (by rw [HTN.out.2.1]; exact hnn65)
          rwa [HTN.out.2.1] at this
        go_wp2_with fail
        refine HNH.out.mono ?_
        rintro e w3 ⟨rN, rfl, hrN, hg3⟩
        have HRN : Hid (rN = true ↔ (∀ s ∈ ns, isNameB s = true) ∧ ns.Nodup) := hrN
        have HX3 : Hid (PhAt w w3 w.heap.size #[.slice ta tn tc, .slice na nn nc, .slice la ln lc, .int .i64 st, .slice pa n pc]) := HX2.out.kept hg3
        clear hrN hg3 HNH HX2
        cases rN with
        | false =>
          have hf : r = false := HRF.out fun h => by have := HRN.out.2 h.nons; cases this
          have HGE : Hid (w.grownBy w3 none) := HX3.out.grown
          clear HX3
          go_wp2_with fail
          go_ret
          exact ⟨by first | rfl | (rw [hf]; rfl), HGE.out⟩
        | true =>
          obtain ⟨rL, hrL⟩ := boolOf (∀ j, j < lv.length → levelOK ts lv j)
          have HLH : Hid (Calls Tryz.prog 108 #[.agg #[.slice ta tn tc, .slice na nn nc, .slice la ln lc, .int .i64 st, .slice pa n pc]] w3 fun e w' => e = .returned (.bool rL) ∧ w3.grownBy w' none) := by
            have := levelsHold_any ta na la pa nn n tc nc lc pc st ts lv w3 (HG.out.kept HX3.out.grown).terms (HG.out.kept HX3.out.grown).levels (by rw [HTN.out.1]; exact htn65) HG.out.llen rL hrL
            rwa [HTN.out.1, HTN.out.2.2] at this
          have HRL : Hid (rL = true ↔ ∀ j, j < lv.length → levelOK ts lv j) := hrL
          clear hrL
          obtain ⟨m0, m1, m2, m3, m4⟩ := HX3.out.cells
          go_wp2_with fail
          refine HLH.out.mono ?_
          rintro e w4 ⟨rfl, hg4⟩
          have HX4 : Hid (PhAt w w4 w.heap.size #[.slice ta tn tc, .slice na nn nc, .slice la ln lc, .int .i64 st, .slice pa n pc]) := HX3.out.kept hg4
          clear hg4 HLH HX3 m0 m1 m2 m3 m4
          cases rL with
          | false =>
            have hf : r = false := HRF.out fun h => by have := HRL.out.2 h.levels; cases this
            have HGE : Hid (w.grownBy w4 none) := HX4.out.grown
            clear HX4
            go_wp2_with fail
            go_ret
            exact ⟨by first | rfl | (rw [hf]; rfl), HGE.out⟩
          | true =>
            obtain ⟨rP, hrP⟩ := boolOf (∀ i, i < n → prodOK tn nn ln 0 (L i) (R i) (V i))
            have HPH : Hid (Calls Tryz.prog 109 #[.agg #[.slice ta tn tc, .slice na nn nc, .slice la ln lc, .int .i64 st, .slice pa n pc], .slice pa n pc, .int .i64 0] w4 fun e w' => e = .returned (.bool rP) ∧ w4.grownBy w' none) :=
              prodsHold_any ta na la pa pa tn nn ln n tc nc lc pc n pc 0 st L R ra rc V w4 (HG.out.kept HX4.out.grown).prods (by omega) (by omega) (by omega) (by omega) rP hrP
            have HRP : Hid (rP = true ↔ ∀ i, i < n → prodOK tn nn ln 0 (L i) (R i) (V i)) := hrP
            clear hrP
            obtain ⟨m0, m1, m2, m3, m4⟩ := HX4.out.cells
            go_wp2_with fail
            refine HPH.out.mono ?_
            rintro e w5 ⟨rfl, hg5⟩
            have HX5 : Hid (PhAt w w5 w.heap.size #[.slice ta tn tc, .slice na nn nc, .slice la ln lc, .int .i64 st, .slice pa n pc]) := HX4.out.kept hg5
            clear hg5 HPH HX4 m0 m1 m2 m3 m4
            cases rP with
            | false =>
              have hf : r = false := HRF.out fun h => by have h1 := h.prods; rw [HTN.out.1, HTN.out.2.1, HTN.out.2.2] at h1; have := HRP.out.2 h1; cases this
              have HGE : Hid (w.grownBy w5 none) := HX5.out.grown
              clear HX5
              go_wp2_with fail
              go_ret
              exact ⟨by first | rfl | (rw [hf]; rfl), HGE.out⟩
            | true =>
              have HLF : Hid (Calls Tryz.prog 110 #[.slice pa n pc] w5 fun e w' => ∃ a' c', e = .returned (.slice a' (leftsTo L n).length c') ∧ w'.ownsRow w5.heap.size 3 1 (.slice a' (leftsTo L n).length c') (leftsTo L n).length ((leftsTo L n).map (Value.int .i64)) ∧ w5.grownBy w' none) := lefts_any pa n pc L R ra rc V w5 (HG.out.kept HX5.out.grown).prods (by omega)
              have hML := leftsTo_le L n
              obtain ⟨M, hM⟩ : ∃ M, M = (leftsTo L n).length := ⟨_, rfl⟩
              have HMM : Hid ((leftsTo L n).length = M) := hM.symm
              rw [← hM] at hML HLF
              clear hM
              go_wp2_with fail
              refine HLF.out.mono ?_
              rintro e w6 ⟨a', c', rfl, _, hg6⟩
              have HX6 : Hid (PhAt w w6 w.heap.size #[.slice ta tn tc, .slice na nn nc, .slice la ln lc, .int .i64 st, .slice pa n pc]) := HX5.out.kept hg6
              clear hg6 HLF HX5
              obtain ⟨m0, m1, m2, m3, m4⟩ := HX6.out.cells
              by_cases hMn : M = nn
              · have hb : ((M : Int) == (nn : Int)) = true := beq_iff_eq.2 (by omega)
                have HMN : Hid (M = nn) := hMn
                have HIN := isNonOf_any ta na la pa tn nn ln n tc nc lc pc 0 st st w6 (by omega) (by omega) (by omega)
                have HFIN : Hid ((decide ((tn : Int) + (0 : Nat) ≤ st) && decide (st < (tn : Int) + nn)) = r) := by
                  show (decide ((tn : Int) + (0 : Nat) ≤ st) && decide (st < (tn : Int) + nn)) = r
                  rw [Bool.eq_iff_iff, HRR.out, Bool.and_eq_true, decide_eq_true_eq, decide_eq_true_eq]
                  obtain ⟨t1, t2, t3⟩ := HTN.out
                  constructor
                  · intro hs
                    exact ⟨by rw [t1, t2]; have := HLM.out; omega, hn96, by rw [t3]; exact HRT.out.1 (by first | rfl | trivial), HRN.out.1 (by first | rfl | trivial), HRL.out.1 (by first | rfl | trivial), by rw [t1, t2, t3]; exact HRP.out.1 (by first | rfl | trivial), by rw [HMM.out, t2]; exact HMN.out, by rw [t1, t2]; exact hs⟩
                  · intro h
                    have h1 := h.start
                    rw [t1, t2] at h1
                    exact h1
                clear hMn
                go_wp2_with fail
                refine HIN.mono ?_
                rintro e w7 ⟨rfl, hg7⟩
                rw [HFIN.out]
                have HGE : Hid (w.grownBy w7 none) := grown_trans HX6.out.grown hg7
                clear hg7 HIN m0 m1 m2 m3 m4
                go_wp2_with fail
                go_ret
                exact ⟨rfl, HGE.out⟩
              · have hb : ((M : Int) == (nn : Int)) = false := beq_eq_false_iff_ne.2 (by omega)
                have hf : r = false := HRF.out fun h => by have h1 := h.lefts; rw [HMM.out, HTN.out.2.1] at h1; exact hMn h1
                have HGE : Hid (w.grownBy w6 none) := HX6.out.grown
                clear hMn HX6
                go_wp2_with fail
                go_ret
                exact ⟨by first | rfl | (rw [hf]; rfl), HGE.out⟩

end Go.Proofs.YthoamlahbnphkaaGreat

namespace Go.Proofs.YthoamlahbnphkaaGreat
open Go.RowKit Go.Maps Go.Shelf

attribute [local go_sem] Oper.semAt_some

theorem inOrder_any (ta na la pa : Option Addr) (tn nn ln tc nc lc pc n : Nat) (st : Int) (L : Nat → Int) (R : Nat → List Int) (ra : Nat → Option Addr) (rc : Nat → Nat) (V : Nat → Int) (w : World) (hP : ∀ W, w.grownBy W none → ProdsAt W pa n L R ra rc V) (hn : n ≤ 96) (r : Bool) (hr : r = true ↔ Asc (leftsTo L n)) :
    Calls Tryz.prog 122 #[.agg #[.slice ta tn tc, .slice na nn nc, .slice la ln lc, .int .i64 st, .slice pa n pc]] w fun e w' => e = .returned (.bool r) ∧ w.grownBy w' none := by
  have HLF : Hid (∀ o, Calls Tryz.prog 110 #[.slice pa n pc] (w.alloc o) fun e w' => ∃ a' c', e = .returned (.slice a' (leftsTo L n).length c') ∧ w'.ownsRow (w.alloc o).heap.size 3 1 (.slice a' (leftsTo L n).length c') (leftsTo L n).length ((leftsTo L n).map (Value.int .i64)) ∧ (w.alloc o).grownBy w' none) := fun o => lefts_any pa n pc L R ra rc V _ (hP _ (World.grownBy_alloc _ _ none)) (by omega)
  have HIS : Hid (∀ W a c B, W.ownsRow B 3 1 (.slice a (leftsTo L n).length c) (leftsTo L n).length ((leftsTo L n).map (Value.int .i64)) → Calls Tryz.prog 150 #[.slice a (leftsTo L n).length c] W fun e w' => e = .returned (.bool r) ∧ W.grownBy w' none) := fun W a c B ho => isSorted_any a c (leftsTo L n) W (owns_intsAt ho rfl) (by have := leftsTo_le L n; omega) r hr
  clear hP hr
  generalize (leftsTo L n).map (Value.int .i64) = xs at *
  generalize (leftsTo L n).length = M at *
  go_enter Tryz.func122, Tryz.ntmps122
  go_wp2_with fail
  refine (HLF.out _).mono ?_
  rintro e w2 ⟨a', c', rfl, ho, hg2⟩
  have his := HIS.out w2 a' c' _ ho
  have HG2 : Hid (w.grownBy w2 none) := grown_trans (World.grownBy_alloc _ _ none) hg2
  clear ho hg2 HIS HLF
  go_wp2_with fail
  refine his.mono ?_
  rintro e w3 ⟨rfl, hg3⟩
  go_wp2_with fail
  go_ret
  exact ⟨rfl, grown_trans HG2.out hg3⟩

def validOK (ts : List (ByteArray × Int)) (ns : List ByteArray) (lv : List Int) (st : Int) (n : Nat) (L : Nat → Int) (R : Nat → List Int) (V : Nat → Int) : Prop := holdsOK ts ns lv st n L R V ∧ Asc (leftsTo L n)

set_option maxRecDepth 100000 in
theorem valid_any (ta na la pa : Option Addr) (tc nc lc pc : Nat) (ts : List (ByteArray × Int)) (ns : List ByteArray) (lv : List Int) (n : Nat) (L : Nat → Int) (R : Nat → List Int) (ra : Nat → Option Addr) (rc : Nat → Nat) (V : Nat → Int) (st : Int) (w : World) (hG : GAt w ta na la pa tc nc lc pc ts ns lv n L R ra rc V) (r : Bool) (hr : r = true ↔ validOK ts ns lv st n L R V) :
    Calls Tryz.prog 99 #[.agg #[.slice ta ts.length tc, .slice na ns.length nc, .slice la lv.length lc, .int .i64 st, .slice pa n pc]] w fun e w' => e = .returned (.bool r) ∧ w.grownBy w' none := by
  have HG : Hid (GAt w ta na la pa tc nc lc pc ts ns lv n L R ra rc V) := hG
  have HRR : Hid (r = true ↔ validOK ts ns lv st n L R V) := hr
  obtain ⟨rH, hrH⟩ := boolOf (holdsOK ts ns lv st n L R V)
  have HRH : Hid (rH = true ↔ holdsOK ts ns lv st n L R V) := hrH
  have HH : Hid (∀ W, w.grownBy W none → Calls Tryz.prog 71 #[.agg #[.slice ta ts.length tc, .slice na ns.length nc, .slice la lv.length lc, .int .i64 st, .slice pa n pc], .int .i64 0] W fun e w' => e = .returned (.bool rH) ∧ W.grownBy w' none) := fun W hW => holds_zero ta na la pa tc nc lc pc ts ns lv n L R ra rc V st W (hG.kept hW) rH hrH
  have HO : Hid (n ≤ 96 → ∀ W r', w.grownBy W none → (r' = true ↔ Asc (leftsTo L n)) → Calls Tryz.prog 122 #[.agg #[.slice ta ts.length tc, .slice na ns.length nc, .slice la lv.length lc, .int .i64 st, .slice pa n pc]] W fun e w' => e = .returned (.bool r') ∧ W.grownBy w' none) := fun h W r' hW hr' => inOrder_any ta na la pa ts.length ns.length lv.length tc nc lc pc n st L R ra rc V W (fun X hX => (hG.kept (grown_trans hW hX)).prods) h r' hr'
  have HX0 : Hid (PhAt w (w.alloc (.cells #[.slice ta ts.length tc, .slice na ns.length nc, .slice la lv.length lc, .int .i64 st, .slice pa n pc] 27)) w.heap.size #[.slice ta ts.length tc, .slice na ns.length nc, .slice la lv.length lc, .int .i64 st, .slice pa n pc]) := ⟨World.grownBy_alloc _ _ none, heap_alloc_last w _⟩
  clear hG hr hrH
  generalize ts.length = tn at *
  generalize ns.length = nn at *
  generalize lv.length = ln at *
  cases rH with
  | false =>
    have hf : r = false := Bool.eq_false_iff.2 fun hh => by have := HRH.out.2 (HRR.out.1 hh).1; cases this
    go_enter Tryz.func99, Tryz.ntmps99
    go_wp2_with fail
    refine (HH.out _ HX0.out.grown).mono ?_
    rintro e w2 ⟨rfl, hg2⟩
    have HG2 : Hid (w.grownBy w2 none) := grown_trans HX0.out.grown hg2
    clear hg2 HX0
    go_wp2_with fail
    go_ret
    exact ⟨by first | rfl | (rw [hf]; rfl), HG2.out⟩
  | true =>
    have HOK := HRH.out.1 rfl
    have HCN : Hid (n ≤ 96) := HOK.cnt
    have HRA : Hid (r = true ↔ Asc (leftsTo L n)) := by
      constructor
      · intro h; exact (HRR.out.1 h).2
      · intro h; exact HRR.out.2 ⟨HOK, h⟩
    clear HOK HRR HRH
    go_enter Tryz.func99, Tryz.ntmps99
    go_wp2_with fail
    refine (HH.out _ HX0.out.grown).mono ?_
    rintro e w2 ⟨rfl, hg2⟩
    have HX2 : Hid (PhAt w w2 w.heap.size #[.slice ta tn tc, .slice na nn nc, .slice la ln lc, .int .i64 st, .slice pa n pc]) := HX0.out.kept hg2
    obtain ⟨m0, m1, m2, m3, m4⟩ := HX2.out.cells
    have ho := HO.out HCN.out w2 r HX2.out.grown HRA.out
    clear hg2 HX0 HO HH
    go_wp2_with fail
    refine ho.mono ?_
    rintro e w3 ⟨rfl, hg3⟩
    go_wp2_with fail
    go_ret
    exact ⟨rfl, grown_trans HX2.out.grown hg3⟩

end Go.Proofs.YthoamlahbnphkaaGreat

/-
  numbered of a builder, walked.
-/
namespace Go.Proofs.YthoamlahbnphkaaGreat
open Go.RowKit Go.Maps Go.Shelf

def updR (R : Nat → List Int) (k : Nat) (l : List Int) : Nat → List Int := fun i => if i = k then l else R i
/-- A handle's symbol, by the symbols' row. -/
def sg (σ : Nat → Int) (h : Int) : Int := if h < 0 then σ (-h).toNat else h
def mapTo (σ : Nat → Int) (j : Nat) (l : List Int) : List Int := (l.take j).map (sg σ) ++ l.drop j

theorem NewProds.congr {w wr : World} {B n : Nat} {v : Value} {L L' : Nat → Int} {R R' : Nat → List Int} {V : Nat → Int} {rg : Nat → Value} (h : NewProds w wr B v n n L R V rg) (h1 : ∀ i, i < n → L i = L' i) (h2 : ∀ i, i < n → R i = R' i) : NewProds w wr B v n n L' R' V rg :=
  ⟨by rw [← prodRow_ext h1 (fun _ _ => rfl) (fun _ _ => rfl)]; exact h.row, fun i hi => by rw [← h2 i hi]; exact h.rights i hi, h.apart, h.disj, h.lo, h.grown⟩

/-- The stage at production k, j of its right side's symbols laid. -/
def LS (σ : Nat → Int) (L : Nat → Int) (k : Nat) : Nat → Int := fun i => if i < k then sg σ (L i) else L i
def RS (σ : Nat → Int) (R : Nat → List Int) (k j : Nat) : Nat → List Int := fun i => if i < k then (R i).map (sg σ) else if i = k then mapTo σ j (R i) else R i

end Go.Proofs.YthoamlahbnphkaaGreat

namespace Go.Proofs.YthoamlahbnphkaaGreat
open Go.RowKit Go.Maps Go.Shelf

attribute [local go_sem] Oper.semAt_some

end Go.Proofs.YthoamlahbnphkaaGreat

/-
  Grammar of a builder: what is told, and the memory that it lies in.
-/
namespace Go.Proofs.YthoamlahbnphkaaGreat
open Go.RowKit Go.Maps Go.Shelf

/-- A grammar as it is told. -/
structure GR where
  terms : List (ByteArray × Int)
  nons : List ByteArray
  levels : List Int
  start : Int
  prods : List PR

/-- A grammar in memory of its own, from block B on. -/
structure GramNew (w : World) (B : Nat) (G : GR) (vt vn vl vp : Value) : Prop where
  terms : w.ownsRow B 88 2 vt G.terms.length (tmsL G.terms)
  nons : w.ownsRow B 9 1 vn G.nons.length (G.nons.map Value.string)
  levels : w.ownsRow B 3 1 vl G.levels.length (G.levels.map (Value.int .i64))
  prods : ∃ rg : Nat → Value, w.ownsRow B 71 3 vp G.prods.length (prodRow G.prods.length (fun i => (G.prods.getD i ⟨0, [], 0⟩).left) rg (fun i => (G.prods.getD i ⟨0, [], 0⟩).level)) ∧
    ∀ i, i < G.prods.length → w.ownsRow B 3 1 (rg i) (G.prods.getD i ⟨0, [], 0⟩).right.length ((G.prods.getD i ⟨0, [], 0⟩).right.map (Value.int .i64))

theorem GramNew.kept {w w' : World} {B : Nat} {G : GR} {vt vn vl vp : Value} (h : GramNew w B G vt vn vl vp) (hg : w.grownBy w' none) : GramNew w' B G vt vn vl vp := by
  obtain ⟨rg, h1, h2⟩ := h.prods
  exact ⟨h.terms.kept hg (by cases hv : vt.ownBlock <;> simp), h.nons.kept hg (by cases hv : vn.ownBlock <;> simp), h.levels.kept hg (by cases hv : vl.ownBlock <;> simp), rg, h1.kept hg (by cases hv : vp.ownBlock <;> simp), fun i hi => (h2 i hi).kept hg (by cases hv : (rg i).ownBlock <;> simp)⟩

def BS.sym (S : BS) (i : Nat) : Int := symOf (S.terms.length + 1) (ordOf S.prods) i
def BS.first (S : BS) : Int := if S.start = 0 then (S.prods.getD 0 ⟨0, [], 0⟩).left else S.start
/-- Is there a grammar to tell? -/
def BS.tells (S : BS) : Bool := decide (0 < S.prods.length) && decide (S.nons.length ≤ (ordOf S.prods).length)
/-- The grammar that is told. -/
def BS.gram (S : BS) : GR :=
  { terms := S.tms S.terms.length, nons := (ordOf S.prods).map (fun i => S.nons.getD (i - 1) ⟨#[]⟩), levels := S.sides, start := S.sym (-S.first).toNat,
    prods := S.prods.map fun p => ⟨sg S.sym p.left, p.right.map (sg S.sym), p.level⟩ }

theorem owns_lower {w : World} {B B' e size n : Nat} {v : Value} {xs : List Value} (h : w.ownsRow B e size v n xs) (hle : B' ≤ B) : w.ownsRow B' e size v n xs := by
  refine ⟨h.1, ?_⟩
  rcases h.2 with h' | ⟨g, cap, cur, hv, hb, rest⟩
  · exact .inl h'
  · exact .inr ⟨g, cap, cur, hv, Nat.le_trans hle hb, rest⟩

end Go.Proofs.YthoamlahbnphkaaGreat

/-
  Grammar of a builder, walked.
-/
namespace Go.Proofs.YthoamlahbnphkaaGreat
open Go.RowKit Go.Maps Go.Shelf

attribute [local go_sem] Oper.semAt_some

/-- The zero grammar's cells. -/
def zeroGC : Array Value := #[.slice none 0 0, .slice none 0 0, .slice none 0 0, .int .i64 0, .slice none 0 0]

end Go.Proofs.YthoamlahbnphkaaGreat

/-
  Grammar of a builder, where there is one to tell.
-/
namespace Go.Proofs.YthoamlahbnphkaaGreat
open Go.RowKit Go.Maps Go.Shelf

attribute [local go_sem] Oper.semAt_some

/-- The told productions, in their own memory. -/
structure PNew (W : World) (B : Nat) (v : Value) (S : BS) (rg : Nat → Value) : Prop where
  row : W.ownsRow B 71 3 v S.prods.length (prodRow S.prods.length (fun i => sg S.sym (S.prods.getD i ⟨0, [], 0⟩).left) rg (fun i => (S.prods.getD i ⟨0, [], 0⟩).level))
  rights : ∀ i, i < S.prods.length → W.ownsRow B 3 1 (rg i) ((S.prods.getD i ⟨0, [], 0⟩).right.map (sg S.sym)).length (((S.prods.getD i ⟨0, [], 0⟩).right.map (sg S.sym)).map (Value.int .i64))
end Go.Proofs.YthoamlahbnphkaaGreat

/-
  A told grammar, as Valid takes it.
-/
namespace Go.Proofs.YthoamlahbnphkaaGreat
open Go.RowKit Go.Maps Go.Shelf

attribute [local go_sem] Oper.semAt_some

set_option maxRecDepth 100000 in
set_option maxHeartbeats 400000 in
theorem hasAdded_no (b off : Nat) (ta la pa : Option Addr) (tn nn ln pn tc nc lc pc : Nat) (st : Int) (s : ByteArray) (w : World) (hc : w.cell? ⟨b, off, none⟩ = some (.string s)) (h0 : 0 < nn) (hs : 0 < s.size) :
    Calls Tryz.prog 70 #[.agg #[.slice ta tn tc, .slice (some ⟨b, off, none⟩) nn nc, .slice la ln lc, .int .i64 st, .slice pa pn pc]] w fun e w' => e = .returned (.bool false) ∧ w.grownBy w' none := by
  have hc' : ∀ o, (w.alloc o).cell? ⟨b, off, none⟩ = some (.string s) := fun o => (World.grownBy_alloc w o none).cell hc (by simp)
  have hc2 : ∀ o, (w.alloc o).drew.cell? ⟨b, off, none⟩ = some (.string s) := fun o => hc' o
  have hd : decide (0 < (nn : Int)) = true := decide_eq_true (by omega)
  have hd' : decide (0 < nn) = true := decide_eq_true h0
  have hne : (s.toList == (ByteArray.mk #[]).toList) = false := by
    rw [Bool.eq_false_iff]
    intro h
    have := (toList_empty s).1 (by simpa using h)
    rw [this] at hs
    simp [ByteArray.size] at hs
  have hne2 : s.toList.isEmpty = false := by
    cases h : s.toList with
    | nil =>
      rw [ByteArray.toList_eq] at h
      have : s.size = 0 := by show s.data.size = 0; rw [← Array.length_toList, h]; rfl
      omega
    | cons x r => rfl
  clear hc hs
  go_enter Tryz.func70, Tryz.ntmps70
  go_wp2_with fail
  go_quiet (fail)
  go_wp2
  go_ret
  exact ⟨by first | rfl | simp, grown_trans (World.grownBy_alloc _ _ none) (grown_drewN _ _)⟩

end Go.Proofs.YthoamlahbnphkaaGreat

namespace Go.Proofs.YthoamlahbnphkaaGreat
open Go.RowKit Go.Maps Go.Shelf

theorem owns_bounds {w : World} {B e s n c : Nat} {a : Option Addr} {xs : List Value} (h : w.ownsRow B e s (.slice a n c) n xs) : n ≤ c ∧ (a = none → n = 0 ∧ c = 0) := by
  rcases h.2 with ⟨hv, h0⟩ | ⟨g, cap, cur, hv, _, _, hle, _⟩
  · simp at hv
    obtain ⟨rfl, rfl, rfl⟩ := hv
    exact ⟨Nat.le_refl _, fun _ => ⟨rfl, rfl⟩⟩
  · simp at hv
    obtain ⟨rfl, rfl⟩ := hv
    exact ⟨hle, fun h => by cases h⟩

end Go.Proofs.YthoamlahbnphkaaGreat

/-
  Level, walked.
-/
namespace Go.Proofs.YthoamlahbnphkaaGreat
open Go.RowKit

attribute [local go_sem] Oper.semAt_some

end Go.Proofs.YthoamlahbnphkaaGreat

namespace Go.Proofs.YthoamlahbnphkaaGreat
open Go.RowKit

theorem nodup_short {α : Type} [DecidableEq α] : ∀ (l m : List α), l.Nodup → (∀ x ∈ l, x ∈ m) → l.length ≤ m.length
  | [], _, _, _ => Nat.zero_le _
  | a :: l, m, hn, hs => by
    rw [List.nodup_cons] at hn
    have ha := hs a (by simp)
    have h := nodup_short l (m.erase a) hn.2 (fun x hx => (List.mem_erase_of_ne (fun e => hn.1 (by rw [← e]; exact hx))).2 (hs x (by simp [hx])))
    rw [List.length_erase_of_mem ha] at h
    have : 0 < m.length := List.length_pos_of_mem ha
    simp only [List.length_cons]
    omega

def updL (f : Nat → Int) (i : Nat) (z : Int) : Nat → Int := fun j => if j = i then z else f j
/-- The terminals' levels, once a level is told of these; none: it is refused. -/
def levGo (S : BS) (L : Int) : (Nat → Int) → List Int → Option (Nat → Int)
  | lev, [] => some lev
  | lev, h :: r => if S.isT h = true ∧ lev h.toNat = 0 then levGo S L (updL lev h.toNat L) r else none
def BS.addL (S : BS) (lev : Nat → Int) (side : Int) : BS := { S with lev := lev, sides := S.sides ++ [side] }
def BS.level (S : BS) (side : Int) (terms : List Int) : Int × Int × BS :=
  if (1 ≤ side ∧ side ≤ 3) ∧ terms ≠ [] then
    match levGo S (S.sides.length + 1) S.lev terms with
    | some lev => (S.sides.length + 1, 0, S.addL lev side)
    | none => (0, 1, S)
  else (0, 1, S)

theorem isT_iff {S : BS} {h : Int} : S.isT h = true ↔ 0 < h ∧ h ≤ S.terms.length := by simp [BS.isT]
/-- What it leaves and what it turns. -/
theorem levGo_keeps {S : BS} {L : Int} (hL : L ≠ 0) : ∀ (terms : List Int) (lev lev' : Nat → Int), levGo S L lev terms = some lev' →
    (∀ i, lev i ≠ 0 → lev' i = lev i) ∧ (∀ i, lev' i = lev i ∨ (lev' i = L ∧ 1 ≤ i ∧ i ≤ S.terms.length)) ∧ (terms ≠ [] → ∃ i, 1 ≤ i ∧ i ≤ S.terms.length ∧ lev' i = L)
  | [], lev, lev', h => by
    cases h
    exact ⟨fun _ _ => rfl, fun _ => .inl rfl, fun h => absurd rfl h⟩
  | a :: r, lev, lev', h => by
    unfold levGo at h
    split at h
    · next hc =>
      obtain ⟨h1, h2⟩ := hc
      obtain ⟨t1, t2⟩ := isT_iff.1 h1
      obtain ⟨k1, k2, _⟩ := levGo_keeps hL r _ _ h
      have hat : lev' a.toNat = L := by
        rw [k1 a.toNat (by simp [updL, hL])]
        simp [updL]
      refine ⟨fun i hi => ?_, fun i => ?_, fun _ => ⟨a.toNat, by omega, by omega, hat⟩⟩
      · have hne : i ≠ a.toNat := fun e => hi (by rw [e]; exact h2)
        have hu : updL lev a.toNat L i = lev i := by simp [updL, hne]
        rw [k1 i (by rw [hu]; exact hi), hu]
      · by_cases e : i = a.toNat
        · right
          rw [e]
          exact ⟨hat, by omega, by omega⟩
        · have hu : updL lev a.toNat L i = lev i := by simp [updL, e]
          rcases k2 i with h3 | h3
          · left; rw [h3, hu]
          · exact .inr h3
    · cases h

theorem levels_le {S : BS} {lev : Nat → Int} {n : Nat} (has : ∀ i, i < n → ∃ h, 1 ≤ h ∧ h ≤ S.terms.length ∧ lev h = (i : Int) + 1) : n ≤ S.terms.length := by
  have hnd : ((List.range n).map fun i : Nat => (i : Int) + 1).Nodup := by
    rw [List.nodup_iff_pairwise_ne, List.pairwise_map]
    exact (List.nodup_range (n := n)).imp (fun h e => h (by omega))
  have h := nodup_short ((List.range n).map fun i : Nat => (i : Int) + 1) ((List.range S.terms.length).map fun j => lev (j + 1)) hnd (fun x hx => by
    obtain ⟨i, hi, rfl⟩ := List.mem_map.1 hx
    obtain ⟨h, h1, h2, h3⟩ := has i (List.mem_range.1 hi)
    exact List.mem_map.2 ⟨h - 1, List.mem_range.2 (by omega), by rw [show h - 1 + 1 = h by omega]; exact h3⟩)
  simpa using h

theorem BS.OK.addL {S : BS} (h : S.OK) {side : Int} {terms : List Int} {lev : Nat → Int} (hs : 1 ≤ side ∧ side ≤ 3) (ht : terms ≠ []) (hl : levGo S (S.sides.length + 1) S.lev terms = some lev) : (S.addL lev side).OK := by
  obtain ⟨k1, k2, k3⟩ := levGo_keeps (by omega) terms S.lev lev hl
  have hlen : (S.sides ++ [side]).length = S.sides.length + 1 := by simp
  have hhas : ∀ i, i < (S.sides ++ [side]).length → ∃ h, 1 ≤ h ∧ h ≤ S.terms.length ∧ lev h = (i : Int) + 1 := fun i hi => by
    rw [hlen] at hi
    by_cases e : i = S.sides.length
    · obtain ⟨j, j1, j2, j3⟩ := k3 ht
      exact ⟨j, j1, j2, by rw [j3, e]⟩
    · obtain ⟨j, j1, j2, j3⟩ := h.has i (by omega)
      exact ⟨j, j1, j2, by rw [k1 j (by rw [j3]; omega), j3]⟩
  have hle := levels_le hhas
  have hsy := h.syms
  refine { syms := h.syms, tnames := h.tnames, nnames := h.nnames, tnd := h.tnd, nnd := h.nnd, sides := by show (S.sides ++ [side]).length ≤ 64; omega, sdv := ?_, prods := h.prods, lev := ?_, lev0 := ?_, levT := ?_, has := hhas, pl := h.pl, pr := h.pr, plen := h.plen, pv := ?_, st := h.st }
  · intro x hx
    rcases List.mem_append.1 (show x ∈ S.sides ++ [side] from hx) with hx | hx
    · exact h.sdv x hx
    · rw [List.mem_singleton.1 hx]; exact hs
  · intro i
    show 0 ≤ lev i ∧ lev i ≤ ((S.sides ++ [side]).length : Int)
    have hi := h.lev i
    rw [hlen]
    rcases k2 i with e | ⟨e, _, _⟩
    · rw [e]; omega
    · rw [e]; omega
  · show lev 0 = 0
    rcases k2 0 with e | ⟨_, e, _⟩
    · rw [e]; exact h.lev0
    · omega
  · intro j hj
    show lev j = 0
    rcases k2 j with e | ⟨_, _, e⟩
    · rw [e]; exact h.levT j hj
    · have hj' : S.terms.length < j := hj
      omega
  · intro p hp
    have := h.pv p hp
    show 0 ≤ p.level ∧ p.level ≤ ((S.sides ++ [side]).length : Int)
    rw [hlen]
    omega
theorem BS.OK.level {S : BS} (h : S.OK) (side : Int) (terms : List Int) : (S.level side terms).2.2.OK := by
  unfold BS.level
  split
  · next hc =>
    split
    · next lev hl => exact h.addL hc.1 hc.2 hl
    · exact h
  · exact h

end Go.Proofs.YthoamlahbnphkaaGreat

namespace Go.Proofs.YthoamlahbnphkaaGreat
open Go.RowKit

attribute [local go_sem] Oper.semAt_some

/-- A row of the terminals' levels. -/
def IsLev (A : Array Value) (f : Nat → Int) : Prop := A.size = 65 ∧ ∀ i, i < 65 → A[i]? = some (.int .i64 (f i))
def levRow (f : Nat → Int) : List Value := (List.range 65).map fun i => .int .i64 (f i)
theorem IsLev.set {A : Array Value} {f : Nat → Int} (h : IsLev A f) (m : Nat) (L : Int) : IsLev (A.setIfInBounds m (.int .i64 L)) (updL f m L) := by
  refine ⟨by simp [h.1], fun i hi => ?_⟩
  by_cases e : i = m
  · subst e
    simp [updL, h.1, hi]
  · rw [Array.getElem?_setIfInBounds_ne (fun x => e x.symm), h.2 i hi]
    simp [updL, e]
def putL (c : Nat → Value) (o : Nat) (vs : List Value) : Nat → Value := fun i => if o ≤ i ∧ i < o + vs.length then vs.getD (i - o) undef else c i
end Go.Proofs.YthoamlahbnphkaaGreat

/-
  Grade, walked.
-/
namespace Go.Proofs.YthoamlahbnphkaaGreat
open Go.RowKit

def setLev (ps : List PR) (i : Nat) (l : Int) : List PR := ps.set i { ps.getD i ⟨0, [], 0⟩ with level := l }
def gradeGo (l : Int) : List PR → List Int → Option (List PR)
  | ps, [] => some ps
  | ps, h :: r => if 0 ≤ h ∧ h < ps.length then gradeGo l (setLev ps h.toNat l) r else none
def BS.grade (S : BS) (l : Int) (hs : List Int) : Int × BS :=
  if 0 ≤ l ∧ l ≤ S.sides.length then
    match gradeGo l S.prods hs with
    | some ps => (0, { S with prods := ps })
    | none => (1, S)
  else (1, S)
/-- As it was, but for its level. -/
def Graded (l : Int) (ps ps' : List PR) : Prop := ps'.length = ps.length ∧ ∀ i, i < ps.length → (ps'.getD i ⟨0, [], 0⟩).left = (ps.getD i ⟨0, [], 0⟩).left ∧ (ps'.getD i ⟨0, [], 0⟩).right = (ps.getD i ⟨0, [], 0⟩).right ∧ ((ps'.getD i ⟨0, [], 0⟩).level = (ps.getD i ⟨0, [], 0⟩).level ∨ (ps'.getD i ⟨0, [], 0⟩).level = l)
theorem Graded.refl (l : Int) (ps : List PR) : Graded l ps ps := ⟨rfl, fun _ _ => ⟨rfl, rfl, .inl rfl⟩⟩
theorem Graded.set {l : Int} {ps ps' : List PR} (h : Graded l ps ps') {k : Nat} (hk : k < ps.length) : Graded l ps (setLev ps' k l) := by
  refine ⟨by simp [setLev, h.1], fun i hi => ?_⟩
  obtain ⟨h1, h2, h3⟩ := h.2 i hi
  have hi' : i < ps'.length := by rw [h.1]; exact hi
  by_cases e : i = k
  · subst e
    have : (setLev ps' i l).getD i ⟨0, [], 0⟩ = { ps'.getD i ⟨0, [], 0⟩ with level := l } := by simp [setLev, List.getD, hi']
    rw [this]
    exact ⟨h1, h2, .inr rfl⟩
  · have : (setLev ps' k l).getD i ⟨0, [], 0⟩ = ps'.getD i ⟨0, [], 0⟩ := by simp [setLev, List.getD, show ¬ k = i from fun x => e x.symm]
    rw [this]
    exact ⟨h1, h2, h3⟩
theorem Graded.mem {l : Int} {ps ps' : List PR} (h : Graded l ps ps') {p : PR} (hp : p ∈ ps') : ∃ q ∈ ps, p.left = q.left ∧ p.right = q.right ∧ (p.level = q.level ∨ p.level = l) := by
  obtain ⟨i, hi, rfl⟩ := List.getElem_of_mem hp
  have hi' : i < ps.length := by rw [← h.1]; exact hi
  have := h.2 i hi'
  rw [show ps'.getD i ⟨0, [], 0⟩ = ps'[i] by simp [List.getD, hi], show ps.getD i ⟨0, [], 0⟩ = ps[i] by simp [List.getD, hi']] at this
  exact ⟨ps[i], List.getElem_mem hi', this⟩
end Go.Proofs.YthoamlahbnphkaaGreat

namespace Go.Proofs.YthoamlahbnphkaaGreat
open Go.RowKit

attribute [local go_sem] Oper.semAt_some

end Go.Proofs.YthoamlahbnphkaaGreat

/-
  The document's builder in memory: four lists of its own and the start symbol; what its steps leave.
-/
namespace Go.Proofs.YthoamlahbnphkaaGreat
open Go.RowKit

theorem owns_ne {w : World} {B B' e e' s s' n n' : Nat} {v v' : Value} {xs xs' : List Value} (h : w.ownsRow B e s v n xs) (h' : w.ownsRow B' e' s' v' n' xs') (he : e ≠ e') : v.ownBlock = none ∨ v.ownBlock ≠ v'.ownBlock := by
  rcases h.2 with ⟨rfl, _⟩ | ⟨g, cap, cur, rfl, _, hg, _⟩
  · exact .inl rfl
  · right
    intro hh
    rcases h'.2 with ⟨rfl, _⟩ | ⟨g', cap', cur', rfl, _, hg', _⟩
    · cases hh
    · have : g = g' := by simpa [Value.ownBlock] using hh
      rw [this, hg'] at hg
      simp at hg
      exact he hg.2.symm
theorem owns_nebox {w : World} {B e e' s n r : Nat} {v : Value} {xs : List Value} {cs : Array Value} (h : w.ownsRow B e s v n xs) (hr : w.heap[r]? = some (.cells cs e' (0, 0))) (he : e ≠ e') : v.ownBlock = none ∨ v.ownBlock ≠ some r := by
  rcases h.2 with ⟨rfl, _⟩ | ⟨g, cap, cur, rfl, _, hg, _⟩
  · exact .inl rfl
  · right
    intro hh
    have : g = r := by simpa [Value.ownBlock] using hh
    rw [this, hr] at hg
    simp at hg
    exact he hg.2.symm

/-- The terminals with their levels. -/
def rts (S : BS) : List (ByteArray × Int) := (List.range S.terms.length).map fun j => (S.terms.getD j ⟨#[]⟩, S.lev (j + 1))
theorem none_ne {o row : Option Nat} (h : row = none) : o = none ∨ o ≠ row := by
  cases o with
  | none => exact .inl rfl
  | some g => right; rw [h]; simp
end Go.Proofs.YthoamlahbnphkaaGreat
