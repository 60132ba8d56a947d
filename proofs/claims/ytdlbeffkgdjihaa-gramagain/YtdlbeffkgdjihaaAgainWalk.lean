/-
  GramAgain, walked.
-/
import Derived.Test.YtdlbeffkgdjihaaAgainLevels
import Derived.Test.YtdlbeffkgdjihaaAwakeWalk
import Derived.Test.YtdlbeffkgdjihaaGradeWalk
import Derived.Test.YtdlbeffkgdjihaaSameAny
namespace Go.Proofs.Ytdlbeffkgdjihaa
open Go.RowKit Go.Maps Go.Shelf

attribute [local go_sem] Oper.semAt_some

theorem ProdsAt.congr {w : World} {a : Option Addr} {n : Nat} {L L' : Nat → Int} {R R' : Nat → List Int} {ra : Nat → Option Addr} {rc : Nat → Nat} {V V' : Nat → Int} (h : ProdsAt w a n L R ra rc V) (he : ∀ i, i < n → L i = L' i ∧ R i = R' i ∧ V i = V' i) : ProdsAt w a n L' R' ra rc V' := by
  rcases h with h | ⟨b, off, e, hc⟩
  · exact .inl h
  · refine .inr ⟨b, off, e, fun k hk => ?_⟩
    obtain ⟨e1, e2, e3⟩ := he k hk
    rw [← e1, ← e2, ← e3]
    exact hc k hk
theorem LvAt.of {X wr : World} {B : Nat} {cs : Array Value} {S : BS} (hb : X.heap[B]? = some (.cells cs 42 (0, 0))) (hg : X.grownBy wr none) (hB : BAt wr X.heap.size S) : LvAt X wr B cs S :=
  ⟨hg, (hg.block B (Array.getElem?_eq_some_iff.1 hb).1 (by simp)).trans hb, Nat.ne_of_lt (Array.getElem?_eq_some_iff.1 hb).1, hB⟩

section
variable {ts : List (ByteArray × Int)} {ns : List ByteArray} {lv : List Int} {st : Int} {n : Nat} {L : Nat → Int} {R : Nat → List Int} {V : Nat → Int}

theorem at_term' (h : holdsOK ts ns lv st n L R V) {k : Nat} (h1 : 1 ≤ k) (hk : k < ts.length) : (AT ts (k - 1)).term (ts.getD k (⟨#[]⟩, 0)).1 = ((k : Int), 0, AT ts k) := by
  obtain ⟨m, rfl⟩ : ∃ m, k = m + 1 := ⟨k - 1, by omega⟩
  have := at_term h hk
  rw [Nat.add_sub_cancel, this]
  simp

/-- What Grammar tells in the end. -/
theorem told_again (hV : validOK ts ns lv st n L R V) (hlen : ∀ i, i < n → (R i).length ≤ 17592186044416) (b : Nat) (W : World) (hB : BAt W b (AF ts ns lv L R V n st)) :
    Calls Try.prog 27 #[.pointer (some ⟨b, 0, none⟩)] W fun e w' => ∃ ta na la pa tc nc lc pc ra rc, e = .returned (.tuple #[.agg #[.slice ta ts.length tc, .slice na ns.length nc, .slice la lv.length lc, .int .i64 st, .slice pa n pc], .int .i64 0]) ∧ GAt w' ta na la pa tc nc lc pc ts ns lv n L R ra rc V ∧ W.grownBy w' none := by
  obtain ⟨t1, t2⟩ := af_tells hV
  refine (grammar_told b (AF ts ns lv L R V n st) W hB t1 t2).mono ?_
  rintro e w' ⟨vt, vn, vl, vp, rfl, hg, hgr⟩
  obtain ⟨ta, tc, rfl⟩ := owns_slice hg.terms
  obtain ⟨na, nc, rfl⟩ := owns_slice hg.nons
  obtain ⟨la, lc, rfl⟩ := owns_slice hg.levels
  obtain ⟨pa, pc, rfl⟩ : ∃ pa pc, vp = .slice pa (AF ts ns lv L R V n st).gram.prods.length pc := by obtain ⟨rg, h1, _⟩ := hg.prods; exact owns_slice h1
  have e1 := af_terms (st := st) hV.1
  have e2 := af_nons hV
  have e3 : (AF ts ns lv L R V n st).gram.levels = lv := rfl
  have e4 := af_start hV
  have e5 : (AF ts ns lv L R V n st).gram.prods.length = n := af_plen
  have hsy := hV.1.syms
  have hct := hV.1.cnt
  have ht := (termsOK_idx _ _).1 hV.1.terms
  have hfew := levels_few ht.1.1 ht.1.2 hV.1.levels
  obtain ⟨ra, rc, hG⟩ := hg.gat (by rw [e1]; omega) (by rw [e2]; omega) (by rw [e3]; omega) (by rw [e5]; omega) (fun i hi => by
    rw [e5] at hi
    rw [af_prods hV hi]
    exact hlen i hi)
  rw [e1, e2, e3, e5] at hG
  refine ⟨ta, na, la, pa, tc, nc, lc, pc, ra, rc, ?_, ?_, hgr⟩
  · rw [e1, e2, e3, e4, e5]
  · have hp := hG.prods.congr (L' := L) (R' := R) (V' := V) (fun i hi => by rw [af_prods hV hi]; exact ⟨rfl, rfl, rfl⟩)
    exact ⟨hG.terms, hG.nons, hG.levels, hp, hG.tcap, hG.ncap, hG.pcap, hG.nnil, hG.pnil, hG.tlen, hG.nlen, hG.llen, hG.plen⟩

theorem start_again (hV : validOK ts ns lv st n L R V) (b : Nat) (W : World) (hB : BAt W b (AP ts ns lv L R V n)) :
    Calls Try.prog 26 #[.pointer (some ⟨b, 0, none⟩), .int .i64 (hdl ts.length st)] W fun e w' => e = .returned (.int .i64 0) ∧ BAt w' b (AF ts ns lv L R V n st) ∧ W.grownBy w' (some b) := by
  have h := start_at b _ (hdl ts.length st) W hB
  have e : (AP ts ns lv L R V n).isN (hdl ts.length st) = true := hdl_isN rfl hV.1.start
  rw [e] at h
  exact h
theorem rule_again (hH : holdsOK ts ns lv st n L R V) {k : Nat} (hk : k < n) (b : Nat) (W : World) (hB : BAt W b (AP ts ns lv L R V k)) (a : Option Addr) (cap : Nat) (hl : IntsAt W a ((R k).map (hdl ts.length))) (hnil : a = none → cap = 0) (hlen : (R k).length ≤ 17592186044416) :
    Calls Try.prog 24 #[.pointer (some ⟨b, 0, none⟩), .int .i64 (hdl ts.length (L k)), .slice a (R k).length cap] W fun e w' => e = .returned (.tuple #[.int .i64 k, .int .i64 0]) ∧ W.grownBy w' (some b) ∧ ∃ S', BAt w' b S' ∧ S'.grade (V k) [(k : Int)] = (0, AP ts ns lv L R V (k + 1)) := by
  obtain ⟨S', h1, h2⟩ := ap_rule hH hk
  have h := rule_any b _ (hdl ts.length (L k)) a cap ((R k).map (hdl ts.length)) W hB hl hnil (by simpa using hlen)
  rw [h1] at h
  rw [List.length_map] at h
  exact h.mono fun e w' ⟨he, hb, hg⟩ => ⟨he, hg, S', hb, h2⟩
theorem grade_again {k : Nat} (b g : Nat) (W : World) (S' : BS) (hB : BAt W b S') (hS : S'.grade (V k) [(k : Int)] = (0, AP ts ns lv L R V (k + 1))) (hc : W.cell? ⟨g, 0, none⟩ = some (.int .i64 k)) :
    Calls Try.prog 25 #[.pointer (some ⟨b, 0, none⟩), .int .i64 (V k), .slice (some ⟨g, 0, none⟩) 1 1] W fun e w' => e = .returned (.int .i64 0) ∧ BAt w' b (AP ts ns lv L R V (k + 1)) ∧ W.grownBy w' (some b) := by
  have h := grade_any b S' (V k) (some ⟨g, 0, none⟩) 1 [(k : Int)] W hB (.inr ⟨g, 0, rfl, fun i hi => by
    have : i = 0 := by simpa using hi
    subst this
    exact hc⟩) (by simp)
  rw [hS] at h
  exact h
end

set_option maxRecDepth 100000 in
set_option maxHeartbeats 8000000 in
theorem again_any (ta na la pa : Option Addr) (tn nn ln tc nc lc pc : Nat) (st : Int) (ts : List (ByteArray × Int)) (ns : List ByteArray) (lv : List Int) (n : Nat) (L : Nat → Int) (R : Nat → List Int) (ra : Nat → Option Addr) (rc : Nat → Nat) (V : Nat → Int) (w : World)
    (hG : GAt w ta na la pa tc nc lc pc ts ns lv n L R ra rc V) (hts : ∀ t ∈ ts, t.1.size ≤ 140737488355328) (hns : ∀ s ∈ ns, s.size ≤ 140737488355328) (hlens : ts.length = tn ∧ ns.length = nn ∧ lv.length = ln) :
    Calls Try.prog 5 #[.agg #[.slice ta tn tc, .slice na nn nc, .slice la ln lc, .int .i64 st, .slice pa n pc]] w fun e w' => e = .returned (.bool true) ∧ w.grownBy w' none := by
  obtain ⟨i0, hi, hz0, hz1, hz2⟩ := info_parts infoInt
  have E23 : Hid (∀ args w, (callFunc 23 args).run Try.prog w = .ok (.enter 23 args) w) := enters_of Try.func23 (by kernel_rfl) rfl
  obtain ⟨rV, hrV⟩ := boolOf (validOK ts ns lv st n L R V)
  have HG : Hid (GAt w ta na la pa tc nc lc pc ts ns lv n L R ra rc V) := hG
  have HLS : Hid (ts.length = tn ∧ ns.length = nn ∧ lv.length = ln) := hlens
  have KV : Hid (∀ W, w.grownBy W none → Calls Try.prog 18 #[.agg #[.slice ta tn tc, .slice na nn nc, .slice la ln lc, .int .i64 st, .slice pa n pc]] W fun e w' => e = .returned (.bool rV) ∧ W.grownBy w' none) := fun W hg => by
    have := rvalid_any ta na la pa tc nc lc pc st ts ns lv n L R ra rc V W (hG.kept hg) hts hns rV hrV
    rwa [hlens.1, hlens.2.1, hlens.2.2] at this
  have HRV : Hid (rV = true ↔ validOK ts ns lv st n L R V) := hrV
  have HX0 : Hid (PhAt w (w.alloc (.cells #[.slice ta tn tc, .slice na nn nc, .slice la ln lc, .int .i64 st, .slice pa n pc] 42)) w.heap.size #[.slice ta tn tc, .slice na nn nc, .slice la ln lc, .int .i64 st, .slice pa n pc]) := ⟨World.grownBy_alloc _ _ none, heap_alloc_last w _⟩
  clear hG hts hns hlens hrV
  go_enter Try.func5, Try.ntmps5
  go_wp2_with fail
  refine (awake_any _).mono ?_
  rintro e w1 ⟨rfl, hg1⟩
  have HX1 : Hid (PhAt w w1 w.heap.size #[.slice ta tn tc, .slice na nn nc, .slice la ln lc, .int .i64 st, .slice pa n pc]) := HX0.out.kept hg1
  clear hg1 HX0
  obtain ⟨m0, m1, m2, m3, m4⟩ := HX1.out.cells
  go_wp2_with fail
  refine (KV.out _ HX1.out.grown).mono ?_
  rintro e w2 ⟨rfl, hg2⟩
  have HX2 : Hid (PhAt w w2 w.heap.size #[.slice ta tn tc, .slice na nn nc, .slice la ln lc, .int .i64 st, .slice pa n pc]) := HX1.out.kept hg2
  clear hg2 HX1 KV m0 m1 m2 m3 m4
  cases rV with
  | false =>
    go_wp2_with fail
    go_ret
    exact ⟨rfl, HX2.out.grown⟩
  | true =>
    have HV : Hid (validOK ts ns lv st n L R V) := HRV.out.1 rfl
    clear HRV
    go_wp2_with fail
    refine (new_any w2).mono ?_
    rintro e w3 ⟨rfl, hB3, hg3⟩
    have HL3 : Hid (LvAt w2 w3 w.heap.size #[.slice ta tn tc, .slice na nn nc, .slice la ln lc, .int .i64 st, .slice pa n pc] (AT ts (1 - 1))) := LvAt.of HX2.out.box hg3 (by rw [Nat.sub_self, at_zero]; exact hB3)
    have HGX : Hid (GAt w2 ta na la pa tc nc lc pc ts ns lv n L R ra rc V) := HG.out.kept HX2.out.grown
    have HWX : Hid (w.grownBy w2 none) := HX2.out.grown
    have HBX : Hid (w2.heap[w.heap.size]? = some (.cells #[.slice ta tn tc, .slice na nn nc, .slice la ln lc, .int .i64 st, .slice pa n pc] 42 (0, 0))) := HX2.out.box
    clear hB3 hg3 HX2 HG
    generalize w2 = X at *
    generalize w.heap.size = B at *
    have htn65 : tn ≤ 65 ∧ nn ≤ 65 ∧ ln ≤ 64 ∧ n ≤ 96 ∧ 1 ≤ tn := by
      obtain ⟨e1, e2, e3⟩ := HLS.out
      have hf := (fits_holds ts ns lv st n L R V).2 HV.out.1
      have q1 := hf.tn
      have q2 := hf.nn
      have q3 := hf.ln
      have q4 := hf.pn
      have q5 := hf.terms.1.1
      omega
    obtain ⟨b1, b2, b3, b4, b5⟩ := htn65
    go_wp2_with fail
    go_loopw [6] (fun i wr => ∃ k : Nat, 1 ≤ k ∧ k ≤ tn ∧ i = .int .i64 k ∧ LvAt X wr B #[.slice ta tn tc, .slice na nn nc, .slice la ln lc, .int .i64 st, .slice pa n pc] (AT ts (k - 1))) (fun i _ => tn - (intOf i).toNat)
    case atStart => exact ⟨1, Nat.le_refl _, b5, rfl, HL3.out⟩
    case round =>
      obtain ⟨k, hk1, hk, rfl, hX⟩ := hrel
      have HL : Hid (LvAt X wr B #[.slice ta tn tc, .slice na nn nc, .slice la ln lc, .int .i64 st, .slice pa n pc] (AT ts (k - 1))) := hX
      clear hX HL3
      obtain ⟨m0, m1, m2, m3, m4⟩ := HL.out.cells
      by_cases hlt : k < tn
      · obtain ⟨bt, off, rfl, hcs⟩ : ∃ b off, ta = some ⟨b, off, none⟩ ∧ ∀ i, i < ts.length → wr.cell? ⟨b, off + i * 2, none⟩ = some (.string (ts.getD i (⟨#[]⟩, 0)).1) ∧ wr.cell? ⟨b, off + i * 2 + 1, none⟩ = some (.int .i64 (ts.getD i (⟨#[]⟩, 0)).2) := by
          rcases (HGX.out.kept HL.out.grown).terms with h | h
          · have := HLS.out.1; rw [h] at this; simp at this; omega
          · exact h
        have c0 := (hcs k (by rw [HLS.out.1]; exact hlt)).1
        have HC := term_any X.heap.size (AT ts (k - 1)) (ts.getD k (⟨#[]⟩, 0)).1 wr HL.out.bat
        rw [at_term' HV.out.1 hk1 (by rw [HLS.out.1]; exact hlt)] at HC
        have d0 : ((k : Int) != (k : Int)) = false := bne_self_eq_false _
        clear hcs
        generalize (ts.getD k (⟨#[]⟩, 0)).1 = s at *
        go_wp2_with fail
        refine HC.mono ?_
        rintro e w4 ⟨rfl, hB4, hg4⟩
        have HL4 : Hid (LvAt X w4 B #[.slice (some ⟨bt, off, none⟩) tn tc, .slice na nn nc, .slice la ln lc, .int .i64 st, .slice pa n pc] (AT ts (k + 1 - 1))) := by rw [Nat.add_sub_cancel]; exact HL.out.step hg4 hB4
        clear hB4 hg4 HL HC m0 m1 m2 m3 m4 c0
        go_wp2_with fail
        go_roundw
        case rel => exact ⟨k + 1, by omega, by omega, by go_num, HL4.out⟩
        case measure => simp [intOf]; omega
      · obtain rfl : tn = k := by omega
        have HL2 : Hid (LvAt X wr B #[.slice ta tn tc, .slice na nn nc, .slice la ln lc, .int .i64 st, .slice pa n pc] (AN ts ns 0)) := by
          have := HL.out
          rw [← HLS.out.1, at_full (ns := ns)] at this
          rw [HLS.out.1] at this
          exact this
        clear HL
        go_wp2_with fail
        clear m0 m1 m2 m3 m4
        go_loopw [9] (fun i wr => ∃ k : Nat, k ≤ nn ∧ i = .int .i64 k ∧ LvAt X wr B #[.slice ta tn tc, .slice na nn nc, .slice la ln lc, .int .i64 st, .slice pa n pc] (AN ts ns k)) (fun i _ => nn - (intOf i).toNat)
        case atStart => exact ⟨0, Nat.zero_le _, rfl, HL2.out⟩
        case round =>
          obtain ⟨k, hk, rfl, hX⟩ := hrel
          have HL : Hid (LvAt X wr B #[.slice ta tn tc, .slice na nn nc, .slice la ln lc, .int .i64 st, .slice pa n pc] (AN ts ns k)) := hX
          clear hX HL2
          obtain ⟨m0, m1, m2, m3, m4⟩ := HL.out.cells
          by_cases hltn : k < nn
          · obtain ⟨bt, off, rfl, hcs⟩ : ∃ b off, na = some ⟨b, off, none⟩ ∧ ∀ i, i < ns.length → wr.cell? ⟨b, off + i, none⟩ = some (.string (ns.getD i ⟨#[]⟩)) := by
              rcases (HGX.out.kept HL.out.grown).nons with h | h
              · have := HLS.out.2.1; rw [h] at this; simp at this; omega
              · exact h
            have c0 := hcs k (by rw [HLS.out.2.1]; exact hltn)
            have HC := non_any X.heap.size (AN ts ns k) (ns.getD k ⟨#[]⟩) wr HL.out.bat
            rw [an_non HV.out.1 (by rw [HLS.out.2.1]; exact hltn)] at HC
            have d0 : (-1 - (k : Int) != -1 - (k : Int)) = false := bne_self_eq_false _
            clear hcs
            generalize ns.getD k ⟨#[]⟩ = s at *
            go_wp2_with fail
            refine HC.mono ?_
            rintro e w4 ⟨rfl, hB4, hg4⟩
            have HL4 : Hid (LvAt X w4 B #[.slice ta tn tc, .slice (some ⟨bt, off, none⟩) nn nc, .slice la ln lc, .int .i64 st, .slice pa n pc] (AN ts ns (k + 1))) := HL.out.step hg4 hB4
            clear hB4 hg4 HL HC m0 m1 m2 m3 m4 c0
            go_wp2_with fail
            go_roundw
            case rel => exact ⟨k + 1, by omega, by go_num, HL4.out⟩
            case measure => simp [intOf]; omega
          · obtain rfl : nn = k := by omega
            have HL2 : Hid (LvAt X wr B #[.slice ta tn tc, .slice na nn nc, .slice la ln lc, .int .i64 st, .slice pa n pc] (AL ts ns lv 0)) := by
              have := HL.out
              rw [← HLS.out.2.1, an_full HV.out.1] at this
              rw [HLS.out.2.1] at this
              exact this
            have HC := levels_any ta na la pa tn nn ln n tc nc lc pc st ts ns lv n L R V X wr HGX.out.terms HGX.out.levels HLS.out.1 HLS.out.2.2 b1 b3 HV.out.1 HL2.out.grown HL2.out.bat
            clear HL
            go_wp2_with fail
            refine HC.mono ?_
            rintro e w5 ⟨rfl, hg5, hB5⟩
            have HL5 : Hid (LvAt X w5 B #[.slice ta tn tc, .slice na nn nc, .slice la ln lc, .int .i64 st, .slice pa n pc] (AP ts ns lv L R V 0)) := LvAt.of HBX.out hg5 (by have := hB5; rw [← HLS.out.2.2, al_full (L := L) (R := R) (V := V)] at this; exact this)
            clear hg5 hB5 HL2 HC m0 m1 m2 m3 m4
            go_wp2_with fail
            go_loopg [13] n (fun gk i wr => ∃ k : Nat, k ≤ n ∧ gk = n - k ∧ i = .int .i64 k ∧ LvAt X wr B #[.slice ta tn tc, .slice na nn nc, .slice la ln lc, .int .i64 st, .slice pa n pc] (AP ts ns lv L R V k))
            case atStart => exact ⟨0, Nat.zero_le _, rfl, rfl, HL5.out⟩
            case round =>
              obtain ⟨k, hk, hgk, rfl, hX⟩ := hrel
              have HL : Hid (LvAt X wr B #[.slice ta tn tc, .slice na nn nc, .slice la ln lc, .int .i64 st, .slice pa n pc] (AP ts ns lv L R V k)) := hX
              have HGK : Hid (gk = n - k) := hgk
              clear hX hgk HL5
              obtain ⟨m0, m1, m2, m3, m4⟩ := HL.out.cells
              by_cases hltp : k < n
              · obtain ⟨bp, off, rfl, hcs⟩ : ∃ b off, pa = some ⟨b, off, none⟩ ∧ ∀ k, k < n → X.cell? ⟨b, off + k * 3, none⟩ = some (.int .i64 (L k)) ∧ X.cell? ⟨b, off + k * 3 + 1, none⟩ = some (.slice (ra k) (R k).length (rc k)) ∧ X.cell? ⟨b, off + k * 3 + 2, none⟩ = some (.int .i64 (V k)) ∧ IntsAt X (ra k) (R k) ∧ (ra k = none → rc k = 0) ∧ (R k).length ≤ 17592186044416 := by
                  rcases HGX.out.prods with h | h
                  · omega
                  · exact h
                obtain ⟨h1, h2, h3, hI, _, hlen⟩ := hcs k hltp
                have c0 := HL.out.grown.cell h1 (by simp)
                have c1 := HL.out.grown.cell h2 (by simp)
                have c2 := HL.out.grown.cell h3 (by simp)
                have HI : Hid (IntsAt X (ra k) (R k)) := hI
                have HPK : Hid (prodOK tn nn ln 0 (L k) (R k) (V k)) := by have := HV.out.1.prods k hltp; rwa [HLS.out.1, HLS.out.2.1, HLS.out.2.2] at this
                have HLP : Hid (LvAt X (wr.alloc (.cells #[.int .i64 (L k), .slice (ra k) (R k).length (rc k), .int .i64 (V k)] 52)) B #[.slice ta tn tc, .slice na nn nc, .slice la ln lc, .int .i64 st, .slice (some ⟨bp, off, none⟩) n pc] (AP ts ns lv L R V k)) := HL.out.kept (World.grownBy_alloc _ _ none)
                have HPB : Hid ((wr.alloc (.cells #[.int .i64 (L k), .slice (ra k) (R k).length (rc k), .int .i64 (V k)] 52)).heap[wr.heap.size]? = some (.cells #[.int .i64 (L k), .slice (ra k) (R k).length (rc k), .int .i64 (V k)] 52 (0, 0))) := heap_alloc_last wr _
                clear hcs h1 h2 h3 hI HL
                obtain ⟨len, hle⟩ : ∃ len, len = (R k).length := ⟨_, rfl⟩
                have HLE : Hid ((R k).length = len) := hle.symm
                rw [← hle] at hlen c1 HLP HPB
                clear hle
                go_wp2_with fail
                clear m0 m1 m2 m3 m4 c0 c1 c2
                generalize wr.alloc (.cells #[.int .i64 (L k), .slice (ra k) len (rc k), .int .i64 (V k)] 52) = Y at *
                generalize wr.heap.size = Bp at *
                generalize hrak : ra k = ak at *
                generalize hrck : rc k = ck at *
                clear hrak hrck
                have HSY : Hid (∀ x, x < len → isSymI tn nn 0 ((R k).getD x 0)) := fun x hx => HPK.out.2.2 _ (by
                  have hx' : x < (R k).length := by rw [HLE.out]; exact hx
                  have e : (R k).getD x 0 = (R k)[x] := by simp [List.getD, hx']
                  rw [e]; exact List.getElem_mem _)
                have HTK : Hid (∀ x, x < len → (R k).take (x + 1) = (R k).take x ++ [(R k).getD x 0]) := fun x hx => take_snoc 0 (by rw [HLE.out]; exact hx)
                go_loopg [15, 16] len (fun gx v15 i wz => ∃ x : Nat, x ≤ len ∧ gx = len - x ∧ i = .int .i64 x ∧ ∃ a' c', v15 = .slice a' x c' ∧ Y.grownBy wz none ∧ wz.ownsRow Y.heap.size 3 1 (.slice a' x c') x ((((R k).take x).map (hdl tn)).map (Value.int .i64)))
                case atStart => exact ⟨0, Nat.zero_le _, rfl, rfl, none, 0, rfl, grown_refl _ _, World.ownsRow_nil _ _ _ _⟩
                case round =>
                  obtain ⟨x, hx, hgx, rfl, a3, c3, rfl, hg, hown⟩ := hrel
                  have HGR : Hid (Y.grownBy wr none) := hg
                  have HO : Hid (wr.ownsRow Y.heap.size 3 1 (.slice a3 x c3) x ((((R k).take x).map (hdl tn)).map (Value.int .i64))) := hown
                  have HGX2 : Hid (gk = len - x) := hgx
                  clear hg hown hgx
                  by_cases hlx : x < len
                  · have HLD : Hid (LvAt X wr.drew B #[.slice ta tn tc, .slice na nn nc, .slice la ln lc, .int .i64 st, .slice (some ⟨bp, off, none⟩) n pc] (AP ts ns lv L R V k)) := HLP.out.kept (grown_trans HGR.out (grown_drewN wr 1))
                    have HPD : Hid (wr.drew.heap[Bp]? = some (.cells #[.int .i64 (L k), .slice ak len ck, .int .i64 (V k)] 52 (0, 0))) := by
                      have hh := HPB.out
                      exact ((grown_trans HGR.out (grown_drewN wr 1)).block Bp (Array.getElem?_eq_some_iff.1 hh).1 (by simp)).trans hh
                    have HLW : Hid (LvAt X wr B #[.slice ta tn tc, .slice na nn nc, .slice la ln lc, .int .i64 st, .slice (some ⟨bp, off, none⟩) n pc] (AP ts ns lv L R V k)) := HLP.out.kept HGR.out
                    have n0 := HLW.out.cells.1
                    have q1' : wr.cell? ⟨Bp, 1, none⟩ = some (.slice ak len ck) := by
                      have hh : wr.heap[Bp]? = some (.cells #[.int .i64 (L k), .slice ak len ck, .int .i64 (V k)] 52 (0, 0)) := HPD.out
                      rw [cell_of_row _ _ _ _ _ _ hh]; rfl
                    obtain ⟨m0, m1, m2, m3, m4⟩ := HLD.out.cells
                    have q1 : wr.drew.cell? ⟨Bp, 1, none⟩ = some (.slice ak len ck) := by rw [cell_of_row _ _ _ _ _ _ HPD.out]; rfl
                    have hxl : x < (R k).length := by rw [HLE.out]; exact hlx
                    obtain ⟨bl, of2, rfl, hcs⟩ : ∃ b off, ak = some ⟨b, off, none⟩ ∧ ∀ i, i < (R k).length → wr.drew.cell? ⟨b, off + i, none⟩ = some (.int .i64 ((R k).getD i 0)) := by
                      rcases HI.out.kept HLD.out.grown with h | h
                      · rw [h] at hxl; simp at hxl
                      · exact h
                    have ch := hcs x hxl
                    have hsym := HSY.out x hlx
                    have HST := HTK.out x hlx
                    have hb0 : 0 ≤ (R k).getD x 0 ∧ (R k).getD x 0 ≤ 1000 := by
                      unfold isSymI isNonI at hsym
                      omega
                    have hsz := HGR.out.size
                    clear hcs hxl hsym
                    generalize (R k).getD x 0 = h at *
                    have HTS : Hid ((((R k).take (x + 1)).map (hdl tn)).map (Value.int .i64) = (((R k).take x).map (hdl tn)).map (Value.int .i64) ++ [Value.int .i64 (hdl tn h)]) := by show _ = _; rw [HST]; simp
                    have HC : Hid (Calls Try.prog 23 #[.agg #[.slice ta tn tc, .slice na nn nc, .slice la ln lc, .int .i64 st, .slice (some ⟨bp, off, none⟩) n pc], .int .i64 h] wr.drew fun e w' => e = .returned (.int .i64 (hdl tn h)) ∧ wr.drew.grownBy w' none) := handle_any ta na la (some ⟨bp, off, none⟩) tn nn ln n tc nc lc pc st h wr.drew b1 hb0
                    have HGROW : Hid (∀ w1 o w4, wr.drew.grownBy w1 none → (w1.alloc o).grownBy w4 (Value.slice a3 x c3).ownBlock → Y.grownBy w4 none) := fun w1 o w4 h1 h2 => by
                      have hA := grown_trans (grown_trans (grown_trans HGR.out (grown_drewN wr 1)) h1) (World.grownBy_alloc w1 o none)
                      cases hv : (Value.slice a3 x c3).ownBlock with
                      | none => rw [hv] at h2; exact grown_trans hA h2
                      | some q => rw [hv] at h2; exact grown_new hA h2 (HO.out.lt q hv).1
                    clear HST hb0
                    generalize (((R k).take x).map (hdl tn)).map (Value.int .i64) = xs at *
                    generalize hdl tn h = hh at *
                    go_wp2_with fail
                    go_region_law (first
                      | (refine step_call rfl 23 #[.tmp 110, .tmp 115] #[42, 3] rfl #[.agg #[.slice ta tn tc, .slice na nn nc, .slice la ln lc, .int .i64 st, .slice (some ⟨bp, off, none⟩) n pc], .int .i64 h] (by simp [Act.eval]) E23.out HC.out ?_; rintro e w1 ⟨rfl, hg1⟩; refine ⟨_, rfl, ?_⟩)
                      | (refine step_append_lies _ rfl (.tmp 109) (.tmp 117) 30 rfl Y.heap.size 3 i0 (.int .i64 0) 1 8 Try.underlying30 hi hz0 hz1 hz2 rfl (by decide) _ _ _ (by simp [Act.eval]) ((keepR HO.out (grown_trans (grown_drewN wr 1) hg1)).out.alloc _) ⟨w1.heap.size, 0, none⟩ 1 1 [.int .i64 hh] (by simp [Act.eval]) rfl (cell_one_new _ _ _) (ints_oneCell' [hh]) (by omega) (by unfold maxLen; omega) (by omega) (by have := hg1.size; simp at this ⊢; omega) _ rfl ?_; intro g2 c2 w4 hown4 hgrow4 hloc4 hlt4))
                    all_goals go_wp2_with fail
                    all_goals go_roundg (len - (x + 1))
                    all_goals first
                      | exact ⟨x + 1, by omega, rfl, by go_num, some ⟨g2, 0, none⟩, c2, rfl, HGROW.out _ _ _ hg1 hgrow4, by rw [HTS.out]; exact hown4⟩
                      | (have := HGX2.out; omega)
                  · obtain rfl : len = x := by omega
                    have HO2 : Hid (IntsAt wr a3 ((R k).map (hdl ts.length)) ∧ (a3 = none → c3 = 0)) := by
                      have hO := HO.out
                      rw [List.take_of_length_le (Nat.le_of_eq HLE.out)] at hO
                      refine ⟨?_, fun e => ((owns_bounds hO).2 e).2⟩
                      rw [HLS.out.1]
                      exact owns_intsAt hO (by rw [List.length_map, HLE.out])
                    have HLW : Hid (LvAt X wr B #[.slice ta tn tc, .slice na nn nc, .slice la ln lc, .int .i64 st, .slice (some ⟨bp, off, none⟩) n pc] (AP ts ns lv L R V k)) := HLP.out.kept HGR.out
                    have HPW : Hid (wr.heap[Bp]? = some (.cells #[.int .i64 (L k), .slice ak len ck, .int .i64 (V k)] 52 (0, 0))) := by
                      have hh := HPB.out
                      exact (HGR.out.block Bp (Array.getElem?_eq_some_iff.1 hh).1 (by simp)).trans hh
                    have HNE : Hid (Bp ≠ X.heap.size) := fun e => by
                      have h1 := HPW.out
                      obtain ⟨_, c, hr, _⟩ := HLW.out.bat
                      rw [e, hr] at h1
                      simp at h1
                    obtain ⟨m0, m1, m2, m3, m4⟩ := HLW.out.cells
                    have q0 : wr.cell? ⟨Bp, 0, none⟩ = some (.int .i64 (L k)) := by rw [cell_of_row _ _ _ _ _ _ HPW.out]; rfl
                    have q1 : wr.cell? ⟨Bp, 1, none⟩ = some (.slice ak len ck) := by rw [cell_of_row _ _ _ _ _ _ HPW.out]; rfl
                    have HC := handle_any ta na la (some ⟨bp, off, none⟩) tn nn ln n tc nc lc pc st (L k) wr b1 (by have := HPK.out.1; unfold isNonI at this; omega)
                    have KR : Hid (∀ W, wr.grownBy W none → Calls Try.prog 24 #[.pointer (some ⟨X.heap.size, 0, none⟩), .int .i64 (hdl tn (L k)), .slice a3 len c3] W fun e w' => e = .returned (.tuple #[.int .i64 k, .int .i64 0]) ∧ W.grownBy w' (some X.heap.size) ∧ ∃ S', BAt w' X.heap.size S' ∧ S'.grade (V k) [(k : Int)] = (0, AP ts ns lv L R V (k + 1))) := fun W hW => by
                      have := rule_again HV.out.1 hltp X.heap.size W (HLW.out.bat.kept hW) a3 c3 (HO2.out.1.kept hW) HO2.out.2 (by rw [HLE.out]; exact hlen)
                      rwa [HLE.out, HLS.out.1] at this
                    have KG : Hid (∀ W g S', BAt W X.heap.size S' → S'.grade (V k) [(k : Int)] = (0, AP ts ns lv L R V (k + 1)) → W.cell? ⟨g, 0, none⟩ = some (.int .i64 k) → Calls Try.prog 25 #[.pointer (some ⟨X.heap.size, 0, none⟩), .int .i64 (V k), .slice (some ⟨g, 0, none⟩) 1 1] W fun e w' => e = .returned (.int .i64 0) ∧ BAt w' X.heap.size (AP ts ns lv L R V (k + 1)) ∧ W.grownBy w' (some X.heap.size)) := fun W g S' h1 h2 h3 => grade_again X.heap.size g W S' h1 h2 h3
                    generalize L k = lk at *
                    generalize V k = vk at *
                    generalize hdl tn lk = hlk at *
                    have d0 : ((k : Int) != (k : Int)) = false := bne_self_eq_false _
                    clear HI HO HO2 HPK HPB HLP HSY HTK HGR HGX2
                    go_wp2_with (go_at_call 23; refine HC.mono ?_; rintro e w5 ⟨rfl, hg5⟩)
                    refine (KR.out _ hg5).mono ?_
                    rintro e w6 ⟨rfl, hg6, S', hB6, hS6⟩
                    have HL6 : Hid (LvAt X w6 B #[.slice ta tn tc, .slice na nn nc, .slice la ln lc, .int .i64 st, .slice (some ⟨bp, off, none⟩) n pc] S') := (HLW.out.kept hg5).step hg6 hB6
                    have HP6 : Hid (w6.heap[Bp]? = some (.cells #[.int .i64 lk, .slice ak len ck, .int .i64 vk] 52 (0, 0))) := by
                      have hh := HPW.out
                      have h2 := (hg5.block Bp (Array.getElem?_eq_some_iff.1 hh).1 (by simp)).trans hh
                      exact (hg6.block Bp (Array.getElem?_eq_some_iff.1 h2).1 (by simp [HNE.out])).trans h2
                    have HS6 : Hid (S'.grade vk [(k : Int)] = (0, AP ts ns lv L R V (k + 1))) := hS6
                    have q2 : w6.cell? ⟨Bp, 2, none⟩ = some (.int .i64 vk) := by rw [cell_of_row _ _ _ _ _ _ HP6.out]; rfl
                    clear hg5 hg6 hB6 hS6 HLW HPW HC KR m0 m1 m2 m3 m4 q0 q1
                    go_wp2_with fail
                    refine (KG.out _ w6.heap.size S' (HL6.out.bat.kept (World.grownBy_alloc _ _ none)) HS6.out (by rw [cell_of_row _ _ _ _ _ _ (heap_alloc_last w6 _)]; rfl)).mono ?_
                    rintro e w7 ⟨rfl, hB7, hg7⟩
                    have HL7 : Hid (LvAt X w7 B #[.slice ta tn tc, .slice na nn nc, .slice la ln lc, .int .i64 st, .slice (some ⟨bp, off, none⟩) n pc] (AP ts ns lv L R V (k + 1))) := (HL6.out.kept (World.grownBy_alloc _ _ none)).step hg7 hB7
                    clear hB7 hg7 HL6 HP6 HS6 KG q2
                    go_wp2_with fail
                    go_roundg (n - (k + 1))
                    case measure => have := HGK.out; omega
                    case rel => exact ⟨k + 1, by omega, rfl, by go_num, HL7.out⟩
              · obtain rfl : n = k := by omega
                have HC := handle_any ta na la pa tn nn ln n tc nc lc pc st st wr b1 (by have := HV.out.1.start; unfold isNonI at this; rw [HLS.out.1, HLS.out.2.1] at this; omega)
                have KS : Hid (∀ W, BAt W X.heap.size (AP ts ns lv L R V n) → Calls Try.prog 26 #[.pointer (some ⟨X.heap.size, 0, none⟩), .int .i64 (hdl tn st)] W fun e w' => e = .returned (.int .i64 0) ∧ BAt w' X.heap.size (AF ts ns lv L R V n st) ∧ W.grownBy w' (some X.heap.size)) := fun W hW => by
                  have := start_again HV.out X.heap.size W hW
                  rwa [HLS.out.1] at this
                have KT : Hid (∀ W, BAt W X.heap.size (AF ts ns lv L R V n st) → Calls Try.prog 27 #[.pointer (some ⟨X.heap.size, 0, none⟩)] W fun e w' => ∃ ta na la pa tc nc lc pc ra rc, e = .returned (.tuple #[.agg #[.slice ta tn tc, .slice na nn nc, .slice la ln lc, .int .i64 st, .slice pa n pc], .int .i64 0]) ∧ GAt w' ta na la pa tc nc lc pc ts ns lv n L R ra rc V ∧ W.grownBy w' none) := fun W hW => by
                  have := told_again HV.out (fun i hi => by
                    rcases HGX.out.prods with h | ⟨_, _, _, h⟩
                    · omega
                    · exact (h i hi).2.2.2.2.2) X.heap.size W hW
                  rwa [HLS.out.1, HLS.out.2.1, HLS.out.2.2] at this
                have HNP := n_pos HV.out.1
                rw [HLS.out.2.1] at HNP
                obtain ⟨_, hnp⟩ := HNP
                generalize hdl tn st = hst at *
                go_wp2_with (go_at_call 23; refine HC.mono ?_; rintro e w5 ⟨rfl, hg5⟩)
                refine (KS.out _ (HL.out.bat.kept hg5)).mono ?_
                rintro e w6 ⟨rfl, hB6, hg6⟩
                have HL6 : Hid (LvAt X w6 B #[.slice ta tn tc, .slice na nn nc, .slice la ln lc, .int .i64 st, .slice pa n pc] (AF ts ns lv L R V n st)) := (HL.out.kept hg5).step hg6 hB6
                clear hg5 hg6 hB6 HL HC KS m0 m1 m2 m3 m4
                go_wp2_with fail
                refine (KT.out _ HL6.out.bat).mono ?_
                rintro e w7 ⟨ta', na', la', pa', tc', nc', lc', pc', ra', rc', rfl, hG7, hg7⟩
                have HG7 : Hid (GAt w7 ta' na' la' pa' tc' nc' lc' pc' ts ns lv n L R ra' rc' V) := hG7
                have HL7 : Hid (LvAt X w7 B #[.slice ta tn tc, .slice na nn nc, .slice la ln lc, .int .i64 st, .slice pa n pc] (AF ts ns lv L R V n st)) := HL6.out.kept hg7
                obtain ⟨bn, offn, rfl, hcn⟩ : ∃ b off, na' = some ⟨b, off, none⟩ ∧ w7.cell? ⟨b, off, none⟩ = some (.string (ns.getD 0 ⟨#[]⟩)) := by
                  rcases hG7.nons with h | ⟨b, off, h1, h2⟩
                  · have := HLS.out.2.1; rw [h] at this; simp at this; omega
                  · exact ⟨b, off, h1, by have := h2 0 (by rw [HLS.out.2.1]; exact hnp); rwa [Nat.add_zero] at this⟩
                have HCN : Hid (∀ W, w7.grownBy W none → W.cell? ⟨bn, offn, none⟩ = some (.string (ns.getD 0 ⟨#[]⟩))) := fun W hW => hW.cell hcn (by simp)
                have HS0 : Hid (0 < (ns.getD 0 ⟨#[]⟩).size) := by
                  have h1 := HV.out.1.nons.1 _ (getD_mem' (l := ns) (k := 0) (by rw [HLS.out.2.1]; exact hnp))
                  generalize ns.getD 0 ⟨#[]⟩ = s0 at h1 ⊢
                  simp [isNameB, lenOK] at h1
                  show 0 < s0.size
                  omega
                have KM : Hid (∀ W, w7.grownBy W none → Calls Try.prog 15 #[.agg #[.slice ta tn tc, .slice na nn nc, .slice la ln lc, .int .i64 st, .slice pa n pc], .agg #[.slice ta' tn tc', .slice (some ⟨bn, offn, none⟩) nn nc', .slice la' ln lc', .int .i64 st, .slice pa' n pc']] W fun e w' => e = .returned (.bool true) ∧ W.grownBy w' none) := fun W hW => by
                  have := rsame_any st st (HGX.out.kept (grown_trans HL7.out.grown hW)) (HG7.out.kept hW) true ⟨fun _ => ⟨rfl, rfl, rfl, rfl, rfl, fun _ _ => ⟨rfl, rfl, rfl⟩⟩, fun _ => rfl⟩
                  rwa [HLS.out.1, HLS.out.2.1, HLS.out.2.2] at this
                have KVA : Hid (∀ W, w7.grownBy W none → Calls Try.prog 12 #[.agg #[.slice ta' tn tc', .slice (some ⟨bn, offn, none⟩) nn nc', .slice la' ln lc', .int .i64 st, .slice pa' n pc']] W fun e w' => e = .returned (.bool true) ∧ W.grownBy w' none) := fun W hW => by
                  have := valid_any ta' (some ⟨bn, offn, none⟩) la' pa' tc' nc' lc' pc' ts ns lv n L R ra' rc' V st W (HG7.out.kept hW) true ⟨fun _ => HV.out, fun _ => rfl⟩
                  rwa [HLS.out.1, HLS.out.2.1, HLS.out.2.2] at this
                have KCL : Hid (∀ W, w7.grownBy W none → Calls Try.prog 13 #[.agg #[.slice ta' tn tc', .slice (some ⟨bn, offn, none⟩) nn nc', .slice la' ln lc', .int .i64 st, .slice pa' n pc']] W fun e w' => e = .returned (.bool false) ∧ W.grownBy w' none) := fun W hW => closed_no bn offn ta' la' pa' tn nn ln n tc' nc' lc' pc' st (ns.getD 0 ⟨#[]⟩) W (HCN.out W hW) hnp HS0.out
                have HA7 : Hid (PhAt w7 (w7.alloc (.cells #[.slice ta' tn tc', .slice (some ⟨bn, offn, none⟩) nn nc', .slice la' ln lc', .int .i64 st, .slice pa' n pc'] 42)) w7.heap.size #[.slice ta' tn tc', .slice (some ⟨bn, offn, none⟩) nn nc', .slice la' ln lc', .int .i64 st, .slice pa' n pc']) := ⟨World.grownBy_alloc _ _ none, heap_alloc_last w7 _⟩
                have HLA : Hid (LvAt X (w7.alloc (.cells #[.slice ta' tn tc', .slice (some ⟨bn, offn, none⟩) nn nc', .slice la' ln lc', .int .i64 st, .slice pa' n pc'] 42)) B #[.slice ta tn tc, .slice na nn nc, .slice la ln lc, .int .i64 st, .slice pa n pc] (AF ts ns lv L R V n st)) := HL7.out.kept (World.grownBy_alloc _ _ none)
                obtain ⟨m0, m1, m2, m3, m4⟩ := HLA.out.cells
                clear hg7 hG7 hcn HL6 KT HCN HS0
                go_wp2_with fail
                refine (KM.out _ HA7.out.grown).mono ?_
                rintro e w8 ⟨rfl, hg8⟩
                have HA8 : Hid (PhAt w7 w8 w7.heap.size #[.slice ta' tn tc', .slice (some ⟨bn, offn, none⟩) nn nc', .slice la' ln lc', .int .i64 st, .slice pa' n pc']) := HA7.out.kept hg8
                clear hg8 HA7 HLA KM m0 m1 m2 m3 m4
                obtain ⟨m0, m1, m2, m3, m4⟩ := HA8.out.cells
                go_wp2_with fail
                refine (KVA.out _ HA8.out.grown).mono ?_
                rintro e w9 ⟨rfl, hg9⟩
                have HA9 : Hid (PhAt w7 w9 w7.heap.size #[.slice ta' tn tc', .slice (some ⟨bn, offn, none⟩) nn nc', .slice la' ln lc', .int .i64 st, .slice pa' n pc']) := HA8.out.kept hg9
                clear hg9 HA8 KVA m0 m1 m2 m3 m4
                obtain ⟨m0, m1, m2, m3, m4⟩ := HA9.out.cells
                go_wp2_with fail
                refine (KCL.out _ HA9.out.grown).mono ?_
                rintro e w10 ⟨rfl, hg10⟩
                have HFIN : Hid (w.grownBy w10 none) := grown_trans (grown_trans HWX.out HL7.out.grown) (grown_trans HA9.out.grown hg10)
                clear hg10 HA9 KCL m0 m1 m2 m3 m4
                go_wp2_with fail
                go_ret
                exact ⟨rfl, HFIN.out⟩

end Go.Proofs.Ytdlbeffkgdjihaa
