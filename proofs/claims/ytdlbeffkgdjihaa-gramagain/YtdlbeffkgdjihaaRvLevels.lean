/-
  The document's levelsFit and nonsFit.
-/
import Derived.Test.YtdlbeffkgdjihaaRvTerms
namespace Go.Proofs.Ytdlbeffkgdjihaa
open Go.RowKit

attribute [local go_sem] Oper.semAt_some

set_option maxRecDepth 100000 in
set_option maxHeartbeats 1000000 in
theorem levelsFit_any (ta na la pa : Option Addr) (tn nn ln pn tc nc lc pc : Nat) (st : Int) (ts : List (ByteArray × Int)) (lv : List Int) (w : World) (hT : TermsAt w ta ts) (hL : IntsAt w la lv) (htn : ts.length = tn) (hln : lv.length = ln) (hn : tn ≤ 65) (hb : ln ≤ 64) (r : Bool)
    (hr : r = true ↔ ∀ j, j < lv.length → levelOK ts lv j) :
    Calls Try.prog 76 #[.agg #[.slice ta tn tc, .slice na nn nc, .slice la ln lc, .int .i64 st, .slice pa pn pc]] w fun e w' => e = .returned (.bool r) ∧ w.grownBy w' none := by
  have HT : Hid (TermsAt w ta ts) := hT
  have HL : Hid (IntsAt w la lv) := hL
  have HTN : Hid (ts.length = tn) := htn
  have HLN : Hid (lv.length = ln) := hln
  have HR : Hid (r = true ↔ ∀ j, j < lv.length → levelOK ts lv j) := hr
  have HX0 : Hid (PhAt w (w.alloc (.cells #[.slice ta tn tc, .slice na nn nc, .slice la ln lc, .int .i64 st, .slice pa pn pc] 42)) w.heap.size #[.slice ta tn tc, .slice na nn nc, .slice la ln lc, .int .i64 st, .slice pa pn pc]) := ⟨World.grownBy_alloc _ _ none, heap_alloc_last w _⟩
  clear hT hL hr htn hln
  go_enter Try.func76, Try.ntmps76
  go_wp2_with fail
  go_loopg [3] ln (fun gk i wr => ∃ k : Nat, k ≤ ln ∧ gk = ln - k ∧ i = .int .i64 k ∧ PhAt w wr w.heap.size #[.slice ta tn tc, .slice na nn nc, .slice la ln lc, .int .i64 st, .slice pa pn pc] ∧ ∀ j, j < k → levelOK ts lv j)
  case atStart => exact ⟨0, Nat.zero_le _, rfl, rfl, HX0.out, fun j h => by omega⟩
  case round =>
    obtain ⟨k, hk, hgk, rfl, hX, hall⟩ := hrel
    have HX : Hid (PhAt w wr w.heap.size #[.slice ta tn tc, .slice na nn nc, .slice la ln lc, .int .i64 st, .slice pa pn pc]) := hX
    have HA : Hid (∀ j, j < k → levelOK ts lv j) := hall
    have HGK : Hid (gk = ln - k) := hgk
    clear hX hall hgk HX0
    obtain ⟨m0, m1, m2, m3, m4⟩ := HX.out.cells
    by_cases hlt : k < ln
    · have HRF : Hid (¬ levelOK ts lv k → r = false) := fun hno => Bool.eq_false_iff.2 fun hh => hno (HR.out.1 hh k (by rw [HLN.out]; exact hlt))
      go_wp2_with fail
      clear m0 m1 m2 m3 m4
      go_loopg [4, 5] tn (fun gx v4 i wr => ∃ (x : Nat) (sm : Bool), x ≤ tn ∧ gx = tn - x ∧ i = .int .i64 x ∧ v4 = .bool sm ∧ PhAt w wr w.heap.size #[.slice ta tn tc, .slice na nn nc, .slice la ln lc, .int .i64 st, .slice pa pn pc] ∧ (sm = true ↔ ∃ j, j < x ∧ (ts.getD j (⟨#[]⟩, 0)).2 = (k : Int) + 1))
      case atStart => exact ⟨0, false, Nat.zero_le _, rfl, rfl, rfl, HX.out, by simp⟩
      case round =>
        obtain ⟨x, sm, hx, hgx, rfl, rfl, hX, hsm⟩ := hrel
        have HX2 : Hid (PhAt w wr w.heap.size #[.slice ta tn tc, .slice na nn nc, .slice la ln lc, .int .i64 st, .slice pa pn pc]) := hX
        have HSM : Hid (sm = true ↔ ∃ j, j < x ∧ (ts.getD j (⟨#[]⟩, 0)).2 = (k : Int) + 1) := hsm
        have HGX : Hid (gk = tn - x) := hgx
        clear hX hsm hgx HX
        obtain ⟨m0, m1, m2, m3, m4⟩ := HX2.out.cells
        by_cases hlx : x < tn
        · obtain ⟨b, off, rfl, hcs⟩ : ∃ b off, ta = some ⟨b, off, none⟩ ∧ ∀ i, i < ts.length → wr.cell? ⟨b, off + i * 2, none⟩ = some (.string (ts.getD i (⟨#[]⟩, 0)).1) ∧ wr.cell? ⟨b, off + i * 2 + 1, none⟩ = some (.int .i64 (ts.getD i (⟨#[]⟩, 0)).2) := by
            rcases HT.out.kept HX2.out.grown with h | h
            · have := HTN.out; rw [h] at this; simp at this; omega
            · exact h
          have c1 := (hcs x (by rw [HTN.out]; exact hlx)).2
          clear hcs
          cases sm with
          | true =>
            have HS : Hid (true = true ↔ ∃ j, j < x + 1 ∧ (ts.getD j (⟨#[]⟩, 0)).2 = (k : Int) + 1) := ⟨fun _ => by
              obtain ⟨j, hj, e⟩ := HSM.out.1 rfl
              exact ⟨j, by omega, e⟩, fun _ => rfl⟩
            go_wp2_with fail
            go_roundg (tn - (x + 1))
            case measure => have := HGX.out; omega
            case rel => exact ⟨x + 1, true, by omega, rfl, by go_num, rfl, HX2.out, by have h := HS.out; simpa using h⟩
          | false =>
            have HS : Hid (∀ f : Bool, (f = true ↔ (ts.getD x (⟨#[]⟩, 0)).2 = (k : Int) + 1) → (f = true ↔ ∃ j, j < x + 1 ∧ (ts.getD j (⟨#[]⟩, 0)).2 = (k : Int) + 1)) := fun f hf => by
              rw [hf]
              constructor
              · intro e; exact ⟨x, by omega, e⟩
              · rintro ⟨j, hj, e⟩
                by_cases ej : j = x
                · rw [← ej]; exact e
                · have := HSM.out.2 ⟨j, by omega, e⟩
                  cases this
            generalize (ts.getD x (⟨#[]⟩, 0)).2 = l at *
            by_cases he : l = (k : Int) + 1
            · have d1 : (l == (k : Int) + 1) = true := beq_iff_eq.2 he
              have HS2 : Hid (true = true ↔ ∃ j, j < x + 1 ∧ (ts.getD j (⟨#[]⟩, 0)).2 = (k : Int) + 1) := HS.out true ⟨fun _ => he, fun _ => rfl⟩
              clear he HS
              go_wp2_with fail
              go_roundg (tn - (x + 1))
              case measure => have := HGX.out; omega
              case rel => exact ⟨x + 1, true, by omega, rfl, by go_num, rfl, HX2.out, by have h := HS2.out; simpa using h⟩
            · have d1 : (l == (k : Int) + 1) = false := beq_eq_false_iff_ne.2 he
              have HS2 : Hid (false = true ↔ ∃ j, j < x + 1 ∧ (ts.getD j (⟨#[]⟩, 0)).2 = (k : Int) + 1) := HS.out false ⟨(fun h => by cases h), fun h => absurd h he⟩
              clear he HS
              go_wp2_with fail
              go_roundg (tn - (x + 1))
              case measure => have := HGX.out; omega
              case rel => exact ⟨x + 1, false, by omega, rfl, by go_num, rfl, HX2.out, by have h := HS2.out; simpa using h⟩
        · obtain rfl : x = tn := by omega
          have HEX : Hid (sm = true ↔ ∃ t ∈ ts, t.2 = (k : Int) + 1) := by
            show _ ↔ _
            rw [HSM.out]
            constructor
            · rintro ⟨j, hj, e⟩
              have hj' : j < ts.length := by rw [HTN.out]; exact hj
              have e2 : ts.getD j (⟨#[]⟩, 0) = ts[j] := by simp [List.getD, hj']
              exact ⟨ts[j], List.getElem_mem _, by rw [← e2]; exact e⟩
            · rintro ⟨t, ht, e⟩
              obtain ⟨j, hj, rfl⟩ := List.getElem_of_mem ht
              have e2 : ts.getD j (⟨#[]⟩, 0) = ts[j] := by simp [List.getD, hj]
              exact ⟨j, by rw [← HTN.out]; exact hj, by rw [e2]; exact e⟩
          obtain ⟨b, off, rfl, hcs⟩ : ∃ b off, la = some ⟨b, off, none⟩ ∧ ∀ i, i < lv.length → wr.cell? ⟨b, off + i, none⟩ = some (.int .i64 (lv.getD i 0)) := by
            rcases HL.out.kept HX2.out.grown with h | h
            · have := HLN.out; rw [h] at this; simp at this; omega
            · exact h
          have c1 := hcs k (by rw [HLN.out]; exact hlt)
          have HOK : Hid (levelOK ts lv k ↔ (1 ≤ lv.getD k 0 ∧ lv.getD k 0 ≤ 3) ∧ ∃ t ∈ ts, t.2 = (k : Int) + 1) := Iff.rfl
          have HUP : Hid (levelOK ts lv k → ∀ j, j < k + 1 → levelOK ts lv j) := fun h j hj => by
            by_cases e : j = k
            · rw [e]; exact h
            · exact HA.out j (by omega)
          generalize lv.getD k 0 = s at *
          clear hcs
          cases sm with
          | false =>
            have hf : r = false := HRF.out fun h => by have := HEX.out.2 (HOK.out.1 h).2; cases this
            go_wp2_with fail
            go_ret
            exact ⟨by first | rfl | (rw [hf]; rfl), HX2.out.grown⟩
          | true =>
            by_cases h1 : s < 1
            · have d1 : decide (s < 1) = true := decide_eq_true h1
              have hf : r = false := HRF.out fun h => by have := (HOK.out.1 h).1; omega
              go_wp2_with fail
              go_ret
              exact ⟨by first | rfl | (rw [hf]; rfl), HX2.out.grown⟩
            · have d1 : decide (s < 1) = false := decide_eq_false h1
              by_cases h3 : 3 < s
              · have d3 : decide (3 < s) = true := decide_eq_true h3
                have hf : r = false := HRF.out fun h => by have := (HOK.out.1 h).1; omega
                go_wp2_with fail
                go_ret
                exact ⟨by first | rfl | (rw [hf]; rfl), HX2.out.grown⟩
              · have d3 : decide (3 < s) = false := decide_eq_false h3
                have HA2 : Hid (∀ j, j < k + 1 → levelOK ts lv j) := HUP.out (HOK.out.2 ⟨⟨by omega, by omega⟩, HEX.out.1 rfl⟩)
                clear h1 h3
                go_wp2_with fail
                go_roundg (ln - (k + 1))
                case measure => have := HGK.out; omega
                case rel => exact ⟨k + 1, by omega, rfl, by go_num, HX2.out, HA2.out⟩
    · obtain rfl : k = ln := by omega
      have hrt : r = true := HR.out.2 (by rw [HLN.out]; exact HA.out)
      go_wp2_with fail
      go_ret
      exact ⟨by first | rfl | (rw [hrt]; rfl), HX.out.grown⟩

set_option maxRecDepth 100000 in
set_option maxHeartbeats 1000000 in
theorem nonsFit_any (ta na la pa : Option Addr) (tn nn ln pn tc nc lc pc ad : Nat) (st : Int) (ns : List ByteArray) (w : World) (hN : StrsAt w na ns) (hnn : ns.length = nn) (hn : nn ≤ 65) (hle : ad ≤ nn) (hsz : ∀ s ∈ ns, s.size ≤ 140737488355328) (r : Bool)
    (hr : r = true ↔ ∀ i, ad ≤ i → i < ns.length → nonAt ns ad i) :
    Calls Try.prog 77 #[.agg #[.slice ta tn tc, .slice na nn nc, .slice la ln lc, .int .i64 st, .slice pa pn pc], .int .i64 ad] w fun e w' => e = .returned (.bool r) ∧ w.grownBy w' none := by
  have HN : Hid (StrsAt w na ns) := hN
  have HNN : Hid (ns.length = nn) := hnn
  have HSZ : Hid (∀ s ∈ ns, s.size ≤ 140737488355328) := hsz
  have HR : Hid (r = true ↔ ∀ i, ad ≤ i → i < ns.length → nonAt ns ad i) := hr
  have HX0 : Hid (PhAt w (w.alloc (.cells #[.slice ta tn tc, .slice na nn nc, .slice la ln lc, .int .i64 st, .slice pa pn pc] 42)) w.heap.size #[.slice ta tn tc, .slice na nn nc, .slice la ln lc, .int .i64 st, .slice pa pn pc]) := ⟨World.grownBy_alloc _ _ none, heap_alloc_last w _⟩
  clear hN hsz hr hnn
  go_enter Try.func77, Try.ntmps77
  go_wp2_with fail
  go_loopg [5] (nn - ad) (fun gk i wr => ∃ k : Nat, ad ≤ k ∧ k ≤ nn ∧ gk = nn - k ∧ i = .int .i64 k ∧ PhAt w wr w.heap.size #[.slice ta tn tc, .slice na nn nc, .slice la ln lc, .int .i64 st, .slice pa pn pc] ∧ ∀ j, ad ≤ j → j < k → nonAt ns ad j)
  case atStart => exact ⟨ad, Nat.le_refl _, hle, rfl, rfl, HX0.out, fun j h1 h2 => by omega⟩
  case round =>
    obtain ⟨k, hk1, hk, hgk, rfl, hX, hall⟩ := hrel
    have HX : Hid (PhAt w wr w.heap.size #[.slice ta tn tc, .slice na nn nc, .slice la ln lc, .int .i64 st, .slice pa pn pc]) := hX
    have HA : Hid (∀ j, ad ≤ j → j < k → nonAt ns ad j) := hall
    have HGK : Hid (gk = nn - k) := hgk
    clear hX hall hgk HX0
    obtain ⟨m0, m1, m2, m3, m4⟩ := HX.out.cells
    by_cases hlt : k < nn
    · obtain ⟨b, off, rfl, hcs⟩ : ∃ b off, na = some ⟨b, off, none⟩ ∧ ∀ i, i < ns.length → w.cell? ⟨b, off + i, none⟩ = some (.string (ns.getD i ⟨#[]⟩)) := by
        rcases HN.out with h | h
        · have := HNN.out; rw [h] at this; simp at this; omega
        · exact h
      have HCS : Hid (∀ i, i < nn → ∀ W, w.grownBy W none → W.cell? ⟨b, off + i, none⟩ = some (.string (ns.getD i ⟨#[]⟩))) := fun i hi W hg => hg.cell (hcs i (by rw [HNN.out]; exact hi)) (by simp)
      clear hcs
      have c0 := HCS.out k hlt _ HX.out.grown
      have HC := rIsName_any (ns.getD k ⟨#[]⟩) wr (HSZ.out _ (getD_mem (by rw [HNN.out]; exact hlt)))
      have HRF : Hid (¬ nonAt ns ad k → r = false) := fun hno => Bool.eq_false_iff.2 fun hh => hno (HR.out.1 hh k hk1 (by rw [HNN.out]; exact hlt))
      generalize hS : ns.getD k ⟨#[]⟩ = S at *
      have HS : Hid (ns.getD k ⟨#[]⟩ = S) := hS
      clear hS
      cases hb : isNameB S with
      | false =>
        rw [hb] at HC
        have hf : r = false := HRF.out fun h => by have := h.1; rw [HS.out, hb] at this; cases this
        clear hb
        go_wp2_with (go_at_call 90; refine HC.mono ?_; rintro e w' ⟨rfl, rfl⟩)
        go_ret
        exact ⟨by first | rfl | (rw [hf]; rfl), HX.out.grown⟩
      | true =>
        rw [hb] at HC
        have HOK : Hid (isNameB (ns.getD k ⟨#[]⟩) = true) := by show _ = true; rw [HS.out]; exact hb
        clear hb
        go_wp2_with (go_at_call 90; refine HC.mono ?_; rintro e w' ⟨rfl, rfl⟩)
        clear m0 m1 m2 m3 m4 c0 HC
        go_loopg [7] (k - ad) (fun gx i wr => ∃ x : Nat, ad ≤ x ∧ x ≤ k ∧ gx = k - x ∧ i = .int .i64 x ∧ PhAt w wr w.heap.size #[.slice ta tn tc, .slice (some ⟨b, off, none⟩) nn nc, .slice la ln lc, .int .i64 st, .slice pa pn pc] ∧ ∀ j, ad ≤ j → j < x → ns.getD j ⟨#[]⟩ ≠ S)
        case atStart => exact ⟨ad, Nat.le_refl _, hk1, rfl, rfl, HX.out, fun j h1 h2 => by omega⟩
        case round =>
          obtain ⟨x, hx1, hx, hgx, rfl, hX, hall⟩ := hrel
          have HX2 : Hid (PhAt w wr w.heap.size #[.slice ta tn tc, .slice (some ⟨b, off, none⟩) nn nc, .slice la ln lc, .int .i64 st, .slice pa pn pc]) := hX
          have HY : Hid (∀ j, ad ≤ j → j < x → ns.getD j ⟨#[]⟩ ≠ S) := hall
          have HGX : Hid (gk = k - x) := hgx
          clear hX hall hgx HX
          obtain ⟨m0, m1, m2, m3, m4⟩ := HX2.out.cells
          by_cases hlx : x < k
          · have c0 := HCS.out x (by omega) _ HX2.out.grown
            have c2 := HCS.out k hlt _ HX2.out.grown
            rw [HS.out] at c2
            have HNO : Hid (ns.getD x ⟨#[]⟩ = S → r = false) := fun e => HRF.out fun h => h.2 x hx1 hlx (by rw [HS.out]; exact e)
            have HST : Hid (ns.getD x ⟨#[]⟩ ≠ S → ∀ j, ad ≤ j → j < x + 1 → ns.getD j ⟨#[]⟩ ≠ S) := fun hne j h1 h2 => by
              by_cases e : j = x
              · rw [e]; exact hne
              · exact HY.out j h1 (by omega)
            generalize ns.getD x ⟨#[]⟩ = T at *
            by_cases he : T = S
            · have hf := HNO.out he
              have d3 := strEq_true he
              clear he HNO HST
              go_wp2_with fail
              go_quiet (fail)
              go_wp2_with fail
              go_ret
              exact ⟨by first | rfl | (rw [hf]; rfl), grown_trans HX2.out.grown (grown_drewN _ _)⟩
            · have d3 := strEq_false he
              have HS2 : Hid (∀ j, ad ≤ j → j < x + 1 → ns.getD j ⟨#[]⟩ ≠ S) := HST.out he
              clear he HNO HST
              go_wp2_with fail
              go_quiet (fail)
              have HX3 : Hid (PhAt w (wr.drewN nq) w.heap.size #[.slice ta tn tc, .slice (some ⟨b, off, none⟩) nn nc, .slice la ln lc, .int .i64 st, .slice pa pn pc]) := HX2.out.kept (grown_drewN _ _)
              clear m0 m1 m2 m3 m4 c0 c2 HX2
              generalize wr.drewN nq = W at *
              go_wp2_with fail
              go_roundg (k - (x + 1))
              case measure => have := HGX.out; omega
              case rel => exact ⟨x + 1, by omega, by omega, rfl, by go_num, HX3.out, HS2.out⟩
          · obtain rfl : x = k := by omega
            have HA2 : Hid (∀ j, ad ≤ j → j < x + 1 → nonAt ns ad j) := fun j h1 h2 => by
              by_cases e : j = x
              · rw [e]; exact ⟨HOK.out, fun k' h3 h4 => by rw [HS.out]; exact HY.out k' h3 h4⟩
              · exact HA.out j h1 (by omega)
            go_wp2_with fail
            go_roundg (nn - (x + 1))
            case measure => have := HGK.out; omega
            case rel => exact ⟨x + 1, by omega, by omega, rfl, by go_num, HX2.out, HA2.out⟩
    · obtain rfl : k = nn := by omega
      have hrt : r = true := HR.out.2 (fun i h1 h2 => HA.out i h1 (by rw [← HNN.out]; exact h2))
      go_wp2_with fail
      go_ret
      exact ⟨by first | rfl | (rw [hrt]; rfl), HX.out.grown⟩

end Go.Proofs.Ytdlbeffkgdjihaa
