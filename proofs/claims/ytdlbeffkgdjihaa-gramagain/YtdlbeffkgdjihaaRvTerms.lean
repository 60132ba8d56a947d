/-
  The document's termsFit.
-/
import Derived.Test.YtdlbeffkgdjihaaRvNames
import Derived.Test.YtdlbeffkgdjihaaRvMath
namespace Go.Proofs.Ytdlbeffkgdjihaa
open Go.RowKit

attribute [local go_sem] Oper.semAt_some

theorem strEq_true {s t : ByteArray} (h : s = t) : (s.toList == t.toList) = true := by rw [h]; simp
theorem strEq_false {s t : ByteArray} (h : s ≠ t) : (s.toList == t.toList) = false := by
  rw [beq_eq_false_iff_ne]
  intro e
  rw [ByteArray.toList_eq, ByteArray.toList_eq] at e
  exact h (bytes_ext e)

theorem isEmpty_false {s : ByteArray} (h : s ≠ ⟨#[]⟩) : s.toList.isEmpty = false := by
  cases e : s.toList with
  | nil =>
    rw [ByteArray.toList_eq] at e
    exact absurd (bytes_ext (by rw [e])) h
  | cons x r => rfl

set_option maxRecDepth 100000 in
set_option maxHeartbeats 1000000 in
theorem termsFit_any (ta na la pa : Option Addr) (tn nn ln pn tc nc lc pc : Nat) (st : Int) (ts : List (ByteArray × Int)) (w : World) (hT : TermsAt w ta ts) (htn : ts.length = tn) (hn : tn ≤ 65) (hsz : ∀ t ∈ ts, t.1.size ≤ 140737488355328) (r : Bool)
    (hr : r = true ↔ ((0 < ts.length ∧ ts.getD 0 (⟨#[]⟩, 0) = (⟨#[]⟩, 0)) ∧ ∀ i, 1 ≤ i → i < ts.length → termAt ts ln i)) :
    Calls Try.prog 75 #[.agg #[.slice ta tn tc, .slice na nn nc, .slice la ln lc, .int .i64 st, .slice pa pn pc]] w fun e w' => e = .returned (.bool r) ∧ w.grownBy w' none := by
  have HT : Hid (TermsAt w ta ts) := hT
  have HTN : Hid (ts.length = tn) := htn
  have HSZ : Hid (∀ t ∈ ts, t.1.size ≤ 140737488355328) := hsz
  have HR : Hid (r = true ↔ ((0 < ts.length ∧ ts.getD 0 (⟨#[]⟩, 0) = (⟨#[]⟩, 0)) ∧ ∀ i, 1 ≤ i → i < ts.length → termAt ts ln i)) := hr
  have HX0 : Hid (PhAt w (w.alloc (.cells #[.slice ta tn tc, .slice na nn nc, .slice la ln lc, .int .i64 st, .slice pa pn pc] 42)) w.heap.size #[.slice ta tn tc, .slice na nn nc, .slice la ln lc, .int .i64 st, .slice pa pn pc]) := ⟨World.grownBy_alloc _ _ none, heap_alloc_last w _⟩
  clear hT hsz hr htn
  by_cases h0 : tn = 0
  · have hf : r = false := Bool.eq_false_iff.2 fun hh => by have := (HR.out.1 hh).1.1; rw [HTN.out] at this; omega
    have d0 : ((tn : Int) == 0) = true := beq_iff_eq.2 (by omega)
    clear h0
    go_enter Try.func75, Try.ntmps75
    go_wp2_with fail
    go_ret
    exact ⟨by first | rfl | (rw [hf]; rfl), HX0.out.grown⟩
  · have d0 : ((tn : Int) == 0) = false := beq_eq_false_iff_ne.2 (by omega)
    obtain ⟨b, off, rfl, hcs⟩ : ∃ b off, ta = some ⟨b, off, none⟩ ∧ ∀ i, i < ts.length → w.cell? ⟨b, off + i * 2, none⟩ = some (.string (ts.getD i (⟨#[]⟩, 0)).1) ∧ w.cell? ⟨b, off + i * 2 + 1, none⟩ = some (.int .i64 (ts.getD i (⟨#[]⟩, 0)).2) := by
      rcases HT.out with h | h
      · have := HTN.out; rw [h] at this; simp at this; omega
      · exact h
    have HCS : Hid (∀ i, i < tn → ∀ W, w.grownBy W none → W.cell? ⟨b, off + i * 2, none⟩ = some (.string (ts.getD i (⟨#[]⟩, 0)).1) ∧ W.cell? ⟨b, off + i * 2 + 1, none⟩ = some (.int .i64 (ts.getD i (⟨#[]⟩, 0)).2)) := fun i hi W hg => by
      obtain ⟨h1, h2⟩ := hcs i (by rw [HTN.out]; exact hi)
      exact ⟨hg.cell h1 (by simp), hg.cell h2 (by simp)⟩
    have HPOS : Hid (0 < tn) := Nat.pos_of_ne_zero h0
    clear hcs
    obtain ⟨c0, c1⟩ := HCS.out 0 HPOS.out _ HX0.out.grown
    rw [Nat.zero_mul, Nat.add_zero] at c0 c1
    by_cases hs : (ts.getD 0 (⟨#[]⟩, 0)).1 = ⟨#[]⟩
    · by_cases hl : (ts.getD 0 (⟨#[]⟩, 0)).2 = 0
      · rw [hs] at c0
        rw [hl] at c1
        have HZ : Hid (ts.getD 0 (⟨#[]⟩, 0) = (⟨#[]⟩, 0)) := Prod.ext hs hl
        clear hs hl h0
        go_enter Try.func75, Try.ntmps75
        go_wp2_with fail
        clear c0 c1
        go_loopg [3] (tn - 1) (fun gk i wr => ∃ k : Nat, 1 ≤ k ∧ k ≤ tn ∧ gk = tn - k ∧ i = .int .i64 k ∧ PhAt w wr w.heap.size #[.slice (some ⟨b, off, none⟩) tn tc, .slice na nn nc, .slice la ln lc, .int .i64 st, .slice pa pn pc] ∧ ∀ j, 1 ≤ j → j < k → termAt ts ln j)
        case atStart => exact ⟨1, Nat.le_refl _, HPOS.out, rfl, rfl, HX0.out, fun j h1 h2 => by omega⟩
        case round =>
          obtain ⟨k, hk1, hk, hgk, rfl, hX, hall⟩ := hrel
          have HX : Hid (PhAt w wr w.heap.size #[.slice (some ⟨b, off, none⟩) tn tc, .slice na nn nc, .slice la ln lc, .int .i64 st, .slice pa pn pc]) := hX
          have HA : Hid (∀ j, 1 ≤ j → j < k → termAt ts ln j) := hall
          have HGK : Hid (gk = tn - k) := hgk
          clear hX hall hgk HX0
          obtain ⟨m0, m1, m2, m3, m4⟩ := HX.out.cells
          by_cases hlt : k < tn
          · obtain ⟨c0, c1⟩ := HCS.out k hlt _ HX.out.grown
            have hmem : ts.getD k (⟨#[]⟩, 0) ∈ ts := by
              have hk' : k < ts.length := by rw [HTN.out]; exact hlt
              have e : ts.getD k (⟨#[]⟩, 0) = ts[k] := by simp [List.getD, hk']
              rw [e]; exact List.getElem_mem _
            have HC := rIsTerm_any (ts.getD k (⟨#[]⟩, 0)).1 wr (HSZ.out _ hmem)
            have HRF : Hid (¬ termAt ts ln k → r = false) := fun hno => Bool.eq_false_iff.2 fun hh => hno ((HR.out.1 hh).2 k hk1 (by rw [HTN.out]; exact hlt))
            have HTA : Hid (termAt ts ln k ↔ termOK ln (ts.getD k (⟨#[]⟩, 0)) ∧ ∀ k', 1 ≤ k' → k' < k → (ts.getD k' (⟨#[]⟩, 0)).1 ≠ (ts.getD k (⟨#[]⟩, 0)).1) := Iff.rfl
            clear hmem
            generalize hS : (ts.getD k (⟨#[]⟩, 0)).1 = S at *
            generalize hL : (ts.getD k (⟨#[]⟩, 0)).2 = l at *
            have HSL : Hid ((ts.getD k (⟨#[]⟩, 0)).1 = S ∧ (ts.getD k (⟨#[]⟩, 0)).2 = l) := ⟨hS, hL⟩
            clear hS hL
            cases hb : isTextB S with
            | false =>
              rw [hb] at HC
              have hf : r = false := HRF.out fun h => by have := h.1.1; rw [HSL.out.1, hb] at this; cases this
              clear hb
              go_wp2_with (go_at_call 89; refine HC.mono ?_; rintro e w' ⟨rfl, rfl⟩)
              go_quiet (fail)
              go_wp2_with fail
              go_ret
              exact ⟨by first | rfl | (rw [hf]; rfl), grown_trans HX.out.grown (grown_drewN _ _)⟩
            | true =>
              rw [hb] at HC
              by_cases hl0 : l < 0
              · have d1 : decide (l < 0) = true := decide_eq_true hl0
                have hf : r = false := HRF.out fun h => by have := h.1.2.1; rw [HSL.out.2] at this; omega
                clear hb hl0
                go_wp2_with (go_at_call 89; refine HC.mono ?_; rintro e w' ⟨rfl, rfl⟩)
                go_quiet (fail)
                go_wp2_with fail
                go_ret
                exact ⟨by first | rfl | (rw [hf]; rfl), grown_trans HX.out.grown (grown_drewN _ _)⟩
              · have d1 : decide (l < 0) = false := decide_eq_false hl0
                by_cases hl1 : (ln : Int) < l
                · have d2 : decide ((ln : Int) < l) = true := decide_eq_true hl1
                  have hf : r = false := HRF.out fun h => by have := h.1.2.2; rw [HSL.out.2] at this; omega
                  clear hb hl0 hl1
                  go_wp2_with (go_at_call 89; refine HC.mono ?_; rintro e w' ⟨rfl, rfl⟩)
                  go_quiet (fail)
                  go_wp2_with fail
                  go_ret
                  exact ⟨by first | rfl | (rw [hf]; rfl), grown_trans HX.out.grown (grown_drewN _ _)⟩
                · have d2 : decide ((ln : Int) < l) = false := decide_eq_false hl1
                  have HOK : Hid (termOK ln (ts.getD k (⟨#[]⟩, 0))) := ⟨by rw [HSL.out.1]; exact hb, by rw [HSL.out.2]; omega, by rw [HSL.out.2]; omega⟩
                  clear hb hl0 hl1
                  go_wp2_with (go_at_call 89; refine HC.mono ?_; rintro e w' ⟨rfl, rfl⟩)
                  go_quiet (fail)
                  have HX2 : Hid (PhAt w (w'.drewN nq) w.heap.size #[.slice (some ⟨b, off, none⟩) tn tc, .slice na nn nc, .slice la ln lc, .int .i64 st, .slice pa pn pc]) := HX.out.kept (grown_drewN _ _)
                  clear m0 m1 m2 m3 m4 c0 c1 HC HX
                  generalize w'.drewN nq = W at *
                  go_wp2_with fail
                  go_loopg [5] (k - 1) (fun gx i wr => ∃ x : Nat, 1 ≤ x ∧ x ≤ k ∧ gx = k - x ∧ i = .int .i64 x ∧ PhAt w wr w.heap.size #[.slice (some ⟨b, off, none⟩) tn tc, .slice na nn nc, .slice la ln lc, .int .i64 st, .slice pa pn pc] ∧ ∀ j, 1 ≤ j → j < x → (ts.getD j (⟨#[]⟩, 0)).1 ≠ S)
                  case atStart => exact ⟨1, Nat.le_refl _, hk1, rfl, rfl, HX2.out, fun j h1 h2 => by omega⟩
                  case round =>
                    obtain ⟨x, hx1, hx, hgx, rfl, hX, hall⟩ := hrel
                    have HX : Hid (PhAt w wr w.heap.size #[.slice (some ⟨b, off, none⟩) tn tc, .slice na nn nc, .slice la ln lc, .int .i64 st, .slice pa pn pc]) := hX
                    have HY : Hid (∀ j, 1 ≤ j → j < x → (ts.getD j (⟨#[]⟩, 0)).1 ≠ S) := hall
                    have HGX : Hid (gk = k - x) := hgx
                    clear hX hall hgx HX2
                    obtain ⟨m0, m1, m2, m3, m4⟩ := HX.out.cells
                    by_cases hlx : x < k
                    · obtain ⟨c0, _⟩ := HCS.out x (by omega) _ HX.out.grown
                      obtain ⟨c2, _⟩ := HCS.out k hlt _ HX.out.grown
                      rw [HSL.out.1] at c2
                      have HNO : Hid ((ts.getD x (⟨#[]⟩, 0)).1 = S → r = false) := fun e => HRF.out fun h => h.2 x hx1 hlx (by rw [HSL.out.1]; exact e)
                      have HST : Hid ((ts.getD x (⟨#[]⟩, 0)).1 ≠ S → ∀ j, 1 ≤ j → j < x + 1 → (ts.getD j (⟨#[]⟩, 0)).1 ≠ S) := fun hne j h1 h2 => by
                        by_cases e : j = x
                        · rw [e]; exact hne
                        · exact HY.out j h1 (by omega)
                      generalize (ts.getD x (⟨#[]⟩, 0)).1 = T at *
                      by_cases he : T = S
                      · have hf := HNO.out he
                        have d3 := strEq_true he
                        clear he HNO HST
                        go_wp2_with fail
                        go_quiet (fail)
                        go_wp2_with fail
                        go_ret
                        exact ⟨by first | rfl | (rw [hf]; rfl), grown_trans HX.out.grown (grown_drewN _ _)⟩
                      · have d3 := strEq_false he
                        have HS2 : Hid (∀ j, 1 ≤ j → j < x + 1 → (ts.getD j (⟨#[]⟩, 0)).1 ≠ S) := HST.out he
                        clear he HNO HST
                        go_wp2_with fail
                        go_quiet (fail)
                        have HX2 : Hid (PhAt w (wr.drewN nq) w.heap.size #[.slice (some ⟨b, off, none⟩) tn tc, .slice na nn nc, .slice la ln lc, .int .i64 st, .slice pa pn pc]) := HX.out.kept (grown_drewN _ _)
                        clear m0 m1 m2 m3 m4 c0 c2 HX
                        generalize wr.drewN nq = W at *
                        go_wp2_with fail
                        go_roundg (k - (x + 1))
                        case measure => have := HGX.out; omega
                        case rel => exact ⟨x + 1, by omega, by omega, rfl, by go_num, HX2.out, HS2.out⟩
                    · obtain rfl : x = k := by omega
                      have HA2 : Hid (∀ j, 1 ≤ j → j < x + 1 → termAt ts ln j) := fun j h1 h2 => by
                        by_cases e : j = x
                        · rw [e]; exact ⟨HOK.out, fun k' h3 h4 => by rw [HSL.out.1]; exact HY.out k' h3 h4⟩
                        · exact HA.out j h1 (by omega)
                      go_wp2_with fail
                      go_roundg (tn - (x + 1))
                      case measure => have := HGK.out; omega
                      case rel => exact ⟨x + 1, by omega, by omega, rfl, by go_num, HX.out, HA2.out⟩
          · obtain rfl : k = tn := by omega
            have hrt : r = true := HR.out.2 ⟨⟨by rw [HTN.out]; exact HPOS.out, HZ.out⟩, fun i h1 h2 => HA.out i h1 (by rw [← HTN.out]; exact h2)⟩
            go_wp2_with fail
            go_ret
            exact ⟨by first | rfl | (rw [hrt]; rfl), HX.out.grown⟩
      · have hf : r = false := Bool.eq_false_iff.2 fun hh => hl (by rw [(HR.out.1 hh).1.2])
        rw [hs] at c0
        generalize (ts.getD 0 (⟨#[]⟩, 0)).2 = l at *
        have d1 : (l == 0) = false := beq_eq_false_iff_ne.2 hl
        clear hl h0 hs
        go_enter Try.func75, Try.ntmps75
        go_wp2_with fail
        go_ret
        exact ⟨by first | rfl | (rw [hf]; rfl), HX0.out.grown⟩
    · have hf : r = false := Bool.eq_false_iff.2 fun hh => hs (by rw [(HR.out.1 hh).1.2])
      generalize (ts.getD 0 (⟨#[]⟩, 0)).1 = S at *
      have d1 : (S.toList == (ByteArray.mk #[]).toList) = false := strEq_false hs
      have d2 := isEmpty_false hs
      clear h0 hs
      go_enter Try.func75, Try.ntmps75
      go_wp2_with fail
      go_ret
      exact ⟨by first | rfl | (rw [hf]; rfl), HX0.out.grown⟩

end Go.Proofs.Ytdlbeffkgdjihaa
