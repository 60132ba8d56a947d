/-
  levelsHold itself.
-/
import Derived.Test.YtdlbeffkgdjihaaLevelsHold
namespace Go.Proofs.Ytdlbeffkgdjihaa
open Go.RowKit Go.Maps Go.Shelf

attribute [local go_sem] Oper.semAt_some

def levelOK (ts : List (ByteArray × Int)) (lv : List Int) (j : Nat) : Prop := (1 ≤ lv.getD j 0 ∧ lv.getD j 0 ≤ 3) ∧ ∃ t ∈ ts, t.2 = (j : Int) + 1

set_option maxRecDepth 100000 in
set_option maxHeartbeats 1000000 in
theorem levelsHold_any (ta na la pa : Option Addr) (nn pn tc nc lc pc : Nat) (st : Int) (ts : List (ByteArray × Int)) (lv : List Int) (w : World) (hT : TermsAt w ta ts) (hL : IntsAt w la lv) (hn : ts.length ≤ 65) (hlv : lv.length ≤ 17592186044416) (r : Bool) (hr : r = true ↔ ∀ j, j < lv.length → levelOK ts lv j) :
    Calls Try.prog 70 #[.agg #[.slice ta ts.length tc, .slice na nn nc, .slice la lv.length lc, .int .i64 st, .slice pa pn pc]] w fun e w' => e = .returned (.bool r) ∧ w.grownBy w' none := by
  have HT : Hid (TermsAt w ta ts) := hT
  have HL : Hid (IntsAt w la lv) := hL
  obtain ⟨n, hln⟩ : ∃ n, n = lv.length := ⟨_, rfl⟩
  have HLN : Hid (lv.length = n) := hln.symm
  rw [← hln] at hlv hr ⊢
  have HRR : Hid (r = true ↔ ∀ j, j < n → levelOK ts lv j) := hr
  have HN : Hid (ts.length ≤ 65) := hn
  have HX0 : Hid (PhAt w (w.alloc (.cells #[.slice ta ts.length tc, .slice na nn nc, .slice la n lc, .int .i64 st, .slice pa pn pc] 42)) w.heap.size #[.slice ta ts.length tc, .slice na nn nc, .slice la n lc, .int .i64 st, .slice pa pn pc]) := ⟨World.grownBy_alloc _ _ none, heap_alloc_last w _⟩
  clear hT hL hr hln
  go_enter Try.func70, Try.ntmps70
  go_wp2_with fail
  go_loopw [9] (fun i wr => ∃ k : Nat, k ≤ n ∧ i = .int .i64 k ∧ PhAt w wr w.heap.size #[.slice ta ts.length tc, .slice na nn nc, .slice la n lc, .int .i64 st, .slice pa pn pc] ∧ ∀ j, j < k → levelOK ts lv j) (fun i _ => n - (intOf i).toNat)
  case atStart => exact ⟨0, Nat.zero_le _, rfl, HX0.out, fun j hj => absurd hj (Nat.not_lt_zero _)⟩
  case round =>
    obtain ⟨k, hk, rfl, hX, hall⟩ := hrel
    have HX : Hid (PhAt w wr w.heap.size #[.slice ta ts.length tc, .slice na nn nc, .slice la n lc, .int .i64 st, .slice pa pn pc]) := hX
    have HA : Hid (∀ j, j < k → levelOK ts lv j) := hall
    clear hX hall HX0
    by_cases hlt : k < n
    · have hkl : k < lv.length := by rw [HLN.out]; exact hlt
      obtain ⟨bl, off, rfl, hcells⟩ : ∃ b off, la = some ⟨b, off, none⟩ ∧ ∀ i, i < lv.length → wr.cell? ⟨b, off + i, none⟩ = some (.int .i64 (lv.getD i 0)) := by
        rcases HL.out.kept HX.out.grown with h | h
        · subst h; simp at hkl
        · exact h
      have hck := hcells k hkl
      obtain ⟨y, hy⟩ : ∃ y, y = lv.getD k 0 := ⟨_, rfl⟩
      rw [← hy] at hck
      have HY : Hid (y = lv.getD k 0) := hy
      have HRF : Hid (¬ levelOK ts lv k → r = false) := fun hno => Bool.eq_false_iff.2 fun hh => hno (HRR.out.1 hh k hlt)
      have HXA : Hid (∀ o, PhAt w (wr.alloc o) w.heap.size #[.slice ta ts.length tc, .slice na nn nc, .slice (some ⟨bl, off, none⟩) n lc, .int .i64 st, .slice pa pn pc]) := fun o => HX.out.kept (World.grownBy_alloc _ _ none)
      have k0 := fun o => (HXA.out o).cells.1
      have hIS := fun o => isSide_any y (wr.alloc o)
      have HCF : Hid (∀ r', (r' = true ↔ ∃ t ∈ ts, t.2 = (k : Int) + 1) → Calls Try.prog 95 #[.slice ta ts.length tc, .func (.func 94) #[] #[.pointer (some ⟨wr.heap.size, 0, none⟩)]] (wr.alloc (.cells #[.int .i64 k] 3)) fun e w' => e = .returned (.bool r') ∧ (wr.alloc (.cells #[.int .i64 k] 3)).grownBy w' none) := fun r' hr' =>
        containsFunc_any ta tc wr.heap.size ts k _ (HT.out.kept (HXA.out _).grown) HN.out (by rw [cell_of_row _ _ _ _ _ _ (heap_alloc_last wr _)]; rfl) (by omega) r' hr'
      clear hcells hy
      cases hsd : (decide (1 ≤ y) && decide (y ≤ 3)) with
      | false =>
        have hf : r = false := HRF.out fun h => by have h4 := h.1; rw [← HY.out] at h4; simp [h4] at hsd
        clear HX HCF
        go_wp2_with fail
        refine (hIS _).mono ?_
        rintro e w2 ⟨rfl, hw2⟩
        rw [hsd]
        have HG2 : Hid (w.grownBy w2 none) := by rw [hw2]; exact (HXA.out _).grown
        clear hw2 k0
        go_wp2_with fail
        go_ret
        exact ⟨by first | rfl | (rw [hf]; rfl), HG2.out⟩
      | true =>
        by_cases hex : ∃ t ∈ ts, t.2 = (k : Int) + 1
        · have hcf := HCF.out true ⟨fun _ => hex, fun _ => rfl⟩
          have HA2 : Hid (∀ j, j < k + 1 → levelOK ts lv j) := fun j hj => by
            by_cases e : j = k
            · subst e
              refine ⟨?_, hex⟩
              rw [← HY.out]
              simpa using hsd
            · exact HA.out j (by omega)
          clear HX HCF hex
          go_wp2_with (go_at_call 85; refine (hIS _).mono ?_; rintro e w2 ⟨rfl, hw2⟩; subst hw2; rw [hsd])
          refine hcf.mono ?_
          rintro e w3 ⟨rfl, hg3⟩
          have HX3 : Hid (PhAt w w3 w.heap.size #[.slice ta ts.length tc, .slice na nn nc, .slice (some ⟨bl, off, none⟩) n lc, .int .i64 st, .slice pa pn pc]) := (HXA.out _).kept hg3
          clear hg3 hcf k0 hIS
          go_wp2_with fail
          go_roundw
          case rel => exact ⟨k + 1, by omega, by go_num, HX3.out, HA2.out⟩
          case measure => simp [intOf]; omega
        · have hcf := HCF.out false ⟨fun h => absurd h (by decide), fun h => absurd h hex⟩
          have hf : r = false := HRF.out fun h => hex h.2
          clear HX HCF hex
          go_wp2_with (go_at_call 85; refine (hIS _).mono ?_; rintro e w2 ⟨rfl, hw2⟩; subst hw2; rw [hsd])
          refine hcf.mono ?_
          rintro e w3 ⟨rfl, hg3⟩
          have HG3 : Hid (w.grownBy w3 none) := grown_trans (HXA.out _).grown hg3
          clear hg3 hcf k0 hIS
          go_wp2_with fail
          go_ret
          exact ⟨by first | rfl | (rw [hf]; rfl), HG3.out⟩
    · obtain rfl : k = n := by omega
      have hrt : r = true := HRR.out.2 HA.out
      have HG : Hid (w.grownBy wr none) := HX.out.grown
      clear HA HX
      go_wp2_with fail
      go_ret
      exact ⟨by first | rfl | (rw [hrt]; rfl), HG.out⟩

end Go.Proofs.Ytdlbeffkgdjihaa
