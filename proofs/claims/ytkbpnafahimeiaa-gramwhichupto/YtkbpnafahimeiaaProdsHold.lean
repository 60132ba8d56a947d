/-
  prodsHold, walked: each production's left side is a nonterminal, its level one, its right side's symbols terminals or nonterminals.
-/
import Derived.Test.YtkbpnafahimeiaaTermsHold
import Derived.Deep.LoopGhost
namespace Go.Proofs.Ytkbpnafahimeiaa
open Go.RowKit Go.Maps Go.Shelf

attribute [local go_sem] Oper.semAt_some

def isNonI (tn nn ad : Nat) (x : Int) : Prop := (tn : Int) + ad ≤ x ∧ x < (tn : Int) + nn
def isSymI (tn nn ad : Nat) (x : Int) : Prop := (0 < x ∧ x < tn) ∨ isNonI tn nn ad x
def prodOK (tn nn ln ad : Nat) (L : Int) (R : List Int) (V : Int) : Prop := isNonI tn nn ad L ∧ (0 ≤ V ∧ V ≤ ln) ∧ ∀ x ∈ R, isSymI tn nn ad x

/-- The grammar's box, and all that was, stand. -/
structure PhAt (w wr : World) (Bg : Nat) (cs : Array Value) : Prop where
  grown : w.grownBy wr none
  box : wr.heap[Bg]? = some (.cells cs 42 (0, 0))
theorem PhAt.kept {w wr wx : World} {Bg : Nat} {cs : Array Value} (h : PhAt w wr Bg cs) (hg : wr.grownBy wx none) : PhAt w wx Bg cs :=
  ⟨grown_trans h.grown hg, (hg.block Bg (Array.getElem?_eq_some_iff.1 h.box).1 (by simp)).trans h.box⟩
theorem PhAt.cells {w wr : World} {Bg : Nat} {v0 v1 v2 v3 v4 : Value} (h : PhAt w wr Bg #[v0, v1, v2, v3, v4]) : wr.cell? ⟨Bg, 0, none⟩ = some v0 ∧ wr.cell? ⟨Bg, 1, none⟩ = some v1 ∧ wr.cell? ⟨Bg, 2, none⟩ = some v2 ∧ wr.cell? ⟨Bg, 3, none⟩ = some v3 ∧ wr.cell? ⟨Bg, 4, none⟩ = some v4 := by
  refine ⟨?_, ?_, ?_, ?_, ?_⟩ <;> rw [cell_of_row _ _ _ _ _ _ h.box] <;> rfl

set_option maxRecDepth 100000 in
set_option maxHeartbeats 1000000 in
theorem prodsHold_any (ta na la pa qa : Option Addr) (tn nn ln pn tc nc lc pc n qc ad : Nat) (st : Int) (L : Nat → Int) (R : Nat → List Int) (ra : Nat → Option Addr) (rc : Nat → Nat) (V : Nat → Int) (w : World) (hP : ProdsAt w qa n L R ra rc V) (hn : n ≤ 97) (ht : tn ≤ 140737488355328) (hnn : nn ≤ 140737488355328) (had : ad ≤ 1)
    (r : Bool) (hr : r = true ↔ ∀ i, i < n → prodOK tn nn ln ad (L i) (R i) (V i)) :
    Calls Try.prog 67 #[.agg #[.slice ta tn tc, .slice na nn nc, .slice la ln lc, .int .i64 st, .slice pa pn pc], .slice qa n qc, .int .i64 ad] w fun e w' => e = .returned (.bool r) ∧ w.grownBy w' none := by
  have HP : Hid (ProdsAt w qa n L R ra rc V) := hP
  have HRR : Hid (r = true ↔ ∀ i, i < n → prodOK tn nn ln ad (L i) (R i) (V i)) := hr
  clear hP hr
  have HX0 : Hid (PhAt w (w.alloc (.cells #[.slice ta tn tc, .slice na nn nc, .slice la ln lc, .int .i64 st, .slice pa pn pc] 42)) w.heap.size #[.slice ta tn tc, .slice na nn nc, .slice la ln lc, .int .i64 st, .slice pa pn pc]) := ⟨World.grownBy_alloc _ _ none, heap_alloc_last w _⟩
  go_enter Try.func67, Try.ntmps67
  go_wp2_with fail
  go_loopg [13] n (fun gk i wr => ∃ k : Nat, k ≤ n ∧ gk = n - k ∧ i = .int .i64 k ∧ PhAt w wr w.heap.size #[.slice ta tn tc, .slice na nn nc, .slice la ln lc, .int .i64 st, .slice pa pn pc] ∧ ∀ j, j < k → prodOK tn nn ln ad (L j) (R j) (V j))
  case atStart => exact ⟨0, Nat.zero_le _, rfl, rfl, HX0.out, fun j hj => absurd hj (Nat.not_lt_zero _)⟩
  case round =>
    obtain ⟨k, hk, hgk, rfl, hX, hall⟩ := hrel
    have HX : Hid (PhAt w wr w.heap.size #[.slice ta tn tc, .slice na nn nc, .slice la ln lc, .int .i64 st, .slice pa pn pc]) := hX
    have HA : Hid (∀ j, j < k → prodOK tn nn ln ad (L j) (R j) (V j)) := hall
    have HGK : Hid (gk = n - k) := hgk
    clear hX hall hgk HX0
    by_cases hlt : k < n
    · obtain ⟨bp, off, rfl, hcs⟩ : ∃ b off, qa = some ⟨b, off, none⟩ ∧ ∀ k, k < n → w.cell? ⟨b, off + k * 3, none⟩ = some (.int .i64 (L k)) ∧ w.cell? ⟨b, off + k * 3 + 1, none⟩ = some (.slice (ra k) (R k).length (rc k)) ∧ w.cell? ⟨b, off + k * 3 + 2, none⟩ = some (.int .i64 (V k)) ∧ IntsAt w (ra k) (R k) ∧ (ra k = none → rc k = 0) ∧ (R k).length ≤ 17592186044416 := by
        rcases HP.out with h | h
        · omega
        · exact h
      obtain ⟨h1, h2, h3, hI, _, hlen⟩ := hcs k hlt
      have d0 := HX.out.grown.cell h1 (by simp)
      have d1 := HX.out.grown.cell h2 (by simp)
      have d2 := HX.out.grown.cell h3 (by simp)
      have HI : Hid (IntsAt w (ra k) (R k)) := hI
      have HRF : Hid (¬ prodOK tn nn ln ad (L k) (R k) (V k) → r = false) := fun hno => Bool.eq_false_iff.2 fun hh => hno (HRR.out.1 hh k hlt)
      clear hcs h1 h2 h3 hI
      obtain ⟨Lk, hLk⟩ : ∃ x, x = L k := ⟨_, rfl⟩
      obtain ⟨Vk, hVk⟩ : ∃ x, x = V k := ⟨_, rfl⟩
      rw [← hLk] at d0 HRF
      rw [← hVk] at d2 HRF
      have HLV : Hid (Lk = L k ∧ Vk = V k) := ⟨hLk, hVk⟩
      clear hLk hVk
      have HXA : Hid (∀ o, PhAt w (wr.alloc o) w.heap.size #[.slice ta tn tc, .slice na nn nc, .slice la ln lc, .int .i64 st, .slice pa pn pc]) := fun o => HX.out.kept (World.grownBy_alloc _ _ none)
      have k0 := fun o => (HXA.out o).cells.1
      have k1 := fun o => (HXA.out o).cells.2.1
      have k2 := fun o => (HXA.out o).cells.2.2.1
      have k3 := fun o => (HXA.out o).cells.2.2.2.1
      have k4 := fun o => (HXA.out o).cells.2.2.2.2
      have HIN := fun o => isNonOf_any ta na la pa tn nn ln pn tc nc lc pc ad st Lk (wr.alloc o) ht hnn had
      cases hlf : (decide ((tn : Int) + ad ≤ Lk) && decide (Lk < (tn : Int) + nn)) with
      | false =>
        have hf : r = false := HRF.out fun h => by have h4 := h.1; simp [isNonI] at h4; simp [h4] at hlf
        clear HX
        go_wp2_with fail
        refine (HIN _).mono ?_
        rintro e w2 ⟨rfl, hg2⟩
        rw [hlf]
        have HG2 : Hid (w.grownBy w2 none) := grown_trans (HXA.out _).grown hg2
        clear hg2 HIN k0 k1 k2 k3 k4 HXA
        go_wp2_with fail
        go_ret
        exact ⟨by first | rfl | (rw [hf]; rfl), HG2.out⟩
      | true =>
        clear HX
        go_wp2_with fail
        refine (HIN _).mono ?_
        rintro e w2 ⟨rfl, hg2⟩
        rw [hlf]
        have hX2 := (HXA.out _).kept hg2
        have q1 : w2.cell? ⟨wr.heap.size, 1, none⟩ = some (.slice (ra k) (R k).length (rc k)) := hg2.cell (by rw [cell_of_row _ _ _ _ _ _ (heap_alloc_last wr _)]; rfl) (by simp)
        have q2 : w2.cell? ⟨wr.heap.size, 2, none⟩ = some (.int .i64 Vk) := hg2.cell (by rw [cell_of_row _ _ _ _ _ _ (heap_alloc_last wr _)]; rfl) (by simp)
        obtain ⟨m0, m1, m2, m3, m4⟩ := hX2.cells
        have HX2 : Hid (PhAt w w2 w.heap.size #[.slice ta tn tc, .slice na nn nc, .slice la ln lc, .int .i64 st, .slice pa pn pc]) := hX2
        have HIL := isLevel_any ta na la pa tn nn ln pn tc nc lc pc st Vk w2
        clear hg2 HIN k0 k1 k2 k3 k4 HXA hX2 d0 d1 d2
        cases hlv : (decide (0 ≤ Vk) && decide (Vk ≤ (ln : Int))) with
        | false =>
          have hf : r = false := HRF.out fun h => by have h4 := h.2.1; simp [h4] at hlv
          rw [hlv] at HIL
          go_wp2_with fail
          refine HIL.mono ?_
          rintro e w3 ⟨rfl, hg3⟩
          have HG3 : Hid (w.grownBy w3 none) := grown_trans HX2.out.grown hg3
          clear hg3 HIL
          go_wp2_with fail
          go_ret
          exact ⟨by first | rfl | (rw [hf]; rfl), HG3.out⟩
        | true =>
          rw [hlv] at HIL
          go_wp2_with fail
          refine HIL.mono ?_
          rintro e w3 ⟨rfl, hg3⟩
          have q3 : w3.cell? ⟨wr.heap.size, 1, none⟩ = some (.slice (ra k) (R k).length (rc k)) := hg3.cell q1 (by simp)
          have HX3 : Hid (PhAt w w3 w.heap.size #[.slice ta tn tc, .slice na nn nc, .slice la ln lc, .int .i64 st, .slice pa pn pc]) := HX2.out.kept hg3
          have HOK : Hid (isNonI tn nn ad Lk ∧ 0 ≤ Vk ∧ Vk ≤ (ln : Int)) := by
            simp at hlf hlv
            exact ⟨hlf, hlv⟩
          clear hg3 HIL q1 q2 m0 m1 m2 m3 m4 HX2 hlf hlv
          go_wp2_with fail
          obtain ⟨len, hle⟩ : ∃ len, len = (R k).length := ⟨_, rfl⟩
          have HLE : Hid ((R k).length = len) := hle.symm
          rw [← hle] at hlen ⊢
          clear hle q3
          obtain ⟨ak, hak⟩ : ∃ ak, ak = ra k := ⟨_, rfl⟩
          rw [← hak] at HI ⊢
          clear hak
          go_loopg [33] len (fun gx i wr => ∃ x : Nat, x ≤ len ∧ gx = len - x ∧ i = .int .i64 x ∧ PhAt w wr w.heap.size #[.slice ta tn tc, .slice na nn nc, .slice la ln lc, .int .i64 st, .slice pa pn pc] ∧ ∀ y ∈ (R k).take x, isSymI tn nn ad y)
          case atStart => exact ⟨0, Nat.zero_le _, rfl, rfl, HX3.out, fun y hy => by simp at hy⟩
          case round =>
            obtain ⟨x, hx, hgx, rfl, hX, hall⟩ := hrel
            have HX : Hid (PhAt w wr w.heap.size #[.slice ta tn tc, .slice na nn nc, .slice la ln lc, .int .i64 st, .slice pa pn pc]) := hX
            have HY : Hid (∀ y ∈ (R k).take x, isSymI tn nn ad y) := hall
            have HGX : Hid (gk = len - x) := hgx
            clear hX hall hgx HX3
            by_cases hlx : x < len
            · have hxl : x < (R k).length := by rw [HLE.out]; exact hlx
              obtain ⟨bl, of2, rfl, hcs⟩ : ∃ b off, ak = some ⟨b, off, none⟩ ∧ ∀ i, i < (R k).length → wr.cell? ⟨b, off + i, none⟩ = some (.int .i64 ((R k).getD i 0)) := by
                rcases HI.out.kept HX.out.grown with h | h
                · rw [h] at hxl; simp at hxl
                · exact h
              have hch := hcs x hxl
              have hmem : (R k).getD x 0 ∈ R k := by
                have e : (R k).getD x 0 = (R k)[x] := by simp [List.getD, hxl]
                rw [e]; exact List.getElem_mem _
              have htk : (R k).take (x + 1) = (R k).take x ++ [(R k).getD x 0] := by rw [List.take_succ_eq_append_getElem hxl]; simp [List.getD, hxl]
              obtain ⟨h, hh⟩ : ∃ h, h = (R k).getD x 0 := ⟨_, rfl⟩
              rw [← hh] at hch hmem htk
              have HST : Hid (isSymI tn nn ad h → ∀ y ∈ (R k).take (x + 1), isSymI tn nn ad y) := fun hs y hy => by
                rw [htk] at hy
                rcases List.mem_append.1 hy with hy | hy
                · exact HY.out y hy
                · simp only [List.mem_singleton] at hy; rw [hy]; exact hs
              have HNO : Hid (¬ isSymI tn nn ad h → r = false) := fun hno => HRF.out fun hp => hno (hp.2.2 h hmem)
              clear hcs hmem htk hh
              obtain ⟨m0, m1, m2, m3, m4⟩ := HX.out.cells
              have HIT := isTermOf_any ta na la pa tn nn ln pn tc nc lc pc st h wr
              cases htf : (decide (0 < h) && decide (h < (tn : Int))) with
              | true =>
                rw [htf] at HIT
                have HS : Hid (∀ y ∈ (R k).take (x + 1), isSymI tn nn ad y) := HST.out (.inl (by simpa using htf))
                go_wp2_with fail
                refine HIT.mono ?_
                rintro e w4 ⟨rfl, hg4⟩
                have HX4 : Hid (PhAt w w4 w.heap.size #[.slice ta tn tc, .slice na nn nc, .slice la ln lc, .int .i64 st, .slice pa pn pc]) := HX.out.kept hg4
                clear hg4 HIT m0 m1 m2 m3 m4 HX
                go_wp2_with fail
                go_roundg (len - (x + 1))
                case measure => have := HGX.out; omega
                case rel => exact ⟨x + 1, by omega, rfl, by go_num, HX4.out, HS.out⟩
              | false =>
                rw [htf] at HIT
                go_wp2_with fail
                refine HIT.mono ?_
                rintro e w4 ⟨rfl, hg4⟩
                have HX4 : Hid (PhAt w w4 w.heap.size #[.slice ta tn tc, .slice na nn nc, .slice la ln lc, .int .i64 st, .slice pa pn pc]) := HX.out.kept hg4
                clear hg4 HIT m0 m1 m2 m3 m4 HX
                obtain ⟨m0, m1, m2, m3, m4⟩ := HX4.out.cells
                have HIN := isNonOf_any ta na la pa tn nn ln pn tc nc lc pc ad st h w4 ht hnn had
                cases hnf : (decide ((tn : Int) + ad ≤ h) && decide (h < (tn : Int) + nn)) with
                | true =>
                  rw [hnf] at HIN
                  have HS : Hid (∀ y ∈ (R k).take (x + 1), isSymI tn nn ad y) := HST.out (.inr (by simp at hnf; exact hnf))
                  go_wp2_with fail
                  refine HIN.mono ?_
                  rintro e w5 ⟨rfl, hg5⟩
                  have HX5 : Hid (PhAt w w5 w.heap.size #[.slice ta tn tc, .slice na nn nc, .slice la ln lc, .int .i64 st, .slice pa pn pc]) := HX4.out.kept hg5
                  clear hg5 HIN m0 m1 m2 m3 m4 HX4
                  go_wp2_with fail
                  go_roundg (len - (x + 1))
                  case measure => have := HGX.out; omega
                  case rel => exact ⟨x + 1, by omega, rfl, by go_num, HX5.out, HS.out⟩
                | false =>
                  rw [hnf] at HIN
                  have hf : r = false := HNO.out fun hs => by
                    rcases hs with hs | hs
                    · simp [hs] at htf
                    · have h4 : (tn : Int) + ad ≤ h ∧ h < (tn : Int) + nn := hs
                      simp [h4] at hnf
                  go_wp2_with fail
                  refine HIN.mono ?_
                  rintro e w5 ⟨rfl, hg5⟩
                  have HG5 : Hid (w.grownBy w5 none) := grown_trans HX4.out.grown hg5
                  clear hg5 HIN m0 m1 m2 m3 m4 HX4
                  go_wp2_with fail
                  go_ret
                  exact ⟨by first | rfl | (rw [hf]; rfl), HG5.out⟩
            · obtain rfl : x = len := by omega
              have ht2 : (R k).take x = R k := List.take_of_length_le (Nat.le_of_eq HLE.out)
              have HA2 : Hid (∀ j, j < k + 1 → prodOK tn nn ln ad (L j) (R j) (V j)) := fun j hj => by
                by_cases e : j = k
                · subst e
                  have h4 := HY.out
                  rw [ht2] at h4
                  rw [← HLV.out.1, ← HLV.out.2]
                  exact ⟨HOK.out.1, HOK.out.2, h4⟩
                · exact HA.out j (by omega)
              clear ht2
              go_wp2_with fail
              go_roundg (n - (k + 1))
              case measure => have := HGK.out; omega
              case rel => exact ⟨k + 1, by omega, rfl, by go_num, HX.out, HA2.out⟩
    · obtain rfl : k = n := by omega
      have hrt : r = true := HRR.out.2 HA.out
      have HG : Hid (w.grownBy wr none) := HX.out.grown
      clear HA HX
      go_wp2_with fail
      go_ret
      exact ⟨by first | rfl | (rw [hrt]; rfl), HG.out⟩

end Go.Proofs.Ytkbpnafahimeiaa
