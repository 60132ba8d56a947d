import Derived.Test.YtkhmhcinepfemaaQdeadaencjani
import Derived.Deep.LoopGhost
import Derived.Test.YtkhmhcinepfemaaQggfplfgpohnb
import Derived.BigQuiet
import Derived.Deep.MidRow
import Derived.Deep.WholeRow
import Derived.Test.YtkhmhcinepfemaaQdfgafndcgglo

/-
  prodsHold, walked: each production's left side is a nonterminal, its level one, its right side's symbols terminals or nonterminals.
-/
namespace Go.Proofs.Ytkhmhcinepfemaa
open Go.RowKit Go.Maps Go.Shelf

attribute [local go_sem] Oper.semAt_some

def isNonI (tn nn ad : Nat) (x : Int) : Prop := (tn : Int) + ad ≤ x ∧ x < (tn : Int) + nn
def isSymI (tn nn ad : Nat) (x : Int) : Prop := (0 < x ∧ x < tn) ∨ isNonI tn nn ad x
def prodOK (tn nn ln ad : Nat) (L : Int) (R : List Int) (V : Int) : Prop := isNonI tn nn ad L ∧ (0 ≤ V ∧ V ≤ ln) ∧ ∀ x ∈ R, isSymI tn nn ad x

/-- The grammar's box, and all that was, stand. -/
structure PhAt (w wr : World) (Bg : Nat) (cs : Array Value) : Prop where
  grown : w.grownBy wr none
  box : wr.heap[Bg]? = some (.cells cs 27 (0, 0))
theorem PhAt.kept {w wr wx : World} {Bg : Nat} {cs : Array Value} (h : PhAt w wr Bg cs) (hg : wr.grownBy wx none) : PhAt w wx Bg cs :=
  ⟨grown_trans h.grown hg, (hg.block Bg (Array.getElem?_eq_some_iff.1 h.box).1 (by simp)).trans h.box⟩
theorem PhAt.cells {w wr : World} {Bg : Nat} {v0 v1 v2 v3 v4 : Value} (h : PhAt w wr Bg #[v0, v1, v2, v3, v4]) : wr.cell? ⟨Bg, 0, none⟩ = some v0 ∧ wr.cell? ⟨Bg, 1, none⟩ = some v1 ∧ wr.cell? ⟨Bg, 2, none⟩ = some v2 ∧ wr.cell? ⟨Bg, 3, none⟩ = some v3 ∧ wr.cell? ⟨Bg, 4, none⟩ = some v4 := by
  refine ⟨?_, ?_, ?_, ?_, ?_⟩ <;> rw [cell_of_row _ _ _ _ _ _ h.box] <;> rfl

set_option maxRecDepth 100000 in
set_option maxHeartbeats 1000000 in
theorem prodsHold_any (ta na la pa qa : Option Addr) (tn nn ln pn tc nc lc pc n qc ad : Nat) (st : Int) (L : Nat → Int) (R : Nat → List Int) (ra : Nat → Option Addr) (rc : Nat → Nat) (V : Nat → Int) (w : World) (hP : ProdsAt w qa n L R ra rc V) (hn : n ≤ 97) (ht : tn ≤ 140737488355328) (hnn : nn ≤ 140737488355328) (had : ad ≤ 1)
    (r : Bool) (hr : r = true ↔ ∀ i, i < n → prodOK tn nn ln ad (L i) (R i) (V i)) :
    Calls Try.prog 73 #[.agg #[.slice ta tn tc, .slice na nn nc, .slice la ln lc, .int .i64 st, .slice pa pn pc], .slice qa n qc, .int .i64 ad] w fun e w' => e = .returned (.bool r) ∧ w.grownBy w' none := by
  have HP : Hid (ProdsAt w qa n L R ra rc V) := hP
  have HRR : Hid (r = true ↔ ∀ i, i < n → prodOK tn nn ln ad (L i) (R i) (V i)) := hr
  clear hP hr
  have HX0 : Hid (PhAt w (w.alloc (.cells #[.slice ta tn tc, .slice na nn nc, .slice la ln lc, .int .i64 st, .slice pa pn pc] 27)) w.heap.size #[.slice ta tn tc, .slice na nn nc, .slice la ln lc, .int .i64 st, .slice pa pn pc]) := ⟨World.grownBy_alloc _ _ none, heap_alloc_last w _⟩
  go_enter Try.func73, Try.ntmps73
  go_wp2_with fail
  go_loopg [13] n (fun gk i wr => ∃ k : Nat, k ≤ n ∧ gk = n - k ∧ i = .int .i64 k ∧ PhAt w wr w.heap.size #[.slice ta tn tc, .slice na nn nc, .slice la ln lc, .int .i64 st, .slice pa pn pc] ∧ ∀ j, j < k → prodOK tn nn ln ad (L j) (R j) (V j))
  case atStart => exact ⟨0, Nat.zero_le _, rfl, rfl, HX0.out, fun j hj => absurd hj (Nat.not_lt_zero _)⟩
  case round =>
    obtain ⟨k, hk, hgk, rfl, hX, hall⟩ := hrel
    have HX : Hid (PhAt w wr w.heap.size #[.slice ta tn tc, .slice na nn nc, .slice la ln lc, .int .i64 st, .slice pa pn pc]) := hX
    have HA : Hid (∀ j, j < k → prodOK tn nn ln ad (L j) (R j) (V j)) := hall
    have HGK : Hid (gk = n - k) := hgk
    clear hX hall hgk HX0
    by_cases hlt : k < n
    · obtain ⟨bp, off, rfl, hcs⟩ : ∃ b off, qa = some ⟨b, off, none⟩ ∧ ∀ k, k < n → w.cell? ⟨b, off + k * 3, none⟩ = some (.int .i64 (L k)) ∧ w.cell? ⟨b, off + k * 3 + 1, none⟩ = some (.slice (ra k) (R k).length (rc k)) ∧ w.cell? ⟨b, off + k * 3 + 2, none⟩ = some (.int .i64 (V k)) ∧ IntsAt w (ra k) (R k) ∧ (ra k = none → rc k = 0) ∧ (R k).length ≤ 17592186044416 := by
        rcases HP.out with h | h
        · omega
        · exact h
      obtain ⟨h1, h2, h3, hI, _, hlen⟩ := hcs k hlt
      have d0 := HX.out.grown.cell h1 (by simp)
      have d1 := HX.out.grown.cell h2 (by simp)
      have d2 := HX.out.grown.cell h3 (by simp)
      have HI : Hid (IntsAt w (ra k) (R k)) := hI
      have HRF : Hid (¬ prodOK tn nn ln ad (L k) (R k) (V k) → r = false) := fun hno => Bool.eq_false_iff.2 fun hh => hno (HRR.out.1 hh k hlt)
      clear hcs h1 h2 h3 hI
      obtain ⟨Lk, hLk⟩ : ∃ x, x = L k := ⟨_, rfl⟩
      obtain ⟨Vk, hVk⟩ : ∃ x, x = V k := ⟨_, rfl⟩
      rw [← hLk] at d0 HRF
      rw [← hVk] at d2 HRF
      have HLV : Hid (Lk = L k ∧ Vk = V k) := ⟨hLk, hVk⟩
      clear hLk hVk
      have HXA : Hid (∀ o, PhAt w (wr.alloc o) w.heap.size #[.slice ta tn tc, .slice na nn nc, .slice la ln lc, .int .i64 st, .slice pa pn pc]) := fun o => HX.out.kept (World.grownBy_alloc _ _ none)
      have k0 := fun o => (HXA.out o).cells.1
      have k1 := fun o => (HXA.out o).cells.2.1
      have k2 := fun o => (HXA.out o).cells.2.2.1
      have k3 := fun o => (HXA.out o).cells.2.2.2.1
      have k4 := fun o => (HXA.out o).cells.2.2.2.2
      have HIN := fun o => isNonOf_any ta na la pa tn nn ln pn tc nc lc pc ad st Lk (wr.alloc o) ht hnn had
      cases hlf : (decide ((tn : Int) + ad ≤ Lk) && decide (Lk < (tn : Int) + nn)) with
      | false =>
        have hf : r = false := HRF.out fun h => by have h4 := h.1; simp [isNonI] at h4; simp [h4] at hlf
        clear HX
        go_wp2_with fail
        refine (HIN _).mono ?_
        rintro e w2 ⟨rfl, hg2⟩
        rw [hlf]
        have HG2 : Hid (w.grownBy w2 none) := grown_trans (HXA.out _).grown hg2
        clear hg2 HIN k0 k1 k2 k3 k4 HXA
        go_wp2_with fail
        go_ret
        exact ⟨by first | rfl | (rw [hf]; rfl), HG2.out⟩
      | true =>
        clear HX
        go_wp2_with fail
        refine (HIN _).mono ?_
        rintro e w2 ⟨rfl, hg2⟩
        rw [hlf]
        have hX2 := (HXA.out _).kept hg2
        have q1 : w2.cell? ⟨wr.heap.size, 1, none⟩ = some (.slice (ra k) (R k).length (rc k)) := hg2.cell (by rw [cell_of_row _ _ _ _ _ _ (heap_alloc_last wr _)]; rfl) (by simp)
        have q2 : w2.cell? ⟨wr.heap.size, 2, none⟩ = some (.int .i64 Vk) := hg2.cell (by rw [cell_of_row _ _ _ _ _ _ (heap_alloc_last wr _)]; rfl) (by simp)
        obtain ⟨m0, m1, m2, m3, m4⟩ := hX2.cells
        have HX2 : Hid (PhAt w w2 w.heap.size #[.slice ta tn tc, .slice na nn nc, .slice la ln lc, .int .i64 st, .slice pa pn pc]) := hX2
        have HIL := isLevel_any ta na la pa tn nn ln pn tc nc lc pc st Vk w2
        clear hg2 HIN k0 k1 k2 k3 k4 HXA hX2 d0 d1 d2
        cases hlv : (decide (0 ≤ Vk) && decide (Vk ≤ (ln : Int))) with
        | false =>
          have hf : r = false := HRF.out fun h => by have h4 := h.2.1; simp [h4] at hlv
          rw [hlv] at HIL
          go_wp2_with fail
          refine HIL.mono ?_
          rintro e w3 ⟨rfl, hg3⟩
          have HG3 : Hid (w.grownBy w3 none) := grown_trans HX2.out.grown hg3
          clear hg3 HIL
          go_wp2_with fail
          go_ret
          exact ⟨by first | rfl | (rw [hf]; rfl), HG3.out⟩
        | true =>
          rw [hlv] at HIL
          go_wp2_with fail
          refine HIL.mono ?_
          rintro e w3 ⟨rfl, hg3⟩
          have q3 : w3.cell? ⟨wr.heap.size, 1, none⟩ = some (.slice (ra k) (R k).length (rc k)) := hg3.cell q1 (by simp)
          have HX3 : Hid (PhAt w w3 w.heap.size #[.slice ta tn tc, .slice na nn nc, .slice la ln lc, .int .i64 st, .slice pa pn pc]) := HX2.out.kept hg3
          have HOK : Hid (isNonI tn nn ad Lk ∧ 0 ≤ Vk ∧ Vk ≤ (ln : Int)) := by
            simp at hlf hlv
            exact ⟨hlf, hlv⟩
          clear hg3 HIL q1 q2 m0 m1 m2 m3 m4 HX2 hlf hlv
          go_wp2_with fail
          obtain ⟨len, hle⟩ : ∃ len, len = (R k).length := ⟨_, rfl⟩
          have HLE : Hid ((R k).length = len) := hle.symm
          rw [← hle] at hlen ⊢
          clear hle q3
          obtain ⟨ak, hak⟩ : ∃ ak, ak = ra k := ⟨_, rfl⟩
          rw [← hak] at HI ⊢
          clear hak
          go_loopg [33] len (fun gx i wr => ∃ x : Nat, x ≤ len ∧ gx = len - x ∧ i = .int .i64 x ∧ PhAt w wr w.heap.size #[.slice ta tn tc, .slice na nn nc, .slice la ln lc, .int .i64 st, .slice pa pn pc] ∧ ∀ y ∈ (R k).take x, isSymI tn nn ad y)
          case atStart => exact ⟨0, Nat.zero_le _, rfl, rfl, HX3.out, fun y hy => by simp at hy⟩
          case round =>
            obtain ⟨x, hx, hgx, rfl, hX, hall⟩ := hrel
            have HX : Hid (PhAt w wr w.heap.size #[.slice ta tn tc, .slice na nn nc, .slice la ln lc, .int .i64 st, .slice pa pn pc]) := hX
            have HY : Hid (∀ y ∈ (R k).take x, isSymI tn nn ad y) := hall
            have HGX : Hid (gk = len - x) := hgx
            clear hX hall hgx HX3
            by_cases hlx : x < len
            · have hxl : x < (R k).length := by rw [HLE.out]; exact hlx
              obtain ⟨bl, of2, rfl, hcs⟩ : ∃ b off, ak = some ⟨b, off, none⟩ ∧ ∀ i, i < (R k).length → wr.cell? ⟨b, off + i, none⟩ = some (.int .i64 ((R k).getD i 0)) := by
                rcases HI.out.kept HX.out.grown with h | h
                · rw [h] at hxl; simp at hxl
                · exact h
              have hch := hcs x hxl
              have hmem : (R k).getD x 0 ∈ R k := by
                have e : (R k).getD x 0 = (R k)[x] := by simp [List.getD, hxl]
                rw [e]; exact List.getElem_mem _
              have htk : (R k).take (x + 1) = (R k).take x ++ [(R k).getD x 0] := by rw [List.take_succ_eq_append_getElem hxl]; simp [List.getD, hxl]
              obtain ⟨h, hh⟩ : ∃ h, h = (R k).getD x 0 := ⟨_, rfl⟩
              rw [← hh] at hch hmem htk
              have HST : Hid (isSymI tn nn ad h → ∀ y ∈ (R k).take (x + 1), isSymI tn nn ad y) := fun hs y hy => by
                rw [htk] at hy
                rcases List.mem_append.1 hy with hy | hy
                · exact HY.out y hy
                · simp only [List.mem_singleton] at hy; rw [hy]; exact hs
              have HNO : Hid (¬ isSymI tn nn ad h → r = false) := fun hno => HRF.out fun hp => hno (hp.2.2 h hmem)
              clear hcs hmem htk hh
              obtain ⟨m0, m1, m2, m3, m4⟩ := HX.out.cells
              have HIT := isTermOf_any ta na la pa tn nn ln pn tc nc lc pc st h wr
              cases htf : (decide (0 < h) && decide (h < (tn : Int))) with
              | true =>
                rw [htf] at HIT
                have HS : Hid (∀ y ∈ (R k).take (x + 1), isSymI tn nn ad y) := HST.out (.inl (by simpa using htf))
                go_wp2_with fail
                refine HIT.mono ?_
                rintro e w4 ⟨rfl, hg4⟩
                have HX4 : Hid (PhAt w w4 w.heap.size #[.slice ta tn tc, .slice na nn nc, .slice la ln lc, .int .i64 st, .slice pa pn pc]) := HX.out.kept hg4
                clear hg4 HIT m0 m1 m2 m3 m4 HX
                go_wp2_with fail
                go_roundg (len - (x + 1))
                case measure => have := HGX.out; omega
                case rel => exact ⟨x + 1, by omega, rfl, by go_num, HX4.out, HS.out⟩
              | false =>
                rw [htf] at HIT
                go_wp2_with fail
                refine HIT.mono ?_
                rintro e w4 ⟨rfl, hg4⟩
                have HX4 : Hid (PhAt w w4 w.heap.size #[.slice ta tn tc, .slice na nn nc, .slice la ln lc, .int .i64 st, .slice pa pn pc]) := HX.out.kept hg4
                clear hg4 HIT m0 m1 m2 m3 m4 HX
                obtain ⟨m0, m1, m2, m3, m4⟩ := HX4.out.cells
                have HIN := isNonOf_any ta na la pa tn nn ln pn tc nc lc pc ad st h w4 ht hnn had
                cases hnf : (decide ((tn : Int) + ad ≤ h) && decide (h < (tn : Int) + nn)) with
                | true =>
                  rw [hnf] at HIN
                  have HS : Hid (∀ y ∈ (R k).take (x + 1), isSymI tn nn ad y) := HST.out (.inr (by simp at hnf; exact hnf))
                  go_wp2_with fail
                  refine HIN.mono ?_
                  rintro e w5 ⟨rfl, hg5⟩
                  have HX5 : Hid (PhAt w w5 w.heap.size #[.slice ta tn tc, .slice na nn nc, .slice la ln lc, .int .i64 st, .slice pa pn pc]) := HX4.out.kept hg5
                  clear hg5 HIN m0 m1 m2 m3 m4 HX4
                  go_wp2_with fail
                  go_roundg (len - (x + 1))
                  case measure => have := HGX.out; omega
                  case rel => exact ⟨x + 1, by omega, rfl, by go_num, HX5.out, HS.out⟩
                | false =>
                  rw [hnf] at HIN
                  have hf : r = false := HNO.out fun hs => by
                    rcases hs with hs | hs
                    · simp [hs] at htf
                    · have h4 : (tn : Int) + ad ≤ h ∧ h < (tn : Int) + nn := hs
                      simp [h4] at hnf
                  go_wp2_with fail
                  refine HIN.mono ?_
                  rintro e w5 ⟨rfl, hg5⟩
                  have HG5 : Hid (w.grownBy w5 none) := grown_trans HX4.out.grown hg5
                  clear hg5 HIN m0 m1 m2 m3 m4 HX4
                  go_wp2_with fail
                  go_ret
                  exact ⟨by first | rfl | (rw [hf]; rfl), HG5.out⟩
            · obtain rfl : x = len := by omega
              have ht2 : (R k).take x = R k := List.take_of_length_le (Nat.le_of_eq HLE.out)
              have HA2 : Hid (∀ j, j < k + 1 → prodOK tn nn ln ad (L j) (R j) (V j)) := fun j hj => by
                by_cases e : j = k
                · subst e
                  have h4 := HY.out
                  rw [ht2] at h4
                  rw [← HLV.out.1, ← HLV.out.2]
                  exact ⟨HOK.out.1, HOK.out.2, h4⟩
                · exact HA.out j (by omega)
              clear ht2
              go_wp2_with fail
              go_roundg (n - (k + 1))
              case measure => have := HGK.out; omega
              case rel => exact ⟨k + 1, by omega, rfl, by go_num, HX.out, HA2.out⟩
    · obtain rfl : k = n := by omega
      have hrt : r = true := HRR.out.2 HA.out
      have HG : Hid (w.grownBy wr none) := HX.out.grown
      clear HA HX
      go_wp2_with fail
      go_ret
      exact ⟨by first | rfl | (rw [hrt]; rfl), HG.out⟩

end Go.Proofs.Ytkhmhcinepfemaa

/-
  levelsHold itself.
-/
namespace Go.Proofs.Ytkhmhcinepfemaa
open Go.RowKit Go.Maps Go.Shelf

attribute [local go_sem] Oper.semAt_some

theorem isSide_any (x : Int) (w : World) : Calls Try.prog 84 #[.int .i64 x] w fun e w' => e = .returned (.bool (decide (1 ≤ x) && decide (x ≤ 3))) ∧ w' = w := by
  by_cases h0 : 1 ≤ x
  · have hd : decide (1 ≤ x) = true := decide_eq_true h0
    go_enter Try.func84, Try.ntmps84
    go_wp2_with fail
    go_ret
    exact ⟨by simp [h0], rfl⟩
  · have hd : decide (1 ≤ x) = false := decide_eq_false h0
    go_enter Try.func84, Try.ntmps84
    go_wp2_with fail
    go_ret
    exact ⟨by simp, rfl⟩

theorem hasLevel_any (s : ByteArray) (l i : Int) (Bi : Nat) (w : World) (hc : w.cell? ⟨Bi, 0, none⟩ = some (.int .i64 i)) (hb : 0 ≤ i ∧ i ≤ 140737488355328) :
    Calls Try.prog 83 #[.agg #[.string s, .int .i64 l], .pointer (some ⟨Bi, 0, none⟩)] w fun e w' => e = .returned (.bool (l == i + 1)) ∧ w.grownBy w' none := by
  have hc' : ∀ o, (w.alloc o).cell? ⟨Bi, 0, none⟩ = some (.int .i64 i) := fun o => (World.grownBy_alloc w o none).cell hc (by simp)
  go_enter Try.func83, Try.ntmps83
  go_wp2_with fail
  go_ret
  exact ⟨rfl, World.grownBy_alloc _ _ none⟩

set_option maxRecDepth 100000 in
theorem indexFunc_any (a : Option Addr) (cap Bi : Nat) (ts : List (ByteArray × Int)) (i : Int) (w : World) (hl : TermsAt w a ts) (hn : ts.length ≤ 65) (hc : w.cell? ⟨Bi, 0, none⟩ = some (.int .i64 i)) (hb : 0 ≤ i ∧ i ≤ 140737488355328) :
    Calls Try.prog 93 #[.slice a ts.length cap, .func (.func 83) #[] #[.pointer (some ⟨Bi, 0, none⟩)]] w fun e w' => (∃ q : Int, e = .returned (.int .i64 q) ∧ -1 ≤ q ∧ (0 ≤ q ↔ ∃ t ∈ ts, t.2 = i + 1)) ∧ w.grownBy w' none := by
  have HL : Hid (TermsAt w a ts) := hl
  obtain ⟨n, hln⟩ : ∃ n, n = ts.length := ⟨_, rfl⟩
  have HLN : Hid (ts.length = n) := hln.symm
  rw [← hln] at hn ⊢
  have HC : Hid (w.cell? ⟨Bi, 0, none⟩ = some (.int .i64 i)) := hc
  clear hl hln hc
  go_enter Try.func93, Try.ntmps93
  go_wp2_with fail
  go_loopw [8] (fun j wr => ∃ k : Nat, k ≤ n ∧ j = .int .i64 k ∧ w.grownBy wr none ∧ ¬ ∃ t ∈ ts.take k, t.2 = i + 1) (fun j _ => n - (intOf j).toNat)
  case atStart => exact ⟨0, Nat.zero_le _, rfl, grown_refl _ _, by simp⟩
  case round =>
    obtain ⟨k, hk, rfl, hg, hno⟩ := hrel
    have HG : Hid (w.grownBy wr none) := hg
    have HA : Hid (¬ ∃ t ∈ ts.take k, t.2 = i + 1) := hno
    clear hno hg
    by_cases hlt : k < n
    · have hkl : k < ts.length := by rw [HLN.out]; exact hlt
      obtain ⟨bl, off, rfl, hcells⟩ : ∃ b off, a = some ⟨b, off, none⟩ ∧ ∀ i, i < ts.length → wr.cell? ⟨b, off + i * 2, none⟩ = some (.string (ts.getD i (⟨#[]⟩, 0)).1) ∧ wr.cell? ⟨b, off + i * 2 + 1, none⟩ = some (.int .i64 (ts.getD i (⟨#[]⟩, 0)).2) := by
        rcases HL.out.kept HG.out with h | h
        · subst h; simp at hkl
        · exact h
      obtain ⟨h1, h2⟩ := hcells k hkl
      have hmem : ts.getD k (⟨#[]⟩, 0) ∈ ts := by
        have : ts.getD k (⟨#[]⟩, 0) = ts[k] := by simp [List.getD, hkl]
        rw [this]; exact List.getElem_mem _
      have htk : ts.take (k + 1) = ts.take k ++ [ts.getD k (⟨#[]⟩, 0)] := by rw [List.take_succ_eq_append_getElem hkl]; simp [List.getD, hkl]
      generalize ts.getD k (⟨#[]⟩, 0) = t at *
      obtain ⟨s, l⟩ := t
      have hH := hasLevel_any s l i Bi wr (HG.out.cell HC.out (by simp)) hb
      by_cases he : l = i + 1
      · have hbq : (l == i + 1) = true := beq_iff_eq.2 he
        have HM : Hid (∃ t ∈ ts, t.2 = i + 1) := ⟨_, hmem, he⟩
        rw [hbq] at hH
        clear hcells hmem htk he
        go_wp2_with fail
        refine hH.mono ?_
        rintro e w2 ⟨rfl, hg2⟩
        have HG2 : Hid (w.grownBy w2 none) := grown_trans HG.out hg2
        clear hH hg2
        go_wp2_with fail
        go_ret
        exact ⟨⟨k, rfl, by omega, ⟨fun _ => HM.out, fun _ => by omega⟩⟩, HG2.out⟩
      · have hbq : (l == i + 1) = false := beq_eq_false_iff_ne.2 he
        have HA' : Hid (¬ ∃ t ∈ ts.take (k + 1), t.2 = i + 1) := by
          rintro ⟨t, ht, h3⟩
          rw [htk] at ht
          rcases List.mem_append.1 ht with ht | ht
          · exact HA.out ⟨t, ht, h3⟩
          · simp only [List.mem_singleton] at ht; rw [ht] at h3; exact he h3
        rw [hbq] at hH
        clear hcells hmem htk he
        go_wp2_with fail
        refine hH.mono ?_
        rintro e w2 ⟨rfl, hg2⟩
        have HG2 : Hid (w.grownBy w2 none) := grown_trans HG.out hg2
        clear hH hg2
        go_wp2_with fail
        go_roundw
        case rel => exact ⟨k + 1, by omega, by go_num, HG2.out, HA'.out⟩
        case measure => simp [intOf]; omega
    · obtain rfl : k = n := by omega
      have ht : ts.take k = ts := List.take_of_length_le (Nat.le_of_eq HLN.out)
      rw [ht] at HA
      go_wp2_with fail
      go_ret
      exact ⟨⟨-1, rfl, by omega, ⟨fun h => absurd h (by omega), fun h => absurd h HA.out⟩⟩, HG.out⟩

theorem containsFunc_any (a : Option Addr) (cap Bi : Nat) (ts : List (ByteArray × Int)) (i : Int) (w : World) (hl : TermsAt w a ts) (hn : ts.length ≤ 65) (hc : w.cell? ⟨Bi, 0, none⟩ = some (.int .i64 i)) (hb : 0 ≤ i ∧ i ≤ 140737488355328) (r : Bool) (hr : r = true ↔ ∃ t ∈ ts, t.2 = i + 1) :
    Calls Try.prog 85 #[.slice a ts.length cap, .func (.func 83) #[] #[.pointer (some ⟨Bi, 0, none⟩)]] w fun e w' => e = .returned (.bool r) ∧ w.grownBy w' none := by
  have hI := indexFunc_any a cap Bi ts i w hl hn hc hb
  have HR : Hid (r = true ↔ ∃ t ∈ ts, t.2 = i + 1) := hr
  clear hl hc hr
  go_enter Try.func85, Try.ntmps85
  go_wp2_with fail
  refine hI.mono ?_
  rintro e w2 ⟨⟨q, rfl, h1, h2⟩, hg⟩
  have HQ : Hid (decide (0 ≤ q) = r) := by
    show decide (0 ≤ q) = r
    rw [Bool.eq_iff_iff, decide_eq_true_eq, h2, HR.out]
  clear h2 hI
  go_wp2_with fail
  go_ret
  exact ⟨by rw [← HQ.out]; rfl, hg⟩

end Go.Proofs.Ytkhmhcinepfemaa

namespace Go.Proofs.Ytkhmhcinepfemaa
open Go.RowKit Go.Maps Go.Shelf

attribute [local go_sem] Oper.semAt_some

def levelOK (ts : List (ByteArray × Int)) (lv : List Int) (j : Nat) : Prop := (1 ≤ lv.getD j 0 ∧ lv.getD j 0 ≤ 3) ∧ ∃ t ∈ ts, t.2 = (j : Int) + 1

set_option maxRecDepth 100000 in
set_option maxHeartbeats 1000000 in
theorem levelsHold_any (ta na la pa : Option Addr) (nn pn tc nc lc pc : Nat) (st : Int) (ts : List (ByteArray × Int)) (lv : List Int) (w : World) (hT : TermsAt w ta ts) (hL : IntsAt w la lv) (hn : ts.length ≤ 65) (hlv : lv.length ≤ 17592186044416) (r : Bool) (hr : r = true ↔ ∀ j, j < lv.length → levelOK ts lv j) :
    Calls Try.prog 72 #[.agg #[.slice ta ts.length tc, .slice na nn nc, .slice la lv.length lc, .int .i64 st, .slice pa pn pc]] w fun e w' => e = .returned (.bool r) ∧ w.grownBy w' none := by
  have HT : Hid (TermsAt w ta ts) := hT
  have HL : Hid (IntsAt w la lv) := hL
  obtain ⟨n, hln⟩ : ∃ n, n = lv.length := ⟨_, rfl⟩
  have HLN : Hid (lv.length = n) := hln.symm
  rw [← hln] at hlv hr ⊢
  have HRR : Hid (r = true ↔ ∀ j, j < n → levelOK ts lv j) := hr
  have HN : Hid (ts.length ≤ 65) := hn
  have HX0 : Hid (PhAt w (w.alloc (.cells #[.slice ta ts.length tc, .slice na nn nc, .slice la n lc, .int .i64 st, .slice pa pn pc] 27)) w.heap.size #[.slice ta ts.length tc, .slice na nn nc, .slice la n lc, .int .i64 st, .slice pa pn pc]) := ⟨World.grownBy_alloc _ _ none, heap_alloc_last w _⟩
  clear hT hL hr hln
  go_enter Try.func72, Try.ntmps72
  go_wp2_with fail
  go_loopw [9] (fun i wr => ∃ k : Nat, k ≤ n ∧ i = .int .i64 k ∧ PhAt w wr w.heap.size #[.slice ta ts.length tc, .slice na nn nc, .slice la n lc, .int .i64 st, .slice pa pn pc] ∧ ∀ j, j < k → levelOK ts lv j) (fun i _ => n - (intOf i).toNat)
  case atStart => exact ⟨0, Nat.zero_le _, rfl, HX0.out, fun j hj => absurd hj (Nat.not_lt_zero _)⟩
  case round =>
    obtain ⟨k, hk, rfl, hX, hall⟩ := hrel
    have HX : Hid (PhAt w wr w.heap.size #[.slice ta ts.length tc, .slice na nn nc, .slice la n lc, .int .i64 st, .slice pa pn pc]) := hX
    have HA : Hid (∀ j, j < k → levelOK ts lv j) := hall
    clear hX hall HX0
    by_cases hlt : k < n
    · have hkl : k < lv.length := by rw [HLN.out]; exact hlt
      obtain ⟨bl, off, rfl, hcells⟩ : ∃ b off, la = some ⟨b, off, none⟩ ∧ ∀ i, i < lv.length → wr.cell? ⟨b, off + i, none⟩ = some (.int .i64 (lv.getD i 0)) := by
        rcases HL.out.kept HX.out.grown with h | h
        · subst h; simp at hkl
        · exact h
      have hck := hcells k hkl
      obtain ⟨y, hy⟩ : ∃ y, y = lv.getD k 0 := ⟨_, rfl⟩
      rw [← hy] at hck
      have HY : Hid (y = lv.getD k 0) := hy
      have HRF : Hid (¬ levelOK ts lv k → r = false) := fun hno => Bool.eq_false_iff.2 fun hh => hno (HRR.out.1 hh k hlt)
      have HXA : Hid (∀ o, PhAt w (wr.alloc o) w.heap.size #[.slice ta ts.length tc, .slice na nn nc, .slice (some ⟨bl, off, none⟩) n lc, .int .i64 st, .slice pa pn pc]) := fun o => HX.out.kept (World.grownBy_alloc _ _ none)
      have k0 := fun o => (HXA.out o).cells.1
      have hIS := fun o => isSide_any y (wr.alloc o)
      have HCF : Hid (∀ r', (r' = true ↔ ∃ t ∈ ts, t.2 = (k : Int) + 1) → Calls Try.prog 85 #[.slice ta ts.length tc, .func (.func 83) #[] #[.pointer (some ⟨wr.heap.size, 0, none⟩)]] (wr.alloc (.cells #[.int .i64 k] 3)) fun e w' => e = .returned (.bool r') ∧ (wr.alloc (.cells #[.int .i64 k] 3)).grownBy w' none) := fun r' hr' =>
        containsFunc_any ta tc wr.heap.size ts k _ (HT.out.kept (HXA.out _).grown) HN.out (by rw [cell_of_row _ _ _ _ _ _ (heap_alloc_last wr _)]; rfl) (by omega) r' hr'
      clear hcells hy
      cases hsd : (decide (1 ≤ y) && decide (y ≤ 3)) with
      | false =>
        have hf : r = false := HRF.out fun h => by have h4 := h.1; rw [← HY.out] at h4; simp [h4] at hsd
        clear HX HCF
        go_wp2_with fail
        refine (hIS _).mono ?_
        rintro e w2 ⟨rfl, hw2⟩
        rw [hsd]
        have HG2 : Hid (w.grownBy w2 none) := by rw [hw2]; exact (HXA.out _).grown
        clear hw2 k0
        go_wp2_with fail
        go_ret
        exact ⟨by first | rfl | (rw [hf]; rfl), HG2.out⟩
      | true =>
        by_cases hex : ∃ t ∈ ts, t.2 = (k : Int) + 1
        · have hcf := HCF.out true ⟨fun _ => hex, fun _ => rfl⟩
          have HA2 : Hid (∀ j, j < k + 1 → levelOK ts lv j) := fun j hj => by
            by_cases e : j = k
            · subst e
              refine ⟨?_, hex⟩
              rw [← HY.out]
              simpa using hsd
            · exact HA.out j (by omega)
          clear HX HCF hex
          go_wp2_with (go_at_call 84; refine (hIS _).mono ?_; rintro e w2 ⟨rfl, hw2⟩; subst hw2; rw [hsd])
          refine hcf.mono ?_
          rintro e w3 ⟨rfl, hg3⟩
          have HX3 : Hid (PhAt w w3 w.heap.size #[.slice ta ts.length tc, .slice na nn nc, .slice (some ⟨bl, off, none⟩) n lc, .int .i64 st, .slice pa pn pc]) := (HXA.out _).kept hg3
          clear hg3 hcf k0 hIS
          go_wp2_with fail
          go_roundw
          case rel => exact ⟨k + 1, by omega, by go_num, HX3.out, HA2.out⟩
          case measure => simp [intOf]; omega
        · have hcf := HCF.out false ⟨fun h => absurd h (by decide), fun h => absurd h hex⟩
          have hf : r = false := HRF.out fun h => hex h.2
          clear HX HCF hex
          go_wp2_with (go_at_call 84; refine (hIS _).mono ?_; rintro e w2 ⟨rfl, hw2⟩; subst hw2; rw [hsd])
          refine hcf.mono ?_
          rintro e w3 ⟨rfl, hg3⟩
          have HG3 : Hid (w.grownBy w3 none) := grown_trans (HXA.out _).grown hg3
          clear hg3 hcf k0 hIS
          go_wp2_with fail
          go_ret
          exact ⟨by first | rfl | (rw [hf]; rfl), HG3.out⟩
    · obtain rfl : k = n := by omega
      have hrt : r = true := HRR.out.2 HA.out
      have HG : Hid (w.grownBy wr none) := HX.out.grown
      clear HA HX
      go_wp2_with fail
      go_ret
      exact ⟨by first | rfl | (rw [hrt]; rfl), HG.out⟩

end Go.Proofs.Ytkhmhcinepfemaa

/-
  Level, walked.
-/
namespace Go.Proofs.Ytkhmhcinepfemaa
open Go.RowKit

attribute [local go_sem] Oper.semAt_some

theorem owns_form {W : World} {B e z n : Nat} {v : Value} {xs : List Value} (h : W.ownsRow B e z v n xs) : ∃ a c, v = .slice a n c := by
  rcases h.2 with ⟨rfl, h0⟩ | ⟨g, cap, cur, rfl, _⟩
  · exact ⟨none, 0, by rw [h0]⟩
  · exact ⟨_, _, rfl⟩
end Go.Proofs.Ytkhmhcinepfemaa

namespace Go.Proofs.Ytkhmhcinepfemaa
open Go.RowKit

theorem nodup_short {α : Type} [DecidableEq α] : ∀ (l m : List α), l.Nodup → (∀ x ∈ l, x ∈ m) → l.length ≤ m.length
  | [], _, _, _ => Nat.zero_le _
  | a :: l, m, hn, hs => by
    rw [List.nodup_cons] at hn
    have ha := hs a (by simp)
    have h := nodup_short l (m.erase a) hn.2 (fun x hx => (List.mem_erase_of_ne (fun e => hn.1 (by rw [← e]; exact hx))).2 (hs x (by simp [hx])))
    rw [List.length_erase_of_mem ha] at h
    have : 0 < m.length := List.length_pos_of_mem ha
    simp only [List.length_cons]
    omega

def updL (f : Nat → Int) (i : Nat) (z : Int) : Nat → Int := fun j => if j = i then z else f j
/-- The terminals' levels, once a level is told of these; none: it is refused. -/
def levGo (S : BS) (L : Int) : (Nat → Int) → List Int → Option (Nat → Int)
  | lev, [] => some lev
  | lev, h :: r => if S.isT h = true ∧ lev h.toNat = 0 then levGo S L (updL lev h.toNat L) r else none
def BS.addL (S : BS) (lev : Nat → Int) (side : Int) : BS := { S with lev := lev, sides := S.sides ++ [side] }
def BS.level (S : BS) (side : Int) (terms : List Int) : Int × Int × BS :=
  if (1 ≤ side ∧ side ≤ 3) ∧ terms ≠ [] then
    match levGo S (S.sides.length + 1) S.lev terms with
    | some lev => (S.sides.length + 1, 0, S.addL lev side)
    | none => (0, 1, S)
  else (0, 1, S)

theorem isT_iff {S : BS} {h : Int} : S.isT h = true ↔ 0 < h ∧ h ≤ S.terms.length := by simp [BS.isT]
/-- What it leaves and what it turns. -/
theorem levGo_keeps {S : BS} {L : Int} (hL : L ≠ 0) : ∀ (terms : List Int) (lev lev' : Nat → Int), levGo S L lev terms = some lev' →
    (∀ i, lev i ≠ 0 → lev' i = lev i) ∧ (∀ i, lev' i = lev i ∨ (lev' i = L ∧ 1 ≤ i ∧ i ≤ S.terms.length)) ∧ (terms ≠ [] → ∃ i, 1 ≤ i ∧ i ≤ S.terms.length ∧ lev' i = L)
  | [], lev, lev', h => by
    cases h
    exact ⟨fun _ _ => rfl, fun _ => .inl rfl, fun h => absurd rfl h⟩
  | a :: r, lev, lev', h => by
    unfold levGo at h
    split at h
    · next hc =>
      obtain ⟨h1, h2⟩ := hc
      obtain ⟨t1, t2⟩ := isT_iff.1 h1
      obtain ⟨k1, k2, _⟩ := levGo_keeps hL r _ _ h
      have hat : lev' a.toNat = L := by
        rw [k1 a.toNat (by simp [updL, hL])]
        simp [updL]
      refine ⟨fun i hi => ?_, fun i => ?_, fun _ => ⟨a.toNat, by omega, by omega, hat⟩⟩
      · have hne : i ≠ a.toNat := fun e => hi (by rw [e]; exact h2)
        have hu : updL lev a.toNat L i = lev i := by simp [updL, hne]
        rw [k1 i (by rw [hu]; exact hi), hu]
      · by_cases e : i = a.toNat
        · right
          rw [e]
          exact ⟨hat, by omega, by omega⟩
        · have hu : updL lev a.toNat L i = lev i := by simp [updL, e]
          rcases k2 i with h3 | h3
          · left; rw [h3, hu]
          · exact .inr h3
    · cases h

theorem levels_le {S : BS} {lev : Nat → Int} {n : Nat} (has : ∀ i, i < n → ∃ h, 1 ≤ h ∧ h ≤ S.terms.length ∧ lev h = (i : Int) + 1) : n ≤ S.terms.length := by
  have hnd : ((List.range n).map fun i : Nat => (i : Int) + 1).Nodup := by
    rw [List.nodup_iff_pairwise_ne, List.pairwise_map]
    exact (List.nodup_range (n := n)).imp (fun h e => h (by omega))
  have h := nodup_short ((List.range n).map fun i : Nat => (i : Int) + 1) ((List.range S.terms.length).map fun j => lev (j + 1)) hnd (fun x hx => by
    obtain ⟨i, hi, rfl⟩ := List.mem_map.1 hx
    obtain ⟨h, h1, h2, h3⟩ := has i (List.mem_range.1 hi)
    exact List.mem_map.2 ⟨h - 1, List.mem_range.2 (by omega), by rw [show h - 1 + 1 = h by omega]; exact h3⟩)
  simpa using h

theorem BS.OK.addL {S : BS} (h : S.OK) {side : Int} {terms : List Int} {lev : Nat → Int} (hs : 1 ≤ side ∧ side ≤ 3) (ht : terms ≠ []) (hl : levGo S (S.sides.length + 1) S.lev terms = some lev) : (S.addL lev side).OK := by
  obtain ⟨k1, k2, k3⟩ := levGo_keeps (by omega) terms S.lev lev hl
  have hlen : (S.sides ++ [side]).length = S.sides.length + 1 := by simp
  have hhas : ∀ i, i < (S.sides ++ [side]).length → ∃ h, 1 ≤ h ∧ h ≤ S.terms.length ∧ lev h = (i : Int) + 1 := fun i hi => by
    rw [hlen] at hi
    by_cases e : i = S.sides.length
    · obtain ⟨j, j1, j2, j3⟩ := k3 ht
      exact ⟨j, j1, j2, by rw [j3, e]⟩
    · obtain ⟨j, j1, j2, j3⟩ := h.has i (by omega)
      exact ⟨j, j1, j2, by rw [k1 j (by rw [j3]; omega), j3]⟩
  have hle := levels_le hhas
  have hsy := h.syms
  refine { syms := h.syms, tnames := h.tnames, nnames := h.nnames, tnd := h.tnd, nnd := h.nnd, sides := by show (S.sides ++ [side]).length ≤ 64; omega, sdv := ?_, prods := h.prods, lev := ?_, lev0 := ?_, levT := ?_, has := hhas, pl := h.pl, pr := h.pr, plen := h.plen, pv := ?_, st := h.st }
  · intro x hx
    rcases List.mem_append.1 (show x ∈ S.sides ++ [side] from hx) with hx | hx
    · exact h.sdv x hx
    · rw [List.mem_singleton.1 hx]; exact hs
  · intro i
    show 0 ≤ lev i ∧ lev i ≤ ((S.sides ++ [side]).length : Int)
    have hi := h.lev i
    rw [hlen]
    rcases k2 i with e | ⟨e, _, _⟩
    · rw [e]; omega
    · rw [e]; omega
  · show lev 0 = 0
    rcases k2 0 with e | ⟨_, e, _⟩
    · rw [e]; exact h.lev0
    · omega
  · intro j hj
    show lev j = 0
    rcases k2 j with e | ⟨_, _, e⟩
    · rw [e]; exact h.levT j hj
    · have hj' : S.terms.length < j := hj
      omega
  · intro p hp
    have := h.pv p hp
    show 0 ≤ p.level ∧ p.level ≤ ((S.sides ++ [side]).length : Int)
    rw [hlen]
    omega
theorem BS.OK.level {S : BS} (h : S.OK) (side : Int) (terms : List Int) : (S.level side terms).2.2.OK := by
  unfold BS.level
  split
  · next hc =>
    split
    · next lev hl => exact h.addL hc.1 hc.2 hl
    · exact h
  · exact h

end Go.Proofs.Ytkhmhcinepfemaa

namespace Go.Proofs.Ytkhmhcinepfemaa
open Go.RowKit

attribute [local go_sem] Oper.semAt_some

/-- A row of the terminals' levels. -/
def IsLev (A : Array Value) (f : Nat → Int) : Prop := A.size = 65 ∧ ∀ i, i < 65 → A[i]? = some (.int .i64 (f i))
def levRow (f : Nat → Int) : List Value := (List.range 65).map fun i => .int .i64 (f i)
theorem levRow_is (f : Nat → Int) : IsLev (levRow f).toArray f := by
  refine ⟨by simp [levRow], fun i hi => ?_⟩
  simp [levRow, hi]
theorem wpList_store_new {P : Program} {ops : Array Oper} {rest : List Oper} {op : Oper} {a : Act} {w : World} {Q : Exit → Act → World → Prop} (hgd : op.guard = none) (ty : TypeId) (x y : Operand) (ho : op.op = .store ty x y)
    (c c' : Array Value) (hx : a.eval x = .pointer (some ⟨w.heap.size, 0, none⟩)) (hy : a.eval y = .agg c') (hi : (P.info? ty).map (·.size) = some c'.size) (hs : c.size = c'.size) (h1 : c'.all (·.oneCell') = true)
    (h : wpList P ops Q rest (a.put op.dst undef) (w.alloc (.cells c' ty))) : wpList P ops Q (op :: rest) a (w.alloc (.cells c ty)) :=
  wpList_plain hgd fun K hK => by
    have hst := run_storeAt_new (P := P) w ty c c' hi hs h1
    unfold Oper.wp execOp
    simp only [ho, hx, hy, Sem.run_bind, Sem.run_pure, hst, Result.andThen_ok]
    exact hK _ _ h
theorem levGo_app {S : BS} {L : Int} : ∀ (xs ys : List Int) (lev lev' : Nat → Int), levGo S L lev xs = some lev' → levGo S L lev (xs ++ ys) = levGo S L lev' ys
  | [], ys, lev, lev', h => by cases h; rfl
  | x :: xs, ys, lev, lev', h => by
    unfold levGo at h
    rw [List.cons_append]
    conv => lhs; unfold levGo
    split at h
    · next hc => rw [if_pos hc]; exact levGo_app xs ys _ _ h
    · cases h
theorem take_drop_at {l : List Int} {k : Nat} (h : k < l.length) : l = l.take k ++ l.getD k 0 :: l.drop (k + 1) := by
  have : l.getD k 0 = l[k] := by simp [List.getD, h]
  rw [this, ← List.drop_eq_getElem_cons h, List.take_append_drop]
theorem take_succ_at {l : List Int} {k : Nat} (h : k < l.length) : l.take (k + 1) = l.take k ++ [l.getD k 0] := by
  have : l.getD k 0 = l[k] := by simp [List.getD, h]
  rw [this, List.take_succ_eq_append_getElem h]
theorem IsLev.set {A : Array Value} {f : Nat → Int} (h : IsLev A f) (m : Nat) (L : Int) : IsLev (A.setIfInBounds m (.int .i64 L)) (updL f m L) := by
  refine ⟨by simp [h.1], fun i hi => ?_⟩
  by_cases e : i = m
  · subst e
    simp [updL, h.1, hi]
  · rw [Array.getElem?_setIfInBounds_ne (fun x => e x.symm), h.2 i hi]
    simp [updL, e]
def putL (c : Nat → Value) (o : Nat) (vs : List Value) : Nat → Value := fun i => if o ≤ i ∧ i < o + vs.length then vs.getD (i - o) undef else c i
theorem putL_out {c : Nat → Value} {o : Nat} {vs : List Value} {i : Nat} (h : i < o ∨ o + vs.length ≤ i) : putL c o vs i = c i := by unfold putL; rw [if_neg (by omega)]
theorem putL_in {c : Nat → Value} {o : Nat} {vs : List Value} {i : Nat} (h : i < vs.length) : putL c o vs (o + i) = vs.getD i undef := by unfold putL; rw [if_pos (by omega), Nat.add_sub_cancel_left]
theorem putL_cons (c : Nat → Value) (o : Nat) (v : Value) (vs : List Value) : putL c o (v :: vs) = putL (putC c o v) (o + 1) vs := by
  funext i
  by_cases h1 : i = o
  · subst h1
    rw [putL_out (c := putC c i v) (o := i + 1) (by omega), putC_same]
    unfold putL
    rw [if_pos (by simp)]
    simp
  · unfold putL
    simp only [List.length_cons]
    by_cases h2 : o + 1 ≤ i ∧ i < o + 1 + vs.length
    · rw [if_pos (by omega), if_pos h2, show i - o = (i - (o + 1)) + 1 by omega]
      rfl
    · rw [if_neg (by omega), if_neg h2, putC_other _ _ h1]
theorem grown_setCells {b : Nat} : ∀ (vs : List Value) (o : Nat) (w : World), w.grownBy (w.setCells b o vs) (some b)
  | [], _, _ => grown_refl _ _
  | v :: vs, o, _ => grown_trans (grown_setCell b o v) (grown_setCells vs (o + 1) _)
end Go.Proofs.Ytkhmhcinepfemaa

/-
  Grade, walked.
-/
namespace Go.Proofs.Ytkhmhcinepfemaa
open Go.RowKit

def setLev (ps : List PR) (i : Nat) (l : Int) : List PR := ps.set i { ps.getD i ⟨0, [], 0⟩ with level := l }
def gradeGo (l : Int) : List PR → List Int → Option (List PR)
  | ps, [] => some ps
  | ps, h :: r => if 0 ≤ h ∧ h < ps.length then gradeGo l (setLev ps h.toNat l) r else none
def BS.grade (S : BS) (l : Int) (hs : List Int) : Int × BS :=
  if 0 ≤ l ∧ l ≤ S.sides.length then
    match gradeGo l S.prods hs with
    | some ps => (0, { S with prods := ps })
    | none => (1, S)
  else (1, S)
/-- As it was, but for its level. -/
def Graded (l : Int) (ps ps' : List PR) : Prop := ps'.length = ps.length ∧ ∀ i, i < ps.length → (ps'.getD i ⟨0, [], 0⟩).left = (ps.getD i ⟨0, [], 0⟩).left ∧ (ps'.getD i ⟨0, [], 0⟩).right = (ps.getD i ⟨0, [], 0⟩).right ∧ ((ps'.getD i ⟨0, [], 0⟩).level = (ps.getD i ⟨0, [], 0⟩).level ∨ (ps'.getD i ⟨0, [], 0⟩).level = l)
theorem Graded.refl (l : Int) (ps : List PR) : Graded l ps ps := ⟨rfl, fun _ _ => ⟨rfl, rfl, .inl rfl⟩⟩
theorem Graded.set {l : Int} {ps ps' : List PR} (h : Graded l ps ps') {k : Nat} (hk : k < ps.length) : Graded l ps (setLev ps' k l) := by
  refine ⟨by simp [setLev, h.1], fun i hi => ?_⟩
  obtain ⟨h1, h2, h3⟩ := h.2 i hi
  have hi' : i < ps'.length := by rw [h.1]; exact hi
  by_cases e : i = k
  · subst e
    have : (setLev ps' i l).getD i ⟨0, [], 0⟩ = { ps'.getD i ⟨0, [], 0⟩ with level := l } := by simp [setLev, List.getD, hi']
    rw [this]
    exact ⟨h1, h2, .inr rfl⟩
  · have : (setLev ps' k l).getD i ⟨0, [], 0⟩ = ps'.getD i ⟨0, [], 0⟩ := by simp [setLev, List.getD, show ¬ k = i from fun x => e x.symm]
    rw [this]
    exact ⟨h1, h2, h3⟩
theorem gradeGo_graded {l : Int} {ps0 : List PR} : ∀ (hs : List Int) (ps ps' : List PR), Graded l ps0 ps → gradeGo l ps hs = some ps' → Graded l ps0 ps'
  | [], ps, ps', h, e => by cases e; exact h
  | a :: r, ps, ps', h, e => by
    unfold gradeGo at e
    split at e
    · next hc => exact gradeGo_graded r _ _ (h.set (by rw [← h.1]; omega)) e
    · cases e
theorem gradeGo_app {l : Int} : ∀ (xs ys : List Int) (ps ps' : List PR), gradeGo l ps xs = some ps' → gradeGo l ps (xs ++ ys) = gradeGo l ps' ys
  | [], ys, ps, ps', h => by cases h; rfl
  | x :: xs, ys, ps, ps', h => by
    unfold gradeGo at h
    rw [List.cons_append]
    conv => lhs; unfold gradeGo
    split at h
    · next hc => rw [if_pos hc]; exact gradeGo_app xs ys _ _ h
    · cases h
theorem Graded.mem {l : Int} {ps ps' : List PR} (h : Graded l ps ps') {p : PR} (hp : p ∈ ps') : ∃ q ∈ ps, p.left = q.left ∧ p.right = q.right ∧ (p.level = q.level ∨ p.level = l) := by
  obtain ⟨i, hi, rfl⟩ := List.getElem_of_mem hp
  have hi' : i < ps.length := by rw [← h.1]; exact hi
  have := h.2 i hi'
  rw [show ps'.getD i ⟨0, [], 0⟩ = ps'[i] by simp [List.getD, hi], show ps.getD i ⟨0, [], 0⟩ = ps[i] by simp [List.getD, hi']] at this
  exact ⟨ps[i], List.getElem_mem hi', this⟩
theorem BS.OK.graded {S : BS} (h : S.OK) {l : Int} {ps : List PR} (hl : 0 ≤ l ∧ l ≤ S.sides.length) (hg : Graded l S.prods ps) : ({ S with prods := ps } : BS).OK := by
  refine ⟨h.syms, h.tnames, h.nnames, h.tnd, h.nnd, h.sides, h.sdv, by show ps.length ≤ 96; rw [hg.1]; exact h.prods, h.lev, h.lev0, h.levT, h.has, fun p hp => ?_, fun p hp k hk => ?_, fun p hp => ?_, fun p hp => ?_, h.st⟩
  · obtain ⟨q, hq, e1, _, _⟩ := hg.mem hp
    rw [e1]
    exact h.pl q hq
  · obtain ⟨q, hq, _, e2, _⟩ := hg.mem hp
    rw [e2] at hk
    exact h.pr q hq k hk
  · obtain ⟨q, hq, _, e2, _⟩ := hg.mem hp
    rw [e2]
    exact h.plen q hq
  · obtain ⟨q, hq, _, _, e3⟩ := hg.mem hp
    have := h.pv q hq
    show 0 ≤ p.level ∧ p.level ≤ (S.sides.length : Int)
    rcases e3 with e3 | e3 <;> rw [e3] <;> omega
theorem flat_set (l : Int) : ∀ (ps : List PR) (rs : List Value) (i : Nat), rs.length = ps.length → i < ps.length → ((ps.zip rs).flatMap fun x => prL x.1 x.2).set (i * 3 + 2) (.int .i64 l) = ((setLev ps i l).zip rs).flatMap fun x => prL x.1 x.2
  | [], _, _, _, h => by simp at h
  | p :: ps, [], _, h, _ => by simp at h
  | p :: ps, r :: rs, 0, _, _ => by simp [setLev, prL]
  | p :: ps, r :: rs, i + 1, h1, h2 => by
    have ih := flat_set l ps rs i (by simpa using h1) (by simpa using h2)
    have e : setLev (p :: ps) (i + 1) l = p :: setLev ps i l := by simp [setLev]
    rw [e, List.zip_cons_cons, List.zip_cons_cons, List.flatMap_cons, List.flatMap_cons, ← ih]
    show (prL p r ++ _).set _ _ = _
    rw [List.set_append_right _ _ (by simp [prL]; omega), show (i + 1) * 3 + 2 - (prL p r).length = i * 3 + 2 by simp [prL]; omega]

end Go.Proofs.Ytkhmhcinepfemaa

namespace Go.Proofs.Ytkhmhcinepfemaa
open Go.RowKit

attribute [local go_sem] Oper.semAt_some

end Go.Proofs.Ytkhmhcinepfemaa

/-
  The document's builder in memory: four lists of its own and the start symbol; what its steps leave.
-/
namespace Go.Proofs.Ytkhmhcinepfemaa
open Go.RowKit

theorem owns_ne {w : World} {B B' e e' s s' n n' : Nat} {v v' : Value} {xs xs' : List Value} (h : w.ownsRow B e s v n xs) (h' : w.ownsRow B' e' s' v' n' xs') (he : e ≠ e') : v.ownBlock = none ∨ v.ownBlock ≠ v'.ownBlock := by
  rcases h.2 with ⟨rfl, _⟩ | ⟨g, cap, cur, rfl, _, hg, _⟩
  · exact .inl rfl
  · right
    intro hh
    rcases h'.2 with ⟨rfl, _⟩ | ⟨g', cap', cur', rfl, _, hg', _⟩
    · cases hh
    · have : g = g' := by simpa [Value.ownBlock] using hh
      rw [this, hg'] at hg
      simp at hg
      exact he hg.2.symm
theorem owns_nebox {w : World} {B e e' s n r : Nat} {v : Value} {xs : List Value} {cs : Array Value} (h : w.ownsRow B e s v n xs) (hr : w.heap[r]? = some (.cells cs e' (0, 0))) (he : e ≠ e') : v.ownBlock = none ∨ v.ownBlock ≠ some r := by
  rcases h.2 with ⟨rfl, _⟩ | ⟨g, cap, cur, rfl, _, hg, _⟩
  · exact .inl rfl
  · right
    intro hh
    have : g = r := by simpa [Value.ownBlock] using hh
    rw [this, hr] at hg
    simp at hg
    exact he hg.2.symm

/-- The terminals with their levels. -/
def rts (S : BS) : List (ByteArray × Int) := (List.range S.terms.length).map fun j => (S.terms.getD j ⟨#[]⟩, S.lev (j + 1))
theorem rts_length (S : BS) : (rts S).length = S.terms.length := by simp [rts]
theorem rts_at (S : BS) {j : Nat} (h : j < S.terms.length) : (rts S).getD j (⟨#[]⟩, 0) = (S.terms.getD j ⟨#[]⟩, S.lev (j + 1)) := by simp [rts, List.getD, h]

theorem none_ne {o row : Option Nat} (h : row = none) : o = none ∨ o ≠ row := by
  cases o with
  | none => exact .inl rfl
  | some g => right; rw [h]; simp
end Go.Proofs.Ytkhmhcinepfemaa
