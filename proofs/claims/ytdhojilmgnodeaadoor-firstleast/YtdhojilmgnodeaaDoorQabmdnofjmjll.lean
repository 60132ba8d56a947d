import Derived.Test.YtdhojilmgnodeaaDoorQifdkfdgemmff
import Derived.Deep.LoopGhost

/-
  prodsHold, walked: each production's left side is a nonterminal, its level one, its right side's symbols terminals or nonterminals.
-/
namespace Go.Proofs.YtdhojilmgnodeaaDoor
open Go.RowKit Go.Maps Go.Shelf

attribute [local go_sem] Oper.semAt_some

def isNonI (tn nn ad : Nat) (x : Int) : Prop := (tn : Int) + ad ≤ x ∧ x < (tn : Int) + nn
def isSymI (tn nn ad : Nat) (x : Int) : Prop := (0 < x ∧ x < tn) ∨ isNonI tn nn ad x
def prodOK (tn nn ln ad : Nat) (L : Int) (R : List Int) (V : Int) : Prop := isNonI tn nn ad L ∧ (0 ≤ V ∧ V ≤ ln) ∧ ∀ x ∈ R, isSymI tn nn ad x

/-- The grammar's box, and all that was, stand. -/
structure PhAt (w wr : World) (Bg : Nat) (cs : Array Value) : Prop where
  grown : w.grownBy wr none
  box : wr.heap[Bg]? = some (.cells cs 27 (0, 0))
theorem PhAt.kept {w wr wx : World} {Bg : Nat} {cs : Array Value} (h : PhAt w wr Bg cs) (hg : wr.grownBy wx none) : PhAt w wx Bg cs :=
  ⟨grown_trans h.grown hg, (hg.block Bg (Array.getElem?_eq_some_iff.1 h.box).1 (by simp)).trans h.box⟩
theorem PhAt.cells {w wr : World} {Bg : Nat} {v0 v1 v2 v3 v4 : Value} (h : PhAt w wr Bg #[v0, v1, v2, v3, v4]) : wr.cell? ⟨Bg, 0, none⟩ = some v0 ∧ wr.cell? ⟨Bg, 1, none⟩ = some v1 ∧ wr.cell? ⟨Bg, 2, none⟩ = some v2 ∧ wr.cell? ⟨Bg, 3, none⟩ = some v3 ∧ wr.cell? ⟨Bg, 4, none⟩ = some v4 := by
  refine ⟨?_, ?_, ?_, ?_, ?_⟩ <;> rw [cell_of_row _ _ _ _ _ _ h.box] <;> rfl

set_option maxRecDepth 100000 in
set_option maxHeartbeats 1000000 in
theorem prodsHold_any (ta na la pa qa : Option Addr) (tn nn ln pn tc nc lc pc n qc ad : Nat) (st : Int) (L : Nat → Int) (R : Nat → List Int) (ra : Nat → Option Addr) (rc : Nat → Nat) (V : Nat → Int) (w : World) (hP : ProdsAt w qa n L R ra rc V) (hn : n ≤ 97) (ht : tn ≤ 140737488355328) (hnn : nn ≤ 140737488355328) (had : ad ≤ 1)
    (r : Bool) (hr : r = true ↔ ∀ i, i < n → prodOK tn nn ln ad (L i) (R i) (V i)) :
    Calls Tryd.prog 77 #[.agg #[.slice ta tn tc, .slice na nn nc, .slice la ln lc, .int .i64 st, .slice pa pn pc], .slice qa n qc, .int .i64 ad] w fun e w' => e = .returned (.bool r) ∧ w.grownBy w' none := by
  have HP : Hid (ProdsAt w qa n L R ra rc V) := hP
  have HRR : Hid (r = true ↔ ∀ i, i < n → prodOK tn nn ln ad (L i) (R i) (V i)) := hr
  clear hP hr
  have HX0 : Hid (PhAt w (w.alloc (.cells #[.slice ta tn tc, .slice na nn nc, .slice la ln lc, .int .i64 st, .slice pa pn pc] 27)) w.heap.size #[.slice ta tn tc, .slice na nn nc, .slice la ln lc, .int .i64 st, .slice pa pn pc]) := ⟨World.grownBy_alloc _ _ none, heap_alloc_last w _⟩
  go_enter Tryd.func77, Tryd.ntmps77
  go_wp2_with fail
  go_loopg [13] n (fun gk i wr => ∃ k : Nat, k ≤ n ∧ gk = n - k ∧ i = .int .i64 k ∧ PhAt w wr w.heap.size #[.slice ta tn tc, .slice na nn nc, .slice la ln lc, .int .i64 st, .slice pa pn pc] ∧ ∀ j, j < k → prodOK tn nn ln ad (L j) (R j) (V j))
  case atStart => exact ⟨0, Nat.zero_le _, rfl, rfl, HX0.out, fun j hj => absurd hj (Nat.not_lt_zero _)⟩
  case round =>
    obtain ⟨k, hk, hgk, rfl, hX, hall⟩ := hrel
    have HX : Hid (PhAt w wr w.heap.size #[.slice ta tn tc, .slice na nn nc, .slice la ln lc, .int .i64 st, .slice pa pn pc]) := hX
    have HA : Hid (∀ j, j < k → prodOK tn nn ln ad (L j) (R j) (V j)) := hall
    have HGK : Hid (gk = n - k) := hgk
    clear hX hall hgk HX0
    by_cases hlt : k < n
    · obtain ⟨bp, off, rfl, hcs⟩ : ∃ b off, qa = some ⟨b, off, none⟩ ∧ ∀ k, k < n → w.cell? ⟨b, off + k * 3, none⟩ = some (.int .i64 (L k)) ∧ w.cell? ⟨b, off + k * 3 + 1, none⟩ = some (.slice (ra k) (R k).length (rc k)) ∧ w.cell? ⟨b, off + k * 3 + 2, none⟩ = some (.int .i64 (V k)) ∧ IntsAt w (ra k) (R k) ∧ (ra k = none → rc k = 0) ∧ (R k).length ≤ 17592186044416 := by
        rcases HP.out with h | h
        · omega
        · exact h
      obtain ⟨h1, h2, h3, hI, _, hlen⟩ := hcs k hlt
      have d0 := HX.out.grown.cell h1 (by simp)
      have d1 := HX.out.grown.cell h2 (by simp)
      have d2 := HX.out.grown.cell h3 (by simp)
      have HI : Hid (IntsAt w (ra k) (R k)) := hI
      have HRF : Hid (¬ prodOK tn nn ln ad (L k) (R k) (V k) → r = false) := fun hno => Bool.eq_false_iff.2 fun hh => hno (HRR.out.1 hh k hlt)
      clear hcs h1 h2 h3 hI
      obtain ⟨Lk, hLk⟩ : ∃ x, x = L k := ⟨_, rfl⟩
      obtain ⟨Vk, hVk⟩ : ∃ x, x = V k := ⟨_, rfl⟩
      rw [← hLk] at d0 HRF
      rw [← hVk] at d2 HRF
      have HLV : Hid (Lk = L k ∧ Vk = V k) := ⟨hLk, hVk⟩
      clear hLk hVk
      have HXA : Hid (∀ o, PhAt w (wr.alloc o) w.heap.size #[.slice ta tn tc, .slice na nn nc, .slice la ln lc, .int .i64 st, .slice pa pn pc]) := fun o => HX.out.kept (World.grownBy_alloc _ _ none)
      have k0 := fun o => (HXA.out o).cells.1
      have k1 := fun o => (HXA.out o).cells.2.1
      have k2 := fun o => (HXA.out o).cells.2.2.1
      have k3 := fun o => (HXA.out o).cells.2.2.2.1
      have k4 := fun o => (HXA.out o).cells.2.2.2.2
      have HIN := fun o => isNonOf_any ta na la pa tn nn ln pn tc nc lc pc ad st Lk (wr.alloc o) ht hnn had
      cases hlf : (decide ((tn : Int) + ad ≤ Lk) && decide (Lk < (tn : Int) + nn)) with
      | false =>
        have hf : r = false := HRF.out fun h => by have h4 := h.1; simp [isNonI] at h4; simp [h4] at hlf
        clear HX
        go_wp2_with fail
        refine (HIN _).mono ?_
        rintro e w2 ⟨rfl, hg2⟩
        rw [hlf]
        have HG2 : Hid (w.grownBy w2 none) := grown_trans (HXA.out _).grown hg2
        clear hg2 HIN k0 k1 k2 k3 k4 HXA
        go_wp2_with fail
        go_ret
        exact ⟨by first | rfl | (rw [hf]; rfl), HG2.out⟩
      | true =>
        clear HX
        go_wp2_with fail
        refine (HIN _).mono ?_
        rintro e w2 ⟨rfl, hg2⟩
        rw [hlf]
        have hX2 := (HXA.out _).kept hg2
        have q1 : w2.cell? ⟨wr.heap.size, 1, none⟩ = some (.slice (ra k) (R k).length (rc k)) := hg2.cell (by rw [cell_of_row _ _ _ _ _ _ (heap_alloc_last wr _)]; rfl) (by simp)
        have q2 : w2.cell? ⟨wr.heap.size, 2, none⟩ = some (.int .i64 Vk) := hg2.cell (by rw [cell_of_row _ _ _ _ _ _ (heap_alloc_last wr _)]; rfl) (by simp)
        obtain ⟨m0, m1, m2, m3, m4⟩ := hX2.cells
        have HX2 : Hid (PhAt w w2 w.heap.size #[.slice ta tn tc, .slice na nn nc, .slice la ln lc, .int .i64 st, .slice pa pn pc]) := hX2
        have HIL := isLevel_any ta na la pa tn nn ln pn tc nc lc pc st Vk w2
        clear hg2 HIN k0 k1 k2 k3 k4 HXA hX2 d0 d1 d2
        cases hlv : (decide (0 ≤ Vk) && decide (Vk ≤ (ln : Int))) with
        | false =>
          have hf : r = false := HRF.out fun h => by have h4 := h.2.1; simp [h4] at hlv
          rw [hlv] at HIL
          go_wp2_with fail
          refine HIL.mono ?_
          rintro e w3 ⟨rfl, hg3⟩
          have HG3 : Hid (w.grownBy w3 none) := grown_trans HX2.out.grown hg3
          clear hg3 HIL
          go_wp2_with fail
          go_ret
          exact ⟨by first | rfl | (rw [hf]; rfl), HG3.out⟩
        | true =>
          rw [hlv] at HIL
          go_wp2_with fail
          refine HIL.mono ?_
          rintro e w3 ⟨rfl, hg3⟩
          have q3 : w3.cell? ⟨wr.heap.size, 1, none⟩ = some (.slice (ra k) (R k).length (rc k)) := hg3.cell q1 (by simp)
          have HX3 : Hid (PhAt w w3 w.heap.size #[.slice ta tn tc, .slice na nn nc, .slice la ln lc, .int .i64 st, .slice pa pn pc]) := HX2.out.kept hg3
          have HOK : Hid (isNonI tn nn ad Lk ∧ 0 ≤ Vk ∧ Vk ≤ (ln : Int)) := by
            simp at hlf hlv
            exact ⟨hlf, hlv⟩
          clear hg3 HIL q1 q2 m0 m1 m2 m3 m4 HX2 hlf hlv
          go_wp2_with fail
          obtain ⟨len, hle⟩ : ∃ len, len = (R k).length := ⟨_, rfl⟩
          have HLE : Hid ((R k).length = len) := hle.symm
          rw [← hle] at hlen ⊢
          clear hle q3
          obtain ⟨ak, hak⟩ : ∃ ak, ak = ra k := ⟨_, rfl⟩
          rw [← hak] at HI ⊢
          clear hak
          go_loopg [33] len (fun gx i wr => ∃ x : Nat, x ≤ len ∧ gx = len - x ∧ i = .int .i64 x ∧ PhAt w wr w.heap.size #[.slice ta tn tc, .slice na nn nc, .slice la ln lc, .int .i64 st, .slice pa pn pc] ∧ ∀ y ∈ (R k).take x, isSymI tn nn ad y)
          case atStart => exact ⟨0, Nat.zero_le _, rfl, rfl, HX3.out, fun y hy => by simp at hy⟩
          case round =>
            obtain ⟨x, hx, hgx, rfl, hX, hall⟩ := hrel
            have HX : Hid (PhAt w wr w.heap.size #[.slice ta tn tc, .slice na nn nc, .slice la ln lc, .int .i64 st, .slice pa pn pc]) := hX
            have HY : Hid (∀ y ∈ (R k).take x, isSymI tn nn ad y) := hall
            have HGX : Hid (gk = len - x) := hgx
            clear hX hall hgx HX3
            by_cases hlx : x < len
            · have hxl : x < (R k).length := by rw [HLE.out]; exact hlx
              obtain ⟨bl, of2, rfl, hcs⟩ : ∃ b off, ak = some ⟨b, off, none⟩ ∧ ∀ i, i < (R k).length → wr.cell? ⟨b, off + i, none⟩ = some (.int .i64 ((R k).getD i 0)) := by
                rcases HI.out.kept HX.out.grown with h | h
                · rw [h] at hxl; simp at hxl
                · exact h
              have hch := hcs x hxl
              have hmem : (R k).getD x 0 ∈ R k := by
                have e : (R k).getD x 0 = (R k)[x] := by simp [List.getD, hxl]
                rw [e]; exact List.getElem_mem _
              have htk : (R k).take (x + 1) = (R k).take x ++ [(R k).getD x 0] := by rw [List.take_succ_eq_append_getElem hxl]; simp [List.getD, hxl]
              obtain ⟨h, hh⟩ : ∃ h, h = (R k).getD x 0 := ⟨_, rfl⟩
              rw [← hh] at hch hmem htk
              have HST : Hid (isSymI tn nn ad h → ∀ y ∈ (R k).take (x + 1), isSymI tn nn ad y) := fun hs y hy => by
                rw [htk] at hy
                rcases List.mem_append.1 hy with hy | hy
                · exact HY.out y hy
                · simp only [List.mem_singleton] at hy; rw [hy]; exact hs
              have HNO : Hid (¬ isSymI tn nn ad h → r = false) := fun hno => HRF.out fun hp => hno (hp.2.2 h hmem)
              clear hcs hmem htk hh
              obtain ⟨m0, m1, m2, m3, m4⟩ := HX.out.cells
              have HIT := isTermOf_any ta na la pa tn nn ln pn tc nc lc pc st h wr
              cases htf : (decide (0 < h) && decide (h < (tn : Int))) with
              | true =>
                rw [htf] at HIT
                have HS : Hid (∀ y ∈ (R k).take (x + 1), isSymI tn nn ad y) := HST.out (.inl (by simpa using htf))
                go_wp2_with fail
                refine HIT.mono ?_
                rintro e w4 ⟨rfl, hg4⟩
                have HX4 : Hid (PhAt w w4 w.heap.size #[.slice ta tn tc, .slice na nn nc, .slice la ln lc, .int .i64 st, .slice pa pn pc]) := HX.out.kept hg4
                clear hg4 HIT m0 m1 m2 m3 m4 HX
                go_wp2_with fail
                go_roundg (len - (x + 1))
                case measure => have := HGX.out; omega
                case rel => exact ⟨x + 1, by omega, rfl, by go_num, HX4.out, HS.out⟩
              | false =>
                rw [htf] at HIT
                go_wp2_with fail
                refine HIT.mono ?_
                rintro e w4 ⟨rfl, hg4⟩
                have HX4 : Hid (PhAt w w4 w.heap.size #[.slice ta tn tc, .slice na nn nc, .slice la ln lc, .int .i64 st, .slice pa pn pc]) := HX.out.kept hg4
                clear hg4 HIT m0 m1 m2 m3 m4 HX
                obtain ⟨m0, m1, m2, m3, m4⟩ := HX4.out.cells
                have HIN := isNonOf_any ta na la pa tn nn ln pn tc nc lc pc ad st h w4 ht hnn had
                cases hnf : (decide ((tn : Int) + ad ≤ h) && decide (h < (tn : Int) + nn)) with
                | true =>
                  rw [hnf] at HIN
                  have HS : Hid (∀ y ∈ (R k).take (x + 1), isSymI tn nn ad y) := HST.out (.inr (by simp at hnf; exact hnf))
                  go_wp2_with fail
                  refine HIN.mono ?_
                  rintro e w5 ⟨rfl, hg5⟩
                  have HX5 : Hid (PhAt w w5 w.heap.size #[.slice ta tn tc, .slice na nn nc, .slice la ln lc, .int .i64 st, .slice pa pn pc]) := HX4.out.kept hg5
                  clear hg5 HIN m0 m1 m2 m3 m4 HX4
                  go_wp2_with fail
                  go_roundg (len - (x + 1))
                  case measure => have := HGX.out; omega
                  case rel => exact ⟨x + 1, by omega, rfl, by go_num, HX5.out, HS.out⟩
                | false =>
                  rw [hnf] at HIN
                  have hf : r = false := HNO.out fun hs => by
                    rcases hs with hs | hs
                    · simp [hs] at htf
                    · have h4 : (tn : Int) + ad ≤ h ∧ h < (tn : Int) + nn := hs
                      simp [h4] at hnf
                  go_wp2_with fail
                  refine HIN.mono ?_
                  rintro e w5 ⟨rfl, hg5⟩
                  have HG5 : Hid (w.grownBy w5 none) := grown_trans HX4.out.grown hg5
                  clear hg5 HIN m0 m1 m2 m3 m4 HX4
                  go_wp2_with fail
                  go_ret
                  exact ⟨by first | rfl | (rw [hf]; rfl), HG5.out⟩
            · obtain rfl : x = len := by omega
              have ht2 : (R k).take x = R k := List.take_of_length_le (Nat.le_of_eq HLE.out)
              have HA2 : Hid (∀ j, j < k + 1 → prodOK tn nn ln ad (L j) (R j) (V j)) := fun j hj => by
                by_cases e : j = k
                · subst e
                  have h4 := HY.out
                  rw [ht2] at h4
                  rw [← HLV.out.1, ← HLV.out.2]
                  exact ⟨HOK.out.1, HOK.out.2, h4⟩
                · exact HA.out j (by omega)
              clear ht2
              go_wp2_with fail
              go_roundg (n - (k + 1))
              case measure => have := HGK.out; omega
              case rel => exact ⟨k + 1, by omega, rfl, by go_num, HX.out, HA2.out⟩
    · obtain rfl : k = n := by omega
      have hrt : r = true := HRR.out.2 HA.out
      have HG : Hid (w.grownBy wr none) := HX.out.grown
      clear HA HX
      go_wp2_with fail
      go_ret
      exact ⟨by first | rfl | (rw [hrt]; rfl), HG.out⟩

end Go.Proofs.YtdhojilmgnodeaaDoor

/-
  levelsHold itself.
-/
namespace Go.Proofs.YtdhojilmgnodeaaDoor
open Go.RowKit Go.Maps Go.Shelf

attribute [local go_sem] Oper.semAt_some

theorem isSide_any (x : Int) (w : World) : Calls Tryd.prog 87 #[.int .i64 x] w fun e w' => e = .returned (.bool (decide (1 ≤ x) && decide (x ≤ 3))) ∧ w' = w := by
  by_cases h0 : 1 ≤ x
  · have hd : decide (1 ≤ x) = true := decide_eq_true h0
    go_enter Tryd.func87, Tryd.ntmps87
    go_wp2_with fail
    go_ret
    exact ⟨by simp [h0], rfl⟩
  · have hd : decide (1 ≤ x) = false := decide_eq_false h0
    go_enter Tryd.func87, Tryd.ntmps87
    go_wp2_with fail
    go_ret
    exact ⟨by simp, rfl⟩

theorem hasLevel_any (s : ByteArray) (l i : Int) (Bi : Nat) (w : World) (hc : w.cell? ⟨Bi, 0, none⟩ = some (.int .i64 i)) (hb : 0 ≤ i ∧ i ≤ 140737488355328) :
    Calls Tryd.prog 86 #[.agg #[.string s, .int .i64 l], .pointer (some ⟨Bi, 0, none⟩)] w fun e w' => e = .returned (.bool (l == i + 1)) ∧ w.grownBy w' none := by
  have hc' : ∀ o, (w.alloc o).cell? ⟨Bi, 0, none⟩ = some (.int .i64 i) := fun o => (World.grownBy_alloc w o none).cell hc (by simp)
  go_enter Tryd.func86, Tryd.ntmps86
  go_wp2_with fail
  go_ret
  exact ⟨rfl, World.grownBy_alloc _ _ none⟩

set_option maxRecDepth 100000 in
theorem indexFunc_any (a : Option Addr) (cap Bi : Nat) (ts : List (ByteArray × Int)) (i : Int) (w : World) (hl : TermsAt w a ts) (hn : ts.length ≤ 65) (hc : w.cell? ⟨Bi, 0, none⟩ = some (.int .i64 i)) (hb : 0 ≤ i ∧ i ≤ 140737488355328) :
    Calls Tryd.prog 96 #[.slice a ts.length cap, .func (.func 86) #[] #[.pointer (some ⟨Bi, 0, none⟩)]] w fun e w' => (∃ q : Int, e = .returned (.int .i64 q) ∧ -1 ≤ q ∧ (0 ≤ q ↔ ∃ t ∈ ts, t.2 = i + 1)) ∧ w.grownBy w' none := by
  have HL : Hid (TermsAt w a ts) := hl
  obtain ⟨n, hln⟩ : ∃ n, n = ts.length := ⟨_, rfl⟩
  have HLN : Hid (ts.length = n) := hln.symm
  rw [← hln] at hn ⊢
  have HC : Hid (w.cell? ⟨Bi, 0, none⟩ = some (.int .i64 i)) := hc
  clear hl hln hc
  go_enter Tryd.func96, Tryd.ntmps96
  go_wp2_with fail
  go_loopw [8] (fun j wr => ∃ k : Nat, k ≤ n ∧ j = .int .i64 k ∧ w.grownBy wr none ∧ ¬ ∃ t ∈ ts.take k, t.2 = i + 1) (fun j _ => n - (intOf j).toNat)
  case atStart => exact ⟨0, Nat.zero_le _, rfl, grown_refl _ _, by simp⟩
  case round =>
    obtain ⟨k, hk, rfl, hg, hno⟩ := hrel
    have HG : Hid (w.grownBy wr none) := hg
    have HA : Hid (¬ ∃ t ∈ ts.take k, t.2 = i + 1) := hno
    clear hno hg
    by_cases hlt : k < n
    · have hkl : k < ts.length := by rw [HLN.out]; exact hlt
      obtain ⟨bl, off, rfl, hcells⟩ : ∃ b off, a = some ⟨b, off, none⟩ ∧ ∀ i, i < ts.length → wr.cell? ⟨b, off + i * 2, none⟩ = some (.string (ts.getD i (⟨#[]⟩, 0)).1) ∧ wr.cell? ⟨b, off + i * 2 + 1, none⟩ = some (.int .i64 (ts.getD i (⟨#[]⟩, 0)).2) := by
        rcases HL.out.kept HG.out with h | h
        · subst h; simp at hkl
        · exact h
      obtain ⟨h1, h2⟩ := hcells k hkl
      have hmem : ts.getD k (⟨#[]⟩, 0) ∈ ts := by
        have : ts.getD k (⟨#[]⟩, 0) = ts[k] := by simp [List.getD, hkl]
        rw [this]; exact List.getElem_mem _
      have htk : ts.take (k + 1) = ts.take k ++ [ts.getD k (⟨#[]⟩, 0)] := by rw [List.take_succ_eq_append_getElem hkl]; simp [List.getD, hkl]
      generalize ts.getD k (⟨#[]⟩, 0) = t at *
      obtain ⟨s, l⟩ := t
      have hH := hasLevel_any s l i Bi wr (HG.out.cell HC.out (by simp)) hb
      by_cases he : l = i + 1
      · have hbq : (l == i + 1) = true := beq_iff_eq.2 he
        have HM : Hid (∃ t ∈ ts, t.2 = i + 1) := ⟨_, hmem, he⟩
        rw [hbq] at hH
        clear hcells hmem htk he
        go_wp2_with fail
        refine hH.mono ?_
        rintro e w2 ⟨rfl, hg2⟩
        have HG2 : Hid (w.grownBy w2 none) := grown_trans HG.out hg2
        clear hH hg2
        go_wp2_with fail
        go_ret
        exact ⟨⟨k, rfl, by omega, ⟨fun _ => HM.out, fun _ => by omega⟩⟩, HG2.out⟩
      · have hbq : (l == i + 1) = false := beq_eq_false_iff_ne.2 he
        have HA' : Hid (¬ ∃ t ∈ ts.take (k + 1), t.2 = i + 1) := by
          rintro ⟨t, ht, h3⟩
          rw [htk] at ht
          rcases List.mem_append.1 ht with ht | ht
          · exact HA.out ⟨t, ht, h3⟩
          · simp only [List.mem_singleton] at ht; rw [ht] at h3; exact he h3
        rw [hbq] at hH
        clear hcells hmem htk he
        go_wp2_with fail
        refine hH.mono ?_
        rintro e w2 ⟨rfl, hg2⟩
        have HG2 : Hid (w.grownBy w2 none) := grown_trans HG.out hg2
        clear hH hg2
        go_wp2_with fail
        go_roundw
        case rel => exact ⟨k + 1, by omega, by go_num, HG2.out, HA'.out⟩
        case measure => simp [intOf]; omega
    · obtain rfl : k = n := by omega
      have ht : ts.take k = ts := List.take_of_length_le (Nat.le_of_eq HLN.out)
      rw [ht] at HA
      go_wp2_with fail
      go_ret
      exact ⟨⟨-1, rfl, by omega, ⟨fun h => absurd h (by omega), fun h => absurd h HA.out⟩⟩, HG.out⟩

theorem containsFunc_any (a : Option Addr) (cap Bi : Nat) (ts : List (ByteArray × Int)) (i : Int) (w : World) (hl : TermsAt w a ts) (hn : ts.length ≤ 65) (hc : w.cell? ⟨Bi, 0, none⟩ = some (.int .i64 i)) (hb : 0 ≤ i ∧ i ≤ 140737488355328) (r : Bool) (hr : r = true ↔ ∃ t ∈ ts, t.2 = i + 1) :
    Calls Tryd.prog 88 #[.slice a ts.length cap, .func (.func 86) #[] #[.pointer (some ⟨Bi, 0, none⟩)]] w fun e w' => e = .returned (.bool r) ∧ w.grownBy w' none := by
  have hI := indexFunc_any a cap Bi ts i w hl hn hc hb
  have HR : Hid (r = true ↔ ∃ t ∈ ts, t.2 = i + 1) := hr
  clear hl hc hr
  go_enter Tryd.func88, Tryd.ntmps88
  go_wp2_with fail
  refine hI.mono ?_
  rintro e w2 ⟨⟨q, rfl, h1, h2⟩, hg⟩
  have HQ : Hid (decide (0 ≤ q) = r) := by
    show decide (0 ≤ q) = r
    rw [Bool.eq_iff_iff, decide_eq_true_eq, h2, HR.out]
  clear h2 hI
  go_wp2_with fail
  go_ret
  exact ⟨by rw [← HQ.out]; rfl, hg⟩

end Go.Proofs.YtdhojilmgnodeaaDoor

namespace Go.Proofs.YtdhojilmgnodeaaDoor
open Go.RowKit Go.Maps Go.Shelf

attribute [local go_sem] Oper.semAt_some

def levelOK (ts : List (ByteArray × Int)) (lv : List Int) (j : Nat) : Prop := (1 ≤ lv.getD j 0 ∧ lv.getD j 0 ≤ 3) ∧ ∃ t ∈ ts, t.2 = (j : Int) + 1

set_option maxRecDepth 100000 in
set_option maxHeartbeats 1000000 in
theorem levelsHold_any (ta na la pa : Option Addr) (nn pn tc nc lc pc : Nat) (st : Int) (ts : List (ByteArray × Int)) (lv : List Int) (w : World) (hT : TermsAt w ta ts) (hL : IntsAt w la lv) (hn : ts.length ≤ 65) (hlv : lv.length ≤ 17592186044416) (r : Bool) (hr : r = true ↔ ∀ j, j < lv.length → levelOK ts lv j) :
    Calls Tryd.prog 76 #[.agg #[.slice ta ts.length tc, .slice na nn nc, .slice la lv.length lc, .int .i64 st, .slice pa pn pc]] w fun e w' => e = .returned (.bool r) ∧ w.grownBy w' none := by
  have HT : Hid (TermsAt w ta ts) := hT
  have HL : Hid (IntsAt w la lv) := hL
  obtain ⟨n, hln⟩ : ∃ n, n = lv.length := ⟨_, rfl⟩
  have HLN : Hid (lv.length = n) := hln.symm
  rw [← hln] at hlv hr ⊢
  have HRR : Hid (r = true ↔ ∀ j, j < n → levelOK ts lv j) := hr
  have HN : Hid (ts.length ≤ 65) := hn
  have HX0 : Hid (PhAt w (w.alloc (.cells #[.slice ta ts.length tc, .slice na nn nc, .slice la n lc, .int .i64 st, .slice pa pn pc] 27)) w.heap.size #[.slice ta ts.length tc, .slice na nn nc, .slice la n lc, .int .i64 st, .slice pa pn pc]) := ⟨World.grownBy_alloc _ _ none, heap_alloc_last w _⟩
  clear hT hL hr hln
  go_enter Tryd.func76, Tryd.ntmps76
  go_wp2_with fail
  go_loopw [9] (fun i wr => ∃ k : Nat, k ≤ n ∧ i = .int .i64 k ∧ PhAt w wr w.heap.size #[.slice ta ts.length tc, .slice na nn nc, .slice la n lc, .int .i64 st, .slice pa pn pc] ∧ ∀ j, j < k → levelOK ts lv j) (fun i _ => n - (intOf i).toNat)
  case atStart => exact ⟨0, Nat.zero_le _, rfl, HX0.out, fun j hj => absurd hj (Nat.not_lt_zero _)⟩
  case round =>
    obtain ⟨k, hk, rfl, hX, hall⟩ := hrel
    have HX : Hid (PhAt w wr w.heap.size #[.slice ta ts.length tc, .slice na nn nc, .slice la n lc, .int .i64 st, .slice pa pn pc]) := hX
    have HA : Hid (∀ j, j < k → levelOK ts lv j) := hall
    clear hX hall HX0
    by_cases hlt : k < n
    · have hkl : k < lv.length := by rw [HLN.out]; exact hlt
      obtain ⟨bl, off, rfl, hcells⟩ : ∃ b off, la = some ⟨b, off, none⟩ ∧ ∀ i, i < lv.length → wr.cell? ⟨b, off + i, none⟩ = some (.int .i64 (lv.getD i 0)) := by
        rcases HL.out.kept HX.out.grown with h | h
        · subst h; simp at hkl
        · exact h
      have hck := hcells k hkl
      obtain ⟨y, hy⟩ : ∃ y, y = lv.getD k 0 := ⟨_, rfl⟩
      rw [← hy] at hck
      have HY : Hid (y = lv.getD k 0) := hy
      have HRF : Hid (¬ levelOK ts lv k → r = false) := fun hno => Bool.eq_false_iff.2 fun hh => hno (HRR.out.1 hh k hlt)
      have HXA : Hid (∀ o, PhAt w (wr.alloc o) w.heap.size #[.slice ta ts.length tc, .slice na nn nc, .slice (some ⟨bl, off, none⟩) n lc, .int .i64 st, .slice pa pn pc]) := fun o => HX.out.kept (World.grownBy_alloc _ _ none)
      have k0 := fun o => (HXA.out o).cells.1
      have hIS := fun o => isSide_any y (wr.alloc o)
      have HCF : Hid (∀ r', (r' = true ↔ ∃ t ∈ ts, t.2 = (k : Int) + 1) → Calls Tryd.prog 88 #[.slice ta ts.length tc, .func (.func 86) #[] #[.pointer (some ⟨wr.heap.size, 0, none⟩)]] (wr.alloc (.cells #[.int .i64 k] 3)) fun e w' => e = .returned (.bool r') ∧ (wr.alloc (.cells #[.int .i64 k] 3)).grownBy w' none) := fun r' hr' =>
        containsFunc_any ta tc wr.heap.size ts k _ (HT.out.kept (HXA.out _).grown) HN.out (by rw [cell_of_row _ _ _ _ _ _ (heap_alloc_last wr _)]; rfl) (by omega) r' hr'
      clear hcells hy
      cases hsd : (decide (1 ≤ y) && decide (y ≤ 3)) with
      | false =>
        have hf : r = false := HRF.out fun h => by have h4 := h.1; rw [← HY.out] at h4; simp [h4] at hsd
        clear HX HCF
        go_wp2_with fail
        refine (hIS _).mono ?_
        rintro e w2 ⟨rfl, hw2⟩
        rw [hsd]
        have HG2 : Hid (w.grownBy w2 none) := by rw [hw2]; exact (HXA.out _).grown
        clear hw2 k0
        go_wp2_with fail
        go_ret
        exact ⟨by first | rfl | (rw [hf]; rfl), HG2.out⟩
      | true =>
        by_cases hex : ∃ t ∈ ts, t.2 = (k : Int) + 1
        · have hcf := HCF.out true ⟨fun _ => hex, fun _ => rfl⟩
          have HA2 : Hid (∀ j, j < k + 1 → levelOK ts lv j) := fun j hj => by
            by_cases e : j = k
            · subst e
              refine ⟨?_, hex⟩
              rw [← HY.out]
              simpa using hsd
            · exact HA.out j (by omega)
          clear HX HCF hex
          go_wp2_with (go_at_call 87; refine (hIS _).mono ?_; rintro e w2 ⟨rfl, hw2⟩; subst hw2; rw [hsd])
          refine hcf.mono ?_
          rintro e w3 ⟨rfl, hg3⟩
          have HX3 : Hid (PhAt w w3 w.heap.size #[.slice ta ts.length tc, .slice na nn nc, .slice (some ⟨bl, off, none⟩) n lc, .int .i64 st, .slice pa pn pc]) := (HXA.out _).kept hg3
          clear hg3 hcf k0 hIS
          go_wp2_with fail
          go_roundw
          case rel => exact ⟨k + 1, by omega, by go_num, HX3.out, HA2.out⟩
          case measure => simp [intOf]; omega
        · have hcf := HCF.out false ⟨fun h => absurd h (by decide), fun h => absurd h hex⟩
          have hf : r = false := HRF.out fun h => hex h.2
          clear HX HCF hex
          go_wp2_with (go_at_call 87; refine (hIS _).mono ?_; rintro e w2 ⟨rfl, hw2⟩; subst hw2; rw [hsd])
          refine hcf.mono ?_
          rintro e w3 ⟨rfl, hg3⟩
          have HG3 : Hid (w.grownBy w3 none) := grown_trans (HXA.out _).grown hg3
          clear hg3 hcf k0 hIS
          go_wp2_with fail
          go_ret
          exact ⟨by first | rfl | (rw [hf]; rfl), HG3.out⟩
    · obtain rfl : k = n := by omega
      have hrt : r = true := HRR.out.2 HA.out
      have HG : Hid (w.grownBy wr none) := HX.out.grown
      clear HA HX
      go_wp2_with fail
      go_ret
      exact ⟨by first | rfl | (rw [hrt]; rfl), HG.out⟩

end Go.Proofs.YtdhojilmgnodeaaDoor

/-
  termsHold of whatever slice.
-/
namespace Go.Proofs.YtdhojilmgnodeaaDoor
open Go.RowKit Go.Maps Go.Shelf

attribute [local go_sem] Oper.semAt_some

set_option maxRecDepth 100000 in
theorem termsHold_one (b off : Nat) (na la pa : Option Addr) (nn ln pn nc lc pc : Nat) (st : Int) (t : ByteArray × Int) (w : World) (hT : TermsAt w (some ⟨b, off, none⟩) [t]) (r : Bool) (hr : r = true ↔ termsOK [t] ln) :
    Calls Tryd.prog 74 #[.agg #[.slice (some ⟨b, off, none⟩) 1 1, .slice na nn nc, .slice la ln lc, .int .i64 st, .slice pa pn pc]] w fun e w' => e = .returned (.bool r) ∧ w.grownBy w' none := by
  obtain ⟨j0, hj, hy0, hy1, hy2⟩ := info_parts infoStr
  obtain ⟨s0, l0⟩ := t
  have hcs : w.cell? ⟨b, off, none⟩ = some (.string s0) ∧ w.cell? ⟨b, off + 1, none⟩ = some (.int .i64 l0) := by
    rcases hT with h | ⟨b', off', he, h⟩
    · cases h
    · simp only [Option.some.injEq, Addr.mk.injEq, and_true] at he
      obtain ⟨rfl, rfl⟩ := he
      have := h 0 (by simp)
      simpa using this
  have hA1 : ∀ o, (w.alloc o).cell? ⟨b, off, none⟩ = some (.string s0) := fun o => (World.grownBy_alloc w o none).cell hcs.1 (by simp)
  have hA2 : ∀ o, (w.alloc o).cell? ⟨b, off + 1, none⟩ = some (.int .i64 l0) := fun o => (World.grownBy_alloc w o none).cell hcs.2 (by simp)
  have hq := fun w => neqTerm s0 ⟨#[]⟩ l0 0 w
  have hqg : Tryd.prog.eqGuardType Tryd.prog.depth 77 = false := by kernel_rfl
  have HRR : Hid (r = true ↔ termsOK [(s0, l0)] ln) := hr
  clear hcs hT hr
  by_cases hmk : s0 = ⟨#[]⟩ ∧ l0 = 0
  · obtain ⟨rfl, rfl⟩ := hmk
    have hq' : ∀ w, (binOp .neq 77 (.agg #[.string ⟨#[]⟩, .int .i64 0]) (.agg #[.string ⟨#[]⟩, .int .i64 0])).run Tryd.prog w = .ok (.bool false) w := fun w => by rw [hq]; simp
    have hrt : r = true := HRR.out.2 ⟨[], rfl, (fun t ht => by cases ht), (by simp)⟩
    have HNT : Hid (∀ W a c, Calls Tryd.prog 84 #[.slice a 0 c] W fun e w' => e = .returned (.bool true) ∧ W.grownBy w' none) := fun W a c => (noTwoAlike_any a c [] W (.inl rfl) (by simp) (fun s hs => by cases hs)).mono fun e w' ⟨r', he, h1, h2⟩ => ⟨by rw [he, h1.2 List.nodup_nil], h2⟩
    have HBX : Hid (∀ w1, (w.alloc (.cells #[.slice (some ⟨b, off, none⟩) 1 1, .slice na nn nc, .slice la ln lc, .int .i64 st, .slice pa pn pc] 27)).grownBy w1 none → w1.heap[w.heap.size]? = some (.cells #[.slice (some ⟨b, off, none⟩) 1 1, .slice na nn nc, .slice la ln lc, .int .i64 st, .slice pa pn pc] 27 (0, 0))) := fun w1 hg => (hg.block w.heap.size (by simp) (by simp)).trans (heap_alloc_last w _)
    clear hq
    go_enter Tryd.func74, Tryd.ntmps74
    go_wp2_with (at_make; refine wpList_make_own _ rfl _ _ 23 rfl (w.heap.size + 1) 9 j0 (.string ByteArray.empty) 1 Tryd.underlying23 hj hy0 hy1 .i64 .i64 _ 0 rfl rfl (by simp) (by rw [hy2]; omega) (by unfold maxLen; omega) (by simp) ?_; intro w1 hown1 hg1; have hbx1 := HBX.out w1 hg1; have k0 := cell_of_row w1 w.heap.size 0 _ _ _ hbx1; simp only [List.getElem?_toArray, List.getElem?_cons_zero] at k0)
    have HG1 : Hid (w.grownBy w1 none) := grown_trans (World.grownBy_alloc _ _ none) hg1
    clear hown1 hg1 hbx1 hA1 hA2
    refine wp_loop_rounds 1 ?_
    rw [rounds_succ]
    go_wp2_with fail
    refine (HNT.out _ _ _).mono ?_
    rintro e w5 ⟨rfl, hg5⟩
    go_wp2_with fail
    go_ret
    exact ⟨by first | rfl | (rw [hrt]; rfl), grown_trans HG1.out hg5⟩
  · have hb : (!(s0.toList == (ByteArray.mk #[]).toList && l0 == 0)) = true := by
      rw [Bool.not_eq_true', Bool.eq_false_iff]
      intro h
      rw [Bool.and_eq_true] at h
      exact hmk ⟨(toList_empty s0).1 (by simpa using h.1), by simpa using h.2⟩
    rw [hb] at hq
    have hrf : r = false := Bool.eq_false_iff.2 fun hh => by
      obtain ⟨rest', he, _⟩ := HRR.out.1 hh
      simp at he
      exact hmk he.1
    clear hb hmk
    go_enter Tryd.func74, Tryd.ntmps74
    go_wp2_with fail
    go_ret
    exact ⟨by first | rfl | (rw [hrf]; rfl), World.grownBy_alloc _ _ none⟩

theorem termsHold_any (ta na la pa : Option Addr) (nn ln pn tc nc lc pc : Nat) (st : Int) (ts : List (ByteArray × Int)) (w : World) (hT : TermsAt w ta ts) (hn : ts.length ≤ 65) (hc : ts.length ≤ tc) (r : Bool) (hr : r = true ↔ termsOK ts ln) :
    Calls Tryd.prog 74 #[.agg #[.slice ta ts.length tc, .slice na nn nc, .slice la ln lc, .int .i64 st, .slice pa pn pc]] w fun e w' => e = .returned (.bool r) ∧ w.grownBy w' none := by
  cases hts : ts with
  | nil =>
    have : r = false := Bool.eq_false_iff.2 fun h => by
      obtain ⟨rest, he, _⟩ := hr.1 h
      rw [hts] at he; cases he
    rw [this]
    exact termsHold_none ta na la pa nn ln pn tc nc lc pc st w
  | cons t rest =>
    rw [← hts]
    have hT' := hT
    rcases hT with h | ⟨b, off, rfl, _⟩
    · rw [hts] at h; cases h
    · have hpos : 0 < ts.length := by rw [hts]; simp
      by_cases h1 : tc = 1
      · have hl1 : ts.length = 1 := by omega
        obtain ⟨t', rfl⟩ : ∃ t', ts = [t'] := by
          match ts, hl1 with
          | [t'], _ => exact ⟨t', rfl⟩
        rw [h1]
        exact termsHold_one b off na la pa nn ln pn nc lc pc st t' w hT' r hr
      · exact termsHold_some b off na la pa nn ln pn tc nc lc pc st ts w hT' hpos hn hc h1 r hr

end Go.Proofs.YtdhojilmgnodeaaDoor
