/-
  termsHold of whatever slice.
-/
import Derived.Test.YtkbpnafahimeiaaLevelsWalk
namespace Go.Proofs.Ytkbpnafahimeiaa
open Go.RowKit Go.Maps Go.Shelf

attribute [local go_sem] Oper.semAt_some

set_option maxRecDepth 100000 in
theorem termsHold_one (b off : Nat) (na la pa : Option Addr) (nn ln pn nc lc pc : Nat) (st : Int) (t : ByteArray × Int) (w : World) (hT : TermsAt w (some ⟨b, off, none⟩) [t]) (r : Bool) (hr : r = true ↔ termsOK [t] ln) :
    Calls Try.prog 64 #[.agg #[.slice (some ⟨b, off, none⟩) 1 1, .slice na nn nc, .slice la ln lc, .int .i64 st, .slice pa pn pc]] w fun e w' => e = .returned (.bool r) ∧ w.grownBy w' none := by
  obtain ⟨j0, hj, hy0, hy1, hy2⟩ := info_parts infoStr
  obtain ⟨s0, l0⟩ := t
  have hcs : w.cell? ⟨b, off, none⟩ = some (.string s0) ∧ w.cell? ⟨b, off + 1, none⟩ = some (.int .i64 l0) := by
    rcases hT with h | ⟨b', off', he, h⟩
    · cases h
    · simp only [Option.some.injEq, Addr.mk.injEq, and_true] at he
      obtain ⟨rfl, rfl⟩ := he
      have := h 0 (by simp)
      simpa using this
  have hA1 : ∀ o, (w.alloc o).cell? ⟨b, off, none⟩ = some (.string s0) := fun o => (World.grownBy_alloc w o none).cell hcs.1 (by simp)
  have hA2 : ∀ o, (w.alloc o).cell? ⟨b, off + 1, none⟩ = some (.int .i64 l0) := fun o => (World.grownBy_alloc w o none).cell hcs.2 (by simp)
  have hq := fun w => neqTerm s0 ⟨#[]⟩ l0 0 w
  have hqg : Try.prog.eqGuardType Try.prog.depth 74 = false := by kernel_rfl
  have HRR : Hid (r = true ↔ termsOK [(s0, l0)] ln) := hr
  clear hcs hT hr
  by_cases hmk : s0 = ⟨#[]⟩ ∧ l0 = 0
  · obtain ⟨rfl, rfl⟩ := hmk
    have hq' : ∀ w, (binOp .neq 74 (.agg #[.string ⟨#[]⟩, .int .i64 0]) (.agg #[.string ⟨#[]⟩, .int .i64 0])).run Try.prog w = .ok (.bool false) w := fun w => by rw [hq]; simp
    have hrt : r = true := HRR.out.2 ⟨[], rfl, (fun t ht => by cases ht), (by simp)⟩
    have HNT : Hid (∀ W a c, Calls Try.prog 90 #[.slice a 0 c] W fun e w' => e = .returned (.bool true) ∧ W.grownBy w' none) := fun W a c => (noTwoAlike_any a c [] W (.inl rfl) (by simp) (fun s hs => by cases hs)).mono fun e w' ⟨r', he, h1, h2⟩ => ⟨by rw [he, h1.2 List.nodup_nil], h2⟩
    have HBX : Hid (∀ w1, (w.alloc (.cells #[.slice (some ⟨b, off, none⟩) 1 1, .slice na nn nc, .slice la ln lc, .int .i64 st, .slice pa pn pc] 42)).grownBy w1 none → w1.heap[w.heap.size]? = some (.cells #[.slice (some ⟨b, off, none⟩) 1 1, .slice na nn nc, .slice la ln lc, .int .i64 st, .slice pa pn pc] 42 (0, 0))) := fun w1 hg => (hg.block w.heap.size (by simp) (by simp)).trans (heap_alloc_last w _)
    clear hq
    go_enter Try.func64, Try.ntmps64
    go_wp2_with (at_make; refine wpList_make_own _ rfl _ _ 29 rfl (w.heap.size + 1) 9 j0 (.string ByteArray.empty) 1 Try.underlying29 hj hy0 hy1 .i64 .i64 _ 0 rfl rfl (by simp) (by rw [hy2]; omega) (by unfold maxLen; omega) (by simp) ?_; intro w1 hown1 hg1; have hbx1 := HBX.out w1 hg1; have k0 := cell_of_row w1 w.heap.size 0 _ _ _ hbx1; simp only [List.getElem?_toArray, List.getElem?_cons_zero] at k0)
    have HG1 : Hid (w.grownBy w1 none) := grown_trans (World.grownBy_alloc _ _ none) hg1
    clear hown1 hg1 hbx1 hA1 hA2
    refine wp_loop_rounds 1 ?_
    rw [rounds_succ]
    go_wp2_with fail
    refine (HNT.out _ _ _).mono ?_
    rintro e w5 ⟨rfl, hg5⟩
    go_wp2_with fail
    go_ret
    exact ⟨by first | rfl | (rw [hrt]; rfl), grown_trans HG1.out hg5⟩
  · have hb : (!(s0.toList == (ByteArray.mk #[]).toList && l0 == 0)) = true := by
      rw [Bool.not_eq_true', Bool.eq_false_iff]
      intro h
      rw [Bool.and_eq_true] at h
      exact hmk ⟨(toList_empty s0).1 (by simpa using h.1), by simpa using h.2⟩
    rw [hb] at hq
    have hrf : r = false := Bool.eq_false_iff.2 fun hh => by
      obtain ⟨rest', he, _⟩ := HRR.out.1 hh
      simp at he
      exact hmk he.1
    clear hb hmk
    go_enter Try.func64, Try.ntmps64
    go_wp2_with fail
    go_ret
    exact ⟨by first | rfl | (rw [hrf]; rfl), World.grownBy_alloc _ _ none⟩

theorem termsHold_any (ta na la pa : Option Addr) (nn ln pn tc nc lc pc : Nat) (st : Int) (ts : List (ByteArray × Int)) (w : World) (hT : TermsAt w ta ts) (hn : ts.length ≤ 65) (hc : ts.length ≤ tc) (r : Bool) (hr : r = true ↔ termsOK ts ln) :
    Calls Try.prog 64 #[.agg #[.slice ta ts.length tc, .slice na nn nc, .slice la ln lc, .int .i64 st, .slice pa pn pc]] w fun e w' => e = .returned (.bool r) ∧ w.grownBy w' none := by
  cases hts : ts with
  | nil =>
    have : r = false := Bool.eq_false_iff.2 fun h => by
      obtain ⟨rest, he, _⟩ := hr.1 h
      rw [hts] at he; cases he
    rw [this]
    exact termsHold_none ta na la pa nn ln pn tc nc lc pc st w
  | cons t rest =>
    rw [← hts]
    have hT' := hT
    rcases hT with h | ⟨b, off, rfl, _⟩
    · rw [hts] at h; cases h
    · have hpos : 0 < ts.length := by rw [hts]; simp
      by_cases h1 : tc = 1
      · have hl1 : ts.length = 1 := by omega
        obtain ⟨t', rfl⟩ : ∃ t', ts = [t'] := by
          match ts, hl1 with
          | [t'], _ => exact ⟨t', rfl⟩
        rw [h1]
        exact termsHold_one b off na la pa nn ln pn nc lc pc st t' w hT' r hr
      · exact termsHold_some b off na la pa nn ln pn tc nc lc pc st ts w hT' hpos hn hc h1 r hr

end Go.Proofs.Ytkbpnafahimeiaa
