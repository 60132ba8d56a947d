/-
  The document's own sets: Of.
-/
import Derived.Test.YtkmocjdjdlpphaaDoorRefMore
namespace Go.Proofs.YtkmocjdjdlpphaaDoor
open Go.RowKit

theorem info4 : (Tryd.prog.info? 4).map (fun i => (i.zero, i.size, i.bytes)) = some (some (.bool false), 1, 1) := by kernel_rfl

/-- A new list of n bools, each false. -/
theorem made_row {w w1 : World} {B n : Nat} (h : w1.ownsRow B 4 1 (.slice (some ⟨w.heap.size, 0, none⟩) n n) n (madeCells (Value.bool false).cells (n * 1)).toList) :
    w1.heap[w.heap.size]? = some (.cells (boolL n 0).toArray 4 (0, 0)) := by
  rcases h.2 with ⟨h', _⟩ | ⟨g, cap, cur, hv, _, hh, _, _, hs, ht⟩
  · cases h'
  · simp only [Value.slice.injEq, Option.some.injEq, Addr.mk.injEq, and_true, true_and] at hv
    obtain ⟨rfl, rfl⟩ := hv
    have e : cur = (boolL n 0).toArray := by
      apply Array.ext'
      rw [show cur.toList = cur.toList.take (n * 1) by rw [List.take_of_length_le (by simp; omega)], ht]
      rw [show (Value.bool false).cells = #[.bool false] from rfl, toList_madeCells_one, Nat.mul_one]
      unfold boolL
      simp only [Nat.zero_testBit]
      rw [List.map_const', List.length_range]
    rw [hh, e]

theorem refOf_core (z : Int) (n k m' : Nat) (v : Value) (w : World) (hn : clampN z = n)
    (hA : Hid (∀ W br, RefAt W br w.heap.size n 0 → Below w.heap.size w W → Calls Tryd.prog 18 #[.pointer (some ⟨br, 0, none⟩), v] W fun e w' =>
      e = .returned (.int .i64 k) ∧ RefAt w' br w.heap.size n m' ∧ But w.heap.size W w')) :
    Calls Tryd.prog 11 #[.int .i64 z, v] w fun e w' => ∃ br, e = .returned (.pointer (some ⟨br, 0, none⟩)) ∧ w.heap.size < br ∧ RefAt w' br w.heap.size n m' ∧ Below w.heap.size w w' := by
  obtain ⟨i0, hi, hz0, hz1, hz2⟩ := info_parts info4
  have hnl : n ≤ 1024 := by rw [← hn]; exact clampN_le z
  have FIN : Hid (∀ w1 : World, w1.ownsRow w.heap.size 4 1 (.slice (some ⟨w.heap.size, 0, none⟩) n n) n (madeCells (Value.bool false).cells (n * 1)).toList → w.grownBy w1 none →
      RefAt (w1.alloc (.cells #[.slice (some ⟨w.heap.size, 0, none⟩) n n] 70)) w1.heap.size w.heap.size n 0 ∧ Below w.heap.size w (w1.alloc (.cells #[.slice (some ⟨w.heap.size, 0, none⟩) n n] 70)) ∧ w.heap.size < w1.heap.size) := by
    intro w1 h1 h2
    have hr := made_row h1
    have hlt : w.heap.size < w1.heap.size := (Array.getElem?_eq_some_iff.1 hr).1
    refine ⟨⟨heap_alloc_last w1 _, (Below.heap_alloc _ _ _ hlt).trans hr, by omega, hnl, Nat.two_pow_pos _⟩, ?_, hlt⟩
    exact ((Below.refl _ w).grown h2 (Nat.le_refl _) (fun k e => by cases e)).alloc (by omega) _
  have FIN2 : Hid (∀ w1 w' : World, w1.ownsRow w.heap.size 4 1 (.slice (some ⟨w.heap.size, 0, none⟩) n n) n (madeCells (Value.bool false).cells (n * 1)).toList → w.grownBy w1 none →
      But w.heap.size (w1.alloc (.cells #[.slice (some ⟨w.heap.size, 0, none⟩) n n] 70)) w' → Below w.heap.size w w') := by
    intro w1 w' h1 h2 hb
    obtain ⟨_, f2, _⟩ := FIN.out w1 h1 h2
    exact f2.trans (hb.below f2.size (Nat.le_refl _))
  have HN : Hid (clampN z = n) := hn
  clear hn
  by_cases h1 : z ≤ 0
  · obtain rfl : n = 0 := by rw [← HN.out]; unfold clampN; omega
    by_cases h2 : z = 0
    · subst h2
      go_enter Tryd.func11, Tryd.ntmps11
      go_wp2_with (at_make; refine wpList_make_full _ rfl _ _ 68 rfl w.heap.size 4 i0 (.bool false) 1 Tryd.underlying68 hi hz0 hz1 .i64 .i64 _ _ 0 rfl rfl rfl rfl (by rw [hz2]; omega) (by unfold maxLen; omega) (Nat.le_refl _) ?_; intro w1 hown hgrow)
      obtain ⟨f1, f2, f3⟩ := FIN.out w1 hown hgrow
      refine (hA.out _ _ f1 f2).mono ?_
      clear f1 f2
      rintro e w' ⟨rfl, hr, hb⟩
      go_wp2
      go_ret
      exact ⟨_, rfl, f3, hr, FIN2.out _ _ hown hgrow hb⟩
    · have h3 : z < 0 := by omega
      clear h1
      go_enter Tryd.func11, Tryd.ntmps11
      go_wp2_with (at_make; refine wpList_make_full _ rfl _ _ 68 rfl w.heap.size 4 i0 (.bool false) 1 Tryd.underlying68 hi hz0 hz1 .i64 .i64 _ _ 0 rfl rfl rfl rfl (by rw [hz2]; omega) (by unfold maxLen; omega) (Nat.le_refl _) ?_; intro w1 hown hgrow)
      obtain ⟨f1, f2, f3⟩ := FIN.out w1 hown hgrow
      refine (hA.out _ _ f1 f2).mono ?_
      clear f1 f2
      rintro e w' ⟨rfl, hr, hb⟩
      go_wp2
      go_ret
      exact ⟨_, rfl, f3, hr, FIN2.out _ _ hown hgrow hb⟩
  · by_cases h2 : z ≤ 1024
    · obtain ⟨y, rfl⟩ := Int.eq_ofNat_of_zero_le (by omega : 0 ≤ z)
      obtain rfl : n = y := by rw [← HN.out]; unfold clampN; omega
      go_enter Tryd.func11, Tryd.ntmps11
      go_wp2_with (at_make; refine wpList_make_full _ rfl _ _ 68 rfl w.heap.size 4 i0 (.bool false) 1 Tryd.underlying68 hi hz0 hz1 .i64 .i64 _ _ n rfl rfl rfl rfl (by rw [hz2]; omega) (by unfold maxLen; omega) (Nat.le_refl _) ?_; intro w1 hown hgrow)
      obtain ⟨f1, f2, f3⟩ := FIN.out w1 hown hgrow
      refine (hA.out _ _ f1 f2).mono ?_
      clear f1 f2
      rintro e w' ⟨rfl, hr, hb⟩
      go_wp2
      go_ret
      exact ⟨_, rfl, f3, hr, FIN2.out _ _ hown hgrow hb⟩
    · obtain rfl : n = 1024 := by rw [← HN.out]; unfold clampN; omega
      go_enter Tryd.func11, Tryd.ntmps11
      go_wp2_with (at_make; refine wpList_make_full _ rfl _ _ 68 rfl w.heap.size 4 i0 (.bool false) 1 Tryd.underlying68 hi hz0 hz1 .i64 .i64 _ _ 1024 rfl rfl rfl rfl (by rw [hz2]; omega) (by unfold maxLen; omega) (Nat.le_refl _) ?_; intro w1 hown hgrow)
      obtain ⟨f1, f2, f3⟩ := FIN.out w1 hown hgrow
      refine (hA.out _ _ f1 f2).mono ?_
      clear f1 f2
      rintro e w' ⟨rfl, hr, hb⟩
      go_wp2
      go_ret
      exact ⟨_, rfl, f3, hr, FIN2.out _ _ hown hgrow hb⟩

theorem refOf_any (z : Int) (a : Option Addr) (cap : Nat) (l : List Int) (w : World) (hl : IntsAt w a l) (hlen : l.length < 1152921504606846976) :
    Calls Tryd.prog 11 #[.int .i64 z, .slice a l.length cap] w fun e w' => ∃ br, e = .returned (.pointer (some ⟨br, 0, none⟩)) ∧ w.heap.size < br ∧ RefAt w' br w.heap.size (clampN z) (addS (clampN z) 0 l).1 ∧ Below w.heap.size w w' := by
  rcases hl with rfl | ⟨bl, off, rfl, hc⟩
  · refine refOf_core z _ 0 0 _ w rfl (fun W br hr hb => (radd_none br a cap W).mono ?_)
    rintro e w' ⟨rfl, rfl⟩
    exact ⟨rfl, hr, But.refl _ _⟩
  · by_cases hne : l = []
    · subst hne
      refine refOf_core z _ 0 0 _ w rfl (fun W br hr hb => (radd_none br _ cap W).mono ?_)
      rintro e w' ⟨rfl, rfl⟩
      exact ⟨rfl, hr, But.refl _ _⟩
    · have hlt : bl < w.heap.size := World.block_lt_of_cell? w _ (hc 0 (List.length_pos_iff.2 hne))
      refine refOf_core z _ (addS (clampN z) 0 l).2 _ _ w rfl (fun W br hr hb => radd_row br w.heap.size _ 0 bl off cap l W hr (by omega) hlen (fun i hi => ?_))
      rw [hb.cell (by exact hlt)]; exact hc i hi

end Go.Proofs.YtkmocjdjdlpphaaDoor
