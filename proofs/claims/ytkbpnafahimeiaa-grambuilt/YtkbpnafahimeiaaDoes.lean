/-
  The law's does: one call of both builders.
-/
import Derived.Test.YtkbpnafahimeiaaTold
import Derived.Test.YtkbpnafahimeiaaListed
import Derived.Test.YtkbpnafahimeiaaListedR
import Derived.Test.YtkbpnafahimeiaaListedG
import Derived.Test.YtkbpnafahimeiaaNamed
namespace Go.Proofs.Ytkbpnafahimeiaa
open Go.RowKit Go.Maps Go.Shelf

attribute [local go_sem] Oper.semAt_some

/-- What a call makes of a builder. -/
def BS.does (S : BS) (kd A : Int) (l : List Int) (s : ByteArray) : BS :=
  if kd % 8 = 0 then (S.term s).2.2 else if kd % 8 = 1 then (S.non s).2.2 else if kd % 8 = 2 then (S.level A l).2.2 else if kd % 8 = 3 then (S.rule A l).2.2 else if kd % 8 = 4 then (S.grade A l).2 else if kd % 8 = 5 then (S.startA A).2 else S

theorem rem_of {kd m : Int} (h : kd.tmod 8 = m) : (kd % 8 = if m < 0 then m + 8 else m) ∧ -8 < m ∧ m < 8 := by
  have h1 := Int.mul_tdiv_add_tmod kd 8
  have h2 : kd.tmod 8 < 8 := Int.tmod_lt_of_pos kd (by decide)
  have h3 : -8 < kd.tmod 8 := by
    have := Int.tmod_lt_of_pos (-kd) (b := 8) (by decide)
    rw [Int.neg_tmod] at this
    omega
  rw [h] at h1 h2 h3
  refine ⟨?_, h3, h2⟩
  split <;> omega

set_option maxRecDepth 100000 in
set_option maxHeartbeats 4000000 in
theorem does_start (X w : World) (K : Nat → Prop) (x b r : Nat) (S : BS) (P Q : Nat → Prop) (hT : Two w K x b r S S P Q) (hX : Frm K X w) (kd A : Int) (la : Option Addr) (ln lc : Nat) (s : ByteArray) (m : Int) (hm : m = 5 ∨ m = -3) (hr : kd.tmod 8 = m) :
    Calls Try.prog 8 #[.pointer (some ⟨x, 0, none⟩), .agg #[.int .i64 kd, .int .i64 A, .slice la ln lc, .string s]] w fun e w' => LEnd X K x b r (S.startA A).2 e w' := by
  have E1 : Hid (∀ args w, (callFunc 26 args).run Try.prog w = .ok (.enter 26 args) w) := enters_of Try.func26 (by kernel_rfl) rfl
  have E2 : Hid (∀ args w, (callFunc 27 args).run Try.prog w = .ok (.enter 27 args) w) := enters_of Try.func27 (by kernel_rfl) rfl
  obtain ⟨W, hW⟩ : ∃ W, W = w.alloc (.cells #[.int .i64 kd, .int .i64 A, .slice la ln lc, .string s] 38) := ⟨_, rfl⟩
  have HW : Hid (W = w.alloc (.cells #[.int .i64 kd, .int .i64 A, .slice la ln lc, .string s] 38)) := hW
  have hgW : w.grownBy W.drew none := by rw [hW]; exact grown_trans (World.grownBy_alloc _ _ none) (grown_drewN _ 1)
  obtain ⟨P1, Q1, HTW⟩ : ∃ P1 Q1, Two W.drew K x b r S S P1 Q1 := ⟨_, _, hT.fresh hgW⟩
  have HXW : Hid (Frm K X W.drew) := hX.kept hgW
  have HOB : Hid (W.drew.heap[w.heap.size]? = some (.cells #[.int .i64 kd, .int .i64 A, .slice la ln lc, .string s] 38 (0, 0))) := by rw [hW]; exact heap_alloc_last w _
  have HA := start_at b { S with P := P1 } A W.drew HTW.pb
  have HAC : Hid (Calls Try.prog 26 #[.pointer (some ⟨b, 0, none⟩), .int .i64 A] W.drew fun e w' => e = .returned (.int .i64 (S.startA A).1) ∧ BAt w' b { (S.startA A).2 with P := P1 } ∧ W.drew.grownBy w' (some b)) := by
    refine HA.mono ?_
    rintro e w' ⟨rfl, h2, h3⟩
    by_cases hi : S.isN A = true
    · have e1 : S.startA A = (0, { S with start := A }) := by unfold BS.startA; rw [if_pos hi]
      rw [if_pos (show ({ S with P := P1 } : BS).isN A = true from hi)] at h2
      rw [if_pos (show ({ S with P := P1 } : BS).isN A = true from hi)]
      rw [e1]
      exact ⟨rfl, h2, h3⟩
    · have e1 : S.startA A = (1, S) := by unfold BS.startA; rw [if_neg hi]
      rw [if_neg (show ¬ ({ S with P := P1 } : BS).isN A = true from hi)] at h2
      rw [if_neg (show ¬ ({ S with P := P1 } : BS).isN A = true from hi)]
      rw [e1]
      exact ⟨rfl, h2, h3⟩
  have x0d : W.drew.cell? ⟨x, 0, none⟩ = some (.pointer (some ⟨b, 0, none⟩)) := by rw [cell_of_row _ _ _ _ _ _ HTW.box]; rfl
  have s0d : W.drew.cell? ⟨w.heap.size, 1, none⟩ = some (.int .i64 A) := by rw [cell_of_row _ _ _ _ _ _ HOB.out]; rfl
  have x0 : W.cell? ⟨x, 0, none⟩ = some (.pointer (some ⟨b, 0, none⟩)) := x0d
  have s0 : W.cell? ⟨w.heap.size, 1, none⟩ = some (.int .i64 A) := s0d
  have k0 : W.cell? ⟨w.heap.size, 0, none⟩ = some (.int .i64 kd) := by show W.drew.cell? _ = _; rw [cell_of_row _ _ _ _ _ _ HOB.out]; rfl
  have hbl : b < w.heap.size := by
    obtain ⟨_, c, hr, _⟩ := hT.pb
    exact (Array.getElem?_eq_some_iff.1 hr).1
  have HOL : Hid (w.heap.size < W.drew.heap.size) := (Array.getElem?_eq_some_iff.1 HOB.out).1
  have HOb : Hid (some w.heap.size ≠ some b) := by intro e; have : w.heap.size = b := by simpa using e
                                                   omega
  have HSOK : Hid S.OK := hT.ok
  clear HA hW hgW hT hbl hX
  rcases hm with rfl | rfl
  all_goals
    go_enter Try.func8, Try.ntmps8
    go_wp2_with fail
    rw [← HW.out]
    go_wp2_with fail
    go_region_law (first
      | (refine step_call rfl 26 #[.tmp 37, .tmp 39] #[25, 3] rfl #[.pointer (some ⟨b, 0, none⟩), .int .i64 A] (by simp [Act.eval]) E1.out HAC.out ?_; rintro e w1 ⟨rfl, hB1, hg1⟩; refine ⟨_, rfl, ?_⟩))
    all_goals
      have HT1 : Two w1.drew K x b r (S.startA A).2 S _ _ := (HTW.prog hB1 hg1).kept (grown_drewN w1 1)
      have HG1 := show Hid (Frm K X w1.drew) from (HTW.grownP HXW.out hg1).kept (grown_drewN w1 1)
      have HOB1 := show Hid (w1.drew.heap[w.heap.size]? = some (.cells #[.int .i64 kd, .int .i64 A, .slice la ln lc, .string s] 38 (0, 0))) from (hg1.block _ HOL.out HOb.out).trans HOB.out
      have HB2 := show Hid _ from rstart_any r S A w1.drew _ HSOK.out HT1.rb
      have x1d : w1.drew.cell? ⟨x, 1, none⟩ = some (.pointer (some ⟨r, 0, none⟩)) := by rw [cell_of_row _ _ _ _ _ _ HT1.box]; rfl
      have s1d : w1.drew.cell? ⟨w.heap.size, 1, none⟩ = some (.int .i64 A) := by rw [cell_of_row _ _ _ _ _ _ HOB1.out]; rfl
      have x1 : w1.cell? ⟨x, 1, none⟩ = some (.pointer (some ⟨r, 0, none⟩)) := x1d
      have s1 : w1.cell? ⟨w.heap.size, 1, none⟩ = some (.int .i64 A) := s1d
      have HT2 := show Hid _ from HT1
      clear HT1 hB1 hg1 x0 s0 x0d s0d HAC HOB HOB1 k0
      generalize hTe : S.startA A = T at *
      obtain ⟨t1, S'⟩ := T
      have HTE : Hid (S.startA A = (t1, S')) := hTe
      clear hTe
      go_wp2_with fail
      go_region_law (first
        | (refine step_call rfl 27 #[.tmp 44, .tmp 46] #[27, 3] rfl #[.pointer (some ⟨r, 0, none⟩), .int .i64 A] (by simp [Act.eval]) E2.out HB2.out ?_; rintro e w2 ⟨rfl, hR2, hg2⟩; refine ⟨_, rfl, ?_⟩))
      all_goals go_wp2_with fail
      all_goals go_ret
      all_goals (refine ⟨rfl, ?_⟩; rw [HTE.out]; exact ⟨_, _, HT2.out.doc hR2 hg2, HT2.out.grownD HG1.out hg2⟩)

set_option maxRecDepth 100000 in
set_option maxHeartbeats 1000000 in
theorem does_walk (x : Nat) (w W : World) (kd A : Int) (la : Option Addr) (ln lc : Nat) (s : ByteArray) (m : Int) (hW : W = w.alloc (.cells #[.int .i64 kd, .int .i64 A, .slice la ln lc, .string s] 38))
    (R : World → Prop)
    (hcase : m = 0 ∨ m = 1 ∨ m = 2 ∨ m = 3 ∨ m = 4 ∨ m = 6 ∨ m = 7 ∨ m = -7 ∨ m = -6 ∨ m = -5 ∨ m = -4 ∨ m = -2 ∨ m = -1) (hm : kd.tmod 8 = m)
    (h0 : m = 0 → Calls Try.prog 24 #[.pointer (some ⟨x, 0, none⟩), .agg #[.int .i64 kd, .int .i64 A, .slice la ln lc, .string s], .bool true] W fun e w' => e = .returned (.bool true) ∧ R w')
    (h1 : m = 1 ∨ m = -7 → Calls Try.prog 24 #[.pointer (some ⟨x, 0, none⟩), .agg #[.int .i64 kd, .int .i64 A, .slice la ln lc, .string s], .bool false] W fun e w' => e = .returned (.bool true) ∧ R w')
    (h2 : m = 2 ∨ m = -6 → Calls Try.prog 25 #[.pointer (some ⟨x, 0, none⟩), .agg #[.int .i64 kd, .int .i64 A, .slice la ln lc, .string s], .int .i64 2] W fun e w' => e = .returned (.bool true) ∧ R w')
    (h3 : m = 3 ∨ m = -5 → Calls Try.prog 25 #[.pointer (some ⟨x, 0, none⟩), .agg #[.int .i64 kd, .int .i64 A, .slice la ln lc, .string s], .int .i64 3] W fun e w' => e = .returned (.bool true) ∧ R w')
    (h4 : m = 4 ∨ m = -4 → Calls Try.prog 25 #[.pointer (some ⟨x, 0, none⟩), .agg #[.int .i64 kd, .int .i64 A, .slice la ln lc, .string s], .int .i64 4] W fun e w' => e = .returned (.bool true) ∧ R w')
    (h6 : m = 6 ∨ m = 7 ∨ m = -2 ∨ m = -1 → Calls Try.prog 9 #[.pointer (some ⟨x, 0, none⟩)] W fun e w' => e = .returned (.bool true) ∧ R w') :
    Calls Try.prog 8 #[.pointer (some ⟨x, 0, none⟩), .agg #[.int .i64 kd, .int .i64 A, .slice la ln lc, .string s]] w fun e w' => e = .returned (.bool true) ∧ R w' := by
  have HW := show Hid _ from hW
  have H0 := show Hid _ from h0
  have H1 := show Hid _ from h1
  have H2 := show Hid _ from h2
  have H3 := show Hid _ from h3
  have H4 := show Hid _ from h4
  have H6 := show Hid _ from h6
  clear hW h0 h1 h2 h3 h4 h6
  rcases hcase with rfl | rfl | rfl | rfl | rfl | rfl | rfl | rfl | rfl | rfl | rfl | rfl | rfl
  · go_enter Try.func8, Try.ntmps8
    go_wp2_with fail
    rw [← HW.out]
    refine Calls.mono (H0.out (by simp)) ?_
    rintro e w1 ⟨rfl, hw2⟩
    go_wp2_with fail
    go_ret
    exact ⟨rfl, hw2⟩
  · go_enter Try.func8, Try.ntmps8
    go_wp2_with fail
    rw [← HW.out]
    refine Calls.mono (H1.out (by simp)) ?_
    rintro e w1 ⟨rfl, hw2⟩
    go_wp2_with fail
    go_ret
    exact ⟨rfl, hw2⟩
  · go_enter Try.func8, Try.ntmps8
    go_wp2_with fail
    rw [← HW.out]
    refine Calls.mono (H2.out (by simp)) ?_
    rintro e w1 ⟨rfl, hw2⟩
    go_wp2_with fail
    go_ret
    exact ⟨rfl, hw2⟩
  · go_enter Try.func8, Try.ntmps8
    go_wp2_with fail
    rw [← HW.out]
    refine Calls.mono (H3.out (by simp)) ?_
    rintro e w1 ⟨rfl, hw2⟩
    go_wp2_with fail
    go_ret
    exact ⟨rfl, hw2⟩
  · go_enter Try.func8, Try.ntmps8
    go_wp2_with fail
    rw [← HW.out]
    refine Calls.mono (H4.out (by simp)) ?_
    rintro e w1 ⟨rfl, hw2⟩
    go_wp2_with fail
    go_ret
    exact ⟨rfl, hw2⟩
  · go_enter Try.func8, Try.ntmps8
    go_wp2_with fail
    rw [← HW.out]
    refine Calls.mono (H6.out (by simp)) ?_
    rintro e w1 ⟨rfl, hw2⟩
    go_wp2_with fail
    go_ret
    exact ⟨rfl, hw2⟩
  · go_enter Try.func8, Try.ntmps8
    go_wp2_with fail
    rw [← HW.out]
    refine Calls.mono (H6.out (by simp)) ?_
    rintro e w1 ⟨rfl, hw2⟩
    go_wp2_with fail
    go_ret
    exact ⟨rfl, hw2⟩
  · go_enter Try.func8, Try.ntmps8
    go_wp2_with fail
    rw [← HW.out]
    refine Calls.mono (H1.out (by simp)) ?_
    rintro e w1 ⟨rfl, hw2⟩
    go_wp2_with fail
    go_ret
    exact ⟨rfl, hw2⟩
  · go_enter Try.func8, Try.ntmps8
    go_wp2_with fail
    rw [← HW.out]
    refine Calls.mono (H2.out (by simp)) ?_
    rintro e w1 ⟨rfl, hw2⟩
    go_wp2_with fail
    go_ret
    exact ⟨rfl, hw2⟩
  · go_enter Try.func8, Try.ntmps8
    go_wp2_with fail
    rw [← HW.out]
    refine Calls.mono (H3.out (by simp)) ?_
    rintro e w1 ⟨rfl, hw2⟩
    go_wp2_with fail
    go_ret
    exact ⟨rfl, hw2⟩
  · go_enter Try.func8, Try.ntmps8
    go_wp2_with fail
    rw [← HW.out]
    refine Calls.mono (H4.out (by simp)) ?_
    rintro e w1 ⟨rfl, hw2⟩
    go_wp2_with fail
    go_ret
    exact ⟨rfl, hw2⟩
  · go_enter Try.func8, Try.ntmps8
    go_wp2_with fail
    rw [← HW.out]
    refine Calls.mono (H6.out (by simp)) ?_
    rintro e w1 ⟨rfl, hw2⟩
    go_wp2_with fail
    go_ret
    exact ⟨rfl, hw2⟩
  · go_enter Try.func8, Try.ntmps8
    go_wp2_with fail
    rw [← HW.out]
    refine Calls.mono (H6.out (by simp)) ?_
    rintro e w1 ⟨rfl, hw2⟩
    go_wp2_with fail
    go_ret
    exact ⟨rfl, hw2⟩

set_option maxRecDepth 100000 in
set_option maxHeartbeats 4000000 in
theorem does_any (X w : World) (K : Nat → Prop) (x b r : Nat) (S : BS) (P Q : Nat → Prop) (hT : Two w K x b r S S P Q) (hX : Frm K X w) (kd A : Int) (la : Option Addr) (lc : Nat) (l : List Int) (s : ByteArray) (hl : ∀ W, Frm K X W → IntsAt W la l) (hlen : l.length ≤ 17592186044416) (hs : s.size ≤ 140737488355328) :
    Calls Try.prog 8 #[.pointer (some ⟨x, 0, none⟩), .agg #[.int .i64 kd, .int .i64 A, .slice la l.length lc, .string s]] w fun e w' => LEnd X K x b r (S.does kd A l s) e w' := by
  obtain ⟨m, hm⟩ : ∃ m, kd.tmod 8 = m := ⟨_, rfl⟩
  obtain ⟨hrem, hlo, hhi⟩ := rem_of hm
  by_cases h5 : m = 5 ∨ m = -3
  · have e : S.does kd A l s = (S.startA A).2 := by
      have e5 : kd % 8 = 5 := by rw [hrem]; rcases h5 with rfl | rfl <;> rfl
      simp [BS.does, e5]
    rw [e]
    exact does_start X w K x b r S P Q hT hX kd A la l.length lc s m h5 hm
  obtain ⟨W, hW⟩ : ∃ W, W = w.alloc (.cells #[.int .i64 kd, .int .i64 A, .slice la l.length lc, .string s] 38) := ⟨_, rfl⟩
  have HW : Hid (W = w.alloc (.cells #[.int .i64 kd, .int .i64 A, .slice la l.length lc, .string s] 38)) := hW
  have hgW : w.grownBy W none := by rw [hW]; exact World.grownBy_alloc _ _ none
  have HTW := hT.fresh hgW
  have hXW : Frm K X W := hX.kept hgW
  have HN0 : Hid (kd % 8 = 0 → Calls Try.prog 24 #[.pointer (some ⟨x, 0, none⟩), .agg #[.int .i64 kd, .int .i64 A, .slice la l.length lc, .string s], .bool true] W fun e w' => LEnd X K x b r (S.does kd A l s) e w') := fun h => by
    rw [show S.does kd A l s = (S.term s).2.2 by simp [BS.does, h]]
    exact (named_term W K x b r S _ _ HTW kd A la l.length lc s hs).mono fun e w' ⟨h1, P', Q', h2, h3⟩ => ⟨h1, P', Q', h2, h3 X hXW⟩
  have HN1 : Hid (kd % 8 = 1 → Calls Try.prog 24 #[.pointer (some ⟨x, 0, none⟩), .agg #[.int .i64 kd, .int .i64 A, .slice la l.length lc, .string s], .bool false] W fun e w' => LEnd X K x b r (S.does kd A l s) e w') := fun h => by
    rw [show S.does kd A l s = (S.non s).2.2 by simp [BS.does, h]]
    exact (named_non W K x b r S _ _ HTW kd A la l.length lc s hs).mono fun e w' ⟨h1, P', Q', h2, h3⟩ => ⟨h1, P', Q', h2, h3 X hXW⟩
  have HN2 : Hid (kd % 8 = 2 → Calls Try.prog 25 #[.pointer (some ⟨x, 0, none⟩), .agg #[.int .i64 kd, .int .i64 A, .slice la l.length lc, .string s], .int .i64 2] W fun e w' => LEnd X K x b r (S.does kd A l s) e w') := fun h => by
    rw [show S.does kd A l s = (S.level A l).2.2 by simp [BS.does, h]]
    exact listed_level X W K x b r S _ _ HTW hXW kd A la lc l s hl hlen
  have HN3 : Hid (kd % 8 = 3 → Calls Try.prog 25 #[.pointer (some ⟨x, 0, none⟩), .agg #[.int .i64 kd, .int .i64 A, .slice la l.length lc, .string s], .int .i64 3] W fun e w' => LEnd X K x b r (S.does kd A l s) e w') := fun h => by
    rw [show S.does kd A l s = (S.rule A l).2.2 by simp [BS.does, h]]
    exact listed_rule X W K x b r S _ _ HTW hXW kd A la lc l s hl hlen
  have HN4 : Hid (kd % 8 = 4 → Calls Try.prog 25 #[.pointer (some ⟨x, 0, none⟩), .agg #[.int .i64 kd, .int .i64 A, .slice la l.length lc, .string s], .int .i64 4] W fun e w' => LEnd X K x b r (S.does kd A l s) e w') := fun h => by
    rw [show S.does kd A l s = (S.grade A l).2 by simp [BS.does, h]]
    exact listed_grade X W K x b r S _ _ HTW hXW kd A la lc l s hl hlen
  have HN6 : Hid (6 ≤ kd % 8 → Calls Try.prog 9 #[.pointer (some ⟨x, 0, none⟩)] W fun e w' => LEnd X K x b r (S.does kd A l s) e w') := fun h => by
    rw [show S.does kd A l s = S by unfold BS.does; rw [if_neg (by omega), if_neg (by omega), if_neg (by omega), if_neg (by omega), if_neg (by omega), if_neg (by omega)]]
    exact told_any X W K x b r S _ _ HTW hXW
  generalize S.does kd A l s = S2 at *
  have hcase : m = 0 ∨ m = 1 ∨ m = 2 ∨ m = 3 ∨ m = 4 ∨ m = 6 ∨ m = 7 ∨ m = -7 ∨ m = -6 ∨ m = -5 ∨ m = -4 ∨ m = -2 ∨ m = -1 := by omega
  have HREM : Hid (kd % 8 = if m < 0 then m + 8 else m) := hrem
  clear hrem hlo hhi hW hgW HTW hXW hT hX h5
  exact does_walk x w W kd A la l.length lc s m HW.out (fun w' => ∃ P' Q', Two w' K x b r S2 S2 P' Q' ∧ Frm K X w') hcase hm
    (fun h => HN0.out (by rw [HREM.out, h]; rfl)) (fun h => HN1.out (by rw [HREM.out]; rcases h with rfl | rfl <;> rfl)) (fun h => HN2.out (by rw [HREM.out]; rcases h with rfl | rfl <;> rfl)) (fun h => HN3.out (by rw [HREM.out]; rcases h with rfl | rfl <;> rfl)) (fun h => HN4.out (by rw [HREM.out]; rcases h with rfl | rfl <;> rfl)) (fun h => HN6.out (by rw [HREM.out]; rcases h with rfl | rfl | rfl | rfl <;> decide))

end Go.Proofs.Ytkbpnafahimeiaa
