/-
  The law's named: Term or Non of both builders.
-/
import Derived.Test.YtkbpnafahimeiaaTwo
namespace Go.Proofs.Ytkbpnafahimeiaa
open Go.RowKit Go.Maps Go.Shelf

attribute [local go_sem] Oper.semAt_some

set_option maxRecDepth 100000 in
set_option maxHeartbeats 4000000 in
theorem named_term (w : World) (K : Nat → Prop) (x b r : Nat) (S : BS) (P Q : Nat → Prop) (hT : Two w K x b r S S P Q) (kd A : Int) (la : Option Addr) (ln lc : Nat) (s : ByteArray) (hs : s.size ≤ 140737488355328) :
    Calls Try.prog 24 #[.pointer (some ⟨x, 0, none⟩), .agg #[.int .i64 kd, .int .i64 A, .slice la ln lc, .string s], .bool true] w fun e w' => e = .returned (.bool true) ∧ ∃ P' Q', Two w' K x b r (S.term s).2.2 (S.term s).2.2 P' Q' ∧ ∀ X : World, Frm K X w → Frm K X w' := by
  have E1 : Hid (∀ args w, (callFunc 21 args).run Try.prog w = .ok (.enter 21 args) w) := enters_of Try.func21 (by kernel_rfl) rfl
  have E2 : Hid (∀ args w, (callFunc 54 args).run Try.prog w = .ok (.enter 54 args) w) := enters_of Try.func54 (by kernel_rfl) rfl
  obtain ⟨W, hW⟩ : ∃ W, W = w.alloc (.cells #[.int .i64 kd, .int .i64 A, .slice la ln lc, .string s] 38) := ⟨_, rfl⟩
  have HW : Hid (W = w.alloc (.cells #[.int .i64 kd, .int .i64 A, .slice la ln lc, .string s] 38)) := hW
  have hgW : w.grownBy W.drew none := by rw [hW]; exact grown_trans (World.grownBy_alloc _ _ none) (grown_drewN _ 1)
  have HTW := hT.kept hgW
  have HOB : Hid (W.drew.heap[w.heap.size]? = some (.cells #[.int .i64 kd, .int .i64 A, .slice la ln lc, .string s] 38 (0, 0))) := by rw [hW]; exact heap_alloc_last w _
  have HA := term_any b _ s W.drew HTW.pb
  rw [BS.term_P] at HA
  have x0 : W.cell? ⟨x, 0, none⟩ = some (.pointer (some ⟨b, 0, none⟩)) := by show W.drew.cell? _ = _; rw [cell_of_row _ _ _ _ _ _ HTW.box]; rfl
  have s0 : W.cell? ⟨w.heap.size, 3, none⟩ = some (.string s) := by show W.drew.cell? _ = _; rw [cell_of_row _ _ _ _ _ _ HOB.out]; rfl
  have x0d : W.drew.cell? ⟨x, 0, none⟩ = some (.pointer (some ⟨b, 0, none⟩)) := x0
  have s0d : W.drew.cell? ⟨w.heap.size, 3, none⟩ = some (.string s) := s0
  have HAC := show Hid _ from HA
  have HWG : Hid (w.grownBy W.drew none) := hgW
  have hbl : b < w.heap.size := by
    obtain ⟨_, c, hr, _⟩ := hT.pb
    exact (Array.getElem?_eq_some_iff.1 hr).1
  have HOL : Hid (w.heap.size < W.drew.heap.size) := (Array.getElem?_eq_some_iff.1 HOB.out).1
  have HOb : Hid (some w.heap.size ≠ some b) := by intro e; have : w.heap.size = b := by simpa using e
                                                   omega
  have HSOK : Hid S.OK := by
    have h9 := hT.pb.1
    exact ⟨h9.syms, h9.tnames, h9.nnames, h9.tnd, h9.nnd, h9.sides, h9.sdv, h9.prods, h9.lev, h9.lev0, h9.levT, h9.has, h9.pl, h9.pr, h9.plen, h9.pv, h9.st⟩
  clear HA hW hgW hT hbl
  go_enter Try.func24, Try.ntmps24
  go_wp2_with fail
  rw [← HW.out]
  go_region_law (first
    | (refine step_call rfl 21 #[.tmp 20, .tmp 22] #[25, 9] rfl #[.pointer (some ⟨b, 0, none⟩), .string s] (by simp [Act.eval]) E1.out HAC.out ?_; rintro e w1 ⟨rfl, hB1, hg1⟩; refine ⟨_, rfl, ?_⟩))
  all_goals
    have HT1 : Two w1.drew K x b r (S.term s).2.2 S _ _ := (HTW.prog hB1 hg1).kept (grown_drewN w1 1)
    have HG1 := show Hid (∀ X : World, Frm K X w → Frm K X w1.drew) from fun X h1 => (HTW.grownP (h1.kept HWG.out) hg1).kept (grown_drewN w1 1)
    have HOB1 := show Hid (w1.drew.heap[w.heap.size]? = some (.cells #[.int .i64 kd, .int .i64 A, .slice la ln lc, .string s] 38 (0, 0))) from (hg1.block _ HOL.out HOb.out).trans HOB.out
    have HB2 := show Hid _ from rterm_any r S s w1.drew _ HSOK.out HT1.rb hs _ rfl
    have x1 : w1.cell? ⟨x, 1, none⟩ = some (.pointer (some ⟨r, 0, none⟩)) := by show w1.drew.cell? _ = _; rw [cell_of_row _ _ _ _ _ _ HT1.box]; rfl
    have s1 : w1.cell? ⟨w.heap.size, 3, none⟩ = some (.string s) := by show w1.drew.cell? _ = _; rw [cell_of_row _ _ _ _ _ _ HOB1.out]; rfl
    have x1d : w1.drew.cell? ⟨x, 1, none⟩ = some (.pointer (some ⟨r, 0, none⟩)) := x1
    have s1d : w1.drew.cell? ⟨w.heap.size, 3, none⟩ = some (.string s) := s1
    have HT2 := show Hid _ from HT1
    clear HT1 hB1 hg1 x0 s0 x0d s0d HAC HTW HOB HOB1
    generalize hTe : S.term s = T at *
    obtain ⟨t1, t2, S'⟩ := T
    have HTE : Hid (S.term s = (t1, t2, S')) := hTe
    clear hTe
    go_wp2_with fail
    go_region_law (first
      | (refine step_call rfl 54 #[.tmp 30, .tmp 32] #[27, 9] rfl #[.pointer (some ⟨r, 0, none⟩), .string s] (by simp [Act.eval]) E2.out HB2.out ?_; rintro e w2 ⟨rfl, hR2, hg2⟩; refine ⟨_, rfl, ?_⟩))
    all_goals go_wp2_with fail
    all_goals go_ret
    all_goals (refine ⟨rfl, ?_⟩; rw [HTE.out]; exact ⟨_, _, HT2.out.doc hR2 hg2, fun X h1 => HT2.out.grownD (HG1.out X h1) hg2⟩)

set_option maxRecDepth 100000 in
set_option maxHeartbeats 4000000 in
theorem named_non (w : World) (K : Nat → Prop) (x b r : Nat) (S : BS) (P Q : Nat → Prop) (hT : Two w K x b r S S P Q) (kd A : Int) (la : Option Addr) (ln lc : Nat) (s : ByteArray) (hs : s.size ≤ 140737488355328) :
    Calls Try.prog 24 #[.pointer (some ⟨x, 0, none⟩), .agg #[.int .i64 kd, .int .i64 A, .slice la ln lc, .string s], .bool false] w fun e w' => e = .returned (.bool true) ∧ ∃ P' Q', Two w' K x b r (S.non s).2.2 (S.non s).2.2 P' Q' ∧ ∀ X : World, Frm K X w → Frm K X w' := by
  have E1 : Hid (∀ args w, (callFunc 22 args).run Try.prog w = .ok (.enter 22 args) w) := enters_of Try.func22 (by kernel_rfl) rfl
  have E2 : Hid (∀ args w, (callFunc 55 args).run Try.prog w = .ok (.enter 55 args) w) := enters_of Try.func55 (by kernel_rfl) rfl
  obtain ⟨W, hW⟩ : ∃ W, W = w.alloc (.cells #[.int .i64 kd, .int .i64 A, .slice la ln lc, .string s] 38) := ⟨_, rfl⟩
  have HW : Hid (W = w.alloc (.cells #[.int .i64 kd, .int .i64 A, .slice la ln lc, .string s] 38)) := hW
  have hgW : w.grownBy W.drew none := by rw [hW]; exact grown_trans (World.grownBy_alloc _ _ none) (grown_drewN _ 1)
  have HTW := hT.kept hgW
  have HOB : Hid (W.drew.heap[w.heap.size]? = some (.cells #[.int .i64 kd, .int .i64 A, .slice la ln lc, .string s] 38 (0, 0))) := by rw [hW]; exact heap_alloc_last w _
  have HA := non_any b _ s W.drew HTW.pb
  rw [BS.non_P] at HA
  have x0 : W.cell? ⟨x, 0, none⟩ = some (.pointer (some ⟨b, 0, none⟩)) := by show W.drew.cell? _ = _; rw [cell_of_row _ _ _ _ _ _ HTW.box]; rfl
  have s0 : W.cell? ⟨w.heap.size, 3, none⟩ = some (.string s) := by show W.drew.cell? _ = _; rw [cell_of_row _ _ _ _ _ _ HOB.out]; rfl
  have x0d : W.drew.cell? ⟨x, 0, none⟩ = some (.pointer (some ⟨b, 0, none⟩)) := x0
  have s0d : W.drew.cell? ⟨w.heap.size, 3, none⟩ = some (.string s) := s0
  have HAC := show Hid _ from HA
  have HWG : Hid (w.grownBy W.drew none) := hgW
  have hbl : b < w.heap.size := by
    obtain ⟨_, c, hr, _⟩ := hT.pb
    exact (Array.getElem?_eq_some_iff.1 hr).1
  have HOL : Hid (w.heap.size < W.drew.heap.size) := (Array.getElem?_eq_some_iff.1 HOB.out).1
  have HOb : Hid (some w.heap.size ≠ some b) := by intro e; have : w.heap.size = b := by simpa using e
                                                   omega
  have HSOK : Hid S.OK := by
    have h9 := hT.pb.1
    exact ⟨h9.syms, h9.tnames, h9.nnames, h9.tnd, h9.nnd, h9.sides, h9.sdv, h9.prods, h9.lev, h9.lev0, h9.levT, h9.has, h9.pl, h9.pr, h9.plen, h9.pv, h9.st⟩
  clear HA hW hgW hT hbl
  go_enter Try.func24, Try.ntmps24
  go_wp2_with fail
  rw [← HW.out]
  go_region_law (first
    | (refine step_call rfl 22 #[.tmp 48, .tmp 50] #[25, 9] rfl #[.pointer (some ⟨b, 0, none⟩), .string s] (by simp [Act.eval]) E1.out HAC.out ?_; rintro e w1 ⟨rfl, hB1, hg1⟩; refine ⟨_, rfl, ?_⟩))
  all_goals
    have HT1 : Two w1.drew K x b r (S.non s).2.2 S _ _ := (HTW.prog hB1 hg1).kept (grown_drewN w1 1)
    have HG1 := show Hid (∀ X : World, Frm K X w → Frm K X w1.drew) from fun X h1 => (HTW.grownP (h1.kept HWG.out) hg1).kept (grown_drewN w1 1)
    have HOB1 := show Hid (w1.drew.heap[w.heap.size]? = some (.cells #[.int .i64 kd, .int .i64 A, .slice la ln lc, .string s] 38 (0, 0))) from (hg1.block _ HOL.out HOb.out).trans HOB.out
    have HB2 := show Hid _ from rnon_any r S s w1.drew _ HSOK.out HT1.rb hs _ rfl
    have x1 : w1.cell? ⟨x, 1, none⟩ = some (.pointer (some ⟨r, 0, none⟩)) := by show w1.drew.cell? _ = _; rw [cell_of_row _ _ _ _ _ _ HT1.box]; rfl
    have s1 : w1.cell? ⟨w.heap.size, 3, none⟩ = some (.string s) := by show w1.drew.cell? _ = _; rw [cell_of_row _ _ _ _ _ _ HOB1.out]; rfl
    have x1d : w1.drew.cell? ⟨x, 1, none⟩ = some (.pointer (some ⟨r, 0, none⟩)) := x1
    have s1d : w1.drew.cell? ⟨w.heap.size, 3, none⟩ = some (.string s) := s1
    have HT2 := show Hid _ from HT1
    clear HT1 hB1 hg1 x0 s0 x0d s0d HAC HTW HOB HOB1
    generalize hTe : S.non s = T at *
    obtain ⟨t1, t2, S'⟩ := T
    have HTE : Hid (S.non s = (t1, t2, S')) := hTe
    clear hTe
    go_wp2_with fail
    go_region_law (first
      | (refine step_call rfl 55 #[.tmp 58, .tmp 60] #[27, 9] rfl #[.pointer (some ⟨r, 0, none⟩), .string s] (by simp [Act.eval]) E2.out HB2.out ?_; rintro e w2 ⟨rfl, hR2, hg2⟩; refine ⟨_, rfl, ?_⟩))
    all_goals go_wp2_with fail
    all_goals go_ret
    all_goals (refine ⟨rfl, ?_⟩; rw [HTE.out]; exact ⟨_, _, HT2.out.doc hR2 hg2, fun X h1 => HT2.out.grownD (HG1.out X h1) hg2⟩)

end Go.Proofs.Ytkbpnafahimeiaa
