/-
  Same of two grammars, walked.
-/
import Derived.Test.YtdlbeffkgdjihaaSameProd
namespace Go.Proofs.Ytdlbeffkgdjihaa
open Go.RowKit Go.Maps Go.Shelf

attribute [local go_sem] Oper.semAt_some

/-- Two boxed grammars. -/
structure Ph2 (w wr : World) (cs cs' : Array Value) : Prop where
  grown : w.grownBy wr none
  box : wr.heap[w.heap.size]? = some (.cells cs 42 (0, 0))
  box' : wr.heap[w.heap.size + 1]? = some (.cells cs' 42 (0, 0))
theorem Ph2.kept {w wr wx : World} {cs cs' : Array Value} (h : Ph2 w wr cs cs') (hg : wr.grownBy wx none) : Ph2 w wx cs cs' :=
  ⟨grown_trans h.grown hg, (hg.block _ (Array.getElem?_eq_some_iff.1 h.box).1 (by simp)).trans h.box, (hg.block _ (Array.getElem?_eq_some_iff.1 h.box').1 (by simp)).trans h.box'⟩
theorem Ph2.cells {w wr : World} {v0 v1 v2 v3 v4 u0 u1 u2 u3 u4 : Value} (h : Ph2 w wr #[v0, v1, v2, v3, v4] #[u0, u1, u2, u3, u4]) :
    (wr.cell? ⟨w.heap.size, 0, none⟩ = some v0 ∧ wr.cell? ⟨w.heap.size, 1, none⟩ = some v1 ∧ wr.cell? ⟨w.heap.size, 2, none⟩ = some v2 ∧ wr.cell? ⟨w.heap.size, 3, none⟩ = some v3 ∧ wr.cell? ⟨w.heap.size, 4, none⟩ = some v4) ∧
    (wr.cell? ⟨w.heap.size + 1, 0, none⟩ = some u0 ∧ wr.cell? ⟨w.heap.size + 1, 1, none⟩ = some u1 ∧ wr.cell? ⟨w.heap.size + 1, 2, none⟩ = some u2 ∧ wr.cell? ⟨w.heap.size + 1, 3, none⟩ = some u3 ∧ wr.cell? ⟨w.heap.size + 1, 4, none⟩ = some u4) := by
  refine ⟨⟨?_, ?_, ?_, ?_, ?_⟩, ?_, ?_, ?_, ?_, ?_⟩
  · rw [cell_of_row _ _ _ _ _ _ h.box]; rfl
  · rw [cell_of_row _ _ _ _ _ _ h.box]; rfl
  · rw [cell_of_row _ _ _ _ _ _ h.box]; rfl
  · rw [cell_of_row _ _ _ _ _ _ h.box]; rfl
  · rw [cell_of_row _ _ _ _ _ _ h.box]; rfl
  · rw [cell_of_row _ _ _ _ _ _ h.box']; rfl
  · rw [cell_of_row _ _ _ _ _ _ h.box']; rfl
  · rw [cell_of_row _ _ _ _ _ _ h.box']; rfl
  · rw [cell_of_row _ _ _ _ _ _ h.box']; rfl
  · rw [cell_of_row _ _ _ _ _ _ h.box']; rfl
theorem Ph2.mk' (w : World) (cs cs' : Array Value) : Ph2 w ((w.alloc (.cells cs 42)).alloc (.cells cs' 42)) cs cs' := by
  have h1 := heap_alloc_last w (.cells cs 42)
  have h2 := heap_alloc_last (w.alloc (.cells cs 42)) (.cells cs' 42)
  rw [World.size_alloc] at h2
  refine ⟨grown_trans (World.grownBy_alloc _ _ none) (World.grownBy_alloc _ _ none), ?_, h2⟩
  exact ((World.grownBy_alloc _ _ none).block _ (Array.getElem?_eq_some_iff.1 h1).1 (by simp)).trans h1

section
variable (ta na la pa ta' na' la' pa' : Option Addr) (tn nn ln pn tc nc lc pc tn' nn' ln' pn' tc' nc' lc' pc' : Nat) (st st' : Int)

set_option maxRecDepth 100000 in
set_option maxHeartbeats 1000000 in
theorem same_core (w : World) (rT rN rL rP : Bool)
    (hT : ∀ W, w.grownBy W none → Calls Try.prog 41 #[.slice ta tn tc, .slice ta' tn' tc'] W fun e w' => e = .returned (.bool rT) ∧ W.grownBy w' none)
    (hN : ∀ W, w.grownBy W none → Calls Try.prog 42 #[.slice na nn nc, .slice na' nn' nc'] W fun e w' => e = .returned (.bool rN) ∧ W.grownBy w' none)
    (hL : ∀ W, w.grownBy W none → Calls Try.prog 43 #[.slice la ln lc, .slice la' ln' lc'] W fun e w' => e = .returned (.bool rL) ∧ W.grownBy w' none)
    (hP : ∀ W, w.grownBy W none → Calls Try.prog 44 #[.slice pa pn pc, .slice pa' pn' pc', .func (.func 45) #[] #[]] W fun e w' => e = .returned (.bool rP) ∧ W.grownBy w' none) :
    Calls Try.prog 16 #[.agg #[.slice ta tn tc, .slice na nn nc, .slice la ln lc, .int .i64 st, .slice pa pn pc], .agg #[.slice ta' tn' tc', .slice na' nn' nc', .slice la' ln' lc', .int .i64 st', .slice pa' pn' pc']] w fun e w' => e = .returned (.bool (rT && rN && rL && (st == st') && rP)) ∧ w.grownBy w' none := by
  have HT : Hid (∀ W, w.grownBy W none → Calls Try.prog 41 #[.slice ta tn tc, .slice ta' tn' tc'] W fun e w' => e = .returned (.bool rT) ∧ W.grownBy w' none) := hT
  have HN : Hid (∀ W, w.grownBy W none → Calls Try.prog 42 #[.slice na nn nc, .slice na' nn' nc'] W fun e w' => e = .returned (.bool rN) ∧ W.grownBy w' none) := hN
  have HL : Hid (∀ W, w.grownBy W none → Calls Try.prog 43 #[.slice la ln lc, .slice la' ln' lc'] W fun e w' => e = .returned (.bool rL) ∧ W.grownBy w' none) := hL
  have HP : Hid (∀ W, w.grownBy W none → Calls Try.prog 44 #[.slice pa pn pc, .slice pa' pn' pc', .func (.func 45) #[] #[]] W fun e w' => e = .returned (.bool rP) ∧ W.grownBy w' none) := hP
  have HX : Hid (Ph2 w _ #[.slice ta tn tc, .slice na nn nc, .slice la ln lc, .int .i64 st, .slice pa pn pc] #[.slice ta' tn' tc', .slice na' nn' nc', .slice la' ln' lc', .int .i64 st', .slice pa' pn' pc']) := Ph2.mk' w _ _
  clear hT hN hL hP
  go_enter Try.func16, Try.ntmps16
  go_wp2_with fail
  refine (HT.out _ HX.out.grown).mono ?_
  rintro e w1 ⟨rfl, hg1⟩
  have HX1 : Hid (Ph2 w w1 #[.slice ta tn tc, .slice na nn nc, .slice la ln lc, .int .i64 st, .slice pa pn pc] #[.slice ta' tn' tc', .slice na' nn' nc', .slice la' ln' lc', .int .i64 st', .slice pa' pn' pc']) := HX.out.kept hg1
  clear hg1 HX HT
  cases rT with
  | false =>
    go_wp2_with fail
    go_ret
    exact ⟨rfl, HX1.out.grown⟩
  | true =>
    obtain ⟨⟨m0, m1, m2, m3, m4⟩, n0, n1, n2, n3, n4⟩ := HX1.out.cells
    go_wp2_with fail
    refine (HN.out _ HX1.out.grown).mono ?_
    rintro e w2 ⟨rfl, hg2⟩
    have HX2 : Hid (Ph2 w w2 #[.slice ta tn tc, .slice na nn nc, .slice la ln lc, .int .i64 st, .slice pa pn pc] #[.slice ta' tn' tc', .slice na' nn' nc', .slice la' ln' lc', .int .i64 st', .slice pa' pn' pc']) := HX1.out.kept hg2
    clear hg2 HX1 HN m0 m1 m2 m3 m4 n0 n1 n2 n3 n4
    cases rN with
    | false =>
      go_wp2_with fail
      go_ret
      exact ⟨rfl, HX2.out.grown⟩
    | true =>
      obtain ⟨⟨m0, m1, m2, m3, m4⟩, n0, n1, n2, n3, n4⟩ := HX2.out.cells
      go_wp2_with fail
      refine (HL.out _ HX2.out.grown).mono ?_
      rintro e w3 ⟨rfl, hg3⟩
      have HX3 : Hid (Ph2 w w3 #[.slice ta tn tc, .slice na nn nc, .slice la ln lc, .int .i64 st, .slice pa pn pc] #[.slice ta' tn' tc', .slice na' nn' nc', .slice la' ln' lc', .int .i64 st', .slice pa' pn' pc']) := HX2.out.kept hg3
      clear hg3 HX2 HL m0 m1 m2 m3 m4 n0 n1 n2 n3 n4
      cases rL with
      | false =>
        go_wp2_with fail
        go_ret
        exact ⟨rfl, HX3.out.grown⟩
      | true =>
        obtain ⟨⟨m0, m1, m2, m3, m4⟩, n0, n1, n2, n3, n4⟩ := HX3.out.cells
        cases hst : (st == st') with
        | false =>
          go_wp2_with fail
          go_ret
          exact ⟨by rw [hst]; rfl, HX3.out.grown⟩
        | true =>
          go_wp2_with fail
          refine (HP.out _ HX3.out.grown).mono ?_
          rintro e w4 ⟨rfl, hg4⟩
          have HG4 : Hid (w.grownBy w4 none) := grown_trans HX3.out.grown hg4
          clear hg4 HX3 HP m0 m1 m2 m3 m4 n0 n1 n2 n3 n4
          go_wp2_with fail
          go_ret
          exact ⟨by rw [hst]; cases rP <;> rfl, HG4.out⟩
end

end Go.Proofs.Ytdlbeffkgdjihaa
