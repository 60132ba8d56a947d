/-
  inOrder, Valid: is a grammar plain?
-/
import Derived.Test.YtdlbeffkgdjihaaValid
namespace Go.Proofs.Ytdlbeffkgdjihaa
open Go.RowKit Go.Maps Go.Shelf

attribute [local go_sem] Oper.semAt_some

theorem inOrder_any (ta na la pa : Option Addr) (tn nn ln tc nc lc pc n : Nat) (st : Int) (L : Nat → Int) (R : Nat → List Int) (ra : Nat → Option Addr) (rc : Nat → Nat) (V : Nat → Int) (w : World) (hP : ∀ W, w.grownBy W none → ProdsAt W pa n L R ra rc V) (hn : n ≤ 96) (r : Bool) (hr : r = true ↔ Asc (leftsTo L n)) :
    Calls Try.prog 34 #[.agg #[.slice ta tn tc, .slice na nn nc, .slice la ln lc, .int .i64 st, .slice pa n pc]] w fun e w' => e = .returned (.bool r) ∧ w.grownBy w' none := by
  have HLF : Hid (∀ o, Calls Try.prog 72 #[.slice pa n pc] (w.alloc o) fun e w' => ∃ a' c', e = .returned (.slice a' (leftsTo L n).length c') ∧ w'.ownsRow (w.alloc o).heap.size 3 1 (.slice a' (leftsTo L n).length c') (leftsTo L n).length ((leftsTo L n).map (Value.int .i64)) ∧ (w.alloc o).grownBy w' none) := fun o => lefts_any pa n pc L R ra rc V _ (hP _ (World.grownBy_alloc _ _ none)) (by omega)
  have HIS : Hid (∀ W a c B, W.ownsRow B 3 1 (.slice a (leftsTo L n).length c) (leftsTo L n).length ((leftsTo L n).map (Value.int .i64)) → Calls Try.prog 74 #[.slice a (leftsTo L n).length c] W fun e w' => e = .returned (.bool r) ∧ W.grownBy w' none) := fun W a c B ho => isSorted_any a c (leftsTo L n) W (owns_intsAt ho rfl) (by have := leftsTo_le L n; omega) r hr
  clear hP hr
  generalize (leftsTo L n).map (Value.int .i64) = xs at *
  generalize (leftsTo L n).length = M at *
  go_enter Try.func34, Try.ntmps34
  go_wp2_with fail
  refine (HLF.out _).mono ?_
  rintro e w2 ⟨a', c', rfl, ho, hg2⟩
  have his := HIS.out w2 a' c' _ ho
  have HG2 : Hid (w.grownBy w2 none) := grown_trans (World.grownBy_alloc _ _ none) hg2
  clear ho hg2 HIS HLF
  go_wp2_with fail
  refine his.mono ?_
  rintro e w3 ⟨rfl, hg3⟩
  go_wp2_with fail
  go_ret
  exact ⟨rfl, grown_trans HG2.out hg3⟩

def validOK (ts : List (ByteArray × Int)) (ns : List ByteArray) (lv : List Int) (st : Int) (n : Nat) (L : Nat → Int) (R : Nat → List Int) (V : Nat → Int) : Prop := holdsOK ts ns lv st n L R V ∧ Asc (leftsTo L n)

set_option maxRecDepth 100000 in
theorem valid_any (ta na la pa : Option Addr) (tc nc lc pc : Nat) (ts : List (ByteArray × Int)) (ns : List ByteArray) (lv : List Int) (n : Nat) (L : Nat → Int) (R : Nat → List Int) (ra : Nat → Option Addr) (rc : Nat → Nat) (V : Nat → Int) (st : Int) (w : World) (hG : GAt w ta na la pa tc nc lc pc ts ns lv n L R ra rc V) (r : Bool) (hr : r = true ↔ validOK ts ns lv st n L R V) :
    Calls Try.prog 12 #[.agg #[.slice ta ts.length tc, .slice na ns.length nc, .slice la lv.length lc, .int .i64 st, .slice pa n pc]] w fun e w' => e = .returned (.bool r) ∧ w.grownBy w' none := by
  have HG : Hid (GAt w ta na la pa tc nc lc pc ts ns lv n L R ra rc V) := hG
  have HRR : Hid (r = true ↔ validOK ts ns lv st n L R V) := hr
  obtain ⟨rH, hrH⟩ := boolOf (holdsOK ts ns lv st n L R V)
  have HRH : Hid (rH = true ↔ holdsOK ts ns lv st n L R V) := hrH
  have HH : Hid (∀ W, w.grownBy W none → Calls Try.prog 33 #[.agg #[.slice ta ts.length tc, .slice na ns.length nc, .slice la lv.length lc, .int .i64 st, .slice pa n pc], .int .i64 0] W fun e w' => e = .returned (.bool rH) ∧ W.grownBy w' none) := fun W hW => holds_zero ta na la pa tc nc lc pc ts ns lv n L R ra rc V st W (hG.kept hW) rH hrH
  have HO : Hid (n ≤ 96 → ∀ W r', w.grownBy W none → (r' = true ↔ Asc (leftsTo L n)) → Calls Try.prog 34 #[.agg #[.slice ta ts.length tc, .slice na ns.length nc, .slice la lv.length lc, .int .i64 st, .slice pa n pc]] W fun e w' => e = .returned (.bool r') ∧ W.grownBy w' none) := fun h W r' hW hr' => inOrder_any ta na la pa ts.length ns.length lv.length tc nc lc pc n st L R ra rc V W (fun X hX => (hG.kept (grown_trans hW hX)).prods) h r' hr'
  have HX0 : Hid (PhAt w (w.alloc (.cells #[.slice ta ts.length tc, .slice na ns.length nc, .slice la lv.length lc, .int .i64 st, .slice pa n pc] 42)) w.heap.size #[.slice ta ts.length tc, .slice na ns.length nc, .slice la lv.length lc, .int .i64 st, .slice pa n pc]) := ⟨World.grownBy_alloc _ _ none, heap_alloc_last w _⟩
  clear hG hr hrH
  generalize ts.length = tn at *
  generalize ns.length = nn at *
  generalize lv.length = ln at *
  cases rH with
  | false =>
    have hf : r = false := Bool.eq_false_iff.2 fun hh => by have := HRH.out.2 (HRR.out.1 hh).1; cases this
    go_enter Try.func12, Try.ntmps12
    go_wp2_with fail
    refine (HH.out _ HX0.out.grown).mono ?_
    rintro e w2 ⟨rfl, hg2⟩
    have HG2 : Hid (w.grownBy w2 none) := grown_trans HX0.out.grown hg2
    clear hg2 HX0
    go_wp2_with fail
    go_ret
    exact ⟨by first | rfl | (rw [hf]; rfl), HG2.out⟩
  | true =>
    have HOK := HRH.out.1 rfl
    have HCN : Hid (n ≤ 96) := HOK.cnt
    have HRA : Hid (r = true ↔ Asc (leftsTo L n)) := by
      constructor
      · intro h; exact (HRR.out.1 h).2
      · intro h; exact HRR.out.2 ⟨HOK, h⟩
    clear HOK HRR HRH
    go_enter Try.func12, Try.ntmps12
    go_wp2_with fail
    refine (HH.out _ HX0.out.grown).mono ?_
    rintro e w2 ⟨rfl, hg2⟩
    have HX2 : Hid (PhAt w w2 w.heap.size #[.slice ta tn tc, .slice na nn nc, .slice la ln lc, .int .i64 st, .slice pa n pc]) := HX0.out.kept hg2
    obtain ⟨m0, m1, m2, m3, m4⟩ := HX2.out.cells
    have ho := HO.out HCN.out w2 r HX2.out.grown HRA.out
    clear hg2 HX0 HO HH
    go_wp2_with fail
    refine ho.mono ?_
    rintro e w3 ⟨rfl, hg3⟩
    go_wp2_with fail
    go_ret
    exact ⟨rfl, grown_trans HX2.out.grown hg3⟩

end Go.Proofs.Ytdlbeffkgdjihaa
