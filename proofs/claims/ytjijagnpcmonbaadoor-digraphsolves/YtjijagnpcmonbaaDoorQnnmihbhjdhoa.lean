import Derived.Test.YtjijagnpcmonbaaDoorQfiikppghldig
import Derived.Test.YtjijagnpcmonbaaDoorQdjehjbldmkcj

/-
  reach: sets of symbols in a grammar's memory: marksOf, covers, ofNons.
-/
namespace Go.Proofs.YtjijagnpcmonbaaDoor
open Go.RowKit Go.Maps Go.Shelf

theorem SetM_row {w : World} {b n m : Nat} (h : B.SetM w (some ⟨b, 0, none⟩) n m) : B.RowAt w b n (B.wd m) := by
  rcases h.2.2 with ⟨h, _⟩ | ⟨b', e, hr⟩
  · simp at h
  · simp at e; rw [e]; exact hr
theorem addStep_bit (n m k : Nat) (x : Int) (i : Nat) : (B.addStep n (m, k) x).1.testBit i = (m.testBit i || (decide (i < n) && decide ((i : Int) = x))) := by
  unfold B.addStep
  by_cases h : (B.inB n x && !B.hasB m x) = true
  · rw [if_pos h]
    simp [B.inB] at h
    obtain ⟨y, rfl⟩ := Int.eq_ofNat_of_zero_le h.1.1
    have hy : y < n := by omega
    rw [Nat.testBit_or, Nat.testBit_two_pow]
    by_cases e : i = y
    · subst e; simp [hy]
    · have e1 : ¬ y = i := fun h => e h.symm
      simp [e1]
      intro _ h2; exact absurd (by omega) e
  · rw [if_neg h]
    by_cases e : (i : Int) = x
    · subst e
      by_cases hi : i < n
      · have : m.testBit i = true := by simpa [B.inB, B.hasB, hi] using h
        simp [this]
      · simp [hi]
    · simp [e]

theorem addS_bit (n : Nat) (l : List Int) (i : Nat) : ∀ m : Nat, (B.addS n m l).1.testBit i = (m.testBit i || (decide (i < n) && l.contains (i : Int))) := by
  unfold B.addS
  generalize 0 = k
  induction l generalizing k with
  | nil => intro m; simp
  | cons x l ih =>
    intro m
    rw [List.foldl_cons]
    rcases hs : B.addStep n (m, k) x with ⟨m2, k2⟩
    rw [ih k2 m2]
    have := addStep_bit n m k x i
    rw [hs] at this
    rw [this]
    by_cases e : (i : Int) = x
    · simp [e]
      intro h _; exact Or.inr h
    · have e2 : ((i : Int) == x) = false := by simp [e]
      simp only [List.contains_cons, e2, Bool.false_or, e, decide_false, Bool.and_false, Bool.or_false]

end Go.Proofs.YtjijagnpcmonbaaDoor

/-
  reach: covers, ofNons.
-/
namespace Go.Proofs.YtjijagnpcmonbaaDoor
open Go.RowKit Go.Maps Go.Shelf

theorem cnt_le (x : Nat) : B.cnt x ≤ 1024 := B.pc_le _ _

theorem calls_at {P : Program} {f : FuncId} {args : Array Value} {w : World} {Q : Ending → World → Prop} (w0 : World) (e : w = w0) (h : Calls P f args w0 Q) : Calls P f args w Q := by rw [e]; exact h

end Go.Proofs.YtjijagnpcmonbaaDoor
