/-
  TrailingZeros64; the members of a set in rising order; what going over them does with a word's rest. 
-/
import Derived.Test.YtkbjbijoekmooaaGreatQddofbeljekii
import Derived.Lib.TrailingZeros
namespace Go.Proofs.YtkbjbijoekmooaaGreat.B
open Go.RowKit

/-- The library's table lies in its variable. -/
def Tab (w : World) : Prop := ∀ j, j < 64 → w.cell? ⟨0, j, none⟩ = some (.int .u8 (Lib.deBruijn64tab.getD j 0 : Nat))

theorem Tab.below {w w' : World} {B : Nat} (h : Tab w) (hb : Below B w w') (hB : 0 < B) : Tab w' := fun j hj => (hb.cell (p := ⟨0, j, none⟩) hB).trans (h j hj)

/-- The members below k, rising. -/
def mems (k m : Nat) : List Int := ((List.range k).filter (fun i => m.testBit i)).map (fun i : Nat => (i : Int))

theorem mems_succ (k m : Nat) : mems (k + 1) m = mems k m ++ (if m.testBit k then [(k : Int)] else []) := by
  unfold mems
  rw [List.range_succ, List.filter_append, List.map_append]
  cases h : m.testBit k <;> simp [h]

theorem mems_length (k m : Nat) : (mems k m).length = pc k m := by
  have h : ∀ k m : Nat, pc (k + 1) m = pc k m + (if m.testBit k then 1 else 0) := by
    intro k m
    rw [pc_add k 1 m]
    have e : pc 1 (m / 2 ^ k) = m / 2 ^ k % 2 := by simp [pc, ds]
    rw [e]
    congr 1
    rw [Nat.testBit_eq_decide_div_mod_eq]
    have : m / 2 ^ k % 2 < 2 := Nat.mod_lt _ (by decide)
    by_cases h : m / 2 ^ k % 2 = 1
    · simp [h]
    · simp [h]; omega
  induction k with
  | zero => rfl
  | succ k ih => rw [mems_succ, List.length_append, ih, h]; cases m.testBit k <;> simp

/-- The rest of a word from bit j on. -/
def RestOf (x j r : Nat) : Prop := ∀ s, r.testBit s = (decide (j ≤ s) && x.testBit s)

theorem RestOf.start (x : Nat) : RestOf x 0 x := fun s => by simp

theorem RestOf.zero {x j : Nat} (h : RestOf x j 0) : ∀ s, j ≤ s → x.testBit s = false := fun s hs => by
  have := h s
  simp [hs] at this
  exact this

end Go.Proofs.YtkbjbijoekmooaaGreat.B
