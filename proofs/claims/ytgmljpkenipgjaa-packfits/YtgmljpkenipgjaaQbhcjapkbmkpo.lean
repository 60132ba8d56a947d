import Derived.Test.YtgmljpkenipgjaaQolknbdgdjnlb
import Derived.ProofKit
import Derived.OpenShut
import Derived.Deep.Slices
import Derived.SizedLaws
import Derived.Laws.StructEq
import Derived.Deep.RegionWith

/-
  pack: numbers, laid rows and packed tables among the arguments.
-/
namespace Go.Proofs.Ytgmljpkenipgjaa.J
open Go.ChangeShapes Go.WideShapes Go.ChangeAt Go.RowKit Go.Deep

theorem own : ownKnob Try.prog.godebug = none := by kernel_rfl
theorem laidOut : laidOutB Try.prog = true := by kernel_rfl
theorem cellsIntP : Try.prog.cellsOf 3 = 1 := by kernel_rfl
/-- A number of a word. -/
def I64P (x : Int) : Prop := -9223372036854775808 ≤ x ∧ x ≤ 9223372036854775807
section
variable {H : Type} {enc : TypeId × Value → H} {W : World} {fuel : Nat} {cs : List Value} {x : DataW H × List MemPlace}
/-- A row of numbers that came in. -/
def OpInts (W : World) (a : Option Addr) (l : List Int) (c : Nat) : Prop := IntsAt W a l ∧ l.length ≤ 17592186044416 ∧ l.length ≤ c ∧ (a = none → l.length = 0 ∧ c = 0) ∧ ∀ z ∈ l, I64P z
end
end Go.Proofs.Ytgmljpkenipgjaa.J

/-
  pack: the laws on At and on Action and Goto, given what awake tells.
-/
namespace Go.Proofs.Ytgmljpkenipgjaa.J
open Go.RowKit Go.Maps Go.Shelf Pk

attribute [local go_sem] Oper.semAt_some

/-- What awake tells. -/
def AwOk : Prop := ∀ W, Calls Try.prog 15 #[] W fun e y => e = .returned (.bool true) ∧ W.grownBy y none

end Go.Proofs.Ytgmljpkenipgjaa.J

/-
  pack: the law on Action and Goto, given what awake tells.
-/
namespace Go.Proofs.Ytgmljpkenipgjaa.J
open Go.RowKit Go.Maps Go.Shelf Pk

attribute [local go_sem] Oper.semAt_some

end Go.Proofs.Ytgmljpkenipgjaa.J
