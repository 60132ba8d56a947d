/-
  trans: direct.
-/
import Derived.Test.YthoamlahbnphkaaGreatQaadeodneccno
import Derived.Deep.RegionHeld3
namespace Go.Proofs.YthoamlahbnphkaaGreat.J
open Go.RowKit Go.Maps Go.Shelf

attribute [local go_sem] Oper.semAt_some

def intV (l : List Int) : List Value := l.map (Value.int .i64)
/-- The terminals among edges. -/
def dirL (tn : Nat) (l : List (Nat × Nat)) : List Int := (l.filter fun x => decide (x.1 < tn)).map fun x => (x.1 : Int)
def preF (b : Bool) : List Int := if b then [0] else []
/-- What direct tells. -/
def NumTold (l : List Int) (w : World) (e : Ending) (y : World) : Prop := ∃ (a : Option Addr) (c : Nat), e = .returned (.slice a l.length c) ∧ y.ownsRow w.heap.size 3 1 (.slice a l.length c) l.length (intV l) ∧ w.grownBy y none

section
variable (ta na la pa sa : Option Addr) (tc nc lc pc sc : Nat) (n N lb : Nat) (st : Int) (w : World) (tn nn ln : Nat)

end

end Go.Proofs.YthoamlahbnphkaaGreat.J
