/-
  No cell of these rows narrows 'for every input' (looked for: loops, veiled, ifaces, maps, wideKeys, modest, calm, conditions, laid).
  DERIVED. THE GIVEN ROWS OF THIS SEAT. 5 by the template 'for every input the law returns true; each argument reads behind the call as it read before'; 0 by the template 'total and deterministic' (their statements: YtljlkmiaemkokaaTotals.lean).
  GIVEN WITH THE SEED: the statements are not yours to turn. If you find one false, say at which input.
  Laid BY PROGRAM, IN A SANDBOX (cutbox-rows.mjs): the forced cells as the released guide's own fill.sh prints them over the translation 72947c87dda7cdb6… (all of the seat's roots in one cut). By AI agents, Wed Nov 11 2026. No macro, syntax, notation, axiom, sorry.
-/
import Derived.Test.YtljlkmiaemkokaaChecked
import GoSem.Claim
import GoSem.ClaimJoined
import GoSem.ClaimMapViews
import Derived.JoinedTies
import Derived.KernelRfl
namespace Go.Proofs.Ytljlkmiaemkokaa
/- THE CELL 'sum', in the pinned program and in every row, IS THE sha256 OF THE DUMP (.gsa) THAT YtljlkmiaemkokaaProg.lean LOADS. Nothing in Lean hashes anything: it is a label: what it is worth is what the hold of that sum in a sandbox is worth. -/
noncomputable def Try.pinned : Pinned := { name := "ytljlkmiaemkokaa", sum := "72947c87dda7cdb6cb0cff8588f0000a06552e4830b8e147164228f9ad8ae839", checked := Try.checked }
namespace Rows
def none {H : Type} : Left H := { results := [], args := [] }

/-- 'presagelaw06.ReachMarks': WHATEVER THE INPUT: true; the input reads as it did. -/
def reachMarksSpec : ChangeSpec := { name := "reachMarks", fn := fun _ => fun
  | [d] => { results := [.lit (.bool true)], args := [d] }
  | _ => none }
def reachMarksRow : OpenClaim := { program := "ytljlkmiaemkokaa", sum := "72947c87dda7cdb6cb0cff8588f0000a06552e4830b8e147164228f9ad8ae839", func := "presage/presagelaw06.ReachMarks", spec := "reachMarks", unfollowed := true, recurses := true, apart := false }
def ReachMarksSaid : Prop := reachMarksRow.holds Try.pinned (OpenSpec.ofChange reachMarksSpec)

/-- ITS FALSE NEIGHBOUR: 'it returns false'. Refute it at one input. -/
def reachMarksWrong : ChangeSpec := { name := "reachMarks", fn := fun _ => fun
  | [d] => { results := [.lit (.bool false)], args := [d] }
  | _ => none }
def ReachMarksWrongFalsely : Prop := reachMarksRow.holds Try.pinned (OpenSpec.ofChange reachMarksWrong)

/-- 'presagelaw06.ReachReduces': WHATEVER THE INPUT: true; the input reads as it did. -/
def reachReducesSpec : ChangeSpec := { name := "reachReduces", fn := fun _ => fun
  | [d] => { results := [.lit (.bool true)], args := [d] }
  | _ => none }
def reachReducesRow : OpenClaim := { program := "ytljlkmiaemkokaa", sum := "72947c87dda7cdb6cb0cff8588f0000a06552e4830b8e147164228f9ad8ae839", func := "presage/presagelaw06.ReachReduces", spec := "reachReduces", unfollowed := true, recurses := true, apart := false }
def ReachReducesSaid : Prop := reachReducesRow.holds Try.pinned (OpenSpec.ofChange reachReducesSpec)

/-- ITS FALSE NEIGHBOUR: 'it returns false'. Refute it at one input. -/
def reachReducesWrong : ChangeSpec := { name := "reachReduces", fn := fun _ => fun
  | [d] => { results := [.lit (.bool false)], args := [d] }
  | _ => none }
def ReachReducesWrongFalsely : Prop := reachReducesRow.holds Try.pinned (OpenSpec.ofChange reachReducesWrong)

/-- 'presagelaw06.ReachSame': WHATEVER THE INPUT: true; the input reads as it did. -/
def reachSameSpec : ChangeSpec := { name := "reachSame", fn := fun _ => fun
  | [d1, d2] => { results := [.lit (.bool true)], args := [d1, d2] }
  | _ => none }
def reachSameRow : OpenClaim := { program := "ytljlkmiaemkokaa", sum := "72947c87dda7cdb6cb0cff8588f0000a06552e4830b8e147164228f9ad8ae839", func := "presage/presagelaw06.ReachSame", spec := "reachSame", unfollowed := true, recurses := true, apart := false }
def ReachSameSaid : Prop := reachSameRow.holds Try.pinned (OpenSpec.ofChange reachSameSpec)

/-- ITS FALSE NEIGHBOUR: 'it returns false'. Refute it at one input. -/
def reachSameWrong : ChangeSpec := { name := "reachSame", fn := fun _ => fun
  | [d1, d2] => { results := [.lit (.bool false)], args := [d1, d2] }
  | _ => none }
def ReachSameWrongFalsely : Prop := reachSameRow.holds Try.pinned (OpenSpec.ofChange reachSameWrong)

/-- 'presagelaw06.ReachParts': WHATEVER THE INPUT: true; the input reads as it did. -/
def reachPartsSpec : ChangeSpec := { name := "reachParts", fn := fun _ => fun
  | [d] => { results := [.lit (.bool true)], args := [d] }
  | _ => none }
def reachPartsRow : OpenClaim := { program := "ytljlkmiaemkokaa", sum := "72947c87dda7cdb6cb0cff8588f0000a06552e4830b8e147164228f9ad8ae839", func := "presage/presagelaw06.ReachParts", spec := "reachParts", unfollowed := true, recurses := true, apart := false }
def ReachPartsSaid : Prop := reachPartsRow.holds Try.pinned (OpenSpec.ofChange reachPartsSpec)

/-- ITS FALSE NEIGHBOUR: 'it returns false'. Refute it at one input. -/
def reachPartsWrong : ChangeSpec := { name := "reachParts", fn := fun _ => fun
  | [d] => { results := [.lit (.bool false)], args := [d] }
  | _ => none }
def ReachPartsWrongFalsely : Prop := reachPartsRow.holds Try.pinned (OpenSpec.ofChange reachPartsWrong)

/-- 'presagelaw06.ReachMore': WHATEVER THE INPUT: true; the input reads as it did. -/
def reachMoreSpec : ChangeSpec := { name := "reachMore", fn := fun _ => fun
  | [d1, d2, d3] => { results := [.lit (.bool true)], args := [d1, d2, d3] }
  | _ => none }
def reachMoreRow : OpenClaim := { program := "ytljlkmiaemkokaa", sum := "72947c87dda7cdb6cb0cff8588f0000a06552e4830b8e147164228f9ad8ae839", func := "presage/presagelaw06.ReachMore", spec := "reachMore", unfollowed := true, recurses := true, apart := false }
def ReachMoreSaid : Prop := reachMoreRow.holds Try.pinned (OpenSpec.ofChange reachMoreSpec)

/-- ITS FALSE NEIGHBOUR: 'it returns false'. Refute it at one input. -/
def reachMoreWrong : ChangeSpec := { name := "reachMore", fn := fun _ => fun
  | [d1, d2, d3] => { results := [.lit (.bool false)], args := [d1, d2, d3] }
  | _ => none }
def ReachMoreWrongFalsely : Prop := reachMoreRow.holds Try.pinned (OpenSpec.ofChange reachMoreWrong)

/- THE SECOND FORM. 'bulk': how many values and letters a reading holds, each counted each time it is reached (what is shared counts as often as it is met; a slice's spare places count too). A statement '..UptoSaid' is the law's where the arguments, and the package variables that the reading takes, are together of bulk at most 1048576: NARROWER than '..Said'. Prove '..Said' where nothing that the law and all that it calls make is longer than what came in: it says more and counts as full. Else prove '..UptoSaid'. A law counts once. -/
mutual
def uptoBulk {H : Type} : DataW H → Nat
  | .lit (.string bytes) => bytes.length + 1
  | .lit _ => 1
  | .nil => 1
  | .ptr d => uptoBulk d + 1
  | .slice elems spare => uptoBulkAll elems + uptoBulkAll spare + 1
  | .agg parts => uptoBulkAll parts + 1
  | .iface _ d => uptoBulk d + 1
  | .map entries => uptoBulkEntries entries + 1
  | .held _ => 1
def uptoBulkAll {H : Type} : List (DataW H) → Nat
  | [] => 0
  | d :: r => uptoBulk d + uptoBulkAll r
def uptoBulkEntries {H : Type} : List (Lit × DataW H) → Nat
  | [] => 0
  | x :: r => uptoBulkEntry x + uptoBulkEntries r
def uptoBulkEntry {H : Type} : Lit × DataW H → Nat
  | (.string bytes, d) => bytes.length + uptoBulk d + 1
  | (_, d) => uptoBulk d + 1
 end
def uptoSmall : (H : Type) → List (DataW H) → Bool := fun _ ds => decide (uptoBulkAll ds ≤ 1048576)
def OpenSpec.upto (s : _root_.Go.ChangeSpec) : _root_.Go.OpenSpec := { _root_.Go.OpenSpec.ofChange s with cond := some uptoSmall }

/-- 'presagelaw06.ReachMarks', WHERE WHAT IT READS IS OF BULK AT MOST 1048576: true; the input reads as it did. -/
def reachMarksUptoRow : OpenClaim := { program := "ytljlkmiaemkokaa", sum := "72947c87dda7cdb6cb0cff8588f0000a06552e4830b8e147164228f9ad8ae839", func := "presage/presagelaw06.ReachMarks", spec := "reachMarks", unfollowed := true, recurses := true, apart := false, narrowed := true }
def ReachMarksUptoSaid : Prop := reachMarksUptoRow.holds Try.pinned (OpenSpec.upto reachMarksSpec)

/-- 'presagelaw06.ReachReduces', WHERE WHAT IT READS IS OF BULK AT MOST 1048576: true; the input reads as it did. -/
def reachReducesUptoRow : OpenClaim := { program := "ytljlkmiaemkokaa", sum := "72947c87dda7cdb6cb0cff8588f0000a06552e4830b8e147164228f9ad8ae839", func := "presage/presagelaw06.ReachReduces", spec := "reachReduces", unfollowed := true, recurses := true, apart := false, narrowed := true }
def ReachReducesUptoSaid : Prop := reachReducesUptoRow.holds Try.pinned (OpenSpec.upto reachReducesSpec)

/-- 'presagelaw06.ReachSame', WHERE WHAT IT READS IS OF BULK AT MOST 1048576: true; the input reads as it did. -/
def reachSameUptoRow : OpenClaim := { program := "ytljlkmiaemkokaa", sum := "72947c87dda7cdb6cb0cff8588f0000a06552e4830b8e147164228f9ad8ae839", func := "presage/presagelaw06.ReachSame", spec := "reachSame", unfollowed := true, recurses := true, apart := false, narrowed := true }
def ReachSameUptoSaid : Prop := reachSameUptoRow.holds Try.pinned (OpenSpec.upto reachSameSpec)

/-- 'presagelaw06.ReachParts', WHERE WHAT IT READS IS OF BULK AT MOST 1048576: true; the input reads as it did. -/
def reachPartsUptoRow : OpenClaim := { program := "ytljlkmiaemkokaa", sum := "72947c87dda7cdb6cb0cff8588f0000a06552e4830b8e147164228f9ad8ae839", func := "presage/presagelaw06.ReachParts", spec := "reachParts", unfollowed := true, recurses := true, apart := false, narrowed := true }
def ReachPartsUptoSaid : Prop := reachPartsUptoRow.holds Try.pinned (OpenSpec.upto reachPartsSpec)

/-- 'presagelaw06.ReachMore', WHERE WHAT IT READS IS OF BULK AT MOST 1048576: true; the input reads as it did. -/
def reachMoreUptoRow : OpenClaim := { program := "ytljlkmiaemkokaa", sum := "72947c87dda7cdb6cb0cff8588f0000a06552e4830b8e147164228f9ad8ae839", func := "presage/presagelaw06.ReachMore", spec := "reachMore", unfollowed := true, recurses := true, apart := false, narrowed := true }
def ReachMoreUptoSaid : Prop := reachMoreUptoRow.holds Try.pinned (OpenSpec.upto reachMoreSpec)

end Rows
end Go.Proofs.Ytljlkmiaemkokaa
