/-
  No cell of these rows narrows 'for every input' (looked for: loops, veiled, ifaces, maps, wideKeys, modest, calm, conditions, laid).
  DERIVED. THE GIVEN ROWS OF THIS SEAT. 4 by the template 'for every input the law returns true; each argument reads behind the call as it read before'; 0 by the template 'total and deterministic' (their statements: YtkhmhcinepfemaaTotals.lean).
  GIVEN WITH THE SEED: the statements are not yours to turn. If you find one false, say at which input.
  Laid BY PROGRAM, IN A SANDBOX (cutbox-rows.mjs): the forced cells as the released guide's own fill.sh prints them over the translation 451d8d1daf96bf1f… (all of the seat's roots in one cut). By AI agents, Wed Nov 11 2026. No macro, syntax, notation, axiom, sorry.
-/
import Derived.Test.YtkhmhcinepfemaaChecked
import GoSem.Claim
import GoSem.ClaimJoined
import GoSem.ClaimMapViews
import Derived.JoinedTies
import Derived.KernelRfl
namespace Go.Proofs.Ytkhmhcinepfemaa
/- THE CELL 'sum', in the pinned program and in every row, IS THE sha256 OF THE DUMP (.gsa) THAT YtkhmhcinepfemaaProg.lean LOADS. Nothing in Lean hashes anything: it is a label: what it is worth is what the hold of that sum in a sandbox is worth. -/
noncomputable def Try.pinned : Pinned := { name := "ytkhmhcinepfemaa", sum := "451d8d1daf96bf1f01e8a1f6d8618c39ef0dcf02b9e0c4fa8cb67e29ff7e8aab", checked := Try.checked }
namespace Rows
def none {H : Type} : Left H := { results := [], args := [] }

/-- 'presagelaw05.ShowTexts': WHATEVER THE INPUT: true; the input reads as it did. -/
def showTextsSpec : ChangeSpec := { name := "showTexts", fn := fun _ => fun
  | [d] => { results := [.lit (.bool true)], args := [d] }
  | _ => none }
def showTextsRow : OpenClaim := { program := "ytkhmhcinepfemaa", sum := "451d8d1daf96bf1f01e8a1f6d8618c39ef0dcf02b9e0c4fa8cb67e29ff7e8aab", func := "presage/presagelaw05.ShowTexts", spec := "showTexts", inPlace := ["internal/abi.NoEscape"], unfollowed := true, recurses := true, apart := false }
def ShowTextsSaid : Prop := showTextsRow.holds Try.pinned (OpenSpec.ofChange showTextsSpec)

/-- ITS FALSE NEIGHBOUR: 'it returns false'. Refute it at one input. -/
def showTextsWrong : ChangeSpec := { name := "showTexts", fn := fun _ => fun
  | [d] => { results := [.lit (.bool false)], args := [d] }
  | _ => none }
def ShowTextsWrongFalsely : Prop := showTextsRow.holds Try.pinned (OpenSpec.ofChange showTextsWrong)

/-- 'presagelaw05.ShowSmall': WHATEVER THE INPUT: true; the input reads as it did. -/
def showSmallSpec : ChangeSpec := { name := "showSmall", fn := fun _ => fun
  | [d1, d2, d3] => { results := [.lit (.bool true)], args := [d1, d2, d3] }
  | _ => none }
def showSmallRow : OpenClaim := { program := "ytkhmhcinepfemaa", sum := "451d8d1daf96bf1f01e8a1f6d8618c39ef0dcf02b9e0c4fa8cb67e29ff7e8aab", func := "presage/presagelaw05.ShowSmall", spec := "showSmall", inPlace := ["internal/abi.NoEscape"], unfollowed := true, recurses := true, apart := false }
def ShowSmallSaid : Prop := showSmallRow.holds Try.pinned (OpenSpec.ofChange showSmallSpec)

/-- ITS FALSE NEIGHBOUR: 'it returns false'. Refute it at one input. -/
def showSmallWrong : ChangeSpec := { name := "showSmall", fn := fun _ => fun
  | [d1, d2, d3] => { results := [.lit (.bool false)], args := [d1, d2, d3] }
  | _ => none }
def ShowSmallWrongFalsely : Prop := showSmallRow.holds Try.pinned (OpenSpec.ofChange showSmallWrong)

/-- 'presagelaw05.ShowAll': WHATEVER THE INPUT: true; the input reads as it did. -/
def showAllSpec : ChangeSpec := { name := "showAll", fn := fun _ => fun
  | [d1, d2, d3] => { results := [.lit (.bool true)], args := [d1, d2, d3] }
  | _ => none }
def showAllRow : OpenClaim := { program := "ytkhmhcinepfemaa", sum := "451d8d1daf96bf1f01e8a1f6d8618c39ef0dcf02b9e0c4fa8cb67e29ff7e8aab", func := "presage/presagelaw05.ShowAll", spec := "showAll", inPlace := ["internal/abi.NoEscape"], unfollowed := true, recurses := true, apart := false }
def ShowAllSaid : Prop := showAllRow.holds Try.pinned (OpenSpec.ofChange showAllSpec)

/-- ITS FALSE NEIGHBOUR: 'it returns false'. Refute it at one input. -/
def showAllWrong : ChangeSpec := { name := "showAll", fn := fun _ => fun
  | [d1, d2, d3] => { results := [.lit (.bool false)], args := [d1, d2, d3] }
  | _ => none }
def ShowAllWrongFalsely : Prop := showAllRow.holds Try.pinned (OpenSpec.ofChange showAllWrong)

/-- 'presagelaw05.ShowTwo': WHATEVER THE INPUT: true; the input reads as it did. -/
def showTwoSpec : ChangeSpec := { name := "showTwo", fn := fun _ => fun
  | [d1, d2] => { results := [.lit (.bool true)], args := [d1, d2] }
  | _ => none }
def showTwoRow : OpenClaim := { program := "ytkhmhcinepfemaa", sum := "451d8d1daf96bf1f01e8a1f6d8618c39ef0dcf02b9e0c4fa8cb67e29ff7e8aab", func := "presage/presagelaw05.ShowTwo", spec := "showTwo", inPlace := ["internal/abi.NoEscape"], unfollowed := true, recurses := true, apart := false }
def ShowTwoSaid : Prop := showTwoRow.holds Try.pinned (OpenSpec.ofChange showTwoSpec)

/-- ITS FALSE NEIGHBOUR: 'it returns false'. Refute it at one input. -/
def showTwoWrong : ChangeSpec := { name := "showTwo", fn := fun _ => fun
  | [d1, d2] => { results := [.lit (.bool false)], args := [d1, d2] }
  | _ => none }
def ShowTwoWrongFalsely : Prop := showTwoRow.holds Try.pinned (OpenSpec.ofChange showTwoWrong)

/- THE SECOND FORM. 'bulk': how many values and letters a reading holds, each counted each time it is reached (what is shared counts as often as it is met; a slice's spare places count too). A statement '..UptoSaid' is the law's where the arguments, and the package variables that the reading takes, are together of bulk at most 1048576: NARROWER than '..Said'. Prove '..Said' where nothing that the law and all that it calls make is longer than what came in: it says more and counts as full. Else prove '..UptoSaid'. A law counts once. -/
mutual
def uptoBulk {H : Type} : DataW H → Nat
  | .lit (.string bytes) => bytes.length + 1
  | .lit _ => 1
  | .nil => 1
  | .ptr d => uptoBulk d + 1
  | .slice elems spare => uptoBulkAll elems + uptoBulkAll spare + 1
  | .agg parts => uptoBulkAll parts + 1
  | .iface _ d => uptoBulk d + 1
  | .map entries => uptoBulkEntries entries + 1
  | .held _ => 1
def uptoBulkAll {H : Type} : List (DataW H) → Nat
  | [] => 0
  | d :: r => uptoBulk d + uptoBulkAll r
def uptoBulkEntries {H : Type} : List (Lit × DataW H) → Nat
  | [] => 0
  | x :: r => uptoBulkEntry x + uptoBulkEntries r
def uptoBulkEntry {H : Type} : Lit × DataW H → Nat
  | (.string bytes, d) => bytes.length + uptoBulk d + 1
  | (_, d) => uptoBulk d + 1
 end
def uptoSmall : (H : Type) → List (DataW H) → Bool := fun _ ds => decide (uptoBulkAll ds ≤ 1048576)
def OpenSpec.upto (s : _root_.Go.ChangeSpec) : _root_.Go.OpenSpec := { _root_.Go.OpenSpec.ofChange s with cond := some uptoSmall }

/-- 'presagelaw05.ShowTexts', WHERE WHAT IT READS IS OF BULK AT MOST 1048576: true; the input reads as it did. -/
def showTextsUptoRow : OpenClaim := { program := "ytkhmhcinepfemaa", sum := "451d8d1daf96bf1f01e8a1f6d8618c39ef0dcf02b9e0c4fa8cb67e29ff7e8aab", func := "presage/presagelaw05.ShowTexts", spec := "showTexts", inPlace := ["internal/abi.NoEscape"], unfollowed := true, recurses := true, apart := false, narrowed := true }
def ShowTextsUptoSaid : Prop := showTextsUptoRow.holds Try.pinned (OpenSpec.upto showTextsSpec)

/-- 'presagelaw05.ShowSmall', WHERE WHAT IT READS IS OF BULK AT MOST 1048576: true; the input reads as it did. -/
def showSmallUptoRow : OpenClaim := { program := "ytkhmhcinepfemaa", sum := "451d8d1daf96bf1f01e8a1f6d8618c39ef0dcf02b9e0c4fa8cb67e29ff7e8aab", func := "presage/presagelaw05.ShowSmall", spec := "showSmall", inPlace := ["internal/abi.NoEscape"], unfollowed := true, recurses := true, apart := false, narrowed := true }
def ShowSmallUptoSaid : Prop := showSmallUptoRow.holds Try.pinned (OpenSpec.upto showSmallSpec)

/-- 'presagelaw05.ShowAll', WHERE WHAT IT READS IS OF BULK AT MOST 1048576: true; the input reads as it did. -/
def showAllUptoRow : OpenClaim := { program := "ytkhmhcinepfemaa", sum := "451d8d1daf96bf1f01e8a1f6d8618c39ef0dcf02b9e0c4fa8cb67e29ff7e8aab", func := "presage/presagelaw05.ShowAll", spec := "showAll", inPlace := ["internal/abi.NoEscape"], unfollowed := true, recurses := true, apart := false, narrowed := true }
def ShowAllUptoSaid : Prop := showAllUptoRow.holds Try.pinned (OpenSpec.upto showAllSpec)

/-- 'presagelaw05.ShowTwo', WHERE WHAT IT READS IS OF BULK AT MOST 1048576: true; the input reads as it did. -/
def showTwoUptoRow : OpenClaim := { program := "ytkhmhcinepfemaa", sum := "451d8d1daf96bf1f01e8a1f6d8618c39ef0dcf02b9e0c4fa8cb67e29ff7e8aab", func := "presage/presagelaw05.ShowTwo", spec := "showTwo", inPlace := ["internal/abi.NoEscape"], unfollowed := true, recurses := true, apart := false, narrowed := true }
def ShowTwoUptoSaid : Prop := showTwoUptoRow.holds Try.pinned (OpenSpec.upto showTwoSpec)

end Rows
end Go.Proofs.Ytkhmhcinepfemaa
