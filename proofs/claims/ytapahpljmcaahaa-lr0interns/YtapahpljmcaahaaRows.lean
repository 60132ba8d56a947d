/-
  No cell of these rows narrows 'for every input' (looked for: loops, veiled, ifaces, maps, wideKeys, modest, calm, conditions, laid).
  DERIVED. THE GIVEN ROWS OF THIS SEAT. 2 by the template 'for every input the law returns true; each argument reads behind the call as it read before'; 0 by the template 'total and deterministic' (their statements: YtapahpljmcaahaaTotals.lean).
  GIVEN WITH THE SEED: the statements are not yours to turn. If you find one false, say at which input.
  Laid BY PROGRAM, IN A SANDBOX (cutbox-rows.mjs): the forced cells as the released guide's own fill.sh prints them over the translation 393d69508a9d23f2… (all of the seat's roots in one cut). By AI agents, Wed Nov 11 2026. No macro, syntax, notation, axiom, sorry.
-/
import Derived.Test.YtapahpljmcaahaaChecked
import GoSem.Claim
import GoSem.ClaimJoined
import GoSem.ClaimMapViews
import Derived.JoinedTies
import Derived.KernelRfl
namespace Go.Proofs.Ytapahpljmcaahaa
/- THE CELL 'sum', in the pinned program and in every row, IS THE sha256 OF THE DUMP (.gsa) THAT YtapahpljmcaahaaProg.lean LOADS. Nothing in Lean hashes anything: it is a label: what it is worth is what the hold of that sum in a sandbox is worth. -/
noncomputable def Try.pinned : Pinned := { name := "ytapahpljmcaahaa", sum := "393d69508a9d23f2970fcc02e953c2509e5f2727b7392cbbe055e4390424815e", checked := Try.checked }
namespace Rows
def none {H : Type} : Left H := { results := [], args := [] }

/-- 'presagelaw09.Lr0Builds': WHATEVER THE INPUT: true; the input reads as it did. -/
def lr0BuildsSpec : ChangeSpec := { name := "lr0Builds", fn := fun _ => fun
  | [d] => { results := [.lit (.bool true)], args := [d] }
  | _ => none }
def lr0BuildsRow : OpenClaim := { program := "ytapahpljmcaahaa", sum := "393d69508a9d23f2970fcc02e953c2509e5f2727b7392cbbe055e4390424815e", func := "presage/presagelaw09.Lr0Builds", spec := "lr0Builds", unfollowed := true, recurses := true, plainKeys := false, apart := false }
def Lr0BuildsSaid : Prop := lr0BuildsRow.holds Try.pinned (OpenSpec.ofChange lr0BuildsSpec)

/-- ITS FALSE NEIGHBOUR: 'it returns false'. Refute it at one input. -/
def lr0BuildsWrong : ChangeSpec := { name := "lr0Builds", fn := fun _ => fun
  | [d] => { results := [.lit (.bool false)], args := [d] }
  | _ => none }
def Lr0BuildsWrongFalsely : Prop := lr0BuildsRow.holds Try.pinned (OpenSpec.ofChange lr0BuildsWrong)

/-- 'presagelaw09.Lr0Interns': WHATEVER THE INPUT: true; the input reads as it did. -/
def lr0InternsSpec : ChangeSpec := { name := "lr0Interns", fn := fun _ => fun
  | [d] => { results := [.lit (.bool true)], args := [d] }
  | _ => none }
def lr0InternsRow : OpenClaim := { program := "ytapahpljmcaahaa", sum := "393d69508a9d23f2970fcc02e953c2509e5f2727b7392cbbe055e4390424815e", func := "presage/presagelaw09.Lr0Interns", spec := "lr0Interns", unfollowed := true, recurses := true, plainKeys := false, apart := false }
def Lr0InternsSaid : Prop := lr0InternsRow.holds Try.pinned (OpenSpec.ofChange lr0InternsSpec)

/-- ITS FALSE NEIGHBOUR: 'it returns false'. Refute it at one input. -/
def lr0InternsWrong : ChangeSpec := { name := "lr0Interns", fn := fun _ => fun
  | [d] => { results := [.lit (.bool false)], args := [d] }
  | _ => none }
def Lr0InternsWrongFalsely : Prop := lr0InternsRow.holds Try.pinned (OpenSpec.ofChange lr0InternsWrong)

/- THE SECOND FORM. 'bulk': how many values and letters a reading holds, each counted each time it is reached (what is shared counts as often as it is met; a slice's spare places count too). A statement '..UptoSaid' is the law's where the arguments, and the package variables that the reading takes, are together of bulk at most 1048576: NARROWER than '..Said'. Prove '..Said' where nothing that the law and all that it calls make is longer than what came in: it says more and counts as full. Else prove '..UptoSaid'. A law counts once. -/
mutual
def uptoBulk {H : Type} : DataW H → Nat
  | .lit (.string bytes) => bytes.length + 1
  | .lit _ => 1
  | .nil => 1
  | .ptr d => uptoBulk d + 1
  | .slice elems spare => uptoBulkAll elems + uptoBulkAll spare + 1
  | .agg parts => uptoBulkAll parts + 1
  | .iface _ d => uptoBulk d + 1
  | .map entries => uptoBulkEntries entries + 1
  | .held _ => 1
def uptoBulkAll {H : Type} : List (DataW H) → Nat
  | [] => 0
  | d :: r => uptoBulk d + uptoBulkAll r
def uptoBulkEntries {H : Type} : List (Lit × DataW H) → Nat
  | [] => 0
  | x :: r => uptoBulkEntry x + uptoBulkEntries r
def uptoBulkEntry {H : Type} : Lit × DataW H → Nat
  | (.string bytes, d) => bytes.length + uptoBulk d + 1
  | (_, d) => uptoBulk d + 1
 end
def uptoSmall : (H : Type) → List (DataW H) → Bool := fun _ ds => decide (uptoBulkAll ds ≤ 1048576)
def OpenSpec.upto (s : _root_.Go.ChangeSpec) : _root_.Go.OpenSpec := { _root_.Go.OpenSpec.ofChange s with cond := some uptoSmall }

/-- 'presagelaw09.Lr0Builds', WHERE WHAT IT READS IS OF BULK AT MOST 1048576: true; the input reads as it did. -/
def lr0BuildsUptoRow : OpenClaim := { program := "ytapahpljmcaahaa", sum := "393d69508a9d23f2970fcc02e953c2509e5f2727b7392cbbe055e4390424815e", func := "presage/presagelaw09.Lr0Builds", spec := "lr0Builds", unfollowed := true, recurses := true, plainKeys := false, apart := false, narrowed := true }
def Lr0BuildsUptoSaid : Prop := lr0BuildsUptoRow.holds Try.pinned (OpenSpec.upto lr0BuildsSpec)

/-- 'presagelaw09.Lr0Interns', WHERE WHAT IT READS IS OF BULK AT MOST 1048576: true; the input reads as it did. -/
def lr0InternsUptoRow : OpenClaim := { program := "ytapahpljmcaahaa", sum := "393d69508a9d23f2970fcc02e953c2509e5f2727b7392cbbe055e4390424815e", func := "presage/presagelaw09.Lr0Interns", spec := "lr0Interns", unfollowed := true, recurses := true, plainKeys := false, apart := false, narrowed := true }
def Lr0InternsUptoSaid : Prop := lr0InternsUptoRow.holds Try.pinned (OpenSpec.upto lr0InternsSpec)

end Rows
end Go.Proofs.Ytapahpljmcaahaa
