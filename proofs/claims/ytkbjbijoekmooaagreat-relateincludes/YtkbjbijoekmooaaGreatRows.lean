/-
  No cell of these rows narrows 'for every input' (looked for: loops, veiled, ifaces, maps, wideKeys, modest, calm, conditions, laid).
  DERIVED. THE GIVEN ROWS OF THIS SEAT. 4 by the template 'for every input the law returns true; each argument reads behind the call as it read before'; 0 by the template 'total and deterministic' (their statements: YtkbjbijoekmooaaGreatTotals.lean).
  GIVEN WITH THE SEED: the statements are not yours to turn. If you find one false, say at which input.
  Laid BY PROGRAM, IN A SANDBOX (cutbox-rows.mjs): the forced cells as the released guide's own fill.sh prints them over the translation c5982be11d5c17c0… (all of the seat's roots in one cut). By AI agents, Wed Nov 11 2026. No macro, syntax, notation, axiom, sorry.
-/
import Derived.Test.YtkbjbijoekmooaaGreatChecked
import GoSem.Claim
import GoSem.ClaimJoined
import GoSem.ClaimMapViews
import Derived.JoinedTies
import Derived.KernelRfl
namespace Go.Proofs.YtkbjbijoekmooaaGreat
/- THE CELL 'sum', in the pinned program and in every row, IS THE sha256 OF THE DUMP (.gsa) THAT YtkbjbijoekmooaaGreatProg.lean LOADS. Nothing in Lean hashes anything: it is a label: what it is worth is what the hold of that sum in a sandbox is worth. -/
noncomputable def Tryz.pinned : Pinned := { name := "ytkbjbijoekmooaagreat", sum := "c5982be11d5c17c06d82302a449bf332a7b9ef34a73f8285507107d54f5e58f1", checked := Tryz.checked }
namespace Rows
def none {H : Type} : Left H := { results := [], args := [] }

/-- 'presagelaw11.RelateExact': WHATEVER THE INPUT: true; the input reads as it did. -/
def relateExactSpec : ChangeSpec := { name := "relateExact", fn := fun _ => fun
  | [d] => { results := [.lit (.bool true)], args := [d] }
  | _ => none }
def relateExactRow : OpenClaim := { program := "ytkbjbijoekmooaagreat", sum := "c5982be11d5c17c06d82302a449bf332a7b9ef34a73f8285507107d54f5e58f1", func := "presage/presagelaw11.RelateExact", spec := "relateExact", unfollowed := true, recurses := true, plainKeys := false, apart := false }
def RelateExactSaid : Prop := relateExactRow.holds Tryz.pinned (OpenSpec.ofChange relateExactSpec)

/-- ITS FALSE NEIGHBOUR: 'it returns false'. Refute it at one input. -/
def relateExactWrong : ChangeSpec := { name := "relateExact", fn := fun _ => fun
  | [d] => { results := [.lit (.bool false)], args := [d] }
  | _ => none }
def RelateExactWrongFalsely : Prop := relateExactRow.holds Tryz.pinned (OpenSpec.ofChange relateExactWrong)

/-- 'presagelaw11.RelateReads': WHATEVER THE INPUT: true; the input reads as it did. -/
def relateReadsSpec : ChangeSpec := { name := "relateReads", fn := fun _ => fun
  | [d] => { results := [.lit (.bool true)], args := [d] }
  | _ => none }
def relateReadsRow : OpenClaim := { program := "ytkbjbijoekmooaagreat", sum := "c5982be11d5c17c06d82302a449bf332a7b9ef34a73f8285507107d54f5e58f1", func := "presage/presagelaw11.RelateReads", spec := "relateReads", unfollowed := true, recurses := true, plainKeys := false, apart := false }
def RelateReadsSaid : Prop := relateReadsRow.holds Tryz.pinned (OpenSpec.ofChange relateReadsSpec)

/-- ITS FALSE NEIGHBOUR: 'it returns false'. Refute it at one input. -/
def relateReadsWrong : ChangeSpec := { name := "relateReads", fn := fun _ => fun
  | [d] => { results := [.lit (.bool false)], args := [d] }
  | _ => none }
def RelateReadsWrongFalsely : Prop := relateReadsRow.holds Tryz.pinned (OpenSpec.ofChange relateReadsWrong)

/-- 'presagelaw11.RelateIncludes': WHATEVER THE INPUT: true; the input reads as it did. -/
def relateIncludesSpec : ChangeSpec := { name := "relateIncludes", fn := fun _ => fun
  | [d1, d2] => { results := [.lit (.bool true)], args := [d1, d2] }
  | _ => none }
def relateIncludesRow : OpenClaim := { program := "ytkbjbijoekmooaagreat", sum := "c5982be11d5c17c06d82302a449bf332a7b9ef34a73f8285507107d54f5e58f1", func := "presage/presagelaw11.RelateIncludes", spec := "relateIncludes", unfollowed := true, recurses := true, plainKeys := false, apart := false }
def RelateIncludesSaid : Prop := relateIncludesRow.holds Tryz.pinned (OpenSpec.ofChange relateIncludesSpec)

/-- ITS FALSE NEIGHBOUR: 'it returns false'. Refute it at one input. -/
def relateIncludesWrong : ChangeSpec := { name := "relateIncludes", fn := fun _ => fun
  | [d1, d2] => { results := [.lit (.bool false)], args := [d1, d2] }
  | _ => none }
def RelateIncludesWrongFalsely : Prop := relateIncludesRow.holds Tryz.pinned (OpenSpec.ofChange relateIncludesWrong)

/-- 'presagelaw11.RelateBacks': WHATEVER THE INPUT: true; the input reads as it did. -/
def relateBacksSpec : ChangeSpec := { name := "relateBacks", fn := fun _ => fun
  | [d] => { results := [.lit (.bool true)], args := [d] }
  | _ => none }
def relateBacksRow : OpenClaim := { program := "ytkbjbijoekmooaagreat", sum := "c5982be11d5c17c06d82302a449bf332a7b9ef34a73f8285507107d54f5e58f1", func := "presage/presagelaw11.RelateBacks", spec := "relateBacks", unfollowed := true, recurses := true, plainKeys := false, apart := false }
def RelateBacksSaid : Prop := relateBacksRow.holds Tryz.pinned (OpenSpec.ofChange relateBacksSpec)

/-- ITS FALSE NEIGHBOUR: 'it returns false'. Refute it at one input. -/
def relateBacksWrong : ChangeSpec := { name := "relateBacks", fn := fun _ => fun
  | [d] => { results := [.lit (.bool false)], args := [d] }
  | _ => none }
def RelateBacksWrongFalsely : Prop := relateBacksRow.holds Tryz.pinned (OpenSpec.ofChange relateBacksWrong)

/- THE SECOND FORM. 'bulk': how many values and letters a reading holds, each counted each time it is reached (what is shared counts as often as it is met; a slice's spare places count too). A statement '..UptoSaid' is the law's where the arguments, and the package variables that the reading takes, are together of bulk at most 1048576: NARROWER than '..Said'. Prove '..Said' where nothing that the law and all that it calls make is longer than what came in: it says more and counts as full. Else prove '..UptoSaid'. A law counts once. -/
mutual
def uptoBulk {H : Type} : DataW H → Nat
  | .lit (.string bytes) => bytes.length + 1
  | .lit _ => 1
  | .nil => 1
  | .ptr d => uptoBulk d + 1
  | .slice elems spare => uptoBulkAll elems + uptoBulkAll spare + 1
  | .agg parts => uptoBulkAll parts + 1
  | .iface _ d => uptoBulk d + 1
  | .map entries => uptoBulkEntries entries + 1
  | .held _ => 1
def uptoBulkAll {H : Type} : List (DataW H) → Nat
  | [] => 0
  | d :: r => uptoBulk d + uptoBulkAll r
def uptoBulkEntries {H : Type} : List (Lit × DataW H) → Nat
  | [] => 0
  | x :: r => uptoBulkEntry x + uptoBulkEntries r
def uptoBulkEntry {H : Type} : Lit × DataW H → Nat
  | (.string bytes, d) => bytes.length + uptoBulk d + 1
  | (_, d) => uptoBulk d + 1
 end
def uptoSmall : (H : Type) → List (DataW H) → Bool := fun _ ds => decide (uptoBulkAll ds ≤ 1048576)
def OpenSpec.upto (s : _root_.Go.ChangeSpec) : _root_.Go.OpenSpec := { _root_.Go.OpenSpec.ofChange s with cond := some uptoSmall }

/-- 'presagelaw11.RelateExact', WHERE WHAT IT READS IS OF BULK AT MOST 1048576: true; the input reads as it did. -/
def relateExactUptoRow : OpenClaim := { program := "ytkbjbijoekmooaagreat", sum := "c5982be11d5c17c06d82302a449bf332a7b9ef34a73f8285507107d54f5e58f1", func := "presage/presagelaw11.RelateExact", spec := "relateExact", unfollowed := true, recurses := true, plainKeys := false, apart := false, narrowed := true }
def RelateExactUptoSaid : Prop := relateExactUptoRow.holds Tryz.pinned (OpenSpec.upto relateExactSpec)

/-- 'presagelaw11.RelateReads', WHERE WHAT IT READS IS OF BULK AT MOST 1048576: true; the input reads as it did. -/
def relateReadsUptoRow : OpenClaim := { program := "ytkbjbijoekmooaagreat", sum := "c5982be11d5c17c06d82302a449bf332a7b9ef34a73f8285507107d54f5e58f1", func := "presage/presagelaw11.RelateReads", spec := "relateReads", unfollowed := true, recurses := true, plainKeys := false, apart := false, narrowed := true }
def RelateReadsUptoSaid : Prop := relateReadsUptoRow.holds Tryz.pinned (OpenSpec.upto relateReadsSpec)

/-- 'presagelaw11.RelateIncludes', WHERE WHAT IT READS IS OF BULK AT MOST 1048576: true; the input reads as it did. -/
def relateIncludesUptoRow : OpenClaim := { program := "ytkbjbijoekmooaagreat", sum := "c5982be11d5c17c06d82302a449bf332a7b9ef34a73f8285507107d54f5e58f1", func := "presage/presagelaw11.RelateIncludes", spec := "relateIncludes", unfollowed := true, recurses := true, plainKeys := false, apart := false, narrowed := true }
def RelateIncludesUptoSaid : Prop := relateIncludesUptoRow.holds Tryz.pinned (OpenSpec.upto relateIncludesSpec)

/-- 'presagelaw11.RelateBacks', WHERE WHAT IT READS IS OF BULK AT MOST 1048576: true; the input reads as it did. -/
def relateBacksUptoRow : OpenClaim := { program := "ytkbjbijoekmooaagreat", sum := "c5982be11d5c17c06d82302a449bf332a7b9ef34a73f8285507107d54f5e58f1", func := "presage/presagelaw11.RelateBacks", spec := "relateBacks", unfollowed := true, recurses := true, plainKeys := false, apart := false, narrowed := true }
def RelateBacksUptoSaid : Prop := relateBacksUptoRow.holds Tryz.pinned (OpenSpec.upto relateBacksSpec)

end Rows
end Go.Proofs.YtkbjbijoekmooaaGreat
