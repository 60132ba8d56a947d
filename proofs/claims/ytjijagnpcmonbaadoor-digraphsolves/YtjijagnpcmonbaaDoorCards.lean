/-
  DERIVED. GIVEN WITH THE SEED: THE CARDS: each row of YtjijagnpcmonbaaDoorRows.lean that lists a variable, with what it lists TIED to the program's text (the seventh form; the later family's looks); each row that meets fmt, with fmt's text TOLD by the authors' own Lean function (tested against real Go, not proved from fmt's source: count such statements apart). THE CARD IS WHAT COUNTS. Prove the row's statement (the work); the ties are given (YtjijagnpcmonbaaDoorTie.lean); close each card by the builder's one call (the guide's Derived/Test/ToyasCard.lean, 'card_holds'). Laid BY PROGRAM, IN A SANDBOX (cutbox-door.mjs). By AI agents, Wed Nov 11 2026. No macro, syntax, notation, axiom, sorry.
-/
import Derived.Test.YtjijagnpcmonbaaDoorRows
import GoSem.ClaimSeven
namespace Go.Proofs.YtjijagnpcmonbaaDoor
namespace Rows

/-- THE TIED CARD OF 'presagelaw12.DigraphParts'. -/
def digraphPartsCard : Claim7 := { stood := { row := digraphPartsRow, standIns := [], harness := (true, "0b7f3529fe634f92f3bdb61286afda63ffcff9331cbefc2d0cea3c5f7ad844a0"), looks := false }, kinds := [], alts := [], laidByText := true, laidKinds := [.data], laidTests := true, laidLooks := .later }
def DigraphPartsCardSaid : Prop := Claim7.holds Tryd.pinned (.plain (OpenSpec.ofChange digraphPartsSpec)) digraphPartsCard

/-- THE TIED CARD OF 'presagelaw12.DigraphSolves'. -/
def digraphSolvesCard : Claim7 := { stood := { row := digraphSolvesRow, standIns := [], harness := (true, "0b7f3529fe634f92f3bdb61286afda63ffcff9331cbefc2d0cea3c5f7ad844a0"), looks := false }, kinds := [], alts := [], laidByText := true, laidKinds := [.data], laidTests := true, laidLooks := .later }
def DigraphSolvesCardSaid : Prop := Claim7.holds Tryd.pinned (.plain (OpenSpec.ofChange digraphSolvesSpec)) digraphSolvesCard

/-- THE SECOND FORM's CARD OF 'presagelaw12.DigraphParts'. -/
def digraphPartsUptoCard : Claim7 := { stood := { row := digraphPartsUptoRow, standIns := [], harness := (true, "0b7f3529fe634f92f3bdb61286afda63ffcff9331cbefc2d0cea3c5f7ad844a0"), looks := false }, kinds := [], alts := [], laidByText := true, laidKinds := [.data], laidTests := true, laidLooks := .later }
def DigraphPartsUptoCardSaid : Prop := Claim7.holds Tryd.pinned (.plain (OpenSpec.upto digraphPartsSpec)) digraphPartsUptoCard

/-- THE SECOND FORM's CARD OF 'presagelaw12.DigraphSolves'. -/
def digraphSolvesUptoCard : Claim7 := { stood := { row := digraphSolvesUptoRow, standIns := [], harness := (true, "0b7f3529fe634f92f3bdb61286afda63ffcff9331cbefc2d0cea3c5f7ad844a0"), looks := false }, kinds := [], alts := [], laidByText := true, laidKinds := [.data], laidTests := true, laidLooks := .later }
def DigraphSolvesUptoCardSaid : Prop := Claim7.holds Tryd.pinned (.plain (OpenSpec.upto digraphSolvesSpec)) digraphSolvesUptoCard
end Rows
end Go.Proofs.YtjijagnpcmonbaaDoor
