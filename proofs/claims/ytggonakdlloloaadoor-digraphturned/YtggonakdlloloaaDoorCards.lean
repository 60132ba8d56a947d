/-
  DERIVED. GIVEN WITH THE SEED: THE CARDS: each row of YtggonakdlloloaaDoorRows.lean that lists a variable, with what it lists TIED to the program's text (the seventh form; the later family's looks); each row that meets fmt, with fmt's text TOLD by the authors' own Lean function (tested against real Go, not proved from fmt's source: count such statements apart). THE CARD IS WHAT COUNTS. Prove the row's statement (the work); the ties are given (YtggonakdlloloaaDoorTie.lean); close each card by the builder's one call (the guide's Derived/Test/ToyasCard.lean, 'card_holds'). Laid BY PROGRAM, IN A SANDBOX (cutbox-door.mjs). By AI agents, Wed Nov 11 2026. No macro, syntax, notation, axiom, sorry.
-/
import Derived.Test.YtggonakdlloloaaDoorRows
import GoSem.ClaimSeven
namespace Go.Proofs.YtggonakdlloloaaDoor
namespace Rows

/-- THE TIED CARD OF 'presagelaw12.DigraphParts'. -/
def digraphPartsCard : Claim7 := { stood := { row := digraphPartsRow, standIns := [], harness := (true, "626b643536a961e83f04331b208a5e89c430cf882ea27a826f0547edf958aab2"), looks := false }, kinds := [], alts := [], laidByText := true, laidKinds := [.data], laidTests := true, laidLooks := .later }
def DigraphPartsCardSaid : Prop := Claim7.holds Tryd.pinned (.plain (OpenSpec.ofChange digraphPartsSpec)) digraphPartsCard

/-- THE TIED CARD OF 'presagelaw12.DigraphSolves'. -/
def digraphSolvesCard : Claim7 := { stood := { row := digraphSolvesRow, standIns := [], harness := (true, "626b643536a961e83f04331b208a5e89c430cf882ea27a826f0547edf958aab2"), looks := false }, kinds := [], alts := [], laidByText := true, laidKinds := [.data], laidTests := true, laidLooks := .later }
def DigraphSolvesCardSaid : Prop := Claim7.holds Tryd.pinned (.plain (OpenSpec.ofChange digraphSolvesSpec)) digraphSolvesCard

/-- THE TIED CARD OF 'presagelaw12.DigraphWays'. -/
def digraphWaysCard : Claim7 := { stood := { row := digraphWaysRow, standIns := [], harness := (true, "626b643536a961e83f04331b208a5e89c430cf882ea27a826f0547edf958aab2"), looks := false }, kinds := [], alts := [], laidByText := true, laidKinds := [.data], laidTests := true, laidLooks := .later }
def DigraphWaysCardSaid : Prop := Claim7.holds Tryd.pinned (.plain (OpenSpec.ofChange digraphWaysSpec)) digraphWaysCard

/-- THE TIED CARD OF 'presagelaw12.DigraphLeast'. -/
def digraphLeastCard : Claim7 := { stood := { row := digraphLeastRow, standIns := [], harness := (true, "626b643536a961e83f04331b208a5e89c430cf882ea27a826f0547edf958aab2"), looks := false }, kinds := [], alts := [], laidByText := true, laidKinds := [.data], laidTests := true, laidLooks := .later }
def DigraphLeastCardSaid : Prop := Claim7.holds Tryd.pinned (.plain (OpenSpec.ofChange digraphLeastSpec)) digraphLeastCard

/-- THE TIED CARD OF 'presagelaw12.DigraphTurned'. -/
def digraphTurnedCard : Claim7 := { stood := { row := digraphTurnedRow, standIns := [], harness := (true, "626b643536a961e83f04331b208a5e89c430cf882ea27a826f0547edf958aab2"), looks := false }, kinds := [], alts := [], laidByText := true, laidKinds := [.data], laidTests := true, laidLooks := .later }
def DigraphTurnedCardSaid : Prop := Claim7.holds Tryd.pinned (.plain (OpenSpec.ofChange digraphTurnedSpec)) digraphTurnedCard

/-- THE SECOND FORM's CARD OF 'presagelaw12.DigraphParts'. -/
def digraphPartsUptoCard : Claim7 := { stood := { row := digraphPartsUptoRow, standIns := [], harness := (true, "626b643536a961e83f04331b208a5e89c430cf882ea27a826f0547edf958aab2"), looks := false }, kinds := [], alts := [], laidByText := true, laidKinds := [.data], laidTests := true, laidLooks := .later }
def DigraphPartsUptoCardSaid : Prop := Claim7.holds Tryd.pinned (.plain (OpenSpec.upto digraphPartsSpec)) digraphPartsUptoCard

/-- THE SECOND FORM's CARD OF 'presagelaw12.DigraphSolves'. -/
def digraphSolvesUptoCard : Claim7 := { stood := { row := digraphSolvesUptoRow, standIns := [], harness := (true, "626b643536a961e83f04331b208a5e89c430cf882ea27a826f0547edf958aab2"), looks := false }, kinds := [], alts := [], laidByText := true, laidKinds := [.data], laidTests := true, laidLooks := .later }
def DigraphSolvesUptoCardSaid : Prop := Claim7.holds Tryd.pinned (.plain (OpenSpec.upto digraphSolvesSpec)) digraphSolvesUptoCard

/-- THE SECOND FORM's CARD OF 'presagelaw12.DigraphWays'. -/
def digraphWaysUptoCard : Claim7 := { stood := { row := digraphWaysUptoRow, standIns := [], harness := (true, "626b643536a961e83f04331b208a5e89c430cf882ea27a826f0547edf958aab2"), looks := false }, kinds := [], alts := [], laidByText := true, laidKinds := [.data], laidTests := true, laidLooks := .later }
def DigraphWaysUptoCardSaid : Prop := Claim7.holds Tryd.pinned (.plain (OpenSpec.upto digraphWaysSpec)) digraphWaysUptoCard

/-- THE SECOND FORM's CARD OF 'presagelaw12.DigraphLeast'. -/
def digraphLeastUptoCard : Claim7 := { stood := { row := digraphLeastUptoRow, standIns := [], harness := (true, "626b643536a961e83f04331b208a5e89c430cf882ea27a826f0547edf958aab2"), looks := false }, kinds := [], alts := [], laidByText := true, laidKinds := [.data], laidTests := true, laidLooks := .later }
def DigraphLeastUptoCardSaid : Prop := Claim7.holds Tryd.pinned (.plain (OpenSpec.upto digraphLeastSpec)) digraphLeastUptoCard

/-- THE SECOND FORM's CARD OF 'presagelaw12.DigraphTurned'. -/
def digraphTurnedUptoCard : Claim7 := { stood := { row := digraphTurnedUptoRow, standIns := [], harness := (true, "626b643536a961e83f04331b208a5e89c430cf882ea27a826f0547edf958aab2"), looks := false }, kinds := [], alts := [], laidByText := true, laidKinds := [.data], laidTests := true, laidLooks := .later }
def DigraphTurnedUptoCardSaid : Prop := Claim7.holds Tryd.pinned (.plain (OpenSpec.upto digraphTurnedSpec)) digraphTurnedUptoCard
end Rows
end Go.Proofs.YtggonakdlloloaaDoor
