/-
  DERIVED. GIVEN WITH THE SEED: THE CARDS: each row of YtdhojilmgnodeaaDoorRows.lean that lists a variable, with what it lists TIED to the program's text (the seventh form; the later family's looks); each row that meets fmt, with fmt's text TOLD by the authors' own Lean function (tested against real Go, not proved from fmt's source: count such statements apart). THE CARD IS WHAT COUNTS. Prove the row's statement (the work); the ties are given (YtdhojilmgnodeaaDoorTie.lean); close each card by the builder's one call (the guide's Derived/Test/ToyasCard.lean, 'card_holds'). Laid BY PROGRAM, IN A SANDBOX (cutbox-door.mjs). By AI agents, Wed Nov 11 2026. No macro, syntax, notation, axiom, sorry.
-/
import Derived.Test.YtdhojilmgnodeaaDoorRows
import GoSem.ClaimSeven
namespace Go.Proofs.YtdhojilmgnodeaaDoor
namespace Rows

/-- THE TIED CARD OF 'presagelaw07.FirstExact'. -/
def firstExactCard : Claim7 := { stood := { row := firstExactRow, standIns := [], harness := (true, "e86c7c7e2aacd21e539dd575db517a2282b70c21030f9db2ea7a35af75103b7a"), looks := false }, kinds := [], alts := [], laidByText := true, laidKinds := [.data], laidTests := true, laidLooks := .later }
def FirstExactCardSaid : Prop := Claim7.holds Tryd.pinned (.plain (OpenSpec.ofChange firstExactSpec)) firstExactCard

/-- THE TIED CARD OF 'presagelaw07.FirstRows'. -/
def firstRowsCard : Claim7 := { stood := { row := firstRowsRow, standIns := [], harness := (true, "e86c7c7e2aacd21e539dd575db517a2282b70c21030f9db2ea7a35af75103b7a"), looks := false }, kinds := [], alts := [], laidByText := true, laidKinds := [.data], laidTests := true, laidLooks := .later }
def FirstRowsCardSaid : Prop := Claim7.holds Tryd.pinned (.plain (OpenSpec.ofChange firstRowsSpec)) firstRowsCard

/-- THE TIED CARD OF 'presagelaw07.FirstProds'. -/
def firstProdsCard : Claim7 := { stood := { row := firstProdsRow, standIns := [], harness := (true, "e86c7c7e2aacd21e539dd575db517a2282b70c21030f9db2ea7a35af75103b7a"), looks := false }, kinds := [], alts := [], laidByText := true, laidKinds := [.data], laidTests := true, laidLooks := .later }
def FirstProdsCardSaid : Prop := Claim7.holds Tryd.pinned (.plain (OpenSpec.ofChange firstProdsSpec)) firstProdsCard

/-- THE TIED CARD OF 'presagelaw07.FirstLeast'. -/
def firstLeastCard : Claim7 := { stood := { row := firstLeastRow, standIns := [], harness := (true, "e86c7c7e2aacd21e539dd575db517a2282b70c21030f9db2ea7a35af75103b7a"), looks := false }, kinds := [], alts := [], laidByText := true, laidKinds := [.data], laidTests := true, laidLooks := .later }
def FirstLeastCardSaid : Prop := Claim7.holds Tryd.pinned (.plain (OpenSpec.ofChange firstLeastSpec)) firstLeastCard

/-- THE TIED CARD OF 'presagelaw07.FirstGrows'. -/
def firstGrowsCard : Claim7 := { stood := { row := firstGrowsRow, standIns := [], harness := (true, "e86c7c7e2aacd21e539dd575db517a2282b70c21030f9db2ea7a35af75103b7a"), looks := false }, kinds := [], alts := [], laidByText := true, laidKinds := [.data], laidTests := true, laidLooks := .later }
def FirstGrowsCardSaid : Prop := Claim7.holds Tryd.pinned (.plain (OpenSpec.ofChange firstGrowsSpec)) firstGrowsCard

/-- THE SECOND FORM's CARD OF 'presagelaw07.FirstExact'. -/
def firstExactUptoCard : Claim7 := { stood := { row := firstExactUptoRow, standIns := [], harness := (true, "e86c7c7e2aacd21e539dd575db517a2282b70c21030f9db2ea7a35af75103b7a"), looks := false }, kinds := [], alts := [], laidByText := true, laidKinds := [.data], laidTests := true, laidLooks := .later }
def FirstExactUptoCardSaid : Prop := Claim7.holds Tryd.pinned (.plain (OpenSpec.upto firstExactSpec)) firstExactUptoCard

/-- THE SECOND FORM's CARD OF 'presagelaw07.FirstRows'. -/
def firstRowsUptoCard : Claim7 := { stood := { row := firstRowsUptoRow, standIns := [], harness := (true, "e86c7c7e2aacd21e539dd575db517a2282b70c21030f9db2ea7a35af75103b7a"), looks := false }, kinds := [], alts := [], laidByText := true, laidKinds := [.data], laidTests := true, laidLooks := .later }
def FirstRowsUptoCardSaid : Prop := Claim7.holds Tryd.pinned (.plain (OpenSpec.upto firstRowsSpec)) firstRowsUptoCard

/-- THE SECOND FORM's CARD OF 'presagelaw07.FirstProds'. -/
def firstProdsUptoCard : Claim7 := { stood := { row := firstProdsUptoRow, standIns := [], harness := (true, "e86c7c7e2aacd21e539dd575db517a2282b70c21030f9db2ea7a35af75103b7a"), looks := false }, kinds := [], alts := [], laidByText := true, laidKinds := [.data], laidTests := true, laidLooks := .later }
def FirstProdsUptoCardSaid : Prop := Claim7.holds Tryd.pinned (.plain (OpenSpec.upto firstProdsSpec)) firstProdsUptoCard

/-- THE SECOND FORM's CARD OF 'presagelaw07.FirstLeast'. -/
def firstLeastUptoCard : Claim7 := { stood := { row := firstLeastUptoRow, standIns := [], harness := (true, "e86c7c7e2aacd21e539dd575db517a2282b70c21030f9db2ea7a35af75103b7a"), looks := false }, kinds := [], alts := [], laidByText := true, laidKinds := [.data], laidTests := true, laidLooks := .later }
def FirstLeastUptoCardSaid : Prop := Claim7.holds Tryd.pinned (.plain (OpenSpec.upto firstLeastSpec)) firstLeastUptoCard

/-- THE SECOND FORM's CARD OF 'presagelaw07.FirstGrows'. -/
def firstGrowsUptoCard : Claim7 := { stood := { row := firstGrowsUptoRow, standIns := [], harness := (true, "e86c7c7e2aacd21e539dd575db517a2282b70c21030f9db2ea7a35af75103b7a"), looks := false }, kinds := [], alts := [], laidByText := true, laidKinds := [.data], laidTests := true, laidLooks := .later }
def FirstGrowsUptoCardSaid : Prop := Claim7.holds Tryd.pinned (.plain (OpenSpec.upto firstGrowsSpec)) firstGrowsUptoCard
end Rows
end Go.Proofs.YtdhojilmgnodeaaDoor
