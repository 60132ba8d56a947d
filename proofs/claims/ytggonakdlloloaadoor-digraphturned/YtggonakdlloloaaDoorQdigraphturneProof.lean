/-
  The tied card of DigraphTurned: for every input that can be read as data the law answers true and leaves it as it was.
  Conditions: math/bits.deBruijn64tab starts as the program's text lays it (the card ties it to that text); the row's own reach bounds the memory of the arguments. The card speaks of the pruned copy of the project that the seat's roots load.
-/
import Derived.Test.YtggonakdlloloaaDoorCards
import Derived.Test.YtggonakdlloloaaDoorTie
import Derived.Test.YtggonakdlloloaaDoorQcfighihehbla
import Derived.SevenTiedAt
namespace Go.Proofs.YtggonakdlloloaaDoor
open Go

theorem digraphTurned_card : Rows.DigraphTurnedCardSaid :=
  Claim7.holds_tied_plain_at .later [] [.data] true (true, "626b643536a961e83f04331b208a5e89c430cf882ea27a826f0547edf958aab2") false
    J.digraphTurned_holds (fun _ h => by cases h) (by kernel_rfl) (fun _ h => by cases h) digraphTurned_row_tie rfl ⟨rfl, rfl⟩ (by kernel_rfl) rfl
    (fun f fn hf hfn => by
      obtain rfl : f = 7 := Option.some.inj ((show Tryd.prog.funcNamed Rows.digraphTurnedRow.func = some 7 by kernel_rfl).symm.trans hf) |>.symm
      obtain rfl : fn = Tryd.f7 := (Option.some.inj (Tryd.func7.symm.trans hfn)).symm
      exact ⟨by kernel_rfl, fun j t ht => by
        rw [Tryd.params7] at ht
        have hm : t ∈ [3, 35, 35, 3] := by simpa using Array.mem_of_getElem? ht
        have hall : ([3, 35, 35, 3].all fun u => !Tryd.prog.wantsStandIn u) = true := by kernel_rfl
        exact (show Tryd.prog.wantsStandIn t = false by simpa using List.all_eq_true.1 hall t hm)⟩)
    (by kernel_rfl)

end Go.Proofs.YtggonakdlloloaaDoor
