/-
  The tied card of DigraphLeast: for every input that can be read as data the law answers true and leaves it as it was.
  Conditions: math/bits.deBruijn64tab starts as the program's text lays it (the card ties it to that text); the row's own reach bounds the memory of the arguments. The card speaks of the pruned copy of the project that the seat's roots load.
-/
import Derived.Test.YtggonakdlloloaaDoorCards
import Derived.Test.YtggonakdlloloaaDoorTie
import Derived.Test.YtggonakdlloloaaDoorQdmagjinadpbd
import Derived.SevenTiedAt
namespace Go.Proofs.YtggonakdlloloaaDoor
open Go

theorem digraphLeast_card : Rows.DigraphLeastCardSaid :=
  Claim7.holds_tied_plain_at .later [] [.data] true (true, "626b643536a961e83f04331b208a5e89c430cf882ea27a826f0547edf958aab2") false
    J.digraphLeast_holds (fun _ h => by cases h) (by kernel_rfl) (fun _ h => by cases h) digraphLeast_row_tie rfl ⟨rfl, rfl⟩ (by kernel_rfl) rfl
    (fun f fn hf hfn => by
      obtain rfl : f = 6 := Option.some.inj ((show Tryd.prog.funcNamed Rows.digraphLeastRow.func = some 6 by kernel_rfl).symm.trans hf) |>.symm
      obtain rfl : fn = Tryd.f6 := (Option.some.inj (Tryd.func6.symm.trans hfn)).symm
      exact ⟨by kernel_rfl, fun j t ht => by
        rw [Tryd.params6] at ht
        have hm : t ∈ [3, 35, 35, 3, 3] := by simpa using Array.mem_of_getElem? ht
        have hall : ([3, 35, 35, 3, 3].all fun u => !Tryd.prog.wantsStandIn u) = true := by kernel_rfl
        exact (show Tryd.prog.wantsStandIn t = false by simpa using List.all_eq_true.1 hall t hm)⟩)
    (by kernel_rfl)

end Go.Proofs.YtggonakdlloloaaDoor
