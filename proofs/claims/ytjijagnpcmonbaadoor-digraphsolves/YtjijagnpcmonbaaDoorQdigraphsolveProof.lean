/-
  The tied card of DigraphSolves, in its second form: for all lists, and any number, that can be read as data, of bulk at most 1048576, the law answers true and leaves them as they were.
  Conditions: math/bits.deBruijn64tab starts as the program's text lays it (the card ties it to that text); the bulk of what is read is at most 1048576. The card speaks of the pruned copy of the project that the seat's roots load.
-/
import Derived.Test.YtjijagnpcmonbaaDoorCards
import Derived.Test.YtjijagnpcmonbaaDoorTie
import Derived.Test.YtjijagnpcmonbaaDoorQempabpmpfdhk
import Derived.SevenTiedAt
namespace Go.Proofs.YtjijagnpcmonbaaDoor
open Go

theorem digraphSolvesUpto_card : Rows.DigraphSolvesUptoCardSaid :=
  Claim7.holds_tied_plain_at .later [] [.data] true (true, "0b7f3529fe634f92f3bdb61286afda63ffcff9331cbefc2d0cea3c5f7ad844a0") false
    J.digraphSolvesUpto_holds (fun _ h => by cases h) (by kernel_rfl) (fun _ h => by cases h) digraphSolvesUpto_row_tie rfl ⟨rfl, rfl⟩ (by kernel_rfl) rfl
    (fun f fn hf hfn => by
      obtain rfl : f = 4 := Option.some.inj ((show Tryd.prog.funcNamed Rows.digraphSolvesUptoRow.func = some 4 by kernel_rfl).symm.trans hf) |>.symm
      obtain rfl : fn = Tryd.f4 := (Option.some.inj (Tryd.func4.symm.trans hfn)).symm
      exact ⟨by kernel_rfl, fun j t ht => by
        rw [Tryd.params4] at ht
        have hm : t ∈ [22, 22, 3] := by simpa using Array.mem_of_getElem? ht
        have hall : ([22, 22, 3].all fun u => !Tryd.prog.wantsStandIn u) = true := by kernel_rfl
        exact (show Tryd.prog.wantsStandIn t = false by simpa using List.all_eq_true.1 hall t hm)⟩)
    (by kernel_rfl)

end Go.Proofs.YtjijagnpcmonbaaDoor
