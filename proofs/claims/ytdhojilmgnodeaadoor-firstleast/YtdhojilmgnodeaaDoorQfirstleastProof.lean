/-
  The tied card of FirstLeast: for every grammar that can be read as data the law answers true and leaves it as it was.
  Conditions: math/bits.deBruijn64tab starts as the program's text lays it (the card ties it to that text); the row's own reach bounds the memory of the grammar. The card speaks of the pruned copy of the project that the seat's roots load.
-/
import Derived.Test.YtdhojilmgnodeaaDoorCards
import Derived.Test.YtdhojilmgnodeaaDoorTie
import Derived.Test.YtdhojilmgnodeaaDoorQhnhjikemgjln
import Derived.SevenTiedAt
namespace Go.Proofs.YtdhojilmgnodeaaDoor
open Go

theorem firstLeast_card : Rows.FirstLeastCardSaid :=
  Claim7.holds_tied_plain_at .later [] [.data] true (true, "e86c7c7e2aacd21e539dd575db517a2282b70c21030f9db2ea7a35af75103b7a") false
    firstLeast_holds (fun _ h => by cases h) (by kernel_rfl) (fun _ h => by cases h) firstLeast_row_tie rfl ⟨rfl, rfl⟩ (by kernel_rfl) rfl
    (fun f fn hf hfn => by
      obtain rfl : f = 6 := Option.some.inj ((show Tryd.prog.funcNamed Rows.firstLeastRow.func = some 6 by kernel_rfl).symm.trans hf) |>.symm
      obtain rfl : fn = Tryd.f6 := (Option.some.inj (Tryd.func6.symm.trans hfn)).symm
      exact ⟨by kernel_rfl, fun j t ht => by
        rw [Tryd.params6] at ht
        have hm : t ∈ [27] := by simpa using Array.mem_of_getElem? ht
        have hall : ([27].all fun u => !Tryd.prog.wantsStandIn u) = true := by kernel_rfl
        exact (show Tryd.prog.wantsStandIn t = false by simpa using List.all_eq_true.1 hall t hm)⟩)
    (by kernel_rfl)

end Go.Proofs.YtdhojilmgnodeaaDoor
