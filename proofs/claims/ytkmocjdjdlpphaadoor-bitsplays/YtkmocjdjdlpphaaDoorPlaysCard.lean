/-
  The tied card of BitsPlays: for every script of steps that can be read as data, the law answers true and leaves the script as it was.
  Conditions: math/bits.deBruijn64tab starts as the program's text lays it (the card ties it to that text); the row's own reach bounds the memory of the script and of its lists. The card speaks of the pruned copy of the project that the seat's roots load.
-/
import Derived.Test.YtkmocjdjdlpphaaDoorCards
import Derived.Test.YtkmocjdjdlpphaaDoorTie
import Derived.Test.YtkmocjdjdlpphaaDoorPlaysProof
import Derived.SevenTiedAt
namespace Go.Proofs.YtkmocjdjdlpphaaDoor
open Go

theorem bitsPlays_card : Rows.BitsPlaysCardSaid :=
  Claim7.holds_tied_plain_at .later [] [.data] true (true, "bfff127e6f1892bdde40427ffce8642344045ba96a8444726b5e9f134c6b0674") false
    bitsPlays_holds (fun _ h => by cases h) (by kernel_rfl) (fun _ h => by cases h) bitsPlays_row_tie rfl ⟨rfl, rfl⟩ (by kernel_rfl) rfl
    (fun f fn hf hfn => by
      obtain rfl : f = 3 := Option.some.inj ((show Tryd.prog.funcNamed Rows.bitsPlaysRow.func = some 3 by kernel_rfl).symm.trans hf) |>.symm
      obtain rfl : fn = Tryd.f3 := (Option.some.inj (Tryd.func3.symm.trans hfn)).symm
      exact ⟨by kernel_rfl, fun j t ht => by
        rw [Tryd.params3] at ht
        have hm : t ∈ [22] := by simpa using Array.mem_of_getElem? ht
        have hall : ([22].all fun u => !Tryd.prog.wantsStandIn u) = true := by kernel_rfl
        exact (show Tryd.prog.wantsStandIn t = false by simpa using List.all_eq_true.1 hall t hm)⟩)
    (by kernel_rfl)

end Go.Proofs.YtkmocjdjdlpphaaDoor
