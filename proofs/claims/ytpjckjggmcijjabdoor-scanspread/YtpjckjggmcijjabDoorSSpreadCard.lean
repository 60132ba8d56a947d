/-
  The tied card of ScanSpread: for every list of pieces that can be read as data the law answers true and leaves it as it was.
  Conditions: presage/scan.orders starts as the program's text lays it (the card ties it to that text); the row's own reach bounds the memory of the list. The card speaks of the pruned copy of the project that the seat's roots load.
-/
import Derived.Test.YtpjckjggmcijjabDoorCards
import Derived.Test.YtpjckjggmcijjabDoorTie
import Derived.Test.YtpjckjggmcijjabDoorSSpreadProof
import Derived.SevenTiedAt
namespace Go.Proofs.YtpjckjggmcijjabDoor
open Go

theorem scanSpread_card : Rows.ScanSpreadCardSaid :=
  Claim7.holds_tied_plain_at .later [] [.data] true (true, "2e55996d3ab47570873c09cb77afb3760f2cd3f456e5a7b36ec9ef041d824b1d") false
    scanSpread_holds (fun _ h => by cases h) (by kernel_rfl) (fun _ h => by cases h) scanSpread_row_tie rfl ⟨rfl, rfl⟩ (by kernel_rfl) rfl
    (fun f fn hf hfn => by
      obtain rfl : f = 6 := Option.some.inj ((show Tryd.prog.funcNamed Rows.scanSpreadRow.func = some 6 by kernel_rfl).symm.trans hf) |>.symm
      obtain rfl : fn = Tryd.f6 := (Option.some.inj (Tryd.func6.symm.trans hfn)).symm
      exact ⟨by kernel_rfl, fun j t ht => by
        rw [Tryd.params6] at ht
        have hm : t ∈ [44] := by simpa using Array.mem_of_getElem? ht
        have hall : ([44].all fun u => !Tryd.prog.wantsStandIn u) = true := by kernel_rfl
        exact (show Tryd.prog.wantsStandIn t = false by simpa using List.all_eq_true.1 hall t hm)⟩)
    (by kernel_rfl)

end Go.Proofs.YtpjckjggmcijjabDoor
