/-
  The tied card of ScanEach: for every text and number that can be read as data the law answers true and leaves them as they were.
  Conditions: presage/scan.orders starts as the program's text lays it (the card ties it to that text); the row's own reach bounds the memory of the text. The card speaks of the pruned copy of the project that the seat's roots load.
-/
import Derived.Test.YtpjckjggmcijjabDoorCards
import Derived.Test.YtpjckjggmcijjabDoorTie
import Derived.Test.YtpjckjggmcijjabDoorSEachProof
import Derived.SevenTiedAt
namespace Go.Proofs.YtpjckjggmcijjabDoor
open Go

theorem scanEach_card : Rows.ScanEachCardSaid :=
  Claim7.holds_tied_plain_at .later [] [.data] true (true, "2e55996d3ab47570873c09cb77afb3760f2cd3f456e5a7b36ec9ef041d824b1d") false
    scanEach_holds (fun _ h => by cases h) (by kernel_rfl) (fun _ h => by cases h) scanEach_row_tie rfl ⟨rfl, rfl⟩ (by kernel_rfl) rfl
    (fun f fn hf hfn => by
      obtain rfl : f = 4 := Option.some.inj ((show Tryd.prog.funcNamed Rows.scanEachRow.func = some 4 by kernel_rfl).symm.trans hf) |>.symm
      obtain rfl : fn = Tryd.f4 := (Option.some.inj (Tryd.func4.symm.trans hfn)).symm
      exact ⟨by kernel_rfl, fun j t ht => by
        rw [Tryd.params4] at ht
        have hm : t ∈ [9, 3] := by simpa using Array.mem_of_getElem? ht
        have hall : ([9, 3].all fun u => !Tryd.prog.wantsStandIn u) = true := by kernel_rfl
        exact (show Tryd.prog.wantsStandIn t = false by simpa using List.all_eq_true.1 hall t hm)⟩)
    (by kernel_rfl)

end Go.Proofs.YtpjckjggmcijjabDoor
