/-
  What the laws' proofs share: the orders out of the row's condition; a text that came in.
-/
import Derived.Test.YtpjckjggmcijjabDoorRows
import Derived.Test.YtpjckjggmcijjabDoorSLaw
import Derived.Lib.LaidTab
import Derived.ProofKit
import Derived.LaidMore
import Derived.OpenShut
import Derived.SizedLaws
import Derived.Stop.Joined
import Derived.MakeChecks
namespace Go.Proofs.YtpjckjggmcijjabDoor
open Go.ChangeShapes Go.WideShapes Go.ChangeAt Go.RowKit

theorem own : ownKnob Tryd.prog.godebug = none := by kernel_rfl
theorem laidOut : laidOutB Tryd.prog = true := by kernel_rfl
/-- The name of the orders' variable. -/
def ordName : String := Rows.scanNamesRow.named.headD ""
theorem gOrd : Tryd.prog.globalNamed ordName = some 0 := by kernel_rfl
theorem tOrd : (Tryd.prog.globals[0]?).map (·.type) = some 69 := by kernel_rfl
theorem cellsStr : Tryd.prog.cellsOf 9 = 1 := by kernel_rfl
theorem cellsArr : Tryd.prog.cellsOf 69 = 7 := by kernel_rfl
/-- What the rows list. -/
def laid1 : List (String × DataW Unit) := [(ordName, Rows.laid_presage_scan_orders)]

theorem ords_is : (Rows.laid_presage_scan_orders : DataW Unit) = .agg (ords.map fun s => .lit (.string s.data.toList)) := by kernel_rfl

theorem ords_of_laid {W : World} (h : laidMetH Tryd.prog laid1 W) : Ords W := by
  rw [MakeChecks.laidMetH_plain _ _ _ (by kernel_rfl)] at h
  unfold laid1 at h
  rw [ords_is] at h
  obtain ⟨ps, ⟨g', t', cs, fuel, p, q, hg', ht', hvar, hd, _, _⟩, _⟩ := h
  obtain rfl := Option.some.inj (gOrd.symm.trans hg')
  obtain rfl := Option.some.inj (tOrd.symm.trans ht')
  obtain ⟨xs, m, _, hx, hcl, hxl, heach⟩ := DataW.trod_array Tryd.underlying69 hd
  rw [cellsStr] at heach
  simp only [Prod.mk.injEq, DataW.agg.injEq] at hx
  intro j hj
  rw [World.var?_cell gOrd hvar j]
  have hxj : j < xs.length := by omega
  have hj1 := heach j hj
  rw [List.getElem?_eq_getElem hxj] at hj1
  obtain ⟨s, hc, hs, _⟩ := DataW.trod_string Tryd.underlying9 hj1
  have e1 : cs[j]? = some (.string s) := by
    have := congrArg (·[0]?) hc
    simpa [List.getElem?_take, List.getElem?_drop] using this
  have e2 : ((ords.map fun s => (DataW.lit (.string s.data.toList) : DataW Unit)))[j]? = some (.lit (.string s.data.toList)) := by
    rw [hx.1]
    simp [List.getElem?_map, List.getElem?_eq_getElem hxj, hs]
  have hjo : j < ords.length := hj
  rw [List.getElem?_map, List.getElem?_eq_getElem hjo] at e2
  simp only [Option.map_some, Option.some.injEq, DataW.lit.injEq, Lit.string.injEq] at e2
  have e3 : ordAt j = s := by
    apply bytes_ext
    unfold ordAt
    rw [List.getD, List.getElem?_eq_getElem hjo]
    exact e2
  rw [e3]
  simpa using e1

theorem door_met (os : Os) (args : Array Value) : laidMetH Tryd.prog laid1 ((World.doorLaid Tryd.prog 14 os).forCall (fun _ _ => 0) ⟨#[], args, []⟩).memory :=
  laidMetH_of_parts3 (fuel := 65) (laidMet_of_run' 65 (by kernel_rfl) (by kernel_rfl)) (by kernel_rfl) (by kernel_rfl)

end Go.Proofs.YtpjckjggmcijjabDoor
