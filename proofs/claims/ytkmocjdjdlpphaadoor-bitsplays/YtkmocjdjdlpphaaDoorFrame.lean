/-
  What the laws' proofs share: the library's table out of the row's condition; a slice of numbers that came in, as the walks take it.
-/
import Derived.Test.YtkmocjdjdlpphaaDoorRows
import Derived.Test.YtkmocjdjdlpphaaDoorAwake
import Derived.Lib.LaidTab
import Derived.ProofKit
import Derived.LaidMore
import Derived.OpenShut
import Derived.SizedLaws
import Derived.Stop.Joined
import Derived.MakeChecks
namespace Go.Proofs.YtkmocjdjdlpphaaDoor
open Go.ChangeShapes Go.WideShapes Go.ChangeAt Go.RowKit

theorem own : ownKnob Tryd.prog.godebug = none := by kernel_rfl
theorem laidOut : laidOutB Tryd.prog = true := by kernel_rfl
/-- The name of the library's table. -/
def tabName : String := Rows.bitsNothingRow.named.headD ""
theorem gTab : Tryd.prog.globalNamed tabName = some 0 := by kernel_rfl
theorem tTab : (Tryd.prog.globals[0]?).map (·.type) = some 75 := by kernel_rfl
theorem cells5 : Tryd.prog.cellsOf 5 = 1 := by kernel_rfl
theorem cells75 : Tryd.prog.cellsOf 75 = 64 := by kernel_rfl
theorem cells3 : Tryd.prog.cellsOf 3 = 1 := by kernel_rfl
theorem bytes3 : Tryd.prog.bytesOf 3 = 8 := by kernel_rfl

/-- What the rows list. -/
def laid1 : List (String × DataW Unit) := [(tabName, Rows.laid_math_bits_deBruijn64tab)]

theorem tab_is : (Rows.laid_math_bits_deBruijn64tab : DataW Unit) = Lib.tabData .u8 (Lib.deBruijn64tab.map (fun z : Nat => (z : Int))) := by kernel_rfl

theorem tab_of_laid {W : World} (h : laidMetH Tryd.prog laid1 W) : Tab W := by
  rw [MakeChecks.laidMetH_plain _ _ _ (by kernel_rfl)] at h
  unfold laid1 at h
  rw [tab_is] at h
  have ht := Lib.tabIs_of_head gTab tTab Tryd.underlying75 Tryd.underlying5 cells5 cells75 h
  intro j hj
  have hl : j < Lib.deBruijn64tab.length := hj
  have hj' : j < (Lib.deBruijn64tab.map (fun z : Nat => (z : Int))).length := by rw [List.length_map]; exact hl
  have := ht.cell gTab j hj'
  rw [this]
  simp [List.getD, hl]

theorem door_met (os : Os) (args : Array Value) : laidMetH Tryd.prog laid1 ((World.doorLaid Tryd.prog 14 os).forCall (fun _ _ => 0) ⟨#[], args, []⟩).memory :=
  laidMetH_of_parts3 (fuel := 65) (laidMet_of_run' 65 (by kernel_rfl) (by kernel_rfl)) (by kernel_rfl) (by kernel_rfl)

theorem heap_pos {W : World} (h : Tab W) : 0 < W.heap.size := World.block_lt_of_cell? W _ (h 0 (by decide))

/-- A slice of numbers that came in, as the walks take it: its elements lie where it leads to. -/
theorem ints_of_open {W : World} {x : Addr} {len cap : Nat} {zs : List Int} (hl : len ≤ cap) (hz : zs.length = cap) (hc : ∀ i, i < zs.length → W.cell? (x.add i) = some (.int .i64 (zs.getD i 0))) :
    IntsAt W (some x) (zs.take len) := by
  by_cases h0 : len = 0
  · subst h0; exact .inl (by simp)
  · obtain ⟨b, off, spot⟩ := x
    have h1 := hc 0 (by omega)
    have hs : spot = none := by simpa [Addr.add] using World.cell?_spot h1
    subst hs
    refine .inr ⟨b, off, rfl, fun i hi => ?_⟩
    have hi' : i < len := by simp at hi; omega
    have h2 := hc i (by omega)
    rw [Addr.add_mid] at h2
    rw [h2]
    congr 2
    simp [List.getD, hi']

end Go.Proofs.YtkmocjdjdlpphaaDoor
