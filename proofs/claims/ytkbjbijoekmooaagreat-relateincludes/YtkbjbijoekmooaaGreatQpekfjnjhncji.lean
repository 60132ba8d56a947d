import Derived.Test.YtkbjbijoekmooaaGreatRows
import Derived.Test.YtkbjbijoekmooaaGreatQomiadnpfbhoj
import Derived.Test.YtkbjbijoekmooaaGreatQcddoelpcldbe
import Derived.Test.YtkbjbijoekmooaaGreatQicpllkkeeodp

/-
  relate: what the laws' theorems share.
-/
namespace Go.Proofs.YtkbjbijoekmooaaGreat.J
open Go.ChangeShapes Go.WideShapes Go.ChangeAt Go.RowKit Go.Deep

theorem own : ownKnob Tryz.prog.godebug = none := by kernel_rfl
theorem laidOut : laidOutB Tryz.prog = true := by kernel_rfl

end Go.Proofs.YtkbjbijoekmooaaGreat.J

/-
  relate: a number among the arguments.
-/
namespace Go.Proofs.YtkbjbijoekmooaaGreat.J
open Go.ChangeShapes Go.WideShapes Go.ChangeAt Go.RowKit Go.Deep

set_option maxRecDepth 100000 in
theorem open_int {H : Type} {enc : TypeId × Value → H} {W : World} {base : Nat} {v : Value} {d : DataW H} {p : List MemPlace} (hv : Value.okWide Tryz.prog W .any base 3 v) (h : DataW.Trod enc Tryz.prog W 0 (fun _ => true) true 3 v d p) : ∃ z, v = .int .i64 z ∧ (Lit.int .i64 z).wf = true := by
  obtain ⟨z, rfl⟩ := okWide_int Tryz.underlying3 hv
  obtain ⟨fuel, hf⟩ := h
  have hf' : DataW.trod enc Tryz.prog W 0 (fun _ => true) true fuel 3 [.int .i64 z] = some (d, p) := hf
  obtain ⟨z', e, h2⟩ := DataW.trod_int Tryz.underlying3 hf'
  simp only [List.cons.injEq, Value.int.injEq, and_true, true_and] at e
  subst e
  exact ⟨z, rfl, h2.2⟩

end Go.Proofs.YtkbjbijoekmooaaGreat.J
