/-
  relate: what the laws' theorems share.
-/
import Derived.Test.YtkbjbijoekmooaaGreatRows
import Derived.Test.YtkbjbijoekmooaaGreatQkaopmkbgcffg
import Derived.Test.YtkbjbijoekmooaaGreatQcddoelpcldbe
namespace Go.Proofs.YtkbjbijoekmooaaGreat.J
open Go.ChangeShapes Go.WideShapes Go.ChangeAt Go.RowKit Go.Deep

theorem own : ownKnob Tryz.prog.godebug = none := by kernel_rfl
theorem laidOut : laidOutB Tryz.prog = true := by kernel_rfl

end Go.Proofs.YtkbjbijoekmooaaGreat.J
