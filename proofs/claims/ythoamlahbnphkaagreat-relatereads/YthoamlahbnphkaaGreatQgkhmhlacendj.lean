/-
  relate: what the laws' theorems share.
-/
import Derived.Test.YthoamlahbnphkaaGreatRows
import Derived.Test.YthoamlahbnphkaaGreatQickojagbnjcj
import Derived.Test.YthoamlahbnphkaaGreatQiiljclgdgoml
namespace Go.Proofs.YthoamlahbnphkaaGreat.J
open Go.ChangeShapes Go.WideShapes Go.ChangeAt Go.RowKit Go.Deep

theorem own : ownKnob Tryz.prog.godebug = none := by kernel_rfl
theorem laidOut : laidOutB Tryz.prog = true := by kernel_rfl

end Go.Proofs.YthoamlahbnphkaaGreat.J
