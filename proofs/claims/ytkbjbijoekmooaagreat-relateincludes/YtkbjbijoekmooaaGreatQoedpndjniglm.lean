import Derived.Test.YtkbjbijoekmooaaGreatQghlnladkonmm
import Derived.Test.YtkbjbijoekmooaaGreatQjpehfgaejnmg
import Derived.RangeFuncNested
import Derived.RangeFuncBound
import Derived.RangeFuncCalls
import Derived.RangeFuncLeaves
import Derived.Shelf.Abstract
import Derived.Shelf.RegionOpen
import Derived.OwnWalkIn
import Derived.TacticsInMore
import Derived.LoopNIn
import Derived.LoopIn
import Derived.Maps.AppendAt

/-
  What All does, and what it hands back: going over the members, rising.
-/
namespace Go.Proofs.YtkbjbijoekmooaaGreat.B
open Go.RowKit Go.Shelf

attribute [local go_sem] Oper.semAt_some

end Go.Proofs.YtkbjbijoekmooaaGreat.B

/-
  What Members does.
-/
namespace Go.Proofs.YtkbjbijoekmooaaGreat.B
open Go.RowKit Go.Shelf

attribute [local go_sem] Oper.semAt_some

end Go.Proofs.YtkbjbijoekmooaaGreat.B
