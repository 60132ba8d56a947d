import Derived.Test.YthoamlahbnphkaaGreatQhmbnjaaippci
import Derived.Test.YthoamlahbnphkaaGreatQmhhnjnckfglj
import Derived.RangeFuncNested
import Derived.RangeFuncBound
import Derived.RangeFuncCalls
import Derived.RangeFuncLeaves
import Derived.Shelf.Abstract
import Derived.Shelf.RegionOpen
import Derived.OwnWalkIn
import Derived.TacticsInMore
import Derived.LoopNIn
import Derived.LoopIn
import Derived.Maps.AppendAt

/-
  What All does, and what it hands back: going over the members, rising.
-/
namespace Go.Proofs.YthoamlahbnphkaaGreat.B
open Go.RowKit Go.Shelf

attribute [local go_sem] Oper.semAt_some

end Go.Proofs.YthoamlahbnphkaaGreat.B

/-
  What Members does.
-/
namespace Go.Proofs.YthoamlahbnphkaaGreat.B
open Go.RowKit Go.Shelf

attribute [local go_sem] Oper.semAt_some

end Go.Proofs.YthoamlahbnphkaaGreat.B
