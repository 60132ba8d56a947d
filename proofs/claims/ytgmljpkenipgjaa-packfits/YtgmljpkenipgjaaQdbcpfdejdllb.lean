/-
  lr0: slices.Compact of items.
-/
import Derived.Test.YtgmljpkenipgjaaQdbcepnhobgmb
import Derived.Test.YtgmljpkenipgjaaQjdpgjgiamlcc
import Derived.Deep.AppendSrc
namespace Go.Proofs.Ytgmljpkenipgjaa.J
open Go.RowKit Go.Maps Go.Shelf

attribute [local go_sem] Oper.semAt_some

section
variable {w X Y : World} {g c N k : Nat} {l pre : List It}
end
end Go.Proofs.Ytgmljpkenipgjaa.J
