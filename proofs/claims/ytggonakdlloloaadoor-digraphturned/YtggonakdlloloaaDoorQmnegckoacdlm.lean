/-
  lr0: slices.Compact of items.
-/
import Derived.Test.YtggonakdlloloaaDoorQimlkachnjomk
import Derived.Test.YtggonakdlloloaaDoorQjhfkgfiahkcd
import Derived.Deep.AppendSrc
namespace Go.Proofs.YtggonakdlloloaaDoor.J
open Go.RowKit Go.Maps Go.Shelf

attribute [local go_sem] Oper.semAt_some

section
variable {w X Y : World} {g c N k : Nat} {l pre : List It}
end
end Go.Proofs.YtggonakdlloloaaDoor.J
