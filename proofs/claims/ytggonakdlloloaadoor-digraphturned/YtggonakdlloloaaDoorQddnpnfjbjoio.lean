/-
  lr0: a row of items, sorted by the library.
-/
import Derived.Test.YtggonakdlloloaaDoorQimlkachnjomk
import Derived.Shelf.SlSortCmp.Insertion
import Derived.Shelf.SlGeneric
import Derived.Ground.SlsfProg
import Derived.Sort.OwnSortedInts
namespace Go.Proofs.YtggonakdlloloaaDoor
open Go.Shelf Go.RowKit Go.Lib Go.Sort
end Go.Proofs.YtggonakdlloloaaDoor

namespace Go.Proofs.YtggonakdlloloaaDoor.J
open Go.RowKit Go.Maps Go.Shelf Go.Sort

end Go.Proofs.YtggonakdlloloaaDoor.J
