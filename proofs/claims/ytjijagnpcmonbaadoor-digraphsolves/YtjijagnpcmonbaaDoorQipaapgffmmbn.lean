/-
  lr0: a row of items, sorted by the library.
-/
import Derived.Test.YtjijagnpcmonbaaDoorQkkakppaacpni
import Derived.Shelf.SlSortCmp.Insertion
import Derived.Shelf.SlGeneric
import Derived.Ground.SlsfProg
import Derived.Sort.OwnSortedInts
namespace Go.Proofs.YtjijagnpcmonbaaDoor
open Go.Shelf Go.RowKit Go.Lib Go.Sort
end Go.Proofs.YtjijagnpcmonbaaDoor

namespace Go.Proofs.YtjijagnpcmonbaaDoor.J
open Go.RowKit Go.Maps Go.Shelf Go.Sort

end Go.Proofs.YtjijagnpcmonbaaDoor.J
