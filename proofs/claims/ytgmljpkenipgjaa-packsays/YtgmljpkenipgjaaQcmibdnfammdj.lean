/-
  lr0: a row of items, sorted by the library.
-/
import Derived.Test.YtgmljpkenipgjaaQplpfaflkgkgg
import Derived.Shelf.SlSortCmp.Insertion
import Derived.Shelf.SlGeneric
import Derived.Ground.SlsfProg
import Derived.Sort.OwnSortedInts
namespace Go.Proofs.Ytgmljpkenipgjaa
open Go.Shelf Go.RowKit Go.Lib Go.Sort
end Go.Proofs.Ytgmljpkenipgjaa

namespace Go.Proofs.Ytgmljpkenipgjaa.J
open Go.RowKit Go.Maps Go.Shelf Go.Sort

end Go.Proofs.Ytgmljpkenipgjaa.J
