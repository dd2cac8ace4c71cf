/-
  The library's contracts at this translation: searching a text for one byte, trimming it on the right.
-/
import Derived.Shelf.Strings.Search2
import Derived.Shelf.Strings.Trim
import Derived.Test.YthdjjcooekkncaaDoorShelf
namespace Go.Proofs
open Go.Shelf
end Go.Proofs
