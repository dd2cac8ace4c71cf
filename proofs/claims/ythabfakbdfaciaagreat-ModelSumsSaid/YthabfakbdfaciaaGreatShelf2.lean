/-
  The library's contracts at this translation: searching a text for one byte, trimming it on the right.
-/
import Derived.Test.YthabfakbdfaciaaGreatShelf
namespace Go.Proofs
open Go.Shelf
end Go.Proofs
