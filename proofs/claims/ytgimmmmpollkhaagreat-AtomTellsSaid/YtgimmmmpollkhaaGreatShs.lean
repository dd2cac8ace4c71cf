/-
  The library's contracts at this translation: strings.Compare, Clone, bits.Len.
-/
import Derived.Shelf.Small.Bits
import Derived.Shelf.Small.Wraps
import Derived.Shelf.Strconv.Itoa0
import Derived.Shelf.Bits.Mul64
import Derived.Ground.SlgnProg
import Derived.Shelf.SlicesE.Clone
import Derived.Test.YtgimmmmpollkhaaGreatProg
namespace Go.Proofs
open Go.Shelf
end Go.Proofs
