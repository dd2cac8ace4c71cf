
/-
  nat.Bits; the first law's same.
-/
import Derived.Test.YtgimmmmpollkhaaGreatOf

namespace Go.Proofs.YtgimmmmpollkhaaGreat

open Go.RowKit

namespace Nt
/-- nat.Bits. -/
def bitsSp (xs : List Nat) : Nat := if validB xs = true ∧ xs ≠ [] then 64 * (xs.length - 1) + lenW (lim xs (xs.length - 1)) else 0

end Nt

end Go.Proofs.YtgimmmmpollkhaaGreat
