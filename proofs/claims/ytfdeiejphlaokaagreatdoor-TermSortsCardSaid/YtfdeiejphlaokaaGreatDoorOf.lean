
/-
  nat.Of, nat.Bits, the reference's OfNat, BitsNat; nat.Mul at whatever rows; the law's own small functions.
-/
import Derived.Test.YtfdeiejphlaokaaGreatDoorRefMul

import Derived.Test.YtfdeiejphlaokaaGreatDoorMul

import Derived.Test.YtfdeiejphlaokaaGreatDoorWord

import Derived.Test.YtfdeiejphlaokaaGreatDoorDivide

namespace Go.Proofs.YtfdeiejphlaokaaGreatDoor

open Go.RowKit

namespace Nt

/-- nat.Of, as the document says. -/
def ofSp (n : Int) : List Nat := if n ≤ 0 then [] else [n.toNat]
end Nt

end Go.Proofs.YtfdeiejphlaokaaGreatDoor
