
/-
  The reference's mul, MulNat.
-/
import Derived.Test.YtfdeiejphlaokaaGreatDoorRefAdd

import Derived.Test.YtfdeiejphlaokaaGreatDoorMath4

namespace Go.Proofs.YtfdeiejphlaokaaGreatDoor

open Go.RowKit

namespace Nt

theorem quiet_left {P : Program} {f : FuncId} {args : Array Value} {w : World} {n : Nat} {v : Value}
    (h : Calls P f args (w.drewN n) fun e w' => e = .returned v ∧ w.drewN n = w') : Calls P f args (w.drewN n) fun e w' => e = .returned v ∧ ∃ m, w' = w.drewN m :=
  h.mono fun _ _ ⟨he, hm⟩ => ⟨he, n, hm.symm⟩

end Nt

end Go.Proofs.YtfdeiejphlaokaaGreatDoor
