
/-
  strconv.FormatUint at base 10.
-/
import Derived.Test.YtgimmmmpollkhaaGreatParse2

import Derived.Lib.AppendIntMem

import Derived.Lib.Hide

namespace Go.Proofs.YtgimmmmpollkhaaGreat

open Go.RowKit Go.Shelf Go.Sort Go.Lib

namespace Nt

/-- The table of strconv's powers of ten reads as it should. -/
def Pow10 (w : World) : Prop := Lib.TabIs Tryz.prog w "internal/strconv.uint64pow10" .u64 Lib.pow10Tab

theorem putRow_below {B : Nat} {a : World} (w : World) (enc : UInt8 → Value) (b o : Nat) (dk : Array UInt8) (h : Below B a w) (hb : B ≤ b) : Below B a (putRow enc w b o dk) := by
  refine ⟨h.os, h.tape, h.output, ?_, fun k hk => ?_⟩
  · have := h.size
    simpa [putRow, mapBlock] using this
  · rw [← h.block k hk]
    simp only [putRow, mapBlock, Array.getElem?_modify]
    rw [if_neg (by omega)]

end Nt

end Go.Proofs.YtgimmmmpollkhaaGreat
