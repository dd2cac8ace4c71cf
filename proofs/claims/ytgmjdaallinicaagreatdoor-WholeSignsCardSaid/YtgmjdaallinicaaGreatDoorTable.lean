/-
  The listed table, and a world for the rows' witness.
-/
import Derived.Test.YtgmjdaallinicaaGreatDoorRow
namespace Go.Proofs.YtgmjdaallinicaaGreatDoor
open Go.ChangeShapes Go.WideShapes Go.ChangeAt Go.RowKit
namespace Nt

theorem powTy : (Tryz.prog.globals[4]?).map (·.type) = some 145 := by kernel_rfl
theorem cellsA : Tryz.prog.cellsOf 145 = 20 := by kernel_rfl

set_option maxRecDepth 100000 in
theorem pow_laid {W : World} (h : laidMetH Tryz.prog Rows.wholeIntsRow.laid W) : Pow10 W := by
  rw [MakeChecks.laidMetH_plain _ _ _ (by kernel_rfl)] at h
  exact Lib.tabIs_of_head powG powTy Tryz.underlying145 Tryz.underlying60 cellsW cellsA (laidMet.tail (laidMet.tail h))

/-- A world for the witness. -/
noncomputable def lw (os : Os) : World := World.laidAll Tryz.prog os Rows.wholeIntsRow.laid
theorem lw_met (os : Os) (args : Array Value) : laidMet Tryz.prog Rows.wholeIntsRow.laid ((lw os).forCall (fun _ _ => 0) ⟨#[], args, []⟩).memory :=
  laidMet_laidAll args (by kernel_rfl) (by kernel_rfl)
end Nt
end Go.Proofs.YtgmjdaallinicaaGreatDoor
