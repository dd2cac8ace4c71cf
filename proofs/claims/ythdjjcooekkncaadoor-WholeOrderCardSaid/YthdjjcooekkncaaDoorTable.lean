
/-
  The listed table, and a world for the rows' witness.
-/
import Derived.Test.YthdjjcooekkncaaDoorRow

namespace Go.Proofs.YthdjjcooekkncaaDoor

open Go.ChangeShapes Go.WideShapes Go.ChangeAt Go.RowKit

namespace Nt

theorem powTy : (Tryd.prog.globals[4]?).map (·.type) = some 144 := by kernel_rfl
theorem cellsA : Tryd.prog.cellsOf 144 = 20 := by kernel_rfl

set_option maxRecDepth 100000 in
theorem pow_laid {W : World} (h : laidMetH Tryd.prog Rows.natSumsRow.laid W) : Pow10 W := by
  rw [MakeChecks.laidMetH_plain _ _ _ (by kernel_rfl)] at h
  exact Lib.tabIs_of_head powG powTy Tryd.underlying144 Tryd.underlying40 cellsW cellsA (laidMet.tail (laidMet.tail h))

/-- A world for the witness. -/
noncomputable def lw (os : Os) : World := World.laidAll Tryd.prog os Rows.natSumsRow.laid
theorem lw_met (os : Os) (args : Array Value) : laidMet Tryd.prog Rows.natSumsRow.laid ((lw os).forCall (fun _ _ => 0) ⟨#[], args, []⟩).memory :=
  laidMet_laidAll args (by kernel_rfl) (by kernel_rfl)
end Nt

end Go.Proofs.YthdjjcooekkncaaDoor
