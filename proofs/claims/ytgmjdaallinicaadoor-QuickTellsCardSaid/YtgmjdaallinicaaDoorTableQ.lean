/-
  The listed table of quick's rows, and a world for the rows' witness.
-/
import Derived.Test.YtgmjdaallinicaaDoorRow
import Derived.Test.YtgmjdaallinicaaDoorQa
namespace Go.Proofs.YtgmjdaallinicaaDoor
open Go.ChangeShapes Go.WideShapes Go.ChangeAt Go.RowKit
namespace Nt

theorem debG : Tryd.prog.globalNamed "math/bits.deBruijn64tab" = some 1 := by kernel_rfl
theorem debTy : (Tryd.prog.globals[1]?).map (·.type) = some 79 := by kernel_rfl
theorem cellsB : Tryd.prog.cellsOf 5 = 1 := by kernel_rfl
theorem cells64 : Tryd.prog.cellsOf 79 = 64 := by kernel_rfl

set_option maxRecDepth 100000 in
theorem deb_is {W : World} (h : laidMetH Tryd.prog Rows.quickTellsRow.laid W) : Lib.TabIs Tryd.prog W "math/bits.deBruijn64tab" .u8 (Lib.deBruijn64tab.map fun (n : Nat) => (n : Int)) := by
  rw [MakeChecks.laidMetH_plain _ _ _ (by kernel_rfl)] at h
  exact Lib.tabIs_of_head debG debTy Tryd.underlying79 Tryd.underlying5 cellsB cells64 h
theorem deb_laid {W : World} (h : laidMetH Tryd.prog Rows.quickTellsRow.laid W) : DeB W := fun j hj => by
  have := (deb_is h).cell debG j (by rw [List.length_map]; exact hj)
  rw [this]
  congr 2
  rw [List.getD_eq_getElem?_getD, List.getD_eq_getElem?_getD, List.getElem?_map, List.getElem?_eq_getElem hj]
  rfl

/-- A world for the witness. -/
noncomputable def lw (os : Os) : World := World.laidAll Tryd.prog os Rows.quickTellsRow.laid
theorem lw_met (os : Os) (args : Array Value) : laidMet Tryd.prog Rows.quickTellsRow.laid ((lw os).forCall (fun _ _ => 0) ⟨#[], args, []⟩).memory :=
  laidMet_laidAll args (by kernel_rfl) (by kernel_rfl)
end Nt
end Go.Proofs.YtgmjdaallinicaaDoor
