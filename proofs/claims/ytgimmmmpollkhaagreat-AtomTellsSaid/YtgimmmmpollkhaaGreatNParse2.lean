
/-
  nat.Parse.
-/
import Derived.Test.YtgimmmmpollkhaaGreatNParse
namespace Go.Proofs.YtgimmmmpollkhaaGreat

open Go.RowKit Go.Shelf

namespace Nt

theorem i64_rem (t : TypeId) (x y : Nat) (hy : 0 < y) : binOp .rem t (.int .i64 (x : Int)) (.int .i64 (y : Int)) = pure (.int .i64 ((x % y : Nat) : Int)) := by
  show Op.intDiv .rem .i64 (x : Int) (y : Int) = _
  unfold Op.intDiv
  rw [if_neg (by omega)]
  rw [IntWalk.rem_in _ _ (by omega)]; simp
theorem i64_sub (t : TypeId) (x y z : Nat) (h : z + y = x) (hx : x ≤ 9223372036854775807) : binOp .sub t (.int .i64 (x : Int)) (.int .i64 (y : Int)) = pure (.int .i64 (z : Int)) := by
  have e : IntKind.i64.wrap ((x : Int) - (y : Int)) = (z : Int) := by rw [IntWalk.i64_in _ ⟨by omega, by omega⟩]; omega
  rw [← e]; rfl
theorem i64_quo (t : TypeId) (x y : Nat) (hx : x ≤ 9223372036854775807) (hy : 0 < y) : binOp .quo t (.int .i64 (x : Int)) (.int .i64 (y : Int)) = pure (.int .i64 ((x / y : Nat) : Int)) := by
  show Op.intDiv .quo .i64 (x : Int) (y : Int) = _
  unfold Op.intDiv
  rw [if_neg (by omega)]
  simp only []
  rw [IntWalk.i64_quo _ _ ⟨by omega, by omega, by omega⟩]; simp

end Nt

end Go.Proofs.YtgimmmmpollkhaaGreat
