
/-
  nat.Of, nat.Bits, the reference's OfNat, BitsNat; nat.Mul at whatever rows; the law's own small functions.
-/
import Derived.Test.YtgimmmmpollkhaaGreatNRefMul
import Derived.Test.YtgimmmmpollkhaaGreatNMul
import Derived.Test.YtgimmmmpollkhaaGreatNWord
import Derived.Test.YtgimmmmpollkhaaGreatNDivide
namespace Go.Proofs.YtgimmmmpollkhaaGreat

open Go.RowKit

namespace Nt

theorem of_any (n : Nat) (hn : 0 < n) (hm : n ≤ 9223372036854775807) (w : World) :
    Calls Tryz.prog 136 #[.int .i64 (n : Int)] w (Mk w [n]) := by
  go_enter Tryz.func136, Tryz.ntmps136
  go_wp2
  go_ret
  exact Mk.intro ((Row.litW w n (Nat.le_refl _)).row rfl) ((Below.refl _ _).alloc (Nat.le_refl _) _) rfl
theorem of_no (z : Int) (hz : z ≤ 0) (w : World) :
    Calls Tryz.prog 136 #[.int .i64 z] w (Mk w []) := by
  go_enter Tryz.func136, Tryz.ntmps136
  go_wp2
  go_ret
  exact Mk.intro (Row.nil _ _) (.refl _ _) rfl
end Nt

end Go.Proofs.YtgimmmmpollkhaaGreat
