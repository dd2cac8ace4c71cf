
/-
  nat.Of, nat.Bits, the reference's OfNat, BitsNat; nat.Mul at whatever rows; the law's own small functions.
-/
import Derived.Test.YtgmjdaallinicaaGreatDoorRefMul

import Derived.Test.YtgmjdaallinicaaGreatDoorMul

import Derived.Test.YtgmjdaallinicaaGreatDoorWord

import Derived.Test.YtgmjdaallinicaaGreatDoorDivide

namespace Go.Proofs.YtgmjdaallinicaaGreatDoor

open Go.RowKit

namespace Nt

/-- nat.Of, as the document says. -/
def ofSp (n : Int) : List Nat := if n ≤ 0 then [] else [n.toNat]
theorem of_any (n : Nat) (hn : 0 < n) (hm : n ≤ 9223372036854775807) (w : World) :
    Calls Tryz.prog 18 #[.int .i64 (n : Int)] w (Mk w [n]) := by
  go_enter Tryz.func18, Tryz.ntmps18
  go_wp2
  go_ret
  exact Mk.intro ((Row.litW w n (Nat.le_refl _)).row rfl) ((Below.refl _ _).alloc (Nat.le_refl _) _) rfl
theorem of_no (z : Int) (hz : z ≤ 0) (w : World) :
    Calls Tryz.prog 18 #[.int .i64 z] w (Mk w []) := by
  go_enter Tryz.func18, Tryz.ntmps18
  go_wp2
  go_ret
  exact Mk.intro (Row.nil _ _) (.refl _ _) rfl
set_option maxRecDepth 100000 in
set_option maxHeartbeats 400000 in
theorem mul_any (A B : Option Addr) (c d : Nat) (xs ys : List Nat) (w : World) (hx : Sl w A xs) (hy : Sl w B ys) (lx : Limbs xs) (ly : Limbs ys) (hl : xs.length ≤ 1000000) (hl' : ys.length ≤ 1000000) :
    Calls Tryz.prog 43 #[.slice A xs.length c, .slice B ys.length d] w (Two w (mulSp xs ys)) := by
  have V' := hide (valid_any A c xs w hx (by omega))
  have U' := hide (valid_any B d ys w hy (by omega))
  rcases vB (xs := xs) with vx | vx
  · rcases vB (xs := ys) with vy | vy
    · exact mul_ok A B c d xs ys w hx hy lx ly vx vy
    · have E := hide (mulSp_no (xs := xs) (.inr vy))
      rw [vx] at V'
      rw [vy] at U'
      clear vx vy
      go_enter Tryz.func43, Tryz.ntmps43
      go_wp2_with (go_at_call 15; (first | with_reducible refine (V'.out).mono ?_ | with_reducible refine (U'.out).mono ?_); rintro e w' ⟨rfl, rfl⟩)
      go_ret2
      exact Two.mk E.out (.nil _) (.refl _ _)
  · have E := hide (mulSp_no (ys := ys) (.inl vx))
    rw [vx] at V'
    clear vx
    go_enter Tryz.func43, Tryz.ntmps43
    go_wp2_with (go_at_call 15; (first | with_reducible refine (V'.out).mono ?_ | with_reducible refine (U'.out).mono ?_); rintro e w' ⟨rfl, rfl⟩)
    go_ret2
    exact Two.mk E.out (.nil _) (.refl _ _)

end Nt

end Go.Proofs.YtgmjdaallinicaaGreatDoor
