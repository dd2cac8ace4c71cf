
/-
  The reference's MulNat.
-/
import Derived.Test.YthdjjcooekkncaaDoorRefMul

namespace Go.Proofs.YthdjjcooekkncaaDoor

open Go.RowKit

namespace Nt
set_option maxRecDepth 100000 in
set_option maxHeartbeats 1000000 in
theorem rmulNat_any (A B : Option Addr) (c d : Nat) (xs ys : List Nat) (w : World) (hx : Sl w A xs) (hy : Sl w B ys) (lx : Limbs xs) (ly : Limbs ys) (hl : xs.length ≤ 1000) (hl' : ys.length ≤ 1000) :
    Calls Tryd.prog 18 #[.slice A xs.length c, .slice B ys.length d] w (Two w (mulSp xs ys)) := by
  have V' := hide (rvalid_any A c xs w hx (by omega))
  have U' := hide (rvalid_any B d ys w hy (by omega))
  rcases vB (xs := xs) with vx | vx
  · rcases vB (xs := ys) with vy | vy
    · have C := hide (rmul_any A B c d xs ys w hx hy lx ly (by omega) (by omega) _ rfl)
      have E := hide (mulSp_ok vx vy)
      have Z := hide (Nat.le_trans (mul_len lx ly) (show xs.length + ys.length ≤ 1000000 by omega))
      by_cases h64 : (digs (val xs * val ys)).length ≤ 64
      · rw [if_pos h64] at E
        go_enter Tryd.func18, Tryd.ntmps18
        go_wp2_with (first
          | (go_at_call 23; (first | with_reducible refine (V'.out).mono ?_ | with_reducible refine (U'.out).mono ?_); rintro e w' ⟨rfl, rfl⟩)
          | (go_at_call 49; (with_reducible refine (C.out).mono ?_); rintro e w1 ⟨A1, c1, rfl, hr1, hb1⟩)
          | (go_at_call 42; (with_reducible refine (rfits_any _ _ _ _ Z.out).mono ?_); rintro e w' ⟨rfl, rfl⟩))
        go_ret2
        exact Two.mk E.out hr1.res hb1
      · rw [if_neg h64] at E
        go_enter Tryd.func18, Tryd.ntmps18
        go_wp2_with (first
          | (go_at_call 23; (first | with_reducible refine (V'.out).mono ?_ | with_reducible refine (U'.out).mono ?_); rintro e w' ⟨rfl, rfl⟩)
          | (go_at_call 49; (with_reducible refine (C.out).mono ?_); rintro e w1 ⟨A1, c1, rfl, hr1, hb1⟩)
          | (go_at_call 42; (with_reducible refine (rfits_any _ _ _ _ Z.out).mono ?_); rintro e w' ⟨rfl, rfl⟩))
        go_ret2
        exact Two.mk E.out (.nil _) hb1
    · have E := hide (mulSp_no (xs := xs) (.inr vy))
      go_enter Tryd.func18, Tryd.ntmps18
      go_wp2_with (go_at_call 23; (first | with_reducible refine (V'.out).mono ?_ | with_reducible refine (U'.out).mono ?_); rintro e w' ⟨rfl, rfl⟩)
      go_ret2
      exact Two.mk E.out (.nil _) (.refl _ _)
  · have E := hide (mulSp_no (ys := ys) (.inl vx))
    go_enter Tryd.func18, Tryd.ntmps18
    go_wp2_with (go_at_call 23; (first | with_reducible refine (V'.out).mono ?_ | with_reducible refine (U'.out).mono ?_); rintro e w' ⟨rfl, rfl⟩)
    go_ret2
    exact Two.mk E.out (.nil _) (.refl _ _)
end Nt

end Go.Proofs.YthdjjcooekkncaaDoor
