
/-
  The reference's AddNat, SubNat.
-/
import Derived.Test.YthdjjcooekkncaaDoorRefAdd

namespace Go.Proofs.YthdjjcooekkncaaDoor

open Go.RowKit

namespace Nt
set_option maxRecDepth 100000 in
set_option maxHeartbeats 1000000 in
theorem raddNat_any (A B : Option Addr) (c d : Nat) (xs ys : List Nat) (w : World) (hx : Sl w A xs) (hy : Sl w B ys) (lx : Limbs xs) (ly : Limbs ys) (hl : xs.length ≤ 1000) (hl' : ys.length ≤ 1000) :
    Calls Tryd.prog 14 #[.slice A xs.length c, .slice B ys.length d] w (Two w (addSp xs ys)) := by
  have V' := hide (rvalid_any A c xs w hx (by omega))
  have U' := hide (rvalid_any B d ys w hy (by omega))
  rcases vB (xs := xs) with vx | vx
  · rcases vB (xs := ys) with vy | vy
    · have C := hide (radd_any A B c d xs ys w hx hy lx ly (by omega) (by omega) _ rfl)
      have E := hide (addSp_ok vx vy)
      have Z := hide (Nat.le_trans (add_len lx ly hl hl') (show 1000 + 1 ≤ 1000000 by omega))
      by_cases h64 : (digs (val xs + val ys)).length ≤ 64
      · rw [if_pos h64] at E
        go_enter Tryd.func14, Tryd.ntmps14
        go_wp2_with (first
          | (go_at_call 23; (first | with_reducible refine (V'.out).mono ?_ | with_reducible refine (U'.out).mono ?_); rintro e w' ⟨rfl, rfl⟩)
          | (go_at_call 43; (with_reducible refine (C.out).mono ?_); rintro e w1 ⟨A1, c1, rfl, hr1, hb1⟩)
          | (go_at_call 42; (with_reducible refine (rfits_any _ _ _ _ Z.out).mono ?_); rintro e w' ⟨rfl, rfl⟩))
        go_ret2
        exact Two.mk E.out hr1.res hb1
      · rw [if_neg h64] at E
        go_enter Tryd.func14, Tryd.ntmps14
        go_wp2_with (first
          | (go_at_call 23; (first | with_reducible refine (V'.out).mono ?_ | with_reducible refine (U'.out).mono ?_); rintro e w' ⟨rfl, rfl⟩)
          | (go_at_call 43; (with_reducible refine (C.out).mono ?_); rintro e w1 ⟨A1, c1, rfl, hr1, hb1⟩)
          | (go_at_call 42; (with_reducible refine (rfits_any _ _ _ _ Z.out).mono ?_); rintro e w' ⟨rfl, rfl⟩))
        go_ret2
        exact Two.mk E.out (.nil _) hb1
    · have E := hide (addSp_no (xs := xs) (.inr vy))
      go_enter Tryd.func14, Tryd.ntmps14
      go_wp2_with (go_at_call 23; (first | with_reducible refine (V'.out).mono ?_ | with_reducible refine (U'.out).mono ?_); rintro e w' ⟨rfl, rfl⟩)
      go_ret2
      exact Two.mk E.out (.nil _) (.refl _ _)
  · have E := hide (addSp_no (ys := ys) (.inl vx))
    go_enter Tryd.func14, Tryd.ntmps14
    go_wp2_with (go_at_call 23; (first | with_reducible refine (V'.out).mono ?_ | with_reducible refine (U'.out).mono ?_); rintro e w' ⟨rfl, rfl⟩)
    go_ret2
    exact Two.mk E.out (.nil _) (.refl _ _)

set_option maxRecDepth 100000 in
set_option maxHeartbeats 1000000 in
theorem rsubNat_any (A B : Option Addr) (c d : Nat) (xs ys : List Nat) (w : World) (hx : Sl w A xs) (hy : Sl w B ys) (lx : Limbs xs) (ly : Limbs ys) (hl : xs.length ≤ 1000) (hl' : ys.length ≤ 1000) :
    Calls Tryd.prog 16 #[.slice A xs.length c, .slice B ys.length d] w (Two w (subSp xs ys)) := by
  have V' := hide (rvalid_any A c xs w hx (by omega))
  have U' := hide (rvalid_any B d ys w hy (by omega))
  rcases vB (xs := xs) with vx | vx
  · rcases vB (xs := ys) with vy | vy
    · have Q := hide (rcmp_any A B c d xs ys w hx hy lx ly (validB_iff.1 vx).2 (validB_iff.1 vy).2 (by omega) (by omega))
      by_cases hlt : val xs < val ys
      · have E := hide (subSp_less vx vy hlt)
        rw [cmpN_lt hlt] at Q
        go_enter Tryd.func16, Tryd.ntmps16
        go_wp2_with (first
          | (go_at_call 23; (first | with_reducible refine (V'.out).mono ?_ | with_reducible refine (U'.out).mono ?_); rintro e w' ⟨rfl, rfl⟩)
          | (go_at_call 46; (with_reducible refine (Q.out).mono ?_); rintro e w1 ⟨rfl, q0, rfl⟩))
        go_ret2
        exact Two.mk E.out (.nil _) (Below.drewN' (.refl _ _) _)
      · have hle : val ys ≤ val xs := by omega
        have E := hide (subSp_ok vx vy hle)
        have hz : 0 ≤ cmpN (val xs) (val ys) := by
          unfold cmpN
          rw [if_neg hlt]
          split <;> omega
        have S := hide (fun q => rsub_any A B c d xs ys (w.drewN q) hx hy lx ly (by omega) (len_le_of_val lx (validB_iff.1 vy).2 hle) hle)
        clear hlt hle
        generalize cmpN (val xs) (val ys) = z at *
        go_enter Tryd.func16, Tryd.ntmps16
        go_wp2_with (first
          | (go_at_call 23; (first | with_reducible refine (V'.out).mono ?_ | with_reducible refine (U'.out).mono ?_); rintro e w' ⟨rfl, rfl⟩)
          | (go_at_call 46; (with_reducible refine (Q.out).mono ?_); rintro e w1 ⟨rfl, q0, rfl⟩)
          | (go_at_call 47; (with_reducible refine (S.out _).mono ?_); rintro e w1 ⟨A1, c1, rfl, hr1, hb1⟩))
        go_ret2
        exact Two.mk E.out hr1.res ((Below.drewN' (.refl _ _) _).trans hb1)
    · have E := hide (subSp_no (xs := xs) (.inr vy))
      go_enter Tryd.func16, Tryd.ntmps16
      go_wp2_with (go_at_call 23; (first | with_reducible refine (V'.out).mono ?_ | with_reducible refine (U'.out).mono ?_); rintro e w' ⟨rfl, rfl⟩)
      go_ret2
      exact Two.mk E.out (.nil _) (.refl _ _)
  · have E := hide (subSp_no (ys := ys) (.inl vx))
    go_enter Tryd.func16, Tryd.ntmps16
    go_wp2_with (go_at_call 23; (first | with_reducible refine (V'.out).mono ?_ | with_reducible refine (U'.out).mono ?_); rintro e w' ⟨rfl, rfl⟩)
    go_ret2
    exact Two.mk E.out (.nil _) (.refl _ _)
end Nt

end Go.Proofs.YthdjjcooekkncaaDoor
