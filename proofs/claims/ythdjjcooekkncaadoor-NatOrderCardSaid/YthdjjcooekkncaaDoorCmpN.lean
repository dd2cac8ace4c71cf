
/-
  The reference's CmpNat.
-/
import Derived.Test.YthdjjcooekkncaaDoorCmp

namespace Go.Proofs.YthdjjcooekkncaaDoor

open Go.RowKit

namespace Nt
set_option maxRecDepth 100000 in
set_option maxHeartbeats 400000 in
/-- The reference's CmpNat. -/
theorem rcmpNat_any (A B : Option Addr) (c d : Nat) (xs ys : List Nat) (w : World) (hx : Sl w A xs) (hy : Sl w B ys) (lx : Limbs xs) (ly : Limbs ys) (hl : xs.length ≤ 1000000) (hl' : ys.length ≤ 1000000) :
    Calls Tryd.prog 21 #[.slice A xs.length c, .slice B ys.length d] w (Quiet w (.int .i64 (cmpSp xs ys))) := by
  have V' := hide (rvalid_any A c xs w hx (by omega))
  have U' := hide (rvalid_any B d ys w hy (by omega))
  by_cases vx : validB xs = true
  · by_cases vy : validB ys = true
    · have E := hide (show cmpSp xs ys = cmpN (val xs) (val ys) by unfold cmpSp; rw [vx, vy]; rfl)
      have C := hide (rcmp_any A B c d xs ys w hx hy lx ly (validB_iff.1 vx).2 (validB_iff.1 vy).2 hl hl')
      go_enter Tryd.func21, Tryd.ntmps21
      go_wp2_with (first
        | (go_at_call 23; (first | with_reducible refine (V'.out).mono ?_ | with_reducible refine (U'.out).mono ?_); rintro e w' ⟨rfl, rfl⟩)
        | (go_at_call 46; (with_reducible refine (C.out).mono ?_); rintro e w' ⟨rfl, q, rfl⟩))
      go_ret
      exact ⟨ret_one E.out.symm, q, rfl⟩
    · have vy' : validB ys = false := by simpa using vy
      have E := hide (show cmpSp xs ys = 0 by unfold cmpSp; simp [vy'])
      clear vy
      go_enter Tryd.func21, Tryd.ntmps21
      go_wp2_with (go_at_call 23; (first | with_reducible refine (V'.out).mono ?_ | with_reducible refine (U'.out).mono ?_); rintro e w' ⟨rfl, rfl⟩)
      go_ret
      exact ⟨ret_one E.out.symm, 0, rfl⟩
  · have vx' : validB xs = false := by simpa using vx
    have E := hide (show cmpSp xs ys = 0 by unfold cmpSp; simp [vx'])
    clear vx
    go_enter Tryd.func21, Tryd.ntmps21
    go_wp2_with (go_at_call 23; (first | with_reducible refine (V'.out).mono ?_ | with_reducible refine (U'.out).mono ?_); rintro e w' ⟨rfl, rfl⟩)
    go_ret
    exact ⟨ret_one E.out.symm, 0, rfl⟩
end Nt

end Go.Proofs.YthdjjcooekkncaaDoor
