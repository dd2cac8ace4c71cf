
/-
  limbs.Mul, nat.Mul.
-/
import Derived.Test.YtfdeiejphlaokaaGreatDoorSub

import Derived.Test.YtfdeiejphlaokaaGreatDoorMath4

namespace Go.Proofs.YtfdeiejphlaokaaGreatDoor

open Go.RowKit

namespace Nt

/-- What limbs.Mul hands back: the product, or that it has more than 'most' limbs. -/
def Fits (w : World) (most v : Nat) (e : Ending) (w' : World) : Prop :=
  (v < LB ^ most ∧ ∃ g cap, e = .returned (.tuple #[.slice (some ⟨g, 0, none⟩) (digs v).length cap, .bool true]) ∧ Own w' w.heap.size g cap (digs v) ∧ Below w.heap.size w w') ∨
  (LB ^ most ≤ v ∧ e = .returned (.tuple #[.slice none 0 0, .bool false]) ∧ Below w.heap.size w w')
theorem Fits.yes {w w' : World} {most v g n cap : Nat} {xs : List Nat} (h : v < LB ^ most) (e : digs v = xs) (hn : xs.length = n) (ho : Own w' w.heap.size g cap xs) (hb : Below w.heap.size w w') : Fits w most v (.returned (.tuple #[.slice (some ⟨g, 0, none⟩) n cap, .bool true])) w' := by
  subst e hn; exact .inl ⟨h, g, cap, rfl, ho, hb⟩
theorem Fits.no {w w' : World} {most v : Nat} (h : LB ^ most ≤ v) (hb : Below w.heap.size w w') : Fits w most v (.returned (.tuple #[.slice none 0 0, .bool false])) w' := .inr ⟨h, rfl, hb⟩

/-- What holds at a jump to 'tooBig'. -/
def MulBig (most : Nat) (xs ys : List Nat) (w : World) (a' : Act) (w' : World) : Prop :=
  LB ^ most ≤ val xs * val ys ∧ Below w.heap.size w w' ∧ ∃ t0 t1 t2 t3 t4 t5 t6 t7 t8 t9 t10 t11 t12 t13 t14 t15 t16 t17 t18 t19 t20 t21 t22 t23 t24 t25 t26 t27 t28 t29 t30 t31 t32 t33 t34 t35 t36 t37 t38 t39 t40 t41 t42 t43 t44 t45 t46 t47 t48 t49 t50 t51 t52 t53 t54 t55 t56 t57 t58 t59 t60 t61 t62 t63 t64 t65 t66 t67 t68 t69 t70 t71 t72 t73 t74 t75 t76 t77 t78 : Value, a' = { tmps := #[t0, t1, t2, t3, t4, t5, t6, t7, t8, t9, t10, t11, t12, t13, t14, t15, t16, t17, t18, t19, t20, t21, t22, t23, t24, t25, t26, t27, t28, t29, t30, t31, t32, t33, t34, t35, t36, t37, t38, t39, t40, t41, t42, t43, t44, t45, t46, t47, t48, t49, t50, t51, t52, t53, t54, t55, t56, t57, t58, t59, t60, t61, t62, t63, t64, t65, t66, t67, t68, t69, t70, t71, t72, t73, t74, t75, t76, t77, t78], defers := [] }
theorem MulBig.mk {most : Nat} {xs ys : List Nat} {w w' : World} (h : LB ^ most ≤ val xs * val ys) (hb : Below w.heap.size w w') (t0 t1 t2 t3 t4 t5 t6 t7 t8 t9 t10 t11 t12 t13 t14 t15 t16 t17 t18 t19 t20 t21 t22 t23 t24 t25 t26 t27 t28 t29 t30 t31 t32 t33 t34 t35 t36 t37 t38 t39 t40 t41 t42 t43 t44 t45 t46 t47 t48 t49 t50 t51 t52 t53 t54 t55 t56 t57 t58 t59 t60 t61 t62 t63 t64 t65 t66 t67 t68 t69 t70 t71 t72 t73 t74 t75 t76 t77 t78 : Value) : MulBig most xs ys w { tmps := #[t0, t1, t2, t3, t4, t5, t6, t7, t8, t9, t10, t11, t12, t13, t14, t15, t16, t17, t18, t19, t20, t21, t22, t23, t24, t25, t26, t27, t28, t29, t30, t31, t32, t33, t34, t35, t36, t37, t38, t39, t40, t41, t42, t43, t44, t45, t46, t47, t48, t49, t50, t51, t52, t53, t54, t55, t56, t57, t58, t59, t60, t61, t62, t63, t64, t65, t66, t67, t68, t69, t70, t71, t72, t73, t74, t75, t76, t77, t78], defers := [] } w' :=
  ⟨h, hb, _, _, _, _, _, _, _, _, _, _, _, _, _, _, _, _, _, _, _, _, _, _, _, _, _, _, _, _, _, _, _, _, _, _, _, _, _, _, _, _, _, _, _, _, _, _, _, _, _, _, _, _, _, _, _, _, _, _, _, _, _, _, _, _, _, _, _, _, _, _, _, _, _, _, _, _, _, _, _, rfl⟩

end Nt

end Go.Proofs.YtfdeiejphlaokaaGreatDoor
