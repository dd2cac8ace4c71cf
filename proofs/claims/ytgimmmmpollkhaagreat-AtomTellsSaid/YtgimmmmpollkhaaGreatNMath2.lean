
/-
  Plain mathematics: comparing two rows from the top.
-/
import Derived.Test.YtgimmmmpollkhaaGreatNMath1
namespace Go.Proofs.YtgimmmmpollkhaaGreat

namespace Nt

def cmpN (a b : Nat) : Int := if a < b then -1 else if b < a then 1 else 0

theorem val_split {xs : List Nat} {k : Nat} (h : k < xs.length) : val xs = val (xs.take k) + LB ^ k * (lim xs k + LB * val (xs.drop (k + 1))) := by
  have e : xs = xs.take k ++ (lim xs k :: xs.drop (k + 1)) := by
    rw [lim_some h, List.getElem_cons_drop, List.take_append_drop]
  have : val xs = val (xs.take k ++ (lim xs k :: xs.drop (k + 1))) := congrArg val e
  rw [this, val_append, val_cons, List.length_take, Nat.min_eq_left (by omega)]

theorem lt_of_top {xs ys : List Nat} {k : Nat} (lx : Limbs xs) (hx : k < xs.length) (hy : k < ys.length) (hd : xs.drop (k + 1) = ys.drop (k + 1)) (h : lim xs k < lim ys k) : val xs < val ys := by
  rw [val_split hx, val_split hy, hd]
  have h1 := val_lt (lx.take k)
  rw [List.length_take, Nat.min_eq_left (by omega)] at h1
  have h2 : LB ^ k * (lim xs k + LB * val (ys.drop (k + 1)) + 1) ≤ LB ^ k * (lim ys k + LB * val (ys.drop (k + 1))) := Nat.mul_le_mul_left _ (by omega)
  rw [Nat.mul_add _ _ 1, Nat.mul_one] at h2
  omega

theorem drop_step {xs ys : List Nat} {k : Nat} (hx : k < xs.length) (hy : k < ys.length) (hd : xs.drop (k + 1) = ys.drop (k + 1)) (h : lim xs k = lim ys k) : xs.drop k = ys.drop k := by
  rw [← List.getElem_cons_drop (h := hx), ← List.getElem_cons_drop (h := hy), hd, ← lim_some hx, ← lim_some hy, h]

theorem cmpN_lt {a b : Nat} (h : a < b) : cmpN a b = -1 := by unfold cmpN; rw [if_pos h]
theorem cmpN_gt {a b : Nat} (h : b < a) : cmpN a b = 1 := by unfold cmpN; rw [if_neg (by omega), if_pos h]
theorem cmpN_eq {a : Nat} : cmpN a a = 0 := by unfold cmpN; rw [if_neg (by omega), if_neg (by omega)]

end Nt

end Go.Proofs.YtgimmmmpollkhaaGreat
