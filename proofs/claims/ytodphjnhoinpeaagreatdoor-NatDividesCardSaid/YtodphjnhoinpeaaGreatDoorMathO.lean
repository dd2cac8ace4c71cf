/-
  Comparisons, and sums that fit, in numbers.
-/
import Derived.Test.YtodphjnhoinpeaaGreatDoorMathB
import Derived.Test.YtodphjnhoinpeaaGreatDoorBl
namespace Go.Proofs.YtodphjnhoinpeaaGreatDoor
open Go.RowKit
namespace Nt

theorem cmpN_neg (a b : Nat) : cmpN a b = -cmpN b a := by
  unfold cmpN
  by_cases h : a < b
  · rw [if_pos h, if_neg (by omega), if_pos h]
  · by_cases h' : b < a
    · rw [if_neg h, if_pos h', if_pos h']; rfl
    · rw [if_neg h, if_neg h', if_neg h', if_neg h]; rfl
theorem cmpN_range (a b : Nat) : cmpN a b = -1 ∨ cmpN a b = 0 ∨ cmpN a b = 1 := by
  unfold cmpN; split
  · exact .inl rfl
  · split
    · exact .inr (.inr rfl)
    · exact .inr (.inl rfl)
theorem cmpN_zero {a b : Nat} : cmpN a b = 0 ↔ a = b := by
  unfold cmpN; split
  · constructor <;> intro h <;> omega
  · split <;> constructor <;> intro h <;> omega
theorem cmpN_nonneg {a b : Nat} : 0 ≤ cmpN a b ↔ b ≤ a := by
  unfold cmpN; split
  · constructor <;> intro h <;> omega
  · split <;> constructor <;> intro h <;> omega
theorem validB_digs {n : Nat} (h : n < LB ^ 64) : validB (digs n) = true := validB_iff.2 ⟨digs_64 h, norm_digs n⟩

/-- A valid row of so many words stays far below the limit. -/
theorem val_lt_pow {xs : List Nat} (l : Limbs xs) {k : Nat} (h : xs.length ≤ k) : val xs < LB ^ k := Nat.lt_of_lt_of_le (val_lt l) (Nat.pow_le_pow_right LB_pos h)
theorem add_lt_64 {xs ys : List Nat} (lx : Limbs xs) (ly : Limbs ys) (h : xs.length ≤ 63) (h' : ys.length ≤ 63) : val xs + val ys < LB ^ 64 := by
  have h1 := val_lt_pow lx h
  have h2 := val_lt_pow ly h'
  have : LB ^ 64 = LB * LB ^ 63 := by rw [Nat.pow_succ, Nat.mul_comm]
  rw [this]
  have := Nat.mul_le_mul_right (LB ^ 63) LB_two
  omega

theorem order_bits {xs ys : List Nat} (lx : Limbs xs) (ly : Limbs ys) (vx : validB xs = true) (vy : validB ys = true) (h : val xs ≤ val ys) : bitsSp xs ≤ bitsSp ys := by
  rw [bits_val lx vx, bits_val ly vy]; exact blen_mono h

end Nt
end Go.Proofs.YtodphjnhoinpeaaGreatDoor
