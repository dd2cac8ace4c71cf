
/-
  How many binary digits a number has.
-/
import Derived.Test.YtgimmmmpollkhaaGreatNOf
namespace Go.Proofs.YtgimmmmpollkhaaGreat

open Go.RowKit

namespace Nt

theorem len_spec (x : Nat) : x ≠ 0 → x < 2 ^ 64 → 1 ≤ Lib.bitLen x ∧ 2 ^ (Lib.bitLen x - 1) ≤ x ∧ x < 2 ^ Lib.bitLen x := by
  induction x using Nat.strongRecOn with
  | ind x ih =>
    intro h0 hx
    by_cases h1 : x = 1
    · subst h1; decide
    · obtain ⟨i1, i2, i3⟩ := ih (x / 2) (by omega) (by omega) (by omega)
      rw [Lib.bitLen_half x h0 hx]
      generalize Lib.bitLen (x / 2) = b at *
      obtain ⟨k, rfl⟩ : ∃ k, b = k + 1 := ⟨b - 1, by omega⟩
      rw [show 1 + (k + 1) - 1 = k + 1 by omega, show 1 + (k + 1) = k + 1 + 1 by omega]
      rw [Nat.add_sub_cancel] at i2
      rw [Nat.pow_succ 2 (k + 1)]
      rw [Nat.pow_succ] at *
      omega
theorem LB_two_pow (k : Nat) : LB ^ k = 2 ^ (64 * k) := by rw [Nat.pow_mul]; rfl

def blen (n : Nat) : Nat := if n = 0 then 0 else Nat.log2 n + 1
theorem blen_zero : blen 0 = 0 := rfl
theorem blen_of {n b : Nat} (h1 : 2 ^ b ≤ n) (h2 : n < 2 ^ (b + 1)) : blen n = b + 1 := by
  have h0 : n ≠ 0 := by have := Nat.two_pow_pos b; omega
  unfold blen
  rw [if_neg h0]
  have a1 := (Nat.le_log2 h0).2 h1
  have a2 := (Nat.log2_lt h0).2 h2
  omega
theorem blen_lo {n : Nat} (h0 : n ≠ 0) : 1 ≤ blen n ∧ 2 ^ (blen n - 1) ≤ n := by
  unfold blen
  rw [if_neg h0]
  exact ⟨by omega, (Nat.le_log2 h0).1 (by omega)⟩
theorem blen_hi (n : Nat) : n < 2 ^ blen n := by
  unfold blen
  split
  · rename_i h; subst h; decide
  · rename_i h; exact (Nat.log2_lt h).1 (by omega)
theorem blen_mono {a b : Nat} (h : a ≤ b) : blen a ≤ blen b := by
  by_cases h0 : a = 0
  · subst h0; rw [blen_zero]; omega
  · obtain ⟨h1, h2⟩ := blen_lo h0
    have h3 := blen_hi b
    have := (Nat.pow_lt_pow_iff_right (a := 2) (by decide)).1 (Nat.lt_of_le_of_lt (Nat.le_trans h2 h) h3)
    omega
theorem blen_le_iff {n k : Nat} : blen n ≤ k ↔ n < 2 ^ k := by
  constructor
  · intro h
    exact Nat.lt_of_lt_of_le (blen_hi n) (Nat.pow_le_pow_right (by decide) h)
  · intro h
    by_cases h0 : n = 0
    · subst h0; rw [blen_zero]; omega
    · obtain ⟨h1, h2⟩ := blen_lo h0
      have := (Nat.pow_lt_pow_iff_right (a := 2) (by decide)).1 (Nat.lt_of_le_of_lt h2 h)
      omega

def rbitsSp (xs : List Nat) : Nat := if xs = [] then 0 else 64 * (xs.length - 1) + lenW (lim xs (xs.length - 1))
theorem rbits_val {xs : List Nat} (l : Limbs xs) (n : Norm xs) : rbitsSp xs = blen (val xs) := by
  by_cases h : xs = []
  · subst h; rfl
  · obtain ⟨ys, y, rfl⟩ := exists_snoc h
    have hy : y ≠ 0 := (norm_snoc ys y).1 n
    have hyL : y < LB := (l.right).head
    have hv := val_lt l.left
    unfold rbitsSp
    rw [if_neg h]
    have hlast : lim (ys ++ [y]) ((ys ++ [y]).length - 1) = y := by
      rw [List.length_append]
      exact lim_append_right (i := 0)
    rw [hlast, List.length_append, val_append, val_one]
    simp only [List.length_singleton, Nat.add_sub_cancel]
    obtain ⟨s1, s2, s3⟩ := len_spec y hy hyL
    unfold lenW
    generalize Lib.bitLen y = b at *
    rw [LB_two_pow] at *
    obtain ⟨c, rfl⟩ : ∃ c, b = c + 1 := ⟨b - 1, by omega⟩
    rw [Nat.add_sub_cancel] at s2
    rw [← Nat.add_assoc]
    symm
    apply blen_of
    · rw [Nat.pow_add]
      exact Nat.le_trans (Nat.mul_le_mul_left _ s2) (Nat.le_add_left _ _)
    · rw [Nat.add_assoc, Nat.pow_add]
      generalize 2 ^ (64 * ys.length) = P at *
      have : P * (y + 1) ≤ P * 2 ^ (c + 1) := Nat.mul_le_mul_left _ s3
      rw [Nat.mul_add, Nat.mul_one] at this
      omega
end Nt

end Go.Proofs.YtgimmmmpollkhaaGreat
