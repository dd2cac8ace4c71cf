/-
  Plain mathematics: a quotient's limb, guessed from the highest limbs.
-/
import Derived.Test.YtgedkghifefjaaaDoorMem
namespace Go.Proofs.YtgedkghifefjaaaDoor
open Go.RowKit
namespace Nt

/-- Three limbs by two: the limb, or one more. -/
theorem guess_main {R V P r b g : Nat} (hP : 0 < P) (h1 : R * P ≤ r) (h2 : r < (R + 1) * P) (h3 : V * P ≤ b) (h4 : b < (V + 1) * P) (hV : 0 < V) (hg : g = R / V) (hgV : g ≤ V + 1) :
    r / b ≤ g ∧ g ≤ r / b + 1 := by
  have hb : 0 < b := Nat.lt_of_lt_of_le (Nat.mul_pos hV hP) h3
  constructor
  · have q1 : r / b * b ≤ r := Nat.div_mul_le_self r b
    have q2 : r / b * (V * P) ≤ r / b * b := Nat.mul_le_mul_left _ h3
    have q3 : (r / b * V) * P < (R + 1) * P := by rw [Nat.mul_assoc]; omega
    have q4 := Nat.lt_of_mul_lt_mul_right q3
    rw [hg]
    exact (Nat.le_div_iff_mul_le hV).2 (by omega)
  · rcases Nat.eq_zero_or_pos g with h0 | h0
    · rw [h0]; exact Nat.zero_le _
    · obtain ⟨k, hk⟩ : ∃ k, g = k + 1 := ⟨g - 1, by omega⟩
      have q1 : g * V ≤ R := by rw [hg]; exact Nat.div_mul_le_self R V
      have q2 : k * (V + 1) ≤ R := by
        rw [hk, Nat.add_mul, Nat.one_mul] at q1
        rw [Nat.mul_add, Nat.mul_one]
        omega
      have q3 : k * b ≤ k * ((V + 1) * P) := Nat.mul_le_mul_left _ (Nat.le_of_lt h4)
      have q4 : k * ((V + 1) * P) ≤ R * P := by rw [← Nat.mul_assoc]; exact Nat.mul_le_mul_right _ q2
      have q5 : k ≤ r / b := (Nat.le_div_iff_mul_le hb).2 (by omega)
      rw [hk]
      exact Nat.succ_le_succ q5
/-- The highest limbs are one: the greatest limb, or one less. -/
theorem guess_top {v P B' R' r b : Nat} (hb : b = v * P + B') (hB : B' < P) (hr : r = v * (LB * P) + R') (hq : r < LB * b) (hv : LB ≤ 2 * v) :
    r / b ≤ LB - 1 ∧ LB - 1 ≤ r / b + 1 := by
  have hP : 0 < P := by omega
  have hL := LB_two
  have hvp : 0 < v := by omega
  have hbp : 0 < b := by have := Nat.mul_pos hvp hP; omega
  constructor
  · have := (Nat.div_lt_iff_lt_mul hbp).2 hq
    omega
  · have e1 : LB * b = v * (LB * P) + LB * B' := by rw [hb, Nat.mul_add, Nat.mul_left_comm]
    have e2 : LB * B' ≤ LB * P := Nat.mul_le_mul_left _ (Nat.le_of_lt hB)
    have e3 : LB * P ≤ 2 * v * P := Nat.mul_le_mul_right _ hv
    have e4 : 2 * v * P ≤ 2 * b := by rw [Nat.mul_assoc]; exact Nat.mul_le_mul_left _ (by omega)
    have e5 : (LB - 2) * b + 2 * b = LB * b := by rw [← Nat.add_mul]; congr 1
    have q5 : LB - 2 ≤ r / b := (Nat.le_div_iff_mul_le hbp).2 (by omega)
    omega
/-- After so many times are taken: whether too many were, and what is left. -/
theorem take_test {M lo rn b g cs bo : Nat} (h : cs + g * b = lo + M * bo) (hcs : cs < M) : bo ≤ rn ↔ g * b ≤ lo + M * rn := by
  constructor
  · intro hle
    have := Nat.mul_le_mul_left M hle
    omega
  · intro hle
    rcases Nat.lt_or_ge rn bo with h1 | h1
    · have := Nat.mul_le_mul_left M h1
      rw [Nat.mul_succ] at this
      omega
    · exact h1
theorem take_left {M lo rn b g cs bo : Nat} (h : cs + g * b = lo + M * bo) (hcs : cs < M) (hb : b ≤ M) (hq : (lo + M * rn) / b = g) (hbp : 0 < b) : cs = (lo + M * rn) % b := by
  have e := Nat.div_add_mod (lo + M * rn) b
  rw [hq, Nat.mul_comm] at e
  have hm := Nat.mod_lt (lo + M * rn) hbp
  have h1 := (take_test h hcs (rn := rn)).2 (by omega)
  have h2 : rn ≤ bo := by
    rcases Nat.lt_or_ge bo rn with h3 | h3
    · have := Nat.mul_le_mul_left M h3
      rw [Nat.mul_succ] at this
      omega
    · exact h3
  have : rn = bo := Nat.le_antisymm h2 h1
  subst this
  omega
theorem give_left {M lo rn b q cs bo cs2 cc : Nat} (h : cs + (q + 1) * b = lo + M * bo) (_hcs : cs < M) (hb : b ≤ M) (hq : (lo + M * rn) / b = q) (hbp : 0 < b) (h2 : cs2 + M * cc = cs + b) (hcs2 : cs2 < M) : cs2 = (lo + M * rn) % b := by
  have e := Nat.div_add_mod (lo + M * rn) b
  rw [hq, Nat.mul_comm] at e
  have hm := Nat.mod_lt (lo + M * rn) hbp
  rw [Nat.add_mul, Nat.one_mul] at h
  have e2 : cs2 + M * cc + M * rn = (lo + M * rn) % b + M * bo := by omega
  have e3 : cs2 + M * (cc + rn) = (lo + M * rn) % b + M * bo := by rw [Nat.mul_add]; omega
  have m1 : (cs2 + M * (cc + rn)) % M = cs2 := by rw [Nat.add_mul_mod_self_left, Nat.mod_eq_of_lt hcs2]
  have m2 : ((lo + M * rn) % b + M * bo) % M = (lo + M * rn) % b := by rw [Nat.add_mul_mod_self_left, Nat.mod_eq_of_lt (by omega)]
  rw [← m1, e3, m2]
end Nt
end Go.Proofs.YtgedkghifefjaaaDoor
