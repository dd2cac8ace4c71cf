
/-
  Plain mathematics: numbers by groups of nineteen digits, and their texts.
-/
import Derived.Test.YtgimmmmpollkhaaGreatFmt

namespace Go.Proofs.YtgimmmmpollkhaaGreat

open Go.RowKit

namespace Nt

/-- A number by groups, the least first; of 0 one 0. -/
def grps (n : Nat) : List Nat := if n < GB then [n] else n % GB :: grps (n / GB)
termination_by n
decreasing_by
  rename_i h
  exact Nat.div_lt_self (by have : 0 < GB := by decide
                            omega) (by decide)
def gval : List Nat → Nat
  | [] => 0
  | x :: xs => x + GB * gval xs
theorem grps_small {n : Nat} (h : n < GB) : grps n = [n] := by rw [grps, if_pos h]
theorem grps_big {n : Nat} (h : ¬ n < GB) : grps n = n % GB :: grps (n / GB) := by rw [grps, if_neg h]
theorem gval_grps (n : Nat) : gval (grps n) = n := by
  induction n using Nat.strongRecOn with
  | _ n ih =>
    have hG : 1 < GB := by decide
    by_cases h : n < GB
    · rw [grps_small h]; simp [gval]
    · rw [grps_big h, gval, ih _ (Nat.div_lt_self (by omega) hG)]
      exact Nat.mod_add_div n GB
theorem grps_lt (n : Nat) : ∀ x ∈ grps n, x < GB := by
  induction n using Nat.strongRecOn with
  | _ n ih =>
    have hG : 1 < GB := by decide
    by_cases h : n < GB
    · rw [grps_small h]; simpa using h
    · rw [grps_big h]
      intro x hx
      rcases List.mem_cons.1 hx with rfl | hx
      · exact Nat.mod_lt _ (by omega)
      · exact ih _ (Nat.div_lt_self (by omega) hG) x hx
theorem grps_ne (n : Nat) : grps n ≠ [] := by
  by_cases h : n < GB
  · rw [grps_small h]; simp
  · rw [grps_big h]; simp
/-- The groups above the first are not all 0, where there are any. -/
theorem grps_drop_pos (n : Nat) : ∀ k, k < (grps n).length → 0 < k → 0 < gval ((grps n).drop k) := by
  induction n using Nat.strongRecOn with
  | _ n ih =>
    intro k hk h0
    have hG : 1 < GB := by decide
    by_cases h : n < GB
    · rw [grps_small h] at hk; simp at hk; omega
    · rw [grps_big h] at hk ⊢
      obtain ⟨j, rfl⟩ : ∃ j, k = j + 1 := ⟨k - 1, by omega⟩
      rw [List.drop_succ_cons]
      rw [List.length_cons] at hk
      by_cases hj : j = 0
      · subst hj
        rw [List.drop_zero, gval_grps]
        exact Nat.div_pos (by omega) (by omega)
      · exact ih _ (Nat.div_lt_self (by omega) hG) j (by omega) (by omega)
theorem grps_limbs (n : Nat) : Limbs (grps n) := fun x hx => Nat.lt_trans (grps_lt n x hx) GB_lt
theorem grps_len {n k : Nat} (h : n < GB ^ (k + 1)) : (grps n).length ≤ k + 1 := by
  induction k generalizing n with
  | zero => rw [grps_small (by simpa using h)]; simp
  | succ k ih =>
    by_cases hs : n < GB
    · rw [grps_small hs]; simp
    · rw [grps_big hs, List.length_cons]
      have : n / GB < GB ^ (k + 1) := by
        rw [Nat.div_lt_iff_lt_mul (by decide)]
        rw [Nat.pow_succ] at h
        exact h
      have := ih this
      omega

def padD : Nat → Nat → List UInt8
  | 0, _ => []
  | k + 1, r => padD k (r / 10) ++ [UInt8.ofNat (48 + r % 10)]
theorem dec_small {u : Nat} (h : u < 10) : Lib.decDigits u = [UInt8.ofNat (48 + u)] := by rw [Lib.decDigits, dif_pos h]
theorem dec_big {u : Nat} (h : ¬ u < 10) : Lib.decDigits u = Lib.decDigits (u / 10) ++ [UInt8.ofNat (48 + u % 10)] := by rw [Lib.decDigits, dif_neg h]
theorem dec_pad (k : Nat) : ∀ q r, 0 < q → r < 10 ^ k → Lib.decDigits (q * 10 ^ k + r) = Lib.decDigits q ++ padD k r := by
  induction k with
  | zero =>
    intro q r _ hr
    have : r = 0 := by simpa using hr
    subst this
    simp [padD]
  | succ k ih =>
    intro q r hq hr
    have e : q * 10 ^ (k + 1) = 10 * (q * 10 ^ k) := by rw [Nat.pow_succ, ← Nat.mul_assoc, Nat.mul_comm]
    have hp : 0 < q * 10 ^ k := Nat.mul_pos hq (Nat.pow_pos (by omega))
    rw [Nat.pow_succ] at hr
    rw [dec_big (by omega), padD, ← List.append_assoc, ← ih q (r / 10) hq (by omega), e]
    rw [show (10 * (q * 10 ^ k) + r) / 10 = q * 10 ^ k + r / 10 by omega, show (10 * (q * 10 ^ k) + r) % 10 = r % 10 by omega]
theorem pad_zero (k : Nat) : padD k 0 = List.replicate k 48 := by
  induction k with
  | zero => rfl
  | succ k ih => rw [padD, Nat.zero_div, ih, List.replicate_succ']; rfl
theorem pad_eq (k : Nat) : ∀ r, r < 10 ^ (k + 1) → padD (k + 1) r = List.replicate (k + 1 - (Lib.decDigits r).length) 48 ++ Lib.decDigits r := by
  induction k with
  | zero =>
    intro r hr
    have : r < 10 := by simpa using hr
    rw [dec_small this, padD, padD, Nat.mod_eq_of_lt this]
    simp
  | succ k ih =>
    intro r hr
    by_cases h : r < 10
    · rw [dec_small h, padD, Nat.div_eq_of_lt h, pad_zero, Nat.mod_eq_of_lt h]
      simp
    · have := ih (r / 10) (by rw [Nat.pow_succ] at hr; omega)
      rw [dec_big h, padD, this, List.length_append, List.length_singleton, List.append_assoc]
      congr 2
      omega
theorem pad_len (k r : Nat) : (padD k r).length = k := by
  induction k generalizing r with
  | zero => rfl
  | succ k ih => rw [padD, List.length_append, ih]; rfl
theorem dec_len_le {r k : Nat} (h : r < 10 ^ (k + 1)) : (Lib.decDigits r).length ≤ k + 1 := by
  induction k generalizing r with
  | zero => rw [dec_small (by simpa using h)]; simp
  | succ k ih =>
    by_cases hs : r < 10
    · rw [dec_small hs]; simp
    · rw [dec_big hs, List.length_append, List.length_singleton]
      have := ih (r := r / 10) (by rw [Nat.pow_succ] at h; omega)
      omega
/-- One group more behind the text. -/
theorem dec_group {q r : Nat} (hq : 0 < q) (hr : r < GB) : Lib.decDigits (r + GB * q) = Lib.decDigits q ++ (List.replicate (19 - (Lib.decDigits r).length) 48 ++ Lib.decDigits r) := by
  have h := dec_pad 19 q r hq hr
  rw [pad_eq 18 r hr] at h
  rw [show r + GB * q = q * 10 ^ 19 + r by rw [GB_pow]; omega]
  exact h
/-- A number's text. -/
def textSp (xs : List Nat) : List UInt8 := if validB xs then Lib.decDigits (val xs) else []
theorem gval_drop {gs : List Nat} {k : Nat} (h : k < gs.length) : gval (gs.drop k) = lim gs k + GB * gval (gs.drop (k + 1)) := by rw [drop_cons_lim h]; rfl
end Nt

end Go.Proofs.YtgimmmmpollkhaaGreat
