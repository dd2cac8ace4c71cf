/-
  Plain mathematics: shifts down.
-/
import Derived.Test.YtgedkghifefjaaaDoorMathS
namespace Go.Proofs.YtgedkghifefjaaaDoor
open Go.RowKit
namespace Nt

theorem val_drop_step {xs : List Nat} {k : Nat} : val (xs.drop k) = lim xs k + LB * val (xs.drop (k + 1)) := by
  by_cases h : k < xs.length
  · rw [drop_cons_lim h]; rfl
  · rw [List.drop_of_length_le (by omega), List.drop_of_length_le (by omega), lim_none (by omega)]; rfl
theorem dn_at {x t r s : Nat} (h : r + s = 64) (hx : x < LB) : orW (shrW x r) (shlW t s) = x / 2 ^ r + 2 ^ s * (t % 2 ^ r) := by
  have h' : s + r = 64 := by omega
  rw [shl_form h', or_low _ (shr_lt h' hx)]; rfl
theorem dn_lt {x t r s : Nat} (h : r + s = 64) (hx : x < LB) : orW (shrW x r) (shlW t s) < LB := by
  have h' : s + r = 64 := by omega
  rw [dn_at h hx, LB_split h]
  have h1 : x / 2 ^ r < 2 ^ s := shr_lt h' hx
  have h2 : t % 2 ^ r + 1 ≤ 2 ^ r := Nat.mod_lt _ (Nat.two_pow_pos r)
  have h3 := Nat.mul_le_mul_left (2 ^ s) h2
  rw [Nat.mul_add, Nat.mul_one] at h3
  omega
theorem dn_eq {x t T2 r s : Nat} (h : r + s = 64) (hx : x < LB) : (x + LB * (t + LB * T2)) / 2 ^ r = orW (shrW x r) (shlW t s) + LB * ((t + LB * T2) / 2 ^ r) := by
  rw [dn_at h hx]
  have hm : (t + LB * T2) % 2 ^ r = t % 2 ^ r := by
    rw [LB_split h, Nat.mul_assoc, Nat.mul_left_comm, Nat.add_mul_mod_self_left]
  have e1 : ∀ T, x + LB * T = x + 2 ^ r * (2 ^ s * T) := fun T => by rw [LB_split h, Nat.mul_comm (2 ^ s), Nat.mul_assoc]
  have e4 : ∀ Q, LB * Q = 2 ^ s * (2 ^ r * Q) := fun Q => by rw [LB_split h, Nat.mul_assoc]
  rw [e1, Nat.add_mul_div_left _ _ (Nat.two_pow_pos r)]
  have e2 := Nat.mod_add_div (t + LB * T2) (2 ^ r)
  rw [hm] at e2
  generalize (t + LB * T2) = T at *
  have e3 : 2 ^ s * T = 2 ^ s * (t % 2 ^ r) + LB * (T / 2 ^ r) := by
    rw [e4, ← Nat.mul_add, e2]
  rw [e3]; omega

def DnInv (xs : List Nat) (l r k : Nat) (cs : List Nat) : Prop := cs.length = k ∧ Limbs cs ∧ val cs + LB ^ k * (val (xs.drop (l + k)) / 2 ^ r) = val (xs.drop l) / 2 ^ r
theorem DnInv.zero (xs : List Nat) (l r : Nat) : DnInv xs l r 0 [] := ⟨rfl, .nil, by simp⟩
theorem DnInv.step {xs cs : List Nat} {l r s k : Nat} (lx : Limbs xs) (h : r + s = 64) (d : DnInv xs l r k cs) :
    DnInv xs l r (k + 1) (cs ++ [orW (shrW (lim xs (k + l)) r) (shlW (lim xs (k + l + 1)) s)]) := by
  obtain ⟨h1, h2, h3⟩ := d
  have hx := lx.get (k + l)
  refine ⟨by simp [h1], h2.append (.one (dn_lt h hx)), ?_⟩
  rw [← h3, val_append, val_one, h1]
  rw [val_drop_step (xs := xs) (k := l + k), val_drop_step (xs := xs) (k := l + k + 1), show l + k = k + l by omega, dn_eq h hx, show l + (k + 1) = k + l + 1 by omega, ← val_drop_step]
  rw [Nat.mul_add, Nat.pow_succ]
  rw [val_drop_step (xs := xs) (k := k + l + 1), Nat.mul_assoc]
  omega
theorem DnInv.done {xs cs : List Nat} {l r n k : Nat} (lx : Limbs xs) (hn : n = 64 * l + r) (hk : xs.length ≤ l + k) (d : DnInv xs l r k cs) : digs (val xs / 2 ^ n) = trimz cs ∧ Limbs cs ∧ cs.length = k := by
  obtain ⟨h1, h2, h3⟩ := d
  rw [List.drop_of_length_le (show xs.length ≤ l + k from hk), val_nil, Nat.zero_div, Nat.mul_zero, Nat.add_zero] at h3
  refine ⟨?_, h2, h1⟩
  rw [← digs_val h2, h3, hn, Nat.pow_add, ← LB_two_pow, ← Nat.div_div_eq_div_mul]
  congr 2
  by_cases hl : l ≤ xs.length
  · have e := val_append (xs.take l) (xs.drop l)
    rw [List.take_append_drop, List.length_take, Nat.min_eq_left hl] at e
    have hlt := val_lt (lx.take l)
    rw [List.length_take, Nat.min_eq_left hl] at hlt
    rw [e, Nat.add_mul_div_left _ _ (LB_pow_pos l), Nat.div_eq_of_lt hlt, Nat.zero_add]
  · rw [List.drop_of_length_le (by omega), val_nil]
    exact Nat.div_eq_of_lt (Nat.lt_of_lt_of_le (val_lt lx) (Nat.pow_le_pow_right LB_pos (by omega)))
end Nt
end Go.Proofs.YtgedkghifefjaaaDoor
