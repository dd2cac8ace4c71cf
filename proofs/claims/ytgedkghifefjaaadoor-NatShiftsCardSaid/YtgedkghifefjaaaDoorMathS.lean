/-
  Plain mathematics: shifts of rows.
-/
import Derived.Test.YtgedkghifefjaaaDoorWord
import Derived.Test.YtgedkghifefjaaaDoorMathB
import Derived.Test.YtgedkghifefjaaaDoorMath4
namespace Go.Proofs.YtgedkghifefjaaaDoor
open Go.RowKit
namespace Nt

theorem LB_split {r s : Nat} (h : r + s = 64) : LB = 2 ^ s * 2 ^ r := by
  rw [← Nat.pow_add, Nat.add_comm, h]; rfl
theorem or_low {a r : Nat} (b : Nat) (ha : a < 2 ^ r) : orW a (2 ^ r * b) = a + 2 ^ r * b := by
  unfold orW
  rw [Nat.or_comm, ← Nat.two_pow_add_eq_or_of_lt ha, Nat.add_comm]
theorem shl_form {x r s : Nat} (h : r + s = 64) : shlW x r = 2 ^ r * (x % 2 ^ s) := by
  unfold shlW
  rw [LB_split h, Nat.mul_mod_mul_right, Nat.mul_comm]
theorem shl_split {x r s : Nat} (h : r + s = 64) : shlW x r + LB * shrW x s = x * 2 ^ r := by
  have e : x * 2 ^ r / LB = shrW x s := by
    unfold shrW
    rw [LB_split h, Nat.mul_div_mul_right _ _ (Nat.two_pow_pos r)]
  rw [← e]
  exact Nat.mod_add_div _ _
theorem shr_lt {x r s : Nat} (h : r + s = 64) (hx : x < LB) : shrW x s < 2 ^ r := by
  unfold shrW
  rw [LB_split h] at hx
  exact Nat.div_lt_of_lt_mul hx
theorem shlW_lt (x r : Nat) : shlW x r < LB := Nat.mod_lt _ LB_pos
theorem shrW_lt {x : Nat} (s : Nat) (hx : x < LB) : shrW x s < LB := Nat.lt_of_le_of_lt (Nat.div_le_self _ _) hx

/-- Shifted up so far. -/
def UpInv (xs : List Nat) (l r i : Nat) (out : List Nat) : Prop :=
  out.length = xs.length + l + 1 ∧ Limbs out ∧ val out = LB ^ l * (2 ^ r * val (xs.take i)) ∧ lim out (i + l) < 2 ^ r ∧ ∀ j, i + l < j → lim out j = 0
theorem UpInv.zero (xs : List Nat) (l r : Nat) : UpInv xs l r 0 (List.replicate (xs.length + l + 1) 0) :=
  ⟨by simp, .replicate _, by rw [val_replicate]; simp, by rw [lim_replicate]; exact Nat.two_pow_pos r, fun j _ => lim_replicate _ _⟩
theorem UpInv.or {xs out : List Nat} {l r s i : Nat} (h : UpInv xs l r i out) (hrs : r + s = 64) (x : Nat) : orW (lim out (i + l)) (shlW x r) = lim out (i + l) + shlW x r := by
  rw [shl_form hrs, or_low _ h.2.2.2.1]
theorem UpInv.step {xs out : List Nat} {l r s i : Nat} (lx : Limbs xs) (hrs : r + s = 64) (hi : i < xs.length) (h : UpInv xs l r i out) :
    UpInv xs l r (i + 1) ((out.set (i + l) (orW (lim out (i + l)) (shlW (lim xs i) r))).set (i + l + 1) (shrW (lim xs i) s)) := by
  have ho := h.or hrs (lim xs i)
  obtain ⟨h1, h2, h3, h4, h5⟩ := h
  have hx := lx.get i
  have hlo : lim out (i + l) + shlW (lim xs i) r < LB := by
    rw [shl_form hrs, LB_split hrs]
    have : lim xs i % 2 ^ s + 1 ≤ 2 ^ s := Nat.mod_lt _ (Nat.two_pow_pos s)
    have := Nat.mul_le_mul_left (2 ^ r) this
    rw [Nat.mul_add, Nat.mul_one, Nat.mul_comm (2 ^ r) (2 ^ s)] at this
    omega
  refine ⟨by simp [h1], (h2.set _ _ (by rw [ho]; exact hlo)).set _ _ (shrW_lt _ hx), ?_, ?_, ?_⟩
  · have e1 := val_set (xs := out) (j := i + l) (orW (lim out (i + l)) (shlW (lim xs i) r)) (by omega)
    have e2 := val_set (xs := out.set (i + l) (orW (lim out (i + l)) (shlW (lim xs i) r))) (j := i + l + 1) (shrW (lim xs i) s) (by rw [List.length_set]; omega)
    rw [lim_set_other (by omega), h5 (i + l + 1) (by omega), Nat.mul_zero, Nat.add_zero] at e2
    rw [ho] at e1 e2 ⊢
    rw [e2, val_take_succ, Nat.mul_add, Nat.mul_add]
    have e3 : val (out.set (i + l) (lim out (i + l) + shlW (lim xs i) r)) = val out + LB ^ (i + l) * shlW (lim xs i) r := by
      rw [Nat.mul_add] at e1; omega
    rw [e3, h3]
    have e4 := shl_split (x := lim xs i) hrs
    have e5 : LB ^ (i + l) * (shlW (lim xs i) r + LB * shrW (lim xs i) s) = LB ^ (i + l) * (lim xs i * 2 ^ r) := by rw [e4]
    rw [Nat.mul_add, ← Nat.mul_assoc, ← Nat.pow_succ] at e5
    have e6 : LB ^ (i + l) * (lim xs i * 2 ^ r) = LB ^ l * (2 ^ r * (LB ^ i * lim xs i)) := by
      rw [Nat.pow_add, Nat.mul_comm (LB ^ i) (LB ^ l), Nat.mul_assoc]
      congr 1
      rw [Nat.mul_comm (lim xs i), Nat.mul_left_comm]
    rw [e6] at e5
    rw [Nat.add_assoc]
    congr 1
  · rw [show i + 1 + l = i + l + 1 by omega, lim_set_same (by rw [List.length_set]; omega)]
    exact shr_lt hrs hx
  · intro j hj
    rw [lim_set_other (by omega), lim_set_other (by omega)]
    exact h5 j (by omega)
theorem UpInv.done {xs out : List Nat} {l r n : Nat} (hn : n = 64 * l + r) (h : UpInv xs l r xs.length out) : digs (val xs * 2 ^ n) = trimz out ∧ Limbs out ∧ out.length = xs.length + l + 1 := by
  obtain ⟨h1, h2, h3, _, _⟩ := h
  refine ⟨?_, h2, h1⟩
  rw [List.take_length] at h3
  rw [← digs_val h2, h3, hn, Nat.pow_add, LB_two_pow, Nat.mul_comm (val xs), Nat.mul_assoc]
end Nt
end Go.Proofs.YtgedkghifefjaaaDoor
