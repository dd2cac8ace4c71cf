
/-
  Plain mathematics: shifts of rows.
  Plain mathematics: shifts down.
-/
import Derived.Test.YtgimmmmpollkhaaGreatNWord
import Derived.Test.YtgimmmmpollkhaaGreatNMathB
import Derived.Test.YtgimmmmpollkhaaGreatNMath4
namespace Go.Proofs.YtgimmmmpollkhaaGreat

open Go.RowKit

namespace Nt

theorem LB_split {r s : Nat} (h : r + s = 64) : LB = 2 ^ s * 2 ^ r := by
  rw [← Nat.pow_add, Nat.add_comm, h]; rfl
theorem or_low {a r : Nat} (b : Nat) (ha : a < 2 ^ r) : orW a (2 ^ r * b) = a + 2 ^ r * b := by
  unfold orW
  rw [Nat.or_comm, ← Nat.two_pow_add_eq_or_of_lt ha, Nat.add_comm]
theorem shl_form {x r s : Nat} (h : r + s = 64) : shlW x r = 2 ^ r * (x % 2 ^ s) := by
  unfold shlW
  rw [LB_split h, Nat.mul_mod_mul_right, Nat.mul_comm]
theorem shl_split {x r s : Nat} (h : r + s = 64) : shlW x r + LB * shrW x s = x * 2 ^ r := by
  have e : x * 2 ^ r / LB = shrW x s := by
    unfold shrW
    rw [LB_split h, Nat.mul_div_mul_right _ _ (Nat.two_pow_pos r)]
  rw [← e]
  exact Nat.mod_add_div _ _
theorem shr_lt {x r s : Nat} (h : r + s = 64) (hx : x < LB) : shrW x s < 2 ^ r := by
  unfold shrW
  rw [LB_split h] at hx
  exact Nat.div_lt_of_lt_mul hx
theorem shlW_lt (x r : Nat) : shlW x r < LB := Nat.mod_lt _ LB_pos
theorem shrW_lt {x : Nat} (s : Nat) (hx : x < LB) : shrW x s < LB := Nat.lt_of_le_of_lt (Nat.div_le_self _ _) hx

def UpInv (xs : List Nat) (l r i : Nat) (out : List Nat) : Prop :=
  out.length = xs.length + l + 1 ∧ Limbs out ∧ val out = LB ^ l * (2 ^ r * val (xs.take i)) ∧ lim out (i + l) < 2 ^ r ∧ ∀ j, i + l < j → lim out j = 0
theorem UpInv.zero (xs : List Nat) (l r : Nat) : UpInv xs l r 0 (List.replicate (xs.length + l + 1) 0) :=
  ⟨by simp, .replicate _, by rw [val_replicate]; simp, by rw [lim_replicate]; exact Nat.two_pow_pos r, fun j _ => lim_replicate _ _⟩
theorem UpInv.or {xs out : List Nat} {l r s i : Nat} (h : UpInv xs l r i out) (hrs : r + s = 64) (x : Nat) : orW (lim out (i + l)) (shlW x r) = lim out (i + l) + shlW x r := by
  rw [shl_form hrs, or_low _ h.2.2.2.1]
theorem UpInv.step {xs out : List Nat} {l r s i : Nat} (lx : Limbs xs) (hrs : r + s = 64) (hi : i < xs.length) (h : UpInv xs l r i out) :
    UpInv xs l r (i + 1) ((out.set (i + l) (orW (lim out (i + l)) (shlW (lim xs i) r))).set (i + l + 1) (shrW (lim xs i) s)) := by
  have ho := h.or hrs (lim xs i)
  obtain ⟨h1, h2, h3, h4, h5⟩ := h
  have hx := lx.get i
  have hlo : lim out (i + l) + shlW (lim xs i) r < LB := by
    rw [shl_form hrs, LB_split hrs]
    have : lim xs i % 2 ^ s + 1 ≤ 2 ^ s := Nat.mod_lt _ (Nat.two_pow_pos s)
    have := Nat.mul_le_mul_left (2 ^ r) this
    rw [Nat.mul_add, Nat.mul_one, Nat.mul_comm (2 ^ r) (2 ^ s)] at this
    omega
  refine ⟨by simp [h1], (h2.set _ _ (by rw [ho]; exact hlo)).set _ _ (shrW_lt _ hx), ?_, ?_, ?_⟩
  · have e1 := val_set (xs := out) (j := i + l) (orW (lim out (i + l)) (shlW (lim xs i) r)) (by omega)
    have e2 := val_set (xs := out.set (i + l) (orW (lim out (i + l)) (shlW (lim xs i) r))) (j := i + l + 1) (shrW (lim xs i) s) (by rw [List.length_set]; omega)
    rw [lim_set_other (by omega), h5 (i + l + 1) (by omega), Nat.mul_zero, Nat.add_zero] at e2
    rw [ho] at e1 e2 ⊢
    rw [e2, val_take_succ, Nat.mul_add, Nat.mul_add]
    have e3 : val (out.set (i + l) (lim out (i + l) + shlW (lim xs i) r)) = val out + LB ^ (i + l) * shlW (lim xs i) r := by
      rw [Nat.mul_add] at e1; omega
    rw [e3, h3]
    have e4 := shl_split (x := lim xs i) hrs
    have e5 : LB ^ (i + l) * (shlW (lim xs i) r + LB * shrW (lim xs i) s) = LB ^ (i + l) * (lim xs i * 2 ^ r) := by rw [e4]
    rw [Nat.mul_add, ← Nat.mul_assoc, ← Nat.pow_succ] at e5
    have e6 : LB ^ (i + l) * (lim xs i * 2 ^ r) = LB ^ l * (2 ^ r * (LB ^ i * lim xs i)) := by
      rw [Nat.pow_add, Nat.mul_comm (LB ^ i) (LB ^ l), Nat.mul_assoc]
      congr 1
      rw [Nat.mul_comm (lim xs i), Nat.mul_left_comm]
    rw [e6] at e5
    rw [Nat.add_assoc]
    congr 1
  · rw [show i + 1 + l = i + l + 1 by omega, lim_set_same (by rw [List.length_set]; omega)]
    exact shr_lt hrs hx
  · intro j hj
    rw [lim_set_other (by omega), lim_set_other (by omega)]
    exact h5 j (by omega)
theorem UpInv.done {xs out : List Nat} {l r n : Nat} (hn : n = 64 * l + r) (h : UpInv xs l r xs.length out) : digs (val xs * 2 ^ n) = trimz out ∧ Limbs out ∧ out.length = xs.length + l + 1 := by
  obtain ⟨h1, h2, h3, _, _⟩ := h
  refine ⟨?_, h2, h1⟩
  rw [List.take_length] at h3
  rw [← digs_val h2, h3, hn, Nat.pow_add, LB_two_pow, Nat.mul_comm (val xs), Nat.mul_assoc]
end Nt

end Go.Proofs.YtgimmmmpollkhaaGreat

namespace Go.Proofs.YtgimmmmpollkhaaGreat

open Go.RowKit

namespace Nt

theorem val_drop_step {xs : List Nat} {k : Nat} : val (xs.drop k) = lim xs k + LB * val (xs.drop (k + 1)) := by
  by_cases h : k < xs.length
  · rw [drop_cons_lim h]; rfl
  · rw [List.drop_of_length_le (by omega), List.drop_of_length_le (by omega), lim_none (by omega)]; rfl
theorem dn_at {x t r s : Nat} (h : r + s = 64) (hx : x < LB) : orW (shrW x r) (shlW t s) = x / 2 ^ r + 2 ^ s * (t % 2 ^ r) := by
  have h' : s + r = 64 := by omega
  rw [shl_form h', or_low _ (shr_lt h' hx)]; rfl
theorem dn_lt {x t r s : Nat} (h : r + s = 64) (hx : x < LB) : orW (shrW x r) (shlW t s) < LB := by
  have h' : s + r = 64 := by omega
  rw [dn_at h hx, LB_split h]
  have h1 : x / 2 ^ r < 2 ^ s := shr_lt h' hx
  have h2 : t % 2 ^ r + 1 ≤ 2 ^ r := Nat.mod_lt _ (Nat.two_pow_pos r)
  have h3 := Nat.mul_le_mul_left (2 ^ s) h2
  rw [Nat.mul_add, Nat.mul_one] at h3
  omega
theorem dn_eq {x t T2 r s : Nat} (h : r + s = 64) (hx : x < LB) : (x + LB * (t + LB * T2)) / 2 ^ r = orW (shrW x r) (shlW t s) + LB * ((t + LB * T2) / 2 ^ r) := by
  rw [dn_at h hx]
  have hm : (t + LB * T2) % 2 ^ r = t % 2 ^ r := by
    rw [LB_split h, Nat.mul_assoc, Nat.mul_left_comm, Nat.add_mul_mod_self_left]
  have e1 : ∀ T, x + LB * T = x + 2 ^ r * (2 ^ s * T) := fun T => by rw [LB_split h, Nat.mul_comm (2 ^ s), Nat.mul_assoc]
  have e4 : ∀ Q, LB * Q = 2 ^ s * (2 ^ r * Q) := fun Q => by rw [LB_split h, Nat.mul_assoc]
  rw [e1, Nat.add_mul_div_left _ _ (Nat.two_pow_pos r)]
  have e2 := Nat.mod_add_div (t + LB * T2) (2 ^ r)
  rw [hm] at e2
  generalize (t + LB * T2) = T at *
  have e3 : 2 ^ s * T = 2 ^ s * (t % 2 ^ r) + LB * (T / 2 ^ r) := by
    rw [e4, ← Nat.mul_add, e2]
  rw [e3]; omega

def DnInv (xs : List Nat) (l r k : Nat) (cs : List Nat) : Prop := cs.length = k ∧ Limbs cs ∧ val cs + LB ^ k * (val (xs.drop (l + k)) / 2 ^ r) = val (xs.drop l) / 2 ^ r
theorem DnInv.zero (xs : List Nat) (l r : Nat) : DnInv xs l r 0 [] := ⟨rfl, .nil, by simp⟩
theorem DnInv.step {xs cs : List Nat} {l r s k : Nat} (lx : Limbs xs) (h : r + s = 64) (d : DnInv xs l r k cs) :
    DnInv xs l r (k + 1) (cs ++ [orW (shrW (lim xs (k + l)) r) (shlW (lim xs (k + l + 1)) s)]) := by
  obtain ⟨h1, h2, h3⟩ := d
  have hx := lx.get (k + l)
  refine ⟨by simp [h1], h2.append (.one (dn_lt h hx)), ?_⟩
  rw [← h3, val_append, val_one, h1]
  rw [val_drop_step (xs := xs) (k := l + k), val_drop_step (xs := xs) (k := l + k + 1), show l + k = k + l by omega, dn_eq h hx, show l + (k + 1) = k + l + 1 by omega, ← val_drop_step]
  rw [Nat.mul_add, Nat.pow_succ]
  rw [val_drop_step (xs := xs) (k := k + l + 1), Nat.mul_assoc]
  omega
theorem DnInv.done {xs cs : List Nat} {l r n k : Nat} (lx : Limbs xs) (hn : n = 64 * l + r) (hk : xs.length ≤ l + k) (d : DnInv xs l r k cs) : digs (val xs / 2 ^ n) = trimz cs ∧ Limbs cs ∧ cs.length = k := by
  obtain ⟨h1, h2, h3⟩ := d
  rw [List.drop_of_length_le (show xs.length ≤ l + k from hk), val_nil, Nat.zero_div, Nat.mul_zero, Nat.add_zero] at h3
  refine ⟨?_, h2, h1⟩
  rw [← digs_val h2, h3, hn, Nat.pow_add, ← LB_two_pow, ← Nat.div_div_eq_div_mul]
  congr 2
  by_cases hl : l ≤ xs.length
  · have e := val_append (xs.take l) (xs.drop l)
    rw [List.take_append_drop, List.length_take, Nat.min_eq_left hl] at e
    have hlt := val_lt (lx.take l)
    rw [List.length_take, Nat.min_eq_left hl] at hlt
    rw [e, Nat.add_mul_div_left _ _ (LB_pow_pos l), Nat.div_eq_of_lt hlt, Nat.zero_add]
  · rw [List.drop_of_length_le (by omega), val_nil]
    exact Nat.div_eq_of_lt (Nat.lt_of_lt_of_le (val_lt lx) (Nat.pow_le_pow_right LB_pos (by omega)))
end Nt

end Go.Proofs.YtgimmmmpollkhaaGreat
