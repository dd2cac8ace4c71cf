
/-
  Plain mathematics: differences, limb by limb; what a sum, a difference, a product is by the document.
-/
import Derived.Test.YtgimmmmpollkhaaGreatNOut
import Derived.Test.YtgimmmmpollkhaaGreatNMath2
namespace Go.Proofs.YtgimmmmpollkhaaGreat

namespace Nt

def SubInv (xs ys : List Nat) (k b : Nat) (cs : List Nat) : Prop := cs.length = k ∧ Limbs cs ∧ b ≤ 1 ∧ val cs + val (ys.take k) = val (xs.take k) + LB ^ k * b
theorem SubInv.zero (xs ys : List Nat) : SubInv xs ys 0 0 [] := ⟨rfl, .nil, by omega, by simp⟩
theorem SubInv.step {xs ys cs : List Nat} {k b : Nat} (lx : Limbs xs) (ly : Limbs ys) (h : SubInv xs ys k b cs) :
    SubInv xs ys (k + 1) (borL (lim xs k) (lim ys k) b) (cs ++ [difL (lim xs k) (lim ys k) b]) := by
  obtain ⟨hc, hL, h1, h⟩ := h
  refine ⟨by simp [hc], hL.append (.one (difL_lt _ _ _)), borL_le _ _ _, ?_⟩
  have hs := dif_eq (lim xs k) (lim ys k) b (lx.get k) (ly.get k) h1
  rw [val_append, val_one, val_take_succ, val_take_succ, hc, Nat.pow_succ]
  have : LB ^ k * (difL (lim xs k) (lim ys k) b + lim ys k + b) = LB ^ k * (lim xs k + LB * borL (lim xs k) (lim ys k) b) := by rw [hs]
  rw [Nat.mul_add, Nat.mul_add, Nat.mul_add, ← Nat.mul_assoc] at this
  omega
theorem SubInv.done {xs ys cs : List Nat} {n b : Nat} (h : SubInv xs ys n b cs) (hn : xs.length = n) (hm : ys.length ≤ n) (hle : val ys ≤ val xs) : val cs = val xs - val ys ∧ Limbs cs ∧ cs.length = n := by
  obtain ⟨hc, hL, h1, h⟩ := h
  rw [List.take_of_length_le (by omega), List.take_of_length_le (by omega)] at h
  have hv := val_lt hL
  rw [hc] at hv
  have : b = 0 := by
    rcases Nat.eq_zero_or_pos b with h0 | h0
    · exact h0
    · have : b = 1 := by omega
      subst this
      omega
  subst this
  exact ⟨by omega, hL, hc⟩

theorem len_le_of_val {xs ys : List Nat} (lx : Limbs xs) (ny : Norm ys) (h : val ys ≤ val xs) : ys.length ≤ xs.length := by
  rcases Nat.lt_or_ge xs.length ys.length with hlt | hge
  · have := length_lt_of_val lx ny hlt
    omega
  · exact hge
theorem add_len {xs ys : List Nat} {m : Nat} (lx : Limbs xs) (ly : Limbs ys) (hx : xs.length ≤ m) (hy : ys.length ≤ m) : (digs (val xs + val ys)).length ≤ m + 1 := by
  have h1 := val_lt lx
  have h2 := val_lt ly
  have k1 : LB ^ xs.length ≤ LB ^ m := Nat.pow_le_pow_right LB_pos hx
  have k2 : LB ^ ys.length ≤ LB ^ m := Nat.pow_le_pow_right LB_pos hy
  have k3 : LB ^ m * 2 ≤ LB ^ (m + 1) := by rw [Nat.pow_succ]; exact Nat.mul_le_mul_left _ LB_two
  exact length_digs_le.2 (by omega)
theorem sub_len {xs : List Nat} {a : Nat} (lx : Limbs xs) : (digs (val xs - a)).length ≤ xs.length := by
  have h1 := val_lt lx
  exact length_digs_le.2 (by omega)
end Nt

end Go.Proofs.YtgimmmmpollkhaaGreat
