
/-
  Plain mathematics: differences, limb by limb; what a sum, a difference, a product is by the document.
-/
import Derived.Test.YtgimmmmpollkhaaGreatOut

import Derived.Test.YtgimmmmpollkhaaGreatMath2

namespace Go.Proofs.YtgimmmmpollkhaaGreat

namespace Nt

/-- A difference, as the document says. -/
def subSp (xs ys : List Nat) : List Nat × Nat :=
  if validB xs && validB ys then (if val xs < val ys then ([], 1) else (digs (val xs - val ys), 0)) else ([], 1)
/-- A product. -/
def mulSp (xs ys : List Nat) : List Nat × Nat :=
  if validB xs && validB ys then (if val xs * val ys < LB ^ 64 then (digs (val xs * val ys), 0) else ([], 4)) else ([], 1)

def SubInv (xs ys : List Nat) (k b : Nat) (cs : List Nat) : Prop := cs.length = k ∧ Limbs cs ∧ b ≤ 1 ∧ val cs + val (ys.take k) = val (xs.take k) + LB ^ k * b
theorem SubInv.zero (xs ys : List Nat) : SubInv xs ys 0 0 [] := ⟨rfl, .nil, by omega, by simp⟩
theorem SubInv.step {xs ys cs : List Nat} {k b : Nat} (lx : Limbs xs) (ly : Limbs ys) (h : SubInv xs ys k b cs) :
    SubInv xs ys (k + 1) (borL (lim xs k) (lim ys k) b) (cs ++ [difL (lim xs k) (lim ys k) b]) := by
  obtain ⟨hc, hL, h1, h⟩ := h
  refine ⟨by simp [hc], hL.append (.one (difL_lt _ _ _)), borL_le _ _ _, ?_⟩
  have hs := dif_eq (lim xs k) (lim ys k) b (lx.get k) (ly.get k) h1
  rw [val_append, val_one, val_take_succ, val_take_succ, hc, Nat.pow_succ]
  have : LB ^ k * (difL (lim xs k) (lim ys k) b + lim ys k + b) = LB ^ k * (lim xs k + LB * borL (lim xs k) (lim ys k) b) := by rw [hs]
  rw [Nat.mul_add, Nat.mul_add, Nat.mul_add, ← Nat.mul_assoc] at this
  omega
theorem SubInv.done {xs ys cs : List Nat} {n b : Nat} (h : SubInv xs ys n b cs) (hn : xs.length = n) (hm : ys.length ≤ n) (hle : val ys ≤ val xs) : val cs = val xs - val ys ∧ Limbs cs ∧ cs.length = n := by
  obtain ⟨hc, hL, h1, h⟩ := h
  rw [List.take_of_length_le (by omega), List.take_of_length_le (by omega)] at h
  have hv := val_lt hL
  rw [hc] at hv
  have : b = 0 := by
    rcases Nat.eq_zero_or_pos b with h0 | h0
    · exact h0
    · have : b = 1 := by omega
      subst this
      omega
  subst this
  exact ⟨by omega, hL, hc⟩

theorem addSp_ok {xs ys : List Nat} (vx : validB xs = true) (vy : validB ys = true) : addSp xs ys = if (digs (val xs + val ys)).length ≤ 64 then (digs (val xs + val ys), 0) else ([], 4) := by
  unfold addSp
  rw [vx, vy]
  simp only [Bool.and_self, if_true, length_digs_le]
theorem addSp_no {xs ys : List Nat} (h : validB xs = false ∨ validB ys = false) : addSp xs ys = ([], 1) := by
  unfold addSp
  rcases h with h | h <;> simp [h]
theorem mulSp_ok {xs ys : List Nat} (vx : validB xs = true) (vy : validB ys = true) : mulSp xs ys = if (digs (val xs * val ys)).length ≤ 64 then (digs (val xs * val ys), 0) else ([], 4) := by
  unfold mulSp
  rw [vx, vy]
  simp only [Bool.and_self, if_true, length_digs_le]
theorem mulSp_no {xs ys : List Nat} (h : validB xs = false ∨ validB ys = false) : mulSp xs ys = ([], 1) := by
  unfold mulSp
  rcases h with h | h <;> simp [h]
theorem subSp_ok {xs ys : List Nat} (vx : validB xs = true) (vy : validB ys = true) (h : val ys ≤ val xs) : subSp xs ys = (digs (val xs - val ys), 0) := by
  unfold subSp
  rw [vx, vy]
  simp only [Bool.and_self, if_true]
  rw [if_neg (by omega)]
theorem subSp_less {xs ys : List Nat} (vx : validB xs = true) (vy : validB ys = true) (h : val xs < val ys) : subSp xs ys = ([], 1) := by
  unfold subSp
  rw [vx, vy]
  simp only [Bool.and_self, if_true]
  rw [if_pos h]
theorem subSp_no {xs ys : List Nat} (h : validB xs = false ∨ validB ys = false) : subSp xs ys = ([], 1) := by
  unfold subSp
  rcases h with h | h <;> simp [h]
theorem len_le_of_val {xs ys : List Nat} (lx : Limbs xs) (ny : Norm ys) (h : val ys ≤ val xs) : ys.length ≤ xs.length := by
  rcases Nat.lt_or_ge xs.length ys.length with hlt | hge
  · have := length_lt_of_val lx ny hlt
    omega
  · exact hge
theorem add_len {xs ys : List Nat} {m : Nat} (lx : Limbs xs) (ly : Limbs ys) (hx : xs.length ≤ m) (hy : ys.length ≤ m) : (digs (val xs + val ys)).length ≤ m + 1 := by
  have h1 := val_lt lx
  have h2 := val_lt ly
  have k1 : LB ^ xs.length ≤ LB ^ m := Nat.pow_le_pow_right LB_pos hx
  have k2 : LB ^ ys.length ≤ LB ^ m := Nat.pow_le_pow_right LB_pos hy
  have k3 : LB ^ m * 2 ≤ LB ^ (m + 1) := by rw [Nat.pow_succ]; exact Nat.mul_le_mul_left _ LB_two
  exact length_digs_le.2 (by omega)
theorem sub_len {xs : List Nat} {a : Nat} (lx : Limbs xs) : (digs (val xs - a)).length ≤ xs.length := by
  have h1 := val_lt lx
  exact length_digs_le.2 (by omega)
theorem mul_len {xs ys : List Nat} (lx : Limbs xs) (ly : Limbs ys) : (digs (val xs * val ys)).length ≤ xs.length + ys.length := by
  have h1 := val_lt lx
  have h2 := val_lt ly
  refine length_digs_le.2 ?_
  rw [Nat.pow_add]
  exact Nat.mul_lt_mul'' h1 h2
theorem vB {xs : List Nat} : validB xs = true ∨ validB xs = false := by cases validB xs <;> simp

end Nt

end Go.Proofs.YtgimmmmpollkhaaGreat
