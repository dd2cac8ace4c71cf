
/-
  Plain mathematics: products, row by row.
-/
import Derived.Test.YtgimmmmpollkhaaGreatNMath3
namespace Go.Proofs.YtgimmmmpollkhaaGreat

namespace Nt

theorem val_set {xs : List Nat} {j : Nat} (v : Nat) (h : j < xs.length) : val (xs.set j v) + LB ^ j * lim xs j = val xs + LB ^ j * v := by
  have h' : j < (xs.set j v).length := by simpa using h
  rw [val_split h, val_split h', lim_set_same h]
  have e1 : (xs.set j v).take j = xs.take j := by rw [List.take_set_of_le (Nat.le_refl _)]
  have e2 : (xs.set j v).drop (j + 1) = xs.drop (j + 1) := by rw [List.drop_set_of_lt (by omega)]
  rw [e1, e2, Nat.mul_add, Nat.mul_add]
  omega

def MulOut (xs ys : List Nat) (N i : Nat) (out : List Nat) : Prop :=
  out.length = N ∧ Limbs out ∧ val out = val (xs.take i) * val ys ∧ ∀ j, i + ys.length ≤ j → lim out j = 0
def MulIn (xs ys : List Nat) (N i k c : Nat) (out : List Nat) : Prop :=
  out.length = N ∧ Limbs out ∧ c < LB ∧ val out + LB ^ (i + k) * c = val (xs.take i) * val ys + LB ^ i * (lim xs i * val (ys.take k)) ∧ ∀ j, i + ys.length ≤ j → lim out j = 0

theorem lim_replicate (n j : Nat) : lim (List.replicate n 0) j = 0 := by
  rcases Nat.lt_or_ge j n with h | h
  · rw [lim_some (by simpa using h), List.getElem_replicate]
  · rw [lim_none (by simpa using h)]
theorem MulOut.zero (xs ys : List Nat) (N : Nat) : MulOut xs ys N 0 (List.replicate N 0) :=
  ⟨by simp, .replicate _, by rw [val_replicate]; simp, fun _ _ => lim_replicate _ _⟩
theorem MulOut.start {xs ys out : List Nat} {N i : Nat} (h : MulOut xs ys N i out) : MulIn xs ys N i 0 0 out :=
  ⟨h.1, h.2.1, LB_pos, by rw [h.2.2.1]; simp, h.2.2.2⟩
theorem MulIn.step {xs ys out : List Nat} {N i k c : Nat} (lx : Limbs xs) (ly : Limbs ys) (h : MulIn xs ys N i k c out) (hk : k < ys.length) (hN : i + k < N) :
    MulIn xs ys N i (k + 1) (maHi (lim xs i) (lim ys k) (lim out (i + k)) c) (out.set (i + k) (maLo (lim xs i) (lim ys k) (lim out (i + k)) c)) := by
  obtain ⟨h1, h2, h3, h4, h5⟩ := h
  refine ⟨by simpa using h1, h2.set _ _ (maLo_lt _ _ _ _), maHi_lt _ _ _ _ (lx.get _) (ly.get _) (h2.get _) h3, ?_, fun j hj => ?_⟩
  · have hs := val_set (xs := out) (maLo (lim xs i) (lim ys k) (lim out (i + k)) c) (show i + k < out.length by omega)
    have hm := ma_eq (lim xs i) (lim ys k) (lim out (i + k)) c
    have hp : LB ^ (i + k) * (maLo (lim xs i) (lim ys k) (lim out (i + k)) c + LB * maHi (lim xs i) (lim ys k) (lim out (i + k)) c) = LB ^ (i + k) * (lim xs i * lim ys k + lim out (i + k) + c) := by rw [hm]
    rw [Nat.mul_add, Nat.mul_add, Nat.mul_add] at hp
    rw [val_take_succ, Nat.mul_add, Nat.mul_add, show LB ^ i * (lim xs i * (LB ^ k * lim ys k)) = LB ^ (i + k) * (lim xs i * lim ys k) by rw [Nat.pow_add, Nat.mul_left_comm (lim xs i), Nat.mul_assoc],
      show i + (k + 1) = i + k + 1 by omega, Nat.pow_succ, Nat.mul_assoc]
    omega
  · rw [lim_set_other (by omega)]; exact h5 j hj
theorem MulIn.sum {xs ys out : List Nat} {N i c : Nat} (h : MulIn xs ys N i ys.length c out) : val out + LB ^ (i + ys.length) * c = val (xs.take (i + 1)) * val ys := by
  have h4 := h.2.2.2.1
  rw [List.take_length] at h4
  rw [h4, val_take_succ, Nat.add_mul, Nat.mul_assoc]
theorem MulIn.done0 {xs ys out : List Nat} {N i : Nat} (h : MulIn xs ys N i ys.length 0 out) : MulOut xs ys N (i + 1) out :=
  ⟨h.1, h.2.1, by have := h.sum; simpa using this, fun j hj => h.2.2.2.2 j (by omega)⟩
theorem MulIn.done {xs ys out : List Nat} {N i c : Nat} (h : MulIn xs ys N i ys.length c out) (hN : i + ys.length < N) : MulOut xs ys N (i + 1) (out.set (i + ys.length) c) := by
  have hs := val_set (xs := out) c (show i + ys.length < out.length by rw [h.1]; exact hN)
  rw [h.2.2.2.2 _ (Nat.le_refl _)] at hs
  refine ⟨by simpa using h.1, h.2.1.set _ _ h.2.2.1, ?_, fun j hj => ?_⟩
  · have := h.sum
    omega
  · rw [lim_set_other (by omega)]; exact h.2.2.2.2 j (by omega)
theorem MulOut.done {xs ys out : List Nat} {N : Nat} (h : MulOut xs ys N xs.length out) : digs (val xs * val ys) = trimz out ∧ Limbs out ∧ out.length = N := by
  have hv := h.2.2.1
  rw [List.take_length] at hv
  exact ⟨by rw [← hv]; exact digs_val h.2.1, h.2.1, h.1⟩

theorem val_take_le (xs : List Nat) (k : Nat) : val (xs.take k) ≤ val xs := by
  have : val xs = val (xs.take k ++ xs.drop k) := by rw [List.take_append_drop]
  rw [this, val_append]
  omega
theorem big_of_room {xs ys : List Nat} {i k most : Nat} (nx : Norm xs) (ny : Norm ys) (hi : i < xs.length) (hk : k < ys.length) (h : most ≤ i + k) : LB ^ most ≤ val xs * val ys := by
  have h1 := le_val nx (by intro e; subst e; simp at hi)
  have h2 := le_val ny (by intro e; subst e; simp at hk)
  refine Nat.le_trans ?_ (Nat.mul_le_mul h1 h2)
  rw [← Nat.pow_add]
  exact Nat.pow_le_pow_right LB_pos (by omega)
theorem big_of_carry {xs ys out : List Nat} {N i c most : Nat} (h : MulIn xs ys N i ys.length c out) (hc : c ≠ 0) (h64 : most ≤ i + ys.length) : LB ^ most ≤ val xs * val ys := by
  have hs := h.sum
  have h1 : LB ^ most * 1 ≤ LB ^ (i + ys.length) * c := Nat.mul_le_mul (Nat.pow_le_pow_right LB_pos h64) (by omega)
  have h2 := Nat.mul_le_mul_right (val ys) (val_take_le xs (i + 1))
  omega
theorem MulOut.fits {xs ys out : List Nat} {N most : Nat} (h : MulOut xs ys N xs.length out) (hN : N ≤ most) : val xs * val ys < LB ^ most := by
  have hv := h.2.2.1
  rw [List.take_length] at hv
  rw [← hv]
  have h1 := val_lt h.2.1
  have : LB ^ out.length ≤ LB ^ most := Nat.pow_le_pow_right LB_pos (by rw [h.1]; exact hN)
  omega

theorem rmul_lo (x y o c : Nat) : sumL (sumL o (mulLo x y) 0) c 0 = maLo x y o c := by
  unfold sumL mulLo maLo
  simp only [Nat.add_zero, Nat.mod_add_mod, Nat.add_mod_mod]
  rw [Nat.add_comm o]
theorem rmul_hi (x y o c : Nat) : mulHi x y + carL o (mulLo x y) 0 + carL (sumL o (mulLo x y) 0) c 0 = maHi x y o c := by
  have h1 := mul_eq x y
  have h2 := sum_eq o (mulLo x y) 0
  have h3 := sum_eq (sumL o (mulLo x y) 0) c 0
  have h4 := ma_eq x y o c
  have h5 := rmul_lo x y o c
  have : LB * (mulHi x y + carL o (mulLo x y) 0 + carL (sumL o (mulLo x y) 0) c 0) = LB * maHi x y o c := by
    rw [Nat.mul_add, Nat.mul_add]; omega
  exact Nat.eq_of_mul_eq_mul_left LB_pos this

theorem rmul_wrap {x y o c : Nat} (hx : x < LB) (hy : y < LB) (ho : o < LB) (hc : c < LB) :
    IntKind.u64.wrap (IntKind.u64.wrap (((mulHi x y : Nat) : Int) + ((carL o (mulLo x y) 0 : Nat) : Int)) + ((carL (sumL o (mulLo x y) 0) c 0 : Nat) : Int)) = ((maHi x y o c : Nat) : Int) := by
  have e := rmul_hi x y o c
  have l := maHi_lt x y o c hx hy ho hc
  rw [← Int.natCast_add, wrapN _ (by omega), ← Int.natCast_add, wrapN _ (by omega), e]

end Nt

end Go.Proofs.YtgimmmmpollkhaaGreat
