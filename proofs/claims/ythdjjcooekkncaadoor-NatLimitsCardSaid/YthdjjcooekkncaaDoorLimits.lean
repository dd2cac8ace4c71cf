
/-
  The law NatLimits: what it makes.
-/
import Derived.Test.YthdjjcooekkncaaDoorShift

namespace Go.Proofs.YthdjjcooekkncaaDoor

open Go.RowKit

namespace Nt

/-- Noughts, and one limb ahead of them. -/
def top (j t : Nat) : List Nat := List.replicate j 0 ++ [t]
theorem top_len (j t : Nat) : (top j t).length = j + 1 := by simp [top]
theorem top_val (j t : Nat) : val (top j t) = LB ^ j * t := by
  unfold top; rw [val_append, val_replicate, val_one, List.length_replicate, Nat.zero_add]
theorem top_limbs (j : Nat) {t : Nat} (h : t < LB) : Limbs (top j t) := (Limbs.replicate j).append (.one h)
theorem top_norm (j : Nat) {t : Nat} (h : t ≠ 0) : Norm (top j t) := (norm_snoc _ _).2 h
theorem top_digs (j : Nat) {t : Nat} (h : t < LB) (h0 : t ≠ 0) : digs (LB ^ j * t) = top j t := by
  rw [← top_val]; exact digs_val_norm (top_limbs j h) (top_norm j h0)
theorem top_valid {j t : Nat} (h0 : t ≠ 0) (h : j < 64) : validB (top j t) = true := validB_iff.2 ⟨by rw [top_len]; omega, top_norm j h0⟩
theorem top_bad {j t : Nat} (h : 64 ≤ j) : validB (top j t) = false := by
  rw [← Bool.not_eq_true, validB_iff, top_len]
  omega
theorem top_lt {j t : Nat} (h : t < LB) (hj : j < 64) : LB ^ j * t < LB ^ 64 := by
  rw [← top_val]
  exact Nat.lt_of_lt_of_le (val_lt (top_limbs j h)) (Nat.pow_le_pow_right LB_pos (by rw [top_len]; omega))
theorem top_ge {j t : Nat} (h0 : t ≠ 0) (hj : 64 ≤ j) : ¬ LB ^ j * t < LB ^ 64 := by
  have h1 := Nat.pow_le_pow_right LB_pos hj
  have h2 := Nat.mul_le_mul_left (LB ^ j) (show 1 ≤ t by omega)
  omega
theorem top_set (j t : Nat) : (List.replicate (j + 1) 0).set j t = top j t := by
  unfold top
  rw [List.replicate_succ', List.set_append_right _ _ (by simp)]
  simp
def TB : Nat := 9223372036854775808
theorem TB_lt : TB < LB := by decide
theorem TB_two : TB * 2 = LB := by decide

theorem lim_add (p : Nat) : addSp (top p TB) (top p TB) = if p < 63 then (top (p + 1) 1, 0) else if p = 63 then ([], 4) else ([], 1) := by
  have e : LB ^ p * TB + LB ^ p * TB = LB ^ (p + 1) * 1 := by
    rw [Nat.mul_one, Nat.pow_succ, ← TB_two, Nat.mul_two, Nat.mul_add]
  by_cases h : p < 64
  · unfold addSp
    rw [top_valid (by decide) h, top_val, e]
    by_cases h' : p < 63
    · rw [if_pos h', if_pos (top_lt (by decide) (by omega)), top_digs _ (by decide) (by decide)]; rfl
    · rw [if_neg (top_ge (j := p + 1) (t := 1) (by decide) (by omega)), if_neg h', if_pos (show p = 63 by omega)]; rfl
  · rw [if_neg (by omega), if_neg (by omega)]
    exact addSp_no (.inl (top_bad (by omega)))
theorem lim_mul {p k : Nat} (hp : p < 64) (hk : k < 64) : mulSp (top p TB) (top k 1) = if p + k < 64 then (top (p + k) TB, 0) else ([], 4) := by
  have e : LB ^ p * TB * (LB ^ k * 1) = LB ^ (p + k) * TB := by
    rw [Nat.mul_one, Nat.pow_add, Nat.mul_right_comm]
  unfold mulSp
  rw [top_valid (by decide) hp, top_valid (by decide) hk, top_val, top_val, e]
  by_cases h : p + k < 64
  · rw [if_pos h, if_pos (top_lt TB_lt h), top_digs _ TB_lt (by decide)]; rfl
  · rw [if_neg h, if_neg (top_ge (by decide) (by omega))]; rfl
theorem lim_mul_bad {p k : Nat} (h : 64 ≤ p ∨ 64 ≤ k) : mulSp (top p TB) (top k 1) = ([], 1) := by
  rcases h with h | h
  · exact mulSp_no (.inl (top_bad h))
  · exact mulSp_no (.inr (top_bad h))
theorem lim_shift {p k : Nat} (hk : k < 64) : upSp (top k 1) (64 * p) = if p + k < 64 then (top (p + k) 1, 0) else ([], 4) := by
  have e : LB ^ k * 1 * 2 ^ (64 * p) = LB ^ (p + k) * 1 := by
    rw [Nat.mul_one, Nat.mul_one, ← LB_two_pow, Nat.pow_add, Nat.mul_comm]
  unfold upSp
  rw [top_valid (by decide) hk, top_val, e]
  by_cases h : p + k < 64
  · rw [if_pos h, if_pos (top_lt (by decide) h), top_digs _ (by decide) (by decide)]; rfl
  · rw [if_neg h, if_neg (top_ge (by decide) (by omega))]; rfl

theorem Two.getn {w : World} {r l : List Nat} {m e : Nat} {en : Ending} {w' : World} (h : Two w (l, e) en w') (hr : r = l) (hm : l.length = m) : ∃ A c, en = .returned (.tuple #[.slice A m c, .int .i64 (e : Int)]) ∧ Sl w' A l ∧ Below w.heap.size w w' := by
  subst hr
  subst hm
  exact h.get

theorem made_set (j t : Nat) : ((madeCells #[Value.int .u64 0] (j + 1)).setIfInBounds j (.int .u64 (t : Int))).toList = (top j t).map lv := by
  rw [Array.toList_setIfInBounds, toList_madeCells_one, ← top_set, List.map_set, List.map_replicate]
  rfl
/-- The world after the two rows are made. -/
def limW (w : World) (p k : Nat) : World := (w.alloc (.cells ((madeCells #[Value.int .u64 0] (p + 1)).setIfInBounds p (.int .u64 9223372036854775808)) 40)).alloc (.cells ((madeCells #[Value.int .u64 0] (k + 1)).setIfInBounds k (.int .u64 1)) 40)
theorem limW_facts (w : World) (p k : Nat) : Sl (limW w p k) (some ⟨w.heap.size, 0, none⟩) (top p TB) ∧ Sl (limW w p k) (some ⟨w.heap.size + 1, 0, none⟩) (top k 1) ∧ Below w.heap.size w (limW w p k) :=
  ⟨(litSl w _ (top p TB) (made_set p TB) rfl).alloc _, litSl _ _ (top k 1) (made_set k 1) (size1 _ _), bl_two (.refl _ _)⟩
end Nt

end Go.Proofs.YthdjjcooekkncaaDoor
