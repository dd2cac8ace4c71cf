
/-
  The calls in numbers: a row is the digits of a number.
-/
import Derived.Test.YtgmjdaallinicaaGreatDoorRatS

import Derived.Test.YtgmjdaallinicaaGreatDoorWholeZ

namespace Go.Proofs.YtgmjdaallinicaaGreatDoor

open Go.RowKit

namespace Nt

theorem kp {w w' : World} {A : Option Addr} {xs : List Nat} (b : Below w.heap.size w w') (h : Sl w A xs) : Sl w' A xs := bl_keeps b _ _ h
theorem digs_len {n k : Nat} (h : n < LB ^ k) : (digs n).length ≤ k := length_digs_le.2 h
theorem pow_le {k : Nat} (h : k ≤ 64) : LB ^ k ≤ LB ^ 64 := Nat.pow_le_pow_right LB_pos h
theorem lt64 {n k : Nat} (h : n < LB ^ k) (hk : k ≤ 64) : n < LB ^ 64 := Nat.lt_of_lt_of_le h (pow_le hk)
theorem add_lt_pow {x y k : Nat} (hx : x < LB ^ k) (hy : y < LB ^ k) : x + y < LB ^ (k + 1) := by
  rw [Nat.pow_succ]
  have := Nat.mul_le_mul_left (LB ^ k) LB_two
  omega
theorem mul_lt_pow {x y j k : Nat} (hx : x < LB ^ j) (hy : y < LB ^ k) : x * y < LB ^ (j + k) := by
  rw [Nat.pow_add]
  exact Nat.mul_lt_mul'' hx hy
theorem as_digs {xs : List Nat} (l : Limbs xs) (v : validB xs = true) : ∃ x, xs = digs x ∧ x < LB ^ xs.length := ⟨val xs, (digs_val_norm l (validB_iff.1 v).2).symm, val_lt l⟩
theorem addSp_num {x y : Nat} (hx : x < LB ^ 64) (hy : y < LB ^ 64) (h : x + y < LB ^ 64) : addSp (digs x) (digs y) = (digs (x + y), 0) := by
  unfold addSp; rw [validB_digs hx, validB_digs hy, val_digs, val_digs]; simp [h]
theorem mulSp_num {x y : Nat} (hx : x < LB ^ 64) (hy : y < LB ^ 64) (h : x * y < LB ^ 64) : mulSp (digs x) (digs y) = (digs (x * y), 0) := by
  rw [mulSp_fits (validB_digs hx) (validB_digs hy) (by rw [val_digs, val_digs]; exact h), val_digs, val_digs]
theorem subSp_num {x y : Nat} (hx : x < LB ^ 64) (hy : y < LB ^ 64) (h : y ≤ x) : subSp (digs x) (digs y) = (digs (x - y), 0) := by
  rw [subSp_ok (validB_digs hx) (validB_digs hy) (by rw [val_digs, val_digs]; exact h), val_digs, val_digs]
theorem cmpSp_num {x y : Nat} (hx : x < LB ^ 64) (hy : y < LB ^ 64) : cmpSp (digs x) (digs y) = cmpN x y := by
  rw [cmpSp_ok (validB_digs hx) (validB_digs hy), val_digs, val_digs]
theorem divSp_num {x y : Nat} (hx : x < LB ^ 64) (hy : y < LB ^ 64) (h : 0 < y) : divSp (digs x) (digs y) = (digs (x / y), digs (x % y), 0) := by
  rw [divSp_ok (validB_digs hx) (validB_digs hy) (by
    rcases Nat.eq_zero_or_pos (digs y).length with h0 | h0
    · have := digs_eq_nil.1 (List.eq_nil_of_length_eq_zero h0); omega
    · exact h0), val_digs, val_digs]
theorem bitsSp_num {x : Nat} (hx : x < LB ^ 64) : bitsSp (digs x) = blen x := by rw [bits_val (limbs_digs x) (validB_digs hx), val_digs]
theorem len_mega {x : Nat} (hx : x < LB ^ 64) : (digs x).length ≤ 1000000 := Nat.le_trans (digs_len hx) (by decide)

section

variable (A B : Option Addr) (n m c d x y : Nat) (w : World) (hn : (digs x).length = n) (hm : (digs y).length = m) (sx : Sl w A (digs x)) (sy : Sl w B (digs y)) (hx : x < LB ^ 64) (hy : y < LB ^ 64)

include hn hm sx sy hx hy
theorem add_num (h : x + y < LB ^ 64) : Calls Tryz.prog 61 #[.slice A n c, .slice B m d] w (Two w (digs (x + y), 0)) := by
  subst hn hm
  rw [← addSp_num hx hy h]
  exact add_any A B c d _ _ w sx sy (limbs_digs _) (limbs_digs _) (len_mega hx) (len_mega hy)
theorem mul_num (h : x * y < LB ^ 64) : Calls Tryz.prog 43 #[.slice A n c, .slice B m d] w (Two w (digs (x * y), 0)) := by
  subst hn hm
  rw [← mulSp_num hx hy h]
  exact mul_any A B c d _ _ w sx sy (limbs_digs _) (limbs_digs _) (len_mega hx) (len_mega hy)
theorem sub_num (h : y ≤ x) : Calls Tryz.prog 44 #[.slice A n c, .slice B m d] w (Two w (digs (x - y), 0)) := by
  subst hn hm
  rw [← subSp_num hx hy h]
  exact sub_any A B c d _ _ w sx sy (limbs_digs _) (limbs_digs _) (len_mega hx) (len_mega hy)
theorem sub_back (z : Nat) (h : z + y = x) : Calls Tryz.prog 44 #[.slice A n c, .slice B m d] w (Two w (digs z, 0)) := by
  have := sub_num A B n m c d x y w hn hm sx sy hx hy (by omega)
  rwa [show x - y = z by omega] at this
theorem cmp_num : Calls Tryz.prog 47 #[.slice A n c, .slice B m d] w (Quiet w (.int .i64 (cmpN x y))) := by
  subst hn hm
  rw [← cmpSp_num hx hy]
  exact cmp_any A B c d _ _ w sx sy (limbs_digs _) (limbs_digs _) (len_mega hx) (len_mega hy)
theorem same_num (h : x = y) : Calls Tryz.prog 14 #[.slice A n c, .slice B m d] w (Quiet w (.bool true)) :=
  law_same_t A B n m c d _ _ w hn hm sx sy (by rw [← hn]; exact len_mega hx) (by rw [← hm]; exact len_mega hy) (by rw [h])
end
theorem valid_num (A : Option Addr) (n c x : Nat) (w : World) (hn : (digs x).length = n) (sx : Sl w A (digs x)) (hx : x < LB ^ 64) : Calls Tryz.prog 15 #[.slice A n c] w fun e w' => e = .returned (.bool true) ∧ w = w' := by
  subst hn
  rw [← validB_digs hx]
  exact valid_any A c _ w sx (Nat.le_trans (len_mega hx) (by decide))
theorem bits_num (A : Option Addr) (n c x : Nat) (w : World) (hn : (digs x).length = n) (sx : Sl w A (digs x)) (hx : x < LB ^ 64) : Calls Tryz.prog 16 #[.slice A n c] w fun e w' => e = .returned (.int .i64 ((blen x : Nat) : Int)) ∧ w = w' := by
  subst hn
  rw [← bitsSp_num hx]
  exact bits_any A c _ w sx (limbs_digs _) (len_mega hx)
end Nt

end Go.Proofs.YtgmjdaallinicaaGreatDoor
