
/-
  nat.allDigits, nat.appendGroup, nat.Parse.
-/
import Derived.Test.YtgimmmmpollkhaaGreatNDivW
import Derived.Lib.Strings
import Derived.Lib.IndexBytes
import Derived.Lib.TrimByte
import Derived.Test.YtgimmmmpollkhaaGreatNMath4
import Derived.Shelf.Strings.Trim
namespace Go.Proofs.YtgimmmmpollkhaaGreat

open Go.RowKit Go.Shelf

namespace Nt

def GB : Nat := 10000000000000000000
theorem GB_lt : GB < LB := by decide
def GrpInv (xs : List Nat) (v k c : Nat) (cs : List Nat) : Prop := cs.length = k ∧ Limbs cs ∧ c < LB ∧ val cs + LB ^ k * c = val (xs.take k) * GB + v
theorem GrpInv.step {xs cs : List Nat} {v k c : Nat} (lx : Limbs xs) (h : GrpInv xs v k c cs) : GrpInv xs v (k + 1) (maHi (lim xs k) GB c 0) (cs ++ [maLo (lim xs k) GB c 0]) := by
  obtain ⟨h1, h2, h3, h4⟩ := h
  refine ⟨by simp [h1], h2.append (.one (maLo_lt _ _ _ _)), maHi_lt _ _ _ _ (lx.get k) GB_lt h3 LB_pos, ?_⟩
  have hm := ma_eq (lim xs k) GB c 0
  rw [val_append, val_one, val_take_succ, h1, Nat.pow_succ, Nat.add_mul]
  have : LB ^ k * (maLo (lim xs k) GB c 0 + LB * maHi (lim xs k) GB c 0) = LB ^ k * (lim xs k * GB + c + 0) := by rw [hm]
  rw [Nat.mul_add, Nat.mul_add, Nat.mul_add, ← Nat.mul_assoc, ← Nat.mul_assoc, Nat.mul_zero] at this
  omega
theorem GrpInv.fin {xs cs : List Nat} {v n c : Nat} (hn : xs.length = n) (nx : Norm xs) (h : GrpInv xs v n c cs) : digs (val xs * GB + v) = if c = 0 then cs else cs ++ [c] := by
  obtain ⟨h1, h2, h3, h4⟩ := h
  rw [List.take_of_length_le (by omega)] at h4
  by_cases h0 : c = 0
  · subst h0
    rw [if_pos rfl, ← h4, Nat.mul_zero, Nat.add_zero]
    refine digs_val_norm h2 (norm_of_le h2 ?_)
    by_cases hc : cs = []
    · exact .inl hc
    · right
      have hx : xs ≠ [] := by
        rintro rfl
        simp only [List.length_nil] at hn
        exact hc (List.eq_nil_of_length_eq_zero (by omega))
      have := le_val nx hx
      rw [h1, ← hn]
      have h5 : val xs * 1 ≤ val xs * GB := Nat.mul_le_mul_left _ (by decide)
      omega
  · rw [if_neg h0, ← h4]
    have e : val cs + LB ^ n * c = val (cs ++ [c]) := by rw [val_append, val_one, h1]
    rw [e]
    exact digs_val_norm (h2.append (.one h3)) ((norm_snoc _ _).2 h0)
theorem set_drop {cs xs : List Nat} {k : Nat} (x : Nat) (hc : cs.length = k) (h : k < xs.length) : (cs ++ xs.drop k).set k x = (cs ++ [x]) ++ xs.drop (k + 1) := by
  subst hc
  rw [drop_cons_lim h, set_mid, List.append_assoc, List.singleton_append]

end Nt

end Go.Proofs.YtgimmmmpollkhaaGreat
