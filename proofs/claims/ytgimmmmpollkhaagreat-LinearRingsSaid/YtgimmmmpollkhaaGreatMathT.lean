
/-
  Plain mathematics: texts of decimal digits.
-/
import Derived.Test.YtgimmmmpollkhaaGreatDivW

import Derived.Lib.Strings

import Derived.Lib.IndexBytes

import Derived.Lib.TrimByte

namespace Go.Proofs.YtgimmmmpollkhaaGreat

open Go.RowKit

namespace Nt

def isD (c : UInt8) : Bool := decide (48 ≤ c.toNat ∧ c.toNat ≤ 57)
def digD (c : UInt8) : Nat := c.toNat - 48
def decF (a : Nat) (l : List UInt8) : Nat := l.foldl (fun a c => a * 10 + digD c) a
def decV (l : List UInt8) : Nat := decF 0 l
def digitsB (l : List UInt8) : Bool := l.all isD && decide (l ≠ [])
/-- What a text is, as the document says. -/
def parseSp (l : List UInt8) : List Nat × Nat := if digitsB l then (if decV l < LB ^ 64 then (digs (decV l), 0) else ([], 4)) else ([], 2)

theorem decF_snoc (a : Nat) (l : List UInt8) (c : UInt8) : decF a (l ++ [c]) = decF a l * 10 + digD c := by unfold decF; rw [List.foldl_append]; rfl
theorem decV_snoc (l : List UInt8) (c : UInt8) : decV (l ++ [c]) = decV l * 10 + digD c := decF_snoc 0 l c
theorem decF_append (a : Nat) (l m : List UInt8) : decF a (l ++ m) = decF (decF a l) m := by unfold decF; rw [List.foldl_append]
theorem decF_eq (a : Nat) (l : List UInt8) : decF a l = a * 10 ^ l.length + decV l := by
  induction l generalizing a with
  | nil => simp [decF, decV]
  | cons c l ih =>
    have e1 : decF a (c :: l) = decF (a * 10 + digD c) l := rfl
    have e2 : decV (c :: l) = decF (0 * 10 + digD c) l := rfl
    rw [e1, e2, ih, ih (0 * 10 + digD c), List.length_cons, Nat.pow_succ, Nat.add_mul, Nat.zero_mul, Nat.zero_add, Nat.mul_assoc, Nat.mul_comm 10]
    omega
theorem decV_append (l m : List UInt8) : decV (l ++ m) = decV l * 10 ^ m.length + decV m := by
  unfold decV; rw [decF_append]; exact decF_eq _ _
theorem digD_le {c : UInt8} (h : isD c = true) : digD c ≤ 9 := by
  have := of_decide_eq_true h
  unfold digD; omega
theorem decF_lt {l : List UInt8} (h : l.all isD = true) (a : Nat) : decF a l < (a + 1) * 10 ^ l.length := by
  induction l generalizing a with
  | nil => simp [decF]
  | cons c l ih =>
    rw [List.all_cons, Bool.and_eq_true] at h
    have h1 := ih h.2 (a * 10 + digD c)
    have h2 := digD_le h.1
    have e1 : decF a (c :: l) = decF (a * 10 + digD c) l := rfl
    rw [e1, List.length_cons, Nat.pow_succ, Nat.mul_comm (10 ^ l.length), ← Nat.mul_assoc]
    exact Nat.lt_of_lt_of_le h1 (Nat.mul_le_mul_right _ (by omega))
theorem decV_lt {l : List UInt8} (h : l.all isD = true) : decV l < 10 ^ l.length := by
  have := decF_lt h 0
  rwa [Nat.zero_add, Nat.one_mul] at this
theorem decV_zeros (l : List UInt8) : decV (l.dropWhile (· == 48)) = decV l := by
  induction l with
  | nil => rfl
  | cons c l ih =>
    rw [List.dropWhile_cons]
    by_cases h : (c == 48) = true
    · rw [if_pos h, ih]
      have hc : c = 48 := by simpa using h
      have e : decV (c :: l) = decV ([c] ++ l) := rfl
      rw [e, decV_append, hc]
      simp [decV, decF, digD]
    · rw [if_neg h]
theorem all_dropWhile {l : List UInt8} (h : l.all isD = true) : (l.dropWhile (· == 48)).all isD = true := by
  rw [List.all_eq_true] at h ⊢
  intro x hx
  exact h x (List.dropWhile_subset _ hx)
/-- Without noughts ahead a text of k digits is at least 10^(k-1). -/
theorem decV_ge {c : UInt8} {l : List UInt8} (hc : isD c = true) (h0 : c ≠ 48) : 10 ^ l.length ≤ decV (c :: l) := by
  have e : decV (c :: l) = decV ([c] ++ l) := rfl
  have h := of_decide_eq_true hc
  have h1 : c.toNat ≠ 48 := fun e => h0 (UInt8.toNat_inj.1 (by rw [e]; rfl))
  have h2 : 1 ≤ digD c := by unfold digD; omega
  have h3 : decV [c] = digD c := by simp [decV, decF]
  rw [e, decV_append, h3]
  have := Nat.mul_le_mul_right (10 ^ l.length) h2
  omega
theorem dropWhile_head {l m : List UInt8} {c : UInt8} (h : l.dropWhile (· == 48) = c :: m) : c ≠ 48 := by
  induction l with
  | nil => simp at h
  | cons x l ih =>
    rw [List.dropWhile_cons] at h
    split at h
    · exact ih h
    · rename_i hx
      injection h with h1 _
      subst h1
      simpa using hx
theorem LB_pow (m e : Nat) (he : e = 64 * m) : LB ^ m = 2 ^ e := by subst he; rw [Nat.pow_mul]; rfl
theorem pow_big (n e f : Nat) (he : e = 93 * n + 4) (hf : f = 28 * n + 2) : 2 ^ e ≤ 10 ^ f := by
  subst he hf
  rw [Nat.pow_add, Nat.pow_add, Nat.pow_mul, Nat.pow_mul]
  exact Nat.mul_le_mul (Nat.pow_le_pow_left (by omega) _) (by omega)
theorem big_text {c : UInt8} {l : List UInt8} (hc : isD c = true) (h0 : c ≠ 48) (hl : 1234 ≤ l.length) : LB ^ 64 ≤ decV (c :: l) := by
  have key : ∀ m n e f : Nat, m = 64 → n = 44 → e = 64 * m → f = 28 * n + 2 → LB ^ m ≤ decV (c :: l) := fun m n e f hm hn he hf => by
    refine Nat.le_trans ?_ (decV_ge hc h0)
    refine Nat.le_trans ?_ (Nat.pow_le_pow_right (by omega) (show f ≤ l.length by omega))
    rw [LB_pow m e he]
    exact pow_big n e f (by omega) hf
  exact key 64 44 _ _ rfl rfl rfl rfl
end Nt

end Go.Proofs.YtgimmmmpollkhaaGreat
