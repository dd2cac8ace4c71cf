
/-
  nat.groupsOf, nat.Text.
-/
import Derived.Test.YtgimmmmpollkhaaGreatMathG

import Derived.Test.YtgimmmmpollkhaaGreatDivide

namespace Go.Proofs.YtgimmmmpollkhaaGreat

open Go.RowKit

namespace Nt

theorem dwR_GB (xs : List Nat) : dwR xs GB = val xs % GB := (dw_val (by decide)).2
theorem dwQ_GB (xs : List Nat) : val (dwQ xs GB) = val xs / GB := (dw_val (by decide)).1

/-- One group more. -/
theorem grps_step {N m : Nat} {cs : List Nat} (h : cs ++ (if m = 0 then [] else grps m) = grps N) (hm : m ≠ 0) : (cs ++ [m % GB]) ++ (if m / GB = 0 then [] else grps (m / GB)) = grps N := by
  rw [if_neg hm] at h
  rw [← h, List.append_assoc]
  congr 1
  by_cases hs : m < GB
  · rw [grps_small hs, if_pos (Nat.div_eq_of_lt hs), Nat.mod_eq_of_lt hs]; rfl
  · have : m / GB ≠ 0 := by
      have : 0 < m / GB := Nat.div_pos (by omega) (by decide)
      omega
    rw [grps_big hs, if_neg this]; rfl
theorem grps_start (N : Nat) : [N % GB] ++ (if N / GB = 0 then [] else grps (N / GB)) = grps N := by
  by_cases hs : N < GB
  · rw [grps_small hs, if_pos (Nat.div_eq_of_lt hs), Nat.mod_eq_of_lt hs]; rfl
  · have : N / GB ≠ 0 := by
      have : 0 < N / GB := Nat.div_pos (by omega) (by decide)
      omega
    rw [grps_big hs, if_neg this]; rfl
theorem grps_len' {xs : List Nat} {n : Nat} (lx : Limbs xs) (h : xs.length ≤ n) : (grps (val xs)).length ≤ 2 * n + 1 := by
  refine grps_len ?_
  refine Nat.lt_of_lt_of_le (val_lt lx) ?_
  have h1 : LB ≤ GB ^ 2 := by decide
  have h2 : LB ^ xs.length ≤ (GB ^ 2) ^ xs.length := Nat.pow_le_pow_left h1 _
  rw [← Nat.pow_mul] at h2
  exact Nat.le_trans h2 (Nat.pow_le_pow_right (by decide) (by omega))

/-- A number's lowest group. -/
def gmod (n : Nat) : Nat := n % GB
theorem dword_nil_G (A : Option Addr) (c : Nat) (w : World) :
    Calls Tryz.prog 148 #[.slice A 0 c, .int .u64 10000000000000000000] w fun e w' => e = .returned (.int .u64 0) ∧ w = w' := dword_nil A c GB w
theorem dword_at_G (b o c n : Nat) (xs : List Nat) (w : World) (hn : xs.length = n) (h : At w b o xs) (hf : Free w b o n) (lx : Limbs xs) (hl : n ≤ 100000) :
    Calls Tryz.prog 148 #[.slice (some ⟨b, o, none⟩) n c, .int .u64 10000000000000000000] w fun e w' => e = .returned (.int .u64 ((gmod (val xs) : Nat) : Int)) ∧ At w' b o (dwQ xs GB) ∧ Wrote w w' b o n := by
  unfold gmod
  rw [← dwR_GB]
  exact dword_at b o c GB n xs w hn h hf lx (by decide) GB_lt hl
theorem At.sl_trim {w : World} {b o : Nat} {xs : List Nat} (h : At w b o xs) : At w b o (trimz xs) := by
  refine ⟨h.1, fun j hj => ?_⟩
  have hl := trimz_len_le xs
  rw [h.2 j (by omega), ← trimz_prefix, lim_take hj]
/-- A row of words just laid by a literal. -/
theorem Row.lit {base : Nat} (w : World) (x : Nat) (hb : base ≤ w.heap.size) : Row (w.alloc (.cells #[.int .u64 (x : Int)] 119)) base (some ⟨w.heap.size, 0, none⟩) 1 1 [x] :=
  (Own.mk (cur := #[lv x]) hb (heap_alloc_new w _) (Nat.le_refl _) (by simp only [maxLen, List.length_singleton]; omega) rfl rfl).row rfl
theorem Row.lit0 {base : Nat} (w : World) (hb : base ≤ w.heap.size) : Row (w.alloc (.cells #[.int .u64 0] 119)) base (some ⟨w.heap.size, 0, none⟩) 1 1 [0] := Row.lit w 0 hb

theorem trim_nil (A : Option Addr) (c : Nat) (w : World) :
    Calls Tryz.prog 149 #[.slice A 0 c] w fun e w' => e = .returned (.slice A 0 c) ∧ w = w' := trim_n A 0 c [] w rfl .nil (Nat.zero_le _) (Nat.zero_le _)
end Nt

end Go.Proofs.YtgimmmmpollkhaaGreat
