
/-
  The small functions of package nat: limb, Valid, mulAdd.
-/
import Derived.Test.YtgimmmmpollkhaaGreatNBits
namespace Go.Proofs.YtgimmmmpollkhaaGreat

open Go.RowKit

namespace Nt

set_option maxHeartbeats 400000 in
theorem limb_any (A : Option Addr) (c : Nat) (xs : List Nat) (i : Nat) (w : World) (hs : Sl w A xs) (hl : xs.length ≤ 1000000) (hi : i ≤ 1000000) :
    Calls Tryz.prog 159 #[.slice A xs.length c, .int .i64 (i : Int)] w fun e w' => e = .returned (.int .u64 ((lim xs i : Nat) : Int)) ∧ w = w' := by
  by_cases h : i < xs.length
  · obtain ⟨b, o, rfl, ha⟩ := hs.at_ (by omega)
    have hc := ha.cell h
    clear ha hs
    generalize lim xs i = x at hc ⊢
    go_enter Tryz.func159, Tryz.ntmps159
    go_wp2
    go_ret
    exact ⟨rfl, rfl⟩
  · rw [lim_none (by omega)]
    clear hs
    have h' : xs.length ≤ i := by omega
    go_enter Tryz.func159, Tryz.ntmps159
    go_wp2
    go_ret
    exact ⟨rfl, rfl⟩

def validB (xs : List Nat) : Bool := decide (xs.length ≤ 64 ∧ Norm xs)
theorem validB_iff {xs : List Nat} : validB xs = true ↔ xs.length ≤ 64 ∧ Norm xs := by unfold validB; exact decide_eq_true_iff

set_option maxHeartbeats 400000 in
theorem valid_any (A : Option Addr) (c : Nat) (xs : List Nat) (w : World) (hs : Sl w A xs) (hl : xs.length ≤ 9223372036854775807) :
    Calls Tryz.prog 98 #[.slice A xs.length c] w fun e w' => e = .returned (.bool (validB xs)) ∧ w = w' := by
  by_cases h0 : xs.length = 0
  · have : validB xs = true := by
      have : xs = [] := List.eq_nil_of_length_eq_zero h0
      subst this; rfl
    rw [this]
    clear this hs
    generalize xs.length = n at *
    subst h0
    go_enter Tryz.func98, Tryz.ntmps98
    go_wp2
    go_ret
    exact ⟨rfl, rfl⟩
  · obtain ⟨b, o, rfl, ha⟩ := hs.at_ (by omega)
    have hc := ha.cell (j := xs.length - 1) (by omega)
    have hv : validB xs = decide (xs.length ≤ 64 ∧ lim xs (xs.length - 1) ≠ 0) := by
      unfold validB Norm
      have : xs ≠ [] := by rintro rfl; simp at h0
      simp [this]
    rw [hv]
    clear hv ha hs
    generalize lim xs (xs.length - 1) = x at hc ⊢
    generalize xs.length = n at *
    by_cases h1 : n ≤ 64
    · by_cases h2 : x = 0
      · subst h2
        have e : decide (n ≤ 64 ∧ (0 : Nat) ≠ 0) = false := by simp
        rw [e]; clear e
        have h3 : 0 < n := by omega
        have h5 : ((n : Int) == 0) = false := by simp; omega
        clear h0
        go_enter Tryz.func98, Tryz.ntmps98
        go_wp2
        go_ret
        exact ⟨rfl, rfl⟩
      · have e : decide (n ≤ 64 ∧ x ≠ 0) = true := by simp [h1, h2]
        rw [e]; clear e
        have h3 : 0 < n := by omega
        have h4 : ((x : Int) != 0) = true := by simp; omega
        clear h0
        go_enter Tryz.func98, Tryz.ntmps98
        go_wp2
        go_ret
        exact ⟨rfl, rfl⟩
    · have e : decide (n ≤ 64 ∧ x ≠ 0) = false := by simp [h1]
      rw [e]; clear e hc
      have h3 : 64 < n := by omega
      have h5 : ((n : Int) == 0) = false := by simp; omega
      clear h0 h1
      go_enter Tryz.func98, Tryz.ntmps98
      go_wp2
      go_ret
      exact ⟨rfl, rfl⟩

def maLo (x y c d : Nat) : Nat := (x * y + c + d) % LB
def maHi (x y c d : Nat) : Nat := (x * y + c + d) / LB
theorem ma_eq (x y c d : Nat) : maLo x y c d + LB * maHi x y c d = x * y + c + d := Nat.mod_add_div _ _
theorem maLo_lt (x y c d : Nat) : maLo x y c d < LB := Nat.mod_lt _ LB_pos
theorem maHi_lt (x y c d : Nat) (hx : x < LB) (hy : y < LB) (hc : c < LB) (hd : d < LB) : maHi x y c d < LB := by
  unfold maHi
  rw [Nat.div_lt_iff_lt_mul LB_pos]
  have : x * y ≤ (LB - 1) * (LB - 1) := Nat.mul_le_mul (by omega) (by omega)
  have e : (LB - 1) * (LB - 1) + LB + LB = LB * LB + 1 := by rw [LB_eq]
  omega
theorem mulAdd_lo (x y c d : Nat) : sumL (sumL (mulLo x y) c 0) d 0 = maLo x y c d := by
  unfold sumL mulLo maLo
  simp only [Nat.add_zero, Nat.mod_add_mod]
theorem mulAdd_hi (x y c d : Nat) : mulHi x y + carL (mulLo x y) c 0 + carL (sumL (mulLo x y) c 0) d 0 = maHi x y c d := by
  have h1 := mul_eq x y
  have h2 := sum_eq (mulLo x y) c 0
  have h3 := sum_eq (sumL (mulLo x y) c 0) d 0
  have h4 := ma_eq x y c d
  have h5 := mulAdd_lo x y c d
  have : LB * (mulHi x y + carL (mulLo x y) c 0 + carL (sumL (mulLo x y) c 0) d 0) = LB * maHi x y c d := by
    rw [Nat.mul_add, Nat.mul_add]; omega
  exact Nat.eq_of_mul_eq_mul_left LB_pos this

set_option maxRecDepth 100000 in
set_option maxHeartbeats 400000 in
theorem mulAdd_any (x y c d : Nat) (hx : x < LB) (hy : y < LB) (hc : c < LB) (hd : d < LB) (w : World) :
    Calls Tryz.prog 160 #[.int .u64 (x : Int), .int .u64 (y : Int), .int .u64 (c : Int), .int .u64 (d : Int)] w fun e w' =>
      e = .returned (.tuple #[.int .u64 ((maLo x y c d : Nat) : Int), .int .u64 ((maHi x y c d : Nat) : Int)]) ∧ w = w' := by
  go_enter Tryz.func160, Tryz.ntmps160
  go_wp2_with (first | (go_at_call 131; refine (mul64 _ _ hx hy _).mono ?_; rintro e w' ⟨rfl, rfl⟩) | simp only [add64_0])
  go_ret2
  have e := mulAdd_hi x y c d
  have l := maHi_lt x y c d hx hy hc hd
  refine ⟨ret_two (by rw [mulAdd_lo]) ?_, rfl⟩
  rw [← Int.natCast_add, wrapN _ (by omega), ← Int.natCast_add, wrapN _ (by omega), e]

end Nt

end Go.Proofs.YtgimmmmpollkhaaGreat
