
/-
  nat.trim.
-/
import Derived.Test.YtgimmmmpollkhaaGreatNSmall
namespace Go.Proofs.YtgimmmmpollkhaaGreat

open Go.RowKit

namespace Nt

theorem trimz_step {xs : List Nat} {k : Nat} (h : k < xs.length) (h0 : lim xs k = 0) : trimz (xs.take (k + 1)) = trimz (xs.take k) := by
  rw [take_succ_lim h, h0, trimz_append_zero]
theorem trimz_stop {xs : List Nat} {k : Nat} (h : k < xs.length) (h0 : lim xs k ≠ 0) : trimz (xs.take (k + 1)) = xs.take (k + 1) := by
  rw [take_succ_lim h]; exact trimz_append_pos _ h0
theorem trimz_len_le (xs : List Nat) : (trimz xs).length ≤ xs.length := by
  induction xs with
  | nil => simp [trimz]
  | cons z ys ih =>
    rw [trimz]
    split
    · simp
    · simp; exact ih
theorem trimz_prefix (xs : List Nat) : xs.take (trimz xs).length = trimz xs := by
  induction xs with
  | nil => simp [trimz]
  | cons z ys ih =>
    rw [trimz]
    split
    · simp
    · simp [ih]
theorem Sl.take {w : World} {A : Option Addr} {xs : List Nat} (h : Sl w A xs) (k : Nat) : Sl w A (xs.take k) := by
  rcases h with rfl | ⟨b, o, e, h⟩
  · simp [Sl]
  · refine .inr ⟨b, o, e, h.1, fun j hj => ?_⟩
    rw [List.length_take] at hj
    rw [h.2 j (by omega)]
    rw [lim_take (by omega)]
theorem Sl.trim {w : World} {A : Option Addr} {xs : List Nat} (h : Sl w A xs) : Sl w A (trimz xs) := by
  rw [← trimz_prefix]; exact h.take _

theorem ret_slice {A : Option Addr} {n m c : Nat} (h : n = m) : Ending.returned (.slice A n c) = .returned (.slice A m c) := by rw [h]

set_option maxHeartbeats 400000 in
theorem trim_any (A : Option Addr) (c : Nat) (xs : List Nat) (w : World) (hs : Sl w A xs) (hl : xs.length ≤ c) (hn : xs.length ≤ 1000000) :
    Calls Tryz.prog 149 #[.slice A xs.length c] w fun e w' => e = .returned (.slice A (trimz xs).length c) ∧ w = w' := by
  go_enter Tryz.func149, Tryz.ntmps149
  go_wp2
  go_loop [0] (fun v => ∃ k : Nat, k ≤ xs.length ∧ v = .slice A k c ∧ trimz (xs.take k) = trimz xs) (fun v => match v with | .slice _ k _ => k | _ => 0)
  case atStart => exact ⟨xs.length, by omega, rfl, by rw [List.take_length]⟩
  case round =>
    obtain ⟨k, hk, rfl, ht⟩ := hrel
    cases k with
    | zero =>
      have T := hide ht
      clear ht
      go_wp2
      go_ret
      exact ⟨ret_slice (by rw [← T.out]; simp [trimz]), rfl⟩
    | succ k =>
      obtain ⟨b, o, rfl, ha⟩ := hs.at_ (by omega)
      have hcell := ha.cell (j := k) (by omega)
      by_cases h0 : lim xs k = 0
      · have T := hide ((trimz_step (by omega) h0).symm.trans ht)
        rw [h0] at hcell
        clear ht ha h0
        go_wp2
        go_round
        case rel => exact ⟨k, by omega, rfl, T.out⟩
        case measure => simp
      · have T := hide ((trimz_stop (by omega) h0).symm.trans ht)
        have L := hide hk
        generalize lim xs k = x at hcell h0
        have h4 : ((x : Int) == 0) = false := by simp; omega
        clear ht ha
        go_wp2
        go_ret
        exact ⟨ret_slice (by rw [← T.out, List.length_take, Nat.min_eq_left L.out]), rfl⟩
end Nt

end Go.Proofs.YtgimmmmpollkhaaGreat
