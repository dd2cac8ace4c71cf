
/-
  The reference's ShiftNat.
-/
import Derived.Test.YtgmjdaallinicaaGreatDoorRefSd

import Derived.Test.YtgmjdaallinicaaGreatDoorRefDv

import Derived.Test.YtgmjdaallinicaaGreatDoorRefAdd

import Derived.Test.YtgmjdaallinicaaGreatDoorShift

namespace Go.Proofs.YtgmjdaallinicaaGreatDoor

open Go.RowKit

namespace Nt

theorem two_le_LB {n k e : Nat} (he : e = 64 * k) (h : n ≤ e) : 2 ^ n ≤ LB ^ k := by
  rw [LB_two_pow, ← he]; exact Nat.pow_le_pow_right (by decide) h
theorem LB_le_two {n k e : Nat} (he : e = 64 * k) (h : e ≤ n) : LB ^ k ≤ 2 ^ n := by
  rw [LB_two_pow, ← he]; exact Nat.pow_le_pow_right (by decide) h
theorem rfits_yes (A : Option Addr) (c : Nat) (xs : List Nat) (w : World) (h : xs.length ≤ 64) :
    Calls Tryz.prog 56 #[.slice A xs.length c] w fun e w' => e = .returned (.tuple #[.slice A xs.length c, .int .i64 0]) ∧ w = w' := by
  have := rfits_any A c xs w (by omega)
  rwa [if_pos h] at this
theorem rfits_no (A : Option Addr) (c : Nat) (xs : List Nat) (w : World) (h : ¬ xs.length ≤ 64) (h2 : xs.length ≤ 1000000) :
    Calls Tryz.prog 56 #[.slice A xs.length c] w fun e w' => e = .returned (.tuple #[.slice none 0 0, .int .i64 4]) ∧ w = w' := by
  have := rfits_any A c xs w h2
  rwa [if_neg h] at this
theorem upSp_le {xs : List Nat} {n : Nat} (v : validB xs = true) (h : (digs (val xs * 2 ^ n)).length ≤ 64) : upSp xs n = (digs (val xs * 2 ^ n), 0) := by
  unfold upSp; rw [v, if_pos rfl, if_pos (length_digs_le.1 h)]
theorem upSp_gt {xs : List Nat} {n : Nat} (v : validB xs = true) (h : ¬ (digs (val xs * 2 ^ n)).length ≤ 64) : upSp xs n = ([], 4) := by
  unfold upSp; rw [v, if_pos rfl, if_neg (fun h' => h (length_digs_le.2 h'))]
theorem val_pos_of {xs : List Nat} (v : validB xs = true) (h : xs.length ≠ 0) (lx : Limbs xs) : val xs ≠ 0 := by
  intro e
  have := digs_val_norm lx (validB_iff.1 v).2
  rw [e, digs_zero] at this
  rw [← this] at h
  exact h rfl

set_option maxRecDepth 100000 in
set_option maxHeartbeats 1000000 in
theorem rshiftNat_up (A : Option Addr) (c n : Nat) (xs : List Nat) (w : World) (hx : Sl w A xs) (lx : Limbs xs) (hl : xs.length ≤ 1000000) (hn : n ≤ 9223372036854775807) :
    Calls Tryz.prog 13 #[.slice A xs.length c, .int .i64 (n : Int)] w (R2 w (upSp xs n)) := by
  have V := hide (rvalid_any A c xs w hx (by omega))
  rcases vB (xs := xs) with vx | vx
  · rw [vx] at V
    have h64 := (validB_iff.1 vx).1
    by_cases h0 : xs.length = 0
    · have E := hide (upSp_zero n vx (by rw [List.eq_nil_of_length_eq_zero h0]; rfl))
      clear hx lx vx h64
      generalize xs.length = m at *
      subst h0
      go_enter Tryz.func13, Tryz.ntmps13
      go_wp2_with (go_at_call 49; (with_reducible refine (V.out).mono ?_); rintro e w' ⟨rfl, rfl⟩)
      go_ret2
      exact R2.mk E.out rfl .nil (.refl _ _)
    · have hne : ((xs.length : Int) == 0) = false := beq_eq_false_iff_ne.2 (by omega)
      have hlo : -4096 ≤ (n : Int) := by omega
      by_cases hsm : n ≤ 4096
      · have hle : (n : Int) ≤ 4096 := by omega
        have U := hide (rshift_up A c n xs w hx lx (by omega) (by omega))
        have hbig : (digs (val xs * 2 ^ n)).length ≤ 64 + 64 := length_digs_le.2 (by
          have h1 : val xs < LB ^ 64 := Nat.lt_of_lt_of_le (val_lt lx) (Nat.pow_le_pow_right LB_pos h64)
          have h2 : (2 : Nat) ^ n ≤ LB ^ 64 := two_le_LB (e := 4096) rfl hsm
          have h3 : val xs * 2 ^ n ≤ val xs * LB ^ 64 := Nat.mul_le_mul_left _ h2
          have h4 : val xs * LB ^ 64 < LB ^ 64 * LB ^ 64 := Nat.mul_lt_mul_of_pos_right h1 (LB_pow_pos 64)
          rw [← Nat.pow_add] at h4
          exact Nat.lt_of_le_of_lt h3 h4)
        by_cases hf : (digs (val xs * 2 ^ n)).length ≤ 64
        · have E := hide (upSp_le vx hf)
          clear hx lx vx
          generalize digs (val xs * 2 ^ n) = ds at *
          go_enter Tryz.func13, Tryz.ntmps13
          go_wp2_with (first
            | (go_at_call 49; (with_reducible refine (V.out).mono ?_); rintro e w' ⟨rfl, rfl⟩)
            | (go_at_call 57; (with_reducible refine (U.out).mono ?_); rintro e w1 ⟨A1, c1, rfl, hr1, hb1⟩)
            | (go_at_call 56; (with_reducible refine (rfits_yes _ _ _ _ hf).mono ?_); rintro e w' ⟨rfl, rfl⟩))
          go_ret2
          exact R2.mk E.out rfl hr1.sl hb1
        · have E := hide (upSp_gt vx hf)
          clear hx lx vx
          generalize digs (val xs * 2 ^ n) = ds at *
          go_enter Tryz.func13, Tryz.ntmps13
          go_wp2_with (first
            | (go_at_call 49; (with_reducible refine (V.out).mono ?_); rintro e w' ⟨rfl, rfl⟩)
            | (go_at_call 57; (with_reducible refine (U.out).mono ?_); rintro e w1 ⟨A1, c1, rfl, hr1, hb1⟩)
            | (go_at_call 56; (with_reducible refine (rfits_no _ _ _ _ hf (by omega)).mono ?_); rintro e w' ⟨rfl, rfl⟩))
          go_ret2
          exact R2.mk E.out rfl .nil hb1
      · have E := hide (upSp_big vx (val_pos_of vx h0 lx) (show 4096 < blen (val xs) + n by omega))
        have hle : 4096 < (n : Int) := by omega
        clear hx lx vx
        go_enter Tryz.func13, Tryz.ntmps13
        go_wp2_with (go_at_call 49; (with_reducible refine (V.out).mono ?_); rintro e w' ⟨rfl, rfl⟩)
        go_ret2
        exact R2.mk E.out rfl .nil (.refl _ _)
  · rw [vx] at V
    have E := hide (upSp_no n vx)
    go_enter Tryz.func13, Tryz.ntmps13
    go_wp2_with (go_at_call 49; (with_reducible refine (V.out).mono ?_); rintro e w' ⟨rfl, rfl⟩)
    go_ret2
    exact R2.mk E.out rfl .nil (.refl _ _)

set_option maxRecDepth 100000 in
set_option maxHeartbeats 1000000 in
theorem rshiftNat_down (A : Option Addr) (c n : Nat) (xs : List Nat) (z : Int) (w : World) (hx : Sl w A xs) (lx : Limbs xs) (hl : xs.length ≤ 1000000) (hlc : xs.length ≤ c) (hn : 0 < n) (hz : z = -(n : Int)) (hmin : -9223372036854775808 ≤ z) :
    Calls Tryz.prog 13 #[.slice A xs.length c, .int .i64 z] w (R2 w (downSp xs n)) := by
  have V := hide (rvalid_any A c xs w hx (by omega))
  rcases vB (xs := xs) with vx | vx
  · rw [vx] at V
    have h64 := (validB_iff.1 vx).1
    have hv : val xs < LB ^ 64 := Nat.lt_of_lt_of_le (val_lt lx) (Nat.pow_le_pow_right LB_pos h64)
    by_cases h0 : xs.length = 0
    · have E := hide (show downSp xs n = ([], 0) by rw [downSp_ok vx, List.eq_nil_of_length_eq_zero h0, val_nil, Nat.zero_div, digs_zero])
      clear hx lx vx h64 hlc hz
      generalize xs.length = m at *
      subst h0
      go_enter Tryz.func13, Tryz.ntmps13
      go_wp2_with (go_at_call 49; (with_reducible refine (V.out).mono ?_); rintro e w' ⟨rfl, rfl⟩)
      go_ret2
      exact R2.mk E.out rfl .nil (.refl _ _)
    · have hne : ((xs.length : Int) == 0) = false := beq_eq_false_iff_ne.2 (by omega)
      by_cases hsm : n ≤ 4096
      · have hlo : -4096 ≤ z := by omega
        have hle : z ≤ 4096 := by omega
        obtain ⟨b, o, rfl, ha⟩ := hx.at_ (by omega)
        have U := hide (rshift_down b o c n xs z w ha lx (by omega) hlc hn (by omega) hz)
        have hf : (digs (val xs / 2 ^ n)).length ≤ 64 := length_digs_le.2 (Nat.lt_of_le_of_lt (Nat.div_le_self _ _) hv)
        have E := hide (downSp_ok (n := n) vx)
        clear hx lx vx hz ha hv
        generalize digs (val xs / 2 ^ n) = ds at *
        go_enter Tryz.func13, Tryz.ntmps13
        go_wp2_with (first
          | (go_at_call 49; (with_reducible refine (V.out).mono ?_); rintro e w' ⟨rfl, rfl⟩)
          | (go_at_call 57; (with_reducible refine (U.out).mono ?_); rintro e w1 ⟨A1, c1, rfl, hr1, hb1⟩)
          | (go_at_call 56; (with_reducible refine (rfits_yes _ _ _ _ hf).mono ?_); rintro e w' ⟨rfl, rfl⟩))
        go_ret2
        exact R2.mk E.out rfl hr1.sl hb1
      · have hlo : z < -4096 := by omega
        have E := hide (show downSp xs n = ([], 0) by rw [downSp_ok vx, Nat.div_eq_of_lt (Nat.lt_of_lt_of_le hv (LB_le_two (e := 4096) rfl (by omega))), digs_zero])
        clear hx lx vx hz hv
        go_enter Tryz.func13, Tryz.ntmps13
        go_wp2_with (go_at_call 49; (with_reducible refine (V.out).mono ?_); rintro e w' ⟨rfl, rfl⟩)
        go_ret2
        exact R2.mk E.out rfl .nil (.refl _ _)
  · rw [vx] at V
    have E := hide (downSp_no n vx)
    clear hz
    go_enter Tryz.func13, Tryz.ntmps13
    go_wp2_with (go_at_call 49; (with_reducible refine (V.out).mono ?_); rintro e w' ⟨rfl, rfl⟩)
    go_ret2
    exact R2.mk E.out rfl .nil (.refl _ _)
end Nt

end Go.Proofs.YtgmjdaallinicaaGreatDoor
