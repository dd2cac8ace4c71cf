
/-
  nat.Shift.
-/
import Derived.Test.YtgmjdaallinicaaGreatDoorLongZ

import Derived.Test.YtgmjdaallinicaaGreatDoorNum

namespace Go.Proofs.YtgmjdaallinicaaGreatDoor

open Go.RowKit

namespace Nt

/-- A shift up, a shift down, as the document says. -/
def upSp (xs : List Nat) (n : Nat) : List Nat × Nat := if validB xs then (if val xs * 2 ^ n < LB ^ 64 then (digs (val xs * 2 ^ n), 0) else ([], 4)) else ([], 1)
def downSp (xs : List Nat) (n : Nat) : List Nat × Nat := if validB xs then (digs (val xs / 2 ^ n), 0) else ([], 1)
theorem upSp_no {xs : List Nat} (n : Nat) (h : validB xs = false) : upSp xs n = ([], 1) := by unfold upSp; rw [h]; rfl
theorem downSp_no {xs : List Nat} (n : Nat) (h : validB xs = false) : downSp xs n = ([], 1) := by unfold downSp; rw [h]; rfl
theorem up_lt_k {v n : Nat} (h0 : v ≠ 0) (k e : Nat) (he : e = 64 * k) : v * 2 ^ n < LB ^ k ↔ blen v + n ≤ e := by
  rw [LB_two_pow, ← blen_le_iff, blen_shift h0, he]
theorem up_lt {v n : Nat} (h0 : v ≠ 0) : v * 2 ^ n < LB ^ 64 ↔ blen v + n ≤ 4096 := up_lt_k h0 64 4096 rfl
theorem upSp_zero {xs : List Nat} (n : Nat) (v : validB xs = true) (h : val xs = 0) : upSp xs n = ([], 0) := by
  unfold upSp
  rw [v, if_pos rfl, h, Nat.zero_mul, if_pos (LB_pow_pos 64), digs_zero]
theorem upSp_fits {xs : List Nat} {n : Nat} (v : validB xs = true) (h0 : val xs ≠ 0) (h : blen (val xs) + n ≤ 4096) : upSp xs n = (digs (val xs * 2 ^ n), 0) := by
  unfold upSp
  rw [v, if_pos rfl, if_pos ((up_lt h0).2 h)]
theorem upSp_big {xs : List Nat} {n : Nat} (v : validB xs = true) (h0 : val xs ≠ 0) (h : 4096 < blen (val xs) + n) : upSp xs n = ([], 4) := by
  unfold upSp
  rw [v, if_pos rfl, if_neg (fun h' => by have := (up_lt h0).1 h'; omega)]
theorem downSp_ok {xs : List Nat} {n : Nat} (v : validB xs = true) : downSp xs n = (digs (val xs / 2 ^ n), 0) := by
  unfold downSp; rw [v]; rfl
theorem down_zero {v n : Nat} (h : blen v ≤ n) : digs (v / 2 ^ n) = [] := by
  rw [Nat.div_eq_of_lt (blen_le_iff.1 h), digs_zero]
theorem blen_eq_zero {v : Nat} : blen v = 0 ↔ v = 0 := by
  constructor
  · intro h
    rcases Nat.eq_zero_or_pos v with h0 | h0
    · exact h0
    · have := (blen_lo (n := v) (by omega)).1; omega
  · intro h; subst h; rfl

set_option maxRecDepth 100000 in
set_option maxHeartbeats 1000000 in
theorem shift_up (A : Option Addr) (c n : Nat) (xs : List Nat) (w : World) (hx : Sl w A xs) (lx : Limbs xs) (hl : xs.length ≤ 1000000) (hn : n ≤ 9223372036854775807) :
    Calls Tryz.prog 12 #[.slice A xs.length c, .int .i64 (n : Int)] w (Two w (upSp xs n)) := by
  have V := hide (valid_any A c xs w hx (by omega))
  have B := hide (bits_any A c xs w hx lx hl)
  rcases vB (xs := xs) with vx | vx
  · rw [vx] at V
    have hb := bits_val lx vx
    have hble := bitsSp_le lx vx
    have h64 := (validB_iff.1 vx).1
    by_cases h0 : val xs = 0
    · have E := hide (upSp_zero n vx h0)
      rw [hb, h0, blen_zero] at B
      clear hx lx hb hble h0 vx
      go_enter Tryz.func12, Tryz.ntmps12
      go_wp2_with (first
        | (go_at_call 16; (with_reducible refine (B.out).mono ?_); rintro e w' ⟨rfl, rfl⟩)
        | (go_at_call 15; (with_reducible refine (V.out).mono ?_); rintro e w' ⟨rfl, rfl⟩))
      go_ret2
      exact Two.mk E.out (.nil _) (.refl _ _)
    · have hbp : 0 < bitsSp xs := by
        rw [hb]
        have := (blen_lo h0).1; omega
      have hb0 : ((bitsSp xs : Int) == 0) = false := beq_eq_false_iff_ne.2 (by omega)
      by_cases hbig : bitsSp xs + n ≤ 4096
      · have E := hide (upSp_fits vx h0 (by rw [← hb]; exact hbig))
        have U := hide (shiftUp_any A c n xs w hx lx (by omega) (by omega))
        clear hx lx hb h0 vx
        generalize bitsSp xs = z at *
        go_enter Tryz.func12, Tryz.ntmps12
        go_wp2_with (first
          | (go_at_call 16; (with_reducible refine (B.out).mono ?_); rintro e w' ⟨rfl, rfl⟩)
          | (go_at_call 15; (with_reducible refine (V.out).mono ?_); rintro e w' ⟨rfl, rfl⟩)
          | (go_at_call 55; (with_reducible refine (U.out).mono ?_); rintro e w1 ⟨g, N, out, rfl, hN, nb, hd, lo, ho, hb1⟩; have T := hide (trim_n (some ⟨g, 0, none⟩) N N out w1 hN ho.sl (Nat.le_refl _) (by omega)); have RR := hide ho.trimRow.res; have D := hide hd; clear ho hd)
          | (go_at_call 53; (with_reducible refine (T.out).mono ?_); rintro e w' ⟨rfl, rfl⟩))
        go_ret2
        exact Two.mk E.out (by rw [D.out]; exact RR.out) hb1
      · have E := hide (upSp_big (n := n) vx h0 (by omega))
        have hbig' : 4096 - (bitsSp xs : Int) < (n : Int) := by omega
        clear hx lx hb h0 vx
        generalize bitsSp xs = z at *
        go_enter Tryz.func12, Tryz.ntmps12
        go_wp2_with (first
          | (go_at_call 16; (with_reducible refine (B.out).mono ?_); rintro e w' ⟨rfl, rfl⟩)
          | (go_at_call 15; (with_reducible refine (V.out).mono ?_); rintro e w' ⟨rfl, rfl⟩))
        go_ret2
        exact Two.mk E.out (.nil _) (.refl _ _)
  · rw [vx] at V
    have E := hide (upSp_no n vx)
    clear hx lx vx
    generalize bitsSp xs = z at *
    go_enter Tryz.func12, Tryz.ntmps12
    go_wp2_with (first
      | (go_at_call 16; (with_reducible refine (B.out).mono ?_); rintro e w' ⟨rfl, rfl⟩)
      | (go_at_call 15; (with_reducible refine (V.out).mono ?_); rintro e w' ⟨rfl, rfl⟩))
    go_ret2
    exact Two.mk E.out (.nil _) (.refl _ _)

set_option maxRecDepth 100000 in
set_option maxHeartbeats 1000000 in
theorem shift_down (A : Option Addr) (c n : Nat) (xs : List Nat) (z : Int) (w : World) (hx : Sl w A xs) (lx : Limbs xs) (hl : xs.length ≤ 1000000) (hn : 0 < n) (hz : z = -(n : Int)) (hmin : -9223372036854775808 ≤ z) :
    Calls Tryz.prog 12 #[.slice A xs.length c, .int .i64 z] w (Two w (downSp xs n)) := by
  have V := hide (valid_any A c xs w hx (by omega))
  have B := hide (bits_any A c xs w hx lx hl)
  have hz0 : z < 0 := by omega
  rcases vB (xs := xs) with vx | vx
  · rw [vx] at V
    have hb := bits_val lx vx
    have hble := bitsSp_le lx vx
    have h64 := (validB_iff.1 vx).1
    have hb0 : 0 ≤ (bitsSp xs : Int) := by omega
    by_cases hsm : bitsSp xs ≤ n
    · have E := hide (show downSp xs n = ([], 0) by rw [downSp_ok vx, down_zero (by rw [← hb]; exact hsm)])
      have hle : z ≤ -(bitsSp xs : Int) := by omega
      have hbm : (bitsSp xs : Int) ≤ 4096 := by omega
      clear hx lx hb vx
      generalize bitsSp xs = y at *
      by_cases hy : y = 0
      · subst hy
        go_enter Tryz.func12, Tryz.ntmps12
        go_wp2_with (first
          | (go_at_call 16; (with_reducible refine (B.out).mono ?_); rintro e w' ⟨rfl, rfl⟩)
          | (go_at_call 15; (with_reducible refine (V.out).mono ?_); rintro e w' ⟨rfl, rfl⟩))
        go_ret2
        exact Two.mk E.out (.nil _) (.refl _ _)
      · have hy' : ((y : Int) == 0) = false := beq_eq_false_iff_ne.2 (by omega)
        go_enter Tryz.func12, Tryz.ntmps12
        go_wp2_with (first
          | (go_at_call 16; (with_reducible refine (B.out).mono ?_); rintro e w' ⟨rfl, rfl⟩)
          | (go_at_call 15; (with_reducible refine (V.out).mono ?_); rintro e w' ⟨rfl, rfl⟩))
        go_ret2
        exact Two.mk E.out (.nil _) (.refl _ _)
    · have E := hide (downSp_ok (n := n) vx)
      have hle : -(bitsSp xs : Int) < z := by omega
      have hbm : (bitsSp xs : Int) ≤ 4096 := by omega
      have hy' : ((bitsSp xs : Int) == 0) = false := beq_eq_false_iff_ne.2 (by omega)
      have U := shiftDown_any A c n xs w hx lx (by omega) (by omega)
      have eN : -z = (n : Int) := by omega
      rw [← eN] at U
      clear eN hz
      have U := hide U
      have hnb : z ≤ 0 := by omega
      clear hx lx hb vx
      generalize bitsSp xs = y at *
      go_enter Tryz.func12, Tryz.ntmps12
      go_wp2_with (first
        | (go_at_call 16; (with_reducible refine (B.out).mono ?_); rintro e w' ⟨rfl, rfl⟩)
        | (go_at_call 15; (with_reducible refine (V.out).mono ?_); rintro e w' ⟨rfl, rfl⟩)
        | (go_at_call 54; (with_reducible refine (U.out).mono ?_); rintro e w1 ⟨g, N, out, rfl, hN, nb, hd, lo, ho, hb1⟩; have T := hide (trim_n (some ⟨g, 0, none⟩) N N out w1 hN ho.sl (Nat.le_refl _) (by omega)); have RR := hide ho.trimRow.res; have D := hide hd; clear ho hd)
        | (go_at_call 53; (with_reducible refine (T.out).mono ?_); rintro e w' ⟨rfl, rfl⟩))
      go_ret2
      exact Two.mk E.out (by rw [D.out]; exact RR.out) hb1
  · rw [vx] at V
    have E := hide (downSp_no n vx)
    clear hx lx vx
    generalize bitsSp xs = y at *
    go_enter Tryz.func12, Tryz.ntmps12
    go_wp2_with (first
      | (go_at_call 16; (with_reducible refine (B.out).mono ?_); rintro e w' ⟨rfl, rfl⟩)
      | (go_at_call 15; (with_reducible refine (V.out).mono ?_); rintro e w' ⟨rfl, rfl⟩))
    go_ret2
    exact Two.mk E.out (.nil _) (.refl _ _)
end Nt

end Go.Proofs.YtgmjdaallinicaaGreatDoor
