
/-
  The law NatShifts.
-/
import Derived.Test.YthdjjcooekkncaaDoorNum

import Derived.Test.YthdjjcooekkncaaDoorLongZ

import Derived.Test.YthdjjcooekkncaaDoorShift

namespace Go.Proofs.YthdjjcooekkncaaDoor

open Go.RowKit

namespace Nt

theorem upSp_num {x k : Nat} (hx : x < LB ^ 64) (h : x * 2 ^ k < LB ^ 64) : upSp (digs x) k = (digs (x * 2 ^ k), 0) := by
  unfold upSp; rw [validB_digs hx, val_digs]; simp [h]
theorem downSp_num {x k : Nat} (hx : x < LB ^ 64) : downSp (digs x) k = (digs (x / 2 ^ k), 0) := by
  unfold downSp; rw [validB_digs hx, val_digs]; rfl
theorem up_num (A : Option Addr) (n c x k : Nat) (w : World) (hn : (digs x).length = n) (sx : Sl w A (digs x)) (hx : x < LB ^ 64) (hk : k ≤ 600) (h : x * 2 ^ k < LB ^ 64) :
    Calls Tryd.prog 30 #[.slice A n c, .int .i64 (k : Int)] w (Two w (digs (x * 2 ^ k), 0)) := by
  subst hn
  have := shift_up A c k _ w sx (limbs_digs x) (len_mega hx) (by omega)
  rwa [upSp_num hx h] at this
theorem down_num (A : Option Addr) (n c x k : Nat) (w : World) (hn : (digs x).length = n) (sx : Sl w A (digs x)) (hx : x < LB ^ 64) (hk : k ≤ 600) :
    Calls Tryd.prog 30 #[.slice A n c, .int .i64 (-(k : Int))] w (Two w (digs (x / 2 ^ k), 0)) := by
  subst hn
  rcases Nat.eq_zero_or_pos k with h0 | h0
  · subst h0
    have := shift_up A c 0 _ w sx (limbs_digs x) (len_mega hx) (by omega)
    rw [upSp_num hx (by simpa using hx)] at this
    simpa using this
  · have := shift_down A c k _ (-(k : Int)) w sx (limbs_digs x) (len_mega hx) h0 rfl (by omega)
    rwa [downSp_num hx] at this
theorem div_num (A B : Option Addr) (n m c d x y : Nat) (w : World) (hn : (digs x).length = n) (hm : (digs y).length = m) (sx : Sl w A (digs x)) (sy : Sl w B (digs y)) (hx : x < LB ^ 64) (hy : y < LB ^ 64) (h : 0 < y) :
    Calls Tryd.prog 28 #[.slice A n c, .slice B m d] w (Three w (digs (x / y), digs (x % y), 0)) := by
  subst hn hm
  rw [← divSp_num hx hy h]
  exact divmod_all A B c d _ _ w sx sy (limbs_digs _) (limbs_digs _) (len_mega hx) (len_mega hy)
theorem one_up (A : Option Addr) (c k : Nat) (w : World) (sx : Sl w A [1]) (hk : k ≤ 600) (h : 2 ^ k < LB ^ 64) :
    Calls Tryd.prog 30 #[.slice A 1 c, .int .i64 (k : Int)] w (Two w (digs (2 ^ k), 0)) := by
  have h1 : digs 1 = [1] := digs1 (by decide) (by decide)
  have := up_num A 1 c 1 k w (by rw [h1]; rfl) (by rw [h1]; exact sx) (Nat.lt_of_lt_of_le (by decide) (pow_le (k := 1) (by decide))) hk (by rwa [Nat.one_mul])
  rwa [Nat.one_mul] at this
theorem bits_eq (A : Option Addr) (n c x : Nat) (z : Int) (w : World) (hn : (digs x).length = n) (sx : Sl w A (digs x)) (hx : x < LB ^ 64) (hz : ((blen x : Nat) : Int) = z) : Calls Tryd.prog 31 #[.slice A n c] w fun e w' => e = .returned (.int .i64 z) ∧ w = w' := by
  subst hz
  exact bits_num A n c x w hn sx hx
theorem blen_pow (k : Nat) : blen (2 ^ k) = k + 1 := by
  have := blen_shift (n := 1) (by decide) k
  rw [Nat.one_mul] at this
  rw [this, show blen 1 = 1 by decide]; omega
theorem blen_row {xs : List Nat} (l : Limbs xs) (k : Nat) (h : xs.length ≤ k) : blen (val xs) ≤ 64 * k := blen_le_iff.2 (by
  rw [← LB_two_pow]
  exact Nat.lt_of_lt_of_le (val_lt l) (Nat.pow_le_pow_right LB_pos h))
theorem pow_fits {k : Nat} (hk : k ≤ 600) : 2 ^ k < LB ^ 10 := by
  obtain ⟨e, he⟩ : ∃ e, e = 64 * 10 := ⟨_, rfl⟩
  rw [LB_two_pow, ← he]
  exact Nat.pow_lt_pow_right (by omega) (by omega)

theorem digs_pos_len {x : Nat} (h : x ≠ 0) : 0 < (digs x).length := by
  rcases Nat.eq_zero_or_pos (digs x).length with h0 | h0
  · exact absurd (digs_eq_nil.1 (List.eq_nil_of_length_eq_zero h0)) h
  · exact h0
set_option maxRecDepth 100000 in
set_option maxHeartbeats 4000000 in
theorem shifts_law (A : Option Addr) (c : Nat) (xs : List Nat) (z : Int) (w : World) (sx : Sl w A xs) (lx : Limbs xs) (hx : xs.length ≤ 9223372036854775807) (ht : Pow10 w) :
    Calls Tryd.prog 8 #[.slice A xs.length c, .int .i64 z] w fun e w' => e = .returned (.bool true) ∧ Below w.heap.size w w' := by
  have W0 := hide (awake_any w ht)
  have V0 := hide (valid_any A c xs w sx hx)
  have LX := hide lx
  have SX := hide sx
  clear lx sx
  by_cases n0 : xs.length ≤ 8
  · rcases vB (xs := xs) with v0 | v0
    · rw [v0] at V0
      by_cases n1 : 0 ≤ z
      · by_cases n2 : z ≤ 600
        · obtain ⟨k, rfl⟩ : ∃ k : Nat, z = (k : Int) := ⟨z.toNat, by omega⟩
          have hk : k ≤ 600 := by omega
          obtain ⟨x, rfl, bx⟩ := as_digs LX.out v0
          have K : Hid (x < LB ^ 64 ∧ 2 ^ k < LB ^ 64 ∧ x * 2 ^ k < LB ^ 64 ∧ 0 < 2 ^ k ∧ x / 2 ^ k < LB ^ 64 ∧ x * 2 ^ k / 2 ^ k < LB ^ 64) := by
            have ax : x < LB ^ 8 := Nat.lt_of_lt_of_le bx (Nat.pow_le_pow_right LB_pos n0)
            have ap := pow_fits hk
            have a1 := lt64 ax (by decide)
            refine ⟨a1, lt64 ap (by decide), lt64 (mul_lt_pow ax ap) (by decide), Nat.two_pow_pos k, Nat.lt_of_le_of_lt (Nat.div_le_self _ _) a1, ?_⟩
            rw [Nat.mul_div_cancel _ (Nat.two_pow_pos k)]; exact a1
          have K2 := hide (Nat.mul_div_cancel x (Nat.two_pow_pos k))
          have B1 := hide (show ((blen (2 ^ k) : Nat) : Int) = (k : Int) + 1 by rw [blen_pow]; rfl)
          clear n1 n2 v0 bx
          by_cases h0 : x = 0
          · have B2 := hide (show ((blen (x * 2 ^ k) : Nat) : Int) = 0 by rw [h0, Nat.zero_mul]; rfl)
            have B3 := hide (show ((blen x : Nat) : Int) = 0 by rw [h0]; rfl)
            have hl0 : (digs x).length = 0 := by rw [h0, digs_zero]; rfl
            have HL := hide hl0
            clear h0 n0
            rw [hl0] at V0 ⊢
            clear hl0
            go_enter Tryd.func8, Tryd.ntmps8
            go_wp2_with (first
              | (go_at_call 22; (with_reducible refine (V0.out).mono ?_); rintro e w' ⟨rfl, rfl⟩)
              | (go_at_call 30; (with_reducible refine (one_up _ _ k _ (lit1 w rfl) hk K.out.2.1).mono ?_); rintro e w1 h; obtain ⟨A1, c1, rfl, s1, b0⟩ := h.get; have b := bl_one b0; clear h b0)
              | (go_at_call 30; (with_reducible refine (up_num A _ _ x k w1 HL.out (kp b SX.out) K.out.1 hk K.out.2.2.1).mono ?_); rintro e w2 h; obtain ⟨A2, c2, rfl, s2, b0⟩ := h.get; have b := bl_trans b b0; have s1 := bl_keeps b0 _ _ s1; clear h b0)
              | (go_at_call 17; (with_reducible refine (mul_num A A1 _ _ _ _ x (2 ^ k) w2 HL.out rfl (kp b SX.out) s1 K.out.1 K.out.2.1 K.out.2.2.1).mono ?_); rintro e w3 h; obtain ⟨A3, c3, rfl, s3, b0⟩ := h.get; have b := bl_trans b b0; have s1 := bl_keeps b0 _ _ s1; have s2 := bl_keeps b0 _ _ s2; clear h b0)
              | (go_at_call 30; (with_reducible refine (down_num A _ _ x k w3 HL.out (kp b SX.out) K.out.1 hk).mono ?_); rintro e w4 h; obtain ⟨A4, c4, rfl, s4, b0⟩ := h.get; have b := bl_trans b b0; have s1 := bl_keeps b0 _ _ s1; have s2 := bl_keeps b0 _ _ s2; have s3 := bl_keeps b0 _ _ s3; clear h b0)
              | (go_at_call 28; (with_reducible refine (div_num A A1 _ _ _ _ x (2 ^ k) w4 HL.out rfl (kp b SX.out) s1 K.out.1 K.out.2.1 K.out.2.2.2.1).mono ?_); rintro e w5 h; obtain ⟨A5, c5, B5, d5, rfl, s5, t5, b0⟩ := h.get; have b := bl_trans b b0; have s1 := bl_keeps b0 _ _ s1; have s2 := bl_keeps b0 _ _ s2; have s3 := bl_keeps b0 _ _ s3; have s4 := bl_keeps b0 _ _ s4; clear h b0)
              | (go_at_call 30; (with_reducible refine (down_num A2 _ _ (x * 2 ^ k) k w5 rfl s2 K.out.2.2.1 hk).mono ?_); rintro e w6 h; obtain ⟨A6, c6, rfl, s6, b0⟩ := h.get; have b := bl_trans b b0; have s1 := bl_keeps b0 _ _ s1; have s2 := bl_keeps b0 _ _ s2; have s3 := bl_keeps b0 _ _ s3; have s4 := bl_keeps b0 _ _ s4; have s5 := bl_keeps b0 _ _ s5; clear h b0)
              | (go_at_call 19; (with_reducible refine (same_num A2 A3 _ _ _ _ (x * 2 ^ k) (x * 2 ^ k) w6 rfl rfl s2 s3 K.out.2.2.1 K.out.2.2.1 rfl).mono ?_); rintro e w7 ⟨rfl, q0, h0⟩; have b0 := bl_q0 h0; have b := bl_trans b b0; have s1 := bl_keeps b0 _ _ s1; have s2 := bl_keeps b0 _ _ s2; have s4 := bl_keeps b0 _ _ s4; have s5 := bl_keeps b0 _ _ s5; have s6 := bl_keeps b0 _ _ s6; clear h0 b0)
              | (go_at_call 19; (with_reducible refine (same_num A4 A5 _ _ _ _ (x / 2 ^ k) (x / 2 ^ k) w7 rfl rfl s4 s5 K.out.2.2.2.2.1 K.out.2.2.2.2.1 rfl).mono ?_); rintro e w8 ⟨rfl, q0, h0⟩; have b0 := bl_q0 h0; have b := bl_trans b b0; have s1 := bl_keeps b0 _ _ s1; have s2 := bl_keeps b0 _ _ s2; have s6 := bl_keeps b0 _ _ s6; clear h0 b0)
              | (go_at_call 19; (with_reducible refine (same_num A6 A _ _ _ _ (x * 2 ^ k / 2 ^ k) x w8 rfl HL.out s6 (kp b SX.out) K.out.2.2.2.2.2 K.out.1 K2.out).mono ?_); rintro e w9 ⟨rfl, q0, h0⟩; have b0 := bl_q0 h0; have b := bl_trans b b0; have s1 := bl_keeps b0 _ _ s1; have s2 := bl_keeps b0 _ _ s2; clear h0 b0)
              | (go_at_call 31; (with_reducible refine (bits_eq A1 _ _ (2 ^ k) _ w9 rfl s1 K.out.2.1 B1.out).mono ?_); rintro e w' ⟨rfl, rfl⟩)
              | (go_at_call 31; (with_reducible refine (bits_eq A2 _ _ (x * 2 ^ k) _ w9 rfl s2 K.out.2.2.1 B2.out).mono ?_); rintro e w' ⟨rfl, rfl⟩)
              | (go_at_call 31; (with_reducible refine (bits_eq A _ _ x _ w9 HL.out (kp b SX.out) K.out.1 B3.out).mono ?_); rintro e w' ⟨rfl, rfl⟩)
              | (go_at_call 12; (with_reducible refine (awake_any w9 (pow_below ht b)).mono ?_); rintro e w13 ⟨rfl, b0⟩; have b := bl_trans b b0; clear b0))
            go_ret
            exact ⟨rfl, b⟩
          · have B2 := hide (show ((blen (x * 2 ^ k) : Nat) : Int) = ((blen x : Nat) : Int) + (k : Int) by rw [blen_shift h0]; rfl)
            have hb : blen x ≤ 512 := by
              have := blen_row LX.out 8 n0
              rw [val_digs] at this
              omega
            have hlp : 0 < (digs x).length := digs_pos_len h0
            have hl0 : (((digs x).length : Int) == 0) = false := beq_eq_false_iff_ne.2 (by omega)
            clear h0
            obtain ⟨bb, hbb⟩ : ∃ bb, bb = blen x := ⟨_, rfl⟩
            rw [← hbb] at B2 hb
            have B3 := hide (show ((blen x : Nat) : Int) = (bb : Int) by rw [hbb])
            clear hbb
            go_enter Tryd.func8, Tryd.ntmps8
            go_wp2_with (first
              | (go_at_call 22; (with_reducible refine (V0.out).mono ?_); rintro e w' ⟨rfl, rfl⟩)
              | (go_at_call 30; (with_reducible refine (one_up _ _ k _ (lit1 w rfl) hk K.out.2.1).mono ?_); rintro e w1 h; obtain ⟨A1, c1, rfl, s1, b0⟩ := h.get; have b := bl_one b0; clear h b0)
              | (go_at_call 30; (with_reducible refine (up_num A _ _ x k w1 rfl (kp b SX.out) K.out.1 hk K.out.2.2.1).mono ?_); rintro e w2 h; obtain ⟨A2, c2, rfl, s2, b0⟩ := h.get; have b := bl_trans b b0; have s1 := bl_keeps b0 _ _ s1; clear h b0)
              | (go_at_call 17; (with_reducible refine (mul_num A A1 _ _ _ _ x (2 ^ k) w2 rfl rfl (kp b SX.out) s1 K.out.1 K.out.2.1 K.out.2.2.1).mono ?_); rintro e w3 h; obtain ⟨A3, c3, rfl, s3, b0⟩ := h.get; have b := bl_trans b b0; have s1 := bl_keeps b0 _ _ s1; have s2 := bl_keeps b0 _ _ s2; clear h b0)
              | (go_at_call 30; (with_reducible refine (down_num A _ _ x k w3 rfl (kp b SX.out) K.out.1 hk).mono ?_); rintro e w4 h; obtain ⟨A4, c4, rfl, s4, b0⟩ := h.get; have b := bl_trans b b0; have s1 := bl_keeps b0 _ _ s1; have s2 := bl_keeps b0 _ _ s2; have s3 := bl_keeps b0 _ _ s3; clear h b0)
              | (go_at_call 28; (with_reducible refine (div_num A A1 _ _ _ _ x (2 ^ k) w4 rfl rfl (kp b SX.out) s1 K.out.1 K.out.2.1 K.out.2.2.2.1).mono ?_); rintro e w5 h; obtain ⟨A5, c5, B5, d5, rfl, s5, t5, b0⟩ := h.get; have b := bl_trans b b0; have s1 := bl_keeps b0 _ _ s1; have s2 := bl_keeps b0 _ _ s2; have s3 := bl_keeps b0 _ _ s3; have s4 := bl_keeps b0 _ _ s4; clear h b0)
              | (go_at_call 30; (with_reducible refine (down_num A2 _ _ (x * 2 ^ k) k w5 rfl s2 K.out.2.2.1 hk).mono ?_); rintro e w6 h; obtain ⟨A6, c6, rfl, s6, b0⟩ := h.get; have b := bl_trans b b0; have s1 := bl_keeps b0 _ _ s1; have s2 := bl_keeps b0 _ _ s2; have s3 := bl_keeps b0 _ _ s3; have s4 := bl_keeps b0 _ _ s4; have s5 := bl_keeps b0 _ _ s5; clear h b0)
              | (go_at_call 19; (with_reducible refine (same_num A2 A3 _ _ _ _ (x * 2 ^ k) (x * 2 ^ k) w6 rfl rfl s2 s3 K.out.2.2.1 K.out.2.2.1 rfl).mono ?_); rintro e w7 ⟨rfl, q0, h0⟩; have b0 := bl_q0 h0; have b := bl_trans b b0; have s1 := bl_keeps b0 _ _ s1; have s2 := bl_keeps b0 _ _ s2; have s4 := bl_keeps b0 _ _ s4; have s5 := bl_keeps b0 _ _ s5; have s6 := bl_keeps b0 _ _ s6; clear h0 b0)
              | (go_at_call 19; (with_reducible refine (same_num A4 A5 _ _ _ _ (x / 2 ^ k) (x / 2 ^ k) w7 rfl rfl s4 s5 K.out.2.2.2.2.1 K.out.2.2.2.2.1 rfl).mono ?_); rintro e w8 ⟨rfl, q0, h0⟩; have b0 := bl_q0 h0; have b := bl_trans b b0; have s1 := bl_keeps b0 _ _ s1; have s2 := bl_keeps b0 _ _ s2; have s6 := bl_keeps b0 _ _ s6; clear h0 b0)
              | (go_at_call 19; (with_reducible refine (same_num A6 A _ _ _ _ (x * 2 ^ k / 2 ^ k) x w8 rfl rfl s6 (kp b SX.out) K.out.2.2.2.2.2 K.out.1 K2.out).mono ?_); rintro e w9 ⟨rfl, q0, h0⟩; have b0 := bl_q0 h0; have b := bl_trans b b0; have s1 := bl_keeps b0 _ _ s1; have s2 := bl_keeps b0 _ _ s2; clear h0 b0)
              | (go_at_call 31; (with_reducible refine (bits_eq A1 _ _ (2 ^ k) _ w9 rfl s1 K.out.2.1 B1.out).mono ?_); rintro e w' ⟨rfl, rfl⟩)
              | (go_at_call 31; (with_reducible refine (bits_eq A2 _ _ (x * 2 ^ k) _ w9 rfl s2 K.out.2.2.1 B2.out).mono ?_); rintro e w' ⟨rfl, rfl⟩)
              | (go_at_call 31; (with_reducible refine (bits_eq A _ _ x _ w9 rfl (kp b SX.out) K.out.1 B3.out).mono ?_); rintro e w' ⟨rfl, rfl⟩)
              | (go_at_call 12; (with_reducible refine (awake_any w9 (pow_below ht b)).mono ?_); rintro e w13 ⟨rfl, b0⟩; have b := bl_trans b b0; clear b0))
            go_ret
            exact ⟨rfl, b⟩

        · go_enter Tryd.func8, Tryd.ntmps8
          go_wp2_with (first
            | (go_at_call 22; (first | with_reducible refine (V0.out).mono ?_); rintro e w' ⟨rfl, rfl⟩)
            | (go_at_call 12; (with_reducible refine (W0.out).mono ?_); rintro e w13 ⟨rfl, b⟩))
          go_ret
          exact ⟨rfl, b⟩
      · go_enter Tryd.func8, Tryd.ntmps8
        go_wp2_with (first
          | (go_at_call 22; (first | with_reducible refine (V0.out).mono ?_); rintro e w' ⟨rfl, rfl⟩)
          | (go_at_call 12; (with_reducible refine (W0.out).mono ?_); rintro e w13 ⟨rfl, b⟩))
        go_ret
        exact ⟨rfl, b⟩
    · rw [v0] at V0
      clear v0
      go_enter Tryd.func8, Tryd.ntmps8
      go_wp2_with (first
        | (go_at_call 22; (first | with_reducible refine (V0.out).mono ?_); rintro e w' ⟨rfl, rfl⟩)
        | (go_at_call 12; (with_reducible refine (W0.out).mono ?_); rintro e w13 ⟨rfl, b⟩))
      go_ret
      exact ⟨rfl, b⟩
  · go_enter Tryd.func8, Tryd.ntmps8
    go_wp2_with (first
      | (go_at_call 22; (first | with_reducible refine (V0.out).mono ?_); rintro e w' ⟨rfl, rfl⟩)
      | (go_at_call 12; (with_reducible refine (W0.out).mono ?_); rintro e w13 ⟨rfl, b⟩))
    go_ret
    exact ⟨rfl, b⟩
end Nt

end Go.Proofs.YthdjjcooekkncaaDoor
