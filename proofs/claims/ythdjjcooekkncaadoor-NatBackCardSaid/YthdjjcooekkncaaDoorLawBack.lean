
/-
  The law NatBack.
-/
import Derived.Test.YthdjjcooekkncaaDoorNum

import Derived.Test.YthdjjcooekkncaaDoorGcdZ

namespace Go.Proofs.YthdjjcooekkncaaDoor

open Go.RowKit

namespace Nt

theorem div_at (A B : Option Addr) (n m c d x y p q : Nat) (w : World) (hn : (digs x).length = n) (hm : (digs y).length = m) (sx : Sl w A (digs x)) (sy : Sl w B (digs y)) (hx : x < LB ^ 64) (hy : y < LB ^ 64) (h : 0 < y) (hp : x / y = p) (hq : x % y = q) :
    Calls Tryd.prog 28 #[.slice A n c, .slice B m d] w (Three w (digs p, digs q, 0)) := by
  subst hn hm hp hq
  rw [← divSp_num hx hy h]
  exact divmod_all A B c d _ _ w sx sy (limbs_digs _) (limbs_digs _) (len_mega hx) (len_mega hy)
theorem gcd_num (A B : Option Addr) (n m c d x y g : Nat) (w : World) (hn : (digs x).length = n) (hm : (digs y).length = m) (sx : Sl w A (digs x)) (sy : Sl w B (digs y)) (hx : x < LB ^ 64) (hy : y < LB ^ 64) (hg : Nat.gcd x y = g) :
    Calls Tryd.prog 29 #[.slice A n c, .slice B m d] w (Two w (digs g, 0)) := by
  subst hn hm hg
  have := gcd_any A B c d _ _ w sx sy (limbs_digs x) (limbs_digs y) (len_mega hx) (len_mega hy)
  rwa [gcdSp_ok (validB_digs hx) (validB_digs hy), val_digs, val_digs] at this
theorem cmp_less (A B : Option Addr) (n m c d x y : Nat) (w : World) (hn : (digs x).length = n) (hm : (digs y).length = m) (sx : Sl w A (digs x)) (sy : Sl w B (digs y)) (hx : x < LB ^ 64) (hy : y < LB ^ 64) (h : x < y) :
    Calls Tryd.prog 20 #[.slice A n c, .slice B m d] w (Quiet w (.int .i64 (-1))) := by
  rw [← cmpN_lt h]
  exact cmp_num A B n m c d x y w hn hm sx sy hx hy
theorem Three.none {w : World} {p : Nat} {e : Ending} {w' : World} (h : Three w (digs p, digs 0, 0) e w') : ∃ A c B d, e = .returned (.tuple #[.slice A (digs p).length c, .slice B 0 d, .int .i64 ((0 : Nat) : Int)]) ∧ Sl w' A (digs p) ∧ Below w.heap.size w w' := by
  obtain ⟨A, c, B, d, rfl, s, t, b⟩ := h.get
  exact ⟨A, c, B, d, by rw [digs_zero]; rfl, s, b⟩

theorem same_lit1 (A : Option Addr) (c g d : Nat) (w : World) (x : Obj) (h : Sl w A (digs 1)) (hg : Sl (w.alloc x) (some ⟨g, 0, none⟩) [1]) :
    Calls Tryd.prog 19 #[.slice A (digs 1).length c, .slice (some ⟨g, 0, none⟩) 1 d] (w.alloc x) (Quiet (w.alloc x) (.bool true)) := by
  have e : digs 1 = [1] := digs1 (by decide) (by decide)
  rw [e] at h ⊢
  exact law_same_t A _ 1 1 c d [1] [1] _ rfl rfl (h.alloc _) hg (by decide) (by decide) rfl
set_option maxRecDepth 100000 in
set_option maxHeartbeats 4000000 in
theorem back_law (A B : Option Addr) (c d : Nat) (xs ys : List Nat) (w : World) (sx : Sl w A xs) (sy : Sl w B ys) (lx : Limbs xs) (ly : Limbs ys) (hx : xs.length ≤ 9223372036854775807) (hy : ys.length ≤ 9223372036854775807) (ht : Pow10 w) :
    Calls Tryd.prog 6 #[.slice A xs.length c, .slice B ys.length d] w fun e w' => e = .returned (.bool true) ∧ Below w.heap.size w w' := by
  have W0 := hide (awake_any w ht)
  have V0 := hide (valid_any A c xs w sx hx)
  have V1 := hide (valid_any B d ys w sy hy)
  have LX := hide lx
  have LY := hide ly
  have SX := hide sx
  have SY := hide sy
  clear lx ly sx sy
  by_cases n0 : xs.length ≤ 8
  · by_cases n1 : ys.length ≤ 8
    · rcases vB (xs := xs) with v0 | v0
      · rw [v0] at V0
        rcases vB (xs := ys) with v1 | v1
        · rw [v1] at V1
          by_cases n4 : 0 < ys.length
          · obtain ⟨x, rfl, bx⟩ := as_digs LX.out v0
            obtain ⟨y, rfl, by'⟩ := as_digs LY.out v1
            have ax : x < LB ^ 8 := Nat.lt_of_lt_of_le bx (Nat.pow_le_pow_right LB_pos n0)
            have ay : y < LB ^ 8 := Nat.lt_of_lt_of_le by' (Nat.pow_le_pow_right LB_pos n1)
            have yp : 0 < y := digs_lp.1 n4
            have x64 := lt64 ax (by decide)
            have y64 := lt64 ay (by decide)
            have K : Hid (x < LB ^ 64 ∧ y < LB ^ 64 ∧ 0 < y) := ⟨x64, y64, yp⟩
            obtain ⟨q, hq⟩ : ∃ q, x / y = q := ⟨_, rfl⟩
            obtain ⟨r, hr⟩ : ∃ r, x % y = r := ⟨_, rfl⟩
            obtain ⟨g, hg⟩ : ∃ g, Nat.gcd x y = g := ⟨_, rfl⟩
            obtain ⟨p, hp⟩ : ∃ p, x / g = p := ⟨_, rfl⟩
            obtain ⟨s, hs⟩ : ∃ s, y / g = s := ⟨_, rfl⟩
            have hdm : q * y + r = x := by rw [← hq, ← hr, Nat.mul_comm]; exact Nat.div_add_mod x y
            have hrl : r < y := by rw [← hr]; exact Nat.mod_lt _ yp
            have hgp : 0 < g := by rw [← hg]; exact Nat.gcd_pos_of_pos_right _ yp
            have hgl : g ≤ y := by rw [← hg]; exact Nat.gcd_le_right _ yp
            have d1 : g ∣ x := by rw [← hg]; exact Nat.gcd_dvd_left _ _
            have d2 : g ∣ y := by rw [← hg]; exact Nat.gcd_dvd_right _ _
            have M : Hid (q < LB ^ 64 ∧ r < LB ^ 64 ∧ q * y < LB ^ 64 ∧ q * y + r < LB ^ 64 ∧ q * y + r = x ∧ r < y) := ⟨by rw [← hq]; exact Nat.lt_of_le_of_lt (Nat.div_le_self _ _) x64, by omega, by omega, by omega, hdm, hrl⟩
            have G : Hid (g < LB ^ 64 ∧ 0 < g ∧ x % g = 0 ∧ y % g = 0 ∧ p < LB ^ 64 ∧ s < LB ^ 64 ∧ Nat.gcd p s = 1) := ⟨by omega, hgp, Nat.mod_eq_zero_of_dvd d1, Nat.mod_eq_zero_of_dvd d2, by rw [← hp]; exact Nat.lt_of_le_of_lt (Nat.div_le_self _ _) x64, by rw [← hs]; exact Nat.lt_of_le_of_lt (Nat.div_le_self _ _) y64, by
              rw [← hp, ← hs, Nat.gcd_div d1 d2, hg]
              exact Nat.div_self hgp⟩
            have DQ := hide hq
            have DR := hide hr
            have DG := hide hg
            have DP := hide hp
            have DS := hide hs
            have hb0 : (((digs y).length : Int) == 0) = false := beq_eq_false_iff_ne.2 (by omega)
            have hg1 := digs_lp.2 hgp
            have hg0 : (((digs g).length : Int) == 0) = false := beq_eq_false_iff_ne.2 (by omega)
            clear bx by' v0 v1 ax ay x64 y64 yp hq hr hg hp hs hdm hrl hgp hgl d1 d2
            have b : Below w.heap.size w w := .refl _ _
            go_enter Tryd.func6, Tryd.ntmps6
            go_wp2_with (first
              | (go_at_call 22; (with_reducible refine (V0.out).mono ?_); rintro e w' ⟨rfl, rfl⟩)
              | (go_at_call 22; (with_reducible refine (V1.out).mono ?_); rintro e w' ⟨rfl, rfl⟩)
              | (go_at_call 28; (with_reducible refine (div_at A B _ _ _ _ x y q r w rfl rfl (kp b SX.out) (kp b SY.out) K.out.1 K.out.2.1 K.out.2.2 DQ.out DR.out).mono ?_); rintro e w3 h; obtain ⟨A1, c1, B1, d1, rfl, s1, t1, b0⟩ := h.get; have b := bl_trans b b0; clear h b0)
              | (go_at_call 17; (with_reducible refine (mul_num A1 B _ _ _ _ q y w3 rfl rfl s1 (kp b SY.out) M.out.1 K.out.2.1 M.out.2.2.1).mono ?_); rintro e w4 h; obtain ⟨A2, c2, rfl, s2, b0⟩ := h.get; have b := bl_trans b b0; have t1 := bl_keeps b0 _ _ t1; clear h b0)
              | (go_at_call 13; (with_reducible refine (add_num A2 B1 _ _ _ _ (q * y) r w4 rfl rfl s2 t1 M.out.2.2.1 M.out.2.1 M.out.2.2.2.1).mono ?_); rintro e w5 h; obtain ⟨A3, c3, rfl, s3, b0⟩ := h.get; have b := bl_trans b b0; have t1 := bl_keeps b0 _ _ t1; clear h b0)
              | (go_at_call 19; (with_reducible refine (same_num A3 A _ _ _ _ (q * y + r) x w5 rfl rfl s3 (kp b SX.out) M.out.2.2.2.1 K.out.1 M.out.2.2.2.2.1).mono ?_); rintro e w6 ⟨rfl, q0, h0⟩; have b0 := bl_q0 h0; have b := bl_trans b b0; have t1 := bl_keeps b0 _ _ t1; clear h0 b0)
              | (go_at_call 20; (with_reducible refine (cmp_less B1 B _ _ _ _ r y w6 rfl rfl t1 (kp b SY.out) M.out.2.1 K.out.2.1 M.out.2.2.2.2.2).mono ?_); rintro e w7 ⟨rfl, q0, h0⟩; have b0 := bl_q0 h0; have b := bl_trans b b0; clear h0 b0)
              | (go_at_call 29; (with_reducible refine (gcd_num A B _ _ _ _ x y g w7 rfl rfl (kp b SX.out) (kp b SY.out) K.out.1 K.out.2.1 DG.out).mono ?_); rintro e w8 h; obtain ⟨A4, c4, rfl, s4, b0⟩ := h.get; have b := bl_trans b b0; clear h b0)
              | (go_at_call 28; (with_reducible refine (div_at A A4 _ _ _ _ x g p 0 w8 rfl rfl (kp b SX.out) s4 K.out.1 G.out.1 G.out.2.1 DP.out G.out.2.2.1).mono ?_); rintro e w9 h; obtain ⟨A5, c5, B5, d5, rfl, s5, b0⟩ := h.none; have b := bl_trans b b0; have s4 := bl_keeps b0 _ _ s4; clear h b0)
              | (go_at_call 28; (with_reducible refine (div_at B A4 _ _ _ _ y g s 0 w9 rfl rfl (kp b SY.out) s4 K.out.2.1 G.out.1 G.out.2.1 DS.out G.out.2.2.2.1).mono ?_); rintro e w10 h; obtain ⟨A6, c6, B6, d6, rfl, s6, b0⟩ := h.none; have b := bl_trans b b0; have s5 := bl_keeps b0 _ _ s5; clear h b0)
              | (go_at_call 29; (with_reducible refine (gcd_num A5 A6 _ _ _ _ p s 1 w10 rfl rfl s5 s6 G.out.2.2.2.2.1 G.out.2.2.2.2.2.1 G.out.2.2.2.2.2.2).mono ?_); rintro e w11 h; obtain ⟨A7, c7, rfl, s7, b0⟩ := h.get; have b := bl_trans b b0; clear h b0)
              | (go_at_call 19; (with_reducible refine (same_lit1 A7 _ _ _ w11 _ s7 (lit1 w11 rfl)).mono ?_); rintro e u1 ⟨rfl, q0, h0⟩; have b := bl_trans b (bl_q1 h0); clear h0)
              | (go_at_call 12; (with_reducible refine (awake_any u1 (pow_below ht b)).mono ?_); rintro e u2 ⟨rfl, b0⟩; have b := bl_trans b b0; clear b0))
            go_ret
            exact ⟨rfl, b⟩
          · have hl0 : ys.length = 0 := by omega
            rw [hl0] at V1 ⊢
            clear hl0 n1 n4 v1
            go_enter Tryd.func6, Tryd.ntmps6
            go_wp2_with (first
              | (go_at_call 22; (first | with_reducible refine (V0.out).mono ?_ | with_reducible refine (V1.out).mono ?_); rintro e w' ⟨rfl, rfl⟩)
              | (go_at_call 12; (with_reducible refine (W0.out).mono ?_); rintro e w13 ⟨rfl, b⟩))
            go_ret
            exact ⟨rfl, b⟩
        · rw [v1] at V1
          clear v1
          go_enter Tryd.func6, Tryd.ntmps6
          go_wp2_with (first
            | (go_at_call 22; (first | with_reducible refine (V0.out).mono ?_ | with_reducible refine (V1.out).mono ?_); rintro e w' ⟨rfl, rfl⟩)
            | (go_at_call 12; (with_reducible refine (W0.out).mono ?_); rintro e w13 ⟨rfl, b⟩))
          go_ret
          exact ⟨rfl, b⟩
      · rw [v0] at V0
        clear v0
        go_enter Tryd.func6, Tryd.ntmps6
        go_wp2_with (first
          | (go_at_call 22; (first | with_reducible refine (V0.out).mono ?_ | with_reducible refine (V1.out).mono ?_); rintro e w' ⟨rfl, rfl⟩)
          | (go_at_call 12; (with_reducible refine (W0.out).mono ?_); rintro e w13 ⟨rfl, b⟩))
        go_ret
        exact ⟨rfl, b⟩
    · go_enter Tryd.func6, Tryd.ntmps6
      go_wp2_with (first
        | (go_at_call 22; (first | with_reducible refine (V0.out).mono ?_ | with_reducible refine (V1.out).mono ?_); rintro e w' ⟨rfl, rfl⟩)
        | (go_at_call 12; (with_reducible refine (W0.out).mono ?_); rintro e w13 ⟨rfl, b⟩))
      go_ret
      exact ⟨rfl, b⟩
  · go_enter Tryd.func6, Tryd.ntmps6
    go_wp2_with (first
      | (go_at_call 22; (first | with_reducible refine (V0.out).mono ?_ | with_reducible refine (V1.out).mono ?_); rintro e w' ⟨rfl, rfl⟩)
      | (go_at_call 12; (with_reducible refine (W0.out).mono ?_); rintro e w13 ⟨rfl, b⟩))
    go_ret
    exact ⟨rfl, b⟩
end Nt

end Go.Proofs.YthdjjcooekkncaaDoor
