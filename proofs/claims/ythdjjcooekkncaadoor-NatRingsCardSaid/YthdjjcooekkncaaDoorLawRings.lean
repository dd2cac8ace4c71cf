
/-
  The law NatRings.
-/
import Derived.Test.YthdjjcooekkncaaDoorNum

namespace Go.Proofs.YthdjjcooekkncaaDoor

open Go.RowKit

namespace Nt

set_option maxRecDepth 100000 in
set_option maxHeartbeats 4000000 in
theorem rings_law (A B C : Option Addr) (c d e : Nat) (xs ys zs : List Nat) (w : World) (sx : Sl w A xs) (sy : Sl w B ys) (sz : Sl w C zs) (lx : Limbs xs) (ly : Limbs ys) (lz : Limbs zs) (hx : xs.length ≤ 9223372036854775807) (hy : ys.length ≤ 9223372036854775807) (hz : zs.length ≤ 9223372036854775807) (ht : Pow10 w) :
    Calls Tryd.prog 5 #[.slice A xs.length c, .slice B ys.length d, .slice C zs.length e] w fun e w' => e = .returned (.bool true) ∧ Below w.heap.size w w' := by
  have W0 := hide (awake_any w ht)
  have V0 := hide (valid_any A c xs w sx hx)
  have V1 := hide (valid_any B d ys w sy hy)
  have V2 := hide (valid_any C e zs w sz hz)
  have LX := hide lx
  have LY := hide ly
  have LZ := hide lz
  have SX := hide sx
  have SY := hide sy
  have SZ := hide sz
  clear lx ly lz sx sy sz
  by_cases n0 : xs.length ≤ 20
  · by_cases n1 : ys.length ≤ 20
    · by_cases n2 : zs.length ≤ 20
      · rcases vB (xs := xs) with v0 | v0
        · rw [v0] at V0
          rcases vB (xs := ys) with v1 | v1
          · rw [v1] at V1
            rcases vB (xs := zs) with v2 | v2
            · rw [v2] at V2
              obtain ⟨x, rfl, bx⟩ := as_digs LX.out v0
              obtain ⟨y, rfl, by'⟩ := as_digs LY.out v1
              obtain ⟨z, rfl, bz⟩ := as_digs LZ.out v2
              have K : Hid (x < LB ^ 64 ∧ y < LB ^ 64 ∧ z < LB ^ 64 ∧ x + y < LB ^ 64 ∧ y + x < LB ^ 64 ∧ x + y - y < LB ^ 64) := by
                have ax : x < LB ^ 20 := Nat.lt_of_lt_of_le bx (Nat.pow_le_pow_right LB_pos n0)
                have ay : y < LB ^ 20 := Nat.lt_of_lt_of_le by' (Nat.pow_le_pow_right LB_pos n1)
                have az : z < LB ^ 20 := Nat.lt_of_lt_of_le bz (Nat.pow_le_pow_right LB_pos n2)
                exact ⟨lt64 ax (by decide), lt64 ay (by decide), lt64 az (by decide), lt64 (add_lt_pow ax ay) (by decide), lt64 (add_lt_pow ay ax) (by decide), by rw [Nat.add_sub_cancel]; exact lt64 ax (by decide)⟩
              have M : Hid ((x + y) * z < LB ^ 64 ∧ x * z < LB ^ 64 ∧ y * z < LB ^ 64 ∧ x * z + y * z < LB ^ 64) := by
                have ax : x < LB ^ 20 := Nat.lt_of_lt_of_le bx (Nat.pow_le_pow_right LB_pos n0)
                have ay : y < LB ^ 20 := Nat.lt_of_lt_of_le by' (Nat.pow_le_pow_right LB_pos n1)
                have az : z < LB ^ 20 := Nat.lt_of_lt_of_le bz (Nat.pow_le_pow_right LB_pos n2)
                have k := lt64 (mul_lt_pow (add_lt_pow ax ay) az) (by decide)
                exact ⟨k, lt64 (mul_lt_pow ax az) (by decide), lt64 (mul_lt_pow ay az) (by decide), by rw [← Nat.add_mul]; exact k⟩
              clear bx by' bz v0 v1 v2
              have b : Below w.heap.size w w := .refl _ _
              go_enter Tryd.func5, Tryd.ntmps5
              go_wp2_with (first
                | (go_at_call 22; (with_reducible refine (V0.out).mono ?_); rintro e w' ⟨rfl, rfl⟩)
                | (go_at_call 22; (with_reducible refine (V1.out).mono ?_); rintro e w' ⟨rfl, rfl⟩)
                | (go_at_call 22; (with_reducible refine (V2.out).mono ?_); rintro e w' ⟨rfl, rfl⟩)
                | (go_at_call 13; (with_reducible refine (add_num A B _ _ _ _ x y w rfl rfl (kp b SX.out) (kp b SY.out) K.out.1 K.out.2.1 K.out.2.2.2.1).mono ?_); rintro e w4 h; obtain ⟨A1, c1, rfl, s1, b0⟩ := h.get; have b := bl_trans b b0; clear h b0)
                | (go_at_call 13; (with_reducible refine (add_num B A _ _ _ _ y x w4 rfl rfl (kp b SY.out) (kp b SX.out) K.out.2.1 K.out.1 K.out.2.2.2.2.1).mono ?_); rintro e w5 h; obtain ⟨A2, c2, rfl, s2, b0⟩ := h.get; have b := bl_trans b b0; have s1 := bl_keeps b0 _ _ s1; clear h b0)
                | (go_at_call 17; (with_reducible refine (mul_num A1 C _ _ _ _ (x + y) z w5 rfl rfl s1 (kp b SZ.out) K.out.2.2.2.1 K.out.2.2.1 M.out.1).mono ?_); rintro e w6 h; obtain ⟨A3, c3, rfl, s3, b0⟩ := h.get; have b := bl_trans b b0; have s1 := bl_keeps b0 _ _ s1; have s2 := bl_keeps b0 _ _ s2; clear h b0)
                | (go_at_call 17; (with_reducible refine (mul_num A C _ _ _ _ x z w6 rfl rfl (kp b SX.out) (kp b SZ.out) K.out.1 K.out.2.2.1 M.out.2.1).mono ?_); rintro e w7 h; obtain ⟨A4, c4, rfl, s4, b0⟩ := h.get; have b := bl_trans b b0; have s1 := bl_keeps b0 _ _ s1; have s2 := bl_keeps b0 _ _ s2; have s3 := bl_keeps b0 _ _ s3; clear h b0)
                | (go_at_call 17; (with_reducible refine (mul_num B C _ _ _ _ y z w7 rfl rfl (kp b SY.out) (kp b SZ.out) K.out.2.1 K.out.2.2.1 M.out.2.2.1).mono ?_); rintro e w8 h; obtain ⟨A5, c5, rfl, s5, b0⟩ := h.get; have b := bl_trans b b0; have s1 := bl_keeps b0 _ _ s1; have s2 := bl_keeps b0 _ _ s2; have s3 := bl_keeps b0 _ _ s3; have s4 := bl_keeps b0 _ _ s4; clear h b0)
                | (go_at_call 13; (with_reducible refine (add_num A4 A5 _ _ _ _ (x * z) (y * z) w8 rfl rfl s4 s5 M.out.2.1 M.out.2.2.1 M.out.2.2.2).mono ?_); rintro e w9 h; obtain ⟨A6, c6, rfl, s6, b0⟩ := h.get; have b := bl_trans b b0; have s1 := bl_keeps b0 _ _ s1; have s2 := bl_keeps b0 _ _ s2; have s3 := bl_keeps b0 _ _ s3; clear h b0)
                | (go_at_call 15; (with_reducible refine (sub_back A1 B _ _ _ _ (x + y) y w9 rfl rfl s1 (kp b SY.out) K.out.2.2.2.1 K.out.2.1 x rfl).mono ?_); rintro e w10 h; obtain ⟨A7, c7, rfl, s7, b0⟩ := h.get; have b := bl_trans b b0; have s1 := bl_keeps b0 _ _ s1; have s2 := bl_keeps b0 _ _ s2; have s3 := bl_keeps b0 _ _ s3; have s6 := bl_keeps b0 _ _ s6; clear h b0)
                | (go_at_call 19; (with_reducible refine (same_num A1 A2 _ _ _ _ (x + y) (y + x) w10 rfl rfl s1 s2 K.out.2.2.2.1 K.out.2.2.2.2.1 (Nat.add_comm _ _)).mono ?_); rintro e w11 ⟨rfl, q0, h0⟩; have b0 := bl_q0 h0; have b := bl_trans b b0; have s3 := bl_keeps b0 _ _ s3; have s6 := bl_keeps b0 _ _ s6; have s7 := bl_keeps b0 _ _ s7; clear h0 b0)
                | (go_at_call 19; (with_reducible refine (same_num A3 A6 _ _ _ _ ((x + y) * z) (x * z + y * z) w11 rfl rfl s3 s6 M.out.1 M.out.2.2.2 (Nat.add_mul _ _ _)).mono ?_); rintro e w12 ⟨rfl, q0, h0⟩; have b0 := bl_q0 h0; have b := bl_trans b b0; have s3 := bl_keeps b0 _ _ s3; have s7 := bl_keeps b0 _ _ s7; clear h0 b0)
                | (go_at_call 19; (with_reducible refine (same_num A7 A _ _ _ _ x x w12 rfl rfl s7 (kp b SX.out) K.out.1 K.out.1 rfl).mono ?_); rintro e w13 ⟨rfl, q0, h0⟩; have b0 := bl_q0 h0; have b := bl_trans b b0; have s3 := bl_keeps b0 _ _ s3; clear h0 b0)
                | (go_at_call 22; (with_reducible refine (valid_num A3 _ _ ((x + y) * z) w13 rfl s3 M.out.1).mono ?_); rintro e w' ⟨rfl, rfl⟩)
                | (go_at_call 12; (with_reducible refine (awake_any w13 (pow_below ht b)).mono ?_); rintro e w15 ⟨rfl, b0⟩; have b := bl_trans b b0; clear b0))
              go_ret
              exact ⟨rfl, b⟩
            · rw [v2] at V2
              clear v2
              go_enter Tryd.func5, Tryd.ntmps5
              go_wp2_with (first
                | (go_at_call 22; (first | with_reducible refine (V0.out).mono ?_ | with_reducible refine (V1.out).mono ?_ | with_reducible refine (V2.out).mono ?_); rintro e w' ⟨rfl, rfl⟩)
                | (go_at_call 12; (with_reducible refine (W0.out).mono ?_); rintro e w13 ⟨rfl, b⟩))
              go_ret
              exact ⟨rfl, b⟩
          · rw [v1] at V1
            clear v1
            go_enter Tryd.func5, Tryd.ntmps5
            go_wp2_with (first
              | (go_at_call 22; (first | with_reducible refine (V0.out).mono ?_ | with_reducible refine (V1.out).mono ?_ | with_reducible refine (V2.out).mono ?_); rintro e w' ⟨rfl, rfl⟩)
              | (go_at_call 12; (with_reducible refine (W0.out).mono ?_); rintro e w13 ⟨rfl, b⟩))
            go_ret
            exact ⟨rfl, b⟩
        · rw [v0] at V0
          clear v0
          go_enter Tryd.func5, Tryd.ntmps5
          go_wp2_with (first
            | (go_at_call 22; (first | with_reducible refine (V0.out).mono ?_ | with_reducible refine (V1.out).mono ?_ | with_reducible refine (V2.out).mono ?_); rintro e w' ⟨rfl, rfl⟩)
            | (go_at_call 12; (with_reducible refine (W0.out).mono ?_); rintro e w13 ⟨rfl, b⟩))
          go_ret
          exact ⟨rfl, b⟩
      · go_enter Tryd.func5, Tryd.ntmps5
        go_wp2_with (first
          | (go_at_call 22; (first | with_reducible refine (V0.out).mono ?_ | with_reducible refine (V1.out).mono ?_ | with_reducible refine (V2.out).mono ?_); rintro e w' ⟨rfl, rfl⟩)
          | (go_at_call 12; (with_reducible refine (W0.out).mono ?_); rintro e w13 ⟨rfl, b⟩))
        go_ret
        exact ⟨rfl, b⟩
    · go_enter Tryd.func5, Tryd.ntmps5
      go_wp2_with (first
        | (go_at_call 22; (first | with_reducible refine (V0.out).mono ?_ | with_reducible refine (V1.out).mono ?_ | with_reducible refine (V2.out).mono ?_); rintro e w' ⟨rfl, rfl⟩)
        | (go_at_call 12; (with_reducible refine (W0.out).mono ?_); rintro e w13 ⟨rfl, b⟩))
      go_ret
      exact ⟨rfl, b⟩
  · go_enter Tryd.func5, Tryd.ntmps5
    go_wp2_with (first
      | (go_at_call 22; (first | with_reducible refine (V0.out).mono ?_ | with_reducible refine (V1.out).mono ?_ | with_reducible refine (V2.out).mono ?_); rintro e w' ⟨rfl, rfl⟩)
      | (go_at_call 12; (with_reducible refine (W0.out).mono ?_); rintro e w13 ⟨rfl, b⟩))
    go_ret
    exact ⟨rfl, b⟩
end Nt

end Go.Proofs.YthdjjcooekkncaaDoor
