
/-
  The law NatOrder.
-/
import Derived.Test.YthdjjcooekkncaaDoorLawSums

import Derived.Test.YthdjjcooekkncaaDoorRatS

namespace Go.Proofs.YthdjjcooekkncaaDoor

open Go.RowKit

namespace Nt

set_option maxRecDepth 100000 in
set_option maxHeartbeats 2000000 in
theorem order_law (A B : Option Addr) (c d : Nat) (xs ys : List Nat) (w : World) (hx : Sl w A xs) (hy : Sl w B ys) (lx : Limbs xs) (ly : Limbs ys) (hn : xs.length ≤ 9223372036854775807) (hm : ys.length ≤ 9223372036854775807) (ht : Pow10 w) :
    Calls Tryd.prog 9 #[.slice A xs.length c, .slice B ys.length d] w fun e w' => e = .returned (.bool true) ∧ Below w.heap.size w w' := by
  have W0 := hide (awake_any w ht)
  have V1 := hide (valid_any A c xs w hx (by omega))
  have V2 := hide (valid_any B d ys w hy (by omega))
  by_cases hl : xs.length ≤ 20
  · by_cases hl' : ys.length ≤ 20
    · rcases vB (xs := xs) with vx | vx
      · rcases vB (xs := ys) with vy | vy
        · rw [vx] at V1
          rw [vy] at V2
          have hs := add_lt_64 lx ly (by omega) (by omega)
          have es : addSp xs ys = (digs (val xs + val ys), 0) := by unfold addSp; rw [vx, vy]; simp [hs]
          have vs := validB_digs hs
          have C1 := hide (fun W (h : Below w.heap.size w W) => add_any A B c d xs ys W (bl_keeps h _ _ hx) (bl_keeps h _ _ hy) lx ly (by omega) (by omega))
          have C2 := hide (fun W (h : Below w.heap.size w W) => sub_any A B c d xs ys W (bl_keeps h _ _ hx) (bl_keeps h _ _ hy) lx ly (by omega) (by omega))
          have Q1 := hide (fun W (h : Below w.heap.size w W) => cmp_any A B c d xs ys W (bl_keeps h _ _ hx) (bl_keeps h _ _ hy) lx ly (by omega) (by omega))
          have Q2 := hide (fun W (h : Below w.heap.size w W) => cmp_any B A d c ys xs W (bl_keeps h _ _ hy) (bl_keeps h _ _ hx) ly lx (by omega) (by omega))
          have S1 := hide (fun W (h : Below w.heap.size w W) => law_same A B xs.length ys.length c d xs ys W rfl rfl (bl_keeps h _ _ hx) (bl_keeps h _ _ hy) (by omega) (by omega))
          have B1 := hide (fun W (h : Below w.heap.size w W) => bits_any A c xs W (bl_keeps h _ _ hx) lx (by omega))
          have B2 := hide (fun W (h : Below w.heap.size w W) => bits_any B d ys W (bl_keeps h _ _ hy) ly (by omega))
          have T1 := hide (fun W D e (hD : Sl W D (digs (val xs + val ys))) (h : Below w.heap.size w W) => cmp_any D A e c (digs (val xs + val ys)) xs W hD (bl_keeps h _ _ hx) (limbs_digs _) lx (by have := digs_64 hs; omega) (by omega))
          have T2 := hide (fun W D e (hD : Sl W D (digs (val xs + val ys))) (h : Below w.heap.size w W) => cmp_any D B e d (digs (val xs + val ys)) ys W hD (bl_keeps h _ _ hy) (limbs_digs _) ly (by have := digs_64 hs; omega) (by omega))
          have G := digs_64 hs
          rw [cmpSp_ok vs vx, val_digs] at T1
          rw [cmpSp_ok vs vy, val_digs] at T2
          rw [cmpSp_ok vx vy] at Q1
          rw [cmpSp_ok vy vx, cmpN_neg] at Q2
          have z1 : 0 ≤ cmpN (val xs + val ys) (val xs) := cmpN_nonneg.2 (by omega)
          have z2 : 0 ≤ cmpN (val xs + val ys) (val ys) := cmpN_nonneg.2 (by omega)
          have z3 := cmpN_range (val xs) (val ys)
          have z4 : decide (xs = ys) = decide (cmpN (val xs) (val ys) = 0) := by
            rw [decide_eq_decide, cmpN_zero]
            constructor
            · intro h; rw [h]
            · intro h; exact norm_inj lx ly (validB_iff.1 vx).2 (validB_iff.1 vy).2 h
          have z5 : ((subSp xs ys).2 : Int) = if 0 ≤ cmpN (val xs) (val ys) then 0 else 1 := by
            by_cases h : val ys ≤ val xs
            · rw [if_pos (cmpN_nonneg.2 h), subSp_ok vx vy h]; rfl
            · rw [if_neg (fun h' => h (cmpN_nonneg.1 h')), subSp_less vx vy (by omega)]; rfl
          have z6 : cmpN (val xs) (val ys) ≠ 1 → xs.length ≤ ys.length ∧ bitsSp xs ≤ bitsSp ys := by
            intro h
            have h1 : ¬ val ys < val xs := fun h2 => h (cmpN_gt h2)
            exact ⟨len_le_of_val ly (validB_iff.1 vx).2 (by omega), order_bits lx ly vx vy (by omega)⟩
          have z7 := bitsSp_le lx vx
          have z8 := bitsSp_le ly vy
          rw [z4] at S1
          rw [es] at C1
          clear hx hy lx ly es vs hs z4 vx vy
          generalize digs (val xs + val ys) = s at *
          generalize subSp xs ys = r2 at *
          generalize cmpN (val xs + val ys) (val xs) = y1 at *
          generalize cmpN (val xs + val ys) (val ys) = y2 at *
          generalize cmpN (val xs) (val ys) = z at *
          generalize bitsSp xs = b1 at *
          generalize bitsSp ys = b2 at *
          obtain ⟨l2, e2⟩ := r2
          have key : ∃ u : Bool, (decide (z = 0) = decide (z = 0)) ∧ (z = 1 ∨ (xs.length ≤ ys.length ∧ b1 ≤ b2)) := ⟨true, rfl, by
            by_cases h : z = 1
            · exact .inl h
            · exact .inr (z6 h)⟩
          obtain ⟨_, _, z9⟩ := key
          clear z6
          rcases z3 with rfl | rfl | rfl
          · have z5' : (e2 : Int) = 1 := by simpa using z5
            obtain rfl : e2 = 1 := by omega
            clear z5'
            obtain ⟨n1, n2⟩ : xs.length ≤ ys.length ∧ b1 ≤ b2 := by simpa using z9
            clear z5 z9
            go_enter Tryd.func9, Tryd.ntmps9
            go_wp2_with (first
              | (go_at_call 22; (first | with_reducible refine (V1.out).mono ?_ | with_reducible refine (V2.out).mono ?_); rintro e w' ⟨rfl, rfl⟩)
              | (go_at_call 20; (with_reducible refine (Q1.out w (.refl _ _)).mono ?_); rintro e w1 ⟨rfl, q0, h0⟩; have b := bl_q0 h0; clear h0)
              | (go_at_call 13; (with_reducible refine (C1.out w1 b).mono ?_); rintro e w2 h; obtain ⟨A1, c1, rfl, s1, b0⟩ := h.get; have b := bl_trans b b0; clear h b0)
              | (go_at_call 15; (with_reducible refine (C2.out w2 b).mono ?_); rintro e w3 h; obtain ⟨A2, c2, rfl, s2, b0⟩ := h.get; have b := bl_trans b b0; have s1 := bl_keeps b0 _ _ s1; clear h b0 s2)
              | (go_at_call 20; (with_reducible refine (Q2.out w3 b).mono ?_); rintro e w4 ⟨rfl, q0, h0⟩; have b0 := bl_q0 h0; have b := bl_trans b b0; have s1 := bl_keeps b0 _ _ s1; clear h0 b0)
              | (go_at_call 19; (with_reducible refine (S1.out w4 b).mono ?_); rintro e w5 ⟨rfl, q0, h0⟩; have b0 := bl_q0 h0; have b := bl_trans b b0; have s1 := bl_keeps b0 _ _ s1; clear h0 b0)
              | (go_at_call 20; (with_reducible refine (T1.out w5 _ _ s1 b).mono ?_); rintro e w6 ⟨rfl, q0, h0⟩; have b0 := bl_q0 h0; have b := bl_trans b b0; have s1 := bl_keeps b0 _ _ s1; clear h0 b0)
              | (go_at_call 20; (with_reducible refine (T2.out w6 _ _ s1 b).mono ?_); rintro e w7 ⟨rfl, q0, h0⟩; have b0 := bl_q0 h0; have b := bl_trans b b0; clear h0 b0 s1)
              | (go_at_call 31; (first | with_reducible refine (B1.out w7 b).mono ?_ | with_reducible refine (B2.out w7 b).mono ?_); rintro e w' ⟨rfl, rfl⟩)
              | (go_at_call 12; (with_reducible refine (awake_any w7 (pow_below ht b)).mono ?_); rintro e w13 ⟨rfl, b0⟩; have b := bl_trans b b0; clear b0))
            go_ret
            exact ⟨rfl, b⟩
          · obtain rfl : e2 = 0 := by simpa using z5
            obtain ⟨n1, n2⟩ : xs.length ≤ ys.length ∧ b1 ≤ b2 := by simpa using z9
            clear z5 z9
            go_enter Tryd.func9, Tryd.ntmps9
            go_wp2_with (first
              | (go_at_call 22; (first | with_reducible refine (V1.out).mono ?_ | with_reducible refine (V2.out).mono ?_); rintro e w' ⟨rfl, rfl⟩)
              | (go_at_call 20; (with_reducible refine (Q1.out w (.refl _ _)).mono ?_); rintro e w1 ⟨rfl, q0, h0⟩; have b := bl_q0 h0; clear h0)
              | (go_at_call 13; (with_reducible refine (C1.out w1 b).mono ?_); rintro e w2 h; obtain ⟨A1, c1, rfl, s1, b0⟩ := h.get; have b := bl_trans b b0; clear h b0)
              | (go_at_call 15; (with_reducible refine (C2.out w2 b).mono ?_); rintro e w3 h; obtain ⟨A2, c2, rfl, s2, b0⟩ := h.get; have b := bl_trans b b0; have s1 := bl_keeps b0 _ _ s1; clear h b0 s2)
              | (go_at_call 20; (with_reducible refine (Q2.out w3 b).mono ?_); rintro e w4 ⟨rfl, q0, h0⟩; have b0 := bl_q0 h0; have b := bl_trans b b0; have s1 := bl_keeps b0 _ _ s1; clear h0 b0)
              | (go_at_call 19; (with_reducible refine (S1.out w4 b).mono ?_); rintro e w5 ⟨rfl, q0, h0⟩; have b0 := bl_q0 h0; have b := bl_trans b b0; have s1 := bl_keeps b0 _ _ s1; clear h0 b0)
              | (go_at_call 20; (with_reducible refine (T1.out w5 _ _ s1 b).mono ?_); rintro e w6 ⟨rfl, q0, h0⟩; have b0 := bl_q0 h0; have b := bl_trans b b0; have s1 := bl_keeps b0 _ _ s1; clear h0 b0)
              | (go_at_call 20; (with_reducible refine (T2.out w6 _ _ s1 b).mono ?_); rintro e w7 ⟨rfl, q0, h0⟩; have b0 := bl_q0 h0; have b := bl_trans b b0; clear h0 b0 s1)
              | (go_at_call 31; (first | with_reducible refine (B1.out w7 b).mono ?_ | with_reducible refine (B2.out w7 b).mono ?_); rintro e w' ⟨rfl, rfl⟩)
              | (go_at_call 12; (with_reducible refine (awake_any w7 (pow_below ht b)).mono ?_); rintro e w13 ⟨rfl, b0⟩; have b := bl_trans b b0; clear b0))
            go_ret
            exact ⟨rfl, b⟩
          · obtain rfl : e2 = 0 := by simpa using z5
            clear z5 z9
            by_cases n1 : xs.length ≤ ys.length
            · by_cases n2 : b1 ≤ b2
              · go_enter Tryd.func9, Tryd.ntmps9
                go_wp2_with (first
                  | (go_at_call 22; (first | with_reducible refine (V1.out).mono ?_ | with_reducible refine (V2.out).mono ?_); rintro e w' ⟨rfl, rfl⟩)
                  | (go_at_call 20; (with_reducible refine (Q1.out w (.refl _ _)).mono ?_); rintro e w1 ⟨rfl, q0, h0⟩; have b := bl_q0 h0; clear h0)
                  | (go_at_call 13; (with_reducible refine (C1.out w1 b).mono ?_); rintro e w2 h; obtain ⟨A1, c1, rfl, s1, b0⟩ := h.get; have b := bl_trans b b0; clear h b0)
                  | (go_at_call 15; (with_reducible refine (C2.out w2 b).mono ?_); rintro e w3 h; obtain ⟨A2, c2, rfl, s2, b0⟩ := h.get; have b := bl_trans b b0; have s1 := bl_keeps b0 _ _ s1; clear h b0 s2)
                  | (go_at_call 20; (with_reducible refine (Q2.out w3 b).mono ?_); rintro e w4 ⟨rfl, q0, h0⟩; have b0 := bl_q0 h0; have b := bl_trans b b0; have s1 := bl_keeps b0 _ _ s1; clear h0 b0)
                  | (go_at_call 19; (with_reducible refine (S1.out w4 b).mono ?_); rintro e w5 ⟨rfl, q0, h0⟩; have b0 := bl_q0 h0; have b := bl_trans b b0; have s1 := bl_keeps b0 _ _ s1; clear h0 b0)
                  | (go_at_call 20; (with_reducible refine (T1.out w5 _ _ s1 b).mono ?_); rintro e w6 ⟨rfl, q0, h0⟩; have b0 := bl_q0 h0; have b := bl_trans b b0; have s1 := bl_keeps b0 _ _ s1; clear h0 b0)
                  | (go_at_call 20; (with_reducible refine (T2.out w6 _ _ s1 b).mono ?_); rintro e w7 ⟨rfl, q0, h0⟩; have b0 := bl_q0 h0; have b := bl_trans b b0; clear h0 b0 s1)
                  | (go_at_call 31; (first | with_reducible refine (B1.out w7 b).mono ?_ | with_reducible refine (B2.out w7 b).mono ?_); rintro e w' ⟨rfl, rfl⟩)
                  | (go_at_call 12; (with_reducible refine (awake_any w7 (pow_below ht b)).mono ?_); rintro e w13 ⟨rfl, b0⟩; have b := bl_trans b b0; clear b0))
                go_ret
                exact ⟨rfl, b⟩
              · go_enter Tryd.func9, Tryd.ntmps9
                go_wp2_with (first
                  | (go_at_call 22; (first | with_reducible refine (V1.out).mono ?_ | with_reducible refine (V2.out).mono ?_); rintro e w' ⟨rfl, rfl⟩)
                  | (go_at_call 20; (with_reducible refine (Q1.out w (.refl _ _)).mono ?_); rintro e w1 ⟨rfl, q0, h0⟩; have b := bl_q0 h0; clear h0)
                  | (go_at_call 13; (with_reducible refine (C1.out w1 b).mono ?_); rintro e w2 h; obtain ⟨A1, c1, rfl, s1, b0⟩ := h.get; have b := bl_trans b b0; clear h b0)
                  | (go_at_call 15; (with_reducible refine (C2.out w2 b).mono ?_); rintro e w3 h; obtain ⟨A2, c2, rfl, s2, b0⟩ := h.get; have b := bl_trans b b0; have s1 := bl_keeps b0 _ _ s1; clear h b0 s2)
                  | (go_at_call 20; (with_reducible refine (Q2.out w3 b).mono ?_); rintro e w4 ⟨rfl, q0, h0⟩; have b0 := bl_q0 h0; have b := bl_trans b b0; have s1 := bl_keeps b0 _ _ s1; clear h0 b0)
                  | (go_at_call 19; (with_reducible refine (S1.out w4 b).mono ?_); rintro e w5 ⟨rfl, q0, h0⟩; have b0 := bl_q0 h0; have b := bl_trans b b0; have s1 := bl_keeps b0 _ _ s1; clear h0 b0)
                  | (go_at_call 20; (with_reducible refine (T1.out w5 _ _ s1 b).mono ?_); rintro e w6 ⟨rfl, q0, h0⟩; have b0 := bl_q0 h0; have b := bl_trans b b0; have s1 := bl_keeps b0 _ _ s1; clear h0 b0)
                  | (go_at_call 20; (with_reducible refine (T2.out w6 _ _ s1 b).mono ?_); rintro e w7 ⟨rfl, q0, h0⟩; have b0 := bl_q0 h0; have b := bl_trans b b0; clear h0 b0 s1)
                  | (go_at_call 31; (first | with_reducible refine (B1.out w7 b).mono ?_ | with_reducible refine (B2.out w7 b).mono ?_); rintro e w' ⟨rfl, rfl⟩)
                  | (go_at_call 12; (with_reducible refine (awake_any w7 (pow_below ht b)).mono ?_); rintro e w13 ⟨rfl, b0⟩; have b := bl_trans b b0; clear b0))
                go_ret
                exact ⟨rfl, b⟩
            · by_cases n2 : b1 ≤ b2
              · go_enter Tryd.func9, Tryd.ntmps9
                go_wp2_with (first
                  | (go_at_call 22; (first | with_reducible refine (V1.out).mono ?_ | with_reducible refine (V2.out).mono ?_); rintro e w' ⟨rfl, rfl⟩)
                  | (go_at_call 20; (with_reducible refine (Q1.out w (.refl _ _)).mono ?_); rintro e w1 ⟨rfl, q0, h0⟩; have b := bl_q0 h0; clear h0)
                  | (go_at_call 13; (with_reducible refine (C1.out w1 b).mono ?_); rintro e w2 h; obtain ⟨A1, c1, rfl, s1, b0⟩ := h.get; have b := bl_trans b b0; clear h b0)
                  | (go_at_call 15; (with_reducible refine (C2.out w2 b).mono ?_); rintro e w3 h; obtain ⟨A2, c2, rfl, s2, b0⟩ := h.get; have b := bl_trans b b0; have s1 := bl_keeps b0 _ _ s1; clear h b0 s2)
                  | (go_at_call 20; (with_reducible refine (Q2.out w3 b).mono ?_); rintro e w4 ⟨rfl, q0, h0⟩; have b0 := bl_q0 h0; have b := bl_trans b b0; have s1 := bl_keeps b0 _ _ s1; clear h0 b0)
                  | (go_at_call 19; (with_reducible refine (S1.out w4 b).mono ?_); rintro e w5 ⟨rfl, q0, h0⟩; have b0 := bl_q0 h0; have b := bl_trans b b0; have s1 := bl_keeps b0 _ _ s1; clear h0 b0)
                  | (go_at_call 20; (with_reducible refine (T1.out w5 _ _ s1 b).mono ?_); rintro e w6 ⟨rfl, q0, h0⟩; have b0 := bl_q0 h0; have b := bl_trans b b0; have s1 := bl_keeps b0 _ _ s1; clear h0 b0)
                  | (go_at_call 20; (with_reducible refine (T2.out w6 _ _ s1 b).mono ?_); rintro e w7 ⟨rfl, q0, h0⟩; have b0 := bl_q0 h0; have b := bl_trans b b0; clear h0 b0 s1)
                  | (go_at_call 31; (first | with_reducible refine (B1.out w7 b).mono ?_ | with_reducible refine (B2.out w7 b).mono ?_); rintro e w' ⟨rfl, rfl⟩)
                  | (go_at_call 12; (with_reducible refine (awake_any w7 (pow_below ht b)).mono ?_); rintro e w13 ⟨rfl, b0⟩; have b := bl_trans b b0; clear b0))
                go_ret
                exact ⟨rfl, b⟩
              · go_enter Tryd.func9, Tryd.ntmps9
                go_wp2_with (first
                  | (go_at_call 22; (first | with_reducible refine (V1.out).mono ?_ | with_reducible refine (V2.out).mono ?_); rintro e w' ⟨rfl, rfl⟩)
                  | (go_at_call 20; (with_reducible refine (Q1.out w (.refl _ _)).mono ?_); rintro e w1 ⟨rfl, q0, h0⟩; have b := bl_q0 h0; clear h0)
                  | (go_at_call 13; (with_reducible refine (C1.out w1 b).mono ?_); rintro e w2 h; obtain ⟨A1, c1, rfl, s1, b0⟩ := h.get; have b := bl_trans b b0; clear h b0)
                  | (go_at_call 15; (with_reducible refine (C2.out w2 b).mono ?_); rintro e w3 h; obtain ⟨A2, c2, rfl, s2, b0⟩ := h.get; have b := bl_trans b b0; have s1 := bl_keeps b0 _ _ s1; clear h b0 s2)
                  | (go_at_call 20; (with_reducible refine (Q2.out w3 b).mono ?_); rintro e w4 ⟨rfl, q0, h0⟩; have b0 := bl_q0 h0; have b := bl_trans b b0; have s1 := bl_keeps b0 _ _ s1; clear h0 b0)
                  | (go_at_call 19; (with_reducible refine (S1.out w4 b).mono ?_); rintro e w5 ⟨rfl, q0, h0⟩; have b0 := bl_q0 h0; have b := bl_trans b b0; have s1 := bl_keeps b0 _ _ s1; clear h0 b0)
                  | (go_at_call 20; (with_reducible refine (T1.out w5 _ _ s1 b).mono ?_); rintro e w6 ⟨rfl, q0, h0⟩; have b0 := bl_q0 h0; have b := bl_trans b b0; have s1 := bl_keeps b0 _ _ s1; clear h0 b0)
                  | (go_at_call 20; (with_reducible refine (T2.out w6 _ _ s1 b).mono ?_); rintro e w7 ⟨rfl, q0, h0⟩; have b0 := bl_q0 h0; have b := bl_trans b b0; clear h0 b0 s1)
                  | (go_at_call 31; (first | with_reducible refine (B1.out w7 b).mono ?_ | with_reducible refine (B2.out w7 b).mono ?_); rintro e w' ⟨rfl, rfl⟩)
                  | (go_at_call 12; (with_reducible refine (awake_any w7 (pow_below ht b)).mono ?_); rintro e w13 ⟨rfl, b0⟩; have b := bl_trans b b0; clear b0))
                go_ret
                exact ⟨rfl, b⟩
        · rw [vx] at V1
          rw [vy] at V2
          clear vx vy lx ly
          go_enter Tryd.func9, Tryd.ntmps9
          go_wp2_with (first
            | (go_at_call 22; (first | with_reducible refine (V1.out).mono ?_ | with_reducible refine (V2.out).mono ?_); rintro e w' ⟨rfl, rfl⟩)
            | (go_at_call 12; (with_reducible refine (W0.out).mono ?_); rintro e w13 ⟨rfl, b⟩))
          go_ret
          exact ⟨rfl, b⟩
      · rw [vx] at V1
        clear vx lx ly
        go_enter Tryd.func9, Tryd.ntmps9
        go_wp2_with (first
          | (go_at_call 22; (first | with_reducible refine (V1.out).mono ?_ | with_reducible refine (V2.out).mono ?_); rintro e w' ⟨rfl, rfl⟩)
          | (go_at_call 12; (with_reducible refine (W0.out).mono ?_); rintro e w13 ⟨rfl, b⟩))
        go_ret
        exact ⟨rfl, b⟩
    · clear lx ly
      go_enter Tryd.func9, Tryd.ntmps9
      go_wp2_with (go_at_call 12; (with_reducible refine (W0.out).mono ?_); rintro e w13 ⟨rfl, b⟩)
      go_ret
      exact ⟨rfl, b⟩
  · clear lx ly
    go_enter Tryd.func9, Tryd.ntmps9
    go_wp2_with (go_at_call 12; (with_reducible refine (W0.out).mono ?_); rintro e w13 ⟨rfl, b⟩)
    go_ret
    exact ⟨rfl, b⟩
end Nt

end Go.Proofs.YthdjjcooekkncaaDoor
