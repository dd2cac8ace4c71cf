/-
  The law QuickOrder.
-/
import Derived.Test.YtgmjdaallinicaaDoorQd
set_option linter.unusedVariables false
set_option linter.unusedSimpArgs false
namespace Go.Proofs.YtgmjdaallinicaaDoor
open Go.RowKit
namespace Nt

theorem S6v_next {w w' w0 : World} (hb : Below w.heap.size w w') {p1 p2 p3 p4 p5 p6 : Addr} {v1 v2 v3 v4 v5 v6 : Value}
    (h : w.cell? p1 = some v1 ∧ w.cell? p2 = some v2 ∧ w.cell? p3 = some v3 ∧ w.cell? p4 = some v4 ∧ w.cell? p5 = some v5 ∧ w.cell? p6 = some v6 ∧ Below w0.heap.size w0 w) :
    w'.cell? p1 = some v1 ∧ w'.cell? p2 = some v2 ∧ w'.cell? p3 = some v3 ∧ w'.cell? p4 = some v4 ∧ w'.cell? p5 = some v5 ∧ w'.cell? p6 = some v6 ∧ Below w0.heap.size w0 w' :=
  ⟨cell_next hb h.1, cell_next hb h.2.1, cell_next hb h.2.2.1, cell_next hb h.2.2.2.1, cell_next hb h.2.2.2.2.1, cell_next hb h.2.2.2.2.2.1, bl_trans h.2.2.2.2.2.2 hb⟩
theorem k6v {c1 c2 c3 c4 c5 c6 k : Prop} (h : c1 ∧ c2 ∧ c3 ∧ c4 ∧ c5 ∧ c6 ∧ k) : k := h.2.2.2.2.2.2
set_option maxRecDepth 100000 in
set_option maxHeartbeats 4000000 in
theorem qorder_main (q0 q1 : Rat) (A0 B0 A1 B1 : Option Addr) (c0 e0 c1 e1 : Nat) (W : World) (sA0 : Sl W A0 (digs (qn q0))) (sB0 : Sl W B0 (digs (qd q0))) (sA1 : Sl W A1 (digs (qn q1))) (sB1 : Sl W B1 (digs (qd q1)))
    (f0 : fitq q0) (f1 : fitq q1) (cx0 : ln (qn q0) ≤ c0) (cy0 : ln (qd q0) ≤ e0) (h0 : ln (qn q0) ≤ 12 ∧ ln (qd q0) ≤ 12) (h1 : ln (qn q1) ≤ 12 ∧ ln (qd q1) ≤ 12)
    (AW : Hid (∀ V : World, Below W.heap.size W V → Calls Tryd.prog 9 #[] V fun e V' => e = .returned (.bool true) ∧ Below V.heap.size V V')) :
    Calls Tryd.prog 7 #[.agg #[.bool (qs q0), .slice A0 (ln (qn q0)) c0, .slice B0 (ln (qd q0)) e0], .agg #[.bool (qs q1), .slice A1 (ln (qn q1)) c1, .slice B1 (ln (qd q1)) e1]] W fun e W' => e = .returned (.bool true) ∧ Below W.heap.size W W' := by
  have V0 := hide (fun V (g : Below W.heap.size W V) => rvalid_q q0 A0 B0 c0 e0 V (kp' g sA0) (kp' g sB0) f0)
  have V1 := hide (fun V (g : Below W.heap.size W V) => rvalid_q q1 A1 B1 c1 e1 V (kp' g sA1) (kp' g sB1) f1)
  have fN : fitq (-q0) := ⟨by rw [qn_neg]; exact f0.1, f0.2⟩
  obtain ⟨rs0, r0, is0, i0, Q0⟩ := qb_rat q0 f0
  obtain ⟨rs1, r1, is1, i1, Q1⟩ := qb_rat q1 f1
  obtain ⟨rs2, r2, is2, i2, Q2⟩ := qb_rat (-q0) fN
  have OF0 := hide (fun V (g : Below W.heap.size W V) => qof_f q0 A0 B0 c0 e0 rs0 r0 is0 i0 V (kp' g sA0) (kp' g sB0) f0 Q0)
  have OF1 := hide (fun V (g : Below W.heap.size W V) => qof_f q1 A1 B1 c1 e1 rs1 r1 is1 i1 V (kp' g sA1) (kp' g sB1) f1 Q1)
  have OFN := hide (fun X Y e f V sx sy => qof_f (-q0) X Y e f rs2 r2 is2 i2 V sx sy fN Q2)
  have NG := hide (fun V (g : Below W.heap.size W V) => rneg_q q0 (-q0) rfl A0 B0 c0 e0 V (kp' g sA0) (kp' g sB0) f0 cx0 cy0)
  obtain ⟨k, hk⟩ : ∃ k, cmpQ q0 q1 = k := ⟨_, rfl⟩
  have CM := hide (fun V (g : Below W.heap.size W V) => rcmp_q q0 q1 A0 B0 A1 B1 c0 e0 c1 e1 V (kp' g sA0) (kp' g sB0) (kp' g sA1) (kp' g sB1) f0 f1 k hk)
  obtain ⟨z0, x0, g1, g2, g3, g4, g5, g6⟩ := Q0.vals
  obtain ⟨z1, x1, k1, k2, k3, k4, k5, k6⟩ := Q1.vals
  obtain ⟨z2, x2, m1, m2, m3, m4, m5, m6⟩ := Q2.vals
  obtain ⟨t1, t2⟩ := bounds_neg q0 g1 m1 g2 m2
  have oe1 : binOp .eql 25 (.float .f64 (Ieee.double.word rs2 r2)) (.float .f64 (Ieee.double.word (!is0) i0)) = pure (.bool true) := fl_eql _ _ _ _ ((wo_eq _ _ _ _ m5 g6).trans (decide_eq_true (by rw [I_not, m3, g4, t1])))
  have oe2 : binOp .eql 25 (.float .f64 (Ieee.double.word is2 i2)) (.float .f64 (Ieee.double.word (!rs0) r0)) = pure (.bool true) := fl_eql _ _ _ _ ((wo_eq _ _ _ _ m6 g5).trans (decide_eq_true (by rw [I_not, m4, g3, t2])))
  have on1 := un_neg _ _ (w_neg is0 i0 (by omega))
  have on2 := un_neg _ _ (w_neg rs0 r0 (by omega))
  have oc : binOp .leq 3 (.int .i64 k) (.int .i64 0) = pure (.bool (decide (k ≤ 0))) := rfl
  have og : k ≤ 0 → binOp .gtr 25 (.float .f64 (Ieee.double.word rs0 r0)) (.float .f64 (Ieee.double.word rs1 r1)) = pure (.bool false) ∧ binOp .gtr 25 (.float .f64 (Ieee.double.word is0 i0)) (.float .f64 (Ieee.double.word is1 i1)) = pure (.bool false) := fun h => by
    obtain ⟨u1, u2⟩ := bounds_mono (by rw [hk]; exact h) g1 k1 g2 k2
    exact ⟨fl_gtr _ _ _ _ ((wo_gt _ _ _ _ g5 k5).trans (decide_eq_false (by rw [g3, k3]; omega))), fl_gtr _ _ _ _ ((wo_gt _ _ _ _ g6 k6).trans (decide_eq_false (by rw [g4, k4]; omega)))⟩
  have l0 : binOp .gtr 3 (.int .i64 (ln (qn q0) : Int)) (.int .i64 12) = pure (.bool false) := ii_gtr _ _ _ _ (decide_eq_false (by omega))
  have l1 : binOp .gtr 3 (.int .i64 (ln (qd q0) : Int)) (.int .i64 12) = pure (.bool false) := ii_gtr _ _ _ _ (decide_eq_false (by omega))
  have l2 : binOp .gtr 3 (.int .i64 (ln (qn q1) : Int)) (.int .i64 12) = pure (.bool false) := ii_gtr _ _ _ _ (decide_eq_false (by omega))
  have l3 : binOp .gtr 3 (.int .i64 (ln (qd q1) : Int)) (.int .i64 12) = pure (.bool false) := ii_gtr _ _ _ _ (decide_eq_false (by omega))
  have X0 := hide ((Q3.new (.bool (qs q0)) (.slice A0 (ln (qn q0)) c0) (.slice B0 (ln (qd q0)) e0) W).al (.cells #[.bool (qs q1), .slice A1 (ln (qn q1)) c1, .slice B1 (ln (qd q1)) e1] 24))
  have X1 := hide (Q3.new1 (.bool (qs q1)) (.slice A1 (ln (qn q1)) c1) (.slice B1 (ln (qd q1)) e1) W (.cells #[.bool (qs q0), .slice A0 (ln (qn q0)) c0, .slice B0 (ln (qd q0)) e0] 24))
  have b0 : Below W.heap.size W ((W.alloc (.cells #[.bool (qs q0), .slice A0 (ln (qn q0)) c0, .slice B0 (ln (qd q0)) e0] 24)).alloc (.cells #[.bool (qs q1), .slice A1 (ln (qn q1)) c1, .slice B1 (ln (qd q1)) e1] 24)) := bl_al (bl_al (.refl _ _) _) _
  clear sA0 sB0 sA1 sB1 f0 f1 fN cx0 cy0 h0 h1 Q0 Q1 Q2 g1 g2 g3 g4 g5 g6 k1 k2 k3 k4 k5 k6 m1 m2 m3 m4 m5 m6 t1 t2 hk
  obtain ⟨x01, x02, x03, x04, x05, x06⟩ := X0.out
  obtain ⟨x11, x12, x13, x14, x15, x16⟩ := X1.out
  generalize Ieee.double.word rs0 r0 = lo0 at *
  generalize Ieee.double.word is0 i0 = hi0 at *
  generalize Ieee.double.word rs1 r1 = lo1 at *
  generalize Ieee.double.word is1 i1 = hi1 at *
  generalize Ieee.double.word rs2 r2 = lo2 at *
  generalize Ieee.double.word is2 i2 = hi2 at *
  generalize Ieee.double.word (!is0) i0 = u1 at *
  generalize Ieee.double.word (!rs0) r0 = u2 at *
  generalize ln (qn q0) = n0 at *
  generalize ln (qd q0) = n1 at *
  generalize ln (qn q1) = n2 at *
  generalize ln (qd q1) = n3 at *
  generalize qs q0 = s0 at *
  generalize qs q1 = s1 at *
  go_enter Tryd.func7, Tryd.ntmps7
  go_wp2_with (first
    | (go_at_call 16; (with_reducible refine (V0.out _ b0).mono ?_); rintro e w1 ⟨rfl, hb⟩; have b1 := bl_trans b0 hb; have X0 := hide (X0.out.next hb); have X1 := hide (X1.out.next hb); clear hb x01 x02 x03 x04 x05 x06 x11 x12 x13 x14 x15 x16; obtain ⟨x01, x02, x03, x04, x05, x06⟩ := X0.out; obtain ⟨x11, x12, x13, x14, x15, x16⟩ := X1.out)
    | (go_at_call 16; (with_reducible refine (V1.out _ b1).mono ?_); rintro e w2 ⟨rfl, hb⟩; have b2 := bl_trans b1 hb; have X0 := hide (X0.out.next hb); have X1 := hide (X1.out.next hb); clear hb x01 x02 x03 x04 x05 x06 x11 x12 x13 x14 x15 x16; obtain ⟨x01, x02, x03, x04, x05, x06⟩ := X0.out; obtain ⟨x11, x12, x13, x14, x15, x16⟩ := X1.out))
  have bd := hide b2.drew
  clear V0 V1 l0 l1 l2 l3 x04 x05 x06 x14 x15 x16
  go_region_held3 (fun V => V.cell? ⟨W.heap.size, 0, none⟩ = some (.bool s0) ∧ V.cell? ⟨W.heap.size, 1, none⟩ = some (.slice A0 n0 c0) ∧ V.cell? ⟨W.heap.size, 2, none⟩ = some (.slice B0 n1 e0) ∧ V.cell? ⟨W.heap.size + 1, 0, none⟩ = some (.bool s1) ∧ V.cell? ⟨W.heap.size + 1, 1, none⟩ = some (.slice A1 n2 c1) ∧ V.cell? ⟨W.heap.size + 1, 2, none⟩ = some (.slice B1 n3 e1) ∧ Below W.heap.size W V)
    (first | exact ⟨x01, x02, x03, x11, x12, x13, b2⟩ | exact ⟨x01, x02, x03, x11, x12, x13, bd.out⟩ | with_reducible exact S6v_next hb (by assumption) | with_reducible assumption)
    (first
      | (go_at_call 13; (with_reducible refine (OF0.out _ (k6v (by assumption))).mono ?_); rintro e v1 ⟨rfl, hb⟩)
      | (go_at_call 13; (with_reducible refine (OF1.out _ (k6v (by assumption))).mono ?_); rintro e v2 ⟨rfl, hb⟩)
      | (go_at_call 27; (with_reducible refine (NG.out _ (k6v (by assumption))).mono ?_); rintro e v3 ⟨A3, c3, B3, d3, rfl, s3, t3, hb⟩)
      | (go_at_call 13; (with_reducible refine (OFN.out A3 B3 c3 d3 _ s3 t3).mono ?_); rintro e v4 ⟨rfl, hb⟩))
  all_goals
    clear x01 x02 x03 x11 x12 x13
    rename_i hS
    obtain ⟨x01, x02, x03, x11, x12, x13, b3⟩ := hS
    by_cases hk : k ≤ 0
    · obtain ⟨og1, og2⟩ := og hk
      rw [decide_eq_true hk] at oc
      clear og hk
      go_wp2_with (first
        | (go_at_call 20; (with_reducible refine (CM.out _ b3).mono ?_); rintro e v5 ⟨rfl, hb⟩; have b5 := bl_trans b3 hb; clear hb)
        | (go_at_call 9; (with_reducible refine (AW.out _ b5).mono ?_); rintro e v9 ⟨rfl, hb⟩; have bz := bl_trans b5 hb; clear hb))
      go_ret
      exact ⟨rfl, bz⟩
    · rw [decide_eq_false hk] at oc
      clear og hk
      go_wp2_with (first
        | (go_at_call 20; (with_reducible refine (CM.out _ b3).mono ?_); rintro e v5 ⟨rfl, hb⟩; have b5 := bl_trans b3 hb; clear hb)
        | (go_at_call 9; (with_reducible refine (AW.out _ b5).mono ?_); rintro e v9 ⟨rfl, hb⟩; have bz := bl_trans b5 hb; clear hb))
      go_ret
      exact ⟨rfl, bz⟩
set_option maxRecDepth 100000 in
set_option maxHeartbeats 4000000 in
theorem quickOrder_law (s0 : Bool) (A0 B0 : Option Addr) (c0 e0 : Nat) (xs0 ys0 : List Nat) (s1 : Bool) (A1 B1 : Option Addr) (c1 e1 : Nat) (xs1 ys1 : List Nat) (W : World) (sA0 : Sl W A0 xs0) (sB0 : Sl W B0 ys0) (lx0 : Limbs xs0) (ly0 : Limbs ys0) (mx0 : xs0.length ≤ maxLen) (my0 : ys0.length ≤ maxLen) (cx0 : xs0.length ≤ c0) (cy0 : ys0.length ≤ e0) (sA1 : Sl W A1 xs1) (sB1 : Sl W B1 ys1) (lx1 : Limbs xs1) (ly1 : Limbs ys1) (mx1 : xs1.length ≤ maxLen) (my1 : ys1.length ≤ maxLen) (cx1 : xs1.length ≤ c1) (cy1 : ys1.length ≤ e1)
    (AW : Hid (∀ V : World, Below W.heap.size W V → Calls Tryd.prog 9 #[] V fun e V' => e = .returned (.bool true) ∧ Below V.heap.size V V'))
    (MAIN : Hid (∀ (q0 : Rat) (q1 : Rat), (s0 = qs q0 ∧ xs0 = digs (qn q0) ∧ ys0 = digs (qd q0)) → (s1 = qs q1 ∧ xs1 = digs (qn q1) ∧ ys1 = digs (qd q1)) → fitq q0 → fitq q1 → (xs0.length ≤ 12 ∧ ys0.length ≤ 12) → (xs1.length ≤ 12 ∧ ys1.length ≤ 12) → Calls Tryd.prog 7 #[.agg #[.bool s0, .slice A0 xs0.length c0, .slice B0 ys0.length e0], .agg #[.bool s1, .slice A1 xs1.length c1, .slice B1 ys1.length e1]] W fun e W' => e = .returned (.bool true) ∧ Below W.heap.size W W')) :
    Calls Tryd.prog 7 #[.agg #[.bool s0, .slice A0 xs0.length c0, .slice B0 ys0.length e0], .agg #[.bool s1, .slice A1 xs1.length c1, .slice B1 ys1.length e1]] W fun e W' => e = .returned (.bool true) ∧ Below W.heap.size W W' := by
  by_cases h0 : xs0.length ≤ 12
  · skip
    by_cases h1 : ys0.length ≤ 12
    · skip
      by_cases h2 : xs1.length ≤ 12
      · skip
        by_cases h3 : ys1.length ≤ 12
        · skip
          have g0 : binOp .gtr 3 (.int .i64 (xs0.length : Int)) (.int .i64 12) = pure (.bool false) := ii_gtr _ _ _ _ (decide_eq_false (by omega))
          have g1 : binOp .gtr 3 (.int .i64 (ys0.length : Int)) (.int .i64 12) = pure (.bool false) := ii_gtr _ _ _ _ (decide_eq_false (by omega))
          have g2 : binOp .gtr 3 (.int .i64 (xs1.length : Int)) (.int .i64 12) = pure (.bool false) := ii_gtr _ _ _ _ (decide_eq_false (by omega))
          have g3 : binOp .gtr 3 (.int .i64 (ys1.length : Int)) (.int .i64 12) = pure (.bool false) := ii_gtr _ _ _ _ (decide_eq_false (by omega))
          rcases vQ2 s0 xs0 ys0 with v0 | v0
          · skip
            rcases vQ2 s1 xs1 ys1 with v1 | v1
            · skip
              obtain ⟨q0, a0, b0, d0⟩ := as_rat lx0 ly0 v0
              obtain ⟨q1, a1, b1, d1⟩ := as_rat lx1 ly1 v1
              have ff : ∀ {q : Rat} {n m : Nat}, ln (qn q) ≤ n → ln (qd q) ≤ m → n ≤ 64 → m ≤ 64 → fitq q := fun h1 h2 h3 h4 => ⟨Nat.le_trans h1 h3, Nat.le_trans h2 h4⟩
              have f0 : fitq q0 := ff (n := 12) (m := 12) (by unfold ln; rw [← b0]; assumption) (by unfold ln; rw [← d0]; assumption) (by decide) (by decide)
              have f1 : fitq q1 := ff (n := 12) (m := 12) (by unfold ln; rw [← b1]; assumption) (by unfold ln; rw [← d1]; assumption) (by decide) (by decide)
              exact MAIN.out q0 q1 ⟨a0, b0, d0⟩ ⟨a1, b1, d1⟩ f0 f1 ⟨h0, h1⟩ ⟨h2, h3⟩
            · skip
              have b0 : Below W.heap.size W ((W.alloc (.cells #[.bool s0, .slice A0 xs0.length c0, .slice B0 ys0.length e0] 24)).alloc (.cells #[.bool s1, .slice A1 xs1.length c1, .slice B1 ys1.length e1] 24)) := bl_al (bl_al (.refl _ _) _) _
              have X0 := hide ((Q3.new (.bool s0) (.slice A0 xs0.length c0) (.slice B0 ys0.length e0) W).al (.cells #[.bool s1, .slice A1 xs1.length c1, .slice B1 ys1.length e1] 24))
              obtain ⟨x01, x02, x03, x04, x05, x06⟩ := X0.out
              have X1 := hide (Q3.new1 (.bool s1) (.slice A1 xs1.length c1) (.slice B1 ys1.length e1) W (.cells #[.bool s0, .slice A0 xs0.length c0, .slice B0 ys0.length e0] 24))
              obtain ⟨x11, x12, x13, x14, x15, x16⟩ := X1.out
              have V0 := hide (fun V (g : Below W.heap.size W V) => rvalidQ_any s0 A0 B0 c0 e0 xs0 ys0 V (bl_keeps g _ _ sA0) (bl_keeps g _ _ sB0) lx0 ly0 (by omega) (by omega) true v0)
              have V1 := hide (fun V (g : Below W.heap.size W V) => rvalidQ_any s1 A1 B1 c1 e1 xs1 ys1 V (bl_keeps g _ _ sA1) (bl_keeps g _ _ sB1) lx1 ly1 (by omega) (by omega) false v1)
              clear MAIN
              clear sA0 sB0 lx0 ly0 mx0 my0 cx0 cy0 sA1 sB1 lx1 ly1 mx1 my1 cx1 cy1 h0 h1 h2 h3 v0 v1
              generalize xs0.length = n0 at *
              generalize ys0.length = n1 at *
              generalize xs1.length = n2 at *
              generalize ys1.length = n3 at *
              go_enter Tryd.func7, Tryd.ntmps7
              go_wp2_with (first
                | (go_at_call 16; (with_reducible refine (V0.out _ b0).mono ?_); rintro e w1 ⟨rfl, hb⟩; have b1' := bl_trans b0 hb; have X0 := hide (X0.out.next hb); have X1 := hide (X1.out.next hb); clear x01 x02 x03 x04 x05 x06 x11 x12 x13 x14 x15 x16; obtain ⟨x01, x02, x03, x04, x05, x06⟩ := X0.out; obtain ⟨x11, x12, x13, x14, x15, x16⟩ := X1.out; clear hb)
                | (go_at_call 16; (with_reducible refine (V1.out _ b1').mono ?_); rintro e w2 ⟨rfl, hb⟩; have b2' := bl_trans b1' hb; have X0 := hide (X0.out.next hb); have X1 := hide (X1.out.next hb); clear x01 x02 x03 x04 x05 x06 x11 x12 x13 x14 x15 x16; obtain ⟨x01, x02, x03, x04, x05, x06⟩ := X0.out; obtain ⟨x11, x12, x13, x14, x15, x16⟩ := X1.out; clear hb)
                | (go_at_call 9; (with_reducible refine (AW.out _ b2').mono ?_); rintro e v9 ⟨rfl, hb⟩; have bz := bl_trans b2' hb; clear hb))
              go_ret
              exact ⟨rfl, bz⟩
          · skip
            have b0 : Below W.heap.size W ((W.alloc (.cells #[.bool s0, .slice A0 xs0.length c0, .slice B0 ys0.length e0] 24)).alloc (.cells #[.bool s1, .slice A1 xs1.length c1, .slice B1 ys1.length e1] 24)) := bl_al (bl_al (.refl _ _) _) _
            have X0 := hide ((Q3.new (.bool s0) (.slice A0 xs0.length c0) (.slice B0 ys0.length e0) W).al (.cells #[.bool s1, .slice A1 xs1.length c1, .slice B1 ys1.length e1] 24))
            obtain ⟨x01, x02, x03, x04, x05, x06⟩ := X0.out
            have X1 := hide (Q3.new1 (.bool s1) (.slice A1 xs1.length c1) (.slice B1 ys1.length e1) W (.cells #[.bool s0, .slice A0 xs0.length c0, .slice B0 ys0.length e0] 24))
            obtain ⟨x11, x12, x13, x14, x15, x16⟩ := X1.out
            have V0 := hide (fun V (g : Below W.heap.size W V) => rvalidQ_any s0 A0 B0 c0 e0 xs0 ys0 V (bl_keeps g _ _ sA0) (bl_keeps g _ _ sB0) lx0 ly0 (by omega) (by omega) false v0)
            clear MAIN
            clear sA0 sB0 lx0 ly0 mx0 my0 cx0 cy0 sA1 sB1 lx1 ly1 mx1 my1 cx1 cy1 h0 h1 h2 h3 v0
            generalize xs0.length = n0 at *
            generalize ys0.length = n1 at *
            generalize xs1.length = n2 at *
            generalize ys1.length = n3 at *
            go_enter Tryd.func7, Tryd.ntmps7
            go_wp2_with (first
              | (go_at_call 16; (with_reducible refine (V0.out _ b0).mono ?_); rintro e w1 ⟨rfl, hb⟩; have b1' := bl_trans b0 hb; have X0 := hide (X0.out.next hb); have X1 := hide (X1.out.next hb); clear x01 x02 x03 x04 x05 x06 x11 x12 x13 x14 x15 x16; obtain ⟨x01, x02, x03, x04, x05, x06⟩ := X0.out; obtain ⟨x11, x12, x13, x14, x15, x16⟩ := X1.out; clear hb)
              | (go_at_call 9; (with_reducible refine (AW.out _ b1').mono ?_); rintro e v9 ⟨rfl, hb⟩; have bz := bl_trans b1' hb; clear hb))
            go_ret
            exact ⟨rfl, bz⟩
        · skip
          have b0 : Below W.heap.size W ((W.alloc (.cells #[.bool s0, .slice A0 xs0.length c0, .slice B0 ys0.length e0] 24)).alloc (.cells #[.bool s1, .slice A1 xs1.length c1, .slice B1 ys1.length e1] 24)) := bl_al (bl_al (.refl _ _) _) _
          have X0 := hide ((Q3.new (.bool s0) (.slice A0 xs0.length c0) (.slice B0 ys0.length e0) W).al (.cells #[.bool s1, .slice A1 xs1.length c1, .slice B1 ys1.length e1] 24))
          obtain ⟨x01, x02, x03, x04, x05, x06⟩ := X0.out
          have X1 := hide (Q3.new1 (.bool s1) (.slice A1 xs1.length c1) (.slice B1 ys1.length e1) W (.cells #[.bool s0, .slice A0 xs0.length c0, .slice B0 ys0.length e0] 24))
          obtain ⟨x11, x12, x13, x14, x15, x16⟩ := X1.out
          have g0 : binOp .gtr 3 (.int .i64 (xs0.length : Int)) (.int .i64 12) = pure (.bool false) := ii_gtr _ _ _ _ (decide_eq_false (by omega))
          have g1 : binOp .gtr 3 (.int .i64 (ys0.length : Int)) (.int .i64 12) = pure (.bool false) := ii_gtr _ _ _ _ (decide_eq_false (by omega))
          have g2 : binOp .gtr 3 (.int .i64 (xs1.length : Int)) (.int .i64 12) = pure (.bool false) := ii_gtr _ _ _ _ (decide_eq_false (by omega))
          have g3 : binOp .gtr 3 (.int .i64 (ys1.length : Int)) (.int .i64 12) = pure (.bool true) := ii_gtr _ _ _ _ (decide_eq_true (by omega))
          clear MAIN sA0 sB0 lx0 ly0 mx0 my0 cx0 cy0 sA1 sB1 lx1 ly1 mx1 my1 cx1 cy1 h0 h1 h2 h3
          generalize xs0.length = n0 at *
          generalize ys0.length = n1 at *
          generalize xs1.length = n2 at *
          generalize ys1.length = n3 at *
          go_enter Tryd.func7, Tryd.ntmps7
          go_wp2_with (first
            | (go_at_call 9; (with_reducible refine (AW.out _ b0).mono ?_); rintro e v9 ⟨rfl, hb⟩; have bz := bl_trans b0 hb; clear hb))
          go_ret
          exact ⟨rfl, bz⟩
      · skip
        have b0 : Below W.heap.size W ((W.alloc (.cells #[.bool s0, .slice A0 xs0.length c0, .slice B0 ys0.length e0] 24)).alloc (.cells #[.bool s1, .slice A1 xs1.length c1, .slice B1 ys1.length e1] 24)) := bl_al (bl_al (.refl _ _) _) _
        have X0 := hide ((Q3.new (.bool s0) (.slice A0 xs0.length c0) (.slice B0 ys0.length e0) W).al (.cells #[.bool s1, .slice A1 xs1.length c1, .slice B1 ys1.length e1] 24))
        obtain ⟨x01, x02, x03, x04, x05, x06⟩ := X0.out
        have X1 := hide (Q3.new1 (.bool s1) (.slice A1 xs1.length c1) (.slice B1 ys1.length e1) W (.cells #[.bool s0, .slice A0 xs0.length c0, .slice B0 ys0.length e0] 24))
        obtain ⟨x11, x12, x13, x14, x15, x16⟩ := X1.out
        have g0 : binOp .gtr 3 (.int .i64 (xs0.length : Int)) (.int .i64 12) = pure (.bool false) := ii_gtr _ _ _ _ (decide_eq_false (by omega))
        have g1 : binOp .gtr 3 (.int .i64 (ys0.length : Int)) (.int .i64 12) = pure (.bool false) := ii_gtr _ _ _ _ (decide_eq_false (by omega))
        have g2 : binOp .gtr 3 (.int .i64 (xs1.length : Int)) (.int .i64 12) = pure (.bool true) := ii_gtr _ _ _ _ (decide_eq_true (by omega))
        clear MAIN sA0 sB0 lx0 ly0 mx0 my0 cx0 cy0 sA1 sB1 lx1 ly1 mx1 my1 cx1 cy1 h0 h1 h2
        generalize xs0.length = n0 at *
        generalize ys0.length = n1 at *
        generalize xs1.length = n2 at *
        generalize ys1.length = n3 at *
        go_enter Tryd.func7, Tryd.ntmps7
        go_wp2_with (first
          | (go_at_call 9; (with_reducible refine (AW.out _ b0).mono ?_); rintro e v9 ⟨rfl, hb⟩; have bz := bl_trans b0 hb; clear hb))
        go_ret
        exact ⟨rfl, bz⟩
    · skip
      have b0 : Below W.heap.size W ((W.alloc (.cells #[.bool s0, .slice A0 xs0.length c0, .slice B0 ys0.length e0] 24)).alloc (.cells #[.bool s1, .slice A1 xs1.length c1, .slice B1 ys1.length e1] 24)) := bl_al (bl_al (.refl _ _) _) _
      have X0 := hide ((Q3.new (.bool s0) (.slice A0 xs0.length c0) (.slice B0 ys0.length e0) W).al (.cells #[.bool s1, .slice A1 xs1.length c1, .slice B1 ys1.length e1] 24))
      obtain ⟨x01, x02, x03, x04, x05, x06⟩ := X0.out
      have X1 := hide (Q3.new1 (.bool s1) (.slice A1 xs1.length c1) (.slice B1 ys1.length e1) W (.cells #[.bool s0, .slice A0 xs0.length c0, .slice B0 ys0.length e0] 24))
      obtain ⟨x11, x12, x13, x14, x15, x16⟩ := X1.out
      have g0 : binOp .gtr 3 (.int .i64 (xs0.length : Int)) (.int .i64 12) = pure (.bool false) := ii_gtr _ _ _ _ (decide_eq_false (by omega))
      have g1 : binOp .gtr 3 (.int .i64 (ys0.length : Int)) (.int .i64 12) = pure (.bool true) := ii_gtr _ _ _ _ (decide_eq_true (by omega))
      clear MAIN sA0 sB0 lx0 ly0 mx0 my0 cx0 cy0 sA1 sB1 lx1 ly1 mx1 my1 cx1 cy1 h0 h1
      generalize xs0.length = n0 at *
      generalize ys0.length = n1 at *
      generalize xs1.length = n2 at *
      generalize ys1.length = n3 at *
      go_enter Tryd.func7, Tryd.ntmps7
      go_wp2_with (first
        | (go_at_call 9; (with_reducible refine (AW.out _ b0).mono ?_); rintro e v9 ⟨rfl, hb⟩; have bz := bl_trans b0 hb; clear hb))
      go_ret
      exact ⟨rfl, bz⟩
  · skip
    have b0 : Below W.heap.size W ((W.alloc (.cells #[.bool s0, .slice A0 xs0.length c0, .slice B0 ys0.length e0] 24)).alloc (.cells #[.bool s1, .slice A1 xs1.length c1, .slice B1 ys1.length e1] 24)) := bl_al (bl_al (.refl _ _) _) _
    have X0 := hide ((Q3.new (.bool s0) (.slice A0 xs0.length c0) (.slice B0 ys0.length e0) W).al (.cells #[.bool s1, .slice A1 xs1.length c1, .slice B1 ys1.length e1] 24))
    obtain ⟨x01, x02, x03, x04, x05, x06⟩ := X0.out
    have X1 := hide (Q3.new1 (.bool s1) (.slice A1 xs1.length c1) (.slice B1 ys1.length e1) W (.cells #[.bool s0, .slice A0 xs0.length c0, .slice B0 ys0.length e0] 24))
    obtain ⟨x11, x12, x13, x14, x15, x16⟩ := X1.out
    have g0 : binOp .gtr 3 (.int .i64 (xs0.length : Int)) (.int .i64 12) = pure (.bool true) := ii_gtr _ _ _ _ (decide_eq_true (by omega))
    clear MAIN sA0 sB0 lx0 ly0 mx0 my0 cx0 cy0 sA1 sB1 lx1 ly1 mx1 my1 cx1 cy1 h0
    generalize xs0.length = n0 at *
    generalize ys0.length = n1 at *
    generalize xs1.length = n2 at *
    generalize ys1.length = n3 at *
    go_enter Tryd.func7, Tryd.ntmps7
    go_wp2_with (first
      | (go_at_call 9; (with_reducible refine (AW.out _ b0).mono ?_); rintro e v9 ⟨rfl, hb⟩; have bz := bl_trans b0 hb; clear hb))
    go_ret
    exact ⟨rfl, bz⟩
theorem quickOrder_fin (s0 : Bool) (A0 B0 : Option Addr) (c0 e0 : Nat) (xs0 ys0 : List Nat) (s1 : Bool) (A1 B1 : Option Addr) (c1 e1 : Nat) (xs1 ys1 : List Nat) (W : World) (sA0 : Sl W A0 xs0) (sB0 : Sl W B0 ys0) (lx0 : Limbs xs0) (ly0 : Limbs ys0) (mx0 : xs0.length ≤ maxLen) (my0 : ys0.length ≤ maxLen) (cx0 : xs0.length ≤ c0) (cy0 : ys0.length ≤ e0) (sA1 : Sl W A1 xs1) (sB1 : Sl W B1 ys1) (lx1 : Limbs xs1) (ly1 : Limbs ys1) (mx1 : xs1.length ≤ maxLen) (my1 : ys1.length ≤ maxLen) (cx1 : xs1.length ≤ c1) (cy1 : ys1.length ≤ e1) (ht : DeB W) :
    Calls Tryd.prog 7 #[.agg #[.bool s0, .slice A0 xs0.length c0, .slice B0 ys0.length e0], .agg #[.bool s1, .slice A1 xs1.length c1, .slice B1 ys1.length e1]] W fun e W' => e = .returned (.bool true) ∧ Below W.heap.size W W' := by
  have AW : Hid (∀ V : World, Below W.heap.size W V → Calls Tryd.prog 9 #[] V fun e V' => e = .returned (.bool true) ∧ Below V.heap.size V V') := hide fun V g => awake5_any V (ht.next g)
  refine quickOrder_law s0 A0 B0 c0 e0 xs0 ys0 s1 A1 B1 c1 e1 xs1 ys1 W sA0 sB0 lx0 ly0 mx0 my0 cx0 cy0 sA1 sB1 lx1 ly1 mx1 my1 cx1 cy1 AW (hide ?_)
  rintro q0 q1 ⟨rfl, rfl, rfl⟩ ⟨rfl, rfl, rfl⟩ f0 f1 h0 h1
  exact qorder_main q0 q1 A0 B0 A1 B1 c0 e0 c1 e1 W sA0 sB0 sA1 sB1 f0 f1 cx0 cy0 h0 h1 AW
end Nt
end Go.Proofs.YtgmjdaallinicaaDoor
