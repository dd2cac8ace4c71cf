/-
  The law QuickHolds.
-/
import Derived.Test.YtgmjdaallinicaaDoorQd
set_option linter.unusedVariables false
set_option linter.unusedSimpArgs false
namespace Go.Proofs.YtgmjdaallinicaaDoor
open Go.RowKit
namespace Nt

theorem ii_leq (t : TypeId) (x y : Int) (b : Bool) (h : decide (x ≤ y) = b) : binOp .leq t (.int .i64 x) (.int .i64 y) = pure (.bool b) := by rw [← h]; rfl
theorem fl_leq (t : TypeId) (x y : Nat) (b : Bool) (h : (Ieee.double.order x y == some .lt || Ieee.double.order x y == some .eq) = b) : binOp .leq t (.float .f64 x) (.float .f64 y) = pure (.bool b) := by rw [binOp_float_cmp_leq, ← h]; rfl
theorem wo_le (s t : Bool) (a b : Nat) (ha : a ≤ 2047 * 2 ^ 52) (hb : b ≤ 2047 * 2 ^ 52) : (Ieee.double.order (Ieee.double.word s a) (Ieee.double.word t b) == some .lt || Ieee.double.order (Ieee.double.word s a) (Ieee.double.word t b) == some .eq) = decide (I s a ≤ I t b) := by
  rw [wo_lt s t a b ha hb, wo_eq s t a b ha hb, ← Bool.decide_or]
  exact decide_eq_decide.2 (by omega)
theorem lo_le_hi {s : Bool} {n d : Nat} {rs is : Bool} {r i : Nat} (h : Qb s n d rs r is i) : I rs r ≤ I is i := by
  obtain ⟨z, x, h1, h2, h3, h4, -, -⟩ := h.vals
  rw [h3, h4]
  have hm : loR z ≤ hiR z x := by
    unfold loR hiR
    cases x <;> simp only [Bool.false_eq_true, if_false, if_true] <;> omega
  have := U_mono hm
  unfold loI hiI
  cases s <;> simp only [Bool.false_eq_true, if_false, if_true] <;> omega
theorem up_gt {q : Rat} {rs is : Bool} {r i : Nat} (h : Qb (qs q) (qn q) (qd q) rs r is i) (hr : r < 2047 * 2 ^ 52) {s' : Bool} {r' : Nat} (hn : nx rs r false (2047 * 2 ^ 52) = (s', r')) : r' ≤ 2047 * 2 ^ 52 ∧ (r' = 2047 * 2 ^ 52 → s' = false) ∧ (r' < 2047 * 2 ^ 52 → q < rq s' r') := by
  obtain ⟨z, x, h1, h2, h3⟩ := h
  have hU := U_lt hr
  cases hs : qs q with
  | false =>
    rw [hs, if_neg (by decide)] at h3
    obtain ⟨rfl, rfl, -, -⟩ := h3
    rw [nx_up hr] at hn
    obtain ⟨rfl, rfl⟩ := Prod.mk.inj hn
    refine ⟨by omega, fun _ => rfl, fun hc => ?_⟩
    have hz : z < 2047 * 2 ^ 52 := by
      refine Nat.lt_of_not_le fun k => ?_
      rw [loR_big k] at hc
      omega
    rw [loR_of hz, lt_rq, num_sgz, hs, I_f]
    show ((qn q : Int)) * KU < _
    have := h1.2
    exact_mod_cast this
  | true =>
    rw [hs, if_pos rfl] at h3
    obtain ⟨rfl, rfl, -, -⟩ := h3
    have hp := hiR_pos (x := x) (qn_pos_of_neg hs) h2
    have hUp := U_pos hp
    unfold nx at hn
    rw [I_t, I_f, if_neg (by omega), if_neg (by omega), decide_eq_true (by omega), decide_eq_false (by omega), if_neg (by decide)] at hn
    obtain ⟨rfl, rfl⟩ := Prod.mk.inj hn
    refine ⟨by omega, fun e => by omega, fun _ => ?_⟩
    rw [lt_rq, num_sgz, hs, I_t]
    show (-(qn q : Int)) * KU < -(U (hiR z x - 1) : Int) * (qd q : Int)
    have key : U (hiR z x - 1) * qd q < qn q * KU := by
      cases x with
      | true =>
        have hz : z ≤ 2047 * 2 ^ 52 := by
          unfold hiR at hr
          rw [if_pos rfl] at hr
          omega
        rw [hiR_t hz] at hp ⊢
        rw [← of_decide_eq_true h2.symm]
        exact Nat.mul_lt_mul_of_pos_right (U_lt (by omega)) (qd_pos q)
      | false =>
        have hz : z < 2047 * 2 ^ 52 := by
          unfold hiR at hr
          rw [if_neg (by decide)] at hr
          omega
        rw [hiR_f hz, Nat.add_sub_cancel]
        exact Nat.lt_of_le_of_ne h1.1 (of_decide_eq_false h2.symm)
    have k2 : (U (hiR z x - 1) : Int) * qd q < (qn q : Int) * KU := by exact_mod_cast key
    rw [Int.neg_mul, Int.neg_mul]
    omega
theorem down_lt {q : Rat} {rs is : Bool} {r i : Nat} (h : Qb (qs q) (qn q) (qd q) rs r is i) (hi : i < 2047 * 2 ^ 52) {s' : Bool} {i' : Nat} (hn : nx is i true (2047 * 2 ^ 52) = (s', i')) : i' ≤ 2047 * 2 ^ 52 ∧ (i' = 2047 * 2 ^ 52 → s' = true) ∧ (i' < 2047 * 2 ^ 52 → rq s' i' < q) := by
  obtain ⟨z, x, h1, h2, h3⟩ := h
  have hU := U_lt hi
  have hcap := U_pos (show 0 < 2047 * 2 ^ 52 by decide)
  cases hs : qs q with
  | false =>
    rw [hs, if_neg (by decide)] at h3
    obtain ⟨-, -, rfl, rfl⟩ := h3
    by_cases h0 : hiR z x = 0
    · unfold nx at hn
      rw [I_f, I_t, h0, U_zero, if_neg (by omega), if_pos rfl] at hn
      obtain ⟨rfl, rfl⟩ := Prod.mk.inj hn
      refine ⟨by decide, fun e => by omega, fun _ => ?_⟩
      rw [rq_lt, num_sgz, hs, I_t, U_one]
      show (-1 : Int) * qd q < ((qn q : Int)) * KU
      have : (0 : Int) ≤ (qn q : Int) * KU := by exact_mod_cast Nat.zero_le _
      have := qd_pos q
      omega
    · rw [nx_dn (by omega) hi, dn_f h0] at hn
      obtain ⟨rfl, rfl⟩ := Prod.mk.inj hn
      refine ⟨by omega, fun e => by omega, fun _ => ?_⟩
      rw [rq_lt, num_sgz, hs, I_f]
      show _ < ((qn q : Int)) * KU
      have key : U (hiR z x - 1) * qd q < qn q * KU := by
        cases x with
        | true =>
          have hz : z ≤ 2047 * 2 ^ 52 := by
            unfold hiR at hi
            rw [if_pos rfl] at hi
            omega
          rw [hiR_t hz] at h0 ⊢
          rw [← of_decide_eq_true h2.symm]
          exact Nat.mul_lt_mul_of_pos_right (U_lt (by omega)) (qd_pos q)
        | false =>
          have hz : z < 2047 * 2 ^ 52 := by
            unfold hiR at hi
            rw [if_neg (by decide)] at hi
            omega
          rw [hiR_f hz, Nat.add_sub_cancel]
          exact Nat.lt_of_le_of_ne h1.1 (of_decide_eq_false h2.symm)
      exact_mod_cast key
  | true =>
    rw [hs, if_pos rfl] at h3
    obtain ⟨-, -, rfl, rfl⟩ := h3
    have hl := loR_lt z
    have fin : ∀ m : Nat, m = loR z + 1 → m < 2047 * 2 ^ 52 → rq true m < q := fun m hm hc => by
      have hz : z < 2047 * 2 ^ 52 := by
        refine Nat.lt_of_not_le fun k => ?_
        rw [loR_big k] at hm
        omega
      rw [rq_lt, num_sgz, hs, I_t, hm, loR_of hz]
      show -(U (z + 1) : Int) * (qd q : Int) < (-(qn q : Int)) * KU
      have : (qn q : Int) * KU < (U (z + 1) : Int) * qd q := by exact_mod_cast h1.2
      rw [Int.neg_mul, Int.neg_mul]
      omega
    by_cases h0 : loR z = 0
    · unfold nx at hn
      rw [h0, decide_eq_false (by omega), I_f, I_t, U_zero, if_neg (by omega), if_pos rfl] at hn
      obtain ⟨rfl, rfl⟩ := Prod.mk.inj hn
      exact ⟨by decide, fun e => by omega, fun hc => fin 1 (by rw [h0]) hc⟩
    · rw [decide_eq_true (by omega), nx_dn (by omega) hl, dn_t] at hn
      obtain ⟨rfl, rfl⟩ := Prod.mk.inj hn
      exact ⟨by omega, fun _ => rfl, fun hc => fin _ rfl hc⟩
theorem cmpQ_le' {q r : Rat} (h : q ≤ r) : cmpQ q r ≤ 0 := by
  unfold cmpQ
  by_cases h1 : q < r
  · rw [if_pos h1]; decide
  · rw [if_neg h1]
    have e : r ≤ q := Rat.not_lt.1 h1
    rw [if_neg (Rat.not_lt.2 h)]
    decide
theorem cmpQ_gt' {q r : Rat} (h : r < q) : 0 < cmpQ q r := by
  unfold cmpQ
  rw [if_neg (fun k => Rat.not_lt.2 (Rat.le_of_lt h) k), if_pos h]
  decide
/-- The upper bound is below 0 or finite, the lower one above 0 or finite. -/
theorem lo_inf {s : Bool} {n d : Nat} {rs is : Bool} {r i : Nat} (h : Qb s n d rs r is i) (hr : ¬ r < 2047 * 2 ^ 52) : rs = true ∧ r = 2047 * 2 ^ 52 := by
  obtain ⟨z, x, h1, h2, h3⟩ := h
  cases s with
  | false =>
    rw [if_neg (by decide)] at h3
    obtain ⟨-, rfl, -, -⟩ := h3
    exact absurd (loR_lt z) hr
  | true =>
    rw [if_pos rfl] at h3
    obtain ⟨rfl, rfl, -, -⟩ := h3
    exact ⟨rfl, Nat.le_antisymm (hiR_le z x) (by omega)⟩
theorem hi_inf {s : Bool} {n d : Nat} {rs is : Bool} {r i : Nat} (h : Qb s n d rs r is i) (hr : ¬ i < 2047 * 2 ^ 52) : is = false ∧ i = 2047 * 2 ^ 52 := by
  obtain ⟨z, x, h1, h2, h3⟩ := h
  cases s with
  | false =>
    rw [if_neg (by decide)] at h3
    obtain ⟨-, -, rfl, rfl⟩ := h3
    exact ⟨rfl, Nat.le_antisymm (hiR_le z x) (by omega)⟩
  | true =>
    rw [if_pos rfl] at h3
    obtain ⟨-, -, -, rfl⟩ := h3
    exact absurd (loR_lt z) hr
set_option maxRecDepth 100000 in
set_option maxHeartbeats 8000000 in
theorem holds_FF (q : Rat) (A0 B0 : Option Addr) (c0 e0 : Nat) (W : World) (sA0 : Sl W A0 (digs (qn q))) (sB0 : Sl W B0 (digs (qd q))) (f0 : fitq q) (h0 : ln (qn q) ≤ 12 ∧ ln (qd q) ≤ 12) (rs is : Bool) (r i : Nat) (Q : Qb (qs q) (qn q) (qd q) rs r is i)
    (hr : r < 2047 * 2 ^ 52) (s1 : Bool) (r1 : Nat) (hn1 : nx rs r false (2047 * 2 ^ 52) = (s1, r1)) (hr1 : r1 < 2047 * 2 ^ 52)
    (hi : i < 2047 * 2 ^ 52) (s3 : Bool) (r3 : Nat) (hn3 : nx is i true (2047 * 2 ^ 52) = (s3, r3)) (hr3 : r3 < 2047 * 2 ^ 52)
    (AW : Hid (∀ V : World, Below W.heap.size W V → Calls Tryd.prog 9 #[] V fun e V' => e = .returned (.bool true) ∧ Below V.heap.size V V')) :
    Calls Tryd.prog 4 #[.agg #[.bool (qs q), .slice A0 (ln (qn q)) c0, .slice B0 (ln (qd q)) e0]] W fun e W' => e = .returned (.bool true) ∧ Below W.heap.size W W' := by
  have V0 := hide (fun V (g : Below W.heap.size W V) => rvalid_q q A0 B0 c0 e0 V (kp' g sA0) (kp' g sB0) f0)
  have OF := hide (fun V (g : Below W.heap.size W V) => qof_f q A0 B0 c0 e0 rs r is i V (kp' g sA0) (kp' g sB0) f0 Q)
  obtain ⟨z, x, g1, g2, g3, g4, g5, g6⟩ := Q.vals
  have oL : binOp .leq 25 (.float .f64 (Ieee.double.word rs r)) (.float .f64 (Ieee.double.word is i)) = pure (.bool true) := fl_leq _ _ _ _ ((wo_le _ _ _ _ g5 g6).trans (decide_eq_true (lo_le_hi Q)))
  have oE := fl_eql 25 _ _ _ (wo_eq rs is r i g5 g6)
  have EX := hide (exact_f rs r is i g5 g6 _ rfl)
  have l0 : binOp .gtr 3 (.int .i64 (ln (qn q) : Int)) (.int .i64 12) = pure (.bool false) := ii_gtr _ _ _ _ (decide_eq_false (by omega))
  have l1 : binOp .gtr 3 (.int .i64 (ln (qd q) : Int)) (.int .i64 12) = pure (.bool false) := ii_gtr _ _ _ _ (decide_eq_false (by omega))
  have FL := hide (lfin_yes rs r hr)
  have B1 := hide (rback_f rs r hr)
  have C1 := hide (fun X Y e f V (g : Below W.heap.size W V) sx sy => rcmp_q (rq rs r) q X Y A0 B0 e f c0 e0 V sx sy (kp' g sA0) (kp' g sB0) (rq_fit rs hr) f0 _ rfl)
  have oc1 : binOp .gtr 3 (.int .i64 (cmpQ (rq rs r) q)) (.int .i64 0) = pure (.bool false) := ii_gtr _ _ _ _ (decide_eq_false (by have := cmpQ_le' (lo_le q g1 g2 rs r hr g3); omega))
  have N1 := hide (nextafter_any rs r false (2047 * 2 ^ 52) (Nat.le_of_lt hr) (Nat.le_refl _) _ _ hn1)
  have J1 := hide minf1
  rw [decide_eq_true hr, Bool.and_true] at EX
  have B2 := hide (rback_f s1 r1 hr1)
  have C2 := hide (fun X Y e f V (g : Below W.heap.size W V) sx sy => rcmp_q (rq s1 r1) q X Y A0 B0 e f c0 e0 V sx sy (kp' g sA0) (kp' g sB0) (rq_fit s1 hr1) f0 _ rfl)
  have oc2 : binOp .leq 3 (.int .i64 (cmpQ (rq s1 r1) q)) (.int .i64 0) = pure (.bool false) := ii_leq _ _ _ _ (decide_eq_false (by have := cmpQ_gt' ((up_gt Q hr hn1).2.2 hr1); omega))
  have FH := hide (lfin_yes is i hi)
  have B3 := hide (rback_f is i hi)
  have C3 := hide (fun X Y e f V (g : Below W.heap.size W V) sx sy => rcmp_q (rq is i) q X Y A0 B0 e f c0 e0 V sx sy (kp' g sA0) (kp' g sB0) (rq_fit is hi) f0 _ rfl)
  have oc3 : binOp .lss 3 (.int .i64 (cmpQ (rq is i) q)) (.int .i64 0) = pure (.bool false) := ii_lss _ _ _ _ (decide_eq_false (by have := cmpQ_ge' (le_hi q g1 g2 is i hi g4); omega))
  have N3 := hide (nextafter_any is i true (2047 * 2 ^ 52) (Nat.le_of_lt hi) (Nat.le_refl _) _ _ hn3)
  have J3 := hide minfN
  have B4 := hide (rback_f s3 r3 hr3)
  have C4 := hide (fun X Y e f V (g : Below W.heap.size W V) sx sy => rcmp_q (rq s3 r3) q X Y A0 B0 e f c0 e0 V sx sy (kp' g sA0) (kp' g sB0) (rq_fit s3 hr3) f0 _ rfl)
  have oc4 : binOp .geq 3 (.int .i64 (cmpQ (rq s3 r3) q)) (.int .i64 0) = pure (.bool false) := ii_geq _ _ _ _ (decide_eq_false (by have := cmpQ_lt ((down_lt Q hi hn3).2.2 hr3); omega))
  have X := hide (Q3.new (.bool (qs q)) (.slice A0 (ln (qn q)) c0) (.slice B0 (ln (qd q)) e0) W)
  have d0 : Below W.heap.size W (W.alloc (.cells #[.bool (qs q), .slice A0 (ln (qn q)) c0, .slice B0 (ln (qd q)) e0] 24)) := bl_al (.refl _ _) _
  obtain ⟨x1, x2, x3, x4, x5, x6⟩ := X.out
  clear sA0 sB0 f0 h0 Q g1 g2 g3 g4 g5 g6 hr hn1 hr1 hi hn3 hr3
  generalize decide (I rs r = I is i) = ee at *
  generalize cmpQ (rq rs r) q = k1 at *
  generalize rq rs r = q1 at *
  generalize cmpQ (rq s1 r1) q = k2 at *
  generalize rq s1 r1 = q2 at *
  generalize Ieee.double.word s1 r1 = up at *
  generalize cmpQ (rq is i) q = k3 at *
  generalize rq is i = q3 at *
  generalize cmpQ (rq s3 r3) q = k4 at *
  generalize rq s3 r3 = q4 at *
  generalize Ieee.double.word s3 r3 = dw at *
  generalize Ieee.double.word rs r = lo at *
  generalize Ieee.double.word is i = hi1 at *
  generalize Ieee.double.word true (2047 * 2 ^ 52) = ninf at *
  generalize Ieee.double.word false (2047 * 2 ^ 52) = inf at *
  generalize ln (qn q) = n0 at *
  generalize ln (qd q) = n1 at *
  generalize qs q = s0 at *
  cases ee
  all_goals
    go_enter Tryd.func4, Tryd.ntmps4
    go_wp2_with (first
      | (go_at_call 17; (with_reducible refine (FL.out _).mono ?_); rintro e v1 ⟨rfl, rfl⟩)
      | (go_at_call 19; (with_reducible refine (J1.out _).mono ?_); rintro e v1 ⟨rfl, rfl⟩)
      | (go_at_call 18; (with_reducible refine (N1.out _).mono ?_); rintro e v1 ⟨rfl, rfl⟩)
      | (go_at_call 17; (with_reducible refine (FH.out _).mono ?_); rintro e v1 ⟨rfl, rfl⟩)
      | (go_at_call 19; (with_reducible refine (J3.out _).mono ?_); rintro e v1 ⟨rfl, rfl⟩)
      | (go_at_call 18; (with_reducible refine (N3.out _).mono ?_); rintro e v1 ⟨rfl, rfl⟩)
      | (go_at_call 21; (with_reducible refine (EX.out _).mono ?_); rintro e v1 ⟨rfl, rfl⟩)
      | (go_at_call 16; (with_reducible refine (V0.out _ d0).mono ?_); rintro e w1 ⟨rfl, hb⟩; clear x1 x2 x3 x4 x5 x6; have d1 := bl_trans d0 hb; have X := hide (X.out.next hb); clear hb; obtain ⟨x1, x2, x3, x4, x5, x6⟩ := X.out)
      | (go_at_call 13; (with_reducible refine (OF.out _ d1).mono ?_); rintro e w2 ⟨rfl, hb⟩; clear x1 x2 x3 x4 x5 x6; have d2 := bl_trans d1 hb; have X := hide (X.out.next hb); clear hb; obtain ⟨x1, x2, x3, x4, x5, x6⟩ := X.out)
      | (go_at_call 11; (with_reducible refine (B1.out _).mono ?_); rintro e w3 ⟨P1, p1, R1, r1', rfl, s1, t1, hb⟩; clear x1 x2 x3 x4 x5 x6; have d3 := bl_al (bl_trans d2 hb) (.cells #[.bool (qs q1), .slice P1 (ln (qn q1)) p1, .slice R1 (ln (qd q1)) r1'] 24); have X := hide ((X.out.next hb).al (.cells #[.bool (qs q1), .slice P1 (ln (qn q1)) p1, .slice R1 (ln (qd q1)) r1'] 24)); have Y1 := hide (Q3.new (.bool (qs q1)) (.slice P1 (ln (qn q1)) p1) (.slice R1 (ln (qd q1)) r1') w3); have s1 := s1.alloc (.cells #[.bool (qs q1), .slice P1 (ln (qn q1)) p1, .slice R1 (ln (qd q1)) r1'] 24); have t1 := t1.alloc (.cells #[.bool (qs q1), .slice P1 (ln (qn q1)) p1, .slice R1 (ln (qd q1)) r1'] 24); clear hb; obtain ⟨x1, x2, x3, x4, x5, x6⟩ := X.out; obtain ⟨y1_1, y1_2, y1_3, y1_4, y1_5, y1_6⟩ := Y1.out)
      | (go_at_call 11; (with_reducible refine (B2.out _).mono ?_); rintro e w4 ⟨P2, p2, R2, r2', rfl, s2, t2, hb⟩; clear x1 x2 x3 x4 x5 x6 y1_1 y1_2 y1_3 y1_4 y1_5 y1_6; have d4 := bl_al (bl_trans d3 hb) (.cells #[.bool (qs q2), .slice P2 (ln (qn q2)) p2, .slice R2 (ln (qd q2)) r2'] 24); have X := hide ((X.out.next hb).al (.cells #[.bool (qs q2), .slice P2 (ln (qn q2)) p2, .slice R2 (ln (qd q2)) r2'] 24)); have Y1 := hide ((Y1.out.next hb).al (.cells #[.bool (qs q2), .slice P2 (ln (qn q2)) p2, .slice R2 (ln (qd q2)) r2'] 24)); have s1 := (kp' hb s1).alloc (.cells #[.bool (qs q2), .slice P2 (ln (qn q2)) p2, .slice R2 (ln (qd q2)) r2'] 24); have t1 := (kp' hb t1).alloc (.cells #[.bool (qs q2), .slice P2 (ln (qn q2)) p2, .slice R2 (ln (qd q2)) r2'] 24); have Y2 := hide (Q3.new (.bool (qs q2)) (.slice P2 (ln (qn q2)) p2) (.slice R2 (ln (qd q2)) r2') w4); have s2 := s2.alloc (.cells #[.bool (qs q2), .slice P2 (ln (qn q2)) p2, .slice R2 (ln (qd q2)) r2'] 24); have t2 := t2.alloc (.cells #[.bool (qs q2), .slice P2 (ln (qn q2)) p2, .slice R2 (ln (qd q2)) r2'] 24); clear hb; obtain ⟨x1, x2, x3, x4, x5, x6⟩ := X.out; obtain ⟨y1_1, y1_2, y1_3, y1_4, y1_5, y1_6⟩ := Y1.out; obtain ⟨y2_1, y2_2, y2_3, y2_4, y2_5, y2_6⟩ := Y2.out)
      | (go_at_call 20; (with_reducible refine (C1.out P1 R1 p1 r1' _ d4 s1 t1).mono ?_); rintro e w5 ⟨rfl, hb⟩; clear x1 x2 x3 x4 x5 x6 y1_1 y1_2 y1_3 y1_4 y1_5 y1_6 y2_1 y2_2 y2_3 y2_4 y2_5 y2_6; have d5 := bl_trans d4 hb; have X := hide (X.out.next hb); have Y1 := hide (Y1.out.next hb); have Y2 := hide (Y2.out.next hb); have s1 := kp' hb s1; have t1 := kp' hb t1; have s2 := kp' hb s2; have t2 := kp' hb t2; clear hb; obtain ⟨x1, x2, x3, x4, x5, x6⟩ := X.out; obtain ⟨y1_1, y1_2, y1_3, y1_4, y1_5, y1_6⟩ := Y1.out; obtain ⟨y2_1, y2_2, y2_3, y2_4, y2_5, y2_6⟩ := Y2.out)
      | (go_at_call 20; (with_reducible refine (C2.out P2 R2 p2 r2' _ d5 s2 t2).mono ?_); rintro e w6 ⟨rfl, hb⟩; clear x1 x2 x3 x4 x5 x6 y1_1 y1_2 y1_3 y1_4 y1_5 y1_6 y2_1 y2_2 y2_3 y2_4 y2_5 y2_6; have d6 := bl_trans d5 hb; have X := hide (X.out.next hb); have Y1 := hide (Y1.out.next hb); have Y2 := hide (Y2.out.next hb); have s1 := kp' hb s1; have t1 := kp' hb t1; have s2 := kp' hb s2; have t2 := kp' hb t2; clear hb; obtain ⟨x1, x2, x3, x4, x5, x6⟩ := X.out; obtain ⟨y1_1, y1_2, y1_3, y1_4, y1_5, y1_6⟩ := Y1.out; obtain ⟨y2_1, y2_2, y2_3, y2_4, y2_5, y2_6⟩ := Y2.out)
      | (go_at_call 11; (with_reducible refine (B3.out _).mono ?_); rintro e w7 ⟨P3, p3, R3, r3', rfl, s3, t3, hb⟩; clear x1 x2 x3 x4 x5 x6 y1_1 y1_2 y1_3 y1_4 y1_5 y1_6 y2_1 y2_2 y2_3 y2_4 y2_5 y2_6; have d7 := bl_al (bl_trans d6 hb) (.cells #[.bool (qs q3), .slice P3 (ln (qn q3)) p3, .slice R3 (ln (qd q3)) r3'] 24); have X := hide ((X.out.next hb).al (.cells #[.bool (qs q3), .slice P3 (ln (qn q3)) p3, .slice R3 (ln (qd q3)) r3'] 24)); have Y1 := hide ((Y1.out.next hb).al (.cells #[.bool (qs q3), .slice P3 (ln (qn q3)) p3, .slice R3 (ln (qd q3)) r3'] 24)); have Y2 := hide ((Y2.out.next hb).al (.cells #[.bool (qs q3), .slice P3 (ln (qn q3)) p3, .slice R3 (ln (qd q3)) r3'] 24)); have s1 := (kp' hb s1).alloc (.cells #[.bool (qs q3), .slice P3 (ln (qn q3)) p3, .slice R3 (ln (qd q3)) r3'] 24); have t1 := (kp' hb t1).alloc (.cells #[.bool (qs q3), .slice P3 (ln (qn q3)) p3, .slice R3 (ln (qd q3)) r3'] 24); have s2 := (kp' hb s2).alloc (.cells #[.bool (qs q3), .slice P3 (ln (qn q3)) p3, .slice R3 (ln (qd q3)) r3'] 24); have t2 := (kp' hb t2).alloc (.cells #[.bool (qs q3), .slice P3 (ln (qn q3)) p3, .slice R3 (ln (qd q3)) r3'] 24); have Y3 := hide (Q3.new (.bool (qs q3)) (.slice P3 (ln (qn q3)) p3) (.slice R3 (ln (qd q3)) r3') w7); have s3 := s3.alloc (.cells #[.bool (qs q3), .slice P3 (ln (qn q3)) p3, .slice R3 (ln (qd q3)) r3'] 24); have t3 := t3.alloc (.cells #[.bool (qs q3), .slice P3 (ln (qn q3)) p3, .slice R3 (ln (qd q3)) r3'] 24); clear hb; obtain ⟨x1, x2, x3, x4, x5, x6⟩ := X.out; obtain ⟨y1_1, y1_2, y1_3, y1_4, y1_5, y1_6⟩ := Y1.out; obtain ⟨y2_1, y2_2, y2_3, y2_4, y2_5, y2_6⟩ := Y2.out; obtain ⟨y3_1, y3_2, y3_3, y3_4, y3_5, y3_6⟩ := Y3.out)
      | (go_at_call 11; (with_reducible refine (B4.out _).mono ?_); rintro e w8 ⟨P4, p4, R4, r4', rfl, s4, t4, hb⟩; clear x1 x2 x3 x4 x5 x6 y1_1 y1_2 y1_3 y1_4 y1_5 y1_6 y2_1 y2_2 y2_3 y2_4 y2_5 y2_6 y3_1 y3_2 y3_3 y3_4 y3_5 y3_6; have d8 := bl_al (bl_trans d7 hb) (.cells #[.bool (qs q4), .slice P4 (ln (qn q4)) p4, .slice R4 (ln (qd q4)) r4'] 24); have X := hide ((X.out.next hb).al (.cells #[.bool (qs q4), .slice P4 (ln (qn q4)) p4, .slice R4 (ln (qd q4)) r4'] 24)); have Y1 := hide ((Y1.out.next hb).al (.cells #[.bool (qs q4), .slice P4 (ln (qn q4)) p4, .slice R4 (ln (qd q4)) r4'] 24)); have Y2 := hide ((Y2.out.next hb).al (.cells #[.bool (qs q4), .slice P4 (ln (qn q4)) p4, .slice R4 (ln (qd q4)) r4'] 24)); have Y3 := hide ((Y3.out.next hb).al (.cells #[.bool (qs q4), .slice P4 (ln (qn q4)) p4, .slice R4 (ln (qd q4)) r4'] 24)); have s1 := (kp' hb s1).alloc (.cells #[.bool (qs q4), .slice P4 (ln (qn q4)) p4, .slice R4 (ln (qd q4)) r4'] 24); have t1 := (kp' hb t1).alloc (.cells #[.bool (qs q4), .slice P4 (ln (qn q4)) p4, .slice R4 (ln (qd q4)) r4'] 24); have s2 := (kp' hb s2).alloc (.cells #[.bool (qs q4), .slice P4 (ln (qn q4)) p4, .slice R4 (ln (qd q4)) r4'] 24); have t2 := (kp' hb t2).alloc (.cells #[.bool (qs q4), .slice P4 (ln (qn q4)) p4, .slice R4 (ln (qd q4)) r4'] 24); have s3 := (kp' hb s3).alloc (.cells #[.bool (qs q4), .slice P4 (ln (qn q4)) p4, .slice R4 (ln (qd q4)) r4'] 24); have t3 := (kp' hb t3).alloc (.cells #[.bool (qs q4), .slice P4 (ln (qn q4)) p4, .slice R4 (ln (qd q4)) r4'] 24); have Y4 := hide (Q3.new (.bool (qs q4)) (.slice P4 (ln (qn q4)) p4) (.slice R4 (ln (qd q4)) r4') w8); have s4 := s4.alloc (.cells #[.bool (qs q4), .slice P4 (ln (qn q4)) p4, .slice R4 (ln (qd q4)) r4'] 24); have t4 := t4.alloc (.cells #[.bool (qs q4), .slice P4 (ln (qn q4)) p4, .slice R4 (ln (qd q4)) r4'] 24); clear hb; obtain ⟨x1, x2, x3, x4, x5, x6⟩ := X.out; obtain ⟨y1_1, y1_2, y1_3, y1_4, y1_5, y1_6⟩ := Y1.out; obtain ⟨y2_1, y2_2, y2_3, y2_4, y2_5, y2_6⟩ := Y2.out; obtain ⟨y3_1, y3_2, y3_3, y3_4, y3_5, y3_6⟩ := Y3.out; obtain ⟨y4_1, y4_2, y4_3, y4_4, y4_5, y4_6⟩ := Y4.out)
      | (go_at_call 20; (with_reducible refine (C3.out P3 R3 p3 r3' _ d8 s3 t3).mono ?_); rintro e w9 ⟨rfl, hb⟩; clear x1 x2 x3 x4 x5 x6 y1_1 y1_2 y1_3 y1_4 y1_5 y1_6 y2_1 y2_2 y2_3 y2_4 y2_5 y2_6 y3_1 y3_2 y3_3 y3_4 y3_5 y3_6 y4_1 y4_2 y4_3 y4_4 y4_5 y4_6; have d9 := bl_trans d8 hb; have X := hide (X.out.next hb); have Y1 := hide (Y1.out.next hb); have Y2 := hide (Y2.out.next hb); have Y3 := hide (Y3.out.next hb); have Y4 := hide (Y4.out.next hb); have s1 := kp' hb s1; have t1 := kp' hb t1; have s2 := kp' hb s2; have t2 := kp' hb t2; have s3 := kp' hb s3; have t3 := kp' hb t3; have s4 := kp' hb s4; have t4 := kp' hb t4; clear hb; obtain ⟨x1, x2, x3, x4, x5, x6⟩ := X.out; obtain ⟨y1_1, y1_2, y1_3, y1_4, y1_5, y1_6⟩ := Y1.out; obtain ⟨y2_1, y2_2, y2_3, y2_4, y2_5, y2_6⟩ := Y2.out; obtain ⟨y3_1, y3_2, y3_3, y3_4, y3_5, y3_6⟩ := Y3.out; obtain ⟨y4_1, y4_2, y4_3, y4_4, y4_5, y4_6⟩ := Y4.out)
      | (go_at_call 20; (with_reducible refine (C4.out P4 R4 p4 r4' _ d9 s4 t4).mono ?_); rintro e w10 ⟨rfl, hb⟩; clear x1 x2 x3 x4 x5 x6 y1_1 y1_2 y1_3 y1_4 y1_5 y1_6 y2_1 y2_2 y2_3 y2_4 y2_5 y2_6 y3_1 y3_2 y3_3 y3_4 y3_5 y3_6 y4_1 y4_2 y4_3 y4_4 y4_5 y4_6; have d10 := bl_trans d9 hb; have X := hide (X.out.next hb); have Y1 := hide (Y1.out.next hb); have Y2 := hide (Y2.out.next hb); have Y3 := hide (Y3.out.next hb); have Y4 := hide (Y4.out.next hb); have s1 := kp' hb s1; have t1 := kp' hb t1; have s2 := kp' hb s2; have t2 := kp' hb t2; have s3 := kp' hb s3; have t3 := kp' hb t3; have s4 := kp' hb s4; have t4 := kp' hb t4; clear hb; obtain ⟨x1, x2, x3, x4, x5, x6⟩ := X.out; obtain ⟨y1_1, y1_2, y1_3, y1_4, y1_5, y1_6⟩ := Y1.out; obtain ⟨y2_1, y2_2, y2_3, y2_4, y2_5, y2_6⟩ := Y2.out; obtain ⟨y3_1, y3_2, y3_3, y3_4, y3_5, y3_6⟩ := Y3.out; obtain ⟨y4_1, y4_2, y4_3, y4_4, y4_5, y4_6⟩ := Y4.out)
      | (go_at_call 9; (with_reducible refine (AW.out _ d10).mono ?_); rintro e v9 ⟨rfl, hb⟩; have bz := bl_trans d10 hb; clear hb))
    go_ret
    exact ⟨rfl, bz⟩
set_option maxRecDepth 100000 in
set_option maxHeartbeats 8000000 in
theorem holds_FN (q : Rat) (A0 B0 : Option Addr) (c0 e0 : Nat) (W : World) (sA0 : Sl W A0 (digs (qn q))) (sB0 : Sl W B0 (digs (qd q))) (f0 : fitq q) (h0 : ln (qn q) ≤ 12 ∧ ln (qd q) ≤ 12) (rs is : Bool) (r i : Nat) (Q : Qb (qs q) (qn q) (qd q) rs r is i)
    (hr : r < 2047 * 2 ^ 52) (s1 : Bool) (r1 : Nat) (hn1 : nx rs r false (2047 * 2 ^ 52) = (s1, r1)) (hr1 : r1 < 2047 * 2 ^ 52)
    (hi : i < 2047 * 2 ^ 52) (hn3 : nx is i true (2047 * 2 ^ 52) = (true, 2047 * 2 ^ 52))
    (AW : Hid (∀ V : World, Below W.heap.size W V → Calls Tryd.prog 9 #[] V fun e V' => e = .returned (.bool true) ∧ Below V.heap.size V V')) :
    Calls Tryd.prog 4 #[.agg #[.bool (qs q), .slice A0 (ln (qn q)) c0, .slice B0 (ln (qd q)) e0]] W fun e W' => e = .returned (.bool true) ∧ Below W.heap.size W W' := by
  have V0 := hide (fun V (g : Below W.heap.size W V) => rvalid_q q A0 B0 c0 e0 V (kp' g sA0) (kp' g sB0) f0)
  have OF := hide (fun V (g : Below W.heap.size W V) => qof_f q A0 B0 c0 e0 rs r is i V (kp' g sA0) (kp' g sB0) f0 Q)
  obtain ⟨z, x, g1, g2, g3, g4, g5, g6⟩ := Q.vals
  have oL : binOp .leq 25 (.float .f64 (Ieee.double.word rs r)) (.float .f64 (Ieee.double.word is i)) = pure (.bool true) := fl_leq _ _ _ _ ((wo_le _ _ _ _ g5 g6).trans (decide_eq_true (lo_le_hi Q)))
  have oE := fl_eql 25 _ _ _ (wo_eq rs is r i g5 g6)
  have EX := hide (exact_f rs r is i g5 g6 _ rfl)
  have l0 : binOp .gtr 3 (.int .i64 (ln (qn q) : Int)) (.int .i64 12) = pure (.bool false) := ii_gtr _ _ _ _ (decide_eq_false (by omega))
  have l1 : binOp .gtr 3 (.int .i64 (ln (qd q) : Int)) (.int .i64 12) = pure (.bool false) := ii_gtr _ _ _ _ (decide_eq_false (by omega))
  have FL := hide (lfin_yes rs r hr)
  have B1 := hide (rback_f rs r hr)
  have C1 := hide (fun X Y e f V (g : Below W.heap.size W V) sx sy => rcmp_q (rq rs r) q X Y A0 B0 e f c0 e0 V sx sy (kp' g sA0) (kp' g sB0) (rq_fit rs hr) f0 _ rfl)
  have oc1 : binOp .gtr 3 (.int .i64 (cmpQ (rq rs r) q)) (.int .i64 0) = pure (.bool false) := ii_gtr _ _ _ _ (decide_eq_false (by have := cmpQ_le' (lo_le q g1 g2 rs r hr g3); omega))
  have N1 := hide (nextafter_any rs r false (2047 * 2 ^ 52) (Nat.le_of_lt hr) (Nat.le_refl _) _ _ hn1)
  have J1 := hide minf1
  rw [decide_eq_true hr, Bool.and_true] at EX
  have B2 := hide (rback_f s1 r1 hr1)
  have C2 := hide (fun X Y e f V (g : Below W.heap.size W V) sx sy => rcmp_q (rq s1 r1) q X Y A0 B0 e f c0 e0 V sx sy (kp' g sA0) (kp' g sB0) (rq_fit s1 hr1) f0 _ rfl)
  have oc2 : binOp .leq 3 (.int .i64 (cmpQ (rq s1 r1) q)) (.int .i64 0) = pure (.bool false) := ii_leq _ _ _ _ (decide_eq_false (by have := cmpQ_gt' ((up_gt Q hr hn1).2.2 hr1); omega))
  have FH := hide (lfin_yes is i hi)
  have B3 := hide (rback_f is i hi)
  have C3 := hide (fun X Y e f V (g : Below W.heap.size W V) sx sy => rcmp_q (rq is i) q X Y A0 B0 e f c0 e0 V sx sy (kp' g sA0) (kp' g sB0) (rq_fit is hi) f0 _ rfl)
  have oc3 : binOp .lss 3 (.int .i64 (cmpQ (rq is i) q)) (.int .i64 0) = pure (.bool false) := ii_lss _ _ _ _ (decide_eq_false (by have := cmpQ_ge' (le_hi q g1 g2 is i hi g4); omega))
  have N3 := hide (nextafter_any is i true (2047 * 2 ^ 52) (Nat.le_of_lt hi) (Nat.le_refl _) _ _ hn3)
  have J3 := hide minfN
  have B4 := hide (rback_inf true)
  have X := hide (Q3.new (.bool (qs q)) (.slice A0 (ln (qn q)) c0) (.slice B0 (ln (qd q)) e0) W)
  have d0 : Below W.heap.size W (W.alloc (.cells #[.bool (qs q), .slice A0 (ln (qn q)) c0, .slice B0 (ln (qd q)) e0] 24)) := bl_al (.refl _ _) _
  obtain ⟨x1, x2, x3, x4, x5, x6⟩ := X.out
  clear sA0 sB0 f0 h0 Q g1 g2 g3 g4 g5 g6 hr hn1 hr1 hi hn3
  generalize decide (I rs r = I is i) = ee at *
  generalize cmpQ (rq rs r) q = k1 at *
  generalize rq rs r = q1 at *
  generalize cmpQ (rq s1 r1) q = k2 at *
  generalize rq s1 r1 = q2 at *
  generalize Ieee.double.word s1 r1 = up at *
  generalize cmpQ (rq is i) q = k3 at *
  generalize rq is i = q3 at *
  generalize Ieee.double.word rs r = lo at *
  generalize Ieee.double.word is i = hi1 at *
  generalize Ieee.double.word true (2047 * 2 ^ 52) = ninf at *
  generalize Ieee.double.word false (2047 * 2 ^ 52) = inf at *
  generalize ln (qn q) = n0 at *
  generalize ln (qd q) = n1 at *
  generalize qs q = s0 at *
  cases ee
  all_goals
    go_enter Tryd.func4, Tryd.ntmps4
    go_wp2_with (first
      | (go_at_call 17; (with_reducible refine (FL.out _).mono ?_); rintro e v1 ⟨rfl, rfl⟩)
      | (go_at_call 19; (with_reducible refine (J1.out _).mono ?_); rintro e v1 ⟨rfl, rfl⟩)
      | (go_at_call 18; (with_reducible refine (N1.out _).mono ?_); rintro e v1 ⟨rfl, rfl⟩)
      | (go_at_call 17; (with_reducible refine (FH.out _).mono ?_); rintro e v1 ⟨rfl, rfl⟩)
      | (go_at_call 19; (with_reducible refine (J3.out _).mono ?_); rintro e v1 ⟨rfl, rfl⟩)
      | (go_at_call 18; (with_reducible refine (N3.out _).mono ?_); rintro e v1 ⟨rfl, rfl⟩)
      | (go_at_call 21; (with_reducible refine (EX.out _).mono ?_); rintro e v1 ⟨rfl, rfl⟩)
      | (go_at_call 16; (with_reducible refine (V0.out _ d0).mono ?_); rintro e w1 ⟨rfl, hb⟩; clear x1 x2 x3 x4 x5 x6; have d1 := bl_trans d0 hb; have X := hide (X.out.next hb); clear hb; obtain ⟨x1, x2, x3, x4, x5, x6⟩ := X.out)
      | (go_at_call 13; (with_reducible refine (OF.out _ d1).mono ?_); rintro e w2 ⟨rfl, hb⟩; clear x1 x2 x3 x4 x5 x6; have d2 := bl_trans d1 hb; have X := hide (X.out.next hb); clear hb; obtain ⟨x1, x2, x3, x4, x5, x6⟩ := X.out)
      | (go_at_call 11; (with_reducible refine (B1.out _).mono ?_); rintro e w3 ⟨P1, p1, R1, r1', rfl, s1, t1, hb⟩; clear x1 x2 x3 x4 x5 x6; have d3 := bl_al (bl_trans d2 hb) (.cells #[.bool (qs q1), .slice P1 (ln (qn q1)) p1, .slice R1 (ln (qd q1)) r1'] 24); have X := hide ((X.out.next hb).al (.cells #[.bool (qs q1), .slice P1 (ln (qn q1)) p1, .slice R1 (ln (qd q1)) r1'] 24)); have Y1 := hide (Q3.new (.bool (qs q1)) (.slice P1 (ln (qn q1)) p1) (.slice R1 (ln (qd q1)) r1') w3); have s1 := s1.alloc (.cells #[.bool (qs q1), .slice P1 (ln (qn q1)) p1, .slice R1 (ln (qd q1)) r1'] 24); have t1 := t1.alloc (.cells #[.bool (qs q1), .slice P1 (ln (qn q1)) p1, .slice R1 (ln (qd q1)) r1'] 24); clear hb; obtain ⟨x1, x2, x3, x4, x5, x6⟩ := X.out; obtain ⟨y1_1, y1_2, y1_3, y1_4, y1_5, y1_6⟩ := Y1.out)
      | (go_at_call 11; (with_reducible refine (B2.out _).mono ?_); rintro e w4 ⟨P2, p2, R2, r2', rfl, s2, t2, hb⟩; clear x1 x2 x3 x4 x5 x6 y1_1 y1_2 y1_3 y1_4 y1_5 y1_6; have d4 := bl_al (bl_trans d3 hb) (.cells #[.bool (qs q2), .slice P2 (ln (qn q2)) p2, .slice R2 (ln (qd q2)) r2'] 24); have X := hide ((X.out.next hb).al (.cells #[.bool (qs q2), .slice P2 (ln (qn q2)) p2, .slice R2 (ln (qd q2)) r2'] 24)); have Y1 := hide ((Y1.out.next hb).al (.cells #[.bool (qs q2), .slice P2 (ln (qn q2)) p2, .slice R2 (ln (qd q2)) r2'] 24)); have s1 := (kp' hb s1).alloc (.cells #[.bool (qs q2), .slice P2 (ln (qn q2)) p2, .slice R2 (ln (qd q2)) r2'] 24); have t1 := (kp' hb t1).alloc (.cells #[.bool (qs q2), .slice P2 (ln (qn q2)) p2, .slice R2 (ln (qd q2)) r2'] 24); have Y2 := hide (Q3.new (.bool (qs q2)) (.slice P2 (ln (qn q2)) p2) (.slice R2 (ln (qd q2)) r2') w4); have s2 := s2.alloc (.cells #[.bool (qs q2), .slice P2 (ln (qn q2)) p2, .slice R2 (ln (qd q2)) r2'] 24); have t2 := t2.alloc (.cells #[.bool (qs q2), .slice P2 (ln (qn q2)) p2, .slice R2 (ln (qd q2)) r2'] 24); clear hb; obtain ⟨x1, x2, x3, x4, x5, x6⟩ := X.out; obtain ⟨y1_1, y1_2, y1_3, y1_4, y1_5, y1_6⟩ := Y1.out; obtain ⟨y2_1, y2_2, y2_3, y2_4, y2_5, y2_6⟩ := Y2.out)
      | (go_at_call 20; (with_reducible refine (C1.out P1 R1 p1 r1' _ d4 s1 t1).mono ?_); rintro e w5 ⟨rfl, hb⟩; clear x1 x2 x3 x4 x5 x6 y1_1 y1_2 y1_3 y1_4 y1_5 y1_6 y2_1 y2_2 y2_3 y2_4 y2_5 y2_6; have d5 := bl_trans d4 hb; have X := hide (X.out.next hb); have Y1 := hide (Y1.out.next hb); have Y2 := hide (Y2.out.next hb); have s1 := kp' hb s1; have t1 := kp' hb t1; have s2 := kp' hb s2; have t2 := kp' hb t2; clear hb; obtain ⟨x1, x2, x3, x4, x5, x6⟩ := X.out; obtain ⟨y1_1, y1_2, y1_3, y1_4, y1_5, y1_6⟩ := Y1.out; obtain ⟨y2_1, y2_2, y2_3, y2_4, y2_5, y2_6⟩ := Y2.out)
      | (go_at_call 20; (with_reducible refine (C2.out P2 R2 p2 r2' _ d5 s2 t2).mono ?_); rintro e w6 ⟨rfl, hb⟩; clear x1 x2 x3 x4 x5 x6 y1_1 y1_2 y1_3 y1_4 y1_5 y1_6 y2_1 y2_2 y2_3 y2_4 y2_5 y2_6; have d6 := bl_trans d5 hb; have X := hide (X.out.next hb); have Y1 := hide (Y1.out.next hb); have Y2 := hide (Y2.out.next hb); have s1 := kp' hb s1; have t1 := kp' hb t1; have s2 := kp' hb s2; have t2 := kp' hb t2; clear hb; obtain ⟨x1, x2, x3, x4, x5, x6⟩ := X.out; obtain ⟨y1_1, y1_2, y1_3, y1_4, y1_5, y1_6⟩ := Y1.out; obtain ⟨y2_1, y2_2, y2_3, y2_4, y2_5, y2_6⟩ := Y2.out)
      | (go_at_call 11; (with_reducible refine (B3.out _).mono ?_); rintro e w7 ⟨P3, p3, R3, r3', rfl, s3, t3, hb⟩; clear x1 x2 x3 x4 x5 x6 y1_1 y1_2 y1_3 y1_4 y1_5 y1_6 y2_1 y2_2 y2_3 y2_4 y2_5 y2_6; have d7 := bl_al (bl_trans d6 hb) (.cells #[.bool (qs q3), .slice P3 (ln (qn q3)) p3, .slice R3 (ln (qd q3)) r3'] 24); have X := hide ((X.out.next hb).al (.cells #[.bool (qs q3), .slice P3 (ln (qn q3)) p3, .slice R3 (ln (qd q3)) r3'] 24)); have Y1 := hide ((Y1.out.next hb).al (.cells #[.bool (qs q3), .slice P3 (ln (qn q3)) p3, .slice R3 (ln (qd q3)) r3'] 24)); have Y2 := hide ((Y2.out.next hb).al (.cells #[.bool (qs q3), .slice P3 (ln (qn q3)) p3, .slice R3 (ln (qd q3)) r3'] 24)); have s1 := (kp' hb s1).alloc (.cells #[.bool (qs q3), .slice P3 (ln (qn q3)) p3, .slice R3 (ln (qd q3)) r3'] 24); have t1 := (kp' hb t1).alloc (.cells #[.bool (qs q3), .slice P3 (ln (qn q3)) p3, .slice R3 (ln (qd q3)) r3'] 24); have s2 := (kp' hb s2).alloc (.cells #[.bool (qs q3), .slice P3 (ln (qn q3)) p3, .slice R3 (ln (qd q3)) r3'] 24); have t2 := (kp' hb t2).alloc (.cells #[.bool (qs q3), .slice P3 (ln (qn q3)) p3, .slice R3 (ln (qd q3)) r3'] 24); have Y3 := hide (Q3.new (.bool (qs q3)) (.slice P3 (ln (qn q3)) p3) (.slice R3 (ln (qd q3)) r3') w7); have s3 := s3.alloc (.cells #[.bool (qs q3), .slice P3 (ln (qn q3)) p3, .slice R3 (ln (qd q3)) r3'] 24); have t3 := t3.alloc (.cells #[.bool (qs q3), .slice P3 (ln (qn q3)) p3, .slice R3 (ln (qd q3)) r3'] 24); clear hb; obtain ⟨x1, x2, x3, x4, x5, x6⟩ := X.out; obtain ⟨y1_1, y1_2, y1_3, y1_4, y1_5, y1_6⟩ := Y1.out; obtain ⟨y2_1, y2_2, y2_3, y2_4, y2_5, y2_6⟩ := Y2.out; obtain ⟨y3_1, y3_2, y3_3, y3_4, y3_5, y3_6⟩ := Y3.out)
      | (go_at_call 11; (with_reducible refine (B4.out _).mono ?_); rintro e w8 ⟨rfl, hb⟩; clear x1 x2 x3 x4 x5 x6 y1_1 y1_2 y1_3 y1_4 y1_5 y1_6 y2_1 y2_2 y2_3 y2_4 y2_5 y2_6 y3_1 y3_2 y3_3 y3_4 y3_5 y3_6; have d8 := bl_al (bl_trans d7 hb) (.cells #[.bool false, .slice none 0 0, .slice none 0 0] 24); have X := hide ((X.out.next hb).al (.cells #[.bool false, .slice none 0 0, .slice none 0 0] 24)); have Y1 := hide ((Y1.out.next hb).al (.cells #[.bool false, .slice none 0 0, .slice none 0 0] 24)); have Y2 := hide ((Y2.out.next hb).al (.cells #[.bool false, .slice none 0 0, .slice none 0 0] 24)); have Y3 := hide ((Y3.out.next hb).al (.cells #[.bool false, .slice none 0 0, .slice none 0 0] 24)); have s1 := (kp' hb s1).alloc (.cells #[.bool false, .slice none 0 0, .slice none 0 0] 24); have t1 := (kp' hb t1).alloc (.cells #[.bool false, .slice none 0 0, .slice none 0 0] 24); have s2 := (kp' hb s2).alloc (.cells #[.bool false, .slice none 0 0, .slice none 0 0] 24); have t2 := (kp' hb t2).alloc (.cells #[.bool false, .slice none 0 0, .slice none 0 0] 24); have s3 := (kp' hb s3).alloc (.cells #[.bool false, .slice none 0 0, .slice none 0 0] 24); have t3 := (kp' hb t3).alloc (.cells #[.bool false, .slice none 0 0, .slice none 0 0] 24); have Y4 := hide (Q3.new (.bool false) (.slice none 0 0) (.slice none 0 0) w8); clear hb; obtain ⟨x1, x2, x3, x4, x5, x6⟩ := X.out; obtain ⟨y1_1, y1_2, y1_3, y1_4, y1_5, y1_6⟩ := Y1.out; obtain ⟨y2_1, y2_2, y2_3, y2_4, y2_5, y2_6⟩ := Y2.out; obtain ⟨y3_1, y3_2, y3_3, y3_4, y3_5, y3_6⟩ := Y3.out; obtain ⟨y4_1, y4_2, y4_3, y4_4, y4_5, y4_6⟩ := Y4.out)
      | (go_at_call 20; (with_reducible refine (C3.out P3 R3 p3 r3' _ d8 s3 t3).mono ?_); rintro e w9 ⟨rfl, hb⟩; clear x1 x2 x3 x4 x5 x6 y1_1 y1_2 y1_3 y1_4 y1_5 y1_6 y2_1 y2_2 y2_3 y2_4 y2_5 y2_6 y3_1 y3_2 y3_3 y3_4 y3_5 y3_6 y4_1 y4_2 y4_3 y4_4 y4_5 y4_6; have d9 := bl_trans d8 hb; have X := hide (X.out.next hb); have Y1 := hide (Y1.out.next hb); have Y2 := hide (Y2.out.next hb); have Y3 := hide (Y3.out.next hb); have Y4 := hide (Y4.out.next hb); have s1 := kp' hb s1; have t1 := kp' hb t1; have s2 := kp' hb s2; have t2 := kp' hb t2; have s3 := kp' hb s3; have t3 := kp' hb t3; clear hb; obtain ⟨x1, x2, x3, x4, x5, x6⟩ := X.out; obtain ⟨y1_1, y1_2, y1_3, y1_4, y1_5, y1_6⟩ := Y1.out; obtain ⟨y2_1, y2_2, y2_3, y2_4, y2_5, y2_6⟩ := Y2.out; obtain ⟨y3_1, y3_2, y3_3, y3_4, y3_5, y3_6⟩ := Y3.out; obtain ⟨y4_1, y4_2, y4_3, y4_4, y4_5, y4_6⟩ := Y4.out)
      | (go_at_call 9; (with_reducible refine (AW.out _ d9).mono ?_); rintro e v9 ⟨rfl, hb⟩; have bz := bl_trans d9 hb; clear hb))
    go_ret
    exact ⟨rfl, bz⟩
set_option maxRecDepth 100000 in
set_option maxHeartbeats 8000000 in
theorem holds_FI (q : Rat) (A0 B0 : Option Addr) (c0 e0 : Nat) (W : World) (sA0 : Sl W A0 (digs (qn q))) (sB0 : Sl W B0 (digs (qd q))) (f0 : fitq q) (h0 : ln (qn q) ≤ 12 ∧ ln (qd q) ≤ 12) (rs is : Bool) (r i : Nat) (Q : Qb (qs q) (qn q) (qd q) rs r is i)
    (hr : r < 2047 * 2 ^ 52) (s1 : Bool) (r1 : Nat) (hn1 : nx rs r false (2047 * 2 ^ 52) = (s1, r1)) (hr1 : r1 < 2047 * 2 ^ 52)
    (his : is = false) (hi : i = 2047 * 2 ^ 52)
    (AW : Hid (∀ V : World, Below W.heap.size W V → Calls Tryd.prog 9 #[] V fun e V' => e = .returned (.bool true) ∧ Below V.heap.size V V')) :
    Calls Tryd.prog 4 #[.agg #[.bool (qs q), .slice A0 (ln (qn q)) c0, .slice B0 (ln (qd q)) e0]] W fun e W' => e = .returned (.bool true) ∧ Below W.heap.size W W' := by
  have V0 := hide (fun V (g : Below W.heap.size W V) => rvalid_q q A0 B0 c0 e0 V (kp' g sA0) (kp' g sB0) f0)
  have OF := hide (fun V (g : Below W.heap.size W V) => qof_f q A0 B0 c0 e0 rs r is i V (kp' g sA0) (kp' g sB0) f0 Q)
  obtain ⟨z, x, g1, g2, g3, g4, g5, g6⟩ := Q.vals
  have oL : binOp .leq 25 (.float .f64 (Ieee.double.word rs r)) (.float .f64 (Ieee.double.word is i)) = pure (.bool true) := fl_leq _ _ _ _ ((wo_le _ _ _ _ g5 g6).trans (decide_eq_true (lo_le_hi Q)))
  have oE := fl_eql 25 _ _ _ (wo_eq rs is r i g5 g6)
  have EX := hide (exact_f rs r is i g5 g6 _ rfl)
  have l0 : binOp .gtr 3 (.int .i64 (ln (qn q) : Int)) (.int .i64 12) = pure (.bool false) := ii_gtr _ _ _ _ (decide_eq_false (by omega))
  have l1 : binOp .gtr 3 (.int .i64 (ln (qd q) : Int)) (.int .i64 12) = pure (.bool false) := ii_gtr _ _ _ _ (decide_eq_false (by omega))
  have FL := hide (lfin_yes rs r hr)
  have B1 := hide (rback_f rs r hr)
  have C1 := hide (fun X Y e f V (g : Below W.heap.size W V) sx sy => rcmp_q (rq rs r) q X Y A0 B0 e f c0 e0 V sx sy (kp' g sA0) (kp' g sB0) (rq_fit rs hr) f0 _ rfl)
  have oc1 : binOp .gtr 3 (.int .i64 (cmpQ (rq rs r) q)) (.int .i64 0) = pure (.bool false) := ii_gtr _ _ _ _ (decide_eq_false (by have := cmpQ_le' (lo_le q g1 g2 rs r hr g3); omega))
  have N1 := hide (nextafter_any rs r false (2047 * 2 ^ 52) (Nat.le_of_lt hr) (Nat.le_refl _) _ _ hn1)
  have J1 := hide minf1
  rw [decide_eq_true hr, Bool.and_true] at EX
  have B2 := hide (rback_f s1 r1 hr1)
  have C2 := hide (fun X Y e f V (g : Below W.heap.size W V) sx sy => rcmp_q (rq s1 r1) q X Y A0 B0 e f c0 e0 V sx sy (kp' g sA0) (kp' g sB0) (rq_fit s1 hr1) f0 _ rfl)
  have oc2 : binOp .leq 3 (.int .i64 (cmpQ (rq s1 r1) q)) (.int .i64 0) = pure (.bool false) := ii_leq _ _ _ _ (decide_eq_false (by have := cmpQ_gt' ((up_gt Q hr hn1).2.2 hr1); omega))
  subst his hi
  have FH := hide (lfin_no _ (odd_inf false))
  have oh : binOp .gtr 25 (.float .f64 (Ieee.double.word false (2047 * 2 ^ 52))) (.float .f64 0) = pure (.bool true) := w_pos false (2047 * 2 ^ 52) (Nat.le_refl _) true (decide_eq_true (by rw [I_f]; have := U_pos (show 0 < 2047 * 2 ^ 52 by decide); omega))
  have X := hide (Q3.new (.bool (qs q)) (.slice A0 (ln (qn q)) c0) (.slice B0 (ln (qd q)) e0) W)
  have d0 : Below W.heap.size W (W.alloc (.cells #[.bool (qs q), .slice A0 (ln (qn q)) c0, .slice B0 (ln (qd q)) e0] 24)) := bl_al (.refl _ _) _
  obtain ⟨x1, x2, x3, x4, x5, x6⟩ := X.out
  clear sA0 sB0 f0 h0 Q g1 g2 g3 g4 g5 g6 hr hn1 hr1
  generalize decide (I rs r = I false (2047 * 2 ^ 52)) = ee at *
  generalize cmpQ (rq rs r) q = k1 at *
  generalize rq rs r = q1 at *
  generalize cmpQ (rq s1 r1) q = k2 at *
  generalize rq s1 r1 = q2 at *
  generalize Ieee.double.word s1 r1 = up at *
  generalize Ieee.double.word rs r = lo at *
  generalize Ieee.double.word true (2047 * 2 ^ 52) = ninf at *
  generalize Ieee.double.word false (2047 * 2 ^ 52) = inf at *
  generalize ln (qn q) = n0 at *
  generalize ln (qd q) = n1 at *
  generalize qs q = s0 at *
  cases ee
  all_goals
    go_enter Tryd.func4, Tryd.ntmps4
    go_wp2_with (first
      | (go_at_call 17; (with_reducible refine (FL.out _).mono ?_); rintro e v1 ⟨rfl, rfl⟩)
      | (go_at_call 19; (with_reducible refine (J1.out _).mono ?_); rintro e v1 ⟨rfl, rfl⟩)
      | (go_at_call 18; (with_reducible refine (N1.out _).mono ?_); rintro e v1 ⟨rfl, rfl⟩)
      | (go_at_call 21; (with_reducible refine (EX.out _).mono ?_); rintro e v1 ⟨rfl, rfl⟩)
      | (go_at_call 16; (with_reducible refine (V0.out _ d0).mono ?_); rintro e w1 ⟨rfl, hb⟩; clear x1 x2 x3 x4 x5 x6; have d1 := bl_trans d0 hb; have X := hide (X.out.next hb); clear hb; obtain ⟨x1, x2, x3, x4, x5, x6⟩ := X.out)
      | (go_at_call 13; (with_reducible refine (OF.out _ d1).mono ?_); rintro e w2 ⟨rfl, hb⟩; clear x1 x2 x3 x4 x5 x6; have d2 := bl_trans d1 hb; have X := hide (X.out.next hb); clear hb; obtain ⟨x1, x2, x3, x4, x5, x6⟩ := X.out)
      | (go_at_call 11; (with_reducible refine (B1.out _).mono ?_); rintro e w3 ⟨P1, p1, R1, r1', rfl, s1, t1, hb⟩; clear x1 x2 x3 x4 x5 x6; have d3 := bl_al (bl_trans d2 hb) (.cells #[.bool (qs q1), .slice P1 (ln (qn q1)) p1, .slice R1 (ln (qd q1)) r1'] 24); have X := hide ((X.out.next hb).al (.cells #[.bool (qs q1), .slice P1 (ln (qn q1)) p1, .slice R1 (ln (qd q1)) r1'] 24)); have Y1 := hide (Q3.new (.bool (qs q1)) (.slice P1 (ln (qn q1)) p1) (.slice R1 (ln (qd q1)) r1') w3); have s1 := s1.alloc (.cells #[.bool (qs q1), .slice P1 (ln (qn q1)) p1, .slice R1 (ln (qd q1)) r1'] 24); have t1 := t1.alloc (.cells #[.bool (qs q1), .slice P1 (ln (qn q1)) p1, .slice R1 (ln (qd q1)) r1'] 24); clear hb; obtain ⟨x1, x2, x3, x4, x5, x6⟩ := X.out; obtain ⟨y1_1, y1_2, y1_3, y1_4, y1_5, y1_6⟩ := Y1.out)
      | (go_at_call 11; (with_reducible refine (B2.out _).mono ?_); rintro e w4 ⟨P2, p2, R2, r2', rfl, s2, t2, hb⟩; clear x1 x2 x3 x4 x5 x6 y1_1 y1_2 y1_3 y1_4 y1_5 y1_6; have d4 := bl_al (bl_trans d3 hb) (.cells #[.bool (qs q2), .slice P2 (ln (qn q2)) p2, .slice R2 (ln (qd q2)) r2'] 24); have X := hide ((X.out.next hb).al (.cells #[.bool (qs q2), .slice P2 (ln (qn q2)) p2, .slice R2 (ln (qd q2)) r2'] 24)); have Y1 := hide ((Y1.out.next hb).al (.cells #[.bool (qs q2), .slice P2 (ln (qn q2)) p2, .slice R2 (ln (qd q2)) r2'] 24)); have s1 := (kp' hb s1).alloc (.cells #[.bool (qs q2), .slice P2 (ln (qn q2)) p2, .slice R2 (ln (qd q2)) r2'] 24); have t1 := (kp' hb t1).alloc (.cells #[.bool (qs q2), .slice P2 (ln (qn q2)) p2, .slice R2 (ln (qd q2)) r2'] 24); have Y2 := hide (Q3.new (.bool (qs q2)) (.slice P2 (ln (qn q2)) p2) (.slice R2 (ln (qd q2)) r2') w4); have s2 := s2.alloc (.cells #[.bool (qs q2), .slice P2 (ln (qn q2)) p2, .slice R2 (ln (qd q2)) r2'] 24); have t2 := t2.alloc (.cells #[.bool (qs q2), .slice P2 (ln (qn q2)) p2, .slice R2 (ln (qd q2)) r2'] 24); clear hb; obtain ⟨x1, x2, x3, x4, x5, x6⟩ := X.out; obtain ⟨y1_1, y1_2, y1_3, y1_4, y1_5, y1_6⟩ := Y1.out; obtain ⟨y2_1, y2_2, y2_3, y2_4, y2_5, y2_6⟩ := Y2.out)
      | (go_at_call 20; (with_reducible refine (C1.out P1 R1 p1 r1' _ d4 s1 t1).mono ?_); rintro e w5 ⟨rfl, hb⟩; clear x1 x2 x3 x4 x5 x6 y1_1 y1_2 y1_3 y1_4 y1_5 y1_6 y2_1 y2_2 y2_3 y2_4 y2_5 y2_6; have d5 := bl_trans d4 hb; have X := hide (X.out.next hb); have Y1 := hide (Y1.out.next hb); have Y2 := hide (Y2.out.next hb); have s1 := kp' hb s1; have t1 := kp' hb t1; have s2 := kp' hb s2; have t2 := kp' hb t2; clear hb; obtain ⟨x1, x2, x3, x4, x5, x6⟩ := X.out; obtain ⟨y1_1, y1_2, y1_3, y1_4, y1_5, y1_6⟩ := Y1.out; obtain ⟨y2_1, y2_2, y2_3, y2_4, y2_5, y2_6⟩ := Y2.out)
      | (go_at_call 20; (with_reducible refine (C2.out P2 R2 p2 r2' _ d5 s2 t2).mono ?_); rintro e w6 ⟨rfl, hb⟩; clear x1 x2 x3 x4 x5 x6 y1_1 y1_2 y1_3 y1_4 y1_5 y1_6 y2_1 y2_2 y2_3 y2_4 y2_5 y2_6; have d6 := bl_trans d5 hb; have X := hide (X.out.next hb); have Y1 := hide (Y1.out.next hb); have Y2 := hide (Y2.out.next hb); have s1 := kp' hb s1; have t1 := kp' hb t1; have s2 := kp' hb s2; have t2 := kp' hb t2; clear hb; obtain ⟨x1, x2, x3, x4, x5, x6⟩ := X.out; obtain ⟨y1_1, y1_2, y1_3, y1_4, y1_5, y1_6⟩ := Y1.out; obtain ⟨y2_1, y2_2, y2_3, y2_4, y2_5, y2_6⟩ := Y2.out)
      | (go_at_call 17; (with_reducible refine (FH.out _).mono ?_); rintro e w7 ⟨rfl, hb⟩; clear x1 x2 x3 x4 x5 x6 y1_1 y1_2 y1_3 y1_4 y1_5 y1_6 y2_1 y2_2 y2_3 y2_4 y2_5 y2_6; have d7 := bl_trans d6 hb; have X := hide (X.out.next hb); have Y1 := hide (Y1.out.next hb); have Y2 := hide (Y2.out.next hb); have s1 := kp' hb s1; have t1 := kp' hb t1; have s2 := kp' hb s2; have t2 := kp' hb t2; clear hb; obtain ⟨x1, x2, x3, x4, x5, x6⟩ := X.out; obtain ⟨y1_1, y1_2, y1_3, y1_4, y1_5, y1_6⟩ := Y1.out; obtain ⟨y2_1, y2_2, y2_3, y2_4, y2_5, y2_6⟩ := Y2.out)
      | (go_at_call 17; (with_reducible refine (FH.out _).mono ?_); rintro e w8 ⟨rfl, hb⟩; have d8 := bl_trans d7 hb; clear hb)
      | (go_at_call 9; (with_reducible refine (AW.out _ d8).mono ?_); rintro e v9 ⟨rfl, hb⟩; have bz := bl_trans d8 hb; clear hb))
    go_ret
    exact ⟨rfl, bz⟩
set_option maxRecDepth 100000 in
set_option maxHeartbeats 8000000 in
theorem holds_NF (q : Rat) (A0 B0 : Option Addr) (c0 e0 : Nat) (W : World) (sA0 : Sl W A0 (digs (qn q))) (sB0 : Sl W B0 (digs (qd q))) (f0 : fitq q) (h0 : ln (qn q) ≤ 12 ∧ ln (qd q) ≤ 12) (rs is : Bool) (r i : Nat) (Q : Qb (qs q) (qn q) (qd q) rs r is i)
    (hr : r < 2047 * 2 ^ 52) (hn1 : nx rs r false (2047 * 2 ^ 52) = (false, 2047 * 2 ^ 52))
    (hi : i < 2047 * 2 ^ 52) (s3 : Bool) (r3 : Nat) (hn3 : nx is i true (2047 * 2 ^ 52) = (s3, r3)) (hr3 : r3 < 2047 * 2 ^ 52)
    (AW : Hid (∀ V : World, Below W.heap.size W V → Calls Tryd.prog 9 #[] V fun e V' => e = .returned (.bool true) ∧ Below V.heap.size V V')) :
    Calls Tryd.prog 4 #[.agg #[.bool (qs q), .slice A0 (ln (qn q)) c0, .slice B0 (ln (qd q)) e0]] W fun e W' => e = .returned (.bool true) ∧ Below W.heap.size W W' := by
  have V0 := hide (fun V (g : Below W.heap.size W V) => rvalid_q q A0 B0 c0 e0 V (kp' g sA0) (kp' g sB0) f0)
  have OF := hide (fun V (g : Below W.heap.size W V) => qof_f q A0 B0 c0 e0 rs r is i V (kp' g sA0) (kp' g sB0) f0 Q)
  obtain ⟨z, x, g1, g2, g3, g4, g5, g6⟩ := Q.vals
  have oL : binOp .leq 25 (.float .f64 (Ieee.double.word rs r)) (.float .f64 (Ieee.double.word is i)) = pure (.bool true) := fl_leq _ _ _ _ ((wo_le _ _ _ _ g5 g6).trans (decide_eq_true (lo_le_hi Q)))
  have oE := fl_eql 25 _ _ _ (wo_eq rs is r i g5 g6)
  have EX := hide (exact_f rs r is i g5 g6 _ rfl)
  have l0 : binOp .gtr 3 (.int .i64 (ln (qn q) : Int)) (.int .i64 12) = pure (.bool false) := ii_gtr _ _ _ _ (decide_eq_false (by omega))
  have l1 : binOp .gtr 3 (.int .i64 (ln (qd q) : Int)) (.int .i64 12) = pure (.bool false) := ii_gtr _ _ _ _ (decide_eq_false (by omega))
  have FL := hide (lfin_yes rs r hr)
  have B1 := hide (rback_f rs r hr)
  have C1 := hide (fun X Y e f V (g : Below W.heap.size W V) sx sy => rcmp_q (rq rs r) q X Y A0 B0 e f c0 e0 V sx sy (kp' g sA0) (kp' g sB0) (rq_fit rs hr) f0 _ rfl)
  have oc1 : binOp .gtr 3 (.int .i64 (cmpQ (rq rs r) q)) (.int .i64 0) = pure (.bool false) := ii_gtr _ _ _ _ (decide_eq_false (by have := cmpQ_le' (lo_le q g1 g2 rs r hr g3); omega))
  have N1 := hide (nextafter_any rs r false (2047 * 2 ^ 52) (Nat.le_of_lt hr) (Nat.le_refl _) _ _ hn1)
  have J1 := hide minf1
  rw [decide_eq_true hr, Bool.and_true] at EX
  have B2 := hide (rback_inf false)
  have FH := hide (lfin_yes is i hi)
  have B3 := hide (rback_f is i hi)
  have C3 := hide (fun X Y e f V (g : Below W.heap.size W V) sx sy => rcmp_q (rq is i) q X Y A0 B0 e f c0 e0 V sx sy (kp' g sA0) (kp' g sB0) (rq_fit is hi) f0 _ rfl)
  have oc3 : binOp .lss 3 (.int .i64 (cmpQ (rq is i) q)) (.int .i64 0) = pure (.bool false) := ii_lss _ _ _ _ (decide_eq_false (by have := cmpQ_ge' (le_hi q g1 g2 is i hi g4); omega))
  have N3 := hide (nextafter_any is i true (2047 * 2 ^ 52) (Nat.le_of_lt hi) (Nat.le_refl _) _ _ hn3)
  have J3 := hide minfN
  have B4 := hide (rback_f s3 r3 hr3)
  have C4 := hide (fun X Y e f V (g : Below W.heap.size W V) sx sy => rcmp_q (rq s3 r3) q X Y A0 B0 e f c0 e0 V sx sy (kp' g sA0) (kp' g sB0) (rq_fit s3 hr3) f0 _ rfl)
  have oc4 : binOp .geq 3 (.int .i64 (cmpQ (rq s3 r3) q)) (.int .i64 0) = pure (.bool false) := ii_geq _ _ _ _ (decide_eq_false (by have := cmpQ_lt ((down_lt Q hi hn3).2.2 hr3); omega))
  have X := hide (Q3.new (.bool (qs q)) (.slice A0 (ln (qn q)) c0) (.slice B0 (ln (qd q)) e0) W)
  have d0 : Below W.heap.size W (W.alloc (.cells #[.bool (qs q), .slice A0 (ln (qn q)) c0, .slice B0 (ln (qd q)) e0] 24)) := bl_al (.refl _ _) _
  obtain ⟨x1, x2, x3, x4, x5, x6⟩ := X.out
  clear sA0 sB0 f0 h0 Q g1 g2 g3 g4 g5 g6 hr hn1 hi hn3 hr3
  generalize decide (I rs r = I is i) = ee at *
  generalize cmpQ (rq rs r) q = k1 at *
  generalize rq rs r = q1 at *
  generalize cmpQ (rq is i) q = k3 at *
  generalize rq is i = q3 at *
  generalize cmpQ (rq s3 r3) q = k4 at *
  generalize rq s3 r3 = q4 at *
  generalize Ieee.double.word s3 r3 = dw at *
  generalize Ieee.double.word rs r = lo at *
  generalize Ieee.double.word is i = hi1 at *
  generalize Ieee.double.word true (2047 * 2 ^ 52) = ninf at *
  generalize Ieee.double.word false (2047 * 2 ^ 52) = inf at *
  generalize ln (qn q) = n0 at *
  generalize ln (qd q) = n1 at *
  generalize qs q = s0 at *
  cases ee
  all_goals
    go_enter Tryd.func4, Tryd.ntmps4
    go_wp2_with (first
      | (go_at_call 17; (with_reducible refine (FL.out _).mono ?_); rintro e v1 ⟨rfl, rfl⟩)
      | (go_at_call 19; (with_reducible refine (J1.out _).mono ?_); rintro e v1 ⟨rfl, rfl⟩)
      | (go_at_call 18; (with_reducible refine (N1.out _).mono ?_); rintro e v1 ⟨rfl, rfl⟩)
      | (go_at_call 17; (with_reducible refine (FH.out _).mono ?_); rintro e v1 ⟨rfl, rfl⟩)
      | (go_at_call 19; (with_reducible refine (J3.out _).mono ?_); rintro e v1 ⟨rfl, rfl⟩)
      | (go_at_call 18; (with_reducible refine (N3.out _).mono ?_); rintro e v1 ⟨rfl, rfl⟩)
      | (go_at_call 21; (with_reducible refine (EX.out _).mono ?_); rintro e v1 ⟨rfl, rfl⟩)
      | (go_at_call 16; (with_reducible refine (V0.out _ d0).mono ?_); rintro e w1 ⟨rfl, hb⟩; clear x1 x2 x3 x4 x5 x6; have d1 := bl_trans d0 hb; have X := hide (X.out.next hb); clear hb; obtain ⟨x1, x2, x3, x4, x5, x6⟩ := X.out)
      | (go_at_call 13; (with_reducible refine (OF.out _ d1).mono ?_); rintro e w2 ⟨rfl, hb⟩; clear x1 x2 x3 x4 x5 x6; have d2 := bl_trans d1 hb; have X := hide (X.out.next hb); clear hb; obtain ⟨x1, x2, x3, x4, x5, x6⟩ := X.out)
      | (go_at_call 11; (with_reducible refine (B1.out _).mono ?_); rintro e w3 ⟨P1, p1, R1, r1', rfl, s1, t1, hb⟩; clear x1 x2 x3 x4 x5 x6; have d3 := bl_al (bl_trans d2 hb) (.cells #[.bool (qs q1), .slice P1 (ln (qn q1)) p1, .slice R1 (ln (qd q1)) r1'] 24); have X := hide ((X.out.next hb).al (.cells #[.bool (qs q1), .slice P1 (ln (qn q1)) p1, .slice R1 (ln (qd q1)) r1'] 24)); have Y1 := hide (Q3.new (.bool (qs q1)) (.slice P1 (ln (qn q1)) p1) (.slice R1 (ln (qd q1)) r1') w3); have s1 := s1.alloc (.cells #[.bool (qs q1), .slice P1 (ln (qn q1)) p1, .slice R1 (ln (qd q1)) r1'] 24); have t1 := t1.alloc (.cells #[.bool (qs q1), .slice P1 (ln (qn q1)) p1, .slice R1 (ln (qd q1)) r1'] 24); clear hb; obtain ⟨x1, x2, x3, x4, x5, x6⟩ := X.out; obtain ⟨y1_1, y1_2, y1_3, y1_4, y1_5, y1_6⟩ := Y1.out)
      | (go_at_call 11; (with_reducible refine (B2.out _).mono ?_); rintro e w4 ⟨rfl, hb⟩; clear x1 x2 x3 x4 x5 x6 y1_1 y1_2 y1_3 y1_4 y1_5 y1_6; have d4 := bl_al (bl_trans d3 hb) (.cells #[.bool false, .slice none 0 0, .slice none 0 0] 24); have X := hide ((X.out.next hb).al (.cells #[.bool false, .slice none 0 0, .slice none 0 0] 24)); have Y1 := hide ((Y1.out.next hb).al (.cells #[.bool false, .slice none 0 0, .slice none 0 0] 24)); have s1 := (kp' hb s1).alloc (.cells #[.bool false, .slice none 0 0, .slice none 0 0] 24); have t1 := (kp' hb t1).alloc (.cells #[.bool false, .slice none 0 0, .slice none 0 0] 24); have Y2 := hide (Q3.new (.bool false) (.slice none 0 0) (.slice none 0 0) w4); clear hb; obtain ⟨x1, x2, x3, x4, x5, x6⟩ := X.out; obtain ⟨y1_1, y1_2, y1_3, y1_4, y1_5, y1_6⟩ := Y1.out; obtain ⟨y2_1, y2_2, y2_3, y2_4, y2_5, y2_6⟩ := Y2.out)
      | (go_at_call 20; (with_reducible refine (C1.out P1 R1 p1 r1' _ d4 s1 t1).mono ?_); rintro e w5 ⟨rfl, hb⟩; clear x1 x2 x3 x4 x5 x6 y1_1 y1_2 y1_3 y1_4 y1_5 y1_6 y2_1 y2_2 y2_3 y2_4 y2_5 y2_6; have d5 := bl_trans d4 hb; have X := hide (X.out.next hb); have Y1 := hide (Y1.out.next hb); have Y2 := hide (Y2.out.next hb); have s1 := kp' hb s1; have t1 := kp' hb t1; clear hb; obtain ⟨x1, x2, x3, x4, x5, x6⟩ := X.out; obtain ⟨y1_1, y1_2, y1_3, y1_4, y1_5, y1_6⟩ := Y1.out; obtain ⟨y2_1, y2_2, y2_3, y2_4, y2_5, y2_6⟩ := Y2.out)
      | (go_at_call 11; (with_reducible refine (B3.out _).mono ?_); rintro e w6 ⟨P3, p3, R3, r3', rfl, s3, t3, hb⟩; clear x1 x2 x3 x4 x5 x6 y1_1 y1_2 y1_3 y1_4 y1_5 y1_6 y2_1 y2_2 y2_3 y2_4 y2_5 y2_6; have d6 := bl_al (bl_trans d5 hb) (.cells #[.bool (qs q3), .slice P3 (ln (qn q3)) p3, .slice R3 (ln (qd q3)) r3'] 24); have X := hide ((X.out.next hb).al (.cells #[.bool (qs q3), .slice P3 (ln (qn q3)) p3, .slice R3 (ln (qd q3)) r3'] 24)); have Y1 := hide ((Y1.out.next hb).al (.cells #[.bool (qs q3), .slice P3 (ln (qn q3)) p3, .slice R3 (ln (qd q3)) r3'] 24)); have Y2 := hide ((Y2.out.next hb).al (.cells #[.bool (qs q3), .slice P3 (ln (qn q3)) p3, .slice R3 (ln (qd q3)) r3'] 24)); have s1 := (kp' hb s1).alloc (.cells #[.bool (qs q3), .slice P3 (ln (qn q3)) p3, .slice R3 (ln (qd q3)) r3'] 24); have t1 := (kp' hb t1).alloc (.cells #[.bool (qs q3), .slice P3 (ln (qn q3)) p3, .slice R3 (ln (qd q3)) r3'] 24); have Y3 := hide (Q3.new (.bool (qs q3)) (.slice P3 (ln (qn q3)) p3) (.slice R3 (ln (qd q3)) r3') w6); have s3 := s3.alloc (.cells #[.bool (qs q3), .slice P3 (ln (qn q3)) p3, .slice R3 (ln (qd q3)) r3'] 24); have t3 := t3.alloc (.cells #[.bool (qs q3), .slice P3 (ln (qn q3)) p3, .slice R3 (ln (qd q3)) r3'] 24); clear hb; obtain ⟨x1, x2, x3, x4, x5, x6⟩ := X.out; obtain ⟨y1_1, y1_2, y1_3, y1_4, y1_5, y1_6⟩ := Y1.out; obtain ⟨y2_1, y2_2, y2_3, y2_4, y2_5, y2_6⟩ := Y2.out; obtain ⟨y3_1, y3_2, y3_3, y3_4, y3_5, y3_6⟩ := Y3.out)
      | (go_at_call 11; (with_reducible refine (B4.out _).mono ?_); rintro e w7 ⟨P4, p4, R4, r4', rfl, s4, t4, hb⟩; clear x1 x2 x3 x4 x5 x6 y1_1 y1_2 y1_3 y1_4 y1_5 y1_6 y2_1 y2_2 y2_3 y2_4 y2_5 y2_6 y3_1 y3_2 y3_3 y3_4 y3_5 y3_6; have d7 := bl_al (bl_trans d6 hb) (.cells #[.bool (qs q4), .slice P4 (ln (qn q4)) p4, .slice R4 (ln (qd q4)) r4'] 24); have X := hide ((X.out.next hb).al (.cells #[.bool (qs q4), .slice P4 (ln (qn q4)) p4, .slice R4 (ln (qd q4)) r4'] 24)); have Y1 := hide ((Y1.out.next hb).al (.cells #[.bool (qs q4), .slice P4 (ln (qn q4)) p4, .slice R4 (ln (qd q4)) r4'] 24)); have Y2 := hide ((Y2.out.next hb).al (.cells #[.bool (qs q4), .slice P4 (ln (qn q4)) p4, .slice R4 (ln (qd q4)) r4'] 24)); have Y3 := hide ((Y3.out.next hb).al (.cells #[.bool (qs q4), .slice P4 (ln (qn q4)) p4, .slice R4 (ln (qd q4)) r4'] 24)); have s1 := (kp' hb s1).alloc (.cells #[.bool (qs q4), .slice P4 (ln (qn q4)) p4, .slice R4 (ln (qd q4)) r4'] 24); have t1 := (kp' hb t1).alloc (.cells #[.bool (qs q4), .slice P4 (ln (qn q4)) p4, .slice R4 (ln (qd q4)) r4'] 24); have s3 := (kp' hb s3).alloc (.cells #[.bool (qs q4), .slice P4 (ln (qn q4)) p4, .slice R4 (ln (qd q4)) r4'] 24); have t3 := (kp' hb t3).alloc (.cells #[.bool (qs q4), .slice P4 (ln (qn q4)) p4, .slice R4 (ln (qd q4)) r4'] 24); have Y4 := hide (Q3.new (.bool (qs q4)) (.slice P4 (ln (qn q4)) p4) (.slice R4 (ln (qd q4)) r4') w7); have s4 := s4.alloc (.cells #[.bool (qs q4), .slice P4 (ln (qn q4)) p4, .slice R4 (ln (qd q4)) r4'] 24); have t4 := t4.alloc (.cells #[.bool (qs q4), .slice P4 (ln (qn q4)) p4, .slice R4 (ln (qd q4)) r4'] 24); clear hb; obtain ⟨x1, x2, x3, x4, x5, x6⟩ := X.out; obtain ⟨y1_1, y1_2, y1_3, y1_4, y1_5, y1_6⟩ := Y1.out; obtain ⟨y2_1, y2_2, y2_3, y2_4, y2_5, y2_6⟩ := Y2.out; obtain ⟨y3_1, y3_2, y3_3, y3_4, y3_5, y3_6⟩ := Y3.out; obtain ⟨y4_1, y4_2, y4_3, y4_4, y4_5, y4_6⟩ := Y4.out)
      | (go_at_call 20; (with_reducible refine (C3.out P3 R3 p3 r3' _ d7 s3 t3).mono ?_); rintro e w8 ⟨rfl, hb⟩; clear x1 x2 x3 x4 x5 x6 y1_1 y1_2 y1_3 y1_4 y1_5 y1_6 y2_1 y2_2 y2_3 y2_4 y2_5 y2_6 y3_1 y3_2 y3_3 y3_4 y3_5 y3_6 y4_1 y4_2 y4_3 y4_4 y4_5 y4_6; have d8 := bl_trans d7 hb; have X := hide (X.out.next hb); have Y1 := hide (Y1.out.next hb); have Y2 := hide (Y2.out.next hb); have Y3 := hide (Y3.out.next hb); have Y4 := hide (Y4.out.next hb); have s1 := kp' hb s1; have t1 := kp' hb t1; have s3 := kp' hb s3; have t3 := kp' hb t3; have s4 := kp' hb s4; have t4 := kp' hb t4; clear hb; obtain ⟨x1, x2, x3, x4, x5, x6⟩ := X.out; obtain ⟨y1_1, y1_2, y1_3, y1_4, y1_5, y1_6⟩ := Y1.out; obtain ⟨y2_1, y2_2, y2_3, y2_4, y2_5, y2_6⟩ := Y2.out; obtain ⟨y3_1, y3_2, y3_3, y3_4, y3_5, y3_6⟩ := Y3.out; obtain ⟨y4_1, y4_2, y4_3, y4_4, y4_5, y4_6⟩ := Y4.out)
      | (go_at_call 20; (with_reducible refine (C4.out P4 R4 p4 r4' _ d8 s4 t4).mono ?_); rintro e w9 ⟨rfl, hb⟩; clear x1 x2 x3 x4 x5 x6 y1_1 y1_2 y1_3 y1_4 y1_5 y1_6 y2_1 y2_2 y2_3 y2_4 y2_5 y2_6 y3_1 y3_2 y3_3 y3_4 y3_5 y3_6 y4_1 y4_2 y4_3 y4_4 y4_5 y4_6; have d9 := bl_trans d8 hb; have X := hide (X.out.next hb); have Y1 := hide (Y1.out.next hb); have Y2 := hide (Y2.out.next hb); have Y3 := hide (Y3.out.next hb); have Y4 := hide (Y4.out.next hb); have s1 := kp' hb s1; have t1 := kp' hb t1; have s3 := kp' hb s3; have t3 := kp' hb t3; have s4 := kp' hb s4; have t4 := kp' hb t4; clear hb; obtain ⟨x1, x2, x3, x4, x5, x6⟩ := X.out; obtain ⟨y1_1, y1_2, y1_3, y1_4, y1_5, y1_6⟩ := Y1.out; obtain ⟨y2_1, y2_2, y2_3, y2_4, y2_5, y2_6⟩ := Y2.out; obtain ⟨y3_1, y3_2, y3_3, y3_4, y3_5, y3_6⟩ := Y3.out; obtain ⟨y4_1, y4_2, y4_3, y4_4, y4_5, y4_6⟩ := Y4.out)
      | (go_at_call 9; (with_reducible refine (AW.out _ d9).mono ?_); rintro e v9 ⟨rfl, hb⟩; have bz := bl_trans d9 hb; clear hb))
    go_ret
    exact ⟨rfl, bz⟩
set_option maxRecDepth 100000 in
set_option maxHeartbeats 8000000 in
theorem holds_NN (q : Rat) (A0 B0 : Option Addr) (c0 e0 : Nat) (W : World) (sA0 : Sl W A0 (digs (qn q))) (sB0 : Sl W B0 (digs (qd q))) (f0 : fitq q) (h0 : ln (qn q) ≤ 12 ∧ ln (qd q) ≤ 12) (rs is : Bool) (r i : Nat) (Q : Qb (qs q) (qn q) (qd q) rs r is i)
    (hr : r < 2047 * 2 ^ 52) (hn1 : nx rs r false (2047 * 2 ^ 52) = (false, 2047 * 2 ^ 52))
    (hi : i < 2047 * 2 ^ 52) (hn3 : nx is i true (2047 * 2 ^ 52) = (true, 2047 * 2 ^ 52))
    (AW : Hid (∀ V : World, Below W.heap.size W V → Calls Tryd.prog 9 #[] V fun e V' => e = .returned (.bool true) ∧ Below V.heap.size V V')) :
    Calls Tryd.prog 4 #[.agg #[.bool (qs q), .slice A0 (ln (qn q)) c0, .slice B0 (ln (qd q)) e0]] W fun e W' => e = .returned (.bool true) ∧ Below W.heap.size W W' := by
  have V0 := hide (fun V (g : Below W.heap.size W V) => rvalid_q q A0 B0 c0 e0 V (kp' g sA0) (kp' g sB0) f0)
  have OF := hide (fun V (g : Below W.heap.size W V) => qof_f q A0 B0 c0 e0 rs r is i V (kp' g sA0) (kp' g sB0) f0 Q)
  obtain ⟨z, x, g1, g2, g3, g4, g5, g6⟩ := Q.vals
  have oL : binOp .leq 25 (.float .f64 (Ieee.double.word rs r)) (.float .f64 (Ieee.double.word is i)) = pure (.bool true) := fl_leq _ _ _ _ ((wo_le _ _ _ _ g5 g6).trans (decide_eq_true (lo_le_hi Q)))
  have oE := fl_eql 25 _ _ _ (wo_eq rs is r i g5 g6)
  have EX := hide (exact_f rs r is i g5 g6 _ rfl)
  have l0 : binOp .gtr 3 (.int .i64 (ln (qn q) : Int)) (.int .i64 12) = pure (.bool false) := ii_gtr _ _ _ _ (decide_eq_false (by omega))
  have l1 : binOp .gtr 3 (.int .i64 (ln (qd q) : Int)) (.int .i64 12) = pure (.bool false) := ii_gtr _ _ _ _ (decide_eq_false (by omega))
  have FL := hide (lfin_yes rs r hr)
  have B1 := hide (rback_f rs r hr)
  have C1 := hide (fun X Y e f V (g : Below W.heap.size W V) sx sy => rcmp_q (rq rs r) q X Y A0 B0 e f c0 e0 V sx sy (kp' g sA0) (kp' g sB0) (rq_fit rs hr) f0 _ rfl)
  have oc1 : binOp .gtr 3 (.int .i64 (cmpQ (rq rs r) q)) (.int .i64 0) = pure (.bool false) := ii_gtr _ _ _ _ (decide_eq_false (by have := cmpQ_le' (lo_le q g1 g2 rs r hr g3); omega))
  have N1 := hide (nextafter_any rs r false (2047 * 2 ^ 52) (Nat.le_of_lt hr) (Nat.le_refl _) _ _ hn1)
  have J1 := hide minf1
  rw [decide_eq_true hr, Bool.and_true] at EX
  have B2 := hide (rback_inf false)
  have FH := hide (lfin_yes is i hi)
  have B3 := hide (rback_f is i hi)
  have C3 := hide (fun X Y e f V (g : Below W.heap.size W V) sx sy => rcmp_q (rq is i) q X Y A0 B0 e f c0 e0 V sx sy (kp' g sA0) (kp' g sB0) (rq_fit is hi) f0 _ rfl)
  have oc3 : binOp .lss 3 (.int .i64 (cmpQ (rq is i) q)) (.int .i64 0) = pure (.bool false) := ii_lss _ _ _ _ (decide_eq_false (by have := cmpQ_ge' (le_hi q g1 g2 is i hi g4); omega))
  have N3 := hide (nextafter_any is i true (2047 * 2 ^ 52) (Nat.le_of_lt hi) (Nat.le_refl _) _ _ hn3)
  have J3 := hide minfN
  have B4 := hide (rback_inf true)
  have X := hide (Q3.new (.bool (qs q)) (.slice A0 (ln (qn q)) c0) (.slice B0 (ln (qd q)) e0) W)
  have d0 : Below W.heap.size W (W.alloc (.cells #[.bool (qs q), .slice A0 (ln (qn q)) c0, .slice B0 (ln (qd q)) e0] 24)) := bl_al (.refl _ _) _
  obtain ⟨x1, x2, x3, x4, x5, x6⟩ := X.out
  clear sA0 sB0 f0 h0 Q g1 g2 g3 g4 g5 g6 hr hn1 hi hn3
  generalize decide (I rs r = I is i) = ee at *
  generalize cmpQ (rq rs r) q = k1 at *
  generalize rq rs r = q1 at *
  generalize cmpQ (rq is i) q = k3 at *
  generalize rq is i = q3 at *
  generalize Ieee.double.word rs r = lo at *
  generalize Ieee.double.word is i = hi1 at *
  generalize Ieee.double.word true (2047 * 2 ^ 52) = ninf at *
  generalize Ieee.double.word false (2047 * 2 ^ 52) = inf at *
  generalize ln (qn q) = n0 at *
  generalize ln (qd q) = n1 at *
  generalize qs q = s0 at *
  cases ee
  all_goals
    go_enter Tryd.func4, Tryd.ntmps4
    go_wp2_with (first
      | (go_at_call 17; (with_reducible refine (FL.out _).mono ?_); rintro e v1 ⟨rfl, rfl⟩)
      | (go_at_call 19; (with_reducible refine (J1.out _).mono ?_); rintro e v1 ⟨rfl, rfl⟩)
      | (go_at_call 18; (with_reducible refine (N1.out _).mono ?_); rintro e v1 ⟨rfl, rfl⟩)
      | (go_at_call 17; (with_reducible refine (FH.out _).mono ?_); rintro e v1 ⟨rfl, rfl⟩)
      | (go_at_call 19; (with_reducible refine (J3.out _).mono ?_); rintro e v1 ⟨rfl, rfl⟩)
      | (go_at_call 18; (with_reducible refine (N3.out _).mono ?_); rintro e v1 ⟨rfl, rfl⟩)
      | (go_at_call 21; (with_reducible refine (EX.out _).mono ?_); rintro e v1 ⟨rfl, rfl⟩)
      | (go_at_call 16; (with_reducible refine (V0.out _ d0).mono ?_); rintro e w1 ⟨rfl, hb⟩; clear x1 x2 x3 x4 x5 x6; have d1 := bl_trans d0 hb; have X := hide (X.out.next hb); clear hb; obtain ⟨x1, x2, x3, x4, x5, x6⟩ := X.out)
      | (go_at_call 13; (with_reducible refine (OF.out _ d1).mono ?_); rintro e w2 ⟨rfl, hb⟩; clear x1 x2 x3 x4 x5 x6; have d2 := bl_trans d1 hb; have X := hide (X.out.next hb); clear hb; obtain ⟨x1, x2, x3, x4, x5, x6⟩ := X.out)
      | (go_at_call 11; (with_reducible refine (B1.out _).mono ?_); rintro e w3 ⟨P1, p1, R1, r1', rfl, s1, t1, hb⟩; clear x1 x2 x3 x4 x5 x6; have d3 := bl_al (bl_trans d2 hb) (.cells #[.bool (qs q1), .slice P1 (ln (qn q1)) p1, .slice R1 (ln (qd q1)) r1'] 24); have X := hide ((X.out.next hb).al (.cells #[.bool (qs q1), .slice P1 (ln (qn q1)) p1, .slice R1 (ln (qd q1)) r1'] 24)); have Y1 := hide (Q3.new (.bool (qs q1)) (.slice P1 (ln (qn q1)) p1) (.slice R1 (ln (qd q1)) r1') w3); have s1 := s1.alloc (.cells #[.bool (qs q1), .slice P1 (ln (qn q1)) p1, .slice R1 (ln (qd q1)) r1'] 24); have t1 := t1.alloc (.cells #[.bool (qs q1), .slice P1 (ln (qn q1)) p1, .slice R1 (ln (qd q1)) r1'] 24); clear hb; obtain ⟨x1, x2, x3, x4, x5, x6⟩ := X.out; obtain ⟨y1_1, y1_2, y1_3, y1_4, y1_5, y1_6⟩ := Y1.out)
      | (go_at_call 11; (with_reducible refine (B2.out _).mono ?_); rintro e w4 ⟨rfl, hb⟩; clear x1 x2 x3 x4 x5 x6 y1_1 y1_2 y1_3 y1_4 y1_5 y1_6; have d4 := bl_al (bl_trans d3 hb) (.cells #[.bool false, .slice none 0 0, .slice none 0 0] 24); have X := hide ((X.out.next hb).al (.cells #[.bool false, .slice none 0 0, .slice none 0 0] 24)); have Y1 := hide ((Y1.out.next hb).al (.cells #[.bool false, .slice none 0 0, .slice none 0 0] 24)); have s1 := (kp' hb s1).alloc (.cells #[.bool false, .slice none 0 0, .slice none 0 0] 24); have t1 := (kp' hb t1).alloc (.cells #[.bool false, .slice none 0 0, .slice none 0 0] 24); have Y2 := hide (Q3.new (.bool false) (.slice none 0 0) (.slice none 0 0) w4); clear hb; obtain ⟨x1, x2, x3, x4, x5, x6⟩ := X.out; obtain ⟨y1_1, y1_2, y1_3, y1_4, y1_5, y1_6⟩ := Y1.out; obtain ⟨y2_1, y2_2, y2_3, y2_4, y2_5, y2_6⟩ := Y2.out)
      | (go_at_call 20; (with_reducible refine (C1.out P1 R1 p1 r1' _ d4 s1 t1).mono ?_); rintro e w5 ⟨rfl, hb⟩; clear x1 x2 x3 x4 x5 x6 y1_1 y1_2 y1_3 y1_4 y1_5 y1_6 y2_1 y2_2 y2_3 y2_4 y2_5 y2_6; have d5 := bl_trans d4 hb; have X := hide (X.out.next hb); have Y1 := hide (Y1.out.next hb); have Y2 := hide (Y2.out.next hb); have s1 := kp' hb s1; have t1 := kp' hb t1; clear hb; obtain ⟨x1, x2, x3, x4, x5, x6⟩ := X.out; obtain ⟨y1_1, y1_2, y1_3, y1_4, y1_5, y1_6⟩ := Y1.out; obtain ⟨y2_1, y2_2, y2_3, y2_4, y2_5, y2_6⟩ := Y2.out)
      | (go_at_call 11; (with_reducible refine (B3.out _).mono ?_); rintro e w6 ⟨P3, p3, R3, r3', rfl, s3, t3, hb⟩; clear x1 x2 x3 x4 x5 x6 y1_1 y1_2 y1_3 y1_4 y1_5 y1_6 y2_1 y2_2 y2_3 y2_4 y2_5 y2_6; have d6 := bl_al (bl_trans d5 hb) (.cells #[.bool (qs q3), .slice P3 (ln (qn q3)) p3, .slice R3 (ln (qd q3)) r3'] 24); have X := hide ((X.out.next hb).al (.cells #[.bool (qs q3), .slice P3 (ln (qn q3)) p3, .slice R3 (ln (qd q3)) r3'] 24)); have Y1 := hide ((Y1.out.next hb).al (.cells #[.bool (qs q3), .slice P3 (ln (qn q3)) p3, .slice R3 (ln (qd q3)) r3'] 24)); have Y2 := hide ((Y2.out.next hb).al (.cells #[.bool (qs q3), .slice P3 (ln (qn q3)) p3, .slice R3 (ln (qd q3)) r3'] 24)); have s1 := (kp' hb s1).alloc (.cells #[.bool (qs q3), .slice P3 (ln (qn q3)) p3, .slice R3 (ln (qd q3)) r3'] 24); have t1 := (kp' hb t1).alloc (.cells #[.bool (qs q3), .slice P3 (ln (qn q3)) p3, .slice R3 (ln (qd q3)) r3'] 24); have Y3 := hide (Q3.new (.bool (qs q3)) (.slice P3 (ln (qn q3)) p3) (.slice R3 (ln (qd q3)) r3') w6); have s3 := s3.alloc (.cells #[.bool (qs q3), .slice P3 (ln (qn q3)) p3, .slice R3 (ln (qd q3)) r3'] 24); have t3 := t3.alloc (.cells #[.bool (qs q3), .slice P3 (ln (qn q3)) p3, .slice R3 (ln (qd q3)) r3'] 24); clear hb; obtain ⟨x1, x2, x3, x4, x5, x6⟩ := X.out; obtain ⟨y1_1, y1_2, y1_3, y1_4, y1_5, y1_6⟩ := Y1.out; obtain ⟨y2_1, y2_2, y2_3, y2_4, y2_5, y2_6⟩ := Y2.out; obtain ⟨y3_1, y3_2, y3_3, y3_4, y3_5, y3_6⟩ := Y3.out)
      | (go_at_call 11; (with_reducible refine (B4.out _).mono ?_); rintro e w7 ⟨rfl, hb⟩; clear x1 x2 x3 x4 x5 x6 y1_1 y1_2 y1_3 y1_4 y1_5 y1_6 y2_1 y2_2 y2_3 y2_4 y2_5 y2_6 y3_1 y3_2 y3_3 y3_4 y3_5 y3_6; have d7 := bl_al (bl_trans d6 hb) (.cells #[.bool false, .slice none 0 0, .slice none 0 0] 24); have X := hide ((X.out.next hb).al (.cells #[.bool false, .slice none 0 0, .slice none 0 0] 24)); have Y1 := hide ((Y1.out.next hb).al (.cells #[.bool false, .slice none 0 0, .slice none 0 0] 24)); have Y2 := hide ((Y2.out.next hb).al (.cells #[.bool false, .slice none 0 0, .slice none 0 0] 24)); have Y3 := hide ((Y3.out.next hb).al (.cells #[.bool false, .slice none 0 0, .slice none 0 0] 24)); have s1 := (kp' hb s1).alloc (.cells #[.bool false, .slice none 0 0, .slice none 0 0] 24); have t1 := (kp' hb t1).alloc (.cells #[.bool false, .slice none 0 0, .slice none 0 0] 24); have s3 := (kp' hb s3).alloc (.cells #[.bool false, .slice none 0 0, .slice none 0 0] 24); have t3 := (kp' hb t3).alloc (.cells #[.bool false, .slice none 0 0, .slice none 0 0] 24); have Y4 := hide (Q3.new (.bool false) (.slice none 0 0) (.slice none 0 0) w7); clear hb; obtain ⟨x1, x2, x3, x4, x5, x6⟩ := X.out; obtain ⟨y1_1, y1_2, y1_3, y1_4, y1_5, y1_6⟩ := Y1.out; obtain ⟨y2_1, y2_2, y2_3, y2_4, y2_5, y2_6⟩ := Y2.out; obtain ⟨y3_1, y3_2, y3_3, y3_4, y3_5, y3_6⟩ := Y3.out; obtain ⟨y4_1, y4_2, y4_3, y4_4, y4_5, y4_6⟩ := Y4.out)
      | (go_at_call 20; (with_reducible refine (C3.out P3 R3 p3 r3' _ d7 s3 t3).mono ?_); rintro e w8 ⟨rfl, hb⟩; clear x1 x2 x3 x4 x5 x6 y1_1 y1_2 y1_3 y1_4 y1_5 y1_6 y2_1 y2_2 y2_3 y2_4 y2_5 y2_6 y3_1 y3_2 y3_3 y3_4 y3_5 y3_6 y4_1 y4_2 y4_3 y4_4 y4_5 y4_6; have d8 := bl_trans d7 hb; have X := hide (X.out.next hb); have Y1 := hide (Y1.out.next hb); have Y2 := hide (Y2.out.next hb); have Y3 := hide (Y3.out.next hb); have Y4 := hide (Y4.out.next hb); have s1 := kp' hb s1; have t1 := kp' hb t1; have s3 := kp' hb s3; have t3 := kp' hb t3; clear hb; obtain ⟨x1, x2, x3, x4, x5, x6⟩ := X.out; obtain ⟨y1_1, y1_2, y1_3, y1_4, y1_5, y1_6⟩ := Y1.out; obtain ⟨y2_1, y2_2, y2_3, y2_4, y2_5, y2_6⟩ := Y2.out; obtain ⟨y3_1, y3_2, y3_3, y3_4, y3_5, y3_6⟩ := Y3.out; obtain ⟨y4_1, y4_2, y4_3, y4_4, y4_5, y4_6⟩ := Y4.out)
      | (go_at_call 9; (with_reducible refine (AW.out _ d8).mono ?_); rintro e v9 ⟨rfl, hb⟩; have bz := bl_trans d8 hb; clear hb))
    go_ret
    exact ⟨rfl, bz⟩
set_option maxRecDepth 100000 in
set_option maxHeartbeats 8000000 in
theorem holds_NI (q : Rat) (A0 B0 : Option Addr) (c0 e0 : Nat) (W : World) (sA0 : Sl W A0 (digs (qn q))) (sB0 : Sl W B0 (digs (qd q))) (f0 : fitq q) (h0 : ln (qn q) ≤ 12 ∧ ln (qd q) ≤ 12) (rs is : Bool) (r i : Nat) (Q : Qb (qs q) (qn q) (qd q) rs r is i)
    (hr : r < 2047 * 2 ^ 52) (hn1 : nx rs r false (2047 * 2 ^ 52) = (false, 2047 * 2 ^ 52))
    (his : is = false) (hi : i = 2047 * 2 ^ 52)
    (AW : Hid (∀ V : World, Below W.heap.size W V → Calls Tryd.prog 9 #[] V fun e V' => e = .returned (.bool true) ∧ Below V.heap.size V V')) :
    Calls Tryd.prog 4 #[.agg #[.bool (qs q), .slice A0 (ln (qn q)) c0, .slice B0 (ln (qd q)) e0]] W fun e W' => e = .returned (.bool true) ∧ Below W.heap.size W W' := by
  have V0 := hide (fun V (g : Below W.heap.size W V) => rvalid_q q A0 B0 c0 e0 V (kp' g sA0) (kp' g sB0) f0)
  have OF := hide (fun V (g : Below W.heap.size W V) => qof_f q A0 B0 c0 e0 rs r is i V (kp' g sA0) (kp' g sB0) f0 Q)
  obtain ⟨z, x, g1, g2, g3, g4, g5, g6⟩ := Q.vals
  have oL : binOp .leq 25 (.float .f64 (Ieee.double.word rs r)) (.float .f64 (Ieee.double.word is i)) = pure (.bool true) := fl_leq _ _ _ _ ((wo_le _ _ _ _ g5 g6).trans (decide_eq_true (lo_le_hi Q)))
  have oE := fl_eql 25 _ _ _ (wo_eq rs is r i g5 g6)
  have EX := hide (exact_f rs r is i g5 g6 _ rfl)
  have l0 : binOp .gtr 3 (.int .i64 (ln (qn q) : Int)) (.int .i64 12) = pure (.bool false) := ii_gtr _ _ _ _ (decide_eq_false (by omega))
  have l1 : binOp .gtr 3 (.int .i64 (ln (qd q) : Int)) (.int .i64 12) = pure (.bool false) := ii_gtr _ _ _ _ (decide_eq_false (by omega))
  have FL := hide (lfin_yes rs r hr)
  have B1 := hide (rback_f rs r hr)
  have C1 := hide (fun X Y e f V (g : Below W.heap.size W V) sx sy => rcmp_q (rq rs r) q X Y A0 B0 e f c0 e0 V sx sy (kp' g sA0) (kp' g sB0) (rq_fit rs hr) f0 _ rfl)
  have oc1 : binOp .gtr 3 (.int .i64 (cmpQ (rq rs r) q)) (.int .i64 0) = pure (.bool false) := ii_gtr _ _ _ _ (decide_eq_false (by have := cmpQ_le' (lo_le q g1 g2 rs r hr g3); omega))
  have N1 := hide (nextafter_any rs r false (2047 * 2 ^ 52) (Nat.le_of_lt hr) (Nat.le_refl _) _ _ hn1)
  have J1 := hide minf1
  rw [decide_eq_true hr, Bool.and_true] at EX
  have B2 := hide (rback_inf false)
  subst his hi
  have FH := hide (lfin_no _ (odd_inf false))
  have oh : binOp .gtr 25 (.float .f64 (Ieee.double.word false (2047 * 2 ^ 52))) (.float .f64 0) = pure (.bool true) := w_pos false (2047 * 2 ^ 52) (Nat.le_refl _) true (decide_eq_true (by rw [I_f]; have := U_pos (show 0 < 2047 * 2 ^ 52 by decide); omega))
  have X := hide (Q3.new (.bool (qs q)) (.slice A0 (ln (qn q)) c0) (.slice B0 (ln (qd q)) e0) W)
  have d0 : Below W.heap.size W (W.alloc (.cells #[.bool (qs q), .slice A0 (ln (qn q)) c0, .slice B0 (ln (qd q)) e0] 24)) := bl_al (.refl _ _) _
  obtain ⟨x1, x2, x3, x4, x5, x6⟩ := X.out
  clear sA0 sB0 f0 h0 Q g1 g2 g3 g4 g5 g6 hr hn1
  generalize decide (I rs r = I false (2047 * 2 ^ 52)) = ee at *
  generalize cmpQ (rq rs r) q = k1 at *
  generalize rq rs r = q1 at *
  generalize Ieee.double.word rs r = lo at *
  generalize Ieee.double.word true (2047 * 2 ^ 52) = ninf at *
  generalize Ieee.double.word false (2047 * 2 ^ 52) = inf at *
  generalize ln (qn q) = n0 at *
  generalize ln (qd q) = n1 at *
  generalize qs q = s0 at *
  cases ee
  all_goals
    go_enter Tryd.func4, Tryd.ntmps4
    go_wp2_with (first
      | (go_at_call 17; (with_reducible refine (FL.out _).mono ?_); rintro e v1 ⟨rfl, rfl⟩)
      | (go_at_call 19; (with_reducible refine (J1.out _).mono ?_); rintro e v1 ⟨rfl, rfl⟩)
      | (go_at_call 18; (with_reducible refine (N1.out _).mono ?_); rintro e v1 ⟨rfl, rfl⟩)
      | (go_at_call 21; (with_reducible refine (EX.out _).mono ?_); rintro e v1 ⟨rfl, rfl⟩)
      | (go_at_call 16; (with_reducible refine (V0.out _ d0).mono ?_); rintro e w1 ⟨rfl, hb⟩; clear x1 x2 x3 x4 x5 x6; have d1 := bl_trans d0 hb; have X := hide (X.out.next hb); clear hb; obtain ⟨x1, x2, x3, x4, x5, x6⟩ := X.out)
      | (go_at_call 13; (with_reducible refine (OF.out _ d1).mono ?_); rintro e w2 ⟨rfl, hb⟩; clear x1 x2 x3 x4 x5 x6; have d2 := bl_trans d1 hb; have X := hide (X.out.next hb); clear hb; obtain ⟨x1, x2, x3, x4, x5, x6⟩ := X.out)
      | (go_at_call 11; (with_reducible refine (B1.out _).mono ?_); rintro e w3 ⟨P1, p1, R1, r1', rfl, s1, t1, hb⟩; clear x1 x2 x3 x4 x5 x6; have d3 := bl_al (bl_trans d2 hb) (.cells #[.bool (qs q1), .slice P1 (ln (qn q1)) p1, .slice R1 (ln (qd q1)) r1'] 24); have X := hide ((X.out.next hb).al (.cells #[.bool (qs q1), .slice P1 (ln (qn q1)) p1, .slice R1 (ln (qd q1)) r1'] 24)); have Y1 := hide (Q3.new (.bool (qs q1)) (.slice P1 (ln (qn q1)) p1) (.slice R1 (ln (qd q1)) r1') w3); have s1 := s1.alloc (.cells #[.bool (qs q1), .slice P1 (ln (qn q1)) p1, .slice R1 (ln (qd q1)) r1'] 24); have t1 := t1.alloc (.cells #[.bool (qs q1), .slice P1 (ln (qn q1)) p1, .slice R1 (ln (qd q1)) r1'] 24); clear hb; obtain ⟨x1, x2, x3, x4, x5, x6⟩ := X.out; obtain ⟨y1_1, y1_2, y1_3, y1_4, y1_5, y1_6⟩ := Y1.out)
      | (go_at_call 11; (with_reducible refine (B2.out _).mono ?_); rintro e w4 ⟨rfl, hb⟩; clear x1 x2 x3 x4 x5 x6 y1_1 y1_2 y1_3 y1_4 y1_5 y1_6; have d4 := bl_al (bl_trans d3 hb) (.cells #[.bool false, .slice none 0 0, .slice none 0 0] 24); have X := hide ((X.out.next hb).al (.cells #[.bool false, .slice none 0 0, .slice none 0 0] 24)); have Y1 := hide ((Y1.out.next hb).al (.cells #[.bool false, .slice none 0 0, .slice none 0 0] 24)); have s1 := (kp' hb s1).alloc (.cells #[.bool false, .slice none 0 0, .slice none 0 0] 24); have t1 := (kp' hb t1).alloc (.cells #[.bool false, .slice none 0 0, .slice none 0 0] 24); have Y2 := hide (Q3.new (.bool false) (.slice none 0 0) (.slice none 0 0) w4); clear hb; obtain ⟨x1, x2, x3, x4, x5, x6⟩ := X.out; obtain ⟨y1_1, y1_2, y1_3, y1_4, y1_5, y1_6⟩ := Y1.out; obtain ⟨y2_1, y2_2, y2_3, y2_4, y2_5, y2_6⟩ := Y2.out)
      | (go_at_call 20; (with_reducible refine (C1.out P1 R1 p1 r1' _ d4 s1 t1).mono ?_); rintro e w5 ⟨rfl, hb⟩; clear x1 x2 x3 x4 x5 x6 y1_1 y1_2 y1_3 y1_4 y1_5 y1_6 y2_1 y2_2 y2_3 y2_4 y2_5 y2_6; have d5 := bl_trans d4 hb; have X := hide (X.out.next hb); have Y1 := hide (Y1.out.next hb); have Y2 := hide (Y2.out.next hb); have s1 := kp' hb s1; have t1 := kp' hb t1; clear hb; obtain ⟨x1, x2, x3, x4, x5, x6⟩ := X.out; obtain ⟨y1_1, y1_2, y1_3, y1_4, y1_5, y1_6⟩ := Y1.out; obtain ⟨y2_1, y2_2, y2_3, y2_4, y2_5, y2_6⟩ := Y2.out)
      | (go_at_call 17; (with_reducible refine (FH.out _).mono ?_); rintro e w6 ⟨rfl, hb⟩; clear x1 x2 x3 x4 x5 x6 y1_1 y1_2 y1_3 y1_4 y1_5 y1_6 y2_1 y2_2 y2_3 y2_4 y2_5 y2_6; have d6 := bl_trans d5 hb; have X := hide (X.out.next hb); have Y1 := hide (Y1.out.next hb); have Y2 := hide (Y2.out.next hb); have s1 := kp' hb s1; have t1 := kp' hb t1; clear hb; obtain ⟨x1, x2, x3, x4, x5, x6⟩ := X.out; obtain ⟨y1_1, y1_2, y1_3, y1_4, y1_5, y1_6⟩ := Y1.out; obtain ⟨y2_1, y2_2, y2_3, y2_4, y2_5, y2_6⟩ := Y2.out)
      | (go_at_call 17; (with_reducible refine (FH.out _).mono ?_); rintro e w7 ⟨rfl, hb⟩; have d7 := bl_trans d6 hb; clear hb)
      | (go_at_call 9; (with_reducible refine (AW.out _ d7).mono ?_); rintro e v9 ⟨rfl, hb⟩; have bz := bl_trans d7 hb; clear hb))
    go_ret
    exact ⟨rfl, bz⟩
set_option maxRecDepth 100000 in
set_option maxHeartbeats 8000000 in
theorem holds_IF (q : Rat) (A0 B0 : Option Addr) (c0 e0 : Nat) (W : World) (sA0 : Sl W A0 (digs (qn q))) (sB0 : Sl W B0 (digs (qd q))) (f0 : fitq q) (h0 : ln (qn q) ≤ 12 ∧ ln (qd q) ≤ 12) (rs is : Bool) (r i : Nat) (Q : Qb (qs q) (qn q) (qd q) rs r is i)
    (hrs : rs = true) (hr : r = 2047 * 2 ^ 52)
    (hi : i < 2047 * 2 ^ 52) (s3 : Bool) (r3 : Nat) (hn3 : nx is i true (2047 * 2 ^ 52) = (s3, r3)) (hr3 : r3 < 2047 * 2 ^ 52)
    (AW : Hid (∀ V : World, Below W.heap.size W V → Calls Tryd.prog 9 #[] V fun e V' => e = .returned (.bool true) ∧ Below V.heap.size V V')) :
    Calls Tryd.prog 4 #[.agg #[.bool (qs q), .slice A0 (ln (qn q)) c0, .slice B0 (ln (qd q)) e0]] W fun e W' => e = .returned (.bool true) ∧ Below W.heap.size W W' := by
  have V0 := hide (fun V (g : Below W.heap.size W V) => rvalid_q q A0 B0 c0 e0 V (kp' g sA0) (kp' g sB0) f0)
  have OF := hide (fun V (g : Below W.heap.size W V) => qof_f q A0 B0 c0 e0 rs r is i V (kp' g sA0) (kp' g sB0) f0 Q)
  obtain ⟨z, x, g1, g2, g3, g4, g5, g6⟩ := Q.vals
  have oL : binOp .leq 25 (.float .f64 (Ieee.double.word rs r)) (.float .f64 (Ieee.double.word is i)) = pure (.bool true) := fl_leq _ _ _ _ ((wo_le _ _ _ _ g5 g6).trans (decide_eq_true (lo_le_hi Q)))
  have oE := fl_eql 25 _ _ _ (wo_eq rs is r i g5 g6)
  have EX := hide (exact_f rs r is i g5 g6 _ rfl)
  have l0 : binOp .gtr 3 (.int .i64 (ln (qn q) : Int)) (.int .i64 12) = pure (.bool false) := ii_gtr _ _ _ _ (decide_eq_false (by omega))
  have l1 : binOp .gtr 3 (.int .i64 (ln (qd q) : Int)) (.int .i64 12) = pure (.bool false) := ii_gtr _ _ _ _ (decide_eq_false (by omega))
  subst hrs hr
  have FL := hide (lfin_no _ (odd_inf true))
  have ol : binOp .lss 25 (.float .f64 (Ieee.double.word true (2047 * 2 ^ 52))) (.float .f64 0) = pure (.bool true) := w_below0 true (2047 * 2 ^ 52) (by decide) (Nat.le_refl _)
  have ne : I true (2047 * 2 ^ 52) ≠ I is i := fun e => by
    have h1 := hi_low Q
    have h2 := U_lt (show 2047 * 2 ^ 52 - 1 < 2047 * 2 ^ 52 by decide)
    rw [← e, I_t] at h1
    omega
  rw [decide_eq_false ne] at oE EX
  rw [Bool.false_and] at EX
  have FH := hide (lfin_yes is i hi)
  have B3 := hide (rback_f is i hi)
  have C3 := hide (fun X Y e f V (g : Below W.heap.size W V) sx sy => rcmp_q (rq is i) q X Y A0 B0 e f c0 e0 V sx sy (kp' g sA0) (kp' g sB0) (rq_fit is hi) f0 _ rfl)
  have oc3 : binOp .lss 3 (.int .i64 (cmpQ (rq is i) q)) (.int .i64 0) = pure (.bool false) := ii_lss _ _ _ _ (decide_eq_false (by have := cmpQ_ge' (le_hi q g1 g2 is i hi g4); omega))
  have N3 := hide (nextafter_any is i true (2047 * 2 ^ 52) (Nat.le_of_lt hi) (Nat.le_refl _) _ _ hn3)
  have J3 := hide minfN
  have B4 := hide (rback_f s3 r3 hr3)
  have C4 := hide (fun X Y e f V (g : Below W.heap.size W V) sx sy => rcmp_q (rq s3 r3) q X Y A0 B0 e f c0 e0 V sx sy (kp' g sA0) (kp' g sB0) (rq_fit s3 hr3) f0 _ rfl)
  have oc4 : binOp .geq 3 (.int .i64 (cmpQ (rq s3 r3) q)) (.int .i64 0) = pure (.bool false) := ii_geq _ _ _ _ (decide_eq_false (by have := cmpQ_lt ((down_lt Q hi hn3).2.2 hr3); omega))
  have X := hide (Q3.new (.bool (qs q)) (.slice A0 (ln (qn q)) c0) (.slice B0 (ln (qd q)) e0) W)
  have d0 : Below W.heap.size W (W.alloc (.cells #[.bool (qs q), .slice A0 (ln (qn q)) c0, .slice B0 (ln (qd q)) e0] 24)) := bl_al (.refl _ _) _
  obtain ⟨x1, x2, x3, x4, x5, x6⟩ := X.out
  clear sA0 sB0 f0 h0 Q g1 g2 g3 g4 g5 g6 ne hi hn3 hr3
  generalize cmpQ (rq is i) q = k3 at *
  generalize rq is i = q3 at *
  generalize cmpQ (rq s3 r3) q = k4 at *
  generalize rq s3 r3 = q4 at *
  generalize Ieee.double.word s3 r3 = dw at *
  generalize Ieee.double.word is i = hi1 at *
  generalize Ieee.double.word true (2047 * 2 ^ 52) = ninf at *
  generalize Ieee.double.word false (2047 * 2 ^ 52) = inf at *
  generalize ln (qn q) = n0 at *
  generalize ln (qd q) = n1 at *
  generalize qs q = s0 at *
  go_enter Tryd.func4, Tryd.ntmps4
  go_wp2_with (first
    | (go_at_call 17; (with_reducible refine (FH.out _).mono ?_); rintro e v1 ⟨rfl, rfl⟩)
    | (go_at_call 19; (with_reducible refine (J3.out _).mono ?_); rintro e v1 ⟨rfl, rfl⟩)
    | (go_at_call 18; (with_reducible refine (N3.out _).mono ?_); rintro e v1 ⟨rfl, rfl⟩)
    | (go_at_call 21; (with_reducible refine (EX.out _).mono ?_); rintro e v1 ⟨rfl, rfl⟩)
    | (go_at_call 16; (with_reducible refine (V0.out _ d0).mono ?_); rintro e w1 ⟨rfl, hb⟩; clear x1 x2 x3 x4 x5 x6; have d1 := bl_trans d0 hb; have X := hide (X.out.next hb); clear hb; obtain ⟨x1, x2, x3, x4, x5, x6⟩ := X.out)
    | (go_at_call 13; (with_reducible refine (OF.out _ d1).mono ?_); rintro e w2 ⟨rfl, hb⟩; clear x1 x2 x3 x4 x5 x6; have d2 := bl_trans d1 hb; have X := hide (X.out.next hb); clear hb; obtain ⟨x1, x2, x3, x4, x5, x6⟩ := X.out)
    | (go_at_call 17; (with_reducible refine (FL.out _).mono ?_); rintro e w3 ⟨rfl, hb⟩; clear x1 x2 x3 x4 x5 x6; have d3 := bl_trans d2 hb; have X := hide (X.out.next hb); clear hb; obtain ⟨x1, x2, x3, x4, x5, x6⟩ := X.out)
    | (go_at_call 11; (with_reducible refine (B3.out _).mono ?_); rintro e w4 ⟨P3, p3, R3, r3', rfl, s3, t3, hb⟩; clear x1 x2 x3 x4 x5 x6; have d4 := bl_al (bl_trans d3 hb) (.cells #[.bool (qs q3), .slice P3 (ln (qn q3)) p3, .slice R3 (ln (qd q3)) r3'] 24); have X := hide ((X.out.next hb).al (.cells #[.bool (qs q3), .slice P3 (ln (qn q3)) p3, .slice R3 (ln (qd q3)) r3'] 24)); have Y3 := hide (Q3.new (.bool (qs q3)) (.slice P3 (ln (qn q3)) p3) (.slice R3 (ln (qd q3)) r3') w4); have s3 := s3.alloc (.cells #[.bool (qs q3), .slice P3 (ln (qn q3)) p3, .slice R3 (ln (qd q3)) r3'] 24); have t3 := t3.alloc (.cells #[.bool (qs q3), .slice P3 (ln (qn q3)) p3, .slice R3 (ln (qd q3)) r3'] 24); clear hb; obtain ⟨x1, x2, x3, x4, x5, x6⟩ := X.out; obtain ⟨y3_1, y3_2, y3_3, y3_4, y3_5, y3_6⟩ := Y3.out)
    | (go_at_call 11; (with_reducible refine (B4.out _).mono ?_); rintro e w5 ⟨P4, p4, R4, r4', rfl, s4, t4, hb⟩; clear x1 x2 x3 x4 x5 x6 y3_1 y3_2 y3_3 y3_4 y3_5 y3_6; have d5 := bl_al (bl_trans d4 hb) (.cells #[.bool (qs q4), .slice P4 (ln (qn q4)) p4, .slice R4 (ln (qd q4)) r4'] 24); have X := hide ((X.out.next hb).al (.cells #[.bool (qs q4), .slice P4 (ln (qn q4)) p4, .slice R4 (ln (qd q4)) r4'] 24)); have Y3 := hide ((Y3.out.next hb).al (.cells #[.bool (qs q4), .slice P4 (ln (qn q4)) p4, .slice R4 (ln (qd q4)) r4'] 24)); have s3 := (kp' hb s3).alloc (.cells #[.bool (qs q4), .slice P4 (ln (qn q4)) p4, .slice R4 (ln (qd q4)) r4'] 24); have t3 := (kp' hb t3).alloc (.cells #[.bool (qs q4), .slice P4 (ln (qn q4)) p4, .slice R4 (ln (qd q4)) r4'] 24); have Y4 := hide (Q3.new (.bool (qs q4)) (.slice P4 (ln (qn q4)) p4) (.slice R4 (ln (qd q4)) r4') w5); have s4 := s4.alloc (.cells #[.bool (qs q4), .slice P4 (ln (qn q4)) p4, .slice R4 (ln (qd q4)) r4'] 24); have t4 := t4.alloc (.cells #[.bool (qs q4), .slice P4 (ln (qn q4)) p4, .slice R4 (ln (qd q4)) r4'] 24); clear hb; obtain ⟨x1, x2, x3, x4, x5, x6⟩ := X.out; obtain ⟨y3_1, y3_2, y3_3, y3_4, y3_5, y3_6⟩ := Y3.out; obtain ⟨y4_1, y4_2, y4_3, y4_4, y4_5, y4_6⟩ := Y4.out)
    | (go_at_call 20; (with_reducible refine (C3.out P3 R3 p3 r3' _ d5 s3 t3).mono ?_); rintro e w6 ⟨rfl, hb⟩; clear x1 x2 x3 x4 x5 x6 y3_1 y3_2 y3_3 y3_4 y3_5 y3_6 y4_1 y4_2 y4_3 y4_4 y4_5 y4_6; have d6 := bl_trans d5 hb; have X := hide (X.out.next hb); have Y3 := hide (Y3.out.next hb); have Y4 := hide (Y4.out.next hb); have s3 := kp' hb s3; have t3 := kp' hb t3; have s4 := kp' hb s4; have t4 := kp' hb t4; clear hb; obtain ⟨x1, x2, x3, x4, x5, x6⟩ := X.out; obtain ⟨y3_1, y3_2, y3_3, y3_4, y3_5, y3_6⟩ := Y3.out; obtain ⟨y4_1, y4_2, y4_3, y4_4, y4_5, y4_6⟩ := Y4.out)
    | (go_at_call 20; (with_reducible refine (C4.out P4 R4 p4 r4' _ d6 s4 t4).mono ?_); rintro e w7 ⟨rfl, hb⟩; clear x1 x2 x3 x4 x5 x6 y3_1 y3_2 y3_3 y3_4 y3_5 y3_6 y4_1 y4_2 y4_3 y4_4 y4_5 y4_6; have d7 := bl_trans d6 hb; have X := hide (X.out.next hb); have Y3 := hide (Y3.out.next hb); have Y4 := hide (Y4.out.next hb); have s3 := kp' hb s3; have t3 := kp' hb t3; have s4 := kp' hb s4; have t4 := kp' hb t4; clear hb; obtain ⟨x1, x2, x3, x4, x5, x6⟩ := X.out; obtain ⟨y3_1, y3_2, y3_3, y3_4, y3_5, y3_6⟩ := Y3.out; obtain ⟨y4_1, y4_2, y4_3, y4_4, y4_5, y4_6⟩ := Y4.out)
    | (go_at_call 17; (with_reducible refine (FL.out _).mono ?_); rintro e w8 ⟨rfl, hb⟩; have d8 := bl_trans d7 hb; clear hb)
    | (go_at_call 9; (with_reducible refine (AW.out _ d8).mono ?_); rintro e v9 ⟨rfl, hb⟩; have bz := bl_trans d8 hb; clear hb))
  go_ret
  exact ⟨rfl, bz⟩
set_option maxRecDepth 100000 in
set_option maxHeartbeats 8000000 in
theorem holds_IN (q : Rat) (A0 B0 : Option Addr) (c0 e0 : Nat) (W : World) (sA0 : Sl W A0 (digs (qn q))) (sB0 : Sl W B0 (digs (qd q))) (f0 : fitq q) (h0 : ln (qn q) ≤ 12 ∧ ln (qd q) ≤ 12) (rs is : Bool) (r i : Nat) (Q : Qb (qs q) (qn q) (qd q) rs r is i)
    (hrs : rs = true) (hr : r = 2047 * 2 ^ 52)
    (hi : i < 2047 * 2 ^ 52) (hn3 : nx is i true (2047 * 2 ^ 52) = (true, 2047 * 2 ^ 52))
    (AW : Hid (∀ V : World, Below W.heap.size W V → Calls Tryd.prog 9 #[] V fun e V' => e = .returned (.bool true) ∧ Below V.heap.size V V')) :
    Calls Tryd.prog 4 #[.agg #[.bool (qs q), .slice A0 (ln (qn q)) c0, .slice B0 (ln (qd q)) e0]] W fun e W' => e = .returned (.bool true) ∧ Below W.heap.size W W' := by
  have V0 := hide (fun V (g : Below W.heap.size W V) => rvalid_q q A0 B0 c0 e0 V (kp' g sA0) (kp' g sB0) f0)
  have OF := hide (fun V (g : Below W.heap.size W V) => qof_f q A0 B0 c0 e0 rs r is i V (kp' g sA0) (kp' g sB0) f0 Q)
  obtain ⟨z, x, g1, g2, g3, g4, g5, g6⟩ := Q.vals
  have oL : binOp .leq 25 (.float .f64 (Ieee.double.word rs r)) (.float .f64 (Ieee.double.word is i)) = pure (.bool true) := fl_leq _ _ _ _ ((wo_le _ _ _ _ g5 g6).trans (decide_eq_true (lo_le_hi Q)))
  have oE := fl_eql 25 _ _ _ (wo_eq rs is r i g5 g6)
  have EX := hide (exact_f rs r is i g5 g6 _ rfl)
  have l0 : binOp .gtr 3 (.int .i64 (ln (qn q) : Int)) (.int .i64 12) = pure (.bool false) := ii_gtr _ _ _ _ (decide_eq_false (by omega))
  have l1 : binOp .gtr 3 (.int .i64 (ln (qd q) : Int)) (.int .i64 12) = pure (.bool false) := ii_gtr _ _ _ _ (decide_eq_false (by omega))
  subst hrs hr
  have FL := hide (lfin_no _ (odd_inf true))
  have ol : binOp .lss 25 (.float .f64 (Ieee.double.word true (2047 * 2 ^ 52))) (.float .f64 0) = pure (.bool true) := w_below0 true (2047 * 2 ^ 52) (by decide) (Nat.le_refl _)
  have ne : I true (2047 * 2 ^ 52) ≠ I is i := fun e => by
    have h1 := hi_low Q
    have h2 := U_lt (show 2047 * 2 ^ 52 - 1 < 2047 * 2 ^ 52 by decide)
    rw [← e, I_t] at h1
    omega
  rw [decide_eq_false ne] at oE EX
  rw [Bool.false_and] at EX
  have FH := hide (lfin_yes is i hi)
  have B3 := hide (rback_f is i hi)
  have C3 := hide (fun X Y e f V (g : Below W.heap.size W V) sx sy => rcmp_q (rq is i) q X Y A0 B0 e f c0 e0 V sx sy (kp' g sA0) (kp' g sB0) (rq_fit is hi) f0 _ rfl)
  have oc3 : binOp .lss 3 (.int .i64 (cmpQ (rq is i) q)) (.int .i64 0) = pure (.bool false) := ii_lss _ _ _ _ (decide_eq_false (by have := cmpQ_ge' (le_hi q g1 g2 is i hi g4); omega))
  have N3 := hide (nextafter_any is i true (2047 * 2 ^ 52) (Nat.le_of_lt hi) (Nat.le_refl _) _ _ hn3)
  have J3 := hide minfN
  have B4 := hide (rback_inf true)
  have X := hide (Q3.new (.bool (qs q)) (.slice A0 (ln (qn q)) c0) (.slice B0 (ln (qd q)) e0) W)
  have d0 : Below W.heap.size W (W.alloc (.cells #[.bool (qs q), .slice A0 (ln (qn q)) c0, .slice B0 (ln (qd q)) e0] 24)) := bl_al (.refl _ _) _
  obtain ⟨x1, x2, x3, x4, x5, x6⟩ := X.out
  clear sA0 sB0 f0 h0 Q g1 g2 g3 g4 g5 g6 ne hi hn3
  generalize cmpQ (rq is i) q = k3 at *
  generalize rq is i = q3 at *
  generalize Ieee.double.word is i = hi1 at *
  generalize Ieee.double.word true (2047 * 2 ^ 52) = ninf at *
  generalize Ieee.double.word false (2047 * 2 ^ 52) = inf at *
  generalize ln (qn q) = n0 at *
  generalize ln (qd q) = n1 at *
  generalize qs q = s0 at *
  go_enter Tryd.func4, Tryd.ntmps4
  go_wp2_with (first
    | (go_at_call 17; (with_reducible refine (FH.out _).mono ?_); rintro e v1 ⟨rfl, rfl⟩)
    | (go_at_call 19; (with_reducible refine (J3.out _).mono ?_); rintro e v1 ⟨rfl, rfl⟩)
    | (go_at_call 18; (with_reducible refine (N3.out _).mono ?_); rintro e v1 ⟨rfl, rfl⟩)
    | (go_at_call 21; (with_reducible refine (EX.out _).mono ?_); rintro e v1 ⟨rfl, rfl⟩)
    | (go_at_call 16; (with_reducible refine (V0.out _ d0).mono ?_); rintro e w1 ⟨rfl, hb⟩; clear x1 x2 x3 x4 x5 x6; have d1 := bl_trans d0 hb; have X := hide (X.out.next hb); clear hb; obtain ⟨x1, x2, x3, x4, x5, x6⟩ := X.out)
    | (go_at_call 13; (with_reducible refine (OF.out _ d1).mono ?_); rintro e w2 ⟨rfl, hb⟩; clear x1 x2 x3 x4 x5 x6; have d2 := bl_trans d1 hb; have X := hide (X.out.next hb); clear hb; obtain ⟨x1, x2, x3, x4, x5, x6⟩ := X.out)
    | (go_at_call 17; (with_reducible refine (FL.out _).mono ?_); rintro e w3 ⟨rfl, hb⟩; clear x1 x2 x3 x4 x5 x6; have d3 := bl_trans d2 hb; have X := hide (X.out.next hb); clear hb; obtain ⟨x1, x2, x3, x4, x5, x6⟩ := X.out)
    | (go_at_call 11; (with_reducible refine (B3.out _).mono ?_); rintro e w4 ⟨P3, p3, R3, r3', rfl, s3, t3, hb⟩; clear x1 x2 x3 x4 x5 x6; have d4 := bl_al (bl_trans d3 hb) (.cells #[.bool (qs q3), .slice P3 (ln (qn q3)) p3, .slice R3 (ln (qd q3)) r3'] 24); have X := hide ((X.out.next hb).al (.cells #[.bool (qs q3), .slice P3 (ln (qn q3)) p3, .slice R3 (ln (qd q3)) r3'] 24)); have Y3 := hide (Q3.new (.bool (qs q3)) (.slice P3 (ln (qn q3)) p3) (.slice R3 (ln (qd q3)) r3') w4); have s3 := s3.alloc (.cells #[.bool (qs q3), .slice P3 (ln (qn q3)) p3, .slice R3 (ln (qd q3)) r3'] 24); have t3 := t3.alloc (.cells #[.bool (qs q3), .slice P3 (ln (qn q3)) p3, .slice R3 (ln (qd q3)) r3'] 24); clear hb; obtain ⟨x1, x2, x3, x4, x5, x6⟩ := X.out; obtain ⟨y3_1, y3_2, y3_3, y3_4, y3_5, y3_6⟩ := Y3.out)
    | (go_at_call 11; (with_reducible refine (B4.out _).mono ?_); rintro e w5 ⟨rfl, hb⟩; clear x1 x2 x3 x4 x5 x6 y3_1 y3_2 y3_3 y3_4 y3_5 y3_6; have d5 := bl_al (bl_trans d4 hb) (.cells #[.bool false, .slice none 0 0, .slice none 0 0] 24); have X := hide ((X.out.next hb).al (.cells #[.bool false, .slice none 0 0, .slice none 0 0] 24)); have Y3 := hide ((Y3.out.next hb).al (.cells #[.bool false, .slice none 0 0, .slice none 0 0] 24)); have s3 := (kp' hb s3).alloc (.cells #[.bool false, .slice none 0 0, .slice none 0 0] 24); have t3 := (kp' hb t3).alloc (.cells #[.bool false, .slice none 0 0, .slice none 0 0] 24); have Y4 := hide (Q3.new (.bool false) (.slice none 0 0) (.slice none 0 0) w5); clear hb; obtain ⟨x1, x2, x3, x4, x5, x6⟩ := X.out; obtain ⟨y3_1, y3_2, y3_3, y3_4, y3_5, y3_6⟩ := Y3.out; obtain ⟨y4_1, y4_2, y4_3, y4_4, y4_5, y4_6⟩ := Y4.out)
    | (go_at_call 20; (with_reducible refine (C3.out P3 R3 p3 r3' _ d5 s3 t3).mono ?_); rintro e w6 ⟨rfl, hb⟩; clear x1 x2 x3 x4 x5 x6 y3_1 y3_2 y3_3 y3_4 y3_5 y3_6 y4_1 y4_2 y4_3 y4_4 y4_5 y4_6; have d6 := bl_trans d5 hb; have X := hide (X.out.next hb); have Y3 := hide (Y3.out.next hb); have Y4 := hide (Y4.out.next hb); have s3 := kp' hb s3; have t3 := kp' hb t3; clear hb; obtain ⟨x1, x2, x3, x4, x5, x6⟩ := X.out; obtain ⟨y3_1, y3_2, y3_3, y3_4, y3_5, y3_6⟩ := Y3.out; obtain ⟨y4_1, y4_2, y4_3, y4_4, y4_5, y4_6⟩ := Y4.out)
    | (go_at_call 17; (with_reducible refine (FL.out _).mono ?_); rintro e w7 ⟨rfl, hb⟩; have d7 := bl_trans d6 hb; clear hb)
    | (go_at_call 9; (with_reducible refine (AW.out _ d7).mono ?_); rintro e v9 ⟨rfl, hb⟩; have bz := bl_trans d7 hb; clear hb))
  go_ret
  exact ⟨rfl, bz⟩
set_option maxRecDepth 100000 in
set_option maxHeartbeats 8000000 in
theorem holds_II (q : Rat) (A0 B0 : Option Addr) (c0 e0 : Nat) (W : World) (sA0 : Sl W A0 (digs (qn q))) (sB0 : Sl W B0 (digs (qd q))) (f0 : fitq q) (h0 : ln (qn q) ≤ 12 ∧ ln (qd q) ≤ 12) (rs is : Bool) (r i : Nat) (Q : Qb (qs q) (qn q) (qd q) rs r is i)
    (hrs : rs = true) (hr : r = 2047 * 2 ^ 52)
    (his : is = false) (hi : i = 2047 * 2 ^ 52)
    (AW : Hid (∀ V : World, Below W.heap.size W V → Calls Tryd.prog 9 #[] V fun e V' => e = .returned (.bool true) ∧ Below V.heap.size V V')) :
    Calls Tryd.prog 4 #[.agg #[.bool (qs q), .slice A0 (ln (qn q)) c0, .slice B0 (ln (qd q)) e0]] W fun e W' => e = .returned (.bool true) ∧ Below W.heap.size W W' := by
  have V0 := hide (fun V (g : Below W.heap.size W V) => rvalid_q q A0 B0 c0 e0 V (kp' g sA0) (kp' g sB0) f0)
  have OF := hide (fun V (g : Below W.heap.size W V) => qof_f q A0 B0 c0 e0 rs r is i V (kp' g sA0) (kp' g sB0) f0 Q)
  obtain ⟨z, x, g1, g2, g3, g4, g5, g6⟩ := Q.vals
  have oL : binOp .leq 25 (.float .f64 (Ieee.double.word rs r)) (.float .f64 (Ieee.double.word is i)) = pure (.bool true) := fl_leq _ _ _ _ ((wo_le _ _ _ _ g5 g6).trans (decide_eq_true (lo_le_hi Q)))
  have oE := fl_eql 25 _ _ _ (wo_eq rs is r i g5 g6)
  have EX := hide (exact_f rs r is i g5 g6 _ rfl)
  have l0 : binOp .gtr 3 (.int .i64 (ln (qn q) : Int)) (.int .i64 12) = pure (.bool false) := ii_gtr _ _ _ _ (decide_eq_false (by omega))
  have l1 : binOp .gtr 3 (.int .i64 (ln (qd q) : Int)) (.int .i64 12) = pure (.bool false) := ii_gtr _ _ _ _ (decide_eq_false (by omega))
  subst hrs hr
  have FL := hide (lfin_no _ (odd_inf true))
  have ol : binOp .lss 25 (.float .f64 (Ieee.double.word true (2047 * 2 ^ 52))) (.float .f64 0) = pure (.bool true) := w_below0 true (2047 * 2 ^ 52) (by decide) (Nat.le_refl _)
  have ne : I true (2047 * 2 ^ 52) ≠ I is i := fun e => by
    have h1 := hi_low Q
    have h2 := U_lt (show 2047 * 2 ^ 52 - 1 < 2047 * 2 ^ 52 by decide)
    rw [← e, I_t] at h1
    omega
  rw [decide_eq_false ne] at oE EX
  rw [Bool.false_and] at EX
  subst his hi
  have FH := hide (lfin_no _ (odd_inf false))
  have oh : binOp .gtr 25 (.float .f64 (Ieee.double.word false (2047 * 2 ^ 52))) (.float .f64 0) = pure (.bool true) := w_pos false (2047 * 2 ^ 52) (Nat.le_refl _) true (decide_eq_true (by rw [I_f]; have := U_pos (show 0 < 2047 * 2 ^ 52 by decide); omega))
  have X := hide (Q3.new (.bool (qs q)) (.slice A0 (ln (qn q)) c0) (.slice B0 (ln (qd q)) e0) W)
  have d0 : Below W.heap.size W (W.alloc (.cells #[.bool (qs q), .slice A0 (ln (qn q)) c0, .slice B0 (ln (qd q)) e0] 24)) := bl_al (.refl _ _) _
  obtain ⟨x1, x2, x3, x4, x5, x6⟩ := X.out
  clear sA0 sB0 f0 h0 Q g1 g2 g3 g4 g5 g6 ne
  generalize Ieee.double.word true (2047 * 2 ^ 52) = ninf at *
  generalize Ieee.double.word false (2047 * 2 ^ 52) = inf at *
  generalize ln (qn q) = n0 at *
  generalize ln (qd q) = n1 at *
  generalize qs q = s0 at *
  go_enter Tryd.func4, Tryd.ntmps4
  go_wp2_with (first
    | (go_at_call 21; (with_reducible refine (EX.out _).mono ?_); rintro e v1 ⟨rfl, rfl⟩)
    | (go_at_call 16; (with_reducible refine (V0.out _ d0).mono ?_); rintro e w1 ⟨rfl, hb⟩; clear x1 x2 x3 x4 x5 x6; have d1 := bl_trans d0 hb; have X := hide (X.out.next hb); clear hb; obtain ⟨x1, x2, x3, x4, x5, x6⟩ := X.out)
    | (go_at_call 13; (with_reducible refine (OF.out _ d1).mono ?_); rintro e w2 ⟨rfl, hb⟩; clear x1 x2 x3 x4 x5 x6; have d2 := bl_trans d1 hb; have X := hide (X.out.next hb); clear hb; obtain ⟨x1, x2, x3, x4, x5, x6⟩ := X.out)
    | (go_at_call 17; (with_reducible refine (FL.out _).mono ?_); rintro e w3 ⟨rfl, hb⟩; clear x1 x2 x3 x4 x5 x6; have d3 := bl_trans d2 hb; have X := hide (X.out.next hb); clear hb; obtain ⟨x1, x2, x3, x4, x5, x6⟩ := X.out)
    | (go_at_call 17; (with_reducible refine (FH.out _).mono ?_); rintro e w4 ⟨rfl, hb⟩; clear x1 x2 x3 x4 x5 x6; have d4 := bl_trans d3 hb; have X := hide (X.out.next hb); clear hb; obtain ⟨x1, x2, x3, x4, x5, x6⟩ := X.out)
    | (go_at_call 17; (with_reducible refine (FL.out _).mono ?_); rintro e w5 ⟨rfl, hb⟩; have d5 := bl_trans d4 hb; clear hb)
    | (go_at_call 17; (with_reducible refine (FH.out _).mono ?_); rintro e w6 ⟨rfl, hb⟩; have d6 := bl_trans d5 hb; clear hb)
    | (go_at_call 9; (with_reducible refine (AW.out _ d6).mono ?_); rintro e v9 ⟨rfl, hb⟩; have bz := bl_trans d6 hb; clear hb))
  go_ret
  exact ⟨rfl, bz⟩
theorem qholds_main (q : Rat) (A0 B0 : Option Addr) (c0 e0 : Nat) (W : World) (sA0 : Sl W A0 (digs (qn q))) (sB0 : Sl W B0 (digs (qd q))) (f0 : fitq q) (h0 : ln (qn q) ≤ 12 ∧ ln (qd q) ≤ 12)
    (AW : Hid (∀ V : World, Below W.heap.size W V → Calls Tryd.prog 9 #[] V fun e V' => e = .returned (.bool true) ∧ Below V.heap.size V V')) :
    Calls Tryd.prog 4 #[.agg #[.bool (qs q), .slice A0 (ln (qn q)) c0, .slice B0 (ln (qd q)) e0]] W fun e W' => e = .returned (.bool true) ∧ Below W.heap.size W W' := by
  obtain ⟨rs, r, is, i, Q⟩ := qb_rat q f0
  obtain ⟨s1, r1, hn1⟩ : ∃ s r', nx rs r false (2047 * 2 ^ 52) = (s, r') := ⟨_, _, rfl⟩
  obtain ⟨s3, r3, hn3⟩ : ∃ s r', nx is i true (2047 * 2 ^ 52) = (s, r') := ⟨_, _, rfl⟩
  by_cases hr : r < 2047 * 2 ^ 52
  · obtain ⟨a1, a2, -⟩ := up_gt Q hr hn1
    by_cases hr1 : r1 < 2047 * 2 ^ 52
    · by_cases hi : i < 2047 * 2 ^ 52
      · obtain ⟨b1, b2, -⟩ := down_lt Q hi hn3
        by_cases hr3 : r3 < 2047 * 2 ^ 52
        · exact holds_FF q A0 B0 c0 e0 W sA0 sB0 f0 h0 rs is r i Q hr s1 r1 hn1 hr1 hi s3 r3 hn3 hr3 AW
        · obtain rfl : r3 = 2047 * 2 ^ 52 := by omega
          obtain rfl := b2 rfl
          exact holds_FN q A0 B0 c0 e0 W sA0 sB0 f0 h0 rs is r i Q hr s1 r1 hn1 hr1 hi hn3 AW
      · obtain ⟨c1, c2⟩ := hi_inf Q hi
        exact holds_FI q A0 B0 c0 e0 W sA0 sB0 f0 h0 rs is r i Q hr s1 r1 hn1 hr1 c1 c2 AW
    · obtain rfl : r1 = 2047 * 2 ^ 52 := by omega
      obtain rfl := a2 rfl
      by_cases hi : i < 2047 * 2 ^ 52
      · obtain ⟨b1, b2, -⟩ := down_lt Q hi hn3
        by_cases hr3 : r3 < 2047 * 2 ^ 52
        · exact holds_NF q A0 B0 c0 e0 W sA0 sB0 f0 h0 rs is r i Q hr hn1 hi s3 r3 hn3 hr3 AW
        · obtain rfl : r3 = 2047 * 2 ^ 52 := by omega
          obtain rfl := b2 rfl
          exact holds_NN q A0 B0 c0 e0 W sA0 sB0 f0 h0 rs is r i Q hr hn1 hi hn3 AW
      · obtain ⟨c1, c2⟩ := hi_inf Q hi
        exact holds_NI q A0 B0 c0 e0 W sA0 sB0 f0 h0 rs is r i Q hr hn1 c1 c2 AW
  · obtain ⟨a1, a2⟩ := lo_inf Q hr
    by_cases hi : i < 2047 * 2 ^ 52
    · obtain ⟨b1, b2, -⟩ := down_lt Q hi hn3
      by_cases hr3 : r3 < 2047 * 2 ^ 52
      · exact holds_IF q A0 B0 c0 e0 W sA0 sB0 f0 h0 rs is r i Q a1 a2 hi s3 r3 hn3 hr3 AW
      · obtain rfl : r3 = 2047 * 2 ^ 52 := by omega
        obtain rfl := b2 rfl
        exact holds_IN q A0 B0 c0 e0 W sA0 sB0 f0 h0 rs is r i Q a1 a2 hi hn3 AW
    · obtain ⟨c1, c2⟩ := hi_inf Q hi
      exact holds_II q A0 B0 c0 e0 W sA0 sB0 f0 h0 rs is r i Q a1 a2 c1 c2 AW
set_option maxRecDepth 100000 in
set_option maxHeartbeats 4000000 in
theorem quickHolds_law (s0 : Bool) (A0 B0 : Option Addr) (c0 e0 : Nat) (xs0 ys0 : List Nat) (W : World) (sA0 : Sl W A0 xs0) (sB0 : Sl W B0 ys0) (lx0 : Limbs xs0) (ly0 : Limbs ys0) (mx0 : xs0.length ≤ maxLen) (my0 : ys0.length ≤ maxLen) (cx0 : xs0.length ≤ c0) (cy0 : ys0.length ≤ e0)
    (AW : Hid (∀ V : World, Below W.heap.size W V → Calls Tryd.prog 9 #[] V fun e V' => e = .returned (.bool true) ∧ Below V.heap.size V V'))
    (MAIN : Hid (∀ (q0 : Rat), (s0 = qs q0 ∧ xs0 = digs (qn q0) ∧ ys0 = digs (qd q0)) → fitq q0 → (xs0.length ≤ 12 ∧ ys0.length ≤ 12) → Calls Tryd.prog 4 #[.agg #[.bool s0, .slice A0 xs0.length c0, .slice B0 ys0.length e0]] W fun e W' => e = .returned (.bool true) ∧ Below W.heap.size W W')) :
    Calls Tryd.prog 4 #[.agg #[.bool s0, .slice A0 xs0.length c0, .slice B0 ys0.length e0]] W fun e W' => e = .returned (.bool true) ∧ Below W.heap.size W W' := by
  by_cases h0 : xs0.length ≤ 12
  · skip
    by_cases h1 : ys0.length ≤ 12
    · skip
      have g0 : binOp .gtr 3 (.int .i64 (xs0.length : Int)) (.int .i64 12) = pure (.bool false) := ii_gtr _ _ _ _ (decide_eq_false (by omega))
      have g1 : binOp .gtr 3 (.int .i64 (ys0.length : Int)) (.int .i64 12) = pure (.bool false) := ii_gtr _ _ _ _ (decide_eq_false (by omega))
      rcases vQ2 s0 xs0 ys0 with v0 | v0
      · skip
        obtain ⟨q0, a0, b0, d0⟩ := as_rat lx0 ly0 v0
        have ff : ∀ {q : Rat} {n m : Nat}, ln (qn q) ≤ n → ln (qd q) ≤ m → n ≤ 64 → m ≤ 64 → fitq q := fun h1 h2 h3 h4 => ⟨Nat.le_trans h1 h3, Nat.le_trans h2 h4⟩
        have f0 : fitq q0 := ff (n := 12) (m := 12) (by unfold ln; rw [← b0]; assumption) (by unfold ln; rw [← d0]; assumption) (by decide) (by decide)
        exact MAIN.out q0 ⟨a0, b0, d0⟩ f0 ⟨h0, h1⟩
      · skip
        have b0 : Below W.heap.size W (W.alloc (.cells #[.bool s0, .slice A0 xs0.length c0, .slice B0 ys0.length e0] 24)) := bl_al (.refl _ _) _
        have X0 := hide (Q3.new (.bool s0) (.slice A0 xs0.length c0) (.slice B0 ys0.length e0) W)
        obtain ⟨x01, x02, x03, x04, x05, x06⟩ := X0.out
        have V0 := hide (fun V (g : Below W.heap.size W V) => rvalidQ_any s0 A0 B0 c0 e0 xs0 ys0 V (bl_keeps g _ _ sA0) (bl_keeps g _ _ sB0) lx0 ly0 (by omega) (by omega) false v0)
        clear MAIN
        clear sA0 sB0 lx0 ly0 mx0 my0 cx0 cy0 h0 h1 v0
        generalize xs0.length = n0 at *
        generalize ys0.length = n1 at *
        go_enter Tryd.func4, Tryd.ntmps4
        go_wp2_with (first
          | (go_at_call 16; (with_reducible refine (V0.out _ b0).mono ?_); rintro e w1 ⟨rfl, hb⟩; have b1' := bl_trans b0 hb; have X0 := hide (X0.out.next hb); clear x01 x02 x03 x04 x05 x06; obtain ⟨x01, x02, x03, x04, x05, x06⟩ := X0.out; clear hb)
          | (go_at_call 9; (with_reducible refine (AW.out _ b1').mono ?_); rintro e v9 ⟨rfl, hb⟩; have bz := bl_trans b1' hb; clear hb))
        go_ret
        exact ⟨rfl, bz⟩
    · skip
      have b0 : Below W.heap.size W (W.alloc (.cells #[.bool s0, .slice A0 xs0.length c0, .slice B0 ys0.length e0] 24)) := bl_al (.refl _ _) _
      have X0 := hide (Q3.new (.bool s0) (.slice A0 xs0.length c0) (.slice B0 ys0.length e0) W)
      obtain ⟨x01, x02, x03, x04, x05, x06⟩ := X0.out
      have g0 : binOp .gtr 3 (.int .i64 (xs0.length : Int)) (.int .i64 12) = pure (.bool false) := ii_gtr _ _ _ _ (decide_eq_false (by omega))
      have g1 : binOp .gtr 3 (.int .i64 (ys0.length : Int)) (.int .i64 12) = pure (.bool true) := ii_gtr _ _ _ _ (decide_eq_true (by omega))
      clear MAIN sA0 sB0 lx0 ly0 mx0 my0 cx0 cy0 h0 h1
      generalize xs0.length = n0 at *
      generalize ys0.length = n1 at *
      go_enter Tryd.func4, Tryd.ntmps4
      go_wp2_with (first
        | (go_at_call 9; (with_reducible refine (AW.out _ b0).mono ?_); rintro e v9 ⟨rfl, hb⟩; have bz := bl_trans b0 hb; clear hb))
      go_ret
      exact ⟨rfl, bz⟩
  · skip
    have b0 : Below W.heap.size W (W.alloc (.cells #[.bool s0, .slice A0 xs0.length c0, .slice B0 ys0.length e0] 24)) := bl_al (.refl _ _) _
    have X0 := hide (Q3.new (.bool s0) (.slice A0 xs0.length c0) (.slice B0 ys0.length e0) W)
    obtain ⟨x01, x02, x03, x04, x05, x06⟩ := X0.out
    have g0 : binOp .gtr 3 (.int .i64 (xs0.length : Int)) (.int .i64 12) = pure (.bool true) := ii_gtr _ _ _ _ (decide_eq_true (by omega))
    clear MAIN sA0 sB0 lx0 ly0 mx0 my0 cx0 cy0 h0
    generalize xs0.length = n0 at *
    generalize ys0.length = n1 at *
    go_enter Tryd.func4, Tryd.ntmps4
    go_wp2_with (first
      | (go_at_call 9; (with_reducible refine (AW.out _ b0).mono ?_); rintro e v9 ⟨rfl, hb⟩; have bz := bl_trans b0 hb; clear hb))
    go_ret
    exact ⟨rfl, bz⟩
theorem quickHolds_fin (s0 : Bool) (A0 B0 : Option Addr) (c0 e0 : Nat) (xs0 ys0 : List Nat) (W : World) (sA0 : Sl W A0 xs0) (sB0 : Sl W B0 ys0) (lx0 : Limbs xs0) (ly0 : Limbs ys0) (mx0 : xs0.length ≤ maxLen) (my0 : ys0.length ≤ maxLen) (cx0 : xs0.length ≤ c0) (cy0 : ys0.length ≤ e0) (ht : DeB W) :
    Calls Tryd.prog 4 #[.agg #[.bool s0, .slice A0 xs0.length c0, .slice B0 ys0.length e0]] W fun e W' => e = .returned (.bool true) ∧ Below W.heap.size W W' := by
  have AW : Hid (∀ V : World, Below W.heap.size W V → Calls Tryd.prog 9 #[] V fun e V' => e = .returned (.bool true) ∧ Below V.heap.size V V') := hide fun V g => awake5_any V (ht.next g)
  refine quickHolds_law s0 A0 B0 c0 e0 xs0 ys0 W sA0 sB0 lx0 ly0 mx0 my0 cx0 cy0 AW (hide ?_)
  rintro q0 ⟨rfl, rfl, rfl⟩ f0 h0
  exact qholds_main q0 A0 B0 c0 e0 W sA0 sB0 f0 h0 AW
end Nt
end Go.Proofs.YtgmjdaallinicaaDoor
