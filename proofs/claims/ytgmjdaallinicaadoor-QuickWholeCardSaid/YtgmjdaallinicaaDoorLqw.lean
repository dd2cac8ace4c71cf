/-
  The law QuickWhole.
-/
import Derived.Test.YtgmjdaallinicaaDoorQd
set_option linter.unusedVariables false
set_option linter.unusedSimpArgs false
namespace Go.Proofs.YtgmjdaallinicaaDoor
open Go.RowKit
namespace Nt

theorem whole_math (n : Int) (k : Nat) (h1 : -9007199254740992 < n) (h2 : n < 9007199254740992) (hk : k ≤ 60) (q : Rat) (hq : qmk (isg n != isg (2 ^ k : Int)) n.natAbs (2 ^ k : Int).natAbs = q) :
    ∃ z y, z < 2047 * 2 ^ 52 ∧ y < 2047 * 2 ^ 52 ∧ U y = n.natAbs * KU ∧ U z * 2 ^ k = U y * 2 ^ 0 ∧ rq (qs q) z = q ∧ qs q = decide (n < 0) ∧ fitq q ∧ Qb (qs q) (qn q) (qd q) (qs q) z (qs q) z := by
  have e1 : (2 ^ k : Int).natAbs = 2 ^ k := by rw [show (2 ^ k : Int) = ((2 ^ k : Nat) : Int) by push_cast; rfl]; rfl
  have e2 : isg (2 ^ k : Int) = false := by
    unfold isg
    have : (0 : Int) < 2 ^ k := Int.pow_pos (by decide)
    exact decide_eq_false (by omega)
  rw [e1, e2, Bool.bne_false] at hq
  have hm : n.natAbs < 2 ^ 53 := by omega
  obtain ⟨y, hy1, hy2, hy3, hy4⟩ := rung_int n.natAbs hm
  obtain ⟨t, ht⟩ : ∃ t, t + k = n74 := ⟨n74 - k, by rw [n74_eq]; omega⟩
  obtain ⟨z, hz⟩ := rep t n.natAbs (by omega)
  have hzy : U z * 2 ^ k = U y * 2 ^ 0 := by rw [hz, hy2, KU_eq, ← ht, Nat.pow_add, Nat.mul_assoc, Nat.pow_zero, Nat.mul_one]
  have hle : U z ≤ U y := by
    rw [Nat.pow_zero, Nat.mul_one] at hzy
    rw [← hzy]
    exact Nat.le_mul_of_pos_right _ (Nat.two_pow_pos _)
  have hzc : z < 2047 * 2 ^ 52 := Nat.lt_of_le_of_lt (U_le_iff.1 hle) hy1
  have hzu : U z * 2 ^ k = n.natAbs * KU := by rw [hzy, hy2, Nat.pow_zero, Nat.mul_one]
  have hr : rq (isg n) z = q := by rw [rq_qmk, ← hq]; exact qmk_cross _ KU_pos (Nat.two_pow_pos k) hzu
  have hs : qs q = decide (n < 0) := by
    rw [← hq, qs_mk _ _ (Nat.ne_of_gt (Nat.two_pow_pos k))]
    unfold isg
    by_cases hn : n < 0
    · rw [decide_eq_true hn, Bool.true_and]
      exact decide_eq_true (Nat.div_pos (Nat.gcd_le_left _ (by omega)) (Nat.gcd_pos_of_pos_right _ (Nat.two_pow_pos k)))
    · rw [decide_eq_false hn, Bool.false_and]
  have hs' : qs q = isg n := hs
  have hd : 0 < qd q := qd_pos q
  have hu : U z * qd q = qn q * KU := by
    obtain ⟨m, m0, m1, m2⟩ := rq_ends (isg n) z
    rw [hr] at m1 m2
    have a1 : U z = qn q * m := by
      have := congrArg Int.natAbs m1
      rw [Int.natAbs_mul] at this
      have e : (I (isg n) z).natAbs = U z := by unfold I; split <;> simp
      rw [e] at this
      exact this
    have a2 : KU = qd q * m := m2
    rw [a1, a2, Nat.mul_assoc, Nat.mul_comm m, ← Nat.mul_assoc]
  have hf : Fl (qn q) (qd q) z := ⟨Nat.le_of_eq hu, by rw [← hu]; exact Nat.mul_lt_mul_of_pos_right (U_succ z) hd⟩
  refine ⟨z, y, hzc, hy1, hy2, hzy, by rw [hs']; exact hr, hs, by rw [← hr]; exact rq_fit _ hzc, ⟨z, true, hf, (decide_eq_true hu).symm, ?_⟩⟩
  rw [hiR_t (Nat.le_of_lt hzc), loR_of hzc]
  cases h : qs q with
  | false => rw [if_neg (by decide)]; exact ⟨rfl, rfl, rfl, rfl⟩
  | true =>
    rw [if_pos rfl]
    have hz0 : 0 < z := by
      refine Nat.pos_of_ne_zero fun e => ?_
      rw [e, U_zero, Nat.zero_mul] at hu
      exact absurd hu.symm (Nat.ne_of_gt (Nat.mul_pos (qn_pos_of_neg h) KU_pos))
    exact ⟨rfl, rfl, (decide_eq_true hz0).symm, rfl⟩
theorem run_conv_if (n : Int) (y : Nat) (hy : y < 2047 * 2 ^ 52) (h : U y = n.natAbs * KU) (W : World) : (convert 3 25 (.int .i64 n)).run Tryd.prog W = .ok (.float .f64 (Ieee.double.word (decide (n < 0)) y)) W := by
  have e : floatOfInt .f64 n = Ieee.double.word (decide (n < 0)) y := float_of n y hy h
  have : (convert 3 25 (.int .i64 n)).run Tryd.prog W = .ok (.float .f64 (floatOfInt .f64 n)) W := by kernel_rfl
  rw [this, e]
theorem shl_one (k : Nat) (hk : k ≤ 60) : binOp .shl 3 (.int .i64 1) (.int .i64 (k : Int)) = pure (.int .i64 (2 ^ k : Int)) := by
  show Op.shift .shl .i64 1 .i64 (k : Int) = _
  rw [shift_shl_any _ _ _ _ (by omega)]
  have e : (1 : Int) * 2 ^ min ((k : Int).toNat) IntKind.i64.bits = 2 ^ k := by
    rw [show min ((k : Int).toNat) IntKind.i64.bits = k from by show min _ 64 = _; omega, Int.one_mul]
  have hb : (2 ^ k : Int) ≤ 2 ^ 60 := by
    have := Nat.pow_le_pow_right (show 0 < 2 by decide) hk
    exact_mod_cast this
  have h0 : (0 : Int) < 2 ^ k := Int.pow_pos (by decide)
  rw [e, IntWalk.i64_in _ ⟨by omega, by omega⟩]
theorem ii_leq (t : TypeId) (x y : Int) (b : Bool) (h : decide (x ≤ y) = b) : binOp .leq t (.int .i64 x) (.int .i64 y) = pure (.bool b) := by rw [← h]; rfl
set_option maxRecDepth 100000 in
set_option maxHeartbeats 4000000 in
theorem qwhole_main (n : Int) (k : Nat) (W : World) (h1 : -9007199254740992 < n) (h2 : n < 9007199254740992) (hk : k ≤ 60) (T : DeB W)
    (AW : Hid (∀ V : World, Below W.heap.size W V → Calls Tryd.prog 9 #[] V fun e V' => e = .returned (.bool true) ∧ Below V.heap.size V V')) :
    Calls Tryd.prog 8 #[.int .i64 n, .int .i64 (k : Int)] W fun e W' => e = .returned (.bool true) ∧ Below W.heap.size W W' := by
  obtain ⟨q, hq⟩ : ∃ q, qmk (isg n != isg (2 ^ k : Int)) n.natAbs (2 ^ k : Int).natAbs = q := ⟨_, rfl⟩
  obtain ⟨z, y, hz, hy, hy2, hzy, hr, hs, hf, hQ⟩ := whole_math n k h1 h2 hk q hq
  have h0 : (0 : Int) < 2 ^ k := Int.pow_pos (by decide)
  have hb : (2 ^ k : Int) ≤ 2 ^ 60 := by
    have := Nat.pow_le_pow_right (show 0 < 2 by decide) hk
    exact_mod_cast this
  have o1 := ii_leq 3 n (-9007199254740992) false (decide_eq_false (by omega))
  have o2 := ii_geq 3 n 9007199254740992 false (decide_eq_false (by omega))
  have o3 := ii_lss 3 (k : Int) 0 false (decide_eq_false (by omega))
  have o4 := ii_gtr 3 (k : Int) 60 false (decide_eq_false (by omega))
  have o5 := shl_one k hk
  have o6 := ii_neg (k : Int) (-(k : Int)) rfl (by omega) (by omega)
  have cv := run_conv_if n y hy hy2
  rw [← hs] at cv
  have OF := hide (fun V => rof_k n (2 ^ k) q V (by omega) (by omega) (by omega) (by omega) (by omega) hq)
  have QO := hide (fun X Y e f V sx sy => qof_f q X Y e f _ _ _ _ V sx sy hf hQ)
  have BK := hide (fun V (g : Below W.heap.size W V) => back_f (qs q) z hz V (T.next g))
  rw [hr] at BK
  have EX := hide (exact_f (qs q) z (qs q) z (Nat.le_of_lt hz) (Nat.le_of_lt hz) true (by rw [decide_eq_true rfl, decide_eq_true hz]; rfl))
  have SM := hide (fun X Y Z T' e f g h V s1 s2 s3 s4 => same_q q q X Y Z T' e f g h V s1 s2 s3 s4 hf hf true (decide_eq_true rfl))
  have LD := hide (ldexp_any (qs q) y z k 0 (-(k : Int)) hy (by omega) hzy (by omega) (by omega))
  rw [Nat.min_eq_left (Nat.le_of_lt hz)] at LD
  have oe := fl_eql 25 (Ieee.double.word (qs q) z) (Ieee.double.word (qs q) z) true ((wo_eq _ _ _ _ (Nat.le_of_lt hz) (Nat.le_of_lt hz)).trans (decide_eq_true rfl))
  have b0 : Below W.heap.size W W := .refl _ _
  clear h1 h2 hk T hq hz hy hy2 hzy hr hs hf hQ h0 hb
  generalize Ieee.double.word (qs q) z = f at *
  generalize Ieee.double.word (qs q) y = fy at *
  generalize (2 ^ k : Int) = P at *
  generalize -(k : Int) = nk at *
  generalize (k : Int) = i at *
  go_enter Tryd.func8, Tryd.ntmps8
  go_wp2_with (first
    | (go_at_call 28; (with_reducible refine (OF.out _).mono ?_); rintro e w1 ⟨A1, c1, B1, d1, rfl, s1, t1, hb⟩; have b1 := bl_al (bl_trans b0 hb) (.cells #[.bool (qs q), .slice A1 (ln (qn q)) c1, .slice B1 (ln (qd q)) d1] 24); have X := hide (Q3.new (.bool (qs q)) (.slice A1 (ln (qn q)) c1) (.slice B1 (ln (qd q)) d1) w1); have s1 := s1.alloc (.cells #[.bool (qs q), .slice A1 (ln (qn q)) c1, .slice B1 (ln (qd q)) d1] 24); have t1 := t1.alloc (.cells #[.bool (qs q), .slice A1 (ln (qn q)) c1, .slice B1 (ln (qd q)) d1] 24); clear hb)
    | (go_at_call 13; (with_reducible refine (QO.out A1 B1 c1 d1 _ s1 t1).mono ?_); rintro e w2 ⟨rfl, hb⟩; have b2 := bl_trans b1 hb; have X := hide (X.out.next hb); have s1 := kp' hb s1; have t1 := kp' hb t1; clear hb)
    | (go_at_call 10; (with_reducible refine (BK.out _ b2).mono ?_); rintro e w3 ⟨A3, c3, B3, d3, rfl, s3, t3, hb⟩; have b3 := bl_al (bl_trans b2 hb) (.cells #[.bool (qs q), .slice A3 (ln (qn q)) c3, .slice B3 (ln (qd q)) d3] 24); have X := hide ((X.out.next hb).al (.cells #[.bool (qs q), .slice A3 (ln (qn q)) c3, .slice B3 (ln (qd q)) d3] 24)); have Y := hide (Q3.new (.bool (qs q)) (.slice A3 (ln (qn q)) c3) (.slice B3 (ln (qd q)) d3) w3); have s1 := (kp' hb s1).alloc (.cells #[.bool (qs q), .slice A3 (ln (qn q)) c3, .slice B3 (ln (qd q)) d3] 24); have t1 := (kp' hb t1).alloc (.cells #[.bool (qs q), .slice A3 (ln (qn q)) c3, .slice B3 (ln (qd q)) d3] 24); have s3 := s3.alloc (.cells #[.bool (qs q), .slice A3 (ln (qn q)) c3, .slice B3 (ln (qd q)) d3] 24); have t3 := t3.alloc (.cells #[.bool (qs q), .slice A3 (ln (qn q)) c3, .slice B3 (ln (qd q)) d3] 24); clear hb; obtain ⟨x1, x2, x3, x4, x5, x6⟩ := X.out; obtain ⟨y1, y2, y3, y4, y5, y6⟩ := Y.out)
    | (go_at_call 21; (with_reducible refine (EX.out _).mono ?_); rintro e v1 ⟨rfl, rfl⟩)
    | (go_at_call 15; (with_reducible refine (SM.out A1 B1 A3 B3 c1 d1 c3 d3 _ s1 t1 s3 t3).mono ?_); rintro e w4 ⟨rfl, hb⟩; have b4 := bl_trans b3 hb; clear hb)
    | (go_at_call 29; (with_reducible refine (LD.out _).mono ?_); rintro e v1 ⟨rfl, rfl⟩)
    | (go_at_call 9; (with_reducible refine (AW.out _ b4).mono ?_); rintro e v9 ⟨rfl, hb⟩; have bz := bl_trans b4 hb; clear hb))
  go_ret
  exact ⟨rfl, bz⟩
set_option maxHeartbeats 4000000 in
theorem quickWhole_fin (n d : Int) (W : World) (T : DeB W) :
    Calls Tryd.prog 8 #[.int .i64 n, .int .i64 d] W fun e W' => e = .returned (.bool true) ∧ Below W.heap.size W W' := by
  have AW : Hid (∀ V : World, Below W.heap.size W V → Calls Tryd.prog 9 #[] V fun e V' => e = .returned (.bool true) ∧ Below V.heap.size V V') := hide fun V g => awake5_any V (T.next g)
  have b0 : Below W.heap.size W W := .refl _ _
  by_cases h1 : n ≤ -9007199254740992
  · have o1 := ii_leq 3 n (-9007199254740992) true (decide_eq_true h1)
    clear h1 T
    go_enter Tryd.func8, Tryd.ntmps8
    go_wp2_with (go_at_call 9; (with_reducible refine (AW.out _ b0).mono ?_); rintro e v9 ⟨rfl, hb⟩)
    go_ret
    exact ⟨rfl, hb⟩
  have o1 := ii_leq 3 n (-9007199254740992) false (decide_eq_false h1)
  by_cases h2 : 9007199254740992 ≤ n
  · have o2 := ii_geq 3 n 9007199254740992 true (decide_eq_true h2)
    clear h1 h2 T
    go_enter Tryd.func8, Tryd.ntmps8
    go_wp2_with (go_at_call 9; (with_reducible refine (AW.out _ b0).mono ?_); rintro e v9 ⟨rfl, hb⟩)
    go_ret
    exact ⟨rfl, hb⟩
  have o2 := ii_geq 3 n 9007199254740992 false (decide_eq_false h2)
  by_cases h3 : d < 0
  · have o3 := ii_lss 3 d 0 true (decide_eq_true h3)
    clear h1 h2 h3 T
    go_enter Tryd.func8, Tryd.ntmps8
    go_wp2_with (go_at_call 9; (with_reducible refine (AW.out _ b0).mono ?_); rintro e v9 ⟨rfl, hb⟩)
    go_ret
    exact ⟨rfl, hb⟩
  have o3 := ii_lss 3 d 0 false (decide_eq_false h3)
  by_cases h4 : 60 < d
  · have o4 := ii_gtr 3 d 60 true (decide_eq_true h4)
    clear h1 h2 h3 h4 T
    go_enter Tryd.func8, Tryd.ntmps8
    go_wp2_with (go_at_call 9; (with_reducible refine (AW.out _ b0).mono ?_); rintro e v9 ⟨rfl, hb⟩)
    go_ret
    exact ⟨rfl, hb⟩
  obtain ⟨k, rfl⟩ : ∃ k : Nat, d = k := ⟨d.toNat, by omega⟩
  exact qwhole_main n k W (by omega) (by omega) (by omega) T AW
end Nt
end Go.Proofs.YtgmjdaallinicaaDoor
