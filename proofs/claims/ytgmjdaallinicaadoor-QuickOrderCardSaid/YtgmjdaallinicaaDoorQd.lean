/-
  Package quick: Back; the reference's Of and Back.
  The reference's bounds of a fraction: under, over, Quick.
  The reference's over and Quick.
  The laws of quick: finite, equal, same, awake.
  The laws of quick: awake.
  Quick: bounds compared: with each other, and with numbers.
-/
import Derived.Test.YtgmjdaallinicaaDoorQa
import Derived.Test.YtgmjdaallinicaaDoorRefF
import Derived.Deep.RegionHeld3
namespace Go.Proofs.YtgmjdaallinicaaDoor
open Go.RowKit
namespace Nt

theorem int_lnk {n : Int} (h1 : -9223372036854775808 ≤ n) (h2 : n ≤ 9223372036854775807) : ln n.natAbs ≤ 64 := Nat.le_trans (ln_le (k := 1) (by rw [Nat.pow_one, LB_eq]; omega)) (by decide)
set_option maxRecDepth 100000 in
set_option maxHeartbeats 4000000 in
theorem rof_k (n d : Int) (q : Rat) (w : World) (n1 : -9223372036854775808 ≤ n) (n2 : n ≤ 9223372036854775807) (d1 : -9223372036854775808 ≤ d) (d2 : d ≤ 9223372036854775807) (d0 : d ≠ 0) (hq' : qmk (isg n != isg d) n.natAbs d.natAbs = q) : Calls Tryd.prog 28 #[.int .i64 n, .int .i64 d] w (RQ w q) := by
  have R0 := hide (fun W (_ : Below w.heap.size w W) => rof_z n W n1 n2)
  have R1 := hide (fun W (_ : Below w.heap.size w W) => rof_z d W d1 d2)
  have NW := hide (fun X Y e g W (_ : Below w.heap.size w W) s1 s2 => rnew_q n d X Y e g q W s1 s2 (int_lnk n1 n2) (int_lnk d1 d2) d0 hq')
  clear hq' n1 n2 d1 d2
  generalize isg n = s0 at *
  generalize isg d = s1 at *
  generalize n.natAbs = k0 at *
  generalize d.natAbs = k1 at *
  have X3 := hide (Q3.new (.bool false) (.slice none 0 0) (.slice none 0 0) w)
  have kb := hide (bl_al (.refl w.heap.size w) (.cells #[.bool false, .slice none 0 0, .slice none 0 0] 24))
  have oe : binOp .eql 3 (.int .i64 d) (.int .i64 0) = pure (.bool false) := by
    show pure (Value.bool (d == 0)) = _
    rw [beq_eq_false_iff_ne.2 d0]
  have oe' : (d == 0) = false := beq_eq_false_iff_ne.2 d0
  clear d0
  go_enter Tryd.func28, Tryd.ntmps28
  go_wp2_with (first
    | (go_at_call 58; (with_reducible refine (R0.out _ kb.out).mono ?_); rintro e v1 ⟨P1, p1, rfl, z1, hb⟩; have X3 := hide (X3.out.next hb); have kb := hide (bl_trans kb.out hb))
    | (go_at_call 58; (with_reducible refine (R1.out _ kb.out).mono ?_); rintro e v2 ⟨P2, p2, rfl, z2, hb⟩; have X3 := hide (X3.out.next hb); have kb := hide (bl_trans kb.out hb); have z1 := kp' hb z1)
    | (go_at_call 57; (with_reducible refine (NW.out P1 P2 p1 p2 _ kb.out z1 z2).mono ?_); rintro e w3 ⟨A3, c3, B3, d3, rfl, s3, t3, hb⟩; have X3 := hide (X3.out.next hb); have kb := hide (bl_trans kb.out hb); obtain ⟨u1, u2, u3, u4, u5, u6⟩ := X3.out.al (.cells #[.bool (qs q), .slice A3 (ln (qn q)) c3, .slice B3 (ln (qd q)) d3] 24); obtain ⟨y1, y2, y3, y4, y5, y6⟩ := Q3.new (.bool (qs q)) (.slice A3 (ln (qn q)) c3) (.slice B3 (ln (qd q)) d3) w3; have lx := X3.out.lt; have XA := X3; have ne1 : (⟨w.heap.size, 0, none⟩ : Addr) ≠ ⟨w.heap.size, 1, none⟩ := (by intro e; injection e with _ e2 _; exact absurd e2 (by decide)); have ne2 : (⟨w.heap.size, 0, none⟩ : Addr) ≠ ⟨w.heap.size, 2, none⟩ := (by intro e; injection e with _ e2 _; exact absurd e2 (by decide)); have ne3 : (⟨w.heap.size, 1, none⟩ : Addr) ≠ ⟨w.heap.size, 2, none⟩ := (by intro e; injection e with _ e2 _; exact absurd e2 (by decide)); have h1 : (w3.setCell ⟨w.heap.size, 0, none⟩ (.bool (qs q))).cell? ⟨w.heap.size, 1, none⟩ = some (.slice none 0 0) := (by rw [World.cell?_setCell_other _ _ _ _ ne1]; exact XA.out.2.1); have h2 : ((w3.setCell ⟨w.heap.size, 0, none⟩ (.bool (qs q))).setCell ⟨w.heap.size, 1, none⟩ (.slice A3 (ln (qn q)) c3)).cell? ⟨w.heap.size, 2, none⟩ = some (.slice none 0 0) := (by rw [World.cell?_setCell_other _ _ _ _ ne3, World.cell?_setCell_other _ _ _ _ ne2]; exact XA.out.2.2.1); have i1 := cell_next (bl_al (.refl _ _) (.cells #[.bool (qs q), .slice A3 (ln (qn q)) c3, .slice B3 (ln (qd q)) d3] 24)) h1; have i2 := cell_next (bl_al (.refl _ _) (.cells #[.bool (qs q), .slice A3 (ln (qn q)) c3, .slice B3 (ln (qd q)) d3] 24)) h2; have i3 := frozen_next (bl_al (.refl _ _) (.cells #[.bool (qs q), .slice A3 (ln (qn q)) c3, .slice B3 (ln (qd q)) d3] 24)) h1 (by rw [World.frozen?_setCell]; exact XA.out.2.2.2.2.1); have i4 := frozen_next (bl_al (.refl _ _) (.cells #[.bool (qs q), .slice A3 (ln (qn q)) c3, .slice B3 (ln (qd q)) d3] 24)) h2 (by rw [World.frozen?_setCell, World.frozen?_setCell]; exact XA.out.2.2.2.2.2); obtain ⟨r1, r2, r3, r4, r5, r6⟩ := (q3_put XA.out (.bool (qs q)) (.slice A3 (ln (qn q)) c3) (.slice B3 (ln (qd q)) d3)).al (.cells #[.bool (qs q), .slice A3 (ln (qn q)) c3, .slice B3 (ln (qd q)) d3] 24); clear h1 h2 ne1 ne2 ne3))
  refine bodyPost_ret (v := .agg #[.bool (qs q), .slice A3 (ln (qn q)) c3, .slice B3 (ln (qd q)) d3]) (by simp [results, Tryd.results28, go_sem, r1, r2, r3]) rfl (RQ.mk rfl rfl rfl ((s3.over3 XA.out (.bool (qs q)) (.slice A3 (ln (qn q)) c3) (.slice B3 (ln (qd q)) d3)).alloc (.cells #[.bool (qs q), .slice A3 (ln (qn q)) c3, .slice B3 (ln (qd q)) d3] 24)) ((t3.over3 XA.out (.bool (qs q)) (.slice A3 (ln (qn q)) c3) (.slice B3 (ln (qd q)) d3)).alloc (.cells #[.bool (qs q), .slice A3 (ln (qn q)) c3, .slice B3 (ln (qd q)) d3] 24)) (bl_al (Below.over3 kb.out (Nat.le_refl _) (.bool (qs q)) (.slice A3 (ln (qn q)) c3) (.slice B3 (ln (qd q)) d3)) (.cells #[.bool (qs q), .slice A3 (ln (qn q)) c3, .slice B3 (ln (qd q)) d3] 24)))

/-- What hands back a fraction and that it is one. -/
def RQB (w : World) (q : Rat) (e : Ending) (w' : World) : Prop := ∃ A c B d, e = .returned (.tuple #[.agg #[.bool (qs q), .slice A (ln (qn q)) c, .slice B (ln (qd q)) d], .bool true]) ∧ Sl w' A (digs (qn q)) ∧ Sl w' B (digs (qd q)) ∧ Below w.heap.size w w'
theorem RQB.mk {w w' : World} {q : Rat} {A B : Option Addr} {c d n m : Nat} {s : Bool} (h1 : qs q = s) (h2 : qn q = n) (h3 : qd q = m) (sa : Sl w' A (digs n)) (sb : Sl w' B (digs m)) (b : Below w.heap.size w w') :
    RQB w q (.returned (.tuple #[.agg #[.bool s, .slice A (ln n) c, .slice B (ln m) d], .bool true])) w' := by
  subst h1 h2 h3
  exact ⟨A, c, B, d, rfl, sa, sb, b⟩
/-- The rung of digits f with the power of 1/2 to 1, and of them as a whole number. -/
theorem half_units (f : Nat) (hf : f < 2 ^ 52) : U (1075 * 2 ^ 52 + f) = (2 ^ 52 + f) * KU ∧ U (1075 * 2 ^ 52 + f) * 2 ^ 0 = U (1022 * 2 ^ 52 + f) * 2 ^ 53 := by
  obtain ⟨a, ha⟩ : ∃ a, a = 1021 := ⟨_, rfl⟩
  have e1 : U (1022 * 2 ^ 52 + f) = (2 ^ 52 + f) * 2 ^ a := by rw [show 1022 * 2 ^ 52 + f = 2 ^ 52 * (a + 1) + f by omega, U_mk a f hf]
  obtain ⟨b, hb⟩ : ∃ b, b = 1074 := ⟨_, rfl⟩
  have e2 : U (1075 * 2 ^ 52 + f) = (2 ^ 52 + f) * 2 ^ b := by rw [show 1075 * 2 ^ 52 + f = 2 ^ 52 * (b + 1) + f by omega, U_mk b f hf]
  have e3 : n74 = b := by rw [n74_eq, hb]
  have e4 : b = a + 53 := by omega
  refine ⟨by rw [e2, KU_eq, e3], ?_⟩
  rw [e1, e2, e4, Nat.pow_zero, Nat.mul_one, Nat.mul_assoc, ← Nat.pow_add]
theorem half_ldexp (f : Nat) (hf : f < 2 ^ 52) (w : World) : Calls Tryd.prog 29 #[.float .f64 (Ieee.double.word false (1022 * 2 ^ 52 + f)), .int .i64 53] w fun e w' => e = .returned (.float .f64 (Ieee.double.word false (1075 * 2 ^ 52 + f))) ∧ w = w' := by
  have h := ldexp_any false (1022 * 2 ^ 52 + f) (1075 * 2 ^ 52 + f) 0 53 53 (by omega) (by decide) (half_units f hf).2 (by decide) (by decide) w
  rwa [Nat.min_eq_left (by omega)] at h
theorem half_int (f : Nat) (hf : f < 2 ^ 52) (W : World) : (convert 25 54 (.float .f64 (Ieee.double.word false (1075 * 2 ^ 52 + f)))).run Tryd.prog W = .ok (.int .u64 ((2 ^ 52 + f : Nat) : Int)) W :=
  run_convert_float_int W 25 54 .f64 .u64 _ _ (by kernel_rfl) (by kernel_rfl) (int_of _ _ (by omega) (half_units f hf).1 (by omega) (by omega))
theorem DeB.next {w w' : World} (h : DeB w) (hb : Below w.heap.size w w') : DeB w' := fun j hj => cell_next hb (h j hj)
set_option maxRecDepth 100000 in
set_option maxHeartbeats 1000000 in
theorem back_pos (s : Bool) (r : Nat) (h0 : 0 < r) (hr : r < 2047 * 2 ^ 52) (w : World) (T : DeB w) :
    Calls Tryd.prog 10 #[.float .f64 (Ieee.double.word s r)] w (RQB w (rq s r)) := by
  obtain ⟨y, k, hL⟩ := lifts_any h0 hr
  obtain ⟨-, -, hy0, hy1, hk, -⟩ := hL.facts
  obtain ⟨e, f, hf, hy⟩ := rung_split y (by omega)
  obtain ⟨o, m1, m2, m3, m4, m5, m6⟩ := back_math s hL hy hf
  have TZ := hide (fun (W : World) (k : Below w.heap.size w W) => tz_any (2 ^ 52 + f) (by omega) (by omega) W (T.next k))
  obtain ⟨j, hj⟩ : ∃ j, Lib.ctz 64 (2 ^ 52 + f) = j := ⟨_, rfl⟩
  rw [hj] at m1 m3 m6 TZ
  obtain ⟨p, hp⟩ : ∃ p : Int, (e : Int) - k - 1074 + (j : Nat) = p := ⟨_, rfl⟩
  obtain ⟨q1, q2, q3⟩ := m6 p hp
  obtain ⟨n, hn⟩ : ∃ n, o * 2 ^ p.toNat = n := ⟨_, rfl⟩
  obtain ⟨d, hd⟩ : ∃ d, 2 ^ (-p).toNat = d := ⟨_, rfl⟩
  rw [hn] at q1
  rw [hd] at q2
  have F := hide (finite_w s r (by omega) true (decide_eq_true hr))
  have o1 := w_nonzero s r h0 (by omega)
  have AB := hide (mabs s r (by omega))
  have FX := hide (frexp2_any false r y k f e hL hy hf _ rfl)
  rw [word_f r] at FX
  have LD := hide (half_ldexp f hf)
  have cv := half_int f hf
  have c1 := ii_sub 3 ((e : Int) - k - 1021) 53 ((e : Int) - k - 1074) (by omega) (by omega) (by omega)
  have c2 := ii_add 3 ((e : Int) - k - 1074) (j : Nat) p (by omega) (by omega) (by omega)
  have c3 : binOp .shr 54 (.int .u64 ((2 ^ 52 + f : Nat) : Int)) (.int .i64 (j : Int)) = pure (.int .u64 (o : Int)) := bi_shr _ .i64 _ j o (by omega) (by rw [m1]; exact Nat.mul_div_cancel _ (Nat.two_pow_pos _))
  have c4 := w_below0 s r h0 (by omega)
  have c5 := ii_neg p (-p) rfl (by omega) (by omega)
  have d1 : digs o = [o] := digs1 (by omega) (by omega)
  have l1 : ln o = 1 := by unfold ln; rw [d1]; rfl
  have SH1 := hide (shifted_z (some ⟨w.heap.size + 1, 0, none⟩) 1 o p n hn ((w.alloc (.cells #[.bool false, .slice none 0 0, .slice none 0 0] 24)).alloc (.cells #[.int .u64 (o : Int)] 54)) (by rw [d1]; exact litSl _ _ _ rfl (size1 _ _)) (by omega) (by omega))
  rw [l1] at SH1
  have SH2 := hide (fun W : World => shifted_z (some ⟨W.heap.size, 0, none⟩) 1 1 (-p) d (by rw [Nat.one_mul]; exact hd) (W.alloc (.cells #[.int .u64 1] 54)) (by rw [digs1 (by decide) (by decide)]; exact litSl W _ _ rfl rfl) (by rw [ln_one]; decide) (by omega))
  rw [ln_one] at SH2
  have X := hide (Q3.new (.bool false) (.slice none 0 0) (.slice none 0 0) w)
  have b0 : Below w.heap.size w (w.alloc (.cells #[.bool false, .slice none 0 0, .slice none 0 0] 24)) := bl_al (.refl _ _) _
  have Q := hide (⟨q1, q2, q3⟩ : qn (rq s r) = n ∧ qd (rq s r) = d ∧ qs (rq s r) = s)
  clear h0 hr T hL hy0 hy1 hk hy hf m1 m2 m3 m4 m5 m6 hj hp q1 q2 q3 hn hd d1 l1
  generalize rq s r = q at *
  generalize Ieee.double.word s r = x at *
  generalize Ieee.double.word false (1022 * 2 ^ 52 + f) = x2 at *
  generalize Ieee.double.word false (1075 * 2 ^ 52 + f) = x3 at *
  generalize 2 ^ 52 + f = m at *
  generalize (e : Int) - k - 1021 = i1 at *
  generalize (e : Int) - k - 1074 = i2 at *
  generalize -p = np at *
  go_enter Tryd.func10, Tryd.ntmps10
  go_wp2_with (first
    | (go_at_call 30; (with_reducible refine (F.out _).mono ?_); rintro e w1 ⟨rfl, rfl⟩)
    | (go_at_call 23; (with_reducible refine (AB.out _).mono ?_); rintro e w1 ⟨rfl, rfl⟩)
    | (go_at_call 32; (with_reducible refine (FX.out _).mono ?_); rintro e w1 ⟨rfl, rfl⟩)
    | (go_at_call 29; (with_reducible refine (LD.out _).mono ?_); rintro e w1 ⟨rfl, rfl⟩)
    | (go_at_call 33; (with_reducible refine (TZ.out _ b0).mono ?_); rintro e w1 ⟨rfl, rfl⟩)
    | (go_at_call 34; (with_reducible refine (SH1.out).mono ?_); rintro e w2 ⟨A2, c2, rfl, s2, hb⟩; have g2 := bl_one hb; have b2 := bl_trans b0 g2; have X2 := hide (X.out.next g2); clear hb g2)
    | (go_at_call 34; (with_reducible refine (SH2.out _).mono ?_); rintro e w3 ⟨A3, c3, rfl, s3, hb⟩; have g3 := bl_one hb; have b3 := bl_trans b2 g3; have s2 := kp' g3 s2; have X3 := hide (X2.out.next g3); clear hb g3; obtain ⟨z1, z2, z3, z4, z5, z6⟩ := X3.out))
  refine bodyPost_ret (v := .tuple #[.agg #[.bool s, .slice A2 (ln n) c2, .slice A3 (ln d) c3], .bool true]) (by simp [results, Tryd.results10, go_sem, z1, z2, z3]) rfl (RQB.mk Q.out.2.2 Q.out.1 Q.out.2.1 (s2.over3 X3.out _ _ _) (s3.over3 X3.out _ _ _) (Below.over3 b3 (Nat.le_refl _) _ _ _))
theorem back_zero (s : Bool) (w : World) : Calls Tryd.prog 10 #[.float .f64 (Ieee.double.word s 0)] w (RQB w (rq s 0)) := by
  have F := hide (finite_w s 0 (by decide) true (by decide))
  have o1 := w_iszero s
  have O := hide (fun (W : World) => of_pos 0 1 0 W (by decide) (by decide) (by decide) (by decide) (by decide) (by decide))
  have X := hide (Q3.new (.bool false) (.slice none 0 0) (.slice none 0 0) w)
  have b0 : Below w.heap.size w (w.alloc (.cells #[.bool false, .slice none 0 0, .slice none 0 0] 24)) := bl_al (.refl _ _) _
  rw [rq_zero]
  generalize (0 : Rat) = q at *
  generalize Ieee.double.word s 0 = x at *
  go_enter Tryd.func10, Tryd.ntmps10
  go_wp2_with (first
    | (go_at_call 30; (with_reducible refine (F.out _).mono ?_); rintro e w1 ⟨rfl, rfl⟩)
    | (go_at_call 31; (with_reducible refine (O.out _).mono ?_); rintro e w3 ⟨A2, c2, A3, c3, rfl, s2, s3, hb⟩; have b3 := bl_trans b0 hb; have X3 := hide (X.out.next hb); clear hb; obtain ⟨z1, z2, z3, z4, z5, z6⟩ := X3.out))
  refine bodyPost_ret (v := .tuple #[.agg #[.bool (qs q), .slice A2 (ln (qn q)) c2, .slice A3 (ln (qd q)) c3], .bool true]) (by simp [results, Tryd.results10, go_sem, z1, z2, z3]) rfl (RQB.mk rfl rfl rfl (s2.over3 X3.out _ _ _) (s3.over3 X3.out _ _ _) (Below.over3 b3 (Nat.le_refl _) _ _ _))
theorem back_f (s : Bool) (r : Nat) (hr : r < 2047 * 2 ^ 52) (w : World) (T : DeB w) : Calls Tryd.prog 10 #[.float .f64 (Ieee.double.word s r)] w (RQB w (rq s r)) := by
  by_cases h0 : r = 0
  · subst h0; exact back_zero s w
  · exact back_pos s r (by omega) hr w T
/-- Of what is no number: nothing. -/
theorem back_no (x : Nat) (h : ∀ w, Calls Tryd.prog 30 #[.float .f64 x] w fun e w' => e = .returned (.bool false) ∧ w = w') (w : World) :
    Calls Tryd.prog 10 #[.float .f64 x] w fun e w' => e = .returned (.tuple #[.agg #[.bool false, .slice none 0 0, .slice none 0 0], .bool false]) ∧ Below w.heap.size w w' := by
  have F := hide h
  have X := hide (Q3.new (.bool false) (.slice none 0 0) (.slice none 0 0) w)
  have b0 : Below w.heap.size w (w.alloc (.cells #[.bool false, .slice none 0 0, .slice none 0 0] 24)) := bl_al (.refl _ _) _
  clear h
  go_enter Tryd.func10, Tryd.ntmps10
  go_wp2_with (go_at_call 30; (with_reducible refine (F.out _).mono ?_); rintro e w1 ⟨rfl, rfl⟩; obtain ⟨z1, z2, z3, z4, z5, z6⟩ := X.out)
  exact bodyPost_ret (v := .tuple #[.agg #[.bool false, .slice none 0 0, .slice none 0 0], .bool false]) (by simp [results, Tryd.results10, go_sem, z1, z2, z3]) rfl ⟨rfl, b0⟩
theorem ln_pow (k : Nat) (hk : k ≤ 6000) : ln (2 ^ k) ≤ 1000 := by
  have := ln_up 1 k (by rw [ln_one]; decide) hk
  rwa [Nat.one_mul] at this
theorem rshift_z (A : Option Addr) (c x n : Nat) (i : Int) (hi : (n : Int) = i) (z : Nat) (hz : x * 2 ^ n = z) (w : World) (sx : Sl w A (digs x)) (hx : ln x ≤ 1000) (hn : n ≤ 10000) :
    Calls Tryd.prog 38 #[.slice A (ln x) c, .int .i64 i] w (Rd w z) := by
  subst hi
  have h := rshift_up A c n (digs x) w sx (limbs_digs _) (Nat.le_trans hx (by decide)) (by omega)
  rw [val_digs, hz] at h
  exact h.mono fun _ _ k => k.rd rfl
theorem ii_geq (t : TypeId) (x y : Int) (b : Bool) (h : decide (y ≤ x) = b) : binOp .geq t (.int .i64 x) (.int .i64 y) = pure (.bool b) := by rw [← h]; rfl
set_option maxRecDepth 100000 in
set_option maxHeartbeats 1000000 in
theorem rback_pos (s : Bool) (r : Nat) (h0 : 0 < r) (hr : r < 2047 * 2 ^ 52) (w : World) :
    Calls Tryd.prog 11 #[.float .f64 (Ieee.double.word s r)] w (RQB w (rq s r)) := by
  obtain ⟨y, k, hL⟩ := lifts_any h0 hr
  obtain ⟨-, -, hy0, hy1, hk, -⟩ := hL.facts
  obtain ⟨e, f, hf, hy⟩ := rung_split y (by omega)
  obtain ⟨p, hp⟩ : ∃ p : Int, (e : Int) - k - 1074 = p := ⟨_, rfl⟩
  have HQ := back_ref s hL hy hf p hp
  have N0 := hide (isnan_f s r (by omega))
  have I0 := hide (isinf0 s r (by omega) false (decide_eq_false (by omega)))
  have o1 := w_nonzero s r h0 (by omega)
  have AB := hide (mabs s r (by omega))
  have FX := hide (frexp2_any false r y k f e hL hy hf _ rfl)
  rw [word_f r] at FX
  have LD := hide (half_ldexp f hf)
  have cv := half_int f hf
  have c1 := ii_sub 3 ((e : Int) - k - 1021) 53 p (by omega) (by omega) (by omega)
  have c4 := w_below0 s r h0 (by omega)
  have ON := hide rone_z
  have X := hide (Q3.new (.bool false) (.slice none 0 0) (.slice none 0 0) w)
  have b0 : Below w.heap.size w ((w.alloc (.cells #[.bool false, .slice none 0 0, .slice none 0 0] 24)).alloc (.cells #[.int .u64 ((2 ^ 52 + f : Nat) : Int)] 54)) := bl_al (bl_al (.refl _ _) _) _
  have d1 : digs (2 ^ 52 + f) = [2 ^ 52 + f] := digs1 (by omega) (by omega)
  have l1 : ln (2 ^ 52 + f) = 1 := by unfold ln; rw [d1]; rfl
  have X0 := hide (X.out.al (.cells #[.int .u64 ((2 ^ 52 + f : Nat) : Int)] 54))
  have S0 : Hid (Sl ((w.alloc (.cells #[.bool false, .slice none 0 0, .slice none 0 0] 24)).alloc (.cells #[.int .u64 ((2 ^ 52 + f : Nat) : Int)] 54)) (some ⟨w.heap.size + 1, 0, none⟩) (digs (2 ^ 52 + f))) := hide (by rw [d1]; exact litSl _ _ _ rfl (size1 _ _))
  by_cases hp0 : 0 ≤ p
  · have c5 := ii_geq 3 p 0 true (decide_eq_true hp0)
    obtain ⟨n, hn⟩ : ∃ n, (2 ^ 52 + f) * 2 ^ p.toNat = n := ⟨_, rfl⟩
    have hnl : ln n ≤ 1000 := by rw [← hn]; exact ln_up _ _ (by rw [l1]; decide) (by omega)
    rw [hn, show (-p).toNat = 0 by omega, Nat.pow_zero] at HQ
    have SH := hide (fun (W : World) sx => rshift_z (some ⟨w.heap.size + 1, 0, none⟩) 1 (2 ^ 52 + f) p.toNat p (by omega) n hn W sx (by rw [l1]; decide) (by omega))
    rw [l1] at SH
    have MD := hide (fun (A B : Option Addr) c d (W : World) sx sy => rmade_q s A B c d n 1 (rq s r) W sx sy hnl (by rw [ln_one]; decide) (by decide) HQ)
    clear h0 hr hL hy0 hy1 hk hy hf hp hp0 HQ hn hnl d1 l1
    generalize rq s r = q at *
    generalize Ieee.double.word s r = x at *
    generalize Ieee.double.word false (1022 * 2 ^ 52 + f) = x2 at *
    generalize Ieee.double.word false (1075 * 2 ^ 52 + f) = x3 at *
    generalize 2 ^ 52 + f = m at *
    generalize (e : Int) - k - 1021 = i1 at *
    go_enter Tryd.func11, Tryd.ntmps11
    go_wp2_with (first
      | (go_at_call 35; (with_reducible refine (N0.out _).mono ?_); rintro e w1 ⟨rfl, rfl⟩)
      | (go_at_call 36; (with_reducible refine (I0.out _).mono ?_); rintro e w1 ⟨rfl, rfl⟩)
      | (go_at_call 23; (with_reducible refine (AB.out _).mono ?_); rintro e w1 ⟨rfl, rfl⟩)
      | (go_at_call 32; (with_reducible refine (FX.out _).mono ?_); rintro e w1 ⟨rfl, rfl⟩)
      | (go_at_call 29; (with_reducible refine (LD.out _).mono ?_); rintro e w1 ⟨rfl, rfl⟩)
      | (go_at_call 38; (with_reducible refine (SH.out _ S0.out).mono ?_); rintro e w2 ⟨A2, c2, rfl, s2, hb⟩; have b2 := bl_trans b0 hb; have X2 := hide (X0.out.next hb); clear hb)
      | (go_at_call 39; (with_reducible refine (ON.out _).mono ?_); rintro e w3 ⟨A3, c3, rfl, s3, hb⟩; have b3 := bl_trans b2 hb; have X3 := hide (X2.out.next hb); have s2 := kp' hb s2; clear hb)
      | (go_at_call 37; (with_reducible refine (MD.out A2 A3 c2 c3 _ s2 s3).mono ?_); rintro e w4 ⟨A4, c4, B4, d4, rfl, s4, t4, hb⟩; have b4 := bl_trans b3 hb; have X4 := hide (X3.out.next hb); clear hb; obtain ⟨z1, z2, z3, z4, z5, z6⟩ := X4.out))
    refine bodyPost_ret (v := .tuple #[.agg #[.bool (qs q), .slice A4 (ln (qn q)) c4, .slice B4 (ln (qd q)) d4], .bool true]) (by simp [results, Tryd.results11, go_sem, z1, z2, z3]) rfl (RQB.mk rfl rfl rfl (s4.over3 X4.out _ _ _) (t4.over3 X4.out _ _ _) (Below.over3 b4 (Nat.le_refl _) _ _ _))
  · have c5 := ii_geq 3 p 0 false (decide_eq_false hp0)
    have c6 := ii_neg p (-p) rfl (by omega) (by omega)
    obtain ⟨d, hd⟩ : ∃ d, 2 ^ (-p).toNat = d := ⟨_, rfl⟩
    have hdl : ln d ≤ 1000 := by rw [← hd]; exact ln_pow _ (by omega)
    have hd0 : 0 < d := by rw [← hd]; exact Nat.two_pow_pos _
    rw [hd, show p.toNat = 0 by omega, Nat.pow_zero, Nat.mul_one] at HQ
    have SH := hide (fun (A : Option Addr) c (W : World) sx => rshift_z A c 1 (-p).toNat (-p) (by omega) d (by rw [Nat.one_mul]; exact hd) W sx (by rw [ln_one]; decide) (by omega))
    have MD := hide (fun (B : Option Addr) d' (W : World) sx sy => rmade_q s (some ⟨w.heap.size + 1, 0, none⟩) B 1 d' (2 ^ 52 + f) d (rq s r) W sx sy (by rw [l1]; decide) hdl hd0 HQ)
    rw [l1] at MD
    clear h0 hr hL hy0 hy1 hk hy hf hp hp0 HQ hd hdl hd0 d1 l1
    generalize rq s r = q at *
    generalize Ieee.double.word s r = x at *
    generalize Ieee.double.word false (1022 * 2 ^ 52 + f) = x2 at *
    generalize Ieee.double.word false (1075 * 2 ^ 52 + f) = x3 at *
    generalize 2 ^ 52 + f = m at *
    generalize (e : Int) - k - 1021 = i1 at *
    generalize -p = np at *
    go_enter Tryd.func11, Tryd.ntmps11
    go_wp2_with (first
      | (go_at_call 35; (with_reducible refine (N0.out _).mono ?_); rintro e w1 ⟨rfl, rfl⟩)
      | (go_at_call 36; (with_reducible refine (I0.out _).mono ?_); rintro e w1 ⟨rfl, rfl⟩)
      | (go_at_call 23; (with_reducible refine (AB.out _).mono ?_); rintro e w1 ⟨rfl, rfl⟩)
      | (go_at_call 32; (with_reducible refine (FX.out _).mono ?_); rintro e w1 ⟨rfl, rfl⟩)
      | (go_at_call 29; (with_reducible refine (LD.out _).mono ?_); rintro e w1 ⟨rfl, rfl⟩)
      | (go_at_call 39; (with_reducible refine (ON.out _).mono ?_); rintro e w2 ⟨A2, c2, rfl, s2, hb⟩; have b2 := bl_trans b0 hb; have X2 := hide (X0.out.next hb); have S2 := hide (kp' hb S0.out); clear hb)
      | (go_at_call 38; (with_reducible refine (SH.out A2 c2 _ s2).mono ?_); rintro e w3 ⟨A3, c3, rfl, s3, hb⟩; have b3 := bl_trans b2 hb; have X3 := hide (X2.out.next hb); have S3 := hide (kp' hb S2.out); clear hb)
      | (go_at_call 37; (with_reducible refine (MD.out A3 c3 _ S3.out s3).mono ?_); rintro e w4 ⟨A4, c4, B4, d4, rfl, s4, t4, hb⟩; have b4 := bl_trans b3 hb; have X4 := hide (X3.out.next hb); clear hb; obtain ⟨z1, z2, z3, z4, z5, z6⟩ := X4.out))
    refine bodyPost_ret (v := .tuple #[.agg #[.bool (qs q), .slice A4 (ln (qn q)) c4, .slice B4 (ln (qd q)) d4], .bool true]) (by simp [results, Tryd.results11, go_sem, z1, z2, z3]) rfl (RQB.mk rfl rfl rfl (s4.over3 X4.out _ _ _) (t4.over3 X4.out _ _ _) (Below.over3 b4 (Nat.le_refl _) _ _ _))
theorem rback_zero (s : Bool) (w : World) : Calls Tryd.prog 11 #[.float .f64 (Ieee.double.word s 0)] w (RQB w (rq s 0)) := by
  have N0 := hide (isnan_f s 0 (by decide))
  have I0 := hide (isinf0 s 0 (by decide) false (by decide))
  have o1 := w_iszero s
  have O := hide (fun (W : World) => rof_k 0 1 0 W (by decide) (by decide) (by decide) (by decide) (by decide) (by decide))
  have X := hide (Q3.new (.bool false) (.slice none 0 0) (.slice none 0 0) w)
  have b0 : Below w.heap.size w (w.alloc (.cells #[.bool false, .slice none 0 0, .slice none 0 0] 24)) := bl_al (.refl _ _) _
  rw [rq_zero]
  generalize (0 : Rat) = q at *
  generalize Ieee.double.word s 0 = x at *
  go_enter Tryd.func11, Tryd.ntmps11
  go_wp2_with (first
    | (go_at_call 35; (with_reducible refine (N0.out _).mono ?_); rintro e w1 ⟨rfl, rfl⟩)
    | (go_at_call 36; (with_reducible refine (I0.out _).mono ?_); rintro e w1 ⟨rfl, rfl⟩)
    | (go_at_call 28; (with_reducible refine (O.out _).mono ?_); rintro e w3 ⟨A2, c2, A3, c3, rfl, s2, s3, hb⟩; have b3 := bl_trans b0 hb; have X3 := hide (X.out.next hb); clear hb; obtain ⟨z1, z2, z3, z4, z5, z6⟩ := X3.out))
  refine bodyPost_ret (v := .tuple #[.agg #[.bool (qs q), .slice A2 (ln (qn q)) c2, .slice A3 (ln (qd q)) c3], .bool true]) (by simp [results, Tryd.results11, go_sem, z1, z2, z3]) rfl (RQB.mk rfl rfl rfl (s2.over3 X3.out _ _ _) (s3.over3 X3.out _ _ _) (Below.over3 b3 (Nat.le_refl _) _ _ _))
theorem rback_f (s : Bool) (r : Nat) (hr : r < 2047 * 2 ^ 52) (w : World) : Calls Tryd.prog 11 #[.float .f64 (Ieee.double.word s r)] w (RQB w (rq s r)) := by
  by_cases h0 : r = 0
  · subst h0; exact rback_zero s w
  · exact rback_pos s r (by omega) hr w
theorem rback_nan (x : Nat) (h : (Ieee.double.order x x != some .eq) = true) (w : World) :
    Calls Tryd.prog 11 #[.float .f64 x] w fun e w' => e = .returned (.tuple #[.agg #[.bool false, .slice none 0 0, .slice none 0 0], .bool false]) ∧ Below w.heap.size w w' := by
  have N0 := hide (isnan_any x true h)
  have X := hide (Q3.new (.bool false) (.slice none 0 0) (.slice none 0 0) w)
  have b0 : Below w.heap.size w (w.alloc (.cells #[.bool false, .slice none 0 0, .slice none 0 0] 24)) := bl_al (.refl _ _) _
  clear h
  go_enter Tryd.func11, Tryd.ntmps11
  go_wp2_with (go_at_call 35; (with_reducible refine (N0.out _).mono ?_); rintro e w1 ⟨rfl, rfl⟩; obtain ⟨z1, z2, z3, z4, z5, z6⟩ := X.out)
  exact bodyPost_ret (v := .tuple #[.agg #[.bool false, .slice none 0 0, .slice none 0 0], .bool false]) (by simp [results, Tryd.results11, go_sem, z1, z2, z3]) rfl ⟨rfl, b0⟩
theorem rback_inf (s : Bool) (w : World) :
    Calls Tryd.prog 11 #[.float .f64 (Ieee.double.word s (2047 * 2 ^ 52))] w fun e w' => e = .returned (.tuple #[.agg #[.bool false, .slice none 0 0, .slice none 0 0], .bool false]) ∧ Below w.heap.size w w' := by
  have N0 := hide (isnan_f s (2047 * 2 ^ 52) (by decide))
  have I0 := hide (isinf0 s (2047 * 2 ^ 52) (by decide) true (by decide))
  have X := hide (Q3.new (.bool false) (.slice none 0 0) (.slice none 0 0) w)
  have b0 : Below w.heap.size w (w.alloc (.cells #[.bool false, .slice none 0 0, .slice none 0 0] 24)) := bl_al (.refl _ _) _
  generalize Ieee.double.word s (2047 * 2 ^ 52) = x at *
  go_enter Tryd.func11, Tryd.ntmps11
  go_wp2_with (first
    | (go_at_call 35; (with_reducible refine (N0.out _).mono ?_); rintro e w1 ⟨rfl, rfl⟩)
    | (go_at_call 36; (with_reducible refine (I0.out _).mono ?_); rintro e w1 ⟨rfl, rfl⟩; obtain ⟨z1, z2, z3, z4, z5, z6⟩ := X.out))
  exact bodyPost_ret (v := .tuple #[.agg #[.bool false, .slice none 0 0, .slice none 0 0], .bool false]) (by simp [results, Tryd.results11, go_sem, z1, z2, z3]) rfl ⟨rfl, b0⟩
end Nt
end Go.Proofs.YtgmjdaallinicaaDoor
namespace Go.Proofs.YtgmjdaallinicaaDoor
open Go.RowKit
namespace Nt

theorem twice_mod (X Y : Nat) (hY : 0 < Y) : X % (Y * 2) = 0 ↔ X % Y = 0 ∧ X / Y % 2 = 0 := by
  rw [Nat.mod_mul]
  constructor
  · intro h
    have h1 : Y * (X / Y % 2) = 0 := by omega
    refine ⟨by omega, ?_⟩
    rcases Nat.mul_eq_zero.1 h1 with h2 | h2
    · omega
    · exact h2
  · rintro ⟨h1, h2⟩
    rw [h1, h2, Nat.mul_zero]
theorem second_round (n d : Nat) (d0 : 0 < d) (sh : Int) :
    n * 2 ^ (sh - 1).toNat / (d * 2 ^ (-(sh - 1)).toNat) = n * 2 ^ sh.toNat / (d * 2 ^ (-sh).toNat) / 2
    ∧ (n * 2 ^ (sh - 1).toNat % (d * 2 ^ (-(sh - 1)).toNat) = 0 ↔ n * 2 ^ sh.toNat % (d * 2 ^ (-sh).toNat) = 0 ∧ n * 2 ^ sh.toNat / (d * 2 ^ (-sh).toNat) % 2 = 0) := by
  by_cases h : 1 ≤ sh
  · rw [show (-(sh - 1)).toNat = 0 by omega, show (-sh).toNat = 0 by omega, show sh.toNat = (sh - 1).toNat + 1 by omega, Nat.pow_zero, Nat.mul_one, Nat.pow_succ, ← Nat.mul_assoc]
    generalize n * 2 ^ (sh - 1).toNat = M
    rw [Nat.div_div_eq_div_mul, Nat.mul_div_mul_right _ _ (show 0 < 2 by decide), ← twice_mod _ _ d0, Nat.mul_mod_mul_right]
    exact ⟨rfl, by omega⟩
  · rw [show (sh - 1).toNat = 0 by omega, show sh.toNat = 0 by omega, show (-(sh - 1)).toNat = (-sh).toNat + 1 by omega, Nat.pow_zero, Nat.mul_one, Nat.pow_succ, ← Nat.mul_assoc]
    have hD : 0 < d * 2 ^ (-sh).toNat := Nat.mul_pos d0 (Nat.two_pow_pos _)
    generalize d * 2 ^ (-sh).toNat = M at *
    rw [Nat.div_div_eq_div_mul]
    exact ⟨rfl, twice_mod _ _ hD⟩
/-- Too great: by its digits. -/
theorem ov_bits {n d z : Nat} {x : Bool} {sh g : Int} {N D q r sz y : Nat} (S : SzF n d z x sh g N D q r sz y) (n0 : 0 < n) (hn : ln n ≤ 64) (d0 : 0 < d) (hf : Fl n d z) : decide (1024 < ((blen sz : Nat) : Int) + -g) = decide (2047 * 2 ^ 52 ≤ z) := by
  have b1 := blen_ln hn
  have bn := blen_lo (n := n) (by omega)
  have bd := blen_lo (n := d) (by omega)
  obtain ⟨q54, z', sz', t, x', T⟩ := size_math n d (blen n) (blen d) bn.2 (blen_hi n) bd.2 (blen_hi d) bn.1 bd.1 b1 sh S.hsh _ _ q r rfl rfl (by rw [S.hN, S.hD]; exact S.hq) (by rw [S.hN, S.hD]; exact S.hr)
  obtain rfl := hf.one T.fl
  have e1 : sz' = sz := by rw [T.hsz, S.hsz]
  have e2 : (1074 : Int) - t = g := by rw [T.hg, S.hg]
  have hz := T.hz
  have hl := T.lt
  have hf := T.full
  rw [e1] at hz hl hf
  refine decide_eq_decide.2 ?_
  have k1 : blen sz ≤ 53 := blen_le_iff.2 hl
  by_cases ht : t = 0
  · subst ht
    omega
  · have k2 : ¬ blen sz ≤ 52 := fun h => by
      have := blen_le_iff.1 h
      omega
    omega
theorem round_fact {n d z : Nat} {x : Bool} {sh g : Int} {N D q r sz y : Nat} (S : SzF n d z x sh g N D q r sz y) (d0 : 0 < d) (E : Int) (hE : E = -sh ∨ (E = -sh + 1 ∧ ¬ q < 2 ^ 53)) :
    ∃ N' D' m' r', n * 2 ^ (-E).toNat = N' ∧ d * 2 ^ E.toNat = D' ∧ 0 < D' ∧ N' / D' = m' ∧ N' % D' = r' ∧ ((E = -sh ∧ 2 ^ 53 ≤ m' ∧ m' < 2 ^ 54 ∧ ¬ q < 2 ^ 53) ∨ (m' = sz ∧ sz < 2 ^ 53 ∧ E = -g ∧ decide (r' = 0) = x)) := by
  have dp := S.dp
  have hsz := S.hsz
  have hg := S.hg
  have q54 := S.q54
  have ex := S.ex
  rcases hE with rfl | ⟨rfl, h⟩
  · refine ⟨N, D, q, r, by rw [Int.neg_neg]; exact S.hN, S.hD, S.dp, S.hq, S.hr, ?_⟩
    by_cases h : q < 2 ^ 53
    · refine .inr ⟨?_, ?_, ?_, ?_⟩
      · rw [hsz, if_pos h]
      · rw [hsz, if_pos h]; exact h
      · rw [hg, if_pos h]
      · rw [ex, decide_eq_true h, Bool.true_or, Bool.and_true]
    · exact .inl ⟨rfl, by omega, q54, h⟩
  · have e1 : (-(-sh + 1)) = sh - 1 := by omega
    have e2 : (-sh + 1) = -(sh - 1) := by omega
    obtain ⟨a1, a2⟩ := second_round n d d0 sh
    rw [S.hN, S.hD] at a1 a2
    rw [S.hq] at a1 a2
    rw [S.hr] at a2
    refine ⟨_, _, _, _, rfl, rfl, Nat.mul_pos d0 (Nat.two_pow_pos _), rfl, rfl, .inr ⟨?_, ?_, ?_, ?_⟩⟩
    · rw [e1, e2, a1, hsz, if_neg h]
    · rw [hsz, if_neg h]; omega
    · rw [hg, if_neg h]; omega
    · rw [e1, e2, ex, decide_eq_false h, Bool.false_or, ← Bool.decide_and]
      exact decide_eq_decide.2 a2
theorem rbits_z (A : Option Addr) (c x : Nat) (b : Int) (hb : ((blen x : Nat) : Int) = b) (w : World) (sx : Sl w A (digs x)) (hx : ln x ≤ 1000) : Calls Tryd.prog 75 #[.slice A (ln x) c] w fun e w' => e = .returned (.int .i64 b) ∧ w = w' := by
  subst hb
  have h := rbits_any A (ln x) c (digs x) w rfl sx (limbs_digs x) (by omega)
  rwa [rbits_val (limbs_digs x) (norm_digs x), val_digs] at h
/-- What stays through the rounds. -/
def Ku (w : World) (u v t : Value) (W : World) : Prop := Below w.heap.size w W ∧ Q3 w.heap.size u v t W
theorem Ku.mk {w W : World} {u v t : Value} (b : Below w.heap.size w W) (q : Q3 w.heap.size u v t W) : Ku w u v t W := ⟨b, q⟩
theorem Ku.next {w W W' : World} {u v t : Value} (k : Ku w u v t W) (hb : Below W.heap.size W W') : Ku w u v t W' := ⟨bl_trans k.1 hb, k.2.next hb⟩
theorem Ku.drewN {w W : World} {u v t : Value} (k : Ku w u v t W) (m : Nat) : Ku w u v t (W.drewN m) := ⟨bl_trans k.1 (bl_q0 rfl), k.2⟩
theorem Ku.b {w W : World} {u v t : Value} (k : Ku w u v t W) : Below w.heap.size w W := k.1
theorem Ku.q {w W : World} {u v t : Value} (k : Ku w u v t W) : Q3 w.heap.size u v t W := k.2
theorem under_zero (s : Bool) (A B : Option Addr) (a d b : Nat) (w : World) : Calls Tryd.prog 42 #[.agg #[.bool s, .slice A 0 a, .slice B d b]] w fun e w' => e = .returned (.tuple #[.float .f64 0, .bool true]) ∧ Below w.heap.size w w' := by
  have b0 : Below w.heap.size w (w.alloc (.cells #[.bool s, .slice A 0 a, .slice B d b] 24)) := bl_al (.refl _ _) _
  go_enter Tryd.func42, Tryd.ntmps42
  go_wp2
  go_ret2
  exact ⟨rfl, b0⟩
set_option maxRecDepth 100000 in
set_option maxHeartbeats 2000000 in
theorem under_pos (s : Bool) (A B : Option Addr) (a b n d z : Nat) (x : Bool) (w : World) (sA : Sl w A (digs n)) (sB : Sl w B (digs d)) (hn : ln n ≤ 64) (hd : ln d ≤ 64) (n0 : 0 < n) (d0 : 0 < d) (hf : Fl n d z) (hx : x = decide (U z * d = n * KU)) :
    Calls Tryd.prog 42 #[.agg #[.bool s, .slice A (ln n) a, .slice B (ln d) b]] w fun e w' => e = .returned (.tuple #[.float .f64 (Ieee.double.word false (loR z)), .bool (x && decide (z < 2047 * 2 ^ 52))]) ∧ Below w.heap.size w w' := by
  obtain ⟨sh, g, N, D, q, r, sz, y, S⟩ := szf_any n d z x hn hd d0 hf hx
  have bl1 := blen_ln hn
  have bl2 := blen_ln hd
  have hsh := S.hsh
  unfold lsh at hsh
  obtain ⟨b1, e1⟩ : ∃ b : Int, ((blen n : Nat) : Int) = b := ⟨_, rfl⟩
  obtain ⟨b2, e2⟩ : ∃ b : Int, ((blen d : Nat) : Int) = b := ⟨_, rfl⟩
  have B1 := hide (fun W (k : Below w.heap.size w W) => rbits_z A a n b1 e1 W (kp' k sA) (by omega))
  have B2 := hide (fun W (k : Below w.heap.size w W) => rbits_z B b d b2 e2 W (kp' k sB) (by omega))
  rw [e1, e2] at hsh
  have r1 : 0 ≤ b1 ∧ b1 ≤ 5000 := by omega
  have r2 : 0 ≤ b2 ∧ b2 ≤ 5000 := by omega
  have rs : -5000 ≤ sh ∧ sh ≤ 1074 := by omega
  obtain ⟨i1, hi1⟩ : ∃ i : Int, b1 - b2 = i := ⟨_, rfl⟩
  obtain ⟨i2, hi2⟩ : ∃ i : Int, i1 - 53 = i := ⟨_, rfl⟩
  have s1 := ii_sub 3 b1 b2 i1 hi1 (by omega) (by omega)
  have s2 := ii_sub 3 i1 53 i2 hi2 (by omega) (by omega)
  have HM := hide (show max i2 (-1074) = -sh by omega)
  have ez : binOp .eql 3 (.int .i64 (ln n : Int)) (.int .i64 0) = pure (.bool false) := by
    have := ln_pos.2 n0
    show pure (Value.bool (decide ((ln n : Int) = 0))) = _
    rw [decide_eq_false (by omega)]
  have X1 := hide (Q3.new (.bool s) (.slice A (ln n) a) (.slice B (ln d) b) w)
  have b0 : Below w.heap.size w (w.alloc (.cells #[.bool s, .slice A (ln n) a, .slice B (ln d) b] 24)) := bl_al (.refl _ _) _
  have SA := hide sA
  have SB := hide sB
  have RS := hide rs
  clear sA sB bl1 bl2 e1 e2 r1 r2 hi1 hi2 rs hsh
  obtain ⟨x1, x2, x3, x4, x5, x6⟩ := X1.out
  have QB1 := hide (fun k => B1.out ((w.alloc (.cells #[.bool s, .slice A (ln n) a, .slice B (ln d) b] 24)).drewN k) (bl_trans b0 (bl_q0 rfl)))
  have QB2 := hide (fun k => B2.out ((w.alloc (.cells #[.bool s, .slice A (ln n) a, .slice B (ln d) b] 24)).drewN k) (bl_trans b0 (bl_q0 rfl)))
  have K0 := hide (fun k => (Ku.mk b0 X1.out).drewN k)
  go_enter Tryd.func42, Tryd.ntmps42
  go_wp2
  go_quiet (first
    | (go_at_call 75; with_reducible exact quiet_left (QB1.out _))
    | (go_at_call 75; with_reducible exact quiet_left (QB2.out _)))
  go_wp2
  clear x1 x2 x3 x4 x5 x6 s1 s2 QB1 QB2 B1 B2 b0
  go_loopw [4, 5, 6, 7, 8] (fun ev _ _ _ _ wr => ∃ E : Int, ev = .int .i64 E ∧ (E = -sh ∨ (E = -sh + 1 ∧ ¬ q < 2 ^ 53)) ∧ Ku w (.bool s) (.slice A (ln n) a) (.slice B (ln d) b) wr) (fun ev _ _ _ _ _ => (1 - (intOf ev + sh)).toNat)
  case atStart => exact ⟨_, rfl, .inl HM.out, K0.out _⟩
  case round =>
    obtain ⟨E, rfl, hE, hK⟩ := hrel
    obtain ⟨N', D', m', r', hN', hD', dp', hm', hr', hcase⟩ := round_fact S d0 E hE
    have KR := hide hK
    have Eb : -1100 ≤ E ∧ E ≤ 5001 := by have := RS.out; omega
    have lN : ln N' ≤ 1000 := by rw [← hN']; exact ln_up n _ hn (by omega)
    have lD : ln D' ≤ 1000 := by rw [← hD']; exact ln_up d _ hd (by omega)
    clear hE hK
    rcases hcase with ⟨hE', hm53, hm54, hq3⟩ | ⟨hm, hs53, hEg, hxr⟩
    · have hb54 : blen m' = 54 := blen_of (b := 53) hm53 hm54
      have l1 : ln m' = 1 := ln_small (by omega) hm54
      clear ez HM K0 X1
      by_cases hp : 0 < E
      · have og := ii_gtr 3 E 0 true (decide_eq_true hp)
        have SH := hide (fun (W : World) (k : Below w.heap.size w W) => rshift_z B b d E.toNat E (by omega) D' hD' W (kp' k SB.out) (by omega) (by have := RS.out; omega))
        have hN2 : n = N' := by rw [← hN', show (-E).toNat = 0 by omega, Nat.pow_zero, Nat.mul_one]
        have DV := hide (fun X e (W : World) (k : Below w.heap.size w W) s2 => rdivmod_cap A X a e N' D' (ln n) (ln D') W (by rw [hN2]; rfl) rfl (by rw [← hN2]; exact kp' k SA.out) s2 (by omega) lD dp')
        rw [hm', hr'] at DV
        have DV : Hid (∀ (X : Option Addr) (e : Nat) (W : World), Below w.heap.size w W → Sl W X (digs D') → Calls Tryd.prog 67 #[.slice A (ln n) a, .slice X (ln D') e] W fun e w' => ∃ A c B d, e = .returned (.tuple #[.slice A (ln m') c, .slice B (ln r') d]) ∧ Sl w' A (digs m') ∧ Sl w' B (digs r') ∧ ln m' ≤ c ∧ Below W.heap.size W w') := hide DV.out
        have BM := hide (fun (X : Option Addr) e (W : World) s2 => rbits_z X e m' 54 (by rw [hb54]; rfl) W s2 (by omega))
        rw [l1] at DV BM
        clear l1 hx hf
        have ol : binOp .leq 3 (.int .i64 54) (.int .i64 53) = pure (.bool false) := rfl
        have oa := ii_add 3 E 1 (E + 1) rfl (by have := RS.out; omega) (by have := RS.out; omega)
        have hE1 := hide hE'
        have hq3 := hide hq3
        clear hN' hD' hm' hr' dp' lN lD hb54 hp hE' hm53 hm54 hN2
        obtain ⟨x1, x2, x3, x4, x5, x6⟩ := KR.out.q
        have KQ := hide (fun k => KR.out.drewN k)
        go_wp2
        go_quiet (fail)
        go_wp2_with (first
          | (go_at_call 38; (with_reducible refine (SH.out _ (KQ.out _).b).mono ?_); rintro e w2 ⟨A2, c2, rfl, s2, hb⟩; have KB := hide ((KQ.out _).next hb); clear hb)
          | (go_at_call 67; (with_reducible refine (DV.out A2 c2 _ KB.out.b s2).mono ?_); rintro e w3 ⟨A3, c3, B3, d3, rfl, s3, t3, _, hb⟩; have KC := hide (KB.out.next hb); clear hb s2)
          | (go_at_call 75; (with_reducible refine (BM.out _ _ _ s3).mono ?_); rintro e w4 ⟨rfl, rfl⟩))
        go_roundw
        case rel => exact ⟨_, rfl, .inr ⟨by rw [hE1.out], hq3.out⟩, KC.out⟩
        case measure => simp [intOf]; have := hE1.out; omega
      · have og := ii_gtr 3 E 0 false (decide_eq_false hp)
        have on := ii_neg E (-E) rfl (by have := RS.out; omega) (by have := RS.out; omega)
        have SH := hide (fun (W : World) (k : Below w.heap.size w W) => rshift_z A a n (-E).toNat (-E) (by omega) N' hN' W (kp' k SA.out) (by omega) (by have := RS.out; omega))
        have hD2 : d = D' := by rw [← hD', show E.toNat = 0 by omega, Nat.pow_zero, Nat.mul_one]
        have DV := hide (fun X e (W : World) (k : Below w.heap.size w W) s2 => rdivmod_cap X B e b N' D' (ln N') (ln d) W rfl (by rw [hD2]; rfl) s2 (by rw [← hD2]; exact kp' k SB.out) lN (by omega) dp')
        rw [hm', hr'] at DV
        have DV : Hid (∀ (X : Option Addr) (e : Nat) (W : World), Below w.heap.size w W → Sl W X (digs N') → Calls Tryd.prog 67 #[.slice X (ln N') e, .slice B (ln d) b] W fun e w' => ∃ A c B d, e = .returned (.tuple #[.slice A (ln m') c, .slice B (ln r') d]) ∧ Sl w' A (digs m') ∧ Sl w' B (digs r') ∧ ln m' ≤ c ∧ Below W.heap.size W w') := hide DV.out
        have BM := hide (fun (X : Option Addr) e (W : World) s2 => rbits_z X e m' 54 (by rw [hb54]; rfl) W s2 (by omega))
        rw [l1] at DV BM
        clear l1 hx hf
        have ol : binOp .leq 3 (.int .i64 54) (.int .i64 53) = pure (.bool false) := rfl
        have oa := ii_add 3 E 1 (E + 1) rfl (by have := RS.out; omega) (by have := RS.out; omega)
        have hE1 := hide hE'
        have hq3 := hide hq3
        clear hN' hD' hm' hr' dp' lN lD hb54 hp hE' hm53 hm54 hD2
        obtain ⟨x1, x2, x3, x4, x5, x6⟩ := KR.out.q
        have KQ := hide (fun k => KR.out.drewN k)
        go_wp2
        go_quiet (fail)
        go_wp2_with (first
          | (go_at_call 38; (with_reducible refine (SH.out _ (KQ.out _).b).mono ?_); rintro e w2 ⟨A2, c2, rfl, s2, hb⟩; have KB := hide ((KQ.out _).next hb); clear hb)
          | (go_at_call 67; (with_reducible refine (DV.out A2 c2 _ KB.out.b s2).mono ?_); rintro e w3 ⟨A3, c3, B3, d3, rfl, s3, t3, _, hb⟩; have KC := hide (KB.out.next hb); clear hb s2)
          | (go_at_call 75; (with_reducible refine (BM.out _ _ _ s3).mono ?_); rintro e w4 ⟨rfl, rfl⟩))
        go_roundw
        case rel => exact ⟨_, rfl, .inr ⟨by rw [hE1.out], hq3.out⟩, KC.out⟩
        case measure => simp [intOf]; have := hE1.out; omega
    · obtain ⟨za, zb, hz1, hz2⟩ := S.hz
      obtain ⟨bm, hbm⟩ : ∃ b : Int, ((blen m' : Nat) : Int) = b := ⟨_, rfl⟩
      have hbm53 : 0 ≤ bm ∧ bm ≤ 53 := by have := blen_le_iff.2 (show m' < 2 ^ 53 by omega); omega
      obtain ⟨ov, hov'⟩ : ∃ b, decide (2047 * 2 ^ 52 ≤ z) = b := ⟨_, rfl⟩
      have hov : decide (1024 < bm + E) = ov := by rw [← hov', ← ov_bits S n0 hn d0 hf, ← hbm, hm, hEg]
      have cv := run_conv_uf sz y S.ylt S.hy
      have LD := hide (ldexp_any false y z za zb E S.ylt (by omega) hz2 (by omega) (by omega))
      have E1 : Hid (ov = true → Ieee.double.word false (loR z) = 9218868437227405311 ∧ (x && decide (z < 2047 * 2 ^ 52)) = false) := hide fun h => by
        have h1 := of_decide_eq_true (hov'.trans h)
        rw [loR_big h1, decide_eq_false (by omega), Bool.and_false]
        exact ⟨w_top, rfl⟩
      have E2 : Hid (ov = false → Ieee.double.word false (loR z) = Ieee.double.word false (min z (2047 * 2 ^ 52)) ∧ (x && decide (z < 2047 * 2 ^ 52)) = x) := hide fun h => by
        have h1 := Nat.lt_of_not_le (of_decide_eq_false (hov'.trans h))
        rw [loR_of h1, decide_eq_true h1, Bool.and_true, Nat.min_eq_left (Nat.le_of_lt h1)]
        exact ⟨rfl, rfl⟩
      have er : binOp .eql 3 (.int .i64 (ln r' : Int)) (.int .i64 0) = pure (.bool x) := by
        show pure (Value.bool (decide ((ln r' : Int) = 0))) = _
        rw [← hxr]; congr 2; refine decide_eq_decide.2 ?_; rw [← ln_eq_zero (n := r')]; omega
      have lm : ln m' ≤ 1000 := by
        by_cases h : m' = 0
        · rw [h, ln_zero]; decide
        · rw [ln_small (by omega) (by omega)]; decide
      subst hm
      clear ez HM K0 X1 hz1 hz2 hov' hEg hxr hx hf
      generalize Ieee.double.word false y = y1 at *
      generalize Ieee.double.word false (min z (2047 * 2 ^ 52)) = low at *
      by_cases hp : 0 < E
      · have og := ii_gtr 3 E 0 true (decide_eq_true hp)
        have SH := hide (fun (W : World) (k : Below w.heap.size w W) => rshift_z B b d E.toNat E (by omega) D' hD' W (kp' k SB.out) (by omega) (by have := RS.out; omega))
        have hN2 : n = N' := by rw [← hN', show (-E).toNat = 0 by omega, Nat.pow_zero, Nat.mul_one]
        have DV := hide (fun X e (W : World) (k : Below w.heap.size w W) s2 => rdivmod_cap A X a e N' D' (ln n) (ln D') W (by rw [hN2]; rfl) rfl (by rw [← hN2]; exact kp' k SA.out) s2 (by omega) lD dp')
        rw [hm', hr'] at DV
        have DV : Hid (∀ (X : Option Addr) (e : Nat) (W : World), Below w.heap.size w W → Sl W X (digs D') → Calls Tryd.prog 67 #[.slice A (ln n) a, .slice X (ln D') e] W fun e w' => ∃ A c B d, e = .returned (.tuple #[.slice A (ln m') c, .slice B (ln r') d]) ∧ Sl w' A (digs m') ∧ Sl w' B (digs r') ∧ ln m' ≤ c ∧ Below W.heap.size W w') := hide DV.out
        have BM := hide (fun (X : Option Addr) e (W : World) s2 => rbits_z X e m' bm hbm W s2 (by omega))
        have ol : binOp .leq 3 (.int .i64 bm) (.int .i64 53) = pure (.bool true) := by
          show pure (Value.bool (decide (bm ≤ 53))) = _
          rw [decide_eq_true (by omega)]
        have oa := ii_add 3 bm E (bm + E) rfl (by have := RS.out; omega) (by have := RS.out; omega)
        have oo := ii_gtr 3 (bm + E) 1024 ov hov
        clear hN' hD' hr' dp' lN lD hbm hp hov hbm53 hN2
        obtain ⟨x1, x2, x3, x4, x5, x6⟩ := KR.out.q
        have KQ := hide (fun k => KR.out.drewN k)
        cases ov with
        | true =>
          have LE := hide (show Ending.returned (.tuple #[.float .f64 9218868437227405311, .bool false]) = Ending.returned (.tuple #[.float .f64 (Ieee.double.word false (loR z)), .bool (x && decide (z < 2047 * 2 ^ 52))]) by rw [(E1.out rfl).1, (E1.out rfl).2])
          clear E1 E2
          go_wp2
          go_quiet (fail)
          go_wp2_with (first
            | (go_at_call 38; (with_reducible refine (SH.out _ (KQ.out _).b).mono ?_); rintro e w2 ⟨A2, c2, rfl, s2, hb⟩; have KB := hide ((KQ.out _).next hb); clear hb)
            | (go_at_call 67; (with_reducible refine (DV.out A2 c2 _ KB.out.b s2).mono ?_); rintro e w3 ⟨A3, c3, B3, d3, rfl, s3, t3, _, hb⟩; have KC := hide (KB.out.next hb); clear hb s2)
            | (go_at_call 75; (with_reducible refine (BM.out _ _ _ s3).mono ?_); rintro e w4 ⟨rfl, rfl⟩))
          go_ret2
          exact ⟨LE.out, KC.out.b⟩
        | false =>
          have LE := hide (show Ending.returned (.tuple #[.float .f64 low, .bool x]) = Ending.returned (.tuple #[.float .f64 (Ieee.double.word false (loR z)), .bool (x && decide (z < 2047 * 2 ^ 52))]) by rw [(E2.out rfl).1, (E2.out rfl).2])
          clear E1 E2
          by_cases m0 : m' = 0
          · subst m0
            have cv : ∀ W : World, (convert 54 25 (.int .u64 0)).run Tryd.prog W = .ok (.float .f64 y1) W := cv
            rw [ln_zero] at DV BM
            go_wp2
            go_quiet (fail)
            go_wp2_with (first
              | (go_at_call 38; (with_reducible refine (SH.out _ (KQ.out _).b).mono ?_); rintro e w2 ⟨A2, c2, rfl, s2, hb⟩; have KB := hide ((KQ.out _).next hb); clear hb)
              | (go_at_call 67; (with_reducible refine (DV.out A2 c2 _ KB.out.b s2).mono ?_); rintro e w3 ⟨A3, c3, B3, d3, rfl, s3, t3, _, hb⟩; have KC := hide (KB.out.next hb); clear hb s2)
              | (go_at_call 75; (with_reducible refine (BM.out _ _ _ s3).mono ?_); rintro e w4 ⟨rfl, rfl⟩)
              | (go_at_call 29; (with_reducible refine (LD.out _).mono ?_); rintro e v1 ⟨rfl, rfl⟩))
            go_ret2
            exact ⟨LE.out, KC.out.b⟩
          · have g1 : ln m' = 1 := ln_small (by omega) (by omega)
            have g2 : digs m' = [m'] := digs_small (by omega) (by omega)
            rw [g1, g2] at DV BM
            clear g1 g2 m0
            have m1 : Hid (∀ (W W' : World) (X : Option Addr), Sl W X [m'] → Below W.heap.size W W' → ∃ b o, X = some ⟨b, o, none⟩ ∧ W'.cell? ⟨b, o, none⟩ = some (.int .u64 (m' : Int))) := hide fun W W' X h k => by
              obtain ⟨b, o, rfl, ha⟩ := h.at_ (Nat.zero_lt_one)
              exact ⟨b, o, rfl, cell_next k (ha.cell (j := 0) (Nat.zero_lt_one))⟩
            go_wp2
            go_quiet (fail)
            go_wp2_with (first
              | (go_at_call 38; (with_reducible refine (SH.out _ (KQ.out _).b).mono ?_); rintro e w2 ⟨A2, c2, rfl, s2, hb⟩; have KB := hide ((KQ.out _).next hb); clear hb)
              | (go_at_call 67; (with_reducible refine (DV.out A2 c2 _ KB.out.b s2).mono ?_); rintro e w3 ⟨A3, c3, B3, d3, rfl, s3, t3, _, hb⟩; have KC := hide (KB.out.next hb); clear hb s2)
              | (go_at_call 75; (with_reducible refine (BM.out _ _ _ s3).mono ?_); rintro e w4 ⟨rfl, rfl⟩; (try obtain ⟨bb, oo1, rfl, hcell⟩ := m1.out _ _ _ s3 (.refl _ _)))
              | (go_at_call 29; (with_reducible refine (LD.out _).mono ?_); rintro e v1 ⟨rfl, rfl⟩))
            go_ret2
            exact ⟨LE.out, KC.out.b⟩
      · have og := ii_gtr 3 E 0 false (decide_eq_false hp)
        have on := ii_neg E (-E) rfl (by have := RS.out; omega) (by have := RS.out; omega)
        have SH := hide (fun (W : World) (k : Below w.heap.size w W) => rshift_z A a n (-E).toNat (-E) (by omega) N' hN' W (kp' k SA.out) (by omega) (by have := RS.out; omega))
        have hD2 : d = D' := by rw [← hD', show E.toNat = 0 by omega, Nat.pow_zero, Nat.mul_one]
        have DV := hide (fun X e (W : World) (k : Below w.heap.size w W) s2 => rdivmod_cap X B e b N' D' (ln N') (ln d) W rfl (by rw [hD2]; rfl) s2 (by rw [← hD2]; exact kp' k SB.out) lN (by omega) dp')
        rw [hm', hr'] at DV
        have DV : Hid (∀ (X : Option Addr) (e : Nat) (W : World), Below w.heap.size w W → Sl W X (digs N') → Calls Tryd.prog 67 #[.slice X (ln N') e, .slice B (ln d) b] W fun e w' => ∃ A c B d, e = .returned (.tuple #[.slice A (ln m') c, .slice B (ln r') d]) ∧ Sl w' A (digs m') ∧ Sl w' B (digs r') ∧ ln m' ≤ c ∧ Below W.heap.size W w') := hide DV.out
        have BM := hide (fun (X : Option Addr) e (W : World) s2 => rbits_z X e m' bm hbm W s2 (by omega))
        have ol : binOp .leq 3 (.int .i64 bm) (.int .i64 53) = pure (.bool true) := by
          show pure (Value.bool (decide (bm ≤ 53))) = _
          rw [decide_eq_true (by omega)]
        have oa := ii_add 3 bm E (bm + E) rfl (by have := RS.out; omega) (by have := RS.out; omega)
        have oo := ii_gtr 3 (bm + E) 1024 ov hov
        clear hN' hD' hr' dp' lN lD hbm hp hov hbm53 hD2
        obtain ⟨x1, x2, x3, x4, x5, x6⟩ := KR.out.q
        have KQ := hide (fun k => KR.out.drewN k)
        cases ov with
        | true =>
          have LE := hide (show Ending.returned (.tuple #[.float .f64 9218868437227405311, .bool false]) = Ending.returned (.tuple #[.float .f64 (Ieee.double.word false (loR z)), .bool (x && decide (z < 2047 * 2 ^ 52))]) by rw [(E1.out rfl).1, (E1.out rfl).2])
          clear E1 E2
          go_wp2
          go_quiet (fail)
          go_wp2_with (first
            | (go_at_call 38; (with_reducible refine (SH.out _ (KQ.out _).b).mono ?_); rintro e w2 ⟨A2, c2, rfl, s2, hb⟩; have KB := hide ((KQ.out _).next hb); clear hb)
            | (go_at_call 67; (with_reducible refine (DV.out A2 c2 _ KB.out.b s2).mono ?_); rintro e w3 ⟨A3, c3, B3, d3, rfl, s3, t3, _, hb⟩; have KC := hide (KB.out.next hb); clear hb s2)
            | (go_at_call 75; (with_reducible refine (BM.out _ _ _ s3).mono ?_); rintro e w4 ⟨rfl, rfl⟩))
          go_ret2
          exact ⟨LE.out, KC.out.b⟩
        | false =>
          have LE := hide (show Ending.returned (.tuple #[.float .f64 low, .bool x]) = Ending.returned (.tuple #[.float .f64 (Ieee.double.word false (loR z)), .bool (x && decide (z < 2047 * 2 ^ 52))]) by rw [(E2.out rfl).1, (E2.out rfl).2])
          clear E1 E2
          by_cases m0 : m' = 0
          · subst m0
            have cv : ∀ W : World, (convert 54 25 (.int .u64 0)).run Tryd.prog W = .ok (.float .f64 y1) W := cv
            rw [ln_zero] at DV BM
            go_wp2
            go_quiet (fail)
            go_wp2_with (first
              | (go_at_call 38; (with_reducible refine (SH.out _ (KQ.out _).b).mono ?_); rintro e w2 ⟨A2, c2, rfl, s2, hb⟩; have KB := hide ((KQ.out _).next hb); clear hb)
              | (go_at_call 67; (with_reducible refine (DV.out A2 c2 _ KB.out.b s2).mono ?_); rintro e w3 ⟨A3, c3, B3, d3, rfl, s3, t3, _, hb⟩; have KC := hide (KB.out.next hb); clear hb s2)
              | (go_at_call 75; (with_reducible refine (BM.out _ _ _ s3).mono ?_); rintro e w4 ⟨rfl, rfl⟩)
              | (go_at_call 29; (with_reducible refine (LD.out _).mono ?_); rintro e v1 ⟨rfl, rfl⟩))
            go_ret2
            exact ⟨LE.out, KC.out.b⟩
          · have g1 : ln m' = 1 := ln_small (by omega) (by omega)
            have g2 : digs m' = [m'] := digs_small (by omega) (by omega)
            rw [g1, g2] at DV BM
            clear g1 g2 m0
            have m1 : Hid (∀ (W W' : World) (X : Option Addr), Sl W X [m'] → Below W.heap.size W W' → ∃ b o, X = some ⟨b, o, none⟩ ∧ W'.cell? ⟨b, o, none⟩ = some (.int .u64 (m' : Int))) := hide fun W W' X h k => by
              obtain ⟨b, o, rfl, ha⟩ := h.at_ (Nat.zero_lt_one)
              exact ⟨b, o, rfl, cell_next k (ha.cell (j := 0) (Nat.zero_lt_one))⟩
            go_wp2
            go_quiet (fail)
            go_wp2_with (first
              | (go_at_call 38; (with_reducible refine (SH.out _ (KQ.out _).b).mono ?_); rintro e w2 ⟨A2, c2, rfl, s2, hb⟩; have KB := hide ((KQ.out _).next hb); clear hb)
              | (go_at_call 67; (with_reducible refine (DV.out A2 c2 _ KB.out.b s2).mono ?_); rintro e w3 ⟨A3, c3, B3, d3, rfl, s3, t3, _, hb⟩; have KC := hide (KB.out.next hb); clear hb s2)
              | (go_at_call 75; (with_reducible refine (BM.out _ _ _ s3).mono ?_); rintro e w4 ⟨rfl, rfl⟩; (try obtain ⟨bb, oo1, rfl, hcell⟩ := m1.out _ _ _ s3 (.refl _ _)))
              | (go_at_call 29; (with_reducible refine (LD.out _).mono ?_); rintro e v1 ⟨rfl, rfl⟩))
            go_ret2
            exact ⟨LE.out, KC.out.b⟩
end Nt
end Go.Proofs.YtgmjdaallinicaaDoor
namespace Go.Proofs.YtgmjdaallinicaaDoor
open Go.RowKit
namespace Nt

theorem under_f (s : Bool) (A B : Option Addr) (a b n d z : Nat) (x xx : Bool) (w : World) (sA : Sl w A (digs n)) (sB : Sl w B (digs d)) (hn : ln n ≤ 64) (hd : ln d ≤ 64) (d0 : 0 < d) (hf : Fl n d z) (hx : x = decide (U z * d = n * KU)) (hxx : (x && decide (z < 2047 * 2 ^ 52)) = xx) :
    Calls Tryd.prog 42 #[.agg #[.bool s, .slice A (ln n) a, .slice B (ln d) b]] w fun e w' => e = .returned (.tuple #[.float .f64 (Ieee.double.word false (loR z)), .bool xx]) ∧ Below w.heap.size w w' := by
  subst hxx
  by_cases h0 : n = 0
  · subst h0
    obtain ⟨f0, x0⟩ := fl_zero d d0
    obtain rfl := hf.one f0
    obtain rfl : x = true := by rw [hx, ← x0]
    rw [ln_zero]
    exact under_zero s A B a (ln d) b w
  · exact under_pos s A B a b n d z x w sA sB hn hd (by omega) d0 hf hx
set_option maxHeartbeats 1000000 in
theorem over_f (s : Bool) (A B : Option Addr) (a b n d z : Nat) (x : Bool) (w : World) (sA : Sl w A (digs n)) (sB : Sl w B (digs d)) (hn : ln n ≤ 64) (hd : ln d ≤ 64) (d0 : 0 < d) (hf : Fl n d z) (hx : x = decide (U z * d = n * KU)) :
    Calls Tryd.prog 43 #[.agg #[.bool s, .slice A (ln n) a, .slice B (ln d) b]] w fun e w' => e = .returned (.float .f64 (Ieee.double.word false (hiR z x))) ∧ Below w.heap.size w w' := by
  obtain ⟨xx, hxx⟩ : ∃ y, (x && decide (z < 2047 * 2 ^ 52)) = y := ⟨_, rfl⟩
  have UN := hide (fun W (k : Below w.heap.size w W) => under_f s A B a b n d z x xx W (kp' k sA) (kp' k sB) hn hd d0 hf hx hxx)
  have X1 := hide (Q3.new (.bool s) (.slice A (ln n) a) (.slice B (ln d) b) w)
  have b0 : Below w.heap.size w (w.alloc (.cells #[.bool s, .slice A (ln n) a, .slice B (ln d) b] 24)) := bl_al (.refl _ _) _
  obtain ⟨x1, x2, x3, x4, x5, x6⟩ := X1.out
  cases xx with
  | true =>
    obtain ⟨h1, h2⟩ := Bool.and_eq_true_iff.1 hxx
    have h3 := of_decide_eq_true h2
    subst h1
    rw [hiR_t (Nat.le_of_lt h3)]
    rw [loR_of h3] at UN
    clear sA sB hn hd hf hx hxx h2 h3 d0
    generalize Ieee.double.word false z = f at *
    generalize ln n = n1 at *
    generalize ln d = n2 at *
    go_enter Tryd.func43, Tryd.ntmps43
    go_wp2_with (go_at_call 42; (with_reducible refine (UN.out _ b0).mono ?_); rintro e w2 ⟨rfl, hb⟩; have b2 := bl_trans b0 hb; clear hb)
    go_ret
    exact ⟨rfl, b2⟩
  | false =>
    have NX : Hid (∀ W, Calls Tryd.prog 18 #[.float .f64 (Ieee.double.word false (loR z)), .float .f64 (Ieee.double.word false (2047 * 2 ^ 52))] W fun e w' => e = .returned (.float .f64 (Ieee.double.word false (hiR z x))) ∧ W = w') := hide fun W => by
      refine nextafter_any false (loR z) false (2047 * 2 ^ 52) (Nat.le_of_lt (loR_lt z)) (Nat.le_refl _) false (hiR z x) ((nx_up (loR_lt z)).trans ?_) W
      by_cases h : z < 2047 * 2 ^ 52
      · rw [decide_eq_true h, Bool.and_true] at hxx
        rw [hxx, loR_of h, hiR_f h]
      · rw [loR_big (by omega), hiR_big x (by omega)]
    have J1 := hide minf1
    clear sA sB hn hd hf hx hxx d0
    generalize Ieee.double.word false (loR z) = f at *
    generalize Ieee.double.word false (hiR z x) = f2 at *
    generalize Ieee.double.word false (2047 * 2 ^ 52) = inf at *
    generalize ln n = n1 at *
    generalize ln d = n2 at *
    go_enter Tryd.func43, Tryd.ntmps43
    go_wp2_with (first
      | (go_at_call 42; (with_reducible refine (UN.out _ b0).mono ?_); rintro e w2 ⟨rfl, hb⟩; have b2 := bl_trans b0 hb; clear hb)
      | (go_at_call 19; (with_reducible refine (J1.out _).mono ?_); rintro e v1 ⟨rfl, rfl⟩)
      | (go_at_call 18; (with_reducible refine (NX.out _).mono ?_); rintro e v1 ⟨rfl, rfl⟩))
    go_ret
    exact ⟨rfl, b2⟩
set_option maxHeartbeats 1000000 in
theorem rquick_f (q : Rat) (A B : Option Addr) (a b : Nat) (rs : Bool) (r : Nat) (is : Bool) (i : Nat) (w : World) (sA : Sl w A (digs (qn q))) (sB : Sl w B (digs (qd q))) (f1 : fitq q) (ca : ln (qn q) ≤ a) (cb : ln (qd q) ≤ b) (h : Qb (qs q) (qn q) (qd q) rs r is i) :
    Calls Tryd.prog 14 #[.agg #[.bool (qs q), .slice A (ln (qn q)) a, .slice B (ln (qd q)) b]] w fun e w' => e = .returned (.complex .f64 (Ieee.double.word rs r) (Ieee.double.word is i)) ∧ Below w.heap.size w w' := by
  have V1 := hide (fun W (k : Below w.heap.size w W) => rvalid_q q A B a b W (kp' k sA) (kp' k sB) f1)
  obtain ⟨z, x, hf, hx, hh⟩ := h
  have neg : qs q = true → 0 < qn q := qn_pos_of_neg
  have X1 := hide (Q3.new (.bool (qs q)) (.slice A (ln (qn q)) a) (.slice B (ln (qd q)) b) w)
  have b0 : Below w.heap.size w (w.alloc (.cells #[.bool (qs q), .slice A (ln (qn q)) a, .slice B (ln (qd q)) b] 24)) := bl_al (.refl _ _) _
  obtain ⟨x1, x2, x3, x4, x5, x6⟩ := X1.out
  obtain ⟨s, hs⟩ : ∃ s, qs q = s := ⟨_, rfl⟩
  cases s with
  | false =>
    have UN := hide (fun W (k : Below w.heap.size w W) => under_f (qs q) A B a b (qn q) (qd q) z x _ W (kp' k sA) (kp' k sB) f1.1 f1.2 (qd_pos q) hf hx rfl)
    have OV := hide (fun W (k : Below w.heap.size w W) => over_f (qs q) A B a b (qn q) (qd q) z x W (kp' k sA) (kp' k sB) f1.1 f1.2 (qd_pos q) hf hx)
    rw [hs] at V1 X1 b0 hh UN OV x1 ⊢
    rw [if_neg (by decide)] at hh
    obtain ⟨rfl, rfl, rfl, rfl⟩ := hh
    clear sA sB f1 hf hx hs neg ca cb
    generalize ln (qn q) = n1 at *
    generalize ln (qd q) = n2 at *
    generalize Ieee.double.word false (loR z) = lo at *
    generalize Ieee.double.word false (hiR z x) = hi at *
    generalize (x && decide (z < 2047 * 2 ^ 52)) = xx at *
    go_enter Tryd.func14, Tryd.ntmps14
    go_wp2_with (first
      | (go_at_call 16; (with_reducible refine (V1.out _ b0).mono ?_); rintro e w1 ⟨rfl, hb⟩; have X1 := hide (X1.out.next hb); clear x1 x2 x3 x4 x5 x6; obtain ⟨x1, x2, x3, x4, x5, x6⟩ := X1.out; have b1 := bl_trans b0 hb; clear hb)
      | (go_at_call 42; (with_reducible refine (UN.out _ b1).mono ?_); rintro e w2 ⟨rfl, hb⟩; have X1 := hide (X1.out.next hb); clear x1 x2 x3 x4 x5 x6; obtain ⟨x1, x2, x3, x4, x5, x6⟩ := X1.out; have b2 := bl_trans b1 hb; clear hb)
      | (go_at_call 43; (with_reducible refine (OV.out _ b2).mono ?_); rintro e w3 ⟨rfl, hb⟩; have b3 := bl_trans b2 hb; clear hb))
    go_ret
    exact ⟨rfl, b3⟩
  | true =>
    have NG := hide (fun W (k : Below w.heap.size w W) => rneg_q q (-q) rfl A B a b W (kp' k sA) (kp' k sB) f1 ca cb)
    have en : qn (-q) = qn q := qn_neg q
    have ed : qd (-q) = qd q := qd_neg q
    have es : qs (-q) = false := by rw [qs_neg, hs]; rfl
    have UN := hide (fun (X Y : Option Addr) e f W sx sy => under_f false X Y e f (qn q) (qd q) z x _ W sx sy f1.1 f1.2 (qd_pos q) hf hx rfl)
    have OV := hide (fun (X Y : Option Addr) e f W sx sy => over_f false X Y e f (qn q) (qd q) z x W sx sy f1.1 f1.2 (qd_pos q) hf hx)
    have NG : Hid (∀ W, Below w.heap.size w W → Calls Tryd.prog 27 #[.agg #[.bool true, .slice A (ln (qn q)) a, .slice B (ln (qd q)) b]] W fun e w' => ∃ A c B d, e = .returned (.agg #[.bool false, .slice A (ln (qn q)) c, .slice B (ln (qd q)) d]) ∧ Sl w' A (digs (qn q)) ∧ Sl w' B (digs (qd q)) ∧ Below W.heap.size W w') := hide fun W k => by
      have h := NG.out W k
      rw [hs] at h
      refine h.mono fun e w' ⟨A, c, B, d, h1, h2, h3, h4⟩ => ⟨A, c, B, d, ?_, ?_, ?_, h4⟩
      · rw [h1, es, en, ed]
      · rw [← en]; exact h2
      · rw [← ed]; exact h3
    rw [hs] at V1 X1 b0 hh x1 ⊢
    rw [if_pos rfl] at hh
    obtain ⟨rfl, rfl, rfl, rfl⟩ := hh
    have o1 := un_neg _ _ (w_neg false (hiR z x) (Nat.lt_of_le_of_lt (hiR_le z x) (by decide)))
    have o2 := zero_less false (loR z) (Nat.le_of_lt (loR_lt z)) (decide (0 < loR z)) rfl
    rw [Bool.not_false] at o1
    clear sA sB f1 hf hx hs neg ca cb en ed es
    generalize ln (qn q) = n1 at *
    generalize ln (qd q) = n2 at *
    generalize Ieee.double.word false (loR z) = lo at *
    generalize Ieee.double.word false (hiR z x) = hi at *
    generalize Ieee.double.word true (hiR z x) = lo1 at *
    generalize Ieee.double.word (decide (0 < loR z)) (loR z) = hi1 at *
    generalize (x && decide (z < 2047 * 2 ^ 52)) = xx at *
    go_enter Tryd.func14, Tryd.ntmps14
    go_wp2_with (first
      | (go_at_call 16; (with_reducible refine (V1.out _ b0).mono ?_); rintro e w1 ⟨rfl, hb⟩; have X1 := hide (X1.out.next hb); clear x1 x2 x3 x4 x5 x6; obtain ⟨x1, x2, x3, x4, x5, x6⟩ := X1.out; have b1 := bl_trans b0 hb; clear hb)
      | (go_at_call 27; (with_reducible refine (NG.out _ b1).mono ?_); rintro e w2 ⟨A2, c2, B2, d2, rfl, s2, t2, hb⟩; clear x1 x2 x3 x4 x5 x6; have b2 := bl_trans b1 hb; have Y := hide (Q3.new (.bool false) (.slice A2 n1 c2) (.slice B2 n2 d2) w2); have b2 := bl_al b2 (.cells #[.bool false, .slice A2 n1 c2, .slice B2 n2 d2] 24); have s2 := s2.alloc (.cells #[.bool false, .slice A2 n1 c2, .slice B2 n2 d2] 24); have t2 := t2.alloc (.cells #[.bool false, .slice A2 n1 c2, .slice B2 n2 d2] 24); clear hb)
      | (go_at_call 42; (with_reducible refine (UN.out A2 B2 c2 d2 _ s2 t2).mono ?_); rintro e w3 ⟨rfl, hb⟩; have Y := hide (Y.out.next hb); obtain ⟨y1, y2, y3, y4, y5, y6⟩ := Y.out; have b3 := bl_trans b2 hb; have s2 := kp' hb s2; have t2 := kp' hb t2; clear hb)
      | (go_at_call 43; (with_reducible refine (OV.out A2 B2 c2 d2 _ s2 t2).mono ?_); rintro e w4 ⟨rfl, hb⟩; have b4 := bl_trans b3 hb; clear hb))
    go_ret
    exact ⟨rfl, b4⟩
/-- Of what is no fraction: 0. -/
theorem rquick_no (s : Bool) (A B : Option Addr) (a b : Nat) (xs ys : List Nat) (w : World) (sA : Sl w A xs) (sB : Sl w B ys) (lx : Limbs xs) (ly : Limbs ys) (m1 : xs.length ≤ 1000000) (m2 : ys.length ≤ 1000000) (h : validQ s xs ys = false) :
    Calls Tryd.prog 14 #[.agg #[.bool s, .slice A xs.length a, .slice B ys.length b]] w fun e w' => e = .returned (.complex .f64 0 0) ∧ Below w.heap.size w w' := by
  have V1 := hide (fun W (k : Below w.heap.size w W) => rvalidQ_any s A B a b xs ys W (bl_keeps k _ _ sA) (bl_keeps k _ _ sB) lx ly m1 m2 false h)
  have b0 : Below w.heap.size w (w.alloc (.cells #[.bool s, .slice A xs.length a, .slice B ys.length b] 24)) := bl_al (.refl _ _) _
  clear sA sB lx ly m1 m2 h
  generalize xs.length = n1 at *
  generalize ys.length = n2 at *
  go_enter Tryd.func14, Tryd.ntmps14
  go_wp2_with (go_at_call 16; (with_reducible refine (V1.out _ b0).mono ?_); rintro e w1 ⟨rfl, hb⟩; have b1 := bl_trans b0 hb; clear hb)
  go_ret
  exact ⟨rfl, b1⟩
end Nt
end Go.Proofs.YtgmjdaallinicaaDoor
namespace Go.Proofs.YtgmjdaallinicaaDoor
open Go.RowKit
namespace Nt

/-- What stays to the end: all that was there, and rows. -/
def K6 (w : World) (l : List (Option Addr × List Nat)) (W : World) : Prop := Below w.heap.size w W ∧ ∀ p, p ∈ l → Sl W p.1 p.2
theorem K6.next {w W W' : World} {l : List (Option Addr × List Nat)} (k : K6 w l W) (hb : Below W.heap.size W W') : K6 w l W' := ⟨bl_trans k.1 hb, fun p hp => kp' hb (k.2 p hp)⟩
theorem K6.drew {w W : World} {l : List (Option Addr × List Nat)} (k : K6 w l W) : K6 w l W.drew := ⟨k.1.drew, k.2⟩
theorem K6.b {w W : World} {l : List (Option Addr × List Nat)} (k : K6 w l W) : Below w.heap.size w W := k.1
theorem K6.sl {w W : World} {l : List (Option Addr × List Nat)} (k : K6 w l W) {A : Option Addr} {x : List Nat} (h : (A, x) ∈ l) : Sl W A x := k.2 _ h
theorem K6.nil {w W : World} (b : Below w.heap.size w W) : K6 w [] W := ⟨b, fun p hp => by cases hp⟩
theorem K6.cons {w W : World} {l : List (Option Addr × List Nat)} (k : K6 w l W) {A : Option Addr} {x : List Nat} (s : Sl W A x) : K6 w ((A, x) :: l) W := ⟨k.1, fun p hp => by
  rcases List.mem_cons.1 hp with e | e
  · rw [e]; exact s
  · exact k.2 p e⟩
theorem nem1 {T : Type} {p : T} {l : List T} : p ∈ p :: l := .head _
theorem nem2 {T : Type} {p x1 : T} {l : List T} : p ∈ x1 :: p :: l := .tail _ nem1
theorem nem3 {T : Type} {p x1 x2 : T} {l : List T} : p ∈ x1 :: x2 :: p :: l := .tail _ nem2
theorem nem4 {T : Type} {p x1 x2 x3 : T} {l : List T} : p ∈ x1 :: x2 :: x3 :: p :: l := .tail _ nem3
theorem k3k {c1 c2 c3 k : Prop} (h : c1 ∧ c2 ∧ c3 ∧ k) : k := h.2.2.2
theorem S3k_next {w w' : World} (hb : Below w.heap.size w w') {p1 p2 p3 : Addr} {v1 v2 v3 : Value} {w0 : World} {l : List (Option Addr × List Nat)}
    (h : w.cell? p1 = some v1 ∧ w.cell? p2 = some v2 ∧ w.cell? p3 = some v3 ∧ K6 w0 l w) : w'.cell? p1 = some v1 ∧ w'.cell? p2 = some v2 ∧ w'.cell? p3 = some v3 ∧ K6 w0 l w' := ⟨cell_next hb h.1, cell_next hb h.2.1, cell_next hb h.2.2.1, h.2.2.2.next hb⟩
theorem lfin_yes (s : Bool) (r : Nat) (hr : r < 2047 * 2 ^ 52) (w : World) :
    Calls Tryd.prog 17 #[.float .f64 (Ieee.double.word s r)] w fun e w' => e = .returned (.bool true) ∧ w = w' := by
  have h : Ieee.double.sub (Ieee.double.word s r) (Ieee.double.word s r) = some (Ieee.double.word (if I s r + I (!s) r = 0 then s && !s else decide (I s r + I (!s) r < 0)) 0) := by
    rw [sub_add _ s r hr]
    exact add_exact s (!s) r r 0 hr hr (by decide) (by rw [I_not, U_zero]; omega)
  have o1 : ∀ W : World, (binOp .sub 25 (.float .f64 (Ieee.double.word s r)) (.float .f64 (Ieee.double.word s r))).run Tryd.prog W = .ok (.float .f64 _) W := fun W => fl_op _ _ W (fl_sub _ _ _ h)
  have o2 := w_iszero (if I s r + I (!s) r = 0 then s && !s else decide (I s r + I (!s) r < 0))
  clear h hr
  generalize Ieee.double.word (if I s r + I (!s) r = 0 then s && !s else decide (I s r + I (!s) r < 0)) 0 = y at *
  generalize Ieee.double.word s r = x at *
  go_enter Tryd.func17, Tryd.ntmps17
  go_wp2
  go_ret
  exact ⟨rfl, rfl⟩
/-- A word that is no number: what its order says. -/
def Odd (x : Nat) : Prop := Ieee.double.sub x x = none
theorem nan_read (s : Bool) (r : Nat) (h1 : 2047 * 2 ^ 52 < r) (h2 : r < 2 ^ 63) : ∃ g f, Ieee.double.read (Ieee.double.word s r) = .nan g f := by
  have ew : (Ieee.double.word s r) % 2 ^ 63 = r := by
    rw [w_val]
    cases s <;> simp <;> omega
  refine ⟨Ieee.double.word s r / 2 ^ 63 % 2 == 1, r - 2047 * 2 ^ 52, ?_⟩
  show (let neg := Ieee.double.word s r / 2 ^ 63 % 2 == 1; let rung := Ieee.double.word s r % 2 ^ 63; if rung < 2 ^ 52 then Ieee.Datum.number neg rung (-1074) else if rung < 2047 * 2 ^ 52 then Ieee.Datum.number neg (2 ^ 52 + rung % 2 ^ 52) (-1074 + (rung / 2 ^ 52 - 1 : Nat)) else if rung = 2047 * 2 ^ 52 then .infinity neg else .nan neg (rung - 2047 * 2 ^ 52)) = _
  simp only [ew]
  rw [if_neg (by omega), if_neg (by omega), if_neg (by omega)]
theorem nan_word (s : Bool) (r : Nat) (h1 : 2047 * 2 ^ 52 < r) (h2 : r < 2 ^ 63) (y : Nat) : Ieee.double.order (Ieee.double.word s r) y = none := by
  obtain ⟨g, f, e⟩ := nan_read s r h1 h2
  unfold Ieee.Format.order
  rw [e]
  rfl
theorem cut_word (k : FloatKind) (hk : k = .f64) (x y t : Nat) : ∃ s r, 2047 * 2 ^ 52 < r ∧ r < 2 ^ 63 ∧ Question.cut (.nanBits k x y) t = Ieee.double.word s r := by
  subst hk
  have h1 : t / 2 % (2 ^ 52 - 1) < 2 ^ 52 - 1 := Nat.mod_lt _ (by decide)
  have e : Question.cut (.nanBits .f64 x y) t = t % 2 * 2 ^ 63 + 0x7ff0000000000000 + 1 + t / 2 % (2 ^ 52 - 1) := rfl
  refine ⟨t % 2 == 1, 2047 * 2 ^ 52 + 1 + t / 2 % (2 ^ 52 - 1), by omega, by omega, ?_⟩
  rw [e, w_val]
  rcases Nat.mod_two_eq_zero_or_one t with h | h
  · rw [h, show ((0 : Nat) == 1).toNat = 0 from rfl]; omega
  · rw [h, show ((1 : Nat) == 1).toNat = 1 from rfl]; omega
theorem run_odd {x : Nat} (h : Odd x) (W : World) : ∃ v, binOp .eql 25 (.float .f64 v) (.float .f64 0) = pure (.bool false) ∧ (binOp .sub 25 (.float .f64 x) (.float .f64 x)).run Tryd.prog W = .ok (.float .f64 v) W.drew := by
  obtain ⟨s, r, h1, h2, h3⟩ := cut_word .f64 rfl x x (W.tape W.drawn (.nanBits .f64 x x))
  refine ⟨Question.cut (.nanBits .f64 x x) (W.tape W.drawn (.nanBits .f64 x x)), fl_eql _ _ 0 false (by rw [h3, nan_word s r h1 h2]; rfl), ?_⟩
  unfold Odd at h
  have h' : FloatKind.f64.format.sub x x = none := h
  clear h3
  simp [binOp, Op.floatArith, h', Question.forced]
theorem lfin_no (x : Nat) (h : Odd x) (w : World) :
    Calls Tryd.prog 17 #[.float .f64 x] w fun e w' => e = .returned (.bool false) ∧ Below w.heap.size w w' := by
  obtain ⟨v, o2, o1⟩ := run_odd h w
  have b : Below w.heap.size w w.drew := (Below.refl _ _).drew
  clear h
  go_enter Tryd.func17, Tryd.ntmps17
  go_wp2
  go_ret
  exact ⟨rfl, b⟩
/-- Each word is a number's, one of the two infinite ones, or none's. -/
theorem word_cases (x : Nat) (hx : x < 2 ^ 64) : (∃ s r, r < 2047 * 2 ^ 52 ∧ x = Ieee.double.word s r) ∨ (∃ s, x = Ieee.double.word s (2047 * 2 ^ 52)) ∨ (∃ s r, 2047 * 2 ^ 52 < r ∧ r < 2 ^ 63 ∧ x = Ieee.double.word s r) := by
  obtain ⟨s, r, hr, rfl⟩ : ∃ s r, r < 2 ^ 63 ∧ x = Ieee.double.word s r := by
    by_cases h : x < 2 ^ 63
    · exact ⟨false, x, h, rfl⟩
    · exact ⟨true, x - 2 ^ 63, by omega, by rw [word_t]; omega⟩
  rcases Nat.lt_trichotomy r (2047 * 2 ^ 52) with h | h | h
  · exact .inl ⟨s, r, h, rfl⟩
  · exact .inr (.inl ⟨s, by rw [h]⟩)
  · exact .inr (.inr ⟨s, r, h, hr, rfl⟩)
theorem odd_nan (s : Bool) (r : Nat) (h1 : 2047 * 2 ^ 52 < r) (h2 : r < 2 ^ 63) : Odd (Ieee.double.word s r) := by
  obtain ⟨g, f, e⟩ := nan_read s r h1 h2
  unfold Odd Ieee.Format.sub
  rw [e]
  rfl
theorem odd_inf (s : Bool) : Odd (Ieee.double.word s (2047 * 2 ^ 52)) := by
  unfold Odd Ieee.Format.sub
  rw [read_inf]
  cases s <;> rfl
theorem equal_f (s t : Bool) (a b : Nat) (ha : a ≤ 2047 * 2 ^ 52) (hb : b ≤ 2047 * 2 ^ 52) (x : Bool) (hx : decide (I s a = I t b) = x) (w : World) :
    Calls Tryd.prog 26 #[.float .f64 (Ieee.double.word s a), .float .f64 (Ieee.double.word t b)] w fun e w' => e = .returned (.bool x) ∧ w = w' := by
  have o1 := fl_eql 25 _ _ x ((wo_eq s t a b ha hb).trans hx)
  have o2 := fl_neq 25 (Ieee.double.word s a) (Ieee.double.word s a) false (by rw [bne, wo_eq s s a a ha ha, decide_eq_true rfl]; rfl)
  clear ha hb hx
  generalize Ieee.double.word s a = u at *
  generalize Ieee.double.word t b = v at *
  cases x
  all_goals
    go_enter Tryd.func26, Tryd.ntmps26
    go_wp2
    go_ret
    exact ⟨rfl, rfl⟩
theorem same_f (s t s' t' : Bool) (a b a' b' : Nat) (ha : a ≤ 2047 * 2 ^ 52) (hb : b ≤ 2047 * 2 ^ 52) (ha' : a' ≤ 2047 * 2 ^ 52) (hb' : b' ≤ 2047 * 2 ^ 52) (h1 : I s a = I s' a') (h2 : I t b = I t' b') (w : World) :
    Calls Tryd.prog 12 #[.complex .f64 (Ieee.double.word s a) (Ieee.double.word t b), .complex .f64 (Ieee.double.word s' a') (Ieee.double.word t' b')] w fun e w' => e = .returned (.bool true) ∧ w = w' := by
  have E1 := hide (equal_f s s' a a' ha ha' true (decide_eq_true h1))
  have E2 := hide (equal_f t t' b b' hb hb' true (decide_eq_true h2))
  clear ha hb ha' hb' h1 h2
  generalize Ieee.double.word s a = x1 at *
  generalize Ieee.double.word t b = x2 at *
  generalize Ieee.double.word s' a' = x3 at *
  generalize Ieee.double.word t' b' = x4 at *
  go_enter Tryd.func12, Tryd.ntmps12
  go_wp2_with (first
    | (go_at_call 26; (with_reducible refine (E1.out _).mono ?_); rintro e w1 ⟨rfl, rfl⟩)
    | (go_at_call 26; (with_reducible refine (E2.out _).mono ?_); rintro e w1 ⟨rfl, rfl⟩))
  go_ret
  exact ⟨rfl, rfl⟩
end Nt
end Go.Proofs.YtgmjdaallinicaaDoor
namespace Go.Proofs.YtgmjdaallinicaaDoor
open Go.RowKit
namespace Nt

/-- The bounds of 1/3 and of 1/2. -/
theorem fl_third : Fl 1 3 4599676419421066581 ∧ (false = decide (U 4599676419421066581 * 3 = 1 * KU)) := by
  obtain ⟨t, ht⟩ : ∃ t, t = 1020 := ⟨_, rfl⟩
  obtain ⟨h1, -, h3⟩ := fl_of 1 3 6004799503160661 t (by decide) (.inr (by decide)) 54 0 54 (by omega) (by decide) (by decide) (by decide)
  rw [show t * 2 ^ 52 + 6004799503160661 = 4599676419421066581 by omega] at h1 h3
  exact ⟨h1, (decide_eq_false fun h => absurd (h3.1 h) (by decide)).symm⟩
theorem fl_half : Fl 1 2 4602678819172646912 ∧ (true = decide (U 4602678819172646912 * 2 = 1 * KU)) := by
  obtain ⟨t, ht⟩ : ∃ t, t = 1021 := ⟨_, rfl⟩
  obtain ⟨h1, -, h3⟩ := fl_of 1 2 4503599627370496 t (by decide) (.inr (by decide)) 53 0 53 (by omega) (by decide) (by decide) (by decide)
  rw [show t * 2 ^ 52 + 4503599627370496 = 4602678819172646912 by omega] at h1 h3
  exact ⟨h1, (decide_eq_true (h3.2 (by decide))).symm⟩
theorem half_q (s : Bool) : rq s 4602678819172646912 = qmk s 1 2 := (rq_low s _ (by decide) (by decide) (by have := fl_half.2; exact of_decide_eq_true this.symm)).1
theorem i_mono {a b : Nat} : I false a < I false b ↔ a < b := by
  rw [I_f, I_f, ← U_lt_iff]; omega
theorem i_mono_le {a b : Nat} : I false a ≤ I false b ↔ a ≤ b := by
  rw [I_f, I_f, ← U_le_iff]; omega
theorem i_inj {a b : Nat} : I false a = I false b ↔ a = b := ⟨fun h => U_inj (by rw [I_f, I_f] at h; omega), fun h => by rw [h]⟩
theorem dn_one : Dn (I false 4602678819172646912 + I false 4602678819172646912) false 4607182418800017408 := by
  have h := U_twice 4602678819172646912 (by decide)
  have h1 := U_pos (show 0 < 4602678819172646912 by decide)
  have h2 := U_succ 4607182418800017408
  rw [I_f]
  rw [show 4602678819172646912 + 2 ^ 52 = 4607182418800017408 by decide] at h
  exact .inr (.inl ⟨by omega, rfl, by omega, by omega⟩)
theorem up_one : Dn (-(I false 4602678819172646912 + I false 4602678819172646912)) true 4607182418800017408 := by
  have h := U_twice 4602678819172646912 (by decide)
  have h1 := U_pos (show 0 < 4602678819172646912 by decide)
  have h2 := U_succ 4607182418800017408
  rw [I_f]
  rw [show 4602678819172646912 + 2 ^ 52 = 4607182418800017408 by decide] at h
  refine .inr (.inr ⟨by omega, rfl, 4607182418800017408, by omega, by omega, ?_⟩)
  rw [if_pos (by omega)]
theorem S3w_next {w w' : World} (hb : Below w.heap.size w w') {p1 p2 p3 : Addr} {v1 v2 v3 : Value} {w0 : World} {l : List (Option Addr × List Nat)}
    (h : w.cell? p1 = some v1 ∧ w.cell? p2 = some v2 ∧ w.cell? p3 = some v3 ∧ K6 w0 l w) : w'.cell? p1 = some v1 ∧ w'.cell? p2 = some v2 ∧ w'.cell? p3 = some v3 ∧ K6 w0 l w' := S3k_next hb h
theorem fit5 {q : Rat} (h1 : qn q < LB) (h2 : qd q < LB) : fitq q := ⟨Nat.le_trans (ln_le (k := 1) (by rw [Nat.pow_one]; exact h1)) (by decide), Nat.le_trans (ln_le (k := 1) (by rw [Nat.pow_one]; exact h2)) (by decide)⟩
theorem qb_third (q : Rat) (h1 : qs q = false) (h2 : qn q = 1) (h3 : qd q = 3) : Qb (qs q) (qn q) (qd q) false 4599676419421066581 false 4599676419421066582 := by
  rw [h1, h2, h3]
  exact ⟨_, _, fl_third.1, fl_third.2, by rw [if_neg (by decide)]; exact ⟨rfl, by decide, rfl, by decide⟩⟩
theorem qb_half (q : Rat) (h1 : qs q = false) (h2 : qn q = 1) (h3 : qd q = 2) : Qb (qs q) (qn q) (qd q) false 4602678819172646912 false 4602678819172646912 := by
  rw [h1, h2, h3]
  exact ⟨_, _, fl_half.1, fl_half.2, by rw [if_neg (by decide)]; exact ⟨rfl, by decide, rfl, by decide⟩⟩
theorem calls_bl {P : Program} {f : FuncId} {args : Array Value} {v : Value} {w : World} (h : Calls P f args w fun e w' => e = .returned v ∧ w = w') : Calls P f args w fun e w' => e = .returned v ∧ Below w.heap.size w w' := h.mono fun _ _ ⟨h1, h2⟩ => ⟨h1, by subst h2; exact .refl _ _⟩
theorem cx_half (W : World) : (binOp .eql 30 (.complex .f64 4602678819172646912 4602678819172646912) (.complex .f64 4602678819172646912 4602678819172646912)).run Tryd.prog W = .ok (.bool true) W := by kernel_rfl
set_option maxRecDepth 100000 in
set_option linter.unusedSimpArgs false in
set_option maxHeartbeats 4000000 in
theorem awake5_any (w : World) (T : DeB w) : Calls Tryd.prog 9 #[] w fun e w' => e = .returned (.bool true) ∧ Below w.heap.size w w' := by
  obtain ⟨q1, hq1⟩ : ∃ q, q = Rat.divInt 1 3 := ⟨_, rfl⟩
  obtain ⟨q2, hq2⟩ : ∃ q, q = Rat.divInt 1 2 := ⟨_, rfl⟩
  obtain ⟨q3, hq3⟩ : ∃ q, q = Rat.divInt (-1) 2 := ⟨_, rfl⟩
  have f1 : fitq q1 := by rw [hq1]; exact fit5 (by decide) (by decide)
  have f2 : fitq q2 := by rw [hq2]; exact fit5 (by decide) (by decide)
  have f3 : fitq q3 := by rw [hq3]; exact fit5 (by decide) (by decide)
  have O1 := hide (fun W => rof_k 1 3 q1 W (by decide) (by decide) (by decide) (by decide) (by decide) (by rw [hq1]; decide))
  have O2 := hide (fun W => rof_k 1 2 q2 W (by decide) (by decide) (by decide) (by decide) (by decide) (by rw [hq2]; decide))
  have O3 := hide (fun W => rof_k (-1) 2 q3 W (by decide) (by decide) (by decide) (by decide) (by decide) (by rw [hq3]; decide))
  have Q1 := hide (fun X Y e f W s1 s2 => qof_f q1 X Y e f _ _ _ _ W s1 s2 f1 (qb_third q1 (by rw [hq1]; decide) (by rw [hq1]; decide) (by rw [hq1]; decide)))
  have Q2 := hide (fun X Y e f W s1 s2 => qof_f q2 X Y e f _ _ _ _ W s1 s2 f2 (qb_half q2 (by rw [hq2]; decide) (by rw [hq2]; decide) (by rw [hq2]; decide)))
  have BK := hide (fun W (k : Below w.heap.size w W) => back_f true 4602678819172646912 (by decide) W (T.next k))
  have e3 : rq true 4602678819172646912 = q3 := by rw [half_q, hq3]; decide
  rw [e3] at BK
  have BN := hide (back_no _ (finite_w false (2047 * 2 ^ 52) (by decide) false (by decide)))
  have J1 := hide minf1
  have L1 := hide (less_f false 4599676419421066581 false 4599676419421066582 false 4602678819172646912 false 4602678819172646912 (by decide) (by decide) (by decide) (by decide) true true (by unfold lessT; rw [decide_eq_true (i_mono.2 (by decide))]; rfl))
  have L2 := hide (less_f false 4602678819172646912 false 4602678819172646912 false 4599676419421066581 false 4599676419421066582 (by decide) (by decide) (by decide) (by decide) false true (by unfold lessT; rw [decide_eq_false (fun h => absurd (i_mono.1 h) (by decide)), decide_eq_true (i_mono_le.2 (by decide))]; rfl))
  have L3 := hide (less_f false 4599676419421066581 false 4599676419421066582 false 4599676419421066581 false 4599676419421066582 (by decide) (by decide) (by decide) (by decide) false false (by unfold lessT; rw [decide_eq_false (fun h => absurd (i_mono.1 h) (by decide)), decide_eq_false (fun h => absurd (i_mono_le.1 h) (by decide))]; rfl))
  have E1 := hide (exact_f false 4602678819172646912 false 4602678819172646912 (by decide) (by decide) true (by rw [decide_eq_true rfl]; decide))
  have E2 := hide (exact_f false 4599676419421066581 false 4599676419421066582 (by decide) (by decide) false (by rw [decide_eq_false (fun h => absurd (i_inj.1 h) (by decide))]; rfl))
  have NX := hide (nextafter_any false 4599676419421066581 false 4607182418800017408 (by decide) (by decide) false 4599676419421066582 (by
    unfold nx
    rw [if_neg (fun h => absurd (i_inj.1 h) (by decide)), if_neg (by decide), decide_eq_true (i_mono.2 (by decide)), decide_eq_true (by rw [I_f]; have := U_pos (show 0 < 4599676419421066581 by decide); omega)]
    rfl))
  have AD := hide (add_f false 4602678819172646912 false 4602678819172646912 false 4602678819172646912 false 4602678819172646912 (by decide) (by decide) (by decide) (by decide) false true 4607182418800017408 4607182418800017408 dn_one up_one (by decide))
  have SM := hide (same_f false false false false 4607182418800017408 4607182418800017408 4607182418800017408 4607182418800017408 (by decide) (by decide) (by decide) (by decide) rfl rfl)
  have SQ := hide (fun X Y Z T e f g h W s1 s2 s3 s4 => same_q q3 q3 X Y Z T e f g h W s1 s2 s3 s4 f3 f3 true (decide_eq_true rfl))
  have c1 : binOp .lss 25 (.float .f64 4599676419421066581) (.float .f64 4599676419421066582) = pure (.bool true) := fl_lss _ _ _ _ ((wo_lt false false _ _ (by decide) (by decide)).trans (decide_eq_true (i_mono.2 (by decide))))
  have c2 : binOp .eql 25 (.float .f64 4599676419421066582) (.float .f64 4599676419421066582) = pure (.bool true) := fl_eql _ _ _ _ ((wo_eq false false _ _ (by decide) (by decide)).trans (decide_eq_true rfl))
  have c3 := cx_half
  have SM := hide (fun W => calls_bl (SM.out W))
  have AD := hide (fun W => calls_bl (AD.out W))
  have NX := hide (fun W => calls_bl (NX.out W))
  have E2 := hide (fun W => calls_bl (E2.out W))
  have E1 := hide (fun W => calls_bl (E1.out W))
  have ew : Ieee.double.word true 4602678819172646912 = 13826050856027422720 := rfl
  rw [ew] at BK
  generalize Ieee.double.word false (2047 * 2 ^ 52) = inf at J1 BN
  simp only [word_f] at E1 E2 NX AD SM L1 L2 L3 Q1 Q2
  rw [show Ieee.double.word (!true && decide (0 < 4607182418800017408)) 4607182418800017408 = 4607182418800017408 from rfl] at AD
  generalize 4599676419421066581 = lo at *
  generalize 4599676419421066582 = hi at *
  have b0 : Below w.heap.size w w := .refl _ _
  clear hq1 hq2 hq3 f1 f2 f3 T e3 ew
  go_enter Tryd.func9, Tryd.ntmps9
  go_wp2_with (first
    | (go_at_call 28; (with_reducible refine (O1.out _).mono ?_); rintro e w1 ⟨A1, c1, B1, d1, rfl, s1, t1, hb⟩; have b1 := bl_trans b0 hb; clear hb)
    | (go_at_call 13; (with_reducible refine (Q1.out A1 B1 c1 d1 _ s1 t1).mono ?_); rintro e w2 ⟨rfl, hb⟩; have b2 := bl_trans b1 hb; clear hb)
    | (go_at_call 28; (with_reducible refine (O2.out _).mono ?_); rintro e w3 ⟨A3, c3, B3, d3, rfl, s3, t3, hb⟩; have b3 := bl_trans b2 hb; clear hb)
    | (go_at_call 13; (with_reducible refine (Q2.out A3 B3 c3 d3 _ s3 t3).mono ?_); rintro e w4 ⟨rfl, hb⟩; have b4 := bl_trans b3 hb; clear hb)
    | (go_at_call 22; (with_reducible refine (L1.out _).mono ?_); rintro e v1 ⟨rfl, rfl⟩)
    | (go_at_call 22; (with_reducible refine (L2.out _).mono ?_); rintro e v1 ⟨rfl, rfl⟩)
    | (go_at_call 22; (with_reducible refine (L3.out _).mono ?_); rintro e v1 ⟨rfl, rfl⟩)
    | (go_at_call 10; (with_reducible refine (BK.out _ b4).mono ?_); rintro e w5 ⟨A5, c5, B5, d5, rfl, s5, t5, hb⟩; have b5 := bl_trans b4 hb; have Y := hide (Q3.new (.bool (qs q3)) (.slice A5 (ln (qn q3)) c5) (.slice B5 (ln (qd q3)) d5) w5); clear hb)
    | (go_at_call 19; (with_reducible refine (J1.out _).mono ?_); rintro e v1 ⟨rfl, rfl⟩)
    | (go_at_call 10; (with_reducible refine (BN.out _).mono ?_); rintro e w6 ⟨rfl, hb⟩; have g := bl_one hb; have b6 := bl_trans b5 g; have Y := hide (Y.out.next hb); have s5 := kp' g s5; have t5 := kp' g t5; clear hb g))
  have kz : Hid (K6 w [(A5, digs (qn q3)), (B5, digs (qd q3))] w6) := hide (K6.cons (K6.cons (K6.nil b6) t5) s5)
  have kd := hide (kz.out.next (bl_al (.refl _ _) (.cells #[.bool false, .slice none 0 0, .slice none 0 0] 24))).drew
  have Y := hide (Y.out.al (.cells #[.bool false, .slice none 0 0, .slice none 0 0] 24))
  clear b0 b1 b2 b3 b4 b5 b6 s5 t5 s1 t1 s3 t3 O1 O2 Q1 Q2 BK BN J1 L1 L2 L3
  refine wp_region_held_drew (S := (fun W => W.cell? ⟨w5.heap.size, 0, none⟩ = some (.bool (qs q3)) ∧ W.cell? ⟨w5.heap.size, 1, none⟩ = some (.slice A5 (ln (qn q3)) c5) ∧ W.cell? ⟨w5.heap.size, 2, none⟩ = some (.slice B5 (ln (qd q3)) d5) ∧ K6 w [(A5, digs (qn q3)), (B5, digs (qd q3))] W)) (by kernel_rfl) ?_ (fun hHeld => ?_)
  · (try dsimp only)
    (first | exact ⟨Y.out.1, Y.out.2.1, Y.out.2.2.1, kd.out⟩ | exact ⟨Y.out.1, Y.out.2.1, Y.out.2.2.1, kz.out.next (bl_al (.refl _ _) _)⟩)
  refine wpAnyH_take (i := 0) (v := ?vv0) (by (simp only [List.getElem?_toArray, List.getElem?_cons_zero, List.getElem?_cons_succ]) <;> rfl) (by kernel_rfl) (by kernel_rfl) (by kernel_rfl) ?hq0 (Or.inl ⟨by rfl, ?hy0⟩) (by assumption) ?_
  case hq0 => exact fun _ _ _ h => h
  case hy0 => ((intro w hSw; (try dsimp only at hSw); go_simp) <;> (with_reducible rfl))
  (try simp only [Act.put, List.setIfInBounds_toArray, List.set_cons_zero, List.set_cons_succ])
  refine wpAnyH_take (i := 1) (v := ?vv1) (by (simp only [List.getElem?_toArray, List.getElem?_cons_zero, List.getElem?_cons_succ]) <;> rfl) (by kernel_rfl) (by kernel_rfl) (by kernel_rfl) ?hq1 (Or.inl ⟨by rfl, ?hy1⟩) (by assumption) ?_
  case hq1 => exact fun _ _ _ h => h
  case hy1 => ((intro w hSw; (try dsimp only at hSw); go_simp) <;> (with_reducible rfl))
  (try simp only [Act.put, List.setIfInBounds_toArray, List.set_cons_zero, List.set_cons_succ])
  refine wpAnyH_take (i := 2) (v := ?vv2) (by (simp only [List.getElem?_toArray, List.getElem?_cons_zero, List.getElem?_cons_succ]) <;> rfl) (by kernel_rfl) (by kernel_rfl) (by kernel_rfl) ?hq2 (Or.inl ⟨by rfl, ?hy2⟩) (by assumption) ?_
  case hq2 => exact fun _ _ _ h => h
  case hy2 => ((intro w hSw; (try dsimp only at hSw); go_simp) <;> (with_reducible rfl))
  (try simp only [Act.put, List.setIfInBounds_toArray, List.set_cons_zero, List.set_cons_succ])
  refine wpAnyH_take (i := 3) (v := ?vv3) (by (simp only [List.getElem?_toArray, List.getElem?_cons_zero, List.getElem?_cons_succ]) <;> rfl) (by kernel_rfl) (by kernel_rfl) (by kernel_rfl) ?hq3 (Or.inl ⟨by rfl, ?hy3⟩) (by assumption) ?_
  case hq3 => exact fun _ _ _ h => h
  case hy3 => ((intro w hSw; (try dsimp only at hSw); go_simp) <;> (with_reducible rfl))
  (try simp only [Act.put, List.setIfInBounds_toArray, List.set_cons_zero, List.set_cons_succ])
  refine wpAnyH_ready (rs := [4]) (by kernel_rfl) (by simp) ?_
  refine AllReadyH.cons (by (simp only [List.getElem?_toArray, List.getElem?_cons_zero, List.getElem?_cons_succ]) <;> rfl) (fun K hK => ?_) AllReadyH.nil
  go_simp
  (go_at_call 21; (with_reducible refine (E1.out _).mono ?_); rintro e v4 ⟨rfl, hb⟩)
  (try go_wp2_with fail)
  refine hK.out _ _ ?_ (fun hHeld => ?_)
  · (try dsimp only)
    (first | with_reducible exact S3w_next hb (by assumption) | with_reducible assumption)
  clear hK K
  (try simp only [Act.put, List.setIfInBounds_toArray, List.set_cons_zero, List.set_cons_succ])
  refine wpAnyH_take (i := 5) (v := ?vv5) (by (simp only [List.getElem?_toArray, List.getElem?_cons_zero, List.getElem?_cons_succ]) <;> rfl) (by kernel_rfl) (by kernel_rfl) (by kernel_rfl) ?hq5 (Or.inl ⟨by rfl, ?hy5⟩) (by assumption) ?_
  case hq5 => exact fun _ _ _ h => h
  case hy5 => ((intro w hSw; (try dsimp only at hSw); go_simp) <;> (with_reducible rfl))
  (try simp only [Act.put, List.setIfInBounds_toArray, List.set_cons_zero, List.set_cons_succ])
  refine wpAnyH_take (i := 6) (v := ?vv6) (by (simp only [List.getElem?_toArray, List.getElem?_cons_zero, List.getElem?_cons_succ]) <;> rfl) (by kernel_rfl) (by kernel_rfl) (by kernel_rfl) ?hq6 (Or.inl ⟨by rfl, ?hy6⟩) (by assumption) ?_
  case hq6 => exact fun _ _ _ h => h
  case hy6 => ((intro w hSw; (try dsimp only at hSw); go_simp) <;> (with_reducible rfl))
  (try simp only [Act.put, List.setIfInBounds_toArray, List.set_cons_zero, List.set_cons_succ])
  refine wpAnyH_take (i := 7) (v := ?vv7) (by (simp only [List.getElem?_toArray, List.getElem?_cons_zero, List.getElem?_cons_succ]) <;> rfl) (by kernel_rfl) (by kernel_rfl) (by kernel_rfl) ?hq7 (Or.inl ⟨by rfl, ?hy7⟩) (by assumption) ?_
  case hq7 => exact fun _ _ _ h => h
  case hy7 => ((intro w hSw; (try dsimp only at hSw); go_simp) <;> (with_reducible rfl))
  (try simp only [Act.put, List.setIfInBounds_toArray, List.set_cons_zero, List.set_cons_succ])
  refine wpAnyH_ready (rs := [8]) (by kernel_rfl) (by simp) ?_
  refine AllReadyH.cons (by (simp only [List.getElem?_toArray, List.getElem?_cons_zero, List.getElem?_cons_succ]) <;> rfl) (fun K hK => ?_) AllReadyH.nil
  go_simp
  (go_at_call 21; (with_reducible refine (E2.out _).mono ?_); rintro e v8 ⟨rfl, hb⟩)
  (try go_wp2_with fail)
  refine hK.out _ _ ?_ (fun hHeld => ?_)
  · (try dsimp only)
    (first | with_reducible exact S3w_next hb (by assumption) | with_reducible assumption)
  clear hK K
  (try simp only [Act.put, List.setIfInBounds_toArray, List.set_cons_zero, List.set_cons_succ])
  refine wpAnyH_take (i := 9) (v := ?vv9) (by (simp only [List.getElem?_toArray, List.getElem?_cons_zero, List.getElem?_cons_succ]) <;> rfl) (by kernel_rfl) (by kernel_rfl) (by kernel_rfl) ?hq9 (Or.inl ⟨by rfl, ?hy9⟩) (by assumption) ?_
  case hq9 => exact fun _ _ _ h => h
  case hy9 => ((intro w hSw; (try dsimp only at hSw); go_simp) <;> (with_reducible rfl))
  (try simp only [Act.put, List.setIfInBounds_toArray, List.set_cons_zero, List.set_cons_succ])
  refine wpAnyH_take (i := 10) (v := ?vv10) (by (simp only [List.getElem?_toArray, List.getElem?_cons_zero, List.getElem?_cons_succ]) <;> rfl) (by kernel_rfl) (by kernel_rfl) (by kernel_rfl) ?hq10 (Or.inl ⟨by rfl, ?hy10⟩) (by assumption) ?_
  case hq10 => exact fun _ _ _ h => h
  case hy10 => ((intro w hSw; (try dsimp only at hSw); go_simp) <;> (with_reducible rfl))
  (try simp only [Act.put, List.setIfInBounds_toArray, List.set_cons_zero, List.set_cons_succ])
  refine wpAnyH_take (i := 11) (v := ?vv11) (by (simp only [List.getElem?_toArray, List.getElem?_cons_zero, List.getElem?_cons_succ]) <;> rfl) (by kernel_rfl) (by kernel_rfl) (by kernel_rfl) ?hq11 (Or.inl ⟨by rfl, ?hy11⟩) (by assumption) ?_
  case hq11 => exact fun _ _ _ h => h
  case hy11 => ((intro w hSw; (try dsimp only at hSw); go_simp) <;> (with_reducible rfl))
  (try simp only [Act.put, List.setIfInBounds_toArray, List.set_cons_zero, List.set_cons_succ])
  refine wpAnyH_take (i := 12) (v := ?vv12) (by (simp only [List.getElem?_toArray, List.getElem?_cons_zero, List.getElem?_cons_succ]) <;> rfl) (by kernel_rfl) (by kernel_rfl) (by kernel_rfl) ?hq12 (Or.inl ⟨by rfl, ?hy12⟩) (by assumption) ?_
  case hq12 => exact fun _ _ _ h => h
  case hy12 => ((intro w hSw; (try dsimp only at hSw); go_simp) <;> (with_reducible rfl))
  (try simp only [Act.put, List.setIfInBounds_toArray, List.set_cons_zero, List.set_cons_succ])
  refine wpAnyH_take (i := 13) (v := ?vv13) (by (simp only [List.getElem?_toArray, List.getElem?_cons_zero, List.getElem?_cons_succ]) <;> rfl) (by kernel_rfl) (by kernel_rfl) (by kernel_rfl) ?hq13 (Or.inl ⟨by rfl, ?hy13⟩) (by assumption) ?_
  case hq13 => exact fun _ _ _ h => h
  case hy13 => ((intro w hSw; (try dsimp only at hSw); go_simp) <;> (with_reducible rfl))
  (try simp only [Act.put, List.setIfInBounds_toArray, List.set_cons_zero, List.set_cons_succ])
  refine wpAnyH_take (i := 14) (v := ?vv14) (by (simp only [List.getElem?_toArray, List.getElem?_cons_zero, List.getElem?_cons_succ]) <;> rfl) (by kernel_rfl) (by kernel_rfl) (by kernel_rfl) ?hq14 (Or.inl ⟨by rfl, ?hy14⟩) (by assumption) ?_
  case hq14 => exact fun _ _ _ h => h
  case hy14 => ((intro w hSw; (try dsimp only at hSw); go_simp) <;> (with_reducible rfl))
  (try simp only [Act.put, List.setIfInBounds_toArray, List.set_cons_zero, List.set_cons_succ])
  refine wpAnyH_take (i := 15) (v := ?vv15) (by (simp only [List.getElem?_toArray, List.getElem?_cons_zero, List.getElem?_cons_succ]) <;> rfl) (by kernel_rfl) (by kernel_rfl) (by kernel_rfl) ?hq15 (Or.inl ⟨by rfl, ?hy15⟩) (by assumption) ?_
  case hq15 => exact fun _ _ _ h => h
  case hy15 => ((intro w hSw; (try dsimp only at hSw); go_simp) <;> (with_reducible rfl))
  (try simp only [Act.put, List.setIfInBounds_toArray, List.set_cons_zero, List.set_cons_succ])
  refine wpAnyH_take (i := 16) (v := ?vv16) (by (simp only [List.getElem?_toArray, List.getElem?_cons_zero, List.getElem?_cons_succ]) <;> rfl) (by kernel_rfl) (by kernel_rfl) (by kernel_rfl) ?hq16 (Or.inl ⟨by rfl, ?hy16⟩) (by assumption) ?_
  case hq16 => exact fun _ _ _ h => h
  case hy16 => ((intro w hSw; (try dsimp only at hSw); go_simp) <;> (with_reducible rfl))
  (try simp only [Act.put, List.setIfInBounds_toArray, List.set_cons_zero, List.set_cons_succ])
  refine wpAnyH_take (i := 17) (v := ?vv17) (by (simp only [List.getElem?_toArray, List.getElem?_cons_zero, List.getElem?_cons_succ]) <;> rfl) (by kernel_rfl) (by kernel_rfl) (by kernel_rfl) ?hq17 (Or.inl ⟨by rfl, ?hy17⟩) (by assumption) ?_
  case hq17 => exact fun _ _ _ h => h
  case hy17 => ((intro w hSw; (try dsimp only at hSw); go_simp) <;> (with_reducible rfl))
  (try simp only [Act.put, List.setIfInBounds_toArray, List.set_cons_zero, List.set_cons_succ])
  refine wpAnyH_take (i := 18) (v := ?vv18) (by (simp only [List.getElem?_toArray, List.getElem?_cons_zero, List.getElem?_cons_succ]) <;> rfl) (by kernel_rfl) (by kernel_rfl) (by kernel_rfl) ?hq18 (Or.inl ⟨by rfl, ?hy18⟩) (by assumption) ?_
  case hq18 => exact fun _ _ _ h => h
  case hy18 => ((intro w hSw; (try dsimp only at hSw); go_simp) <;> (with_reducible rfl))
  (try simp only [Act.put, List.setIfInBounds_toArray, List.set_cons_zero, List.set_cons_succ])
  refine wpAnyH_take (i := 19) (v := ?vv19) (by (simp only [List.getElem?_toArray, List.getElem?_cons_zero, List.getElem?_cons_succ]) <;> rfl) (by kernel_rfl) (by kernel_rfl) (by kernel_rfl) ?hq19 (Or.inl ⟨by rfl, ?hy19⟩) (by assumption) ?_
  case hq19 => exact fun _ _ _ h => h
  case hy19 => ((intro w hSw; (try dsimp only at hSw); go_simp) <;> (with_reducible rfl))
  (try simp only [Act.put, List.setIfInBounds_toArray, List.set_cons_zero, List.set_cons_succ])
  refine wpAnyH_take (i := 20) (v := ?vv20) (by (simp only [List.getElem?_toArray, List.getElem?_cons_zero, List.getElem?_cons_succ]) <;> rfl) (by kernel_rfl) (by kernel_rfl) (by kernel_rfl) ?hq20 (Or.inl ⟨by rfl, ?hy20⟩) (by assumption) ?_
  case hq20 => exact fun _ _ _ h => h
  case hy20 => ((intro w hSw; (try dsimp only at hSw); go_simp) <;> (with_reducible rfl))
  (try simp only [Act.put, List.setIfInBounds_toArray, List.set_cons_zero, List.set_cons_succ])
  refine wpAnyH_take (i := 22) (v := ?vv22) (by (simp only [List.getElem?_toArray, List.getElem?_cons_zero, List.getElem?_cons_succ]) <;> rfl) (by kernel_rfl) (by kernel_rfl) (by kernel_rfl) ?hq22 (Or.inl ⟨by rfl, ?hy22⟩) (by assumption) ?_
  case hq22 => exact fun _ _ _ h => h
  case hy22 => ((intro w hSw; (try dsimp only at hSw); go_simp) <;> (with_reducible rfl))
  (try simp only [Act.put, List.setIfInBounds_toArray, List.set_cons_zero, List.set_cons_succ])
  refine wpAnyH_take (i := 23) (v := ?vv23) (by (simp only [List.getElem?_toArray, List.getElem?_cons_zero, List.getElem?_cons_succ]) <;> rfl) (by kernel_rfl) (by kernel_rfl) (by kernel_rfl) ?hq23 (Or.inl ⟨by rfl, ?hy23⟩) (by assumption) ?_
  case hq23 => exact fun _ _ _ h => h
  case hy23 => ((intro w hSw; (try dsimp only at hSw); go_simp) <;> (with_reducible rfl))
  (try simp only [Act.put, List.setIfInBounds_toArray, List.set_cons_zero, List.set_cons_succ])
  refine wpAnyH_ready (rs := [21]) (by kernel_rfl) (by simp) ?_
  refine AllReadyH.cons (by (simp only [List.getElem?_toArray, List.getElem?_cons_zero, List.getElem?_cons_succ]) <;> rfl) (fun K hK => ?_) AllReadyH.nil
  go_simp
  (go_at_call 18; (with_reducible refine (NX.out _).mono ?_); rintro e v21 ⟨rfl, hb⟩)
  (try go_wp2_with fail)
  refine hK.out _ _ ?_ (fun hHeld => ?_)
  · (try dsimp only)
    (first | with_reducible exact S3w_next hb (by assumption) | with_reducible assumption)
  clear hK K
  (try simp only [Act.put, List.setIfInBounds_toArray, List.set_cons_zero, List.set_cons_succ])
  refine wpAnyH_take (i := 24) (v := ?vv24) (by (simp only [List.getElem?_toArray, List.getElem?_cons_zero, List.getElem?_cons_succ]) <;> rfl) (by kernel_rfl) (by kernel_rfl) (by kernel_rfl) ?hq24 (Or.inl ⟨by rfl, ?hy24⟩) (by assumption) ?_
  case hq24 => exact fun _ _ _ h => h
  case hy24 => ((intro w hSw; (try dsimp only at hSw); go_simp) <;> (with_reducible rfl))
  (try simp only [Act.put, List.setIfInBounds_toArray, List.set_cons_zero, List.set_cons_succ])
  refine wpAnyH_take (i := 25) (v := ?vv25) (by (simp only [List.getElem?_toArray, List.getElem?_cons_zero, List.getElem?_cons_succ]) <;> rfl) (by kernel_rfl) (by kernel_rfl) (by kernel_rfl) ?hq25 (Or.inl ⟨by rfl, ?hy25⟩) (by assumption) ?_
  case hq25 => exact fun _ _ _ h => h
  case hy25 => ((intro w hSw; (try dsimp only at hSw); go_simp) <;> (with_reducible rfl))
  (try simp only [Act.put, List.setIfInBounds_toArray, List.set_cons_zero, List.set_cons_succ])
  refine wpAnyH_take (i := 26) (v := ?vv26) (by (simp only [List.getElem?_toArray, List.getElem?_cons_zero, List.getElem?_cons_succ]) <;> rfl) (by kernel_rfl) (by kernel_rfl) (by kernel_rfl) ?hq26 (Or.inl ⟨by rfl, ?hy26⟩) (by assumption) ?_
  case hq26 => exact fun _ _ _ h => h
  case hy26 => ((intro w hSw; (try dsimp only at hSw); go_simp) <;> (with_reducible rfl))
  (try simp only [Act.put, List.setIfInBounds_toArray, List.set_cons_zero, List.set_cons_succ])
  refine wpAnyH_take (i := 27) (v := ?vv27) (by (simp only [List.getElem?_toArray, List.getElem?_cons_zero, List.getElem?_cons_succ]) <;> rfl) (by kernel_rfl) (by kernel_rfl) (by kernel_rfl) ?hq27 (Or.inl ⟨by rfl, ?hy27⟩) (by assumption) ?_
  case hq27 => exact fun _ _ _ h => h
  case hy27 => ((intro w hSw; (try dsimp only at hSw); go_simp) <;> (with_reducible rfl))
  (try simp only [Act.put, List.setIfInBounds_toArray, List.set_cons_zero, List.set_cons_succ])
  refine wpAnyH_take (i := 28) (v := ?vv28) (by (simp only [List.getElem?_toArray, List.getElem?_cons_zero, List.getElem?_cons_succ]) <;> rfl) (by kernel_rfl) (by kernel_rfl) (by kernel_rfl) ?hq28 (Or.inl ⟨by rfl, ?hy28⟩) (by assumption) ?_
  case hq28 => exact fun _ _ _ h => h
  case hy28 => ((intro w hSw; (try dsimp only at hSw); go_simp) <;> (with_reducible rfl))
  (try simp only [Act.put, List.setIfInBounds_toArray, List.set_cons_zero, List.set_cons_succ])
  refine wpAnyH_take (i := 29) (v := ?vv29) (by (simp only [List.getElem?_toArray, List.getElem?_cons_zero, List.getElem?_cons_succ]) <;> rfl) (by kernel_rfl) (by kernel_rfl) (by kernel_rfl) ?hq29 (Or.inl ⟨by rfl, ?hy29⟩) (by assumption) ?_
  case hq29 => exact fun _ _ _ h => h
  case hy29 => ((intro w hSw; (try dsimp only at hSw); go_simp) <;> (with_reducible rfl))
  (try simp only [Act.put, List.setIfInBounds_toArray, List.set_cons_zero, List.set_cons_succ])
  refine wpAnyH_take (i := 30) (v := ?vv30) (by (simp only [List.getElem?_toArray, List.getElem?_cons_zero, List.getElem?_cons_succ]) <;> rfl) (by kernel_rfl) (by kernel_rfl) (by kernel_rfl) ?hq30 (Or.inl ⟨by rfl, ?hy30⟩) (by assumption) ?_
  case hq30 => exact fun _ _ _ h => h
  case hy30 => ((intro w hSw; (try dsimp only at hSw); go_simp) <;> (with_reducible rfl))
  (try simp only [Act.put, List.setIfInBounds_toArray, List.set_cons_zero, List.set_cons_succ])
  refine wpAnyH_take (i := 31) (v := ?vv31) (by (simp only [List.getElem?_toArray, List.getElem?_cons_zero, List.getElem?_cons_succ]) <;> rfl) (by kernel_rfl) (by kernel_rfl) (by kernel_rfl) ?hq31 (Or.inl ⟨by rfl, ?hy31⟩) (by assumption) ?_
  case hq31 => exact fun _ _ _ h => h
  case hy31 => ((intro w hSw; (try dsimp only at hSw); go_simp) <;> (with_reducible rfl))
  (try simp only [Act.put, List.setIfInBounds_toArray, List.set_cons_zero, List.set_cons_succ])
  refine wpAnyH_take (i := 32) (v := ?vv32) (by (simp only [List.getElem?_toArray, List.getElem?_cons_zero, List.getElem?_cons_succ]) <;> rfl) (by kernel_rfl) (by kernel_rfl) (by kernel_rfl) ?hq32 (Or.inl ⟨by rfl, ?hy32⟩) (by assumption) ?_
  case hq32 => exact fun _ _ _ h => h
  case hy32 => ((intro w hSw; (try dsimp only at hSw); go_simp) <;> (with_reducible rfl))
  (try simp only [Act.put, List.setIfInBounds_toArray, List.set_cons_zero, List.set_cons_succ])
  refine wpAnyH_take (i := 33) (v := ?vv33) (by (simp only [List.getElem?_toArray, List.getElem?_cons_zero, List.getElem?_cons_succ]) <;> rfl) (by kernel_rfl) (by kernel_rfl) (by kernel_rfl) ?hq33 (Or.inl ⟨by rfl, ?hy33⟩) (by assumption) ?_
  case hq33 => exact fun _ _ _ h => h
  case hy33 => ((intro w hSw; (try dsimp only at hSw); go_simp) <;> (with_reducible rfl))
  (try simp only [Act.put, List.setIfInBounds_toArray, List.set_cons_zero, List.set_cons_succ])
  refine wpAnyH_take (i := 34) (v := ?vv34) (by (simp only [List.getElem?_toArray, List.getElem?_cons_zero, List.getElem?_cons_succ]) <;> rfl) (by kernel_rfl) (by kernel_rfl) (by kernel_rfl) ?hq34 (Or.inl ⟨by rfl, ?hy34⟩) (by assumption) ?_
  case hq34 => exact fun _ _ _ h => h
  case hy34 => ((intro w hSw; (try dsimp only at hSw); go_simp) <;> (with_reducible rfl))
  (try simp only [Act.put, List.setIfInBounds_toArray, List.set_cons_zero, List.set_cons_succ])
  refine wpAnyH_take (i := 35) (v := ?vv35) (by (simp only [List.getElem?_toArray, List.getElem?_cons_zero, List.getElem?_cons_succ]) <;> rfl) (by kernel_rfl) (by kernel_rfl) (by kernel_rfl) ?hq35 (Or.inl ⟨by rfl, ?hy35⟩) (by assumption) ?_
  case hq35 => exact fun _ _ _ h => h
  case hy35 => ((intro w hSw; (try dsimp only at hSw); go_simp) <;> (with_reducible rfl))
  (try simp only [Act.put, List.setIfInBounds_toArray, List.set_cons_zero, List.set_cons_succ])
  refine wpAnyH_take (i := 36) (v := ?vv36) (by (simp only [List.getElem?_toArray, List.getElem?_cons_zero, List.getElem?_cons_succ]) <;> rfl) (by kernel_rfl) (by kernel_rfl) (by kernel_rfl) ?hq36 (Or.inl ⟨by rfl, ?hy36⟩) (by assumption) ?_
  case hq36 => exact fun _ _ _ h => h
  case hy36 => ((intro w hSw; (try dsimp only at hSw); go_simp) <;> (with_reducible rfl))
  (try simp only [Act.put, List.setIfInBounds_toArray, List.set_cons_zero, List.set_cons_succ])
  refine wpAnyH_take (i := 37) (v := ?vv37) (by (simp only [List.getElem?_toArray, List.getElem?_cons_zero, List.getElem?_cons_succ]) <;> rfl) (by kernel_rfl) (by kernel_rfl) (by kernel_rfl) ?hq37 (Or.inl ⟨by rfl, ?hy37⟩) (by assumption) ?_
  case hq37 => exact fun _ _ _ h => h
  case hy37 => ((intro w hSw; (try dsimp only at hSw); go_simp) <;> (with_reducible rfl))
  (try simp only [Act.put, List.setIfInBounds_toArray, List.set_cons_zero, List.set_cons_succ])
  refine wpAnyH_take (i := 38) (v := ?vv38) (by (simp only [List.getElem?_toArray, List.getElem?_cons_zero, List.getElem?_cons_succ]) <;> rfl) (by kernel_rfl) (by kernel_rfl) (by kernel_rfl) ?hq38 (Or.inl ⟨by rfl, ?hy38⟩) (by assumption) ?_
  case hq38 => exact fun _ _ _ h => h
  case hy38 => ((intro w hSw; (try dsimp only at hSw); go_simp) <;> (with_reducible rfl))
  (try simp only [Act.put, List.setIfInBounds_toArray, List.set_cons_zero, List.set_cons_succ])
  refine wpAnyH_take (i := 39) (v := ?vv39) (by (simp only [List.getElem?_toArray, List.getElem?_cons_zero, List.getElem?_cons_succ]) <;> rfl) (by kernel_rfl) (by kernel_rfl) (by kernel_rfl) ?hq39 (Or.inl ⟨by rfl, ?hy39⟩) (by assumption) ?_
  case hq39 => exact fun _ _ _ h => h
  case hy39 => ((intro w hSw; (try dsimp only at hSw); go_simp) <;> (with_reducible rfl))
  (try simp only [Act.put, List.setIfInBounds_toArray, List.set_cons_zero, List.set_cons_succ])
  refine wpAnyH_take (i := 40) (v := ?vv40) (by (simp only [List.getElem?_toArray, List.getElem?_cons_zero, List.getElem?_cons_succ]) <;> rfl) (by kernel_rfl) (by kernel_rfl) (by kernel_rfl) ?hq40 (Or.inl ⟨by rfl, ?hy40⟩) (by assumption) ?_
  case hq40 => exact fun _ _ _ h => h
  case hy40 => ((intro w hSw; (try dsimp only at hSw); go_simp) <;> (with_reducible rfl))
  (try simp only [Act.put, List.setIfInBounds_toArray, List.set_cons_zero, List.set_cons_succ])
  refine wpAnyH_take (i := 41) (v := ?vv41) (by (simp only [List.getElem?_toArray, List.getElem?_cons_zero, List.getElem?_cons_succ]) <;> rfl) (by kernel_rfl) (by kernel_rfl) (by kernel_rfl) ?hq41 (Or.inl ⟨by rfl, ?hy41⟩) (by assumption) ?_
  case hq41 => exact fun _ _ _ h => h
  case hy41 => ((intro w hSw; (try dsimp only at hSw); go_simp) <;> (with_reducible rfl))
  (try simp only [Act.put, List.setIfInBounds_toArray, List.set_cons_zero, List.set_cons_succ])
  refine wpAnyH_take (i := 42) (v := ?vv42) (by (simp only [List.getElem?_toArray, List.getElem?_cons_zero, List.getElem?_cons_succ]) <;> rfl) (by kernel_rfl) (by kernel_rfl) (by kernel_rfl) ?hq42 (Or.inl ⟨by rfl, ?hy42⟩) (by assumption) ?_
  case hq42 => exact fun _ _ _ h => h
  case hy42 => ((intro w hSw; (try dsimp only at hSw); go_simp) <;> (with_reducible rfl))
  (try simp only [Act.put, List.setIfInBounds_toArray, List.set_cons_zero, List.set_cons_succ])
  refine wpAnyH_take (i := 43) (v := ?vv43) (by (simp only [List.getElem?_toArray, List.getElem?_cons_zero, List.getElem?_cons_succ]) <;> rfl) (by kernel_rfl) (by kernel_rfl) (by kernel_rfl) ?hq43 (Or.inl ⟨by rfl, ?hy43⟩) (by assumption) ?_
  case hq43 => exact fun _ _ _ h => h
  case hy43 => ((intro w hSw; (try dsimp only at hSw); go_simp) <;> (with_reducible rfl))
  (try simp only [Act.put, List.setIfInBounds_toArray, List.set_cons_zero, List.set_cons_succ])
  refine wpAnyH_take (i := 44) (v := ?vv44) (by (simp only [List.getElem?_toArray, List.getElem?_cons_zero, List.getElem?_cons_succ]) <;> rfl) (by kernel_rfl) (by kernel_rfl) (by kernel_rfl) ?hq44 (Or.inl ⟨by rfl, ?hy44⟩) (by assumption) ?_
  case hq44 => exact fun _ _ _ h => h
  case hy44 => ((intro w hSw; (try dsimp only at hSw); go_simp) <;> (with_reducible rfl))
  (try simp only [Act.put, List.setIfInBounds_toArray, List.set_cons_zero, List.set_cons_succ])
  refine wpAnyH_take (i := 45) (v := ?vv45) (by (simp only [List.getElem?_toArray, List.getElem?_cons_zero, List.getElem?_cons_succ]) <;> rfl) (by kernel_rfl) (by kernel_rfl) (by kernel_rfl) ?hq45 (Or.inl ⟨by rfl, ?hy45⟩) (by assumption) ?_
  case hq45 => exact fun _ _ _ h => h
  case hy45 => ((intro w hSw; (try dsimp only at hSw); go_simp) <;> (with_reducible rfl))
  (try simp only [Act.put, List.setIfInBounds_toArray, List.set_cons_zero, List.set_cons_succ])
  refine wpAnyH_take (i := 46) (v := ?vv46) (by (simp only [List.getElem?_toArray, List.getElem?_cons_zero, List.getElem?_cons_succ]) <;> rfl) (by kernel_rfl) (by kernel_rfl) (by kernel_rfl) ?hq46 (Or.inl ⟨by rfl, ?hy46⟩) (by assumption) ?_
  case hq46 => exact fun _ _ _ h => h
  case hy46 => ((intro w hSw; (try dsimp only at hSw); go_simp) <;> (with_reducible rfl))
  (try simp only [Act.put, List.setIfInBounds_toArray, List.set_cons_zero, List.set_cons_succ])
  refine wpAnyH_take (i := 47) (v := ?vv47) (by (simp only [List.getElem?_toArray, List.getElem?_cons_zero, List.getElem?_cons_succ]) <;> rfl) (by kernel_rfl) (by kernel_rfl) (by kernel_rfl) ?hq47 (Or.inl ⟨by rfl, ?hy47⟩) (by assumption) ?_
  case hq47 => exact fun _ _ _ h => h
  case hy47 => ((intro w hSw; (try dsimp only at hSw); go_simp) <;> (with_reducible rfl))
  (try simp only [Act.put, List.setIfInBounds_toArray, List.set_cons_zero, List.set_cons_succ])
  refine wpAnyH_ready (rs := [48]) (by kernel_rfl) (by simp) ?_
  refine AllReadyH.cons (by (simp only [List.getElem?_toArray, List.getElem?_cons_zero, List.getElem?_cons_succ]) <;> rfl) (fun K hK => ?_) AllReadyH.nil
  go_simp
  (go_at_call 28; (with_reducible refine (O3.out _).mono ?_); rintro e v48 ⟨P3, p3, R3, r3, rfl, y3, y4, hb⟩)
  (try go_wp2_with fail)
  refine hK.out _ _ ?_ (fun hHeld => ?_)
  · (try dsimp only)
    (first | with_reducible exact S3w_next hb (by assumption) | with_reducible assumption)
  clear hK K
  (try simp only [Act.put, List.setIfInBounds_toArray, List.set_cons_zero, List.set_cons_succ])
  refine wpAnyH_ready (rs := [49]) (by kernel_rfl) (by simp) ?_
  refine AllReadyH.cons (by (simp only [List.getElem?_toArray, List.getElem?_cons_zero, List.getElem?_cons_succ]) <;> rfl) (fun K hK => ?_) AllReadyH.nil
  go_simp
  (go_at_call 15; (with_reducible refine (SQ.out A5 B5 P3 R3 c5 d5 p3 r3 _ (K6.sl (k3k (by assumption)) nem1) (K6.sl (k3k (by assumption)) nem2) y3 y4).mono ?_); rintro e v49 ⟨rfl, hb⟩)
  (try go_wp2_with fail)
  refine hK.out _ _ ?_ (fun hHeld => ?_)
  · (try dsimp only)
    (first | with_reducible exact S3w_next hb (by assumption) | with_reducible assumption)
  clear hK K
  (try simp only [Act.put, List.setIfInBounds_toArray, List.set_cons_zero, List.set_cons_succ])
  refine wpAnyH_take (i := 50) (v := ?vv50) (by (simp only [List.getElem?_toArray, List.getElem?_cons_zero, List.getElem?_cons_succ]) <;> rfl) (by kernel_rfl) (by kernel_rfl) (by kernel_rfl) ?hq50 (Or.inl ⟨by rfl, ?hy50⟩) (by assumption) ?_
  case hq50 => exact fun _ _ _ h => h
  case hy50 => ((intro w hSw; (try dsimp only at hSw); go_simp) <;> (with_reducible rfl))
  (try simp only [Act.put, List.setIfInBounds_toArray, List.set_cons_zero, List.set_cons_succ])
  refine wpAnyH_take (i := 51) (v := ?vv51) (by (simp only [List.getElem?_toArray, List.getElem?_cons_zero, List.getElem?_cons_succ]) <;> rfl) (by kernel_rfl) (by kernel_rfl) (by kernel_rfl) ?hq51 (Or.inl ⟨by rfl, ?hy51⟩) (by assumption) ?_
  case hq51 => exact fun _ _ _ h => h
  case hy51 => ((intro w hSw; (try dsimp only at hSw); go_simp) <;> (with_reducible rfl))
  (try simp only [Act.put, List.setIfInBounds_toArray, List.set_cons_zero, List.set_cons_succ])
  refine wpAnyH_take (i := 52) (v := ?vv52) (by (simp only [List.getElem?_toArray, List.getElem?_cons_zero, List.getElem?_cons_succ]) <;> rfl) (by kernel_rfl) (by kernel_rfl) (by kernel_rfl) ?hq52 (Or.inl ⟨by rfl, ?hy52⟩) (by assumption) ?_
  case hq52 => exact fun _ _ _ h => h
  case hy52 => ((intro w hSw; (try dsimp only at hSw); go_simp) <;> (with_reducible rfl))
  (try simp only [Act.put, List.setIfInBounds_toArray, List.set_cons_zero, List.set_cons_succ])
  refine wpAnyH_take (i := 53) (v := ?vv53) (by (simp only [List.getElem?_toArray, List.getElem?_cons_zero, List.getElem?_cons_succ]) <;> rfl) (by kernel_rfl) (by kernel_rfl) (by kernel_rfl) ?hq53 (Or.inl ⟨by rfl, ?hy53⟩) (by assumption) ?_
  case hq53 => exact fun _ _ _ h => h
  case hy53 => ((intro w hSw; (try dsimp only at hSw); go_simp) <;> (with_reducible rfl))
  (try simp only [Act.put, List.setIfInBounds_toArray, List.set_cons_zero, List.set_cons_succ])
  refine wpAnyH_take (i := 54) (v := ?vv54) (by (simp only [List.getElem?_toArray, List.getElem?_cons_zero, List.getElem?_cons_succ]) <;> rfl) (by kernel_rfl) (by kernel_rfl) (by kernel_rfl) ?hq54 (Or.inl ⟨by rfl, ?hy54⟩) (by assumption) ?_
  case hq54 => exact fun _ _ _ h => h
  case hy54 => ((intro w hSw; (try dsimp only at hSw); go_simp) <;> (with_reducible rfl))
  (try simp only [Act.put, List.setIfInBounds_toArray, List.set_cons_zero, List.set_cons_succ])
  refine wpAnyH_take (i := 55) (v := ?vv55) (by (simp only [List.getElem?_toArray, List.getElem?_cons_zero, List.getElem?_cons_succ]) <;> rfl) (by kernel_rfl) (by kernel_rfl) (by kernel_rfl) ?hq55 (Or.inl ⟨by rfl, ?hy55⟩) (by assumption) ?_
  case hq55 => exact fun _ _ _ h => h
  case hy55 => ((intro w hSw; (try dsimp only at hSw); go_simp) <;> (with_reducible rfl))
  (try simp only [Act.put, List.setIfInBounds_toArray, List.set_cons_zero, List.set_cons_succ])
  refine wpAnyH_take (i := 56) (v := ?vv56) (by (simp only [List.getElem?_toArray, List.getElem?_cons_zero, List.getElem?_cons_succ]) <;> rfl) (by kernel_rfl) (by kernel_rfl) (by kernel_rfl) ?hq56 (Or.inl ⟨by rfl, ?hy56⟩) (by assumption) ?_
  case hq56 => exact fun _ _ _ h => h
  case hy56 => ((intro w hSw; (try dsimp only at hSw); go_simp) <;> (with_reducible rfl))
  (try simp only [Act.put, List.setIfInBounds_toArray, List.set_cons_zero, List.set_cons_succ])
  refine wpAnyH_take (i := 57) (v := ?vv57) (by (simp only [List.getElem?_toArray, List.getElem?_cons_zero, List.getElem?_cons_succ]) <;> rfl) (by kernel_rfl) (by kernel_rfl) (by kernel_rfl) ?hq57 (Or.inl ⟨by rfl, ?hy57⟩) (by assumption) ?_
  case hq57 => exact fun _ _ _ h => h
  case hy57 => ((intro w hSw; (try dsimp only at hSw); go_simp) <;> (with_reducible rfl))
  (try simp only [Act.put, List.setIfInBounds_toArray, List.set_cons_zero, List.set_cons_succ])
  refine wpAnyH_ready (rs := [58]) (by kernel_rfl) (by simp) ?_
  refine AllReadyH.cons (by (simp only [List.getElem?_toArray, List.getElem?_cons_zero, List.getElem?_cons_succ]) <;> rfl) (fun K hK => ?_) AllReadyH.nil
  go_simp
  (go_at_call 24; (with_reducible refine (AD.out _).mono ?_); rintro e v58 ⟨rfl, hb⟩)
  (try go_wp2_with fail)
  refine hK.out _ _ ?_ (fun hHeld => ?_)
  · (try dsimp only)
    (first | with_reducible exact S3w_next hb (by assumption) | with_reducible assumption)
  clear hK K
  (try simp only [Act.put, List.setIfInBounds_toArray, List.set_cons_zero, List.set_cons_succ])
  refine wpAnyH_ready (rs := [59]) (by kernel_rfl) (by simp) ?_
  refine AllReadyH.cons (by (simp only [List.getElem?_toArray, List.getElem?_cons_zero, List.getElem?_cons_succ]) <;> rfl) (fun K hK => ?_) AllReadyH.nil
  go_simp
  (go_at_call 12; (with_reducible refine (SM.out _).mono ?_); rintro e v59 ⟨rfl, hb⟩)
  (try go_wp2_with fail)
  refine hK.out _ _ ?_ (fun hHeld => ?_)
  · (try dsimp only)
    (first | with_reducible exact S3w_next hb (by assumption) | with_reducible assumption)
  clear hK K
  (try simp only [Act.put, List.setIfInBounds_toArray, List.set_cons_zero, List.set_cons_succ])
  refine wpAnyH_take (i := 60) (v := ?vv60) (by (simp only [List.getElem?_toArray, List.getElem?_cons_zero, List.getElem?_cons_succ]) <;> rfl) (by kernel_rfl) (by kernel_rfl) (by kernel_rfl) ?hq60 (Or.inl ⟨by rfl, ?hy60⟩) (by assumption) ?_
  case hq60 => exact fun _ _ _ h => h
  case hy60 => ((intro w hSw; (try dsimp only at hSw); go_simp) <;> (with_reducible rfl))
  (try simp only [Act.put, List.setIfInBounds_toArray, List.set_cons_zero, List.set_cons_succ])
  refine wpAnyH_take (i := 61) (v := ?vv61) (by (simp only [List.getElem?_toArray, List.getElem?_cons_zero, List.getElem?_cons_succ]) <;> rfl) (by kernel_rfl) (by kernel_rfl) (by kernel_rfl) ?hq61 (Or.inl ⟨by rfl, ?hy61⟩) (by assumption) ?_
  case hq61 => exact fun _ _ _ h => h
  case hy61 => ((intro w hSw; (try dsimp only at hSw); go_simp) <;> (with_reducible rfl))
  (try simp only [Act.put, List.setIfInBounds_toArray, List.set_cons_zero, List.set_cons_succ])
  refine wpAnyH_done (by kernel_rfl) ?_ _
  all_goals
    go_wp2
    go_ret
    exact ⟨rfl, K6.b (k3k (by assumption))⟩
end Nt
end Go.Proofs.YtgmjdaallinicaaDoor
set_option linter.unusedVariables false
namespace Go.Proofs.YtgmjdaallinicaaDoor
open Go.RowKit
namespace Nt

theorem I_up (z : Nat) : I (decide (0 < z)) z = -(U z : Int) := by
  by_cases h : 0 < z
  · rw [decide_eq_true h, I_t]
  · obtain rfl : z = 0 := by omega
    rfl
/-- The bounds, in units. -/
def loI (s : Bool) (z : Nat) (x : Bool) : Int := if s then -(U (hiR z x) : Int) else U (loR z)
def hiI (s : Bool) (z : Nat) (x : Bool) : Int := if s then -(U (loR z) : Int) else U (hiR z x)
theorem Qb.vals {s : Bool} {n d : Nat} {rs is : Bool} {r i : Nat} (h : Qb s n d rs r is i) : ∃ z x, Fl n d z ∧ x = decide (U z * d = n * KU) ∧ I rs r = loI s z x ∧ I is i = hiI s z x ∧ r ≤ 2047 * 2 ^ 52 ∧ i ≤ 2047 * 2 ^ 52 := by
  obtain ⟨z, x, h1, h2, h3⟩ := h
  refine ⟨z, x, h1, h2, ?_⟩
  cases s with
  | false =>
    rw [if_neg (by decide)] at h3
    obtain ⟨rfl, rfl, rfl, rfl⟩ := h3
    exact ⟨rfl, rfl, Nat.le_of_lt (loR_lt z), hiR_le z x⟩
  | true =>
    rw [if_pos rfl] at h3
    obtain ⟨rfl, rfl, rfl, rfl⟩ := h3
    exact ⟨rfl, I_up _, hiR_le z x, Nat.le_of_lt (loR_lt z)⟩
theorem fl_mono {n d n' d' z z' : Nat} (hd : 0 < d) (hd' : 0 < d') (h : Fl n d z) (h' : Fl n' d' z') (hle : n * d' ≤ n' * d) : z ≤ z' := by
  have h1 : U z * d * d' ≤ n * KU * d' := Nat.mul_le_mul_right _ h.1
  have h2 : n' * KU * d < U (z' + 1) * d' * d := Nat.mul_lt_mul_of_pos_right h'.2 hd
  have h3 : n * KU * d' ≤ n' * KU * d := by
    rw [Nat.mul_right_comm n, Nat.mul_right_comm n']
    exact Nat.mul_le_mul_right _ hle
  have h4 : U z * (d * d') < U (z' + 1) * (d * d') := by
    rw [← Nat.mul_assoc, Nat.mul_comm d d', ← Nat.mul_assoc]
    omega
  have := U_lt_iff.1 (Nat.lt_of_mul_lt_mul_right h4)
  omega
theorem hi_mono {n d n' d' z z' : Nat} {x x' : Bool} (hd : 0 < d) (hd' : 0 < d') (h : Fl n d z) (h' : Fl n' d' z') (hx : x = decide (U z * d = n * KU)) (hx' : x' = decide (U z' * d' = n' * KU)) (hle : n * d' ≤ n' * d) : hiR z x ≤ hiR z' x' := by
  have hz := fl_mono hd hd' h h' hle
  have a1 : hiR z x ≤ min (z + 1) (2047 * 2 ^ 52) := by
    unfold hiR
    cases x <;> simp only [Bool.false_eq_true, if_false, if_true] <;> omega
  have a2 : min z' (2047 * 2 ^ 52) ≤ hiR z' x' := by
    unfold hiR
    cases x' <;> simp only [Bool.false_eq_true, if_false, if_true] <;> omega
  by_cases e : z = z'
  · subst e
    cases x with
    | true =>
      have : hiR z true = min z (2047 * 2 ^ 52) := by unfold hiR; rw [if_pos rfl]
      omega
    | false =>
      obtain rfl : x' = false := by
        rw [hx']
        refine decide_eq_false fun e => ?_
        have e1 := of_decide_eq_false hx.symm
        have h1 : U z * d < n * KU := Nat.lt_of_le_of_ne h.1 e1
        have h2 : U z * d * d' < n * KU * d' := Nat.mul_lt_mul_of_pos_right h1 hd'
        have h3 : n * KU * d' ≤ n' * KU * d := by
          rw [Nat.mul_right_comm n, Nat.mul_right_comm n']
          exact Nat.mul_le_mul_right _ hle
        rw [← e, Nat.mul_right_comm (U z) d'] at h3
        omega
      exact Nat.le_refl _
  · omega
theorem lo_mono {z z' : Nat} (h : z ≤ z') : loR z ≤ loR z' := by unfold loR; omega
theorem U_mono {a b : Nat} (h : a ≤ b) : U a ≤ U b := U_le_iff.2 h
theorem cmpN_le0 {x y : Nat} : cmpN x y ≤ 0 ↔ x ≤ y := by
  rcases Nat.lt_trichotomy x y with h | h | h
  · have := cmpN_lt h; omega
  · subst h; have := @cmpN_eq x; omega
  · have := cmpN_gt h; omega
/-- Greater numbers have bounds that are not less. -/
theorem bounds_mono {q r : Rat} (h : cmpQ q r ≤ 0) {z z' : Nat} {x x' : Bool} (hf : Fl (qn q) (qd q) z) (hf' : Fl (qn r) (qd r) z') (hx : x = decide (U z * qd q = qn q * KU)) (hx' : x' = decide (U z' * qd r = qn r * KU)) : loI (qs q) z x ≤ loI (qs r) z' x' ∧ hiI (qs q) z x ≤ hiI (qs r) z' x' := by
  have p1 := qd_pos q
  have p2 := qd_pos r
  unfold loI hiI
  cases hs : qs q <;> cases hr : qs r <;> simp only [Bool.false_eq_true, if_false, if_true]
  · rw [cmpQ_pp hs hr] at h
    have hle := cmpN_le0.1 h
    have h1 := U_mono (lo_mono (fl_mono p1 p2 hf hf' hle))
    have h2 := U_mono (hi_mono p1 p2 hf hf' hx hx' hle)
    omega
  · rw [cmpQ_pn hs hr] at h
    omega
  · omega
  · rw [cmpQ_nn hs hr] at h
    have hle := cmpN_le0.1 h
    have h1 := U_mono (lo_mono (fl_mono p2 p1 hf' hf hle))
    have h2 := U_mono (hi_mono p2 p1 hf' hf hx' hx hle)
    omega
/-- A negative's bounds are its own, turned. -/
theorem bounds_neg (q : Rat) {z z' : Nat} {x x' : Bool} (hf : Fl (qn q) (qd q) z) (hf' : Fl (qn (-q)) (qd (-q)) z') (hx : x = decide (U z * qd q = qn q * KU)) (hx' : x' = decide (U z' * qd (-q) = qn (-q) * KU)) : loI (qs (-q)) z' x' = -hiI (qs q) z x ∧ hiI (qs (-q)) z' x' = -loI (qs q) z x := by
  rw [qn_neg, qd_neg] at hf' hx'
  obtain rfl := hf.one hf'
  obtain rfl : x = x' := by rw [hx, hx']
  rw [qs_neg]
  unfold loI hiI
  by_cases h0 : 0 < qn q
  · rw [decide_eq_true h0, Bool.and_true]
    cases qs q
    · exact ⟨rfl, rfl⟩
    · exact ⟨(Int.neg_neg _).symm, (Int.neg_neg _).symm⟩
  · have e0 : qn q = 0 := by omega
    have hs : qs q = false := by
      cases h : qs q
      · rfl
      · exact absurd (qn_pos_of_neg h) h0
    rw [e0] at hf hx
    obtain ⟨f0, x0⟩ := fl_zero (qd q) (qd_pos q)
    obtain rfl := hf.one f0
    obtain rfl : x = true := by rw [hx, ← x0]
    rw [decide_eq_false h0, Bool.and_false, hs, hiR_t (Nat.zero_le _), loR_of (by decide)]
    simp only [Bool.false_eq_true, if_false, U_zero]
    exact ⟨rfl, rfl⟩
/-- A number lies within its bounds, where they are finite. -/
theorem lo_le (q : Rat) {z : Nat} {x : Bool} (hf : Fl (qn q) (qd q) z) (hx : x = decide (U z * qd q = qn q * KU)) (rs : Bool) (r : Nat) (hr : r < 2047 * 2 ^ 52) (hv : I rs r = loI (qs q) z x) : rq rs r ≤ q := by
  rw [rq_le, hv, num_sgz]
  unfold loI sgz
  show (if qs q then -(U (hiR z x) : Int) else U (loR z)) * (qd q : Int) ≤ _
  have h2 := hf.1
  have h3 := hf.2
  cases hs : qs q
  · simp only [Bool.false_eq_true, if_false]
    have h1 : U (loR z) * qd q ≤ U z * qd q := Nat.mul_le_mul_right _ (U_mono (Nat.min_le_left _ _))
    have : U (loR z) * qd q ≤ qn q * KU := Nat.le_trans h1 h2
    exact_mod_cast this
  · simp only [if_true]
    have : qn q * KU ≤ U (hiR z x) * qd q := by
      have hc : hiR z x < 2047 * 2 ^ 52 := by
        refine Nat.lt_of_le_of_ne (hiR_le z x) fun e => ?_
        unfold loI at hv
        rw [hs, if_pos rfl, e] at hv
        have h5 := U_lt hr
        cases rs
        · rw [I_f] at hv
          have := U_pos (show 0 < 2047 * 2 ^ 52 by decide)
          omega
        · rw [I_t] at hv
          omega
      cases x with
      | true =>
        have hz : z ≤ 2047 * 2 ^ 52 := by
          unfold hiR at hc
          rw [if_pos rfl] at hc
          omega
        rw [hiR_t hz, of_decide_eq_true hx.symm]
        exact Nat.le_refl _
      | false =>
        have hz : z < 2047 * 2 ^ 52 := by
          unfold hiR at hc
          rw [if_neg (by decide)] at hc
          omega
        rw [hiR_f hz]
        exact Nat.le_of_lt h3
    have h4 : (qn q : Int) * KU ≤ (U (hiR z x) : Int) * qd q := by exact_mod_cast this
    rw [Int.neg_mul, Int.neg_mul]
    omega
theorem le_hi (q : Rat) {z : Nat} {x : Bool} (hf : Fl (qn q) (qd q) z) (hx : x = decide (U z * qd q = qn q * KU)) (is : Bool) (i : Nat) (hi : i < 2047 * 2 ^ 52) (hv : I is i = hiI (qs q) z x) : q ≤ rq is i := by
  have hf' : Fl (qn (-q)) (qd (-q)) z := by rw [qn_neg, qd_neg]; exact hf
  have hx' : x = decide (U z * qd (-q) = qn (-q) * KU) := by rw [qn_neg, qd_neg]; exact hx
  have h1 := lo_le (-q) hf' hx' (!is) i hi (by rw [I_not, (bounds_neg q hf hf' hx hx').1, hv])
  have e : rq (!is) i = -rq is i := by
    unfold rq
    rw [I_not, Rat.neg_mkRat]
  rw [e] at h1
  have := Rat.neg_le_neg h1
  rwa [Rat.neg_neg, Rat.neg_neg] at this
theorem fin_hi {s : Bool} {n d : Nat} {rs is : Bool} {r i : Nat} (h : Qb s n d rs r is i) {v : Int} (hv : I is i < v) (hj : v ≤ U (2047 * 2 ^ 52 - 1)) : i < 2047 * 2 ^ 52 := by
  obtain ⟨z, x, h1, h2, h3⟩ := h
  cases s with
  | false =>
    rw [if_neg (by decide)] at h3
    obtain ⟨-, -, rfl, rfl⟩ := h3
    refine Nat.lt_of_le_of_ne (hiR_le z x) fun e => ?_
    rw [e, I_f] at hv
    have := U_lt (show 2047 * 2 ^ 52 - 1 < 2047 * 2 ^ 52 by decide)
    omega
  | true =>
    rw [if_pos rfl] at h3
    obtain ⟨-, -, -, rfl⟩ := h3
    exact loR_lt z
theorem lo_top {s : Bool} {n d : Nat} {rs is : Bool} {r i : Nat} (h : Qb s n d rs r is i) : I rs r ≤ U (2047 * 2 ^ 52 - 1) := by
  obtain ⟨z, x, h1, h2, h3⟩ := h
  cases s with
  | false =>
    rw [if_neg (by decide)] at h3
    obtain ⟨rfl, rfl, -, -⟩ := h3
    rw [I_f]
    have := U_mono (Nat.le_sub_one_of_lt (loR_lt z))
    omega
  | true =>
    rw [if_pos rfl] at h3
    obtain ⟨rfl, -, -, -⟩ := h3
    rw [I_t]
    omega
theorem fin_lo {s : Bool} {n d : Nat} {rs is : Bool} {r i : Nat} (h : Qb s n d rs r is i) {v : Int} (hv : v ≤ I rs r) (hj : -(U (2047 * 2 ^ 52 - 1) : Int) ≤ v) : r < 2047 * 2 ^ 52 := by
  obtain ⟨z, x, h1, h2, h3⟩ := h
  cases s with
  | false =>
    rw [if_neg (by decide)] at h3
    obtain ⟨-, rfl, -, -⟩ := h3
    exact loR_lt z
  | true =>
    rw [if_pos rfl] at h3
    obtain ⟨rfl, rfl, -, -⟩ := h3
    refine Nat.lt_of_le_of_ne (hiR_le z x) fun e => ?_
    rw [e, I_t] at hv
    have := U_lt (show 2047 * 2 ^ 52 - 1 < 2047 * 2 ^ 52 by decide)
    omega
theorem hi_low {s : Bool} {n d : Nat} {rs is : Bool} {r i : Nat} (h : Qb s n d rs r is i) : -(U (2047 * 2 ^ 52 - 1) : Int) ≤ I is i := by
  obtain ⟨z, x, h1, h2, h3⟩ := h
  cases s with
  | false =>
    rw [if_neg (by decide)] at h3
    obtain ⟨-, -, rfl, -⟩ := h3
    rw [I_f]
    omega
  | true =>
    rw [if_pos rfl] at h3
    obtain ⟨-, -, rfl, rfl⟩ := h3
    rw [I_up]
    have := U_mono (Nat.le_sub_one_of_lt (loR_lt z))
    omega
theorem rq_mono {s t : Bool} {a b : Nat} : rq s a < rq t b ↔ I s a < I t b := by
  obtain ⟨m, h1, h2, h3⟩ := rq_ends t b
  have hm : (0 : Int) < m := by omega
  have hd : (0 : Int) < ((rq t b).den : Int) := by have := (rq t b).den_pos; omega
  have e : (KU : Int) = ((rq t b).den : Int) * m := by rw [h3]; push_cast; rfl
  rw [rq_lt, e, ← Int.mul_assoc, Int.mul_right_comm, ← h2]
  exact Int.mul_lt_mul_right hd
/-- What is sure is so. -/
theorem sure_lt {q p : Rat} {rs is rs' is' : Bool} {r i r' i' : Nat} (h : Qb (qs q) (qn q) (qd q) rs r is i) (h' : Qb (qs p) (qn p) (qd p) rs' r' is' i') (hl : I is i < I rs' r') : q < p := by
  have a1 := fin_hi h hl (lo_top h')
  have a2 := fin_lo h' (Int.le_of_lt hl) (hi_low h)
  obtain ⟨z, x, g1, g2, g3, g4, -, -⟩ := h.vals
  obtain ⟨z', x', k1, k2, k3, k4, -, -⟩ := h'.vals
  have e1 := le_hi q g1 g2 is i a1 g4
  have e2 := lo_le p k1 k2 rs' r' a2 k3
  exact lt_trans' (lt_trans'' e1 (rq_mono.2 hl)) e2
theorem sure_ge {q p : Rat} {rs is rs' is' : Bool} {r i r' i' : Nat} (h : Qb (qs q) (qn q) (qd q) rs r is i) (h' : Qb (qs p) (qn p) (qd p) rs' r' is' i') (hl : I is' i' ≤ I rs r) : p ≤ q := by
  obtain ⟨z, x, g1, g2, g3, g4, -, -⟩ := h.vals
  obtain ⟨z', x', k1, k2, k3, k4, -, -⟩ := h'.vals
  have a2 := fin_lo h hl (hi_low h')
  have a1 : i' < 2047 * 2 ^ 52 := by
    refine Nat.lt_of_le_of_ne (by obtain ⟨_, _, _, _, _, _, _, w⟩ := h'.vals; exact w) fun e => ?_
    have t1 := lo_top h
    have t2 := U_lt (show 2047 * 2 ^ 52 - 1 < 2047 * 2 ^ 52 by decide)
    by_cases c : I is' i' < U (2047 * 2 ^ 52 - 1)
    · have := fin_hi h' c (Int.le_refl _); omega
    · cases is'
      · rw [e, I_f] at hl; omega
      · rw [e, I_t] at c
        have := hi_low h'
        rw [e, I_t] at this
        omega
  have e1 := le_hi p k1 k2 is' i' a1 k4
  have e2 := lo_le q g1 g2 rs r a2 g3
  exact Rat.le_trans e1 (Rat.le_trans (Rat.not_lt.1 fun hc => absurd (rq_mono.1 hc) (by omega)) e2)
theorem cmpQ_ge' {q r : Rat} (h : r ≤ q) : 0 ≤ cmpQ q r := by
  unfold cmpQ
  rw [if_neg (Rat.not_lt.2 h)]
  split <;> decide
end Nt
end Go.Proofs.YtgmjdaallinicaaDoor
