
/-
  The reference's TextInt of what is not below 0; the law DecimalShows.
  Decimals and powers of ten; the law DecimalBack.
-/
import Derived.Test.YtboppbidldomhaaGreatDoorDec

import Derived.Test.YtboppbidldomhaaGreatDoorRefTextN

import Derived.Deep.RegionHeld3

namespace Go.Proofs.YtboppbidldomhaaGreatDoor

open Go.RowKit

namespace Nt

theorem rtextI_n (A : Option Addr) (c n : Nat) (w : World) (sx : Sl w A (digs n)) (hl : ln n ≤ 64) :
    Calls Tryz.prog 38 #[.agg #[.bool false, .slice A (ln n) c]] w fun e w' => e = .returned (.string ⟨(Lib.decDigits n).toArray⟩) ∧ Below w.heap.size w w' := by
  have V1 := hide (fun W (k : Below w.heap.size w W) => rvalidI_any false A c (digs n) W (kp' k sx) (Nat.le_trans hl (by decide)))
  rw [show validI false (digs n) = true from validI_iff.2 ⟨valid_short hl (norm_digs _), fun h => by cases h⟩] at V1
  have V1 : Hid (∀ W, Below w.heap.size w W → Calls Tryz.prog 89 #[.agg #[.bool false, .slice A (ln n) c]] W fun e w' => e = .returned (.bool true) ∧ Below W.heap.size W w') := V1
  have T := hide (fun W (k : Below w.heap.size w W) => rtext_any A c (digs n) W (kp' k sx) (limbs_digs _) (Nat.le_trans hl (by decide)))
  rw [show textSp (digs n) = Lib.decDigits n by unfold textSp; rw [valid_short hl (norm_digs _), val_digs]; rfl] at T
  have T : Hid (∀ W, Below w.heap.size w W → Calls Tryz.prog 87 #[.slice A (ln n) c] W fun e w' => e = .returned (.string ⟨(Lib.decDigits n).toArray⟩) ∧ Below W.heap.size W w') := T
  clear sx hl
  generalize (⟨(Lib.decDigits n).toArray⟩ : ByteArray) = D at *
  generalize ln n = i at *
  have X1 := hide (Q2.new (.bool false) (.slice A i c) w)
  have b0 : Below w.heap.size w (w.alloc (.cells #[.bool false, .slice A i c] 50)) := bl_al (.refl _ _) _
  obtain ⟨x1, x2, x3, x4⟩ := X1.out
  go_enter Tryz.func38, Tryz.ntmps38
  go_wp2_with (first
    | (go_at_call 89; (with_reducible refine (V1.out _ b0).mono ?_); rintro e w1 ⟨rfl, hb⟩; have X1 := hide (X1.out.next hb); clear x1 x2 x3 x4; obtain ⟨x1, x2, x3, x4⟩ := X1.out; have b1 := bl_trans b0 hb; clear hb)
    | (go_at_call 87; (with_reducible refine (T.out _ b1).mono ?_); rintro e w2 ⟨rfl, hb⟩; have b2 := bl_trans b1 hb; clear hb))
  go_ret
  exact ⟨rfl, b2⟩
theorem int_b4 {n : Int} (h : (Lit.int .i64 n).wf = true) : -9223372036854775808 ≤ n ∧ n ≤ 9223372036854775807 := by
  have hb : IntKind.i64.min = -9223372036854775808 ∧ IntKind.i64.max = 9223372036854775807 := ⟨rfl, rfl⟩
  simp only [Lit.wf, hb.1, hb.2, Bool.and_eq_true, decide_eq_true_eq] at h
  exact h
theorem bl_drewN {B : Nat} {a w : World} (h : Below B a w) (k : Nat) : Below B a (w.drewN k) := ⟨h.os, h.tape, h.output, h.size, h.block⟩
theorem K6.drewN {w W : World} {l : List (Option Addr × List Nat)} (k : K6 w l W) (n : Nat) : K6 w l (W.drewN n) := ⟨bl_drewN k.1 n, k.2⟩
theorem K6.al {w W : World} {l : List (Option Addr × List Nat)} (k : K6 w l W) (o : Obj) : K6 w l (W.alloc o) := k.next (bl_al (.refl _ _) o)
theorem lssI_t (t : TypeId) {x y : Int} (h : x < y) : binOp .lss t (.int .i64 x) (.int .i64 y) = pure (.bool true) := by
  show pure (Value.bool (decide (x < y))) = _
  rw [decide_eq_true h]
theorem lssI_f (t : TypeId) {x y : Int} (h : y ≤ x) : binOp .lss t (.int .i64 x) (.int .i64 y) = pure (.bool false) := by
  show pure (Value.bool (decide (x < y))) = _
  rw [decide_eq_false (by omega)]
theorem gtrI_t (t : TypeId) {x y : Int} (h : y < x) : binOp .gtr t (.int .i64 x) (.int .i64 y) = pure (.bool true) := by
  show pure (Value.bool (decide (x > y))) = _
  rw [decide_eq_true h]
theorem gtrI_f (t : TypeId) {x y : Int} (h : x ≤ y) : binOp .gtr t (.int .i64 x) (.int .i64 y) = pure (.bool false) := by
  show pure (Value.bool (decide (x > y))) = _
  rw [decide_eq_false (by omega)]

/-- The fraction of two ints, the lower one above 0. -/
theorem frac_parts (n d : Int) (hd : 0 < d) : ∃ q : Rat, qmk (isg n != isg d) n.natAbs d.natAbs = q ∧ qs q = decide (n < 0) ∧ qn q = n.natAbs / Nat.gcd n.natAbs d.natAbs ∧ qd q = d.natAbs / Nat.gcd n.natAbs d.natAbs := by
  have h0 : d.natAbs ≠ 0 := by omega
  refine ⟨_, rfl, ?_, qn_mk _ _ h0, qd_mk _ _ h0⟩
  rw [qs_mk _ _ h0]
  have e1 : isg d = false := by unfold isg; exact decide_eq_false (by omega)
  rw [e1, Bool.bne_false]
  unfold isg
  by_cases hn : n < 0
  · rw [decide_eq_true hn, Bool.true_and, decide_eq_true]
    exact Nat.div_pos (Nat.gcd_le_left _ (by omega)) (Nat.gcd_pos_of_pos_left _ (by omega))
  · rw [decide_eq_false hn, Bool.false_and]

/-- .. no fraction. -/
theorem none_den (s : Bool) (xs : List Nat) : validQ s xs [] = false := validQ_c rfl

set_option maxRecDepth 100000 in
set_option maxHeartbeats 16000000 in
theorem shows_in (n d : Int) (w : World) (d1 : 1 ≤ d) (d2 : d ≤ 1073741824) (n1 : -1099511627776 ≤ n) (n2 : n ≤ 1099511627776) (ht : Pow10 w) :
    Calls Tryz.prog 7 #[.int .i64 n, .int .i64 d] w fun e w' => e = .returned (.bool true) ∧ Below w.heap.size w w' := by
  obtain ⟨q, hq, hs, hqn, hqd⟩ := frac_parts n d (by omega)
  obtain ⟨k, hk⟩ : ∃ k : Nat, n.natAbs = k := ⟨_, rfl⟩
  obtain ⟨m, hm⟩ : ∃ m : Nat, d.natAbs = m := ⟨_, rfl⟩
  obtain rfl : d = (m : Int) := by omega
  have OF := hide (fun W => rof_q n (m : Int) q W (by omega) (by omega) (by omega) (by omega) (by omega) hq)
  rw [hk, hm] at hqn hqd
  have kb : k ≤ 1099511627776 := by omega
  have mb : m ≤ 1073741824 ∧ 0 < m := by omega
  have fq : fitq q := ⟨Nat.le_trans (ln_le (k := 1) (by rw [Nat.pow_one, LB_eq, hqn]; have := Nat.div_le_self k (Nat.gcd k m); omega)) (by decide), Nat.le_trans (ln_le (k := 1) (by rw [Nat.pow_one, LB_eq, hqd]; have := Nat.div_le_self m (Nat.gcd k m); omega)) (by decide)⟩
  have hmx : ∀ ts t W, (Builtin.max_ ts t #[.int .i64 n, .int .i64 (-n)]).run Tryz.prog W = .ok (.int .i64 (k : Int)) W := fun ts t W => by
    rw [run_max_int2]
    congr 2
    split <;> omega
  have wn : IntKind.i64.wrap (-n) = -n := IntWalk.i64_in _ ⟨by omega, by omega⟩
  have c1 := lssI_f 3 d1
  have c2 := gtrI_f 3 d2
  have c3 := lssI_f 3 n1
  have c4 := gtrI_f 3 n2
  have NB := hide (And.intro n1 n2)
  have FK := hide (And.intro kb mb)
  have QN := hide hqn
  have QD := hide hqd
  have SG := hide hs
  have FQ := hide fq
  have HT := hide ht
  have HK := hide hk
  clear hq hs hqn hqd hk hm fq ht kb mb d1 d2 n1 n2
  go_enter Tryz.func7, Tryz.ntmps7
  go_wp2_with (go_at_call 35; (with_reducible refine (OF.out _).mono ?_); rintro e w1 ⟨A1, a1, B1, b1, rfl, s1, t1, hb1⟩; have KA := hide ((K6.cons (K6.cons (K6.nil (bl_al hb1 (.cells #[.bool (qs q), .slice A1 (ln (qn q)) a1, .slice B1 (ln (qd q)) b1] 24))) (t1.alloc _)) (s1.alloc _)) : K6 w [(A1, digs (qn q)), (B1, digs (qd q))] _); have Y1 := hide (Q3.new (.bool (qs q)) (.slice A1 (ln (qn q)) a1) (.slice B1 (ln (qd q)) b1) w1); clear s1 t1 hb1)
  clear c1 c2 c3 c4 hmx wn OF
  go_loopw [6, 8] (fun gv mv wr => ∃ x y : Nat, gv = .int .i64 (x : Int) ∧ mv = .int .i64 (y : Int) ∧ Nat.gcd x y = Nat.gcd k m ∧ 0 < x ∧ x ≤ 1099511627776 ∧ y ≤ 1099511627776 ∧ K6 w [(A1, digs (qn q)), (B1, digs (qd q))] wr ∧ Q3 w1.heap.size (.bool (qs q)) (.slice A1 (ln (qn q)) a1) (.slice B1 (ln (qd q)) b1) wr) (fun _ mv _ => (intOf mv).toNat)
  case atStart => exact ⟨m, k, rfl, rfl, Nat.gcd_comm _ _, FK.out.2.2, by have := FK.out.2.1; omega, FK.out.1, KA.out, Y1.out⟩
  case round =>
    obtain ⟨x, y, rfl, rfl, hg, xp, xb, yb, hk6, hy3⟩ := hrel
    have KB := hide hk6
    have Y2 := hide hy3
    clear KA Y1 hk6 hy3
    by_cases h0 : y = 0
    · subst h0
      rw [Nat.gcd_zero_right] at hg
      have qn1 : k / x = qn q := by rw [hg]; exact QN.out.symm
      have qd1 : m / x = qd q := by rw [hg]; exact QD.out.symm
      have o1 := i64_quo 3 k x (by have := FK.out.1; omega) xp
      have o2 := i64_quo 3 m x (by have := FK.out.2.1; omega) xp
      rw [qn1] at o1
      rw [qd1] at o2
      have hx0 : (0 : Int) < (x : Int) := by omega
      have hx1 : ((x : Int) == 0) = false := beq_eq_false_iff_ne.2 (by omega)
      have qn_le : qn q ≤ 1099511627776 := by rw [← qn1]; exact Nat.le_trans (Nat.div_le_self _ _) FK.out.1
      have qd_le : qd q ≤ 1073741824 := by rw [← qd1]; exact Nat.le_trans (Nat.div_le_self _ _) FK.out.2.1
      by_cases h1 : qd q = 1 <;> by_cases h2 : n < 0
      · skip
        have z1 := dec_size FQ.out.1
        have z2 := dec_size FQ.out.2
        obtain ⟨D1, hD1⟩ : ∃ D : ByteArray, D = ⟨(Lib.decDigits (qn q)).toArray⟩ := ⟨_, rfl⟩
        obtain ⟨D2, hD2⟩ : ∃ D : ByteArray, D = ⟨(Lib.decDigits (qd q)).toArray⟩ := ⟨_, rfl⟩
        have l1 : D1.data.toList = Lib.decDigits (qn q) := by rw [hD1]
        have l2 : D2.data.toList = Lib.decDigits (qd q) := by rw [hD2]
        rw [← hD1] at z1
        rw [← hD2] at z2
        have TI1 : Hid (∀ X e W, Sl W X (digs (qn q)) → Calls Tryz.prog 38 #[.agg #[.bool false, .slice X (ln (qn q)) e]] W fun e w' => e = .returned (.string D1) ∧ Below W.heap.size W w') := fun X e W s => by rw [hD1]; exact rtextI_n X e (qn q) W s FQ.out.1
        have E : Hid ((⟨(showT q).toArray⟩ : ByteArray) = (⟨#[40, 45, 32]⟩ ++ (D1 ++ ⟨#[46, 48]⟩)) ++ ⟨#[41]⟩) := by
          show _ = _
          unfold showT sizeT
          rw [if_pos h1, SG.out, decide_eq_true h2, ← l1]
          apply ByteArray.ext
          simp
        have j1 := eq_s 9 E.out
        have j2 := eq_s 9 (show (⟨#[]⟩ : ByteArray) = ⟨#[]⟩ from rfl)
        clear E l1 l2 hD1 hD2
        have p1 := op_cat 9 (D1) (⟨#[46, 48]⟩) (by have : (⟨#[46, 48]⟩ : ByteArray).size = 2 := rfl; have : (⟨#[40, 47, 32]⟩ : ByteArray).size = 3 := rfl; have : (⟨#[32]⟩ : ByteArray).size = 1 := rfl; have : (⟨#[46, 48, 41]⟩ : ByteArray).size = 3 := rfl; have : (⟨#[40, 45, 32]⟩ : ByteArray).size = 3 := rfl; have : (⟨#[41]⟩ : ByteArray).size = 1 := rfl; omega)
        have y21 : ((D1) ++ (⟨#[46, 48]⟩) : ByteArray).size ≤ 10010 := by rw [ByteArray.size_append]; have : (⟨#[46, 48]⟩ : ByteArray).size = 2 := rfl; have : (⟨#[40, 47, 32]⟩ : ByteArray).size = 3 := rfl; have : (⟨#[32]⟩ : ByteArray).size = 1 := rfl; have : (⟨#[46, 48, 41]⟩ : ByteArray).size = 3 := rfl; have : (⟨#[40, 45, 32]⟩ : ByteArray).size = 3 := rfl; have : (⟨#[41]⟩ : ByteArray).size = 1 := rfl; omega
        generalize ((D1) ++ (⟨#[46, 48]⟩) : ByteArray) = D3 at *
        have p2 := op_cat 9 (⟨#[40, 45, 32]⟩) (D3) (by have : (⟨#[46, 48]⟩ : ByteArray).size = 2 := rfl; have : (⟨#[40, 47, 32]⟩ : ByteArray).size = 3 := rfl; have : (⟨#[32]⟩ : ByteArray).size = 1 := rfl; have : (⟨#[46, 48, 41]⟩ : ByteArray).size = 3 := rfl; have : (⟨#[40, 45, 32]⟩ : ByteArray).size = 3 := rfl; have : (⟨#[41]⟩ : ByteArray).size = 1 := rfl; omega)
        have y22 : ((⟨#[40, 45, 32]⟩) ++ (D3) : ByteArray).size ≤ 20060 := by rw [ByteArray.size_append]; have : (⟨#[46, 48]⟩ : ByteArray).size = 2 := rfl; have : (⟨#[40, 47, 32]⟩ : ByteArray).size = 3 := rfl; have : (⟨#[32]⟩ : ByteArray).size = 1 := rfl; have : (⟨#[46, 48, 41]⟩ : ByteArray).size = 3 := rfl; have : (⟨#[40, 45, 32]⟩ : ByteArray).size = 3 := rfl; have : (⟨#[41]⟩ : ByteArray).size = 1 := rfl; omega
        generalize ((⟨#[40, 45, 32]⟩) ++ (D3) : ByteArray) = D8 at *
        have p3 := op_cat 9 (D8) (⟨#[41]⟩) (by have : (⟨#[46, 48]⟩ : ByteArray).size = 2 := rfl; have : (⟨#[40, 47, 32]⟩ : ByteArray).size = 3 := rfl; have : (⟨#[32]⟩ : ByteArray).size = 1 := rfl; have : (⟨#[46, 48, 41]⟩ : ByteArray).size = 3 := rfl; have : (⟨#[40, 45, 32]⟩ : ByteArray).size = 3 := rfl; have : (⟨#[41]⟩ : ByteArray).size = 1 := rfl; omega)
        have y23 : ((D8) ++ (⟨#[41]⟩) : ByteArray).size ≤ 20070 := by rw [ByteArray.size_append]; have : (⟨#[46, 48]⟩ : ByteArray).size = 2 := rfl; have : (⟨#[40, 47, 32]⟩ : ByteArray).size = 3 := rfl; have : (⟨#[32]⟩ : ByteArray).size = 1 := rfl; have : (⟨#[46, 48, 41]⟩ : ByteArray).size = 3 := rfl; have : (⟨#[40, 45, 32]⟩ : ByteArray).size = 3 := rfl; have : (⟨#[41]⟩ : ByteArray).size = 1 := rfl; omega
        generalize ((D8) ++ (⟨#[41]⟩) : ByteArray) = D9 at *
        have OI1 : Hid (∀ W, Calls Tryz.prog 39 #[.int .i64 ((qn q : Nat) : Int)] W fun e w' => ∃ A c, e = .returned (.agg #[.bool false, .slice A (ln (qn q)) c]) ∧ Sl w' A (digs (qn q)) ∧ Below W.heap.size W w') := fun W => rof_z ((qn q : Nat) : Int) W (by omega) (by have := qn_le; omega)
        have SH := hide (fun W (k : K6 w [(A1, digs (qn q)), (B1, digs (qd q))] W) => show_q q A1 B1 a1 b1 W (k.sl nem1) (k.sl nem2) FQ.out (pow_below HT.out k.b))
        have SN : Hid (∀ W, K6 w [(A1, digs (qn q)), (B1, digs (qd q))] W → Calls Tryz.prog 33 #[.agg #[.bool (qs q), .slice A1 (ln (qn q)) a1, .slice none 0 0]] W fun e w' => e = .returned (.string ⟨#[]⟩) ∧ Below W.heap.size W w') := fun W k => show_no (qs q) A1 none a1 0 (digs (qn q)) [] W (k.sl nem1) .nil (limbs_digs _) .nil (Nat.le_trans FQ.out.1 (by decide)) (by decide) (none_den _ _)
        have AW := hide (fun W (k : K6 w [(A1, digs (qn q)), (B1, digs (qd q))] W) => awake4_any W (pow_below HT.out k.b))
        have g1 := gtrI_f 3 (show ((qd q : Nat) : Int) ≤ 1 by have := qd_pos q; omega)
        have g2 := lssI_t 3 (show n < 0 by omega)
        clear h1 h2 qn_le qd_le FQ HT SG QN QD HK FK NB xp xb yb hg z1 z2 qn1 qd1 y21 y22 y23
        generalize (⟨(showT q).toArray⟩ : ByteArray) = DS at *
        go_wp2
        go_region
        go_wp2_with (first
          | (go_at_call 39; (with_reducible refine (OI1.out _).mono ?_); rintro e v1 ⟨P1, p1, rfl, u1, hb⟩; have KB := hide (K6.next KB.out.drew hb); have Y2 := hide (Q3.next Y2.out.drew hb); have U1 := hide u1; clear u1 hb)
          | (go_at_call 38; (with_reducible refine (TI1.out P1 p1 _ U1.out).mono ?_); rintro e v2 ⟨rfl, hb⟩; have KB := hide (KB.out.next hb); have Y2 := hide (Y2.out.next hb); clear hb; (try clear y1 y2 y3 y4 y5 y6 yd1 yd2 yd3); obtain ⟨y1, y2, y3, y4, y5, y6⟩ := Y2.out; have yd1 := fun X => (Y2.out.al X).1; have yd2 := fun X => (Y2.out.al X).2.1; have yd3 := fun X => (Y2.out.al X).2.2.1)
          | (go_at_call 33; (with_reducible refine (SH.out _ (KB.out.al _)).mono ?_); rintro e v5 ⟨rfl, hb⟩; have KB := hide ((KB.out.al _).next hb); have Z := hide ((Q3.new (.bool (qs q)) (.slice A1 (ln (qn q)) a1) (.slice none 0 0) v2).next hb); clear y1 y2 y3 y4 y5 y6 yd1 yd2 yd3 hb; obtain ⟨q1, q2, q3, q4, q5, q6⟩ := Z.out)
          | (go_at_call 33; (with_reducible refine (SN.out _ KB.out).mono ?_); rintro e v6 ⟨rfl, hb⟩; have KB := hide (KB.out.next hb); clear hb)
          | (go_at_call 27; (with_reducible refine (AW.out _ KB.out).mono ?_); rintro e v7 ⟨rfl, hb⟩; have KB := hide (KB.out.next hb); clear hb))
        go_ret
        exact ⟨rfl, KB.out.b⟩
      · skip
        have z1 := dec_size FQ.out.1
        have z2 := dec_size FQ.out.2
        obtain ⟨D1, hD1⟩ : ∃ D : ByteArray, D = ⟨(Lib.decDigits (qn q)).toArray⟩ := ⟨_, rfl⟩
        obtain ⟨D2, hD2⟩ : ∃ D : ByteArray, D = ⟨(Lib.decDigits (qd q)).toArray⟩ := ⟨_, rfl⟩
        have l1 : D1.data.toList = Lib.decDigits (qn q) := by rw [hD1]
        have l2 : D2.data.toList = Lib.decDigits (qd q) := by rw [hD2]
        rw [← hD1] at z1
        rw [← hD2] at z2
        have TI1 : Hid (∀ X e W, Sl W X (digs (qn q)) → Calls Tryz.prog 38 #[.agg #[.bool false, .slice X (ln (qn q)) e]] W fun e w' => e = .returned (.string D1) ∧ Below W.heap.size W w') := fun X e W s => by rw [hD1]; exact rtextI_n X e (qn q) W s FQ.out.1
        have E : Hid ((⟨(showT q).toArray⟩ : ByteArray) = D1 ++ ⟨#[46, 48]⟩) := by
          show _ = _
          unfold showT sizeT
          rw [if_pos h1, SG.out, decide_eq_false h2, ← l1]
          apply ByteArray.ext
          simp
        have j1 := eq_s 9 E.out
        have j2 := eq_s 9 (show (⟨#[]⟩ : ByteArray) = ⟨#[]⟩ from rfl)
        clear E l1 l2 hD1 hD2
        have p1 := op_cat 9 (D1) (⟨#[46, 48]⟩) (by have : (⟨#[46, 48]⟩ : ByteArray).size = 2 := rfl; have : (⟨#[40, 47, 32]⟩ : ByteArray).size = 3 := rfl; have : (⟨#[32]⟩ : ByteArray).size = 1 := rfl; have : (⟨#[46, 48, 41]⟩ : ByteArray).size = 3 := rfl; have : (⟨#[40, 45, 32]⟩ : ByteArray).size = 3 := rfl; have : (⟨#[41]⟩ : ByteArray).size = 1 := rfl; omega)
        have y21 : ((D1) ++ (⟨#[46, 48]⟩) : ByteArray).size ≤ 10010 := by rw [ByteArray.size_append]; have : (⟨#[46, 48]⟩ : ByteArray).size = 2 := rfl; have : (⟨#[40, 47, 32]⟩ : ByteArray).size = 3 := rfl; have : (⟨#[32]⟩ : ByteArray).size = 1 := rfl; have : (⟨#[46, 48, 41]⟩ : ByteArray).size = 3 := rfl; have : (⟨#[40, 45, 32]⟩ : ByteArray).size = 3 := rfl; have : (⟨#[41]⟩ : ByteArray).size = 1 := rfl; omega
        generalize ((D1) ++ (⟨#[46, 48]⟩) : ByteArray) = D3 at *
        have OI1 : Hid (∀ W, Calls Tryz.prog 39 #[.int .i64 ((qn q : Nat) : Int)] W fun e w' => ∃ A c, e = .returned (.agg #[.bool false, .slice A (ln (qn q)) c]) ∧ Sl w' A (digs (qn q)) ∧ Below W.heap.size W w') := fun W => rof_z ((qn q : Nat) : Int) W (by omega) (by have := qn_le; omega)
        have SH := hide (fun W (k : K6 w [(A1, digs (qn q)), (B1, digs (qd q))] W) => show_q q A1 B1 a1 b1 W (k.sl nem1) (k.sl nem2) FQ.out (pow_below HT.out k.b))
        have SN : Hid (∀ W, K6 w [(A1, digs (qn q)), (B1, digs (qd q))] W → Calls Tryz.prog 33 #[.agg #[.bool (qs q), .slice A1 (ln (qn q)) a1, .slice none 0 0]] W fun e w' => e = .returned (.string ⟨#[]⟩) ∧ Below W.heap.size W w') := fun W k => show_no (qs q) A1 none a1 0 (digs (qn q)) [] W (k.sl nem1) .nil (limbs_digs _) .nil (Nat.le_trans FQ.out.1 (by decide)) (by decide) (none_den _ _)
        have AW := hide (fun W (k : K6 w [(A1, digs (qn q)), (B1, digs (qd q))] W) => awake4_any W (pow_below HT.out k.b))
        have g1 := gtrI_f 3 (show ((qd q : Nat) : Int) ≤ 1 by have := qd_pos q; omega)
        have g2 := lssI_f 3 (show (0 : Int) ≤ n by omega)
        clear h1 h2 qn_le qd_le FQ HT SG QN QD HK FK NB xp xb yb hg z1 z2 qn1 qd1 y21
        generalize (⟨(showT q).toArray⟩ : ByteArray) = DS at *
        go_wp2
        go_region
        go_wp2_with (first
          | (go_at_call 39; (with_reducible refine (OI1.out _).mono ?_); rintro e v1 ⟨P1, p1, rfl, u1, hb⟩; have KB := hide (K6.next KB.out.drew hb); have Y2 := hide (Q3.next Y2.out.drew hb); have U1 := hide u1; clear u1 hb)
          | (go_at_call 38; (with_reducible refine (TI1.out P1 p1 _ U1.out).mono ?_); rintro e v2 ⟨rfl, hb⟩; have KB := hide (KB.out.next hb); have Y2 := hide (Y2.out.next hb); clear hb; (try clear y1 y2 y3 y4 y5 y6 yd1 yd2 yd3); obtain ⟨y1, y2, y3, y4, y5, y6⟩ := Y2.out; have yd1 := fun X => (Y2.out.al X).1; have yd2 := fun X => (Y2.out.al X).2.1; have yd3 := fun X => (Y2.out.al X).2.2.1)
          | (go_at_call 33; (with_reducible refine (SH.out _ (KB.out.al _)).mono ?_); rintro e v5 ⟨rfl, hb⟩; have KB := hide ((KB.out.al _).next hb); have Z := hide ((Q3.new (.bool (qs q)) (.slice A1 (ln (qn q)) a1) (.slice none 0 0) v2).next hb); clear y1 y2 y3 y4 y5 y6 yd1 yd2 yd3 hb; obtain ⟨q1, q2, q3, q4, q5, q6⟩ := Z.out)
          | (go_at_call 33; (with_reducible refine (SN.out _ KB.out).mono ?_); rintro e v6 ⟨rfl, hb⟩; have KB := hide (KB.out.next hb); clear hb)
          | (go_at_call 27; (with_reducible refine (AW.out _ KB.out).mono ?_); rintro e v7 ⟨rfl, hb⟩; have KB := hide (KB.out.next hb); clear hb))
        go_ret
        exact ⟨rfl, KB.out.b⟩
      · skip
        have z1 := dec_size FQ.out.1
        have z2 := dec_size FQ.out.2
        obtain ⟨D1, hD1⟩ : ∃ D : ByteArray, D = ⟨(Lib.decDigits (qn q)).toArray⟩ := ⟨_, rfl⟩
        obtain ⟨D2, hD2⟩ : ∃ D : ByteArray, D = ⟨(Lib.decDigits (qd q)).toArray⟩ := ⟨_, rfl⟩
        have l1 : D1.data.toList = Lib.decDigits (qn q) := by rw [hD1]
        have l2 : D2.data.toList = Lib.decDigits (qd q) := by rw [hD2]
        rw [← hD1] at z1
        rw [← hD2] at z2
        have TI1 : Hid (∀ X e W, Sl W X (digs (qn q)) → Calls Tryz.prog 38 #[.agg #[.bool false, .slice X (ln (qn q)) e]] W fun e w' => e = .returned (.string D1) ∧ Below W.heap.size W w') := fun X e W s => by rw [hD1]; exact rtextI_n X e (qn q) W s FQ.out.1
        have TI2 : Hid (∀ X e W, Sl W X (digs (qd q)) → Calls Tryz.prog 38 #[.agg #[.bool false, .slice X (ln (qd q)) e]] W fun e w' => e = .returned (.string D2) ∧ Below W.heap.size W w') := fun X e W s => by rw [hD2]; exact rtextI_n X e (qd q) W s FQ.out.2
        have E : Hid ((⟨(showT q).toArray⟩ : ByteArray) = (⟨#[40, 45, 32]⟩ ++ (((⟨#[40, 47, 32]⟩ ++ (D1 ++ ⟨#[46, 48]⟩)) ++ ⟨#[32]⟩ ++ D2) ++ ⟨#[46, 48, 41]⟩)) ++ ⟨#[41]⟩) := by
          show _ = _
          unfold showT sizeT
          rw [if_neg h1, SG.out, decide_eq_true h2, ← l1, ← l2]
          apply ByteArray.ext
          simp
        have j1 := eq_s 9 E.out
        have j2 := eq_s 9 (show (⟨#[]⟩ : ByteArray) = ⟨#[]⟩ from rfl)
        clear E l1 l2 hD1 hD2
        have p1 := op_cat 9 (D1) (⟨#[46, 48]⟩) (by have : (⟨#[46, 48]⟩ : ByteArray).size = 2 := rfl; have : (⟨#[40, 47, 32]⟩ : ByteArray).size = 3 := rfl; have : (⟨#[32]⟩ : ByteArray).size = 1 := rfl; have : (⟨#[46, 48, 41]⟩ : ByteArray).size = 3 := rfl; have : (⟨#[40, 45, 32]⟩ : ByteArray).size = 3 := rfl; have : (⟨#[41]⟩ : ByteArray).size = 1 := rfl; omega)
        have y21 : ((D1) ++ (⟨#[46, 48]⟩) : ByteArray).size ≤ 10010 := by rw [ByteArray.size_append]; have : (⟨#[46, 48]⟩ : ByteArray).size = 2 := rfl; have : (⟨#[40, 47, 32]⟩ : ByteArray).size = 3 := rfl; have : (⟨#[32]⟩ : ByteArray).size = 1 := rfl; have : (⟨#[46, 48, 41]⟩ : ByteArray).size = 3 := rfl; have : (⟨#[40, 45, 32]⟩ : ByteArray).size = 3 := rfl; have : (⟨#[41]⟩ : ByteArray).size = 1 := rfl; omega
        generalize ((D1) ++ (⟨#[46, 48]⟩) : ByteArray) = D3 at *
        have p2 := op_cat 9 (⟨#[40, 47, 32]⟩) (D3) (by have : (⟨#[46, 48]⟩ : ByteArray).size = 2 := rfl; have : (⟨#[40, 47, 32]⟩ : ByteArray).size = 3 := rfl; have : (⟨#[32]⟩ : ByteArray).size = 1 := rfl; have : (⟨#[46, 48, 41]⟩ : ByteArray).size = 3 := rfl; have : (⟨#[40, 45, 32]⟩ : ByteArray).size = 3 := rfl; have : (⟨#[41]⟩ : ByteArray).size = 1 := rfl; omega)
        have y22 : ((⟨#[40, 47, 32]⟩) ++ (D3) : ByteArray).size ≤ 10020 := by rw [ByteArray.size_append]; have : (⟨#[46, 48]⟩ : ByteArray).size = 2 := rfl; have : (⟨#[40, 47, 32]⟩ : ByteArray).size = 3 := rfl; have : (⟨#[32]⟩ : ByteArray).size = 1 := rfl; have : (⟨#[46, 48, 41]⟩ : ByteArray).size = 3 := rfl; have : (⟨#[40, 45, 32]⟩ : ByteArray).size = 3 := rfl; have : (⟨#[41]⟩ : ByteArray).size = 1 := rfl; omega
        generalize ((⟨#[40, 47, 32]⟩) ++ (D3) : ByteArray) = D4 at *
        have p3 := op_cat 9 (D4) (⟨#[32]⟩) (by have : (⟨#[46, 48]⟩ : ByteArray).size = 2 := rfl; have : (⟨#[40, 47, 32]⟩ : ByteArray).size = 3 := rfl; have : (⟨#[32]⟩ : ByteArray).size = 1 := rfl; have : (⟨#[46, 48, 41]⟩ : ByteArray).size = 3 := rfl; have : (⟨#[40, 45, 32]⟩ : ByteArray).size = 3 := rfl; have : (⟨#[41]⟩ : ByteArray).size = 1 := rfl; omega)
        have y23 : ((D4) ++ (⟨#[32]⟩) : ByteArray).size ≤ 10030 := by rw [ByteArray.size_append]; have : (⟨#[46, 48]⟩ : ByteArray).size = 2 := rfl; have : (⟨#[40, 47, 32]⟩ : ByteArray).size = 3 := rfl; have : (⟨#[32]⟩ : ByteArray).size = 1 := rfl; have : (⟨#[46, 48, 41]⟩ : ByteArray).size = 3 := rfl; have : (⟨#[40, 45, 32]⟩ : ByteArray).size = 3 := rfl; have : (⟨#[41]⟩ : ByteArray).size = 1 := rfl; omega
        generalize ((D4) ++ (⟨#[32]⟩) : ByteArray) = D5 at *
        have p4 := op_cat 9 (D5) (D2) (by have : (⟨#[46, 48]⟩ : ByteArray).size = 2 := rfl; have : (⟨#[40, 47, 32]⟩ : ByteArray).size = 3 := rfl; have : (⟨#[32]⟩ : ByteArray).size = 1 := rfl; have : (⟨#[46, 48, 41]⟩ : ByteArray).size = 3 := rfl; have : (⟨#[40, 45, 32]⟩ : ByteArray).size = 3 := rfl; have : (⟨#[41]⟩ : ByteArray).size = 1 := rfl; omega)
        have y24 : ((D5) ++ (D2) : ByteArray).size ≤ 20040 := by rw [ByteArray.size_append]; have : (⟨#[46, 48]⟩ : ByteArray).size = 2 := rfl; have : (⟨#[40, 47, 32]⟩ : ByteArray).size = 3 := rfl; have : (⟨#[32]⟩ : ByteArray).size = 1 := rfl; have : (⟨#[46, 48, 41]⟩ : ByteArray).size = 3 := rfl; have : (⟨#[40, 45, 32]⟩ : ByteArray).size = 3 := rfl; have : (⟨#[41]⟩ : ByteArray).size = 1 := rfl; omega
        generalize ((D5) ++ (D2) : ByteArray) = D6 at *
        have p5 := op_cat 9 (D6) (⟨#[46, 48, 41]⟩) (by have : (⟨#[46, 48]⟩ : ByteArray).size = 2 := rfl; have : (⟨#[40, 47, 32]⟩ : ByteArray).size = 3 := rfl; have : (⟨#[32]⟩ : ByteArray).size = 1 := rfl; have : (⟨#[46, 48, 41]⟩ : ByteArray).size = 3 := rfl; have : (⟨#[40, 45, 32]⟩ : ByteArray).size = 3 := rfl; have : (⟨#[41]⟩ : ByteArray).size = 1 := rfl; omega)
        have y25 : ((D6) ++ (⟨#[46, 48, 41]⟩) : ByteArray).size ≤ 20050 := by rw [ByteArray.size_append]; have : (⟨#[46, 48]⟩ : ByteArray).size = 2 := rfl; have : (⟨#[40, 47, 32]⟩ : ByteArray).size = 3 := rfl; have : (⟨#[32]⟩ : ByteArray).size = 1 := rfl; have : (⟨#[46, 48, 41]⟩ : ByteArray).size = 3 := rfl; have : (⟨#[40, 45, 32]⟩ : ByteArray).size = 3 := rfl; have : (⟨#[41]⟩ : ByteArray).size = 1 := rfl; omega
        generalize ((D6) ++ (⟨#[46, 48, 41]⟩) : ByteArray) = D7 at *
        have p6 := op_cat 9 (⟨#[40, 45, 32]⟩) (D7) (by have : (⟨#[46, 48]⟩ : ByteArray).size = 2 := rfl; have : (⟨#[40, 47, 32]⟩ : ByteArray).size = 3 := rfl; have : (⟨#[32]⟩ : ByteArray).size = 1 := rfl; have : (⟨#[46, 48, 41]⟩ : ByteArray).size = 3 := rfl; have : (⟨#[40, 45, 32]⟩ : ByteArray).size = 3 := rfl; have : (⟨#[41]⟩ : ByteArray).size = 1 := rfl; omega)
        have y26 : ((⟨#[40, 45, 32]⟩) ++ (D7) : ByteArray).size ≤ 20060 := by rw [ByteArray.size_append]; have : (⟨#[46, 48]⟩ : ByteArray).size = 2 := rfl; have : (⟨#[40, 47, 32]⟩ : ByteArray).size = 3 := rfl; have : (⟨#[32]⟩ : ByteArray).size = 1 := rfl; have : (⟨#[46, 48, 41]⟩ : ByteArray).size = 3 := rfl; have : (⟨#[40, 45, 32]⟩ : ByteArray).size = 3 := rfl; have : (⟨#[41]⟩ : ByteArray).size = 1 := rfl; omega
        generalize ((⟨#[40, 45, 32]⟩) ++ (D7) : ByteArray) = D8 at *
        have p7 := op_cat 9 (D8) (⟨#[41]⟩) (by have : (⟨#[46, 48]⟩ : ByteArray).size = 2 := rfl; have : (⟨#[40, 47, 32]⟩ : ByteArray).size = 3 := rfl; have : (⟨#[32]⟩ : ByteArray).size = 1 := rfl; have : (⟨#[46, 48, 41]⟩ : ByteArray).size = 3 := rfl; have : (⟨#[40, 45, 32]⟩ : ByteArray).size = 3 := rfl; have : (⟨#[41]⟩ : ByteArray).size = 1 := rfl; omega)
        have y27 : ((D8) ++ (⟨#[41]⟩) : ByteArray).size ≤ 20070 := by rw [ByteArray.size_append]; have : (⟨#[46, 48]⟩ : ByteArray).size = 2 := rfl; have : (⟨#[40, 47, 32]⟩ : ByteArray).size = 3 := rfl; have : (⟨#[32]⟩ : ByteArray).size = 1 := rfl; have : (⟨#[46, 48, 41]⟩ : ByteArray).size = 3 := rfl; have : (⟨#[40, 45, 32]⟩ : ByteArray).size = 3 := rfl; have : (⟨#[41]⟩ : ByteArray).size = 1 := rfl; omega
        generalize ((D8) ++ (⟨#[41]⟩) : ByteArray) = D9 at *
        have OI1 : Hid (∀ W, Calls Tryz.prog 39 #[.int .i64 ((qn q : Nat) : Int)] W fun e w' => ∃ A c, e = .returned (.agg #[.bool false, .slice A (ln (qn q)) c]) ∧ Sl w' A (digs (qn q)) ∧ Below W.heap.size W w') := fun W => rof_z ((qn q : Nat) : Int) W (by omega) (by have := qn_le; omega)
        have OI2 : Hid (∀ W, Calls Tryz.prog 39 #[.int .i64 ((qd q : Nat) : Int)] W fun e w' => ∃ A c, e = .returned (.agg #[.bool false, .slice A (ln (qd q)) c]) ∧ Sl w' A (digs (qd q)) ∧ Below W.heap.size W w') := fun W => rof_z ((qd q : Nat) : Int) W (by omega) (by have := qd_le; omega)
        have SH := hide (fun W (k : K6 w [(A1, digs (qn q)), (B1, digs (qd q))] W) => show_q q A1 B1 a1 b1 W (k.sl nem1) (k.sl nem2) FQ.out (pow_below HT.out k.b))
        have SN : Hid (∀ W, K6 w [(A1, digs (qn q)), (B1, digs (qd q))] W → Calls Tryz.prog 33 #[.agg #[.bool (qs q), .slice A1 (ln (qn q)) a1, .slice none 0 0]] W fun e w' => e = .returned (.string ⟨#[]⟩) ∧ Below W.heap.size W w') := fun W k => show_no (qs q) A1 none a1 0 (digs (qn q)) [] W (k.sl nem1) .nil (limbs_digs _) .nil (Nat.le_trans FQ.out.1 (by decide)) (by decide) (none_den _ _)
        have AW := hide (fun W (k : K6 w [(A1, digs (qn q)), (B1, digs (qd q))] W) => awake4_any W (pow_below HT.out k.b))
        have g1 := gtrI_t 3 (show (1 : Int) < ((qd q : Nat) : Int) by have := qd_pos q; omega)
        have g2 := lssI_t 3 (show n < 0 by omega)
        clear h1 h2 qn_le qd_le FQ HT SG QN QD HK FK NB xp xb yb hg z1 z2 qn1 qd1 y21 y22 y23 y24 y25 y26 y27
        generalize (⟨(showT q).toArray⟩ : ByteArray) = DS at *
        go_wp2
        go_region
        go_wp2_with (first
          | (go_at_call 39; (with_reducible refine (OI1.out _).mono ?_); rintro e v1 ⟨P1, p1, rfl, u1, hb⟩; have KB := hide (K6.next KB.out.drew hb); have Y2 := hide (Q3.next Y2.out.drew hb); have U1 := hide u1; clear u1 hb)
          | (go_at_call 38; (with_reducible refine (TI1.out P1 p1 _ U1.out).mono ?_); rintro e v2 ⟨rfl, hb⟩; have KB := hide (KB.out.next hb); have Y2 := hide (Y2.out.next hb); clear hb; (try clear y1 y2 y3 y4 y5 y6 yd1 yd2 yd3); obtain ⟨y1, y2, y3, y4, y5, y6⟩ := Y2.out; have yd1 := fun X => (Y2.out.al X).1; have yd2 := fun X => (Y2.out.al X).2.1; have yd3 := fun X => (Y2.out.al X).2.2.1)
          | (go_at_call 39; (with_reducible refine (OI2.out _).mono ?_); rintro e v3 ⟨P3, p3, rfl, u3, hb⟩; have KB := hide (KB.out.next hb); have Y2 := hide (Y2.out.next hb); have U3 := hide u3; clear u3 hb)
          | (go_at_call 38; (with_reducible refine (TI2.out P3 p3 _ U3.out).mono ?_); rintro e v4 ⟨rfl, hb⟩; have KB := hide (KB.out.next hb); have Y2 := hide (Y2.out.next hb); clear hb; (try clear y1 y2 y3 y4 y5 y6 yd1 yd2 yd3); obtain ⟨y1, y2, y3, y4, y5, y6⟩ := Y2.out; have yd1 := fun X => (Y2.out.al X).1; have yd2 := fun X => (Y2.out.al X).2.1; have yd3 := fun X => (Y2.out.al X).2.2.1)
          | (go_at_call 33; (with_reducible refine (SH.out _ (KB.out.al _)).mono ?_); rintro e v5 ⟨rfl, hb⟩; have KB := hide ((KB.out.al _).next hb); have Z := hide ((Q3.new (.bool (qs q)) (.slice A1 (ln (qn q)) a1) (.slice none 0 0) v4).next hb); clear y1 y2 y3 y4 y5 y6 yd1 yd2 yd3 hb; obtain ⟨q1, q2, q3, q4, q5, q6⟩ := Z.out)
          | (go_at_call 33; (with_reducible refine (SN.out _ KB.out).mono ?_); rintro e v6 ⟨rfl, hb⟩; have KB := hide (KB.out.next hb); clear hb)
          | (go_at_call 27; (with_reducible refine (AW.out _ KB.out).mono ?_); rintro e v7 ⟨rfl, hb⟩; have KB := hide (KB.out.next hb); clear hb))
        go_ret
        exact ⟨rfl, KB.out.b⟩
      · skip
        have z1 := dec_size FQ.out.1
        have z2 := dec_size FQ.out.2
        obtain ⟨D1, hD1⟩ : ∃ D : ByteArray, D = ⟨(Lib.decDigits (qn q)).toArray⟩ := ⟨_, rfl⟩
        obtain ⟨D2, hD2⟩ : ∃ D : ByteArray, D = ⟨(Lib.decDigits (qd q)).toArray⟩ := ⟨_, rfl⟩
        have l1 : D1.data.toList = Lib.decDigits (qn q) := by rw [hD1]
        have l2 : D2.data.toList = Lib.decDigits (qd q) := by rw [hD2]
        rw [← hD1] at z1
        rw [← hD2] at z2
        have TI1 : Hid (∀ X e W, Sl W X (digs (qn q)) → Calls Tryz.prog 38 #[.agg #[.bool false, .slice X (ln (qn q)) e]] W fun e w' => e = .returned (.string D1) ∧ Below W.heap.size W w') := fun X e W s => by rw [hD1]; exact rtextI_n X e (qn q) W s FQ.out.1
        have TI2 : Hid (∀ X e W, Sl W X (digs (qd q)) → Calls Tryz.prog 38 #[.agg #[.bool false, .slice X (ln (qd q)) e]] W fun e w' => e = .returned (.string D2) ∧ Below W.heap.size W w') := fun X e W s => by rw [hD2]; exact rtextI_n X e (qd q) W s FQ.out.2
        have E : Hid ((⟨(showT q).toArray⟩ : ByteArray) = ((⟨#[40, 47, 32]⟩ ++ (D1 ++ ⟨#[46, 48]⟩)) ++ ⟨#[32]⟩ ++ D2) ++ ⟨#[46, 48, 41]⟩) := by
          show _ = _
          unfold showT sizeT
          rw [if_neg h1, SG.out, decide_eq_false h2, ← l1, ← l2]
          apply ByteArray.ext
          simp
        have j1 := eq_s 9 E.out
        have j2 := eq_s 9 (show (⟨#[]⟩ : ByteArray) = ⟨#[]⟩ from rfl)
        clear E l1 l2 hD1 hD2
        have p1 := op_cat 9 (D1) (⟨#[46, 48]⟩) (by have : (⟨#[46, 48]⟩ : ByteArray).size = 2 := rfl; have : (⟨#[40, 47, 32]⟩ : ByteArray).size = 3 := rfl; have : (⟨#[32]⟩ : ByteArray).size = 1 := rfl; have : (⟨#[46, 48, 41]⟩ : ByteArray).size = 3 := rfl; have : (⟨#[40, 45, 32]⟩ : ByteArray).size = 3 := rfl; have : (⟨#[41]⟩ : ByteArray).size = 1 := rfl; omega)
        have y21 : ((D1) ++ (⟨#[46, 48]⟩) : ByteArray).size ≤ 10010 := by rw [ByteArray.size_append]; have : (⟨#[46, 48]⟩ : ByteArray).size = 2 := rfl; have : (⟨#[40, 47, 32]⟩ : ByteArray).size = 3 := rfl; have : (⟨#[32]⟩ : ByteArray).size = 1 := rfl; have : (⟨#[46, 48, 41]⟩ : ByteArray).size = 3 := rfl; have : (⟨#[40, 45, 32]⟩ : ByteArray).size = 3 := rfl; have : (⟨#[41]⟩ : ByteArray).size = 1 := rfl; omega
        generalize ((D1) ++ (⟨#[46, 48]⟩) : ByteArray) = D3 at *
        have p2 := op_cat 9 (⟨#[40, 47, 32]⟩) (D3) (by have : (⟨#[46, 48]⟩ : ByteArray).size = 2 := rfl; have : (⟨#[40, 47, 32]⟩ : ByteArray).size = 3 := rfl; have : (⟨#[32]⟩ : ByteArray).size = 1 := rfl; have : (⟨#[46, 48, 41]⟩ : ByteArray).size = 3 := rfl; have : (⟨#[40, 45, 32]⟩ : ByteArray).size = 3 := rfl; have : (⟨#[41]⟩ : ByteArray).size = 1 := rfl; omega)
        have y22 : ((⟨#[40, 47, 32]⟩) ++ (D3) : ByteArray).size ≤ 10020 := by rw [ByteArray.size_append]; have : (⟨#[46, 48]⟩ : ByteArray).size = 2 := rfl; have : (⟨#[40, 47, 32]⟩ : ByteArray).size = 3 := rfl; have : (⟨#[32]⟩ : ByteArray).size = 1 := rfl; have : (⟨#[46, 48, 41]⟩ : ByteArray).size = 3 := rfl; have : (⟨#[40, 45, 32]⟩ : ByteArray).size = 3 := rfl; have : (⟨#[41]⟩ : ByteArray).size = 1 := rfl; omega
        generalize ((⟨#[40, 47, 32]⟩) ++ (D3) : ByteArray) = D4 at *
        have p3 := op_cat 9 (D4) (⟨#[32]⟩) (by have : (⟨#[46, 48]⟩ : ByteArray).size = 2 := rfl; have : (⟨#[40, 47, 32]⟩ : ByteArray).size = 3 := rfl; have : (⟨#[32]⟩ : ByteArray).size = 1 := rfl; have : (⟨#[46, 48, 41]⟩ : ByteArray).size = 3 := rfl; have : (⟨#[40, 45, 32]⟩ : ByteArray).size = 3 := rfl; have : (⟨#[41]⟩ : ByteArray).size = 1 := rfl; omega)
        have y23 : ((D4) ++ (⟨#[32]⟩) : ByteArray).size ≤ 10030 := by rw [ByteArray.size_append]; have : (⟨#[46, 48]⟩ : ByteArray).size = 2 := rfl; have : (⟨#[40, 47, 32]⟩ : ByteArray).size = 3 := rfl; have : (⟨#[32]⟩ : ByteArray).size = 1 := rfl; have : (⟨#[46, 48, 41]⟩ : ByteArray).size = 3 := rfl; have : (⟨#[40, 45, 32]⟩ : ByteArray).size = 3 := rfl; have : (⟨#[41]⟩ : ByteArray).size = 1 := rfl; omega
        generalize ((D4) ++ (⟨#[32]⟩) : ByteArray) = D5 at *
        have p4 := op_cat 9 (D5) (D2) (by have : (⟨#[46, 48]⟩ : ByteArray).size = 2 := rfl; have : (⟨#[40, 47, 32]⟩ : ByteArray).size = 3 := rfl; have : (⟨#[32]⟩ : ByteArray).size = 1 := rfl; have : (⟨#[46, 48, 41]⟩ : ByteArray).size = 3 := rfl; have : (⟨#[40, 45, 32]⟩ : ByteArray).size = 3 := rfl; have : (⟨#[41]⟩ : ByteArray).size = 1 := rfl; omega)
        have y24 : ((D5) ++ (D2) : ByteArray).size ≤ 20040 := by rw [ByteArray.size_append]; have : (⟨#[46, 48]⟩ : ByteArray).size = 2 := rfl; have : (⟨#[40, 47, 32]⟩ : ByteArray).size = 3 := rfl; have : (⟨#[32]⟩ : ByteArray).size = 1 := rfl; have : (⟨#[46, 48, 41]⟩ : ByteArray).size = 3 := rfl; have : (⟨#[40, 45, 32]⟩ : ByteArray).size = 3 := rfl; have : (⟨#[41]⟩ : ByteArray).size = 1 := rfl; omega
        generalize ((D5) ++ (D2) : ByteArray) = D6 at *
        have p5 := op_cat 9 (D6) (⟨#[46, 48, 41]⟩) (by have : (⟨#[46, 48]⟩ : ByteArray).size = 2 := rfl; have : (⟨#[40, 47, 32]⟩ : ByteArray).size = 3 := rfl; have : (⟨#[32]⟩ : ByteArray).size = 1 := rfl; have : (⟨#[46, 48, 41]⟩ : ByteArray).size = 3 := rfl; have : (⟨#[40, 45, 32]⟩ : ByteArray).size = 3 := rfl; have : (⟨#[41]⟩ : ByteArray).size = 1 := rfl; omega)
        have y25 : ((D6) ++ (⟨#[46, 48, 41]⟩) : ByteArray).size ≤ 20050 := by rw [ByteArray.size_append]; have : (⟨#[46, 48]⟩ : ByteArray).size = 2 := rfl; have : (⟨#[40, 47, 32]⟩ : ByteArray).size = 3 := rfl; have : (⟨#[32]⟩ : ByteArray).size = 1 := rfl; have : (⟨#[46, 48, 41]⟩ : ByteArray).size = 3 := rfl; have : (⟨#[40, 45, 32]⟩ : ByteArray).size = 3 := rfl; have : (⟨#[41]⟩ : ByteArray).size = 1 := rfl; omega
        generalize ((D6) ++ (⟨#[46, 48, 41]⟩) : ByteArray) = D7 at *
        have OI1 : Hid (∀ W, Calls Tryz.prog 39 #[.int .i64 ((qn q : Nat) : Int)] W fun e w' => ∃ A c, e = .returned (.agg #[.bool false, .slice A (ln (qn q)) c]) ∧ Sl w' A (digs (qn q)) ∧ Below W.heap.size W w') := fun W => rof_z ((qn q : Nat) : Int) W (by omega) (by have := qn_le; omega)
        have OI2 : Hid (∀ W, Calls Tryz.prog 39 #[.int .i64 ((qd q : Nat) : Int)] W fun e w' => ∃ A c, e = .returned (.agg #[.bool false, .slice A (ln (qd q)) c]) ∧ Sl w' A (digs (qd q)) ∧ Below W.heap.size W w') := fun W => rof_z ((qd q : Nat) : Int) W (by omega) (by have := qd_le; omega)
        have SH := hide (fun W (k : K6 w [(A1, digs (qn q)), (B1, digs (qd q))] W) => show_q q A1 B1 a1 b1 W (k.sl nem1) (k.sl nem2) FQ.out (pow_below HT.out k.b))
        have SN : Hid (∀ W, K6 w [(A1, digs (qn q)), (B1, digs (qd q))] W → Calls Tryz.prog 33 #[.agg #[.bool (qs q), .slice A1 (ln (qn q)) a1, .slice none 0 0]] W fun e w' => e = .returned (.string ⟨#[]⟩) ∧ Below W.heap.size W w') := fun W k => show_no (qs q) A1 none a1 0 (digs (qn q)) [] W (k.sl nem1) .nil (limbs_digs _) .nil (Nat.le_trans FQ.out.1 (by decide)) (by decide) (none_den _ _)
        have AW := hide (fun W (k : K6 w [(A1, digs (qn q)), (B1, digs (qd q))] W) => awake4_any W (pow_below HT.out k.b))
        have g1 := gtrI_t 3 (show (1 : Int) < ((qd q : Nat) : Int) by have := qd_pos q; omega)
        have g2 := lssI_f 3 (show (0 : Int) ≤ n by omega)
        clear h1 h2 qn_le qd_le FQ HT SG QN QD HK FK NB xp xb yb hg z1 z2 qn1 qd1 y21 y22 y23 y24 y25
        generalize (⟨(showT q).toArray⟩ : ByteArray) = DS at *
        go_wp2
        go_region
        go_wp2_with (first
          | (go_at_call 39; (with_reducible refine (OI1.out _).mono ?_); rintro e v1 ⟨P1, p1, rfl, u1, hb⟩; have KB := hide (K6.next KB.out.drew hb); have Y2 := hide (Q3.next Y2.out.drew hb); have U1 := hide u1; clear u1 hb)
          | (go_at_call 38; (with_reducible refine (TI1.out P1 p1 _ U1.out).mono ?_); rintro e v2 ⟨rfl, hb⟩; have KB := hide (KB.out.next hb); have Y2 := hide (Y2.out.next hb); clear hb; (try clear y1 y2 y3 y4 y5 y6 yd1 yd2 yd3); obtain ⟨y1, y2, y3, y4, y5, y6⟩ := Y2.out; have yd1 := fun X => (Y2.out.al X).1; have yd2 := fun X => (Y2.out.al X).2.1; have yd3 := fun X => (Y2.out.al X).2.2.1)
          | (go_at_call 39; (with_reducible refine (OI2.out _).mono ?_); rintro e v3 ⟨P3, p3, rfl, u3, hb⟩; have KB := hide (KB.out.next hb); have Y2 := hide (Y2.out.next hb); have U3 := hide u3; clear u3 hb)
          | (go_at_call 38; (with_reducible refine (TI2.out P3 p3 _ U3.out).mono ?_); rintro e v4 ⟨rfl, hb⟩; have KB := hide (KB.out.next hb); have Y2 := hide (Y2.out.next hb); clear hb; (try clear y1 y2 y3 y4 y5 y6 yd1 yd2 yd3); obtain ⟨y1, y2, y3, y4, y5, y6⟩ := Y2.out; have yd1 := fun X => (Y2.out.al X).1; have yd2 := fun X => (Y2.out.al X).2.1; have yd3 := fun X => (Y2.out.al X).2.2.1)
          | (go_at_call 33; (with_reducible refine (SH.out _ (KB.out.al _)).mono ?_); rintro e v5 ⟨rfl, hb⟩; have KB := hide ((KB.out.al _).next hb); have Z := hide ((Q3.new (.bool (qs q)) (.slice A1 (ln (qn q)) a1) (.slice none 0 0) v4).next hb); clear y1 y2 y3 y4 y5 y6 yd1 yd2 yd3 hb; obtain ⟨q1, q2, q3, q4, q5, q6⟩ := Z.out)
          | (go_at_call 33; (with_reducible refine (SN.out _ KB.out).mono ?_); rintro e v6 ⟨rfl, hb⟩; have KB := hide (KB.out.next hb); clear hb)
          | (go_at_call 27; (with_reducible refine (AW.out _ KB.out).mono ?_); rintro e v7 ⟨rfl, hb⟩; have KB := hide (KB.out.next hb); clear hb))
        go_ret
        exact ⟨rfl, KB.out.b⟩
    · have yp : 0 < y := by omega
      have o1 := i64_rem 3 x y yp
      have o2 := gtrI_t 3 (show (0 : Int) < (y : Int) by omega)
      have hy1 : ((y : Int) == 0) = false := beq_eq_false_iff_ne.2 (by omega)
      have G := hide (show Nat.gcd y (x % y) = Nat.gcd k m by rw [← hg, Nat.gcd_comm x y, Nat.gcd_rec y x, Nat.gcd_comm])
      have L := hide (show x % y < y from Nat.mod_lt _ yp)
      have YP := hide (And.intro yp yb)
      obtain ⟨z, hz⟩ : ∃ z, x % y = z := ⟨_, rfl⟩
      rw [hz] at o1 G L
      clear hg xp xb yb h0 hz FK QN QD SG FQ HT HK NB yp
      go_wp2
      go_region
      go_wp2
      go_roundw
      case rel => exact ⟨y, z, rfl, rfl, G.out, YP.out.1, YP.out.2, by have := L.out; have := YP.out.2; omega, KB.out.drew, Y2.out⟩
      case measure => simp [intOf]; exact L.out

set_option maxRecDepth 100000 in
set_option maxHeartbeats 4000000 in
theorem shows_law (n d : Int) (w : World) (hn : -9223372036854775808 ≤ n ∧ n ≤ 9223372036854775807) (hd : -9223372036854775808 ≤ d ∧ d ≤ 9223372036854775807) (ht : Pow10 w) :
    Calls Tryz.prog 7 #[.int .i64 n, .int .i64 d] w fun e w' => e = .returned (.bool true) ∧ Below w.heap.size w w' := by
  have AW := hide (awake4_any w ht)
  by_cases h1 : d < 1
  · have c1 := lssI_t 3 h1
    clear h1 hn hd ht
    go_enter Tryz.func7, Tryz.ntmps7
    go_wp2_with (go_at_call 27; (with_reducible refine (AW.out).mono ?_); rintro e w' ⟨rfl, hb⟩)
    go_ret
    exact ⟨rfl, hb⟩
  have c1 := lssI_f 3 (show (1 : Int) ≤ d by omega)
  by_cases h2 : 1073741824 < d
  · have c2 := gtrI_t 3 h2
    clear h1 h2 hn hd ht
    go_enter Tryz.func7, Tryz.ntmps7
    go_wp2_with (go_at_call 27; (with_reducible refine (AW.out).mono ?_); rintro e w' ⟨rfl, hb⟩)
    go_ret
    exact ⟨rfl, hb⟩
  have c2 := gtrI_f 3 (show d ≤ (1073741824 : Int) by omega)
  by_cases h3 : n < -1099511627776
  · have c3 := lssI_t 3 h3
    clear h1 h2 h3 hn hd ht
    go_enter Tryz.func7, Tryz.ntmps7
    go_wp2_with (go_at_call 27; (with_reducible refine (AW.out).mono ?_); rintro e w' ⟨rfl, hb⟩)
    go_ret
    exact ⟨rfl, hb⟩
  have c3 := lssI_f 3 (show (-1099511627776 : Int) ≤ n by omega)
  by_cases h4 : 1099511627776 < n
  · have c4 := gtrI_t 3 h4
    clear h1 h2 h3 h4 hn hd ht
    go_enter Tryz.func7, Tryz.ntmps7
    go_wp2_with (go_at_call 27; (with_reducible refine (AW.out).mono ?_); rintro e w' ⟨rfl, hb⟩)
    go_ret
    exact ⟨rfl, hb⟩
  exact shows_in n d w (by omega) (by omega) (by omega) (by omega) ht
end Nt

end Go.Proofs.YtboppbidldomhaaGreatDoor

namespace Go.Proofs.YtboppbidldomhaaGreatDoor

open Go.RowKit

namespace Nt

theorem dec_head' (n : Nat) : 0 < n → (Lib.decDigits n).head? ≠ some 48 := by
  induction n using Nat.strongRecOn with
  | _ n ih =>
    intro hn
    by_cases h : n < 10
    · rw [dec_small h]
      intro e
      simp only [List.head?_cons, Option.some.injEq] at e
      have := congrArg UInt8.toNat e
      rw [UInt8.toNat_ofNat'] at this
      have h2 : (48 : UInt8).toNat = 48 := rfl
      omega
    · rw [dec_big h]
      have h1 := ih (n / 10) (by omega) (by omega)
      have h2 : Lib.decDigits (n / 10) ≠ [] := by
        have := (textp (n / 10)).1
        unfold digitsB at this
        simp only [Bool.and_eq_true, decide_eq_true_eq] at this
        exact this.2
      cases e : Lib.decDigits (n / 10) with
      | nil => exact absurd e h2
      | cons c l =>
        rw [e] at h1
        simpa using h1
theorem numB_dec' (n : Nat) : numB (Lib.decDigits n) = true := by
  unfold numB
  rcases Nat.eq_zero_or_pos n with h | h
  · subst h
    rw [show Lib.decDigits 0 = [48] from dec_small (by decide)]
    rfl
  · rw [(textp n).1, decide_eq_true (dec_head' n h), Bool.true_and, Bool.or_true]
theorem cop_ten {x k : Nat} (h : Nat.gcd x 10 = 1) (hk : x ∣ 10 ^ k) : x = 1 := by
  have h1 : Nat.Coprime x 10 := h
  exact Nat.Coprime.eq_one_of_dvd (Nat.Coprime.pow_right k h1) hk
theorem tenDiv_bound (m : Nat) : ∀ x, 0 < x → x < 2 ^ m → TenDiv x → x ∣ 10 ^ m := by
  induction m with
  | zero => intro x h1 h2 _; rw [Nat.pow_zero] at h2; omega
  | succ m ih =>
    intro x h1 h2 ⟨k, hk⟩
    by_cases hx : x = 1
    · subst hx; exact Nat.one_dvd _
    obtain ⟨g, hg⟩ : ∃ g, Nat.gcd x 10 = g := ⟨_, rfl⟩
    have g0 : 0 < g := by rw [← hg]; exact Nat.gcd_pos_of_pos_left _ h1
    have g1 : g ≠ 1 := fun e => hx (cop_ten (by rw [hg]; exact e) hk)
    obtain ⟨y, hy⟩ : ∃ y, x = g * y := by rw [← hg]; exact Nat.gcd_dvd_left x 10
    have y0 : 0 < y := by
      rcases Nat.eq_zero_or_pos y with h | h
      · rw [h, Nat.mul_zero] at hy; omega
      · exact h
    have y2 : y < 2 ^ m := by
      have : 2 * y ≤ g * y := Nat.mul_le_mul_right _ (by omega)
      rw [Nat.pow_succ] at h2
      omega
    have t : TenDiv y := ⟨k, Nat.dvd_trans ⟨g, by rw [hy, Nat.mul_comm]⟩ hk⟩
    have hd : g ∣ 10 := by rw [← hg]; exact Nat.gcd_dvd_right x 10
    rw [hy, Nat.pow_succ, Nat.mul_comm (10 ^ m)]
    exact Nat.mul_dvd_mul hd (ih y y0 y2 t)
def padW (K V : Nat) : List UInt8 := List.replicate (K - (Lib.decDigits V).length) 48 ++ Lib.decDigits V
theorem padw_all (K V : Nat) : (padW K V).all isD = true := by
  unfold padW
  rw [List.all_append, digitsB_all (textp V).1, Bool.and_true, List.all_eq_true]
  intro x hx
  rw [List.eq_of_mem_replicate hx]; decide
theorem padw_val (K V : Nat) : decV (padW K V) = V := by
  unfold padW
  rw [decV_front, (textp V).2.1]
theorem padw_len {K V : Nat} (h1 : 1 ≤ K) (h : V < 10 ^ K) : (padW K V).length = K := by
  obtain ⟨k, rfl⟩ : ∃ k, K = k + 1 := ⟨K - 1, by omega⟩
  have := dec_len_le h
  unfold padW
  rw [List.length_append, List.length_replicate]
  omega
/-- A decimal, where the number's divisor divides 10 to the m. -/
theorem exact_pad {q : Rat} {t : List UInt8} (h : ExactOf q t) (m : Nat) (hm : 1 ≤ m) (hm' : m ≤ 90000) (hd : qd q ∣ 10 ^ m) :
    t = Lib.decDigits (qn q / qd q) ++ 46 :: (if qn q % qd q = 0 then [48] else Lib.trimRightB (padW m (qn q % qd q * (10 ^ m / qd q))) 48) := by
  obtain ⟨c, hc⟩ := hd
  have c1 : 10 ^ m / qd q = c := by rw [hc]; exact Nat.mul_div_cancel_left c (qd_pos q)
  have hx : qn q % qd q < qd q := Nat.mod_lt _ (qd_pos q)
  have c0 : 0 < c := by
    rcases Nat.eq_zero_or_pos c with e | e
    · rw [e, Nat.mul_zero] at hc
      have : 0 < 10 ^ m := Nat.pow_pos (by decide)
      omega
    · exact e
  rw [c1]
  by_cases h0 : qn q % qd q = 0
  · rw [if_pos h0]
    exact exact_unique h (exactOf_zero h0)
  · rw [if_neg h0]
    have hV : qn q % qd q * c < 10 ^ m := by rw [hc]; exact Nat.mul_lt_mul_of_pos_right hx c0
    have hl := padw_len hm hV
    refine exact_unique h (exactOf_pos (by omega) (padw_all _ _) ?_ (by rw [hl]; exact hm'))
    rw [padw_val, hl, hc, Nat.mul_assoc, Nat.mul_comm c]
theorem exact_len {q : Rat} {t : List UInt8} (h : ExactOf q t) (m : Nat) (hm : 1 ≤ m) (hm' : m ≤ 90000) (hd : qd q ∣ 10 ^ m) : t.length ≤ (Lib.decDigits (qn q / qd q)).length + 1 + m := by
  have e := congrArg List.length (exact_pad h m hm hm' hd)
  rw [List.length_append, List.length_cons] at e
  have : (if qn q % qd q = 0 then [48] else Lib.trimRightB (padW m (qn q % qd q * (10 ^ m / qd q))) 48 : List UInt8).length ≤ m := by
    split
    · exact hm
    · refine Nat.le_trans (trim_len _) (Nat.le_of_eq (padw_len hm ?_))
      obtain ⟨c, hc⟩ := hd
      have c1 : 10 ^ m / qd q = c := by rw [hc]; exact Nat.mul_div_cancel_left c (qd_pos q)
      have c0 : 0 < c := by
        rcases Nat.eq_zero_or_pos c with e | e
        · rw [e, Nat.mul_zero] at hc
          have : 0 < 10 ^ m := Nat.pow_pos (by decide)
          omega
        · exact e
      rw [c1, hc]
      exact Nat.mul_lt_mul_of_pos_right (Nat.mod_lt _ (qd_pos q)) c0
  omega
/-- It is read as the number. -/
theorem back_parse {q : Rat} {t : List UInt8} (hs : qs q = false) (h : ExactOf q t) : decSp t = some q := by
  obtain ⟨P, rfl, a1, a2, _, a4, _⟩ := h
  have hP : digitsB P = true := by unfold digitsB; rw [a1, Bool.true_and, decide_eq_true a2]
  have hd := digitsB_all (textp (qn q / qd q)).1
  have h46 : (46 : UInt8) ∉ Lib.decDigits (qn q / qd q) := fun m => absurd (List.all_eq_true.1 hd 46 m) (by decide)
  have hpt : ∀ u v : List UInt8, (46 : UInt8) ∉ u → (u ++ 46 :: v).takeWhile (· != 46) = u ∧ (u ++ 46 :: v).dropWhile (· != 46) = 46 :: v := fun u v hu => by
    have h' : ∀ a ∈ u, (a != 46) = true := fun a ha => by
      have : a ≠ 46 := by rintro rfl; exact hu ha
      simpa using this
    rw [List.takeWhile_append_of_pos h', List.dropWhile_append_of_pos h']
    simp
  have hnum : numB (Lib.decDigits (qn q / qd q)) = true := numB_dec' _
  rw [decSp_point (hpt _ _ h46).2, (hpt _ _ h46).1, hnum, hP, Bool.and_true, if_pos rfl]
  have e1 : decV (Lib.decDigits (qn q / qd q) ++ P) * qd q = qn q * 10 ^ P.length := by
    rw [decV_append, (textp (qn q / qd q)).2.1, Nat.add_mul, a4, Nat.mul_right_comm, ← Nat.add_mul, Nat.mul_comm (qn q / qd q), Nat.div_add_mod]
  have e2 := qmk_scale (decV (Lib.decDigits (qn q / qd q) ++ P)) (10 ^ P.length) (qd q) (qd_pos q)
  have e3 := qmk_scale (qn q) (qd q) (10 ^ P.length) (Nat.pow_pos (by decide))
  have e4 := qmk_self q
  rw [hs] at e4
  rw [← e2, e1, Nat.mul_comm (10 ^ P.length), e3, e4]
/-- A fraction not below 0, by another number. -/
theorem step_div (n d c : Nat) (hd : 0 < d) (hc : 0 < c) (r : Rat) (hr : qmk false c 1 = r) : qmk false n d / r = qmk false n (d * c) := by
  have h0 : d ≠ 0 := by omega
  have rn : qn r = c := by rw [← hr, qn_mk false _ (by decide), Nat.gcd_one_right, Nat.div_one]
  have rd : qd r = 1 := by rw [← hr, qd_mk false _ (by decide), Nat.gcd_one_right]
  have rs : qs r = false := by rw [← hr, qs_mk false _ (by decide), Bool.false_and]
  have r0 : r ≠ 0 := fun e => by rw [e] at rn; have : qn (0 : Rat) = 0 := rfl; omega
  rw [← quo_qmk _ _ r0, rn, rd, rs, qs_mk false _ h0, qn_mk false _ h0, qd_mk false _ h0, Bool.false_and, Nat.mul_one]
  have gp : 0 < Nat.gcd n d := Nat.gcd_pos_of_pos_right _ hd
  rw [show (false != false) = false from rfl, ← qmk_scale (n / Nat.gcd n d) (d / Nat.gcd n d * c) (Nat.gcd n d) gp, Nat.div_mul_cancel (Nat.gcd_dvd_left n d), Nat.mul_right_comm, Nat.div_mul_cancel (Nat.gcd_dvd_right n d)]
theorem qmk_parts (n d : Nat) (hd : 0 < d) : qs (qmk false n d) = false ∧ qn (qmk false n d) ≤ n ∧ qd (qmk false n d) ≤ d ∧ qd (qmk false n d) ∣ d := by
  have h0 : d ≠ 0 := by omega
  rw [qs_mk false _ h0, qn_mk false _ h0, qd_mk false _ h0, Bool.false_and]
  exact ⟨rfl, Nat.div_le_self _ _, Nat.div_le_self _ _, Nat.div_dvd_of_dvd (Nat.gcd_dvd_right n d)⟩
theorem rdivNat_z (A B : Option Addr) (c d x y : Nat) (w : World) (sx : Sl w A (digs x)) (sy : Sl w B (digs y)) (hx : ln x ≤ 64) (hy : ln y ≤ 64) (h0 : 0 < y) (q r : Nat) (hq : x / y = q) (hr : x % y = r) :
    Calls Tryz.prog 36 #[.slice A (ln x) c, .slice B (ln y) d] w fun e w' => ∃ A' c' B' d', e = .returned (.tuple #[.slice A' (ln q) c', .slice B' (ln r) d', .int .i64 0]) ∧ Sl w' A' (digs q) ∧ Sl w' B' (digs r) ∧ Below w.heap.size w w' := by
  subst hq hr
  have h := rdivNat_any A B c d (digs x) (digs y) w sx sy (limbs_digs _) (limbs_digs _) (Nat.le_trans hx (by decide)) (Nat.le_trans hy (by decide))
  have e : divSp (digs x) (digs y) = (digs (x / y), digs (x % y), 0) := by
    unfold divSp
    rw [valid_short hx (norm_digs _), valid_short hy (norm_digs _), decide_eq_true (List.ne_nil_of_length_pos (digs_len_pos.2 h0)), val_digs, val_digs]
    rfl
  rw [e] at h
  exact h
theorem lit25 (u : World) : Sl (u.alloc (.cells #[.int .u64 2, .int .u64 5] 45)) (some ⟨u.heap.size, 0, none⟩) (digs 2) ∧ Sl (u.alloc (.cells #[.int .u64 2, .int .u64 5] 45)) (some ⟨u.heap.size, 1, none⟩) (digs 5) := by
  have e2 : digs 2 = [2] := digs1 (by decide) (by decide)
  have e5 : digs 5 = [5] := digs1 (by decide) (by decide)
  rw [e2, e5]
  constructor
  · refine .inr ⟨_, 0, rfl, by simp, fun j hj => ?_⟩
    obtain rfl : j = 0 := by simp at hj; exact hj
    exact (cell_new u _ _ 0).trans rfl
  · refine .inr ⟨_, 1, rfl, by simp, fun j hj => ?_⟩
    obtain rfl : j = 0 := by simp at hj; exact hj
    exact (cell_new u _ _ 1).trans rfl
theorem ten_part {d p : Nat} (hp : p ∣ d) (hp10 : p ∣ 10) (_h0 : 0 < p) : TenDiv (d / p) ↔ TenDiv d := by
  have hd : d = p * (d / p) := (Nat.mul_div_cancel' hp).symm
  constructor
  · rintro ⟨k, hk⟩
    exact ⟨k + 1, by rw [hd, Nat.pow_succ, Nat.mul_comm (10 ^ k)]; exact Nat.mul_dvd_mul hp10 hk⟩
  · rintro ⟨k, hk⟩
    exact ⟨k, Nat.dvd_trans ⟨p, by rw [Nat.mul_comm]; exact hd⟩ hk⟩
theorem ten_end {d : Nat} (h2 : ¬ 2 ∣ d) (h5 : ¬ 5 ∣ d) : TenDiv d ↔ d = 1 := by
  constructor
  · rintro ⟨k, hk⟩
    refine cop_ten ?_ hk
    have hg : Nat.gcd d 10 ∣ 10 := Nat.gcd_dvd_right d 10
    have hgd : Nat.gcd d 10 ∣ d := Nat.gcd_dvd_left d 10
    have hle : Nat.gcd d 10 ≤ 10 := Nat.le_of_dvd (by decide) hg
    generalize Nat.gcd d 10 = g at *
    have h1 : ¬ 2 ∣ g := fun h => h2 (Nat.dvd_trans h hgd)
    have h3 : ¬ 5 ∣ g := fun h => h5 (Nat.dvd_trans h hgd)
    match g, hle with
    | 0, _ => exact absurd (by decide : 2 ∣ 0) h1
    | 1, _ => rfl
    | 2, _ => exact absurd (by decide) h1
    | 3, _ => exact absurd hg (by decide)
    | 4, _ => exact absurd (by decide) h1
    | 5, _ => exact absurd (by decide) h3
    | 6, _ => exact absurd (by decide) h1
    | 7, _ => exact absurd hg (by decide)
    | 8, _ => exact absurd (by decide) h1
    | 9, _ => exact absurd hg (by decide)
    | 10, _ => exact absurd (by decide) h1
  · rintro rfl
    exact ⟨0, Nat.dvd_refl _⟩

theorem den_lt {o i j : Nat} (h1 : 1 ≤ o) (h2 : o ≤ 1000) (hi : i ≤ 40) (hj : j ≤ 20) : 0 < o * 2 ^ i * 5 ^ j ∧ o * 2 ^ i * 5 ^ j < 2 ^ 97 := by
  have p2 : 0 < 2 ^ i := Nat.pow_pos (by decide)
  have p5 : 0 < 5 ^ j := Nat.pow_pos (by decide)
  refine ⟨Nat.mul_pos (Nat.mul_pos h1 p2) p5, ?_⟩
  refine Nat.lt_of_le_of_lt (Nat.mul_le_mul (Nat.mul_le_mul h2 (Nat.pow_le_pow_right (by decide) hi)) (Nat.pow_le_pow_right (by decide) hj)) ?_
  decide
theorem fit_nd {n d : Nat} (hn : n ≤ 1099511627776) (h0 : 0 < d) (hd : d < 2 ^ 97) : fitq (qmk false n d) := by
  obtain ⟨_, h1, h2, _⟩ := qmk_parts n d h0
  refine ⟨Nat.le_trans (ln_le (k := 1) ?_) (by decide), Nat.le_trans (ln_le (k := 2) ?_) (by decide)⟩
  · rw [Nat.pow_one, LB_eq]; omega
  · refine Nat.lt_of_le_of_lt h2 (Nat.lt_trans hd ?_)
    rw [lbk]; decide
theorem byte_some (D : ByteArray) (i : Nat) (h : i < D.size) : D.data.toList[i]? = some D[i] := by
  rw [Array.getElem?_toList]
  exact Array.getElem?_eq_getElem h
theorem byte_ne {c : UInt8} (h : c ≠ 48) : ((c.toNat : Int) != 48) = true := by
  have : c.toNat ≠ 48 := fun e => h (UInt8.toNat_inj.1 (by rw [e]; rfl))
  simpa using fun e : (c.toNat : Int) = 48 => this (by omega)
theorem byte_at (D : ByteArray) (i : Nat) (h : i < D.size) (c : UInt8) (hc : D.data.toList[i]? = some c) : D[i] = c := by
  have := byte_some D i h
  rw [hc] at this
  injection this with e
  exact e.symm
/-- What its bytes are at both ends. -/
theorem ends_of {q : Rat} {D : ByteArray} (h : ExactOf q D.data.toList) : 3 ≤ D.size ∧ (∀ a b (ha : a + 1 = D.size) (hb : b + 2 = D.size), (D[a]'(by omega) ≠ 48 ∨ (D[a]'(by omega) = 48 ∧ D[b]'(by omega) = 46))) ∧ (∀ (h0 : 0 < D.size) (h1 : 1 < D.size), D[0] ≠ 48 ∨ (D[0] = 48 ∧ D[1] = 46)) := by
  obtain ⟨P, hl, a1, a2, a3, a4, _⟩ := h
  have hne : Lib.decDigits (qn q / qd q) ≠ [] := by
    have := (textp (qn q / qd q)).1
    unfold digitsB at this
    simp only [Bool.and_eq_true, decide_eq_true_eq] at this
    exact this.2
  have hh := dec_head' (qn q / qd q)
  have h00 : qn q / qd q = 0 → Lib.decDigits (qn q / qd q) = [48] := fun e => by rw [e]; exact dec_small (by decide)
  generalize Lib.decDigits (qn q / qd q) = U at *
  have hs : D.size = U.length + 1 + P.length := by rw [Lib.size_eq, hl, List.length_append, List.length_cons]; omega
  have u0 := List.length_pos_iff.2 hne
  have p0 := List.length_pos_iff.2 a2
  refine ⟨by omega, fun a b ha hb => ?_, fun h0 h1 => ?_⟩
  · rcases a3 with rfl | a3
    · right
      have sz : D.size = U.length + 2 := by rw [hs]; rfl
      refine ⟨byte_at D a (by omega) 48 ?_, byte_at D b (by omega) 46 ?_⟩
      · rw [hl, show a = U.length + 1 by omega, List.getElem?_append_right (by omega), show U.length + 1 - U.length = 1 by omega]; rfl
      · rw [hl, show b = U.length by omega, List.getElem?_append_right (by omega), Nat.sub_self]; rfl
    · left
      intro e
      apply a3
      have e2 := byte_some D a (by omega)
      rw [e, hl, List.getElem?_append_right (by omega), show a - U.length = (P.length - 1) + 1 by omega, List.getElem?_cons_succ] at e2
      rw [List.getLast?_eq_getElem?, e2]
  · have e2 := byte_some D 0 h0
    by_cases hz : qn q / qd q = 0
    · have hu := h00 hz
      subst hu
      right
      refine ⟨byte_at D 0 (by omega) 48 (by rw [hl]; rfl), byte_at D 1 (by omega) 46 (by rw [hl]; rfl)⟩
    · left
      intro e
      rw [e, hl] at e2
      apply hh (Nat.pos_of_ne_zero hz)
      cases U with
      | nil => exact absurd rfl hne
      | cons c U => simpa using e2
/-- What Exact hands back. -/
def XFact (q : Rat) (D : ByteArray) (ok : Bool) : Prop := (ok = true ∧ TenDiv (qd q) ∧ ExactOf q D.data.toList) ∨ (ok = false ∧ ¬ TenDiv (qd q) ∧ D = ⟨#[]⟩)
theorem exact_any (q : Rat) (A B : Option Addr) (a b : Nat) (w : World) (sA : Sl w A (digs (qn q))) (sB : Sl w B (digs (qd q))) (f1 : fitq q) (hs : qs q = false) (tab : Pow10 w) :
    Calls Tryz.prog 30 #[.agg #[.bool (qs q), .slice A (ln (qn q)) a, .slice B (ln (qd q)) b]] w fun e w' => ∃ D ok, e = .returned (.tuple #[.string D, .bool ok]) ∧ XFact q D ok ∧ Below w.heap.size w w' := by
  by_cases ht : TenDiv (qd q)
  · exact (exact_ok q A B a b w sA sB f1 hs ht tab).mono fun _ _ ⟨D, h1, h2, h3⟩ => ⟨D, true, h1, .inl ⟨rfl, ht, h2⟩, h3⟩
  · exact (exact_neg q A B a b w sA sB f1 (.inr ht)).mono fun _ _ ⟨h1, h3⟩ => ⟨_, false, h1, .inr ⟨rfl, ht, rfl⟩, h3⟩
theorem exact_short {q : Rat} {D : ByteArray} (h : ExactOf q D.data.toList) (ht : TenDiv (qd q)) (hn : qn q ≤ 1099511627776) (hd : qd q < 2 ^ 97) : D.size ≤ 1000 := by
  have h1 := exact_len h 97 (by decide) (by decide) (tenDiv_bound 97 _ (qd_pos q) hd ht)
  have h2 := dec_len_le (r := qn q / qd q) (k := 19) (by have := Nat.div_le_self (qn q) (qd q); omega)
  rw [← Lib.size_eq] at h1
  omega

set_option linter.unusedSimpArgs false in
set_option maxRecDepth 100000 in
set_option maxHeartbeats 16000000 in
theorem back_in (n twos fives other : Nat) (w : World) (n2 : n ≤ 1099511627776) (t2 : twos ≤ 40) (v2 : fives ≤ 20) (o1 : 1 ≤ other) (o2 : other ≤ 1000) (ht : Pow10 w) :
    Calls Tryz.prog 5 #[.int .i64 (n : Int), .int .i64 (twos : Int), .int .i64 (fives : Int), .int .i64 (other : Int)] w fun e w' => e = .returned (.bool true) ∧ Below w.heap.size w w' := by
  obtain ⟨q0, hq0⟩ : ∃ q, qmk false n (other * 2 ^ 0) = q := ⟨_, rfl⟩
  have OF : Hid (∀ W, Calls Tryz.prog 35 #[.int .i64 (n : Int), .int .i64 (other : Int)] W (RQ W q0)) := fun W => rof_q (n : Int) (other : Int) q0 W (by omega) (by omega) (by omega) (by omega) (by omega) (by rw [← hq0, Nat.pow_zero, Nat.mul_one]; rfl)
  have c1 := lssI_f 3 (show (0 : Int) ≤ (n : Int) by omega)
  have c2 := gtrI_f 3 (show (n : Int) ≤ 1099511627776 by omega)
  have c3 := lssI_f 3 (show (0 : Int) ≤ (twos : Int) by omega)
  have c4 := gtrI_f 3 (show (twos : Int) ≤ 40 by omega)
  have c5 := lssI_f 3 (show (0 : Int) ≤ (fives : Int) by omega)
  have c6 := gtrI_f 3 (show (fives : Int) ≤ 20 by omega)
  have c7 := lssI_f 3 (show (1 : Int) ≤ (other : Int) by omega)
  have c8 := gtrI_f 3 (show (other : Int) ≤ 1000 by omega)
  have BD := hide (And.intro n2 (And.intro t2 (And.intro v2 (And.intro o1 o2))))
  have HT := hide ht
  have Q0 := hide hq0
  clear n2 t2 v2 o1 o2 ht hq0
  go_enter Tryz.func5, Tryz.ntmps5
  go_wp2_with (go_at_call 35; (with_reducible refine (OF.out _).mono ?_); rintro e w1 ⟨A1, a1, B1, b1, rfl, s1, t1, hb1⟩; have YA := hide (Q3.new (.bool (qs q0)) (.slice A1 (ln (qn q0)) a1) (.slice B1 (ln (qd q0)) b1) w1); have S1 := hide (s1.alloc (.cells #[.bool (qs q0), .slice A1 (ln (qn q0)) a1, .slice B1 (ln (qd q0)) b1] 24)); have T1 := hide (t1.alloc (.cells #[.bool (qs q0), .slice A1 (ln (qn q0)) a1, .slice B1 (ln (qd q0)) b1] 24)); have BB := hide (bl_al hb1 (.cells #[.bool (qs q0), .slice A1 (ln (qn q0)) a1, .slice B1 (ln (qd q0)) b1] 24)); have GW := hide hb1.size; clear s1 t1 hb1)
  clear c1 c2 c3 c4 c5 c6 c7 c8 OF
  obtain ⟨g, hg⟩ : ∃ g, w1.heap.size = g := ⟨_, rfl⟩
  rw [hg] at YA GW ⊢
  clear hg
  go_loopw [10] (fun iv wr => ∃ (i : Nat) (q : Rat) (A : Option Addr) (c : Nat) (B : Option Addr) (d : Nat), i ≤ twos ∧ iv = .int .i64 (i : Int) ∧ qmk false n (other * 2 ^ i) = q ∧ Q3 g (.bool (qs q)) (.slice A (ln (qn q)) c) (.slice B (ln (qd q)) d) wr ∧ Sl wr A (digs (qn q)) ∧ Sl wr B (digs (qd q)) ∧ Below w.heap.size w wr) (fun iv _ => twos - (intOf iv).toNat)
  case atStart => exact ⟨0, q0, A1, a1, B1, b1, Nat.zero_le _, rfl, Q0.out, YA.out, S1.out, T1.out, BB.out⟩
  case round =>
    obtain ⟨i, q, A2, c2, B2, d2, hi, rfl, hq, hy, sA, sB, hb⟩ := hrel
    have Y := hide hy
    have SA := hide sA
    have SB := hide sB
    have HB := hide hb
    have HQ := hide hq
    clear hy sA sB hb hq YA S1 T1 BB
    by_cases hlt : i < twos
    · have c1 := lssI_t 3 (show (i : Int) < (twos : Int) by omega)
      obtain ⟨r, hr⟩ : ∃ r, qmk false 2 1 = r := ⟨_, rfl⟩
      obtain ⟨q', hq'⟩ : ∃ r, qmk false n (other * 2 ^ (i + 1)) = r := ⟨_, rfl⟩
      have h0 : 0 < other * 2 ^ i ∧ other * 2 ^ i < 2 ^ 97 := by have := (den_lt BD.out.2.2.2.1 BD.out.2.2.2.2 (i := i) (j := 0) (by have := BD.out.2.1; omega) (by decide)); rw [Nat.pow_zero, Nat.mul_one] at this; exact this
      have h1 : 0 < other * 2 ^ (i + 1) ∧ other * 2 ^ (i + 1) < 2 ^ 97 := by have := (den_lt BD.out.2.2.2.1 BD.out.2.2.2.2 (i := i + 1) (j := 0) (by have := BD.out.2.1; omega) (by decide)); rw [Nat.pow_zero, Nat.mul_one] at this; exact this
      have fq : fitq q := by rw [← HQ.out]; exact fit_nd BD.out.1 h0.1 h0.2
      have fq' : fitq q' := by rw [← hq']; exact fit_nd BD.out.1 h1.1 h1.2
      have fr : fitq r := by rw [← hr]; exact fit_nd (by decide) (by decide) (by decide)
      have hZ : q / r = q' := by rw [← HQ.out, ← hq', step_div n (other * 2 ^ i) 2 h0.1 (by decide) r hr, Nat.mul_assoc, ← Nat.pow_succ]
      have r0 : r ≠ 0 := by rw [← hr]; decide
      have O2 := hide (fun W => rof_q 2 1 r W (by decide) (by decide) (by decide) (by decide) (by decide) (by rw [← hr]; decide))
      have QU := hide (fun X U e f W s1 s2 s3 s4 => rquo_q q r q' hZ A2 B2 X U c2 d2 e f W s1 s2 s3 s4 fq fr r0 fq')
      have HI := hide (show i + 1 ≤ twos from hlt)
      have HN := hide hq'
      have oi : IntKind.i64.wrap ((i : Int) + 1) = (i : Int) + 1 := IntWalk.i64_in _ ⟨by omega, by have := BD.out.2.1; have := BD.out.2.2.1; omega⟩
      clear h0 h1 fq fq' fr hZ r0 hr hlt hi hq' HQ Q0
      go_wp2
      have Y := hide Y.out.drew
      have HB := hide HB.out.drew
      obtain ⟨y1, y2, y3, y4, y5, y6⟩ := Y.out
      go_region_with (first
        | (go_at_call 35; (with_reducible refine (O2.out _).mono ?_); rintro e v1 ⟨P1, p1, R1, r1, rfl, u1, u2, hb⟩; have Y := hide (Y.out.next hb); have HB := hide (bl_trans HB.out hb); clear y1 y2 y3 y4 y5 y6; obtain ⟨y1, y2, y3, y4, y5, y6⟩ := Y.out; have SA := hide (kp' hb SA.out); have SB := hide (kp' hb SB.out); have U1 := hide u1; have U2 := hide u2; clear u1 u2 hb)
        | (go_at_call 17; (with_reducible refine (QU.out P1 R1 p1 r1 _ SA.out SB.out U1.out U2.out).mono ?_); rintro e v2 ⟨A3, c3, B3, d3, rfl, u3, u4, hb⟩; have Y := hide (Y.out.next hb); have HB := hide (bl_trans HB.out hb); clear y1 y2 y3 y4 y5 y6; obtain ⟨y1, y2, y3, y4, y5, y6⟩ := Y.out; have U3 := hide u3; have U4 := hide u4; clear u3 u4 hb))
      all_goals
        (try simp only [Act.put, List.setIfInBounds_toArray, List.set_cons_zero, List.set_cons_succ, List.getElem_toArray, List.getElem_cons_succ, List.getElem_cons_zero])
        go_wp2
        go_roundw
        case rel => exact ⟨i + 1, q', A3, c3, B3, d3, HI.out, by go_num, HN.out, q3_put Y.out _ _ _, U3.out.over3 Y.out _ _ _, U4.out.over3 Y.out _ _ _, Below.over3 HB.out GW.out _ _ _⟩
        case measure => simp [intOf]; have := HI.out; omega
    · obtain rfl : twos = i := by omega
      have c1 := lssI_f 3 (show (twos : Int) ≤ (twos : Int) by omega)
      clear hlt hi
      go_wp2
      clear c1
      go_loopw [11] (fun iv wr => ∃ (i : Nat) (q : Rat) (A : Option Addr) (c : Nat) (B : Option Addr) (d : Nat), i ≤ fives ∧ iv = .int .i64 (i : Int) ∧ qmk false n (other * 2 ^ twos * 5 ^ i) = q ∧ Q3 g (.bool (qs q)) (.slice A (ln (qn q)) c) (.slice B (ln (qd q)) d) wr ∧ Sl wr A (digs (qn q)) ∧ Sl wr B (digs (qd q)) ∧ Below w.heap.size w wr) (fun iv _ => fives - (intOf iv).toNat)
      case atStart => exact ⟨0, q, A2, c2, B2, d2, Nat.zero_le _, rfl, by rw [Nat.pow_zero, Nat.mul_one]; exact HQ.out, Y.out, SA.out, SB.out, HB.out⟩
      case round =>
        obtain ⟨i, q, A2, c2, B2, d2, hi, rfl, hq, hy, sA, sB, hb⟩ := hrel
        have Y := hide hy
        have SA := hide sA
        have SB := hide sB
        have HB := hide hb
        have HQ := hide hq
        clear hy sA sB hb hq
        by_cases hlt : i < fives
        · have c1 := lssI_t 3 (show (i : Int) < (fives : Int) by omega)
          obtain ⟨r, hr⟩ : ∃ r, qmk false 5 1 = r := ⟨_, rfl⟩
          obtain ⟨q', hq'⟩ : ∃ r, qmk false n (other * 2 ^ twos * 5 ^ (i + 1)) = r := ⟨_, rfl⟩
          have h0 : 0 < other * 2 ^ twos * 5 ^ i ∧ other * 2 ^ twos * 5 ^ i < 2 ^ 97 := by have := (den_lt BD.out.2.2.2.1 BD.out.2.2.2.2 (i := twos) (j := i) (by have := BD.out.2.1; omega) (by have := BD.out.2.2.1; omega)); exact this
          have h1 : 0 < other * 2 ^ twos * 5 ^ (i + 1) ∧ other * 2 ^ twos * 5 ^ (i + 1) < 2 ^ 97 := by have := (den_lt BD.out.2.2.2.1 BD.out.2.2.2.2 (i := twos) (j := i + 1) (by have := BD.out.2.1; omega) (by have := BD.out.2.2.1; omega)); exact this
          have fq : fitq q := by rw [← HQ.out]; exact fit_nd BD.out.1 h0.1 h0.2
          have fq' : fitq q' := by rw [← hq']; exact fit_nd BD.out.1 h1.1 h1.2
          have fr : fitq r := by rw [← hr]; exact fit_nd (by decide) (by decide) (by decide)
          have hZ : q / r = q' := by rw [← HQ.out, ← hq', step_div n (other * 2 ^ twos * 5 ^ i) 5 h0.1 (by decide) r hr, Nat.mul_assoc, ← Nat.pow_succ]
          have r0 : r ≠ 0 := by rw [← hr]; decide
          have O2 := hide (fun W => rof_q 5 1 r W (by decide) (by decide) (by decide) (by decide) (by decide) (by rw [← hr]; decide))
          have QU := hide (fun X U e f W s1 s2 s3 s4 => rquo_q q r q' hZ A2 B2 X U c2 d2 e f W s1 s2 s3 s4 fq fr r0 fq')
          have HI := hide (show i + 1 ≤ fives from hlt)
          have HN := hide hq'
          have oi : IntKind.i64.wrap ((i : Int) + 1) = (i : Int) + 1 := IntWalk.i64_in _ ⟨by omega, by have := BD.out.2.1; have := BD.out.2.2.1; omega⟩
          clear h0 h1 fq fq' fr hZ r0 hr hlt hi hq' HQ Q0
          go_wp2
          have Y := hide Y.out.drew
          have HB := hide HB.out.drew
          obtain ⟨y1, y2, y3, y4, y5, y6⟩ := Y.out
          go_region_with (first
            | (go_at_call 35; (with_reducible refine (O2.out _).mono ?_); rintro e v1 ⟨P1, p1, R1, r1, rfl, u1, u2, hb⟩; have Y := hide (Y.out.next hb); have HB := hide (bl_trans HB.out hb); clear y1 y2 y3 y4 y5 y6; obtain ⟨y1, y2, y3, y4, y5, y6⟩ := Y.out; have SA := hide (kp' hb SA.out); have SB := hide (kp' hb SB.out); have U1 := hide u1; have U2 := hide u2; clear u1 u2 hb)
            | (go_at_call 17; (with_reducible refine (QU.out P1 R1 p1 r1 _ SA.out SB.out U1.out U2.out).mono ?_); rintro e v2 ⟨A3, c3, B3, d3, rfl, u3, u4, hb⟩; have Y := hide (Y.out.next hb); have HB := hide (bl_trans HB.out hb); clear y1 y2 y3 y4 y5 y6; obtain ⟨y1, y2, y3, y4, y5, y6⟩ := Y.out; have U3 := hide u3; have U4 := hide u4; clear u3 u4 hb))
          all_goals
            (try simp only [Act.put, List.setIfInBounds_toArray, List.set_cons_zero, List.set_cons_succ, List.getElem_toArray, List.getElem_cons_succ, List.getElem_cons_zero])
            go_wp2
            go_roundw
            case rel => exact ⟨i + 1, q', A3, c3, B3, d3, HI.out, by go_num, HN.out, q3_put Y.out _ _ _, U3.out.over3 Y.out _ _ _, U4.out.over3 Y.out _ _ _, Below.over3 HB.out GW.out _ _ _⟩
            case measure => simp [intOf]; have := HI.out; omega
        · obtain rfl : fives = i := by omega
          have c1 := lssI_f 3 (show (fives : Int) ≤ (fives : Int) by omega)
          clear hlt hi
          have h0 : 0 < other * 2 ^ twos * 5 ^ fives ∧ other * 2 ^ twos * 5 ^ fives < 2 ^ 97 := den_lt BD.out.2.2.2.1 BD.out.2.2.2.2 BD.out.2.1 BD.out.2.2.1
          have fq : fitq q := by rw [← HQ.out]; exact fit_nd BD.out.1 h0.1 h0.2
          obtain ⟨hs, hn1, hd1, _⟩ := qmk_parts n _ h0.1
          rw [HQ.out] at hs hn1 hd1
          have FQ := hide (show fitq q ∧ qs q = false ∧ qn q ≤ 1099511627776 ∧ qd q < 2 ^ 97 from ⟨fq, hs, Nat.le_trans hn1 BD.out.1, Nat.lt_of_le_of_lt hd1 h0.2⟩)
          have EX := hide (fun W (k : K6 w [(A2, digs (qn q)), (B2, digs (qd q))] W) => exact_any q A2 B2 c2 d2 W (k.sl nem1) (k.sl nem2) FQ.out.1 FQ.out.2.1 (pow_below HT.out k.b))
          have KB := hide (K6.cons (K6.cons (K6.nil HB.out) SB.out) SA.out)
          obtain ⟨y1, y2, y3, y4, y5, y6⟩ := Y.out
          clear h0 fq hs hn1 hd1 HQ SA SB HB BD Q0
          go_wp2_with (go_at_call 30; (with_reducible refine (EX.out _ KB.out).mono ?_); rintro e v5 ⟨D, ok, rfl, hx, hb⟩; have KB := hide (KB.out.next hb); have Y := hide (Y.out.next hb); have XF := hide hx; clear y1 y2 y3 y4 y5 y6; obtain ⟨y1, y2, y3, y4, y5, y6⟩ := Y.out; clear hb hx)
          clear y1 y2 y3 y4 y5 y6 c1 EX
          go_loopw [14, 15, 16, 17, 18] (fun dv kv _ _ _ wr => ∃ (k d : Nat) (A : Option Addr) (c : Nat), k ≤ 2 ∧ kv = .int .i64 (k : Int) ∧ dv = .slice A (ln d) c ∧ Sl wr A (digs d) ∧ 0 < d ∧ ln d ≤ 64 ∧ (1 ≤ k → ¬ 2 ∣ d) ∧ (2 ≤ k → ¬ 5 ∣ d) ∧ (TenDiv d ↔ TenDiv (qd q)) ∧ K6 w [(A2, digs (qn q)), (B2, digs (qd q))] wr ∧ Q3 g (.bool (qs q)) (.slice A2 (ln (qn q)) c2) (.slice B2 (ln (qd q)) d2) wr) (fun _ kv _ _ _ _ => 2 - (intOf kv).toNat)
          case atStart => exact ⟨0, qd q, B2, d2, by decide, rfl, rfl, KB.out.sl nem2, qd_pos q, FQ.out.1.2, fun h => absurd h (by decide), fun h => absurd h (by decide), Iff.rfl, KB.out, Y.out⟩
          case round =>
            obtain ⟨k, d, A6, c6, hk, rfl, rfl, sd, dp, dl, d2', d5', hten, hkb, hy⟩ := hrel
            have KB := hide hkb
            have Y := hide hy
            have SD := hide sd
            have FD := hide (And.intro dp (And.intro dl (And.intro d2' (And.intro d5' hten))))
            clear hkb hy sd dp dl d2' d5' hten
            by_cases hk0 : k = 0
            · subst hk0
              rw [show ((0 : Nat) : Int) = 0 from rfl]
              have c1 : binOp .lss 3 (.int .i64 0) (.int .i64 2) = pure (.bool true) := rfl
              go_wp2
              clear c1
              go_loopw [14, 16, 17, 18] (fun dv _ _ _ wr => ∃ (d : Nat) (A : Option Addr) (c : Nat), dv = .slice A (ln d) c ∧ Sl wr A (digs d) ∧ 0 < d ∧ ln d ≤ 64 ∧ (1 ≤ 0 → ¬ 2 ∣ d) ∧ (TenDiv d ↔ TenDiv (qd q)) ∧ K6 w [(A2, digs (qn q)), (B2, digs (qd q))] wr ∧ Q3 g (.bool (qs q)) (.slice A2 (ln (qn q)) c2) (.slice B2 (ln (qd q)) d2) wr) (fun dv _ _ _ wr => readV wr dv)
              case atStart => exact ⟨d, A6, c6, rfl, SD.out, FD.out.1, FD.out.2.1, FD.out.2.2.1, FD.out.2.2.2.2, KB.out, Y.out⟩
              case round =>
                obtain ⟨e, A7, c7, rfl, se, ep, el, e2', eten, hkb, hy⟩ := hrel
                have KE := hide hkb
                have YE := hide hy
                have SE := hide se
                obtain ⟨u, hu⟩ : ∃ u, e / 2 = u := ⟨_, rfl⟩
                obtain ⟨v, hv⟩ : ∃ v, e % 2 = v := ⟨_, rfl⟩
                have DV : Hid (∀ W f, Below wr.heap.size wr W → Sl W (some ⟨wr.heap.size, 0, none⟩) (digs 2) → Calls Tryz.prog 36 #[.slice A7 (ln e) c7, .slice (some ⟨wr.heap.size, 0, none⟩) 1 f] W fun e w' => ∃ A' c' B' d', e = .returned (.tuple #[.slice A' (ln u) c', .slice B' (ln v) d', .int .i64 0]) ∧ Sl w' A' (digs u) ∧ Sl w' B' (digs v) ∧ Below W.heap.size W w') := fun W f b s => by
                  have := rdivNat_z A7 (some ⟨wr.heap.size, 0, none⟩) c7 f e 2 W (kp' b SE.out) s el (by rw [show ln 2 = 1 from by unfold ln; rw [show digs 2 = [2] from digs1 (by decide) (by decide)]; rfl]; decide) (by decide) u v hu hv
                  rw [show ln 2 = 1 from by unfold ln; rw [show digs 2 = [2] from digs1 (by decide) (by decide)]; rfl] at this
                  exact this
                have L25 := (lit25 wr).1
                have bl1 : Below wr.heap.size wr (wr.alloc (.cells #[.int .u64 2, .int .u64 5] 45)) := bl_al (.refl _ _) _
                have M1 := hide (readV_sl se (ln e) c7 rfl)
                clear hkb hy se
                by_cases hv0 : v = 0
                · have dv : 2 ∣ e := Nat.dvd_of_mod_eq_zero (by rw [hv]; exact hv0)
                  have up : 0 < u := by rw [← hu]; exact Nat.div_pos (Nat.le_of_dvd ep dv) (by decide)
                  have ue : u < e := by rw [← hu]; exact Nat.div_lt_self ep (by decide)
                  have FU := hide (show 0 < u ∧ u < e ∧ ln u ≤ 64 ∧ (1 ≤ 0 → ¬ 2 ∣ u) ∧ (TenDiv u ↔ TenDiv (qd q)) from ⟨up, ue, Nat.le_trans (ln_mono (Nat.le_of_lt ue)) el, fun h c => e2' h (Nat.dvd_trans c ⟨2, by rw [← hu]; exact (Nat.div_mul_cancel dv).symm⟩), by rw [← hu, ten_part dv (by decide) (by decide)]; exact eten⟩)
                  have hl0 : ln v = 0 := by rw [hv0, ln_zero]
                  rw [hl0] at DV
                  clear hv0 dv up ue el e2' eten hu hv ep FD SD KB Y
                  go_wp2_with (go_at_call 36; (with_reducible refine (DV.out _ _ bl1 L25).mono ?_); rintro e w5 ⟨A8, c8, B8, d8, rfl, s8, t8, hb⟩; have b8 := bl_trans bl1 hb; have S8 := hide s8; clear s8 t8 hb)
                  go_wp2
                  go_roundw
                  case rel => exact ⟨u, A8, c8, rfl, S8.out, FU.out.1, FU.out.2.2.1, FU.out.2.2.2.1, FU.out.2.2.2.2, KE.out.next b8, YE.out.next b8⟩
                  case measure =>
                    have M2 := readV_sl S8.out (ln u) c8 rfl
                    rw [M1.out, M2, val_digs, val_digs]
                    exact FU.out.2.1
                · have FE := hide (show 0 < e ∧ ln e ≤ 64 ∧ ¬ 2 ∣ e ∧ (1 ≤ 0 → ¬ 2 ∣ e) ∧ (TenDiv e ↔ TenDiv (qd q)) from ⟨ep, el, fun c => hv0 (by rw [← hv]; exact Nat.mod_eq_zero_of_dvd c), e2', eten⟩)
                  have hl0 : (0 : Int) < (ln v : Int) := by have := ln_pos.2 (show 0 < v by omega); omega
                  have oi : IntKind.i64.wrap ((0 : Int) + 1) = 1 := rfl
                  clear hv0 el e2' eten hu hv ep FD SD KB Y
                  go_wp2_with (go_at_call 36; (with_reducible refine (DV.out _ _ bl1 L25).mono ?_); rintro e w5 ⟨A8, c8, B8, d8, rfl, s8, t8, hb⟩; have b8 := bl_trans bl1 hb; have S8 := hide s8; clear s8 t8 hb)
                  go_roundw
                  case rel => exact ⟨0 + 1, e, A7, c7, by decide, rfl, rfl, kp' b8 SE.out, FE.out.1, FE.out.2.1, fun _ => FE.out.2.2.1, fun h => absurd h (by decide), FE.out.2.2.2.2, KE.out.next b8, YE.out.next b8⟩
                  case measure => simp [intOf]
            by_cases hk1 : k = 1
            · subst hk1
              rw [show ((1 : Nat) : Int) = 1 from rfl]
              have c1 : binOp .lss 3 (.int .i64 1) (.int .i64 2) = pure (.bool true) := rfl
              go_wp2
              clear c1
              go_loopw [14, 16, 17, 18] (fun dv _ _ _ wr => ∃ (d : Nat) (A : Option Addr) (c : Nat), dv = .slice A (ln d) c ∧ Sl wr A (digs d) ∧ 0 < d ∧ ln d ≤ 64 ∧ (1 ≤ 1 → ¬ 2 ∣ d) ∧ (TenDiv d ↔ TenDiv (qd q)) ∧ K6 w [(A2, digs (qn q)), (B2, digs (qd q))] wr ∧ Q3 g (.bool (qs q)) (.slice A2 (ln (qn q)) c2) (.slice B2 (ln (qd q)) d2) wr) (fun dv _ _ _ wr => readV wr dv)
              case atStart => exact ⟨d, A6, c6, rfl, SD.out, FD.out.1, FD.out.2.1, FD.out.2.2.1, FD.out.2.2.2.2, KB.out, Y.out⟩
              case round =>
                obtain ⟨e, A7, c7, rfl, se, ep, el, e2', eten, hkb, hy⟩ := hrel
                have KE := hide hkb
                have YE := hide hy
                have SE := hide se
                obtain ⟨u, hu⟩ : ∃ u, e / 5 = u := ⟨_, rfl⟩
                obtain ⟨v, hv⟩ : ∃ v, e % 5 = v := ⟨_, rfl⟩
                have DV : Hid (∀ W f, Below wr.heap.size wr W → Sl W (some ⟨wr.heap.size, 1, none⟩) (digs 5) → Calls Tryz.prog 36 #[.slice A7 (ln e) c7, .slice (some ⟨wr.heap.size, 1, none⟩) 1 f] W fun e w' => ∃ A' c' B' d', e = .returned (.tuple #[.slice A' (ln u) c', .slice B' (ln v) d', .int .i64 0]) ∧ Sl w' A' (digs u) ∧ Sl w' B' (digs v) ∧ Below W.heap.size W w') := fun W f b s => by
                  have := rdivNat_z A7 (some ⟨wr.heap.size, 1, none⟩) c7 f e 5 W (kp' b SE.out) s el (by rw [show ln 5 = 1 from by unfold ln; rw [show digs 5 = [5] from digs1 (by decide) (by decide)]; rfl]; decide) (by decide) u v hu hv
                  rw [show ln 5 = 1 from by unfold ln; rw [show digs 5 = [5] from digs1 (by decide) (by decide)]; rfl] at this
                  exact this
                have L25 := (lit25 wr).2
                have bl1 : Below wr.heap.size wr (wr.alloc (.cells #[.int .u64 2, .int .u64 5] 45)) := bl_al (.refl _ _) _
                have M1 := hide (readV_sl se (ln e) c7 rfl)
                clear hkb hy se
                by_cases hv0 : v = 0
                · have dv : 5 ∣ e := Nat.dvd_of_mod_eq_zero (by rw [hv]; exact hv0)
                  have up : 0 < u := by rw [← hu]; exact Nat.div_pos (Nat.le_of_dvd ep dv) (by decide)
                  have ue : u < e := by rw [← hu]; exact Nat.div_lt_self ep (by decide)
                  have FU := hide (show 0 < u ∧ u < e ∧ ln u ≤ 64 ∧ (1 ≤ 1 → ¬ 2 ∣ u) ∧ (TenDiv u ↔ TenDiv (qd q)) from ⟨up, ue, Nat.le_trans (ln_mono (Nat.le_of_lt ue)) el, fun h c => e2' h (Nat.dvd_trans c ⟨5, by rw [← hu]; exact (Nat.div_mul_cancel dv).symm⟩), by rw [← hu, ten_part dv (by decide) (by decide)]; exact eten⟩)
                  have hl0 : ln v = 0 := by rw [hv0, ln_zero]
                  rw [hl0] at DV
                  clear hv0 dv up ue el e2' eten hu hv ep FD SD KB Y
                  go_wp2_with (go_at_call 36; (with_reducible refine (DV.out _ _ bl1 L25).mono ?_); rintro e w5 ⟨A8, c8, B8, d8, rfl, s8, t8, hb⟩; have b8 := bl_trans bl1 hb; have S8 := hide s8; clear s8 t8 hb)
                  go_wp2
                  go_roundw
                  case rel => exact ⟨u, A8, c8, rfl, S8.out, FU.out.1, FU.out.2.2.1, FU.out.2.2.2.1, FU.out.2.2.2.2, KE.out.next b8, YE.out.next b8⟩
                  case measure =>
                    have M2 := readV_sl S8.out (ln u) c8 rfl
                    rw [M1.out, M2, val_digs, val_digs]
                    exact FU.out.2.1
                · have FE := hide (show 0 < e ∧ ln e ≤ 64 ∧ ¬ 5 ∣ e ∧ (1 ≤ 1 → ¬ 2 ∣ e) ∧ (TenDiv e ↔ TenDiv (qd q)) from ⟨ep, el, fun c => hv0 (by rw [← hv]; exact Nat.mod_eq_zero_of_dvd c), e2', eten⟩)
                  have hl0 : (0 : Int) < (ln v : Int) := by have := ln_pos.2 (show 0 < v by omega); omega
                  have oi : IntKind.i64.wrap ((1 : Int) + 1) = 2 := rfl
                  clear hv0 el e2' eten hu hv ep FD SD KB Y
                  go_wp2_with (go_at_call 36; (with_reducible refine (DV.out _ _ bl1 L25).mono ?_); rintro e w5 ⟨A8, c8, B8, d8, rfl, s8, t8, hb⟩; have b8 := bl_trans bl1 hb; have S8 := hide s8; clear s8 t8 hb)
                  go_roundw
                  case rel => exact ⟨1 + 1, e, A7, c7, by decide, rfl, rfl, kp' b8 SE.out, FE.out.1, FE.out.2.1, fun _ => FE.out.2.2.2.1 (by decide), fun _ => FE.out.2.2.1, FE.out.2.2.2.2, KE.out.next b8, YE.out.next b8⟩
                  case measure => simp [intOf]
            obtain rfl : k = 2 := by omega
            have c1 : binOp .lss 3 (.int .i64 ((2 : Nat) : Int)) (.int .i64 2) = pure (.bool false) := rfl
            have hten : TenDiv (qd q) ↔ d = 1 := by rw [← FD.out.2.2.2.2]; exact ten_end (FD.out.2.2.1 (by decide)) (FD.out.2.2.2.1 (by decide))
            have e1 : digs 1 = [1] := digs1 (by decide) (by decide)
            have S1 := litSl wr #[.int .u64 1] [1] rfl rfl
            rw [← e1] at S1
            have bl1 : Below wr.heap.size wr (wr.alloc (.cells #[.int .u64 1] 45)) := bl_al (.refl _ _) _
            obtain ⟨z, hz⟩ : ∃ z, decide (d = 1) = z := ⟨_, rfl⟩
            have SL : Hid (∀ W f, Below wr.heap.size wr W → Sl W (some ⟨wr.heap.size, 0, none⟩) (digs 1) → Calls Tryz.prog 37 #[.slice A6 (ln d) c6, .slice (some ⟨wr.heap.size, 0, none⟩) 1 f] W fun e w' => e = .returned (.bool z) ∧ Below W.heap.size W w') := fun W f b s => lsame_z A6 (some ⟨wr.heap.size, 0, none⟩) c6 f (ln d) 1 (digs d) (digs 1) W (kp' b SD.out) s rfl ln_one (Nat.le_trans FD.out.2.1 (by decide)) (by decide) z (by rw [← hz, decide_eq_decide]; exact ⟨fun h => by have := congrArg val h; rwa [val_digs, val_digs] at this, fun h => by rw [h]⟩)
            have AW := hide (fun W (k : K6 w [(A2, digs (qn q)), (B2, digs (qd q))] W) => awake4_any W (pow_below HT.out k.b))
            have xf := XF.out
            rcases xf with ⟨rfl, x1, x2⟩ | ⟨rfl, x1, rfl⟩
            · obtain rfl : z = true := by rw [← hz]; exact decide_eq_true (hten.1 x1)
              have PA := hide (fun W => (dparse_all D W (exact_short x2 x1 FQ.out.2.2.1 FQ.out.2.2.2)).2 q (back_parse FQ.out.2.1 x2))
              obtain ⟨z3, zl, zf⟩ := ends_of x2
              obtain ⟨a, ha⟩ : ∃ a, a + 1 = D.size := ⟨D.size - 1, by omega⟩
              obtain ⟨b, hb⟩ : ∃ b, b + 2 = D.size := ⟨D.size - 2, by omega⟩
              have zs := exact_short x2 x1 FQ.out.2.2.1 FQ.out.2.2.2
              have o1 : binOp .sub 3 (.int .i64 (D.size : Int)) (.int .i64 1) = pure (.int .i64 (a : Int)) := i64_sub 3 D.size 1 a ha (by omega)
              have o2 : binOp .sub 3 (.int .i64 (D.size : Int)) (.int .i64 2) = pure (.int .i64 (b : Int)) := i64_sub 3 D.size 2 b hb (by omega)
              have o3 := lssI_f 3 (show (3 : Int) ≤ (D.size : Int) by omega)
              have e0 : binOp .neq 27 (.int .i64 0) (.int .i64 0) = pure (.bool false) := rfl
              have ob : ∀ W : World, (binOp .neq 4 (.bool true) (.bool true)).run Tryz.prog W = .ok (.bool false) W := fun _ => by kernel_rfl
              have a1 : a < D.size := by omega
              have b1 : b < D.size := by omega
              have h00 : 0 < D.size := by omega
              have h11 : 1 < D.size := by omega
              have SM := hide (fun X Z e f W (k : K6 w [(A2, digs (qn q)), (B2, digs (qd q))] W) s1 s2 => same_q q q X Z A2 B2 e f c2 d2 W s1 s2 (k.sl nem1) (k.sl nem2) FQ.out.1 FQ.out.1 true (decide_eq_true rfl))
              have ZL : D[a] ≠ 48 ∨ (D[a] = 48 ∧ D[b] = 46) := zl a b ha hb
              have ZF : D[0] ≠ 48 ∨ (D[0] = 48 ∧ D[1] = 46) := zf h00 h11
              clear hten x1 x2 hz e1 zl zf FD XF hk hk0 hk1 zs z3 ha hb
              rcases ZL with ZL | ⟨ZL, ZM⟩ <;> rcases ZF with ZF | ⟨ZF, ZG⟩
              · have w1 : ((D[a].toNat : Int) != 48) = true := byte_ne ZL
                have w3 : ((D[0].toNat : Int) != 48) = true := byte_ne ZF
                clear ZL ZF
                go_wp2_with (first
            | (go_at_call 37; (with_reducible refine (SL.out _ _ bl1 S1).mono ?_); rintro e v6 ⟨rfl, hb⟩; have KB := hide (KB.out.next (bl_trans bl1 hb)); have Y := hide (Y.out.next (bl_trans bl1 hb)); clear hb)
            | (go_at_call 28; (with_reducible refine (PA.out _).mono ?_); rintro e v7 ⟨A9, c9, B9, d9, rfl, s9, t9, hb⟩; have KB := hide ((KB.out.next hb).al (.cells #[.bool (qs q), .slice A9 (ln (qn q)) c9, .slice B9 (ln (qd q)) d9] 24)); have Y := hide ((Y.out.next hb).al (.cells #[.bool (qs q), .slice A9 (ln (qn q)) c9, .slice B9 (ln (qd q)) d9] 24)); have Z := hide (Q3.new (.bool (qs q)) (.slice A9 (ln (qn q)) c9) (.slice B9 (ln (qd q)) d9) v7); obtain ⟨y1, y2, y3, y4, y5, y6⟩ := Y.out; obtain ⟨q1, q2, q3, q4, q5, q6⟩ := Z.out; clear hb)
            | (go_at_call 32; (with_reducible refine (SM.out A9 B9 c9 d9 _ KB.out (s9.alloc _) (t9.alloc _)).mono ?_); rintro e v8 ⟨rfl, hb⟩; have KB := hide (KB.out.next hb); clear hb)
            | (go_at_call 27; (with_reducible refine (AW.out _ KB.out).mono ?_); rintro e v9 ⟨rfl, hb⟩; have KB := hide (KB.out.next hb); clear hb))
                go_ret
                exact ⟨rfl, KB.out.b⟩
              · have w1 : ((D[a].toNat : Int) != 48) = true := byte_ne ZL
                have w3 : ((D[0].toNat : Int) != 48) = false := by rw [ZF]; rfl
                have w4 : ((D[1].toNat : Int) == 46) = true := by rw [ZG]; rfl
                clear ZL ZF ZG
                go_wp2_with (first
            | (go_at_call 37; (with_reducible refine (SL.out _ _ bl1 S1).mono ?_); rintro e v6 ⟨rfl, hb⟩; have KB := hide (KB.out.next (bl_trans bl1 hb)); have Y := hide (Y.out.next (bl_trans bl1 hb)); clear hb)
            | (go_at_call 28; (with_reducible refine (PA.out _).mono ?_); rintro e v7 ⟨A9, c9, B9, d9, rfl, s9, t9, hb⟩; have KB := hide ((KB.out.next hb).al (.cells #[.bool (qs q), .slice A9 (ln (qn q)) c9, .slice B9 (ln (qd q)) d9] 24)); have Y := hide ((Y.out.next hb).al (.cells #[.bool (qs q), .slice A9 (ln (qn q)) c9, .slice B9 (ln (qd q)) d9] 24)); have Z := hide (Q3.new (.bool (qs q)) (.slice A9 (ln (qn q)) c9) (.slice B9 (ln (qd q)) d9) v7); obtain ⟨y1, y2, y3, y4, y5, y6⟩ := Y.out; obtain ⟨q1, q2, q3, q4, q5, q6⟩ := Z.out; clear hb)
            | (go_at_call 32; (with_reducible refine (SM.out A9 B9 c9 d9 _ KB.out (s9.alloc _) (t9.alloc _)).mono ?_); rintro e v8 ⟨rfl, hb⟩; have KB := hide (KB.out.next hb); clear hb)
            | (go_at_call 27; (with_reducible refine (AW.out _ KB.out).mono ?_); rintro e v9 ⟨rfl, hb⟩; have KB := hide (KB.out.next hb); clear hb))
                go_ret
                exact ⟨rfl, KB.out.b⟩
              · have w1 : ((D[a].toNat : Int) != 48) = false := by rw [ZL]; rfl
                have w2 : ((D[b].toNat : Int) == 46) = true := by rw [ZM]; rfl
                have w3 : ((D[0].toNat : Int) != 48) = true := byte_ne ZF
                clear ZL ZF ZM
                go_wp2_with (first
            | (go_at_call 37; (with_reducible refine (SL.out _ _ bl1 S1).mono ?_); rintro e v6 ⟨rfl, hb⟩; have KB := hide (KB.out.next (bl_trans bl1 hb)); have Y := hide (Y.out.next (bl_trans bl1 hb)); clear hb)
            | (go_at_call 28; (with_reducible refine (PA.out _).mono ?_); rintro e v7 ⟨A9, c9, B9, d9, rfl, s9, t9, hb⟩; have KB := hide ((KB.out.next hb).al (.cells #[.bool (qs q), .slice A9 (ln (qn q)) c9, .slice B9 (ln (qd q)) d9] 24)); have Y := hide ((Y.out.next hb).al (.cells #[.bool (qs q), .slice A9 (ln (qn q)) c9, .slice B9 (ln (qd q)) d9] 24)); have Z := hide (Q3.new (.bool (qs q)) (.slice A9 (ln (qn q)) c9) (.slice B9 (ln (qd q)) d9) v7); obtain ⟨y1, y2, y3, y4, y5, y6⟩ := Y.out; obtain ⟨q1, q2, q3, q4, q5, q6⟩ := Z.out; clear hb)
            | (go_at_call 32; (with_reducible refine (SM.out A9 B9 c9 d9 _ KB.out (s9.alloc _) (t9.alloc _)).mono ?_); rintro e v8 ⟨rfl, hb⟩; have KB := hide (KB.out.next hb); clear hb)
            | (go_at_call 27; (with_reducible refine (AW.out _ KB.out).mono ?_); rintro e v9 ⟨rfl, hb⟩; have KB := hide (KB.out.next hb); clear hb))
                go_ret
                exact ⟨rfl, KB.out.b⟩
              · have w1 : ((D[a].toNat : Int) != 48) = false := by rw [ZL]; rfl
                have w2 : ((D[b].toNat : Int) == 46) = true := by rw [ZM]; rfl
                have w3 : ((D[0].toNat : Int) != 48) = false := by rw [ZF]; rfl
                have w4 : ((D[1].toNat : Int) == 46) = true := by rw [ZG]; rfl
                clear ZL ZF ZM ZG
                go_wp2_with (first
            | (go_at_call 37; (with_reducible refine (SL.out _ _ bl1 S1).mono ?_); rintro e v6 ⟨rfl, hb⟩; have KB := hide (KB.out.next (bl_trans bl1 hb)); have Y := hide (Y.out.next (bl_trans bl1 hb)); clear hb)
            | (go_at_call 28; (with_reducible refine (PA.out _).mono ?_); rintro e v7 ⟨A9, c9, B9, d9, rfl, s9, t9, hb⟩; have KB := hide ((KB.out.next hb).al (.cells #[.bool (qs q), .slice A9 (ln (qn q)) c9, .slice B9 (ln (qd q)) d9] 24)); have Y := hide ((Y.out.next hb).al (.cells #[.bool (qs q), .slice A9 (ln (qn q)) c9, .slice B9 (ln (qd q)) d9] 24)); have Z := hide (Q3.new (.bool (qs q)) (.slice A9 (ln (qn q)) c9) (.slice B9 (ln (qd q)) d9) v7); obtain ⟨y1, y2, y3, y4, y5, y6⟩ := Y.out; obtain ⟨q1, q2, q3, q4, q5, q6⟩ := Z.out; clear hb)
            | (go_at_call 32; (with_reducible refine (SM.out A9 B9 c9 d9 _ KB.out (s9.alloc _) (t9.alloc _)).mono ?_); rintro e v8 ⟨rfl, hb⟩; have KB := hide (KB.out.next hb); clear hb)
            | (go_at_call 27; (with_reducible refine (AW.out _ KB.out).mono ?_); rintro e v9 ⟨rfl, hb⟩; have KB := hide (KB.out.next hb); clear hb))
                go_ret
                exact ⟨rfl, KB.out.b⟩
            · obtain rfl : z = false := by rw [← hz]; exact decide_eq_false (fun h => x1 (hten.2 h))
              have ob : ∀ W : World, (binOp .neq 4 (.bool false) (.bool false)).run Tryz.prog W = .ok (.bool false) W := fun _ => by kernel_rfl
              have j2 := eq_s 9 (show (⟨#[]⟩ : ByteArray) = ⟨#[]⟩ from rfl)
              clear hten x1 hz e1 FD XF hk hk0 hk1
              go_wp2_with (first
            | (go_at_call 37; (with_reducible refine (SL.out _ _ bl1 S1).mono ?_); rintro e v6 ⟨rfl, hb⟩; have KB := hide (KB.out.next (bl_trans bl1 hb)); clear hb)
            | (go_at_call 27; (with_reducible refine (AW.out _ KB.out).mono ?_); rintro e v9 ⟨rfl, hb⟩; have KB := hide (KB.out.next hb); clear hb))
              go_ret
              exact ⟨rfl, KB.out.b⟩

set_option maxRecDepth 100000 in
set_option maxHeartbeats 8000000 in
theorem back_law (n t v k : Int) (w : World) (ht : Pow10 w) :
    Calls Tryz.prog 5 #[.int .i64 n, .int .i64 t, .int .i64 v, .int .i64 k] w fun e w' => e = .returned (.bool true) ∧ Below w.heap.size w w' := by
  have AW := hide (awake4_any w ht)
  by_cases h0 : n < 0
  · have c0 := lssI_t 3 h0
    clear h0 ht
    go_enter Tryz.func5, Tryz.ntmps5
    go_wp2_with (go_at_call 27; (with_reducible refine (AW.out).mono ?_); rintro e w' ⟨rfl, hb⟩)
    go_ret
    exact ⟨rfl, hb⟩
  have c0 := lssI_f 3 (show (0 : Int) ≤ n by omega)
  by_cases h1 : 1099511627776 < n
  · have c1 := gtrI_t 3 h1
    clear h0 h1 ht
    go_enter Tryz.func5, Tryz.ntmps5
    go_wp2_with (go_at_call 27; (with_reducible refine (AW.out).mono ?_); rintro e w' ⟨rfl, hb⟩)
    go_ret
    exact ⟨rfl, hb⟩
  have c1 := gtrI_f 3 (show n ≤ (1099511627776 : Int) by omega)
  by_cases h2 : t < 0
  · have c2 := lssI_t 3 h2
    clear h0 h1 h2 ht
    go_enter Tryz.func5, Tryz.ntmps5
    go_wp2_with (go_at_call 27; (with_reducible refine (AW.out).mono ?_); rintro e w' ⟨rfl, hb⟩)
    go_ret
    exact ⟨rfl, hb⟩
  have c2 := lssI_f 3 (show (0 : Int) ≤ t by omega)
  by_cases h3 : 40 < t
  · have c3 := gtrI_t 3 h3
    clear h0 h1 h2 h3 ht
    go_enter Tryz.func5, Tryz.ntmps5
    go_wp2_with (go_at_call 27; (with_reducible refine (AW.out).mono ?_); rintro e w' ⟨rfl, hb⟩)
    go_ret
    exact ⟨rfl, hb⟩
  have c3 := gtrI_f 3 (show t ≤ (40 : Int) by omega)
  by_cases h4 : v < 0
  · have c4 := lssI_t 3 h4
    clear h0 h1 h2 h3 h4 ht
    go_enter Tryz.func5, Tryz.ntmps5
    go_wp2_with (go_at_call 27; (with_reducible refine (AW.out).mono ?_); rintro e w' ⟨rfl, hb⟩)
    go_ret
    exact ⟨rfl, hb⟩
  have c4 := lssI_f 3 (show (0 : Int) ≤ v by omega)
  by_cases h5 : 20 < v
  · have c5 := gtrI_t 3 h5
    clear h0 h1 h2 h3 h4 h5 ht
    go_enter Tryz.func5, Tryz.ntmps5
    go_wp2_with (go_at_call 27; (with_reducible refine (AW.out).mono ?_); rintro e w' ⟨rfl, hb⟩)
    go_ret
    exact ⟨rfl, hb⟩
  have c5 := gtrI_f 3 (show v ≤ (20 : Int) by omega)
  by_cases h6 : k < 1
  · have c6 := lssI_t 3 h6
    clear h0 h1 h2 h3 h4 h5 h6 ht
    go_enter Tryz.func5, Tryz.ntmps5
    go_wp2_with (go_at_call 27; (with_reducible refine (AW.out).mono ?_); rintro e w' ⟨rfl, hb⟩)
    go_ret
    exact ⟨rfl, hb⟩
  have c6 := lssI_f 3 (show (1 : Int) ≤ k by omega)
  by_cases h7 : 1000 < k
  · have c7 := gtrI_t 3 h7
    clear h0 h1 h2 h3 h4 h5 h6 h7 ht
    go_enter Tryz.func5, Tryz.ntmps5
    go_wp2_with (go_at_call 27; (with_reducible refine (AW.out).mono ?_); rintro e w' ⟨rfl, hb⟩)
    go_ret
    exact ⟨rfl, hb⟩
  have c7 := gtrI_f 3 (show k ≤ (1000 : Int) by omega)
  obtain ⟨n, rfl⟩ : ∃ m : Nat, n = (m : Int) := ⟨n.toNat, by omega⟩
  obtain ⟨t, rfl⟩ : ∃ m : Nat, t = (m : Int) := ⟨t.toNat, by omega⟩
  obtain ⟨v, rfl⟩ : ∃ m : Nat, v = (m : Int) := ⟨v.toNat, by omega⟩
  obtain ⟨k, rfl⟩ : ∃ m : Nat, k = (m : Int) := ⟨k.toNat, by omega⟩
  exact back_in n t v k w (by omega) (by omega) (by omega) (by omega) (by omega) ht
end Nt

end Go.Proofs.YtboppbidldomhaaGreatDoor
