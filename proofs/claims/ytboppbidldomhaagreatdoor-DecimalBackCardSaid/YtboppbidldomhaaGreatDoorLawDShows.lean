
/-
  The reference's TextInt of what is not below 0; the law DecimalShows.
-/
import Derived.Test.YtboppbidldomhaaGreatDoorAwake4

import Derived.Test.YtboppbidldomhaaGreatDoorRefTextN

namespace Go.Proofs.YtboppbidldomhaaGreatDoor

open Go.RowKit

namespace Nt

theorem rtextI_n (A : Option Addr) (c n : Nat) (w : World) (sx : Sl w A (digs n)) (hl : ln n ≤ 64) :
    Calls Tryz.prog 38 #[.agg #[.bool false, .slice A (ln n) c]] w fun e w' => e = .returned (.string ⟨(Lib.decDigits n).toArray⟩) ∧ Below w.heap.size w w' := by
  have V1 := hide (fun W (k : Below w.heap.size w W) => rvalidI_any false A c (digs n) W (kp' k sx) (Nat.le_trans hl (by decide)))
  rw [show validI false (digs n) = true from validI_iff.2 ⟨valid_short hl (norm_digs _), fun h => by cases h⟩] at V1
  have V1 : Hid (∀ W, Below w.heap.size w W → Calls Tryz.prog 89 #[.agg #[.bool false, .slice A (ln n) c]] W fun e w' => e = .returned (.bool true) ∧ Below W.heap.size W w') := V1
  have T := hide (fun W (k : Below w.heap.size w W) => rtext_any A c (digs n) W (kp' k sx) (limbs_digs _) (Nat.le_trans hl (by decide)))
  rw [show textSp (digs n) = Lib.decDigits n by unfold textSp; rw [valid_short hl (norm_digs _), val_digs]; rfl] at T
  have T : Hid (∀ W, Below w.heap.size w W → Calls Tryz.prog 87 #[.slice A (ln n) c] W fun e w' => e = .returned (.string ⟨(Lib.decDigits n).toArray⟩) ∧ Below W.heap.size W w') := T
  clear sx hl
  generalize (⟨(Lib.decDigits n).toArray⟩ : ByteArray) = D at *
  generalize ln n = i at *
  have X1 := hide (Q2.new (.bool false) (.slice A i c) w)
  have b0 : Below w.heap.size w (w.alloc (.cells #[.bool false, .slice A i c] 50)) := bl_al (.refl _ _) _
  obtain ⟨x1, x2, x3, x4⟩ := X1.out
  go_enter Tryz.func38, Tryz.ntmps38
  go_wp2_with (first
    | (go_at_call 89; (with_reducible refine (V1.out _ b0).mono ?_); rintro e w1 ⟨rfl, hb⟩; have X1 := hide (X1.out.next hb); clear x1 x2 x3 x4; obtain ⟨x1, x2, x3, x4⟩ := X1.out; have b1 := bl_trans b0 hb; clear hb)
    | (go_at_call 87; (with_reducible refine (T.out _ b1).mono ?_); rintro e w2 ⟨rfl, hb⟩; have b2 := bl_trans b1 hb; clear hb))
  go_ret
  exact ⟨rfl, b2⟩
theorem int_b4 {n : Int} (h : (Lit.int .i64 n).wf = true) : -9223372036854775808 ≤ n ∧ n ≤ 9223372036854775807 := by
  have hb : IntKind.i64.min = -9223372036854775808 ∧ IntKind.i64.max = 9223372036854775807 := ⟨rfl, rfl⟩
  simp only [Lit.wf, hb.1, hb.2, Bool.and_eq_true, decide_eq_true_eq] at h
  exact h
theorem bl_drewN {B : Nat} {a w : World} (h : Below B a w) (k : Nat) : Below B a (w.drewN k) := ⟨h.os, h.tape, h.output, h.size, h.block⟩
theorem K6.drewN {w W : World} {l : List (Option Addr × List Nat)} (k : K6 w l W) (n : Nat) : K6 w l (W.drewN n) := ⟨bl_drewN k.1 n, k.2⟩
theorem K6.al {w W : World} {l : List (Option Addr × List Nat)} (k : K6 w l W) (o : Obj) : K6 w l (W.alloc o) := k.next (bl_al (.refl _ _) o)
theorem lssI_t (t : TypeId) {x y : Int} (h : x < y) : binOp .lss t (.int .i64 x) (.int .i64 y) = pure (.bool true) := by
  show pure (Value.bool (decide (x < y))) = _
  rw [decide_eq_true h]
theorem lssI_f (t : TypeId) {x y : Int} (h : y ≤ x) : binOp .lss t (.int .i64 x) (.int .i64 y) = pure (.bool false) := by
  show pure (Value.bool (decide (x < y))) = _
  rw [decide_eq_false (by omega)]
theorem gtrI_t (t : TypeId) {x y : Int} (h : y < x) : binOp .gtr t (.int .i64 x) (.int .i64 y) = pure (.bool true) := by
  show pure (Value.bool (decide (x > y))) = _
  rw [decide_eq_true h]
theorem gtrI_f (t : TypeId) {x y : Int} (h : x ≤ y) : binOp .gtr t (.int .i64 x) (.int .i64 y) = pure (.bool false) := by
  show pure (Value.bool (decide (x > y))) = _
  rw [decide_eq_false (by omega)]

/-- The fraction of two ints, the lower one above 0. -/
theorem frac_parts (n d : Int) (hd : 0 < d) : ∃ q : Rat, qmk (isg n != isg d) n.natAbs d.natAbs = q ∧ qs q = decide (n < 0) ∧ qn q = n.natAbs / Nat.gcd n.natAbs d.natAbs ∧ qd q = d.natAbs / Nat.gcd n.natAbs d.natAbs := by
  have h0 : d.natAbs ≠ 0 := by omega
  refine ⟨_, rfl, ?_, qn_mk _ _ h0, qd_mk _ _ h0⟩
  rw [qs_mk _ _ h0]
  have e1 : isg d = false := by unfold isg; exact decide_eq_false (by omega)
  rw [e1, Bool.bne_false]
  unfold isg
  by_cases hn : n < 0
  · rw [decide_eq_true hn, Bool.true_and, decide_eq_true]
    exact Nat.div_pos (Nat.gcd_le_left _ (by omega)) (Nat.gcd_pos_of_pos_left _ (by omega))
  · rw [decide_eq_false hn, Bool.false_and]

/-- .. no fraction. -/
theorem none_den (s : Bool) (xs : List Nat) : validQ s xs [] = false := validQ_c rfl

set_option maxRecDepth 100000 in
set_option maxHeartbeats 16000000 in
theorem shows_in (n d : Int) (w : World) (d1 : 1 ≤ d) (d2 : d ≤ 1073741824) (n1 : -1099511627776 ≤ n) (n2 : n ≤ 1099511627776) (ht : Pow10 w) :
    Calls Tryz.prog 7 #[.int .i64 n, .int .i64 d] w fun e w' => e = .returned (.bool true) ∧ Below w.heap.size w w' := by
  obtain ⟨q, hq, hs, hqn, hqd⟩ := frac_parts n d (by omega)
  obtain ⟨k, hk⟩ : ∃ k : Nat, n.natAbs = k := ⟨_, rfl⟩
  obtain ⟨m, hm⟩ : ∃ m : Nat, d.natAbs = m := ⟨_, rfl⟩
  obtain rfl : d = (m : Int) := by omega
  have OF := hide (fun W => rof_q n (m : Int) q W (by omega) (by omega) (by omega) (by omega) (by omega) hq)
  rw [hk, hm] at hqn hqd
  have kb : k ≤ 1099511627776 := by omega
  have mb : m ≤ 1073741824 ∧ 0 < m := by omega
  have fq : fitq q := ⟨Nat.le_trans (ln_le (k := 1) (by rw [Nat.pow_one, LB_eq, hqn]; have := Nat.div_le_self k (Nat.gcd k m); omega)) (by decide), Nat.le_trans (ln_le (k := 1) (by rw [Nat.pow_one, LB_eq, hqd]; have := Nat.div_le_self m (Nat.gcd k m); omega)) (by decide)⟩
  have hmx : ∀ ts t W, (Builtin.max_ ts t #[.int .i64 n, .int .i64 (-n)]).run Tryz.prog W = .ok (.int .i64 (k : Int)) W := fun ts t W => by
    rw [run_max_int2]
    congr 2
    split <;> omega
  have wn : IntKind.i64.wrap (-n) = -n := IntWalk.i64_in _ ⟨by omega, by omega⟩
  have c1 := lssI_f 3 d1
  have c2 := gtrI_f 3 d2
  have c3 := lssI_f 3 n1
  have c4 := gtrI_f 3 n2
  have NB := hide (And.intro n1 n2)
  have FK := hide (And.intro kb mb)
  have QN := hide hqn
  have QD := hide hqd
  have SG := hide hs
  have FQ := hide fq
  have HT := hide ht
  have HK := hide hk
  clear hq hs hqn hqd hk hm fq ht kb mb d1 d2 n1 n2
  go_enter Tryz.func7, Tryz.ntmps7
  go_wp2_with (go_at_call 35; (with_reducible refine (OF.out _).mono ?_); rintro e w1 ⟨A1, a1, B1, b1, rfl, s1, t1, hb1⟩; have KA := hide ((K6.cons (K6.cons (K6.nil (bl_al hb1 (.cells #[.bool (qs q), .slice A1 (ln (qn q)) a1, .slice B1 (ln (qd q)) b1] 24))) (t1.alloc _)) (s1.alloc _)) : K6 w [(A1, digs (qn q)), (B1, digs (qd q))] _); have Y1 := hide (Q3.new (.bool (qs q)) (.slice A1 (ln (qn q)) a1) (.slice B1 (ln (qd q)) b1) w1); clear s1 t1 hb1)
  clear c1 c2 c3 c4 hmx wn OF
  go_loopw [6, 8] (fun gv mv wr => ∃ x y : Nat, gv = .int .i64 (x : Int) ∧ mv = .int .i64 (y : Int) ∧ Nat.gcd x y = Nat.gcd k m ∧ 0 < x ∧ x ≤ 1099511627776 ∧ y ≤ 1099511627776 ∧ K6 w [(A1, digs (qn q)), (B1, digs (qd q))] wr ∧ Q3 w1.heap.size (.bool (qs q)) (.slice A1 (ln (qn q)) a1) (.slice B1 (ln (qd q)) b1) wr) (fun _ mv _ => (intOf mv).toNat)
  case atStart => exact ⟨m, k, rfl, rfl, Nat.gcd_comm _ _, FK.out.2.2, by have := FK.out.2.1; omega, FK.out.1, KA.out, Y1.out⟩
  case round =>
    obtain ⟨x, y, rfl, rfl, hg, xp, xb, yb, hk6, hy3⟩ := hrel
    have KB := hide hk6
    have Y2 := hide hy3
    clear KA Y1 hk6 hy3
    by_cases h0 : y = 0
    · subst h0
      rw [Nat.gcd_zero_right] at hg
      have qn1 : k / x = qn q := by rw [hg]; exact QN.out.symm
      have qd1 : m / x = qd q := by rw [hg]; exact QD.out.symm
      have o1 := i64_quo 3 k x (by have := FK.out.1; omega) xp
      have o2 := i64_quo 3 m x (by have := FK.out.2.1; omega) xp
      rw [qn1] at o1
      rw [qd1] at o2
      have hx0 : (0 : Int) < (x : Int) := by omega
      have hx1 : ((x : Int) == 0) = false := beq_eq_false_iff_ne.2 (by omega)
      have qn_le : qn q ≤ 1099511627776 := by rw [← qn1]; exact Nat.le_trans (Nat.div_le_self _ _) FK.out.1
      have qd_le : qd q ≤ 1073741824 := by rw [← qd1]; exact Nat.le_trans (Nat.div_le_self _ _) FK.out.2.1
      by_cases h1 : qd q = 1 <;> by_cases h2 : n < 0
      · skip
        have z1 := dec_size FQ.out.1
        have z2 := dec_size FQ.out.2
        obtain ⟨D1, hD1⟩ : ∃ D : ByteArray, D = ⟨(Lib.decDigits (qn q)).toArray⟩ := ⟨_, rfl⟩
        obtain ⟨D2, hD2⟩ : ∃ D : ByteArray, D = ⟨(Lib.decDigits (qd q)).toArray⟩ := ⟨_, rfl⟩
        have l1 : D1.data.toList = Lib.decDigits (qn q) := by rw [hD1]
        have l2 : D2.data.toList = Lib.decDigits (qd q) := by rw [hD2]
        rw [← hD1] at z1
        rw [← hD2] at z2
        have TI1 : Hid (∀ X e W, Sl W X (digs (qn q)) → Calls Tryz.prog 38 #[.agg #[.bool false, .slice X (ln (qn q)) e]] W fun e w' => e = .returned (.string D1) ∧ Below W.heap.size W w') := fun X e W s => by rw [hD1]; exact rtextI_n X e (qn q) W s FQ.out.1
        have E : Hid ((⟨(showT q).toArray⟩ : ByteArray) = (⟨#[40, 45, 32]⟩ ++ (D1 ++ ⟨#[46, 48]⟩)) ++ ⟨#[41]⟩) := by
          show _ = _
          unfold showT sizeT
          rw [if_pos h1, SG.out, decide_eq_true h2, ← l1]
          apply ByteArray.ext
          simp
        have j1 := eq_s 9 E.out
        have j2 := eq_s 9 (show (⟨#[]⟩ : ByteArray) = ⟨#[]⟩ from rfl)
        clear E l1 l2 hD1 hD2
        have p1 := op_cat 9 (D1) (⟨#[46, 48]⟩) (by have : (⟨#[46, 48]⟩ : ByteArray).size = 2 := rfl; have : (⟨#[40, 47, 32]⟩ : ByteArray).size = 3 := rfl; have : (⟨#[32]⟩ : ByteArray).size = 1 := rfl; have : (⟨#[46, 48, 41]⟩ : ByteArray).size = 3 := rfl; have : (⟨#[40, 45, 32]⟩ : ByteArray).size = 3 := rfl; have : (⟨#[41]⟩ : ByteArray).size = 1 := rfl; omega)
        have y21 : ((D1) ++ (⟨#[46, 48]⟩) : ByteArray).size ≤ 10010 := by rw [ByteArray.size_append]; have : (⟨#[46, 48]⟩ : ByteArray).size = 2 := rfl; have : (⟨#[40, 47, 32]⟩ : ByteArray).size = 3 := rfl; have : (⟨#[32]⟩ : ByteArray).size = 1 := rfl; have : (⟨#[46, 48, 41]⟩ : ByteArray).size = 3 := rfl; have : (⟨#[40, 45, 32]⟩ : ByteArray).size = 3 := rfl; have : (⟨#[41]⟩ : ByteArray).size = 1 := rfl; omega
        generalize ((D1) ++ (⟨#[46, 48]⟩) : ByteArray) = D3 at *
        have p2 := op_cat 9 (⟨#[40, 45, 32]⟩) (D3) (by have : (⟨#[46, 48]⟩ : ByteArray).size = 2 := rfl; have : (⟨#[40, 47, 32]⟩ : ByteArray).size = 3 := rfl; have : (⟨#[32]⟩ : ByteArray).size = 1 := rfl; have : (⟨#[46, 48, 41]⟩ : ByteArray).size = 3 := rfl; have : (⟨#[40, 45, 32]⟩ : ByteArray).size = 3 := rfl; have : (⟨#[41]⟩ : ByteArray).size = 1 := rfl; omega)
        have y22 : ((⟨#[40, 45, 32]⟩) ++ (D3) : ByteArray).size ≤ 20060 := by rw [ByteArray.size_append]; have : (⟨#[46, 48]⟩ : ByteArray).size = 2 := rfl; have : (⟨#[40, 47, 32]⟩ : ByteArray).size = 3 := rfl; have : (⟨#[32]⟩ : ByteArray).size = 1 := rfl; have : (⟨#[46, 48, 41]⟩ : ByteArray).size = 3 := rfl; have : (⟨#[40, 45, 32]⟩ : ByteArray).size = 3 := rfl; have : (⟨#[41]⟩ : ByteArray).size = 1 := rfl; omega
        generalize ((⟨#[40, 45, 32]⟩) ++ (D3) : ByteArray) = D8 at *
        have p3 := op_cat 9 (D8) (⟨#[41]⟩) (by have : (⟨#[46, 48]⟩ : ByteArray).size = 2 := rfl; have : (⟨#[40, 47, 32]⟩ : ByteArray).size = 3 := rfl; have : (⟨#[32]⟩ : ByteArray).size = 1 := rfl; have : (⟨#[46, 48, 41]⟩ : ByteArray).size = 3 := rfl; have : (⟨#[40, 45, 32]⟩ : ByteArray).size = 3 := rfl; have : (⟨#[41]⟩ : ByteArray).size = 1 := rfl; omega)
        have y23 : ((D8) ++ (⟨#[41]⟩) : ByteArray).size ≤ 20070 := by rw [ByteArray.size_append]; have : (⟨#[46, 48]⟩ : ByteArray).size = 2 := rfl; have : (⟨#[40, 47, 32]⟩ : ByteArray).size = 3 := rfl; have : (⟨#[32]⟩ : ByteArray).size = 1 := rfl; have : (⟨#[46, 48, 41]⟩ : ByteArray).size = 3 := rfl; have : (⟨#[40, 45, 32]⟩ : ByteArray).size = 3 := rfl; have : (⟨#[41]⟩ : ByteArray).size = 1 := rfl; omega
        generalize ((D8) ++ (⟨#[41]⟩) : ByteArray) = D9 at *
        have OI1 : Hid (∀ W, Calls Tryz.prog 39 #[.int .i64 ((qn q : Nat) : Int)] W fun e w' => ∃ A c, e = .returned (.agg #[.bool false, .slice A (ln (qn q)) c]) ∧ Sl w' A (digs (qn q)) ∧ Below W.heap.size W w') := fun W => rof_z ((qn q : Nat) : Int) W (by omega) (by have := qn_le; omega)
        have SH := hide (fun W (k : K6 w [(A1, digs (qn q)), (B1, digs (qd q))] W) => show_q q A1 B1 a1 b1 W (k.sl nem1) (k.sl nem2) FQ.out (pow_below HT.out k.b))
        have SN : Hid (∀ W, K6 w [(A1, digs (qn q)), (B1, digs (qd q))] W → Calls Tryz.prog 33 #[.agg #[.bool (qs q), .slice A1 (ln (qn q)) a1, .slice none 0 0]] W fun e w' => e = .returned (.string ⟨#[]⟩) ∧ Below W.heap.size W w') := fun W k => show_no (qs q) A1 none a1 0 (digs (qn q)) [] W (k.sl nem1) .nil (limbs_digs _) .nil (Nat.le_trans FQ.out.1 (by decide)) (by decide) (none_den _ _)
        have AW := hide (fun W (k : K6 w [(A1, digs (qn q)), (B1, digs (qd q))] W) => awake4_any W (pow_below HT.out k.b))
        have g1 := gtrI_f 3 (show ((qd q : Nat) : Int) ≤ 1 by have := qd_pos q; omega)
        have g2 := lssI_t 3 (show n < 0 by omega)
        clear h1 h2 qn_le qd_le FQ HT SG QN QD HK FK NB xp xb yb hg z1 z2 qn1 qd1 y21 y22 y23
        generalize (⟨(showT q).toArray⟩ : ByteArray) = DS at *
        go_wp2
        go_region
        go_wp2_with (first
          | (go_at_call 39; (with_reducible refine (OI1.out _).mono ?_); rintro e v1 ⟨P1, p1, rfl, u1, hb⟩; have KB := hide (K6.next KB.out.drew hb); have Y2 := hide (Q3.next Y2.out.drew hb); have U1 := hide u1; clear u1 hb)
          | (go_at_call 38; (with_reducible refine (TI1.out P1 p1 _ U1.out).mono ?_); rintro e v2 ⟨rfl, hb⟩; have KB := hide (KB.out.next hb); have Y2 := hide (Y2.out.next hb); clear hb; (try clear y1 y2 y3 y4 y5 y6 yd1 yd2 yd3); obtain ⟨y1, y2, y3, y4, y5, y6⟩ := Y2.out; have yd1 := fun X => (Y2.out.al X).1; have yd2 := fun X => (Y2.out.al X).2.1; have yd3 := fun X => (Y2.out.al X).2.2.1)
          | (go_at_call 33; (with_reducible refine (SH.out _ (KB.out.al _)).mono ?_); rintro e v5 ⟨rfl, hb⟩; have KB := hide ((KB.out.al _).next hb); have Z := hide ((Q3.new (.bool (qs q)) (.slice A1 (ln (qn q)) a1) (.slice none 0 0) v2).next hb); clear y1 y2 y3 y4 y5 y6 yd1 yd2 yd3 hb; obtain ⟨q1, q2, q3, q4, q5, q6⟩ := Z.out)
          | (go_at_call 33; (with_reducible refine (SN.out _ KB.out).mono ?_); rintro e v6 ⟨rfl, hb⟩; have KB := hide (KB.out.next hb); clear hb)
          | (go_at_call 27; (with_reducible refine (AW.out _ KB.out).mono ?_); rintro e v7 ⟨rfl, hb⟩; have KB := hide (KB.out.next hb); clear hb))
        go_ret
        exact ⟨rfl, KB.out.b⟩
      · skip
        have z1 := dec_size FQ.out.1
        have z2 := dec_size FQ.out.2
        obtain ⟨D1, hD1⟩ : ∃ D : ByteArray, D = ⟨(Lib.decDigits (qn q)).toArray⟩ := ⟨_, rfl⟩
        obtain ⟨D2, hD2⟩ : ∃ D : ByteArray, D = ⟨(Lib.decDigits (qd q)).toArray⟩ := ⟨_, rfl⟩
        have l1 : D1.data.toList = Lib.decDigits (qn q) := by rw [hD1]
        have l2 : D2.data.toList = Lib.decDigits (qd q) := by rw [hD2]
        rw [← hD1] at z1
        rw [← hD2] at z2
        have TI1 : Hid (∀ X e W, Sl W X (digs (qn q)) → Calls Tryz.prog 38 #[.agg #[.bool false, .slice X (ln (qn q)) e]] W fun e w' => e = .returned (.string D1) ∧ Below W.heap.size W w') := fun X e W s => by rw [hD1]; exact rtextI_n X e (qn q) W s FQ.out.1
        have E : Hid ((⟨(showT q).toArray⟩ : ByteArray) = D1 ++ ⟨#[46, 48]⟩) := by
          show _ = _
          unfold showT sizeT
          rw [if_pos h1, SG.out, decide_eq_false h2, ← l1]
          apply ByteArray.ext
          simp
        have j1 := eq_s 9 E.out
        have j2 := eq_s 9 (show (⟨#[]⟩ : ByteArray) = ⟨#[]⟩ from rfl)
        clear E l1 l2 hD1 hD2
        have p1 := op_cat 9 (D1) (⟨#[46, 48]⟩) (by have : (⟨#[46, 48]⟩ : ByteArray).size = 2 := rfl; have : (⟨#[40, 47, 32]⟩ : ByteArray).size = 3 := rfl; have : (⟨#[32]⟩ : ByteArray).size = 1 := rfl; have : (⟨#[46, 48, 41]⟩ : ByteArray).size = 3 := rfl; have : (⟨#[40, 45, 32]⟩ : ByteArray).size = 3 := rfl; have : (⟨#[41]⟩ : ByteArray).size = 1 := rfl; omega)
        have y21 : ((D1) ++ (⟨#[46, 48]⟩) : ByteArray).size ≤ 10010 := by rw [ByteArray.size_append]; have : (⟨#[46, 48]⟩ : ByteArray).size = 2 := rfl; have : (⟨#[40, 47, 32]⟩ : ByteArray).size = 3 := rfl; have : (⟨#[32]⟩ : ByteArray).size = 1 := rfl; have : (⟨#[46, 48, 41]⟩ : ByteArray).size = 3 := rfl; have : (⟨#[40, 45, 32]⟩ : ByteArray).size = 3 := rfl; have : (⟨#[41]⟩ : ByteArray).size = 1 := rfl; omega
        generalize ((D1) ++ (⟨#[46, 48]⟩) : ByteArray) = D3 at *
        have OI1 : Hid (∀ W, Calls Tryz.prog 39 #[.int .i64 ((qn q : Nat) : Int)] W fun e w' => ∃ A c, e = .returned (.agg #[.bool false, .slice A (ln (qn q)) c]) ∧ Sl w' A (digs (qn q)) ∧ Below W.heap.size W w') := fun W => rof_z ((qn q : Nat) : Int) W (by omega) (by have := qn_le; omega)
        have SH := hide (fun W (k : K6 w [(A1, digs (qn q)), (B1, digs (qd q))] W) => show_q q A1 B1 a1 b1 W (k.sl nem1) (k.sl nem2) FQ.out (pow_below HT.out k.b))
        have SN : Hid (∀ W, K6 w [(A1, digs (qn q)), (B1, digs (qd q))] W → Calls Tryz.prog 33 #[.agg #[.bool (qs q), .slice A1 (ln (qn q)) a1, .slice none 0 0]] W fun e w' => e = .returned (.string ⟨#[]⟩) ∧ Below W.heap.size W w') := fun W k => show_no (qs q) A1 none a1 0 (digs (qn q)) [] W (k.sl nem1) .nil (limbs_digs _) .nil (Nat.le_trans FQ.out.1 (by decide)) (by decide) (none_den _ _)
        have AW := hide (fun W (k : K6 w [(A1, digs (qn q)), (B1, digs (qd q))] W) => awake4_any W (pow_below HT.out k.b))
        have g1 := gtrI_f 3 (show ((qd q : Nat) : Int) ≤ 1 by have := qd_pos q; omega)
        have g2 := lssI_f 3 (show (0 : Int) ≤ n by omega)
        clear h1 h2 qn_le qd_le FQ HT SG QN QD HK FK NB xp xb yb hg z1 z2 qn1 qd1 y21
        generalize (⟨(showT q).toArray⟩ : ByteArray) = DS at *
        go_wp2
        go_region
        go_wp2_with (first
          | (go_at_call 39; (with_reducible refine (OI1.out _).mono ?_); rintro e v1 ⟨P1, p1, rfl, u1, hb⟩; have KB := hide (K6.next KB.out.drew hb); have Y2 := hide (Q3.next Y2.out.drew hb); have U1 := hide u1; clear u1 hb)
          | (go_at_call 38; (with_reducible refine (TI1.out P1 p1 _ U1.out).mono ?_); rintro e v2 ⟨rfl, hb⟩; have KB := hide (KB.out.next hb); have Y2 := hide (Y2.out.next hb); clear hb; (try clear y1 y2 y3 y4 y5 y6 yd1 yd2 yd3); obtain ⟨y1, y2, y3, y4, y5, y6⟩ := Y2.out; have yd1 := fun X => (Y2.out.al X).1; have yd2 := fun X => (Y2.out.al X).2.1; have yd3 := fun X => (Y2.out.al X).2.2.1)
          | (go_at_call 33; (with_reducible refine (SH.out _ (KB.out.al _)).mono ?_); rintro e v5 ⟨rfl, hb⟩; have KB := hide ((KB.out.al _).next hb); have Z := hide ((Q3.new (.bool (qs q)) (.slice A1 (ln (qn q)) a1) (.slice none 0 0) v2).next hb); clear y1 y2 y3 y4 y5 y6 yd1 yd2 yd3 hb; obtain ⟨q1, q2, q3, q4, q5, q6⟩ := Z.out)
          | (go_at_call 33; (with_reducible refine (SN.out _ KB.out).mono ?_); rintro e v6 ⟨rfl, hb⟩; have KB := hide (KB.out.next hb); clear hb)
          | (go_at_call 27; (with_reducible refine (AW.out _ KB.out).mono ?_); rintro e v7 ⟨rfl, hb⟩; have KB := hide (KB.out.next hb); clear hb))
        go_ret
        exact ⟨rfl, KB.out.b⟩
      · skip
        have z1 := dec_size FQ.out.1
        have z2 := dec_size FQ.out.2
        obtain ⟨D1, hD1⟩ : ∃ D : ByteArray, D = ⟨(Lib.decDigits (qn q)).toArray⟩ := ⟨_, rfl⟩
        obtain ⟨D2, hD2⟩ : ∃ D : ByteArray, D = ⟨(Lib.decDigits (qd q)).toArray⟩ := ⟨_, rfl⟩
        have l1 : D1.data.toList = Lib.decDigits (qn q) := by rw [hD1]
        have l2 : D2.data.toList = Lib.decDigits (qd q) := by rw [hD2]
        rw [← hD1] at z1
        rw [← hD2] at z2
        have TI1 : Hid (∀ X e W, Sl W X (digs (qn q)) → Calls Tryz.prog 38 #[.agg #[.bool false, .slice X (ln (qn q)) e]] W fun e w' => e = .returned (.string D1) ∧ Below W.heap.size W w') := fun X e W s => by rw [hD1]; exact rtextI_n X e (qn q) W s FQ.out.1
        have TI2 : Hid (∀ X e W, Sl W X (digs (qd q)) → Calls Tryz.prog 38 #[.agg #[.bool false, .slice X (ln (qd q)) e]] W fun e w' => e = .returned (.string D2) ∧ Below W.heap.size W w') := fun X e W s => by rw [hD2]; exact rtextI_n X e (qd q) W s FQ.out.2
        have E : Hid ((⟨(showT q).toArray⟩ : ByteArray) = (⟨#[40, 45, 32]⟩ ++ (((⟨#[40, 47, 32]⟩ ++ (D1 ++ ⟨#[46, 48]⟩)) ++ ⟨#[32]⟩ ++ D2) ++ ⟨#[46, 48, 41]⟩)) ++ ⟨#[41]⟩) := by
          show _ = _
          unfold showT sizeT
          rw [if_neg h1, SG.out, decide_eq_true h2, ← l1, ← l2]
          apply ByteArray.ext
          simp
        have j1 := eq_s 9 E.out
        have j2 := eq_s 9 (show (⟨#[]⟩ : ByteArray) = ⟨#[]⟩ from rfl)
        clear E l1 l2 hD1 hD2
        have p1 := op_cat 9 (D1) (⟨#[46, 48]⟩) (by have : (⟨#[46, 48]⟩ : ByteArray).size = 2 := rfl; have : (⟨#[40, 47, 32]⟩ : ByteArray).size = 3 := rfl; have : (⟨#[32]⟩ : ByteArray).size = 1 := rfl; have : (⟨#[46, 48, 41]⟩ : ByteArray).size = 3 := rfl; have : (⟨#[40, 45, 32]⟩ : ByteArray).size = 3 := rfl; have : (⟨#[41]⟩ : ByteArray).size = 1 := rfl; omega)
        have y21 : ((D1) ++ (⟨#[46, 48]⟩) : ByteArray).size ≤ 10010 := by rw [ByteArray.size_append]; have : (⟨#[46, 48]⟩ : ByteArray).size = 2 := rfl; have : (⟨#[40, 47, 32]⟩ : ByteArray).size = 3 := rfl; have : (⟨#[32]⟩ : ByteArray).size = 1 := rfl; have : (⟨#[46, 48, 41]⟩ : ByteArray).size = 3 := rfl; have : (⟨#[40, 45, 32]⟩ : ByteArray).size = 3 := rfl; have : (⟨#[41]⟩ : ByteArray).size = 1 := rfl; omega
        generalize ((D1) ++ (⟨#[46, 48]⟩) : ByteArray) = D3 at *
        have p2 := op_cat 9 (⟨#[40, 47, 32]⟩) (D3) (by have : (⟨#[46, 48]⟩ : ByteArray).size = 2 := rfl; have : (⟨#[40, 47, 32]⟩ : ByteArray).size = 3 := rfl; have : (⟨#[32]⟩ : ByteArray).size = 1 := rfl; have : (⟨#[46, 48, 41]⟩ : ByteArray).size = 3 := rfl; have : (⟨#[40, 45, 32]⟩ : ByteArray).size = 3 := rfl; have : (⟨#[41]⟩ : ByteArray).size = 1 := rfl; omega)
        have y22 : ((⟨#[40, 47, 32]⟩) ++ (D3) : ByteArray).size ≤ 10020 := by rw [ByteArray.size_append]; have : (⟨#[46, 48]⟩ : ByteArray).size = 2 := rfl; have : (⟨#[40, 47, 32]⟩ : ByteArray).size = 3 := rfl; have : (⟨#[32]⟩ : ByteArray).size = 1 := rfl; have : (⟨#[46, 48, 41]⟩ : ByteArray).size = 3 := rfl; have : (⟨#[40, 45, 32]⟩ : ByteArray).size = 3 := rfl; have : (⟨#[41]⟩ : ByteArray).size = 1 := rfl; omega
        generalize ((⟨#[40, 47, 32]⟩) ++ (D3) : ByteArray) = D4 at *
        have p3 := op_cat 9 (D4) (⟨#[32]⟩) (by have : (⟨#[46, 48]⟩ : ByteArray).size = 2 := rfl; have : (⟨#[40, 47, 32]⟩ : ByteArray).size = 3 := rfl; have : (⟨#[32]⟩ : ByteArray).size = 1 := rfl; have : (⟨#[46, 48, 41]⟩ : ByteArray).size = 3 := rfl; have : (⟨#[40, 45, 32]⟩ : ByteArray).size = 3 := rfl; have : (⟨#[41]⟩ : ByteArray).size = 1 := rfl; omega)
        have y23 : ((D4) ++ (⟨#[32]⟩) : ByteArray).size ≤ 10030 := by rw [ByteArray.size_append]; have : (⟨#[46, 48]⟩ : ByteArray).size = 2 := rfl; have : (⟨#[40, 47, 32]⟩ : ByteArray).size = 3 := rfl; have : (⟨#[32]⟩ : ByteArray).size = 1 := rfl; have : (⟨#[46, 48, 41]⟩ : ByteArray).size = 3 := rfl; have : (⟨#[40, 45, 32]⟩ : ByteArray).size = 3 := rfl; have : (⟨#[41]⟩ : ByteArray).size = 1 := rfl; omega
        generalize ((D4) ++ (⟨#[32]⟩) : ByteArray) = D5 at *
        have p4 := op_cat 9 (D5) (D2) (by have : (⟨#[46, 48]⟩ : ByteArray).size = 2 := rfl; have : (⟨#[40, 47, 32]⟩ : ByteArray).size = 3 := rfl; have : (⟨#[32]⟩ : ByteArray).size = 1 := rfl; have : (⟨#[46, 48, 41]⟩ : ByteArray).size = 3 := rfl; have : (⟨#[40, 45, 32]⟩ : ByteArray).size = 3 := rfl; have : (⟨#[41]⟩ : ByteArray).size = 1 := rfl; omega)
        have y24 : ((D5) ++ (D2) : ByteArray).size ≤ 20040 := by rw [ByteArray.size_append]; have : (⟨#[46, 48]⟩ : ByteArray).size = 2 := rfl; have : (⟨#[40, 47, 32]⟩ : ByteArray).size = 3 := rfl; have : (⟨#[32]⟩ : ByteArray).size = 1 := rfl; have : (⟨#[46, 48, 41]⟩ : ByteArray).size = 3 := rfl; have : (⟨#[40, 45, 32]⟩ : ByteArray).size = 3 := rfl; have : (⟨#[41]⟩ : ByteArray).size = 1 := rfl; omega
        generalize ((D5) ++ (D2) : ByteArray) = D6 at *
        have p5 := op_cat 9 (D6) (⟨#[46, 48, 41]⟩) (by have : (⟨#[46, 48]⟩ : ByteArray).size = 2 := rfl; have : (⟨#[40, 47, 32]⟩ : ByteArray).size = 3 := rfl; have : (⟨#[32]⟩ : ByteArray).size = 1 := rfl; have : (⟨#[46, 48, 41]⟩ : ByteArray).size = 3 := rfl; have : (⟨#[40, 45, 32]⟩ : ByteArray).size = 3 := rfl; have : (⟨#[41]⟩ : ByteArray).size = 1 := rfl; omega)
        have y25 : ((D6) ++ (⟨#[46, 48, 41]⟩) : ByteArray).size ≤ 20050 := by rw [ByteArray.size_append]; have : (⟨#[46, 48]⟩ : ByteArray).size = 2 := rfl; have : (⟨#[40, 47, 32]⟩ : ByteArray).size = 3 := rfl; have : (⟨#[32]⟩ : ByteArray).size = 1 := rfl; have : (⟨#[46, 48, 41]⟩ : ByteArray).size = 3 := rfl; have : (⟨#[40, 45, 32]⟩ : ByteArray).size = 3 := rfl; have : (⟨#[41]⟩ : ByteArray).size = 1 := rfl; omega
        generalize ((D6) ++ (⟨#[46, 48, 41]⟩) : ByteArray) = D7 at *
        have p6 := op_cat 9 (⟨#[40, 45, 32]⟩) (D7) (by have : (⟨#[46, 48]⟩ : ByteArray).size = 2 := rfl; have : (⟨#[40, 47, 32]⟩ : ByteArray).size = 3 := rfl; have : (⟨#[32]⟩ : ByteArray).size = 1 := rfl; have : (⟨#[46, 48, 41]⟩ : ByteArray).size = 3 := rfl; have : (⟨#[40, 45, 32]⟩ : ByteArray).size = 3 := rfl; have : (⟨#[41]⟩ : ByteArray).size = 1 := rfl; omega)
        have y26 : ((⟨#[40, 45, 32]⟩) ++ (D7) : ByteArray).size ≤ 20060 := by rw [ByteArray.size_append]; have : (⟨#[46, 48]⟩ : ByteArray).size = 2 := rfl; have : (⟨#[40, 47, 32]⟩ : ByteArray).size = 3 := rfl; have : (⟨#[32]⟩ : ByteArray).size = 1 := rfl; have : (⟨#[46, 48, 41]⟩ : ByteArray).size = 3 := rfl; have : (⟨#[40, 45, 32]⟩ : ByteArray).size = 3 := rfl; have : (⟨#[41]⟩ : ByteArray).size = 1 := rfl; omega
        generalize ((⟨#[40, 45, 32]⟩) ++ (D7) : ByteArray) = D8 at *
        have p7 := op_cat 9 (D8) (⟨#[41]⟩) (by have : (⟨#[46, 48]⟩ : ByteArray).size = 2 := rfl; have : (⟨#[40, 47, 32]⟩ : ByteArray).size = 3 := rfl; have : (⟨#[32]⟩ : ByteArray).size = 1 := rfl; have : (⟨#[46, 48, 41]⟩ : ByteArray).size = 3 := rfl; have : (⟨#[40, 45, 32]⟩ : ByteArray).size = 3 := rfl; have : (⟨#[41]⟩ : ByteArray).size = 1 := rfl; omega)
        have y27 : ((D8) ++ (⟨#[41]⟩) : ByteArray).size ≤ 20070 := by rw [ByteArray.size_append]; have : (⟨#[46, 48]⟩ : ByteArray).size = 2 := rfl; have : (⟨#[40, 47, 32]⟩ : ByteArray).size = 3 := rfl; have : (⟨#[32]⟩ : ByteArray).size = 1 := rfl; have : (⟨#[46, 48, 41]⟩ : ByteArray).size = 3 := rfl; have : (⟨#[40, 45, 32]⟩ : ByteArray).size = 3 := rfl; have : (⟨#[41]⟩ : ByteArray).size = 1 := rfl; omega
        generalize ((D8) ++ (⟨#[41]⟩) : ByteArray) = D9 at *
        have OI1 : Hid (∀ W, Calls Tryz.prog 39 #[.int .i64 ((qn q : Nat) : Int)] W fun e w' => ∃ A c, e = .returned (.agg #[.bool false, .slice A (ln (qn q)) c]) ∧ Sl w' A (digs (qn q)) ∧ Below W.heap.size W w') := fun W => rof_z ((qn q : Nat) : Int) W (by omega) (by have := qn_le; omega)
        have OI2 : Hid (∀ W, Calls Tryz.prog 39 #[.int .i64 ((qd q : Nat) : Int)] W fun e w' => ∃ A c, e = .returned (.agg #[.bool false, .slice A (ln (qd q)) c]) ∧ Sl w' A (digs (qd q)) ∧ Below W.heap.size W w') := fun W => rof_z ((qd q : Nat) : Int) W (by omega) (by have := qd_le; omega)
        have SH := hide (fun W (k : K6 w [(A1, digs (qn q)), (B1, digs (qd q))] W) => show_q q A1 B1 a1 b1 W (k.sl nem1) (k.sl nem2) FQ.out (pow_below HT.out k.b))
        have SN : Hid (∀ W, K6 w [(A1, digs (qn q)), (B1, digs (qd q))] W → Calls Tryz.prog 33 #[.agg #[.bool (qs q), .slice A1 (ln (qn q)) a1, .slice none 0 0]] W fun e w' => e = .returned (.string ⟨#[]⟩) ∧ Below W.heap.size W w') := fun W k => show_no (qs q) A1 none a1 0 (digs (qn q)) [] W (k.sl nem1) .nil (limbs_digs _) .nil (Nat.le_trans FQ.out.1 (by decide)) (by decide) (none_den _ _)
        have AW := hide (fun W (k : K6 w [(A1, digs (qn q)), (B1, digs (qd q))] W) => awake4_any W (pow_below HT.out k.b))
        have g1 := gtrI_t 3 (show (1 : Int) < ((qd q : Nat) : Int) by have := qd_pos q; omega)
        have g2 := lssI_t 3 (show n < 0 by omega)
        clear h1 h2 qn_le qd_le FQ HT SG QN QD HK FK NB xp xb yb hg z1 z2 qn1 qd1 y21 y22 y23 y24 y25 y26 y27
        generalize (⟨(showT q).toArray⟩ : ByteArray) = DS at *
        go_wp2
        go_region
        go_wp2_with (first
          | (go_at_call 39; (with_reducible refine (OI1.out _).mono ?_); rintro e v1 ⟨P1, p1, rfl, u1, hb⟩; have KB := hide (K6.next KB.out.drew hb); have Y2 := hide (Q3.next Y2.out.drew hb); have U1 := hide u1; clear u1 hb)
          | (go_at_call 38; (with_reducible refine (TI1.out P1 p1 _ U1.out).mono ?_); rintro e v2 ⟨rfl, hb⟩; have KB := hide (KB.out.next hb); have Y2 := hide (Y2.out.next hb); clear hb; (try clear y1 y2 y3 y4 y5 y6 yd1 yd2 yd3); obtain ⟨y1, y2, y3, y4, y5, y6⟩ := Y2.out; have yd1 := fun X => (Y2.out.al X).1; have yd2 := fun X => (Y2.out.al X).2.1; have yd3 := fun X => (Y2.out.al X).2.2.1)
          | (go_at_call 39; (with_reducible refine (OI2.out _).mono ?_); rintro e v3 ⟨P3, p3, rfl, u3, hb⟩; have KB := hide (KB.out.next hb); have Y2 := hide (Y2.out.next hb); have U3 := hide u3; clear u3 hb)
          | (go_at_call 38; (with_reducible refine (TI2.out P3 p3 _ U3.out).mono ?_); rintro e v4 ⟨rfl, hb⟩; have KB := hide (KB.out.next hb); have Y2 := hide (Y2.out.next hb); clear hb; (try clear y1 y2 y3 y4 y5 y6 yd1 yd2 yd3); obtain ⟨y1, y2, y3, y4, y5, y6⟩ := Y2.out; have yd1 := fun X => (Y2.out.al X).1; have yd2 := fun X => (Y2.out.al X).2.1; have yd3 := fun X => (Y2.out.al X).2.2.1)
          | (go_at_call 33; (with_reducible refine (SH.out _ (KB.out.al _)).mono ?_); rintro e v5 ⟨rfl, hb⟩; have KB := hide ((KB.out.al _).next hb); have Z := hide ((Q3.new (.bool (qs q)) (.slice A1 (ln (qn q)) a1) (.slice none 0 0) v4).next hb); clear y1 y2 y3 y4 y5 y6 yd1 yd2 yd3 hb; obtain ⟨q1, q2, q3, q4, q5, q6⟩ := Z.out)
          | (go_at_call 33; (with_reducible refine (SN.out _ KB.out).mono ?_); rintro e v6 ⟨rfl, hb⟩; have KB := hide (KB.out.next hb); clear hb)
          | (go_at_call 27; (with_reducible refine (AW.out _ KB.out).mono ?_); rintro e v7 ⟨rfl, hb⟩; have KB := hide (KB.out.next hb); clear hb))
        go_ret
        exact ⟨rfl, KB.out.b⟩
      · skip
        have z1 := dec_size FQ.out.1
        have z2 := dec_size FQ.out.2
        obtain ⟨D1, hD1⟩ : ∃ D : ByteArray, D = ⟨(Lib.decDigits (qn q)).toArray⟩ := ⟨_, rfl⟩
        obtain ⟨D2, hD2⟩ : ∃ D : ByteArray, D = ⟨(Lib.decDigits (qd q)).toArray⟩ := ⟨_, rfl⟩
        have l1 : D1.data.toList = Lib.decDigits (qn q) := by rw [hD1]
        have l2 : D2.data.toList = Lib.decDigits (qd q) := by rw [hD2]
        rw [← hD1] at z1
        rw [← hD2] at z2
        have TI1 : Hid (∀ X e W, Sl W X (digs (qn q)) → Calls Tryz.prog 38 #[.agg #[.bool false, .slice X (ln (qn q)) e]] W fun e w' => e = .returned (.string D1) ∧ Below W.heap.size W w') := fun X e W s => by rw [hD1]; exact rtextI_n X e (qn q) W s FQ.out.1
        have TI2 : Hid (∀ X e W, Sl W X (digs (qd q)) → Calls Tryz.prog 38 #[.agg #[.bool false, .slice X (ln (qd q)) e]] W fun e w' => e = .returned (.string D2) ∧ Below W.heap.size W w') := fun X e W s => by rw [hD2]; exact rtextI_n X e (qd q) W s FQ.out.2
        have E : Hid ((⟨(showT q).toArray⟩ : ByteArray) = ((⟨#[40, 47, 32]⟩ ++ (D1 ++ ⟨#[46, 48]⟩)) ++ ⟨#[32]⟩ ++ D2) ++ ⟨#[46, 48, 41]⟩) := by
          show _ = _
          unfold showT sizeT
          rw [if_neg h1, SG.out, decide_eq_false h2, ← l1, ← l2]
          apply ByteArray.ext
          simp
        have j1 := eq_s 9 E.out
        have j2 := eq_s 9 (show (⟨#[]⟩ : ByteArray) = ⟨#[]⟩ from rfl)
        clear E l1 l2 hD1 hD2
        have p1 := op_cat 9 (D1) (⟨#[46, 48]⟩) (by have : (⟨#[46, 48]⟩ : ByteArray).size = 2 := rfl; have : (⟨#[40, 47, 32]⟩ : ByteArray).size = 3 := rfl; have : (⟨#[32]⟩ : ByteArray).size = 1 := rfl; have : (⟨#[46, 48, 41]⟩ : ByteArray).size = 3 := rfl; have : (⟨#[40, 45, 32]⟩ : ByteArray).size = 3 := rfl; have : (⟨#[41]⟩ : ByteArray).size = 1 := rfl; omega)
        have y21 : ((D1) ++ (⟨#[46, 48]⟩) : ByteArray).size ≤ 10010 := by rw [ByteArray.size_append]; have : (⟨#[46, 48]⟩ : ByteArray).size = 2 := rfl; have : (⟨#[40, 47, 32]⟩ : ByteArray).size = 3 := rfl; have : (⟨#[32]⟩ : ByteArray).size = 1 := rfl; have : (⟨#[46, 48, 41]⟩ : ByteArray).size = 3 := rfl; have : (⟨#[40, 45, 32]⟩ : ByteArray).size = 3 := rfl; have : (⟨#[41]⟩ : ByteArray).size = 1 := rfl; omega
        generalize ((D1) ++ (⟨#[46, 48]⟩) : ByteArray) = D3 at *
        have p2 := op_cat 9 (⟨#[40, 47, 32]⟩) (D3) (by have : (⟨#[46, 48]⟩ : ByteArray).size = 2 := rfl; have : (⟨#[40, 47, 32]⟩ : ByteArray).size = 3 := rfl; have : (⟨#[32]⟩ : ByteArray).size = 1 := rfl; have : (⟨#[46, 48, 41]⟩ : ByteArray).size = 3 := rfl; have : (⟨#[40, 45, 32]⟩ : ByteArray).size = 3 := rfl; have : (⟨#[41]⟩ : ByteArray).size = 1 := rfl; omega)
        have y22 : ((⟨#[40, 47, 32]⟩) ++ (D3) : ByteArray).size ≤ 10020 := by rw [ByteArray.size_append]; have : (⟨#[46, 48]⟩ : ByteArray).size = 2 := rfl; have : (⟨#[40, 47, 32]⟩ : ByteArray).size = 3 := rfl; have : (⟨#[32]⟩ : ByteArray).size = 1 := rfl; have : (⟨#[46, 48, 41]⟩ : ByteArray).size = 3 := rfl; have : (⟨#[40, 45, 32]⟩ : ByteArray).size = 3 := rfl; have : (⟨#[41]⟩ : ByteArray).size = 1 := rfl; omega
        generalize ((⟨#[40, 47, 32]⟩) ++ (D3) : ByteArray) = D4 at *
        have p3 := op_cat 9 (D4) (⟨#[32]⟩) (by have : (⟨#[46, 48]⟩ : ByteArray).size = 2 := rfl; have : (⟨#[40, 47, 32]⟩ : ByteArray).size = 3 := rfl; have : (⟨#[32]⟩ : ByteArray).size = 1 := rfl; have : (⟨#[46, 48, 41]⟩ : ByteArray).size = 3 := rfl; have : (⟨#[40, 45, 32]⟩ : ByteArray).size = 3 := rfl; have : (⟨#[41]⟩ : ByteArray).size = 1 := rfl; omega)
        have y23 : ((D4) ++ (⟨#[32]⟩) : ByteArray).size ≤ 10030 := by rw [ByteArray.size_append]; have : (⟨#[46, 48]⟩ : ByteArray).size = 2 := rfl; have : (⟨#[40, 47, 32]⟩ : ByteArray).size = 3 := rfl; have : (⟨#[32]⟩ : ByteArray).size = 1 := rfl; have : (⟨#[46, 48, 41]⟩ : ByteArray).size = 3 := rfl; have : (⟨#[40, 45, 32]⟩ : ByteArray).size = 3 := rfl; have : (⟨#[41]⟩ : ByteArray).size = 1 := rfl; omega
        generalize ((D4) ++ (⟨#[32]⟩) : ByteArray) = D5 at *
        have p4 := op_cat 9 (D5) (D2) (by have : (⟨#[46, 48]⟩ : ByteArray).size = 2 := rfl; have : (⟨#[40, 47, 32]⟩ : ByteArray).size = 3 := rfl; have : (⟨#[32]⟩ : ByteArray).size = 1 := rfl; have : (⟨#[46, 48, 41]⟩ : ByteArray).size = 3 := rfl; have : (⟨#[40, 45, 32]⟩ : ByteArray).size = 3 := rfl; have : (⟨#[41]⟩ : ByteArray).size = 1 := rfl; omega)
        have y24 : ((D5) ++ (D2) : ByteArray).size ≤ 20040 := by rw [ByteArray.size_append]; have : (⟨#[46, 48]⟩ : ByteArray).size = 2 := rfl; have : (⟨#[40, 47, 32]⟩ : ByteArray).size = 3 := rfl; have : (⟨#[32]⟩ : ByteArray).size = 1 := rfl; have : (⟨#[46, 48, 41]⟩ : ByteArray).size = 3 := rfl; have : (⟨#[40, 45, 32]⟩ : ByteArray).size = 3 := rfl; have : (⟨#[41]⟩ : ByteArray).size = 1 := rfl; omega
        generalize ((D5) ++ (D2) : ByteArray) = D6 at *
        have p5 := op_cat 9 (D6) (⟨#[46, 48, 41]⟩) (by have : (⟨#[46, 48]⟩ : ByteArray).size = 2 := rfl; have : (⟨#[40, 47, 32]⟩ : ByteArray).size = 3 := rfl; have : (⟨#[32]⟩ : ByteArray).size = 1 := rfl; have : (⟨#[46, 48, 41]⟩ : ByteArray).size = 3 := rfl; have : (⟨#[40, 45, 32]⟩ : ByteArray).size = 3 := rfl; have : (⟨#[41]⟩ : ByteArray).size = 1 := rfl; omega)
        have y25 : ((D6) ++ (⟨#[46, 48, 41]⟩) : ByteArray).size ≤ 20050 := by rw [ByteArray.size_append]; have : (⟨#[46, 48]⟩ : ByteArray).size = 2 := rfl; have : (⟨#[40, 47, 32]⟩ : ByteArray).size = 3 := rfl; have : (⟨#[32]⟩ : ByteArray).size = 1 := rfl; have : (⟨#[46, 48, 41]⟩ : ByteArray).size = 3 := rfl; have : (⟨#[40, 45, 32]⟩ : ByteArray).size = 3 := rfl; have : (⟨#[41]⟩ : ByteArray).size = 1 := rfl; omega
        generalize ((D6) ++ (⟨#[46, 48, 41]⟩) : ByteArray) = D7 at *
        have OI1 : Hid (∀ W, Calls Tryz.prog 39 #[.int .i64 ((qn q : Nat) : Int)] W fun e w' => ∃ A c, e = .returned (.agg #[.bool false, .slice A (ln (qn q)) c]) ∧ Sl w' A (digs (qn q)) ∧ Below W.heap.size W w') := fun W => rof_z ((qn q : Nat) : Int) W (by omega) (by have := qn_le; omega)
        have OI2 : Hid (∀ W, Calls Tryz.prog 39 #[.int .i64 ((qd q : Nat) : Int)] W fun e w' => ∃ A c, e = .returned (.agg #[.bool false, .slice A (ln (qd q)) c]) ∧ Sl w' A (digs (qd q)) ∧ Below W.heap.size W w') := fun W => rof_z ((qd q : Nat) : Int) W (by omega) (by have := qd_le; omega)
        have SH := hide (fun W (k : K6 w [(A1, digs (qn q)), (B1, digs (qd q))] W) => show_q q A1 B1 a1 b1 W (k.sl nem1) (k.sl nem2) FQ.out (pow_below HT.out k.b))
        have SN : Hid (∀ W, K6 w [(A1, digs (qn q)), (B1, digs (qd q))] W → Calls Tryz.prog 33 #[.agg #[.bool (qs q), .slice A1 (ln (qn q)) a1, .slice none 0 0]] W fun e w' => e = .returned (.string ⟨#[]⟩) ∧ Below W.heap.size W w') := fun W k => show_no (qs q) A1 none a1 0 (digs (qn q)) [] W (k.sl nem1) .nil (limbs_digs _) .nil (Nat.le_trans FQ.out.1 (by decide)) (by decide) (none_den _ _)
        have AW := hide (fun W (k : K6 w [(A1, digs (qn q)), (B1, digs (qd q))] W) => awake4_any W (pow_below HT.out k.b))
        have g1 := gtrI_t 3 (show (1 : Int) < ((qd q : Nat) : Int) by have := qd_pos q; omega)
        have g2 := lssI_f 3 (show (0 : Int) ≤ n by omega)
        clear h1 h2 qn_le qd_le FQ HT SG QN QD HK FK NB xp xb yb hg z1 z2 qn1 qd1 y21 y22 y23 y24 y25
        generalize (⟨(showT q).toArray⟩ : ByteArray) = DS at *
        go_wp2
        go_region
        go_wp2_with (first
          | (go_at_call 39; (with_reducible refine (OI1.out _).mono ?_); rintro e v1 ⟨P1, p1, rfl, u1, hb⟩; have KB := hide (K6.next KB.out.drew hb); have Y2 := hide (Q3.next Y2.out.drew hb); have U1 := hide u1; clear u1 hb)
          | (go_at_call 38; (with_reducible refine (TI1.out P1 p1 _ U1.out).mono ?_); rintro e v2 ⟨rfl, hb⟩; have KB := hide (KB.out.next hb); have Y2 := hide (Y2.out.next hb); clear hb; (try clear y1 y2 y3 y4 y5 y6 yd1 yd2 yd3); obtain ⟨y1, y2, y3, y4, y5, y6⟩ := Y2.out; have yd1 := fun X => (Y2.out.al X).1; have yd2 := fun X => (Y2.out.al X).2.1; have yd3 := fun X => (Y2.out.al X).2.2.1)
          | (go_at_call 39; (with_reducible refine (OI2.out _).mono ?_); rintro e v3 ⟨P3, p3, rfl, u3, hb⟩; have KB := hide (KB.out.next hb); have Y2 := hide (Y2.out.next hb); have U3 := hide u3; clear u3 hb)
          | (go_at_call 38; (with_reducible refine (TI2.out P3 p3 _ U3.out).mono ?_); rintro e v4 ⟨rfl, hb⟩; have KB := hide (KB.out.next hb); have Y2 := hide (Y2.out.next hb); clear hb; (try clear y1 y2 y3 y4 y5 y6 yd1 yd2 yd3); obtain ⟨y1, y2, y3, y4, y5, y6⟩ := Y2.out; have yd1 := fun X => (Y2.out.al X).1; have yd2 := fun X => (Y2.out.al X).2.1; have yd3 := fun X => (Y2.out.al X).2.2.1)
          | (go_at_call 33; (with_reducible refine (SH.out _ (KB.out.al _)).mono ?_); rintro e v5 ⟨rfl, hb⟩; have KB := hide ((KB.out.al _).next hb); have Z := hide ((Q3.new (.bool (qs q)) (.slice A1 (ln (qn q)) a1) (.slice none 0 0) v4).next hb); clear y1 y2 y3 y4 y5 y6 yd1 yd2 yd3 hb; obtain ⟨q1, q2, q3, q4, q5, q6⟩ := Z.out)
          | (go_at_call 33; (with_reducible refine (SN.out _ KB.out).mono ?_); rintro e v6 ⟨rfl, hb⟩; have KB := hide (KB.out.next hb); clear hb)
          | (go_at_call 27; (with_reducible refine (AW.out _ KB.out).mono ?_); rintro e v7 ⟨rfl, hb⟩; have KB := hide (KB.out.next hb); clear hb))
        go_ret
        exact ⟨rfl, KB.out.b⟩
    · have yp : 0 < y := by omega
      have o1 := i64_rem 3 x y yp
      have o2 := gtrI_t 3 (show (0 : Int) < (y : Int) by omega)
      have hy1 : ((y : Int) == 0) = false := beq_eq_false_iff_ne.2 (by omega)
      have G := hide (show Nat.gcd y (x % y) = Nat.gcd k m by rw [← hg, Nat.gcd_comm x y, Nat.gcd_rec y x, Nat.gcd_comm])
      have L := hide (show x % y < y from Nat.mod_lt _ yp)
      have YP := hide (And.intro yp yb)
      obtain ⟨z, hz⟩ : ∃ z, x % y = z := ⟨_, rfl⟩
      rw [hz] at o1 G L
      clear hg xp xb yb h0 hz FK QN QD SG FQ HT HK NB yp
      go_wp2
      go_region
      go_wp2
      go_roundw
      case rel => exact ⟨y, z, rfl, rfl, G.out, YP.out.1, YP.out.2, by have := L.out; have := YP.out.2; omega, KB.out.drew, Y2.out⟩
      case measure => simp [intOf]; exact L.out

set_option maxRecDepth 100000 in
set_option maxHeartbeats 4000000 in
theorem shows_law (n d : Int) (w : World) (hn : -9223372036854775808 ≤ n ∧ n ≤ 9223372036854775807) (hd : -9223372036854775808 ≤ d ∧ d ≤ 9223372036854775807) (ht : Pow10 w) :
    Calls Tryz.prog 7 #[.int .i64 n, .int .i64 d] w fun e w' => e = .returned (.bool true) ∧ Below w.heap.size w w' := by
  have AW := hide (awake4_any w ht)
  by_cases h1 : d < 1
  · have c1 := lssI_t 3 h1
    clear h1 hn hd ht
    go_enter Tryz.func7, Tryz.ntmps7
    go_wp2_with (go_at_call 27; (with_reducible refine (AW.out).mono ?_); rintro e w' ⟨rfl, hb⟩)
    go_ret
    exact ⟨rfl, hb⟩
  have c1 := lssI_f 3 (show (1 : Int) ≤ d by omega)
  by_cases h2 : 1073741824 < d
  · have c2 := gtrI_t 3 h2
    clear h1 h2 hn hd ht
    go_enter Tryz.func7, Tryz.ntmps7
    go_wp2_with (go_at_call 27; (with_reducible refine (AW.out).mono ?_); rintro e w' ⟨rfl, hb⟩)
    go_ret
    exact ⟨rfl, hb⟩
  have c2 := gtrI_f 3 (show d ≤ (1073741824 : Int) by omega)
  by_cases h3 : n < -1099511627776
  · have c3 := lssI_t 3 h3
    clear h1 h2 h3 hn hd ht
    go_enter Tryz.func7, Tryz.ntmps7
    go_wp2_with (go_at_call 27; (with_reducible refine (AW.out).mono ?_); rintro e w' ⟨rfl, hb⟩)
    go_ret
    exact ⟨rfl, hb⟩
  have c3 := lssI_f 3 (show (-1099511627776 : Int) ≤ n by omega)
  by_cases h4 : 1099511627776 < n
  · have c4 := gtrI_t 3 h4
    clear h1 h2 h3 h4 hn hd ht
    go_enter Tryz.func7, Tryz.ntmps7
    go_wp2_with (go_at_call 27; (with_reducible refine (AW.out).mono ?_); rintro e w' ⟨rfl, hb⟩)
    go_ret
    exact ⟨rfl, hb⟩
  exact shows_in n d w (by omega) (by omega) (by omega) (by omega) ht
end Nt

end Go.Proofs.YtboppbidldomhaaGreatDoor
