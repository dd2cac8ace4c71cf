
/-
  The law RatOrder.
-/
import Derived.Test.YtofofabmidpbhaaGreatDoorAwake3

import Derived.Test.YtofofabmidpbhaaGreatDoorRatT

namespace Go.Proofs.YtofofabmidpbhaaGreatDoor

open Go.RowKit

namespace Nt

theorem vQ (s : Bool) (xs ys : List Nat) : validQ s xs ys = true ∨ validQ s xs ys = false := by cases validQ s xs ys <;> simp
theorem je3 (t : TypeId) (x : Int) : binOp .eql t (.int .i64 x) (.int .i64 x) = pure (.bool true) := by
  show pure (Value.bool (x == x)) = _
  rw [beq_self_eq_true]
theorem cmpQ_add (x y z : Rat) : cmpQ (x + z) (y + z) = cmpQ x y := by unfold cmpQ; simp only [Rat.add_lt_add_right]
theorem cmpQ_neg (x y : Rat) : cmpQ (-x) (-y) = cmpQ y x := by unfold cmpQ; simp only [Rat.neg_lt_neg_iff]
theorem sign_cmpQ (z : Rat) : cmpZ z.num 0 = cmpQ z 0 := by
  rw [cmpQ_Z, show qd 0 = 1 from rfl, show (0 : Rat).num = 0 from rfl, Int.zero_mul, show ((1 : Nat) : Int) = 1 from rfl, Int.mul_one]
theorem cmpQ_eq (x y : Rat) : decide (x = y) = decide (cmpQ x y = 0) := by
  rw [decide_eq_decide]
  unfold cmpQ
  constructor
  · rintro rfl; simp [Rat.lt_irrefl]
  · intro h
    by_cases h1 : x < y
    · rw [if_pos h1] at h; omega
    · by_cases h2 : y < x
      · rw [if_neg h1, if_pos h2] at h; omega
      · exact Rat.le_antisymm (Rat.not_lt.1 h2) (Rat.not_lt.1 h1)
theorem cmpQ_mulp {x y z : Rat} (h : 0 < z) : cmpQ (x * z) (y * z) = cmpQ x y := by unfold cmpQ; simp only [Rat.mul_lt_mul_right h]
theorem cmpQ_mul (x y z : Rat) : cmpQ (x * z) (y * z) = cmpQ x y * cmpZ z.num 0 := by
  rw [sign_cmpQ]
  by_cases h1 : z < 0
  · rw [cmpQ_lt h1]
    have h2 : 0 < -z := by have := Rat.neg_lt_neg h1; rwa [show -(0 : Rat) = 0 from by decide] at this
    rw [← cmpQ_neg, ← Rat.mul_neg, ← Rat.mul_neg, cmpQ_mulp h2, cmpQ_anti]
    omega
  · by_cases h2 : 0 < z
    · rw [cmpQ_mulp h2, show cmpQ z 0 = 1 by unfold cmpQ; rw [if_neg h1, if_pos h2], Int.mul_one]
    · have h0 : z = 0 := Rat.le_antisymm (Rat.not_lt.1 h2) (Rat.not_lt.1 h1)
      subst h0
      rw [Rat.mul_zero, Rat.mul_zero, show cmpQ 0 0 = 0 by decide, Int.mul_zero]

/-- What stays: all that was there, the cells of three fractions. -/
def KR (w : World) (g1 g2 g3 : Nat) (u1 v1 x1 u2 v2 x2 u3 v3 x3 : Value) (W : World) : Prop := Below w.heap.size w W ∧ Q3 g1 u1 v1 x1 W ∧ Q3 g2 u2 v2 x2 W ∧ Q3 g3 u3 v3 x3 W
theorem KR.next {w W W' : World} {g1 g2 g3 : Nat} {u1 v1 x1 u2 v2 x2 u3 v3 x3 : Value} (k : KR w g1 g2 g3 u1 v1 x1 u2 v2 x2 u3 v3 x3 W) (hb : Below W.heap.size W W') : KR w g1 g2 g3 u1 v1 x1 u2 v2 x2 u3 v3 x3 W' := ⟨bl_trans k.1 hb, k.2.1.next hb, k.2.2.1.next hb, k.2.2.2.next hb⟩
theorem KR.drew {w W : World} {g1 g2 g3 : Nat} {u1 v1 x1 u2 v2 x2 u3 v3 x3 : Value} (k : KR w g1 g2 g3 u1 v1 x1 u2 v2 x2 u3 v3 x3 W) : KR w g1 g2 g3 u1 v1 x1 u2 v2 x2 u3 v3 x3 W.drew := ⟨k.1.drew, k.2.1, k.2.2.1, k.2.2.2⟩
theorem KR.b {w W : World} {g1 g2 g3 : Nat} {u1 v1 x1 u2 v2 x2 u3 v3 x3 : Value} (k : KR w g1 g2 g3 u1 v1 x1 u2 v2 x2 u3 v3 x3 W) : Below w.heap.size w W := k.1
theorem kr6 {c1 c2 c3 c4 c5 c6 k : Prop} (h : c1 ∧ c2 ∧ c3 ∧ c4 ∧ c5 ∧ c6 ∧ k) : k := h.2.2.2.2.2.2
theorem SR_next {w w' : World} (hb : Below w.heap.size w w') {p1 p2 p3 p4 p5 p6 : Addr} {v1 v2 v3 v4 v5 v6 : Value} {w0 : World} {g1 g2 g3 : Nat} {a1 b1 e1 a2 b2 e2 a3 b3 e3 : Value}
    (h : w.cell? p1 = some v1 ∧ w.cell? p2 = some v2 ∧ w.cell? p3 = some v3 ∧ w.cell? p4 = some v4 ∧ w.cell? p5 = some v5 ∧ w.cell? p6 = some v6 ∧ KR w0 g1 g2 g3 a1 b1 e1 a2 b2 e2 a3 b3 e3 w) : w'.cell? p1 = some v1 ∧ w'.cell? p2 = some v2 ∧ w'.cell? p3 = some v3 ∧ w'.cell? p4 = some v4 ∧ w'.cell? p5 = some v5 ∧ w'.cell? p6 = some v6 ∧ KR w0 g1 g2 g3 a1 b1 e1 a2 b2 e2 a3 b3 e3 w' := by
  obtain ⟨h1, h2, h3, h4, h5, h6, h7⟩ := h
  exact ⟨cell_next hb h1, cell_next hb h2, cell_next hb h3, cell_next hb h4, cell_next hb h5, cell_next hb h6, h7.next hb⟩
theorem k21 {c1 c2 c3 c4 c5 c6 c7 c8 c9 c10 c11 c12 c13 c14 c15 c16 c17 c18 c19 c20 c21 k : Prop} (h : c1 ∧ c2 ∧ c3 ∧ c4 ∧ c5 ∧ c6 ∧ c7 ∧ c8 ∧ c9 ∧ c10 ∧ c11 ∧ c12 ∧ c13 ∧ c14 ∧ c15 ∧ c16 ∧ c17 ∧ c18 ∧ c19 ∧ c20 ∧ c21 ∧ k) : k := h.2.2.2.2.2.2.2.2.2.2.2.2.2.2.2.2.2.2.2.2.2
theorem S21_next {w w' : World} (hb : Below w.heap.size w w') {p1 p2 p3 p4 p5 p6 p7 p8 p9 p10 p11 p12 p13 p14 p15 p16 p17 p18 p19 p20 p21 : Addr} {v1 v2 v3 v4 v5 v6 v7 v8 v9 v10 v11 v12 v13 v14 v15 v16 v17 v18 v19 v20 v21 : Value} {w0 : World} {l : List (Option Addr × Nat)}
    (h : w.cell? p1 = some v1 ∧ w.cell? p2 = some v2 ∧ w.cell? p3 = some v3 ∧ w.cell? p4 = some v4 ∧ w.cell? p5 = some v5 ∧ w.cell? p6 = some v6 ∧ w.cell? p7 = some v7 ∧ w.cell? p8 = some v8 ∧ w.cell? p9 = some v9 ∧ w.cell? p10 = some v10 ∧ w.cell? p11 = some v11 ∧ w.cell? p12 = some v12 ∧ w.cell? p13 = some v13 ∧ w.cell? p14 = some v14 ∧ w.cell? p15 = some v15 ∧ w.cell? p16 = some v16 ∧ w.cell? p17 = some v17 ∧ w.cell? p18 = some v18 ∧ w.cell? p19 = some v19 ∧ w.cell? p20 = some v20 ∧ w.cell? p21 = some v21 ∧ K5 w0 l w) : w'.cell? p1 = some v1 ∧ w'.cell? p2 = some v2 ∧ w'.cell? p3 = some v3 ∧ w'.cell? p4 = some v4 ∧ w'.cell? p5 = some v5 ∧ w'.cell? p6 = some v6 ∧ w'.cell? p7 = some v7 ∧ w'.cell? p8 = some v8 ∧ w'.cell? p9 = some v9 ∧ w'.cell? p10 = some v10 ∧ w'.cell? p11 = some v11 ∧ w'.cell? p12 = some v12 ∧ w'.cell? p13 = some v13 ∧ w'.cell? p14 = some v14 ∧ w'.cell? p15 = some v15 ∧ w'.cell? p16 = some v16 ∧ w'.cell? p17 = some v17 ∧ w'.cell? p18 = some v18 ∧ w'.cell? p19 = some v19 ∧ w'.cell? p20 = some v20 ∧ w'.cell? p21 = some v21 ∧ K5 w0 l w' := by
  obtain ⟨h1, h2, h3, h4, h5, h6, h7, h8, h9, h10, h11, h12, h13, h14, h15, h16, h17, h18, h19, h20, h21, k⟩ := h
  exact ⟨cell_next hb h1, cell_next hb h2, cell_next hb h3, cell_next hb h4, cell_next hb h5, cell_next hb h6, cell_next hb h7, cell_next hb h8, cell_next hb h9, cell_next hb h10, cell_next hb h11, cell_next hb h12, cell_next hb h13, cell_next hb h14, cell_next hb h15, cell_next hb h16, cell_next hb h17, cell_next hb h18, cell_next hb h19, cell_next hb h20, cell_next hb h21, k.next hb⟩

set_option maxRecDepth 100000 in
set_option maxHeartbeats 16000000 in
theorem rorder_lt (q1 q2 q3 : Rat) (A1 B1 A2 B2 A3 B3 : Option Addr) (a1 e1 a2 e2 a3 e3 : Nat) (w : World) (sA1 : Sl w A1 (digs (qn q1))) (sB1 : Sl w B1 (digs (qd q1))) (sA2 : Sl w A2 (digs (qn q2))) (sB2 : Sl w B2 (digs (qd q2))) (sA3 : Sl w A3 (digs (qn q3))) (sB3 : Sl w B3 (digs (qd q3))) (g1 : ln (qn q1) ≤ 10 ∧ ln (qd q1) ≤ 10) (g2 : ln (qn q2) ≤ 10 ∧ ln (qd q2) ≤ 10) (g3 : ln (qn q3) ≤ 10 ∧ ln (qd q3) ≤ 10) (ht : Pow10 w) (hk : cmpQ q1 q2 = (-1)) :
    Calls Tryz.prog 6 #[.agg #[.bool (qs q1), .slice A1 (ln (qn q1)) a1, .slice B1 (ln (qd q1)) e1], .agg #[.bool (qs q2), .slice A2 (ln (qn q2)) a2, .slice B2 (ln (qd q2)) e2], .agg #[.bool (qs q3), .slice A3 (ln (qn q3)) a3, .slice B3 (ln (qd q3)) e3]] w fun e w' => e = .returned (.bool true) ∧ Below w.heap.size w w' := by
  have AW := hide (fun W (k : Below w.heap.size w W) => awake3_any W (pow_below ht k))
  have f1 : fitq q1 := ⟨by omega, by omega⟩
  have f2 : fitq q2 := ⟨by omega, by omega⟩
  have f3 : fitq q3 := ⟨by omega, by omega⟩
  have n1 : bnd 10 q1 := ⟨lt_of_ln g1.1, lt_of_ln g1.2⟩
  have n2 : bnd 10 q2 := ⟨lt_of_ln g2.1, lt_of_ln g2.2⟩
  have n3 : bnd 10 q3 := ⟨lt_of_ln g3.1, lt_of_ln g3.2⟩
  have fx : fitq (q1 + q3) := fitq_bnd (bnd_add n1 n3) (by decide)
  have fy : fitq (q2 + q3) := fitq_bnd (bnd_add n2 n3) (by decide)
  have fu : fitq (q1 * q3) := fitq_bnd (bnd_mul n1 n3) (by decide)
  have fv : fitq (q2 * q3) := fitq_bnd (bnd_mul n2 n3) (by decide)
  have k2 : cmpQ q2 q1 = (1) := by rw [cmpQ_anti, hk]; try rfl
  have k3 : cmpQ (-q1) (-q2) = (1) := by rw [cmpQ_neg]; exact k2
  have k4 : cmpQ (q1 + q3) (q2 + q3) = (-1) := by rw [cmpQ_add]; exact hk
  have k5 := cmpQ_mul q1 q2 q3
  rw [hk] at k5
  have k6 : decide (q1 = q2) = false := by rw [cmpQ_eq, hk]; rfl
  obtain ⟨sg, hsg⟩ : ∃ x, cmpZ q3.num 0 = x := ⟨_, rfl⟩
  have sgb : -1 ≤ sg ∧ sg ≤ 1 := by rw [← hsg]; exact cmpZ_le _ _
  rw [hsg] at k5
  obtain ⟨m, hm⟩ : ∃ x, (-1) * sg = x := ⟨_, rfl⟩
  rw [hm] at k5
  obtain ⟨X, hX⟩ : ∃ x, q1 + q3 = x := ⟨_, rfl⟩
  obtain ⟨Y, hY⟩ : ∃ x, q2 + q3 = x := ⟨_, rfl⟩
  obtain ⟨U, hU⟩ : ∃ x, q1 * q3 = x := ⟨_, rfl⟩
  obtain ⟨V, hV⟩ : ∃ x, q2 * q3 = x := ⟨_, rfl⟩
  obtain ⟨D, hD⟩ : ∃ x, q1 = x := ⟨_, rfl⟩
  have fD : fitq D := by rw [← hD]; exact f1
  rw [hX] at fx k4
  rw [hY] at fy k4
  rw [hU] at fu k5
  rw [hV] at fv k5
  have FW0 := hide (fun W (_ : Below w.heap.size w W) => few_any (qs q1) (qs q2) A1 B1 A2 B2 a1 e1 a2 e2 (ln (qn q1)) (ln (qd q1)) (ln (qn q2)) (ln (qd q2)) W true (decide_eq_true ⟨g1.1, g1.2, g2.1, g2.2⟩))
  have FW1 := hide (fun W (_ : Below w.heap.size w W) => few_any (qs q3) (qs q3) A3 B3 A3 B3 a3 e3 a3 e3 (ln (qn q3)) (ln (qd q3)) (ln (qn q3)) (ln (qd q3)) W true (decide_eq_true ⟨g3.1, g3.2, g3.1, g3.2⟩))
  have V1 := hide (fun W (k : Below w.heap.size w W) => valid_q q1 A1 B1 a1 e1 W (kp' k sA1) (kp' k sB1) f1.1 f1.2)
  have V2 := hide (fun W (k : Below w.heap.size w W) => valid_q q2 A2 B2 a2 e2 W (kp' k sA2) (kp' k sB2) f2.1 f2.2)
  have V3 := hide (fun W (k : Below w.heap.size w W) => valid_q q3 A3 B3 a3 e3 W (kp' k sA3) (kp' k sB3) f3.1 f3.2)
  have C1 := hide (fun W (k : Below w.heap.size w W) => cmp_q q1 q2 A1 B1 A2 B2 a1 e1 a2 e2 W (kp' k sA1) (kp' k sB1) (kp' k sA2) (kp' k sB2) f1 f2 _ hk)
  have C2 := hide (fun W (k : Below w.heap.size w W) => cmp_q q2 q1 A2 B2 A1 B1 a2 e2 a1 e1 W (kp' k sA2) (kp' k sB2) (kp' k sA1) (kp' k sB1) f2 f1 _ k2)
  have SM := hide (fun W (k : Below w.heap.size w W) => same3_q q1 q2 A1 B1 A2 B2 a1 e1 a2 e2 W (kp' k sA1) (kp' k sB1) (kp' k sA2) (kp' k sB2) f1 f2 _ k6)
  have N1 := hide (fun W (k : Below w.heap.size w W) => neg_q q1 A1 B1 a1 e1 W (kp' k sA1) (kp' k sB1) f1)
  have N2 := hide (fun W (k : Below w.heap.size w W) => neg_q q2 A2 B2 a2 e2 W (kp' k sA2) (kp' k sB2) f2)
  obtain ⟨M1, hM1⟩ : ∃ x, -q1 = x := ⟨_, rfl⟩
  obtain ⟨M2, hM2⟩ : ∃ x, -q2 = x := ⟨_, rfl⟩
  have fm1 := fitq_neg f1
  have fm2 := fitq_neg f2
  rw [hM1] at N1 k3 fm1
  rw [hM2] at N2 k3 fm2
  have C3 := hide (fun P Q R S e f g h W (_ : Below w.heap.size w W) s1 s2 s3 s4 => cmp_q M1 M2 P Q R S e f g h W s1 s2 s3 s4 fm1 fm2 _ k3)
  have S1 := hide (fun W (k : Below w.heap.size w W) => add_q q1 q3 X hX A1 B1 A3 B3 a1 e1 a3 e3 W (kp' k sA1) (kp' k sB1) (kp' k sA3) (kp' k sB3) f1 f3 fx)
  have S2 := hide (fun W (k : Below w.heap.size w W) => add_q q2 q3 Y hY A2 B2 A3 B3 a2 e2 a3 e3 W (kp' k sA2) (kp' k sB2) (kp' k sA3) (kp' k sB3) f2 f3 fy)
  have P1 := hide (fun W (k : Below w.heap.size w W) => mul_q q1 q3 U hU A1 B1 A3 B3 a1 e1 a3 e3 W (kp' k sA1) (kp' k sB1) (kp' k sA3) (kp' k sB3) f1 f3 fu)
  have P2 := hide (fun W (k : Below w.heap.size w W) => mul_q q2 q3 V hV A2 B2 A3 B3 a2 e2 a3 e3 W (kp' k sA2) (kp' k sB2) (kp' k sA3) (kp' k sB3) f2 f3 fv)
  have TX := hide (fun W (k : Below w.heap.size w W) => text_q q1 A1 B1 a1 e1 W (kp' k sA1) (kp' k sB1) f1 (pow_below ht k) _ rfl)
  have PT := hide (fun W (_ : Below w.heap.size w W) => ptext_q q1 f1 W)
  generalize (⟨(textQ q1).toArray⟩ : ByteArray) = T at *
  have PT : Hid (∀ W, Below w.heap.size w W → Calls Tryz.prog 38 #[.string T] W (RQE W D)) := by rw [← hD]; exact PT
  have C4 := hide (fun P Q R S e f g h l W (kk : K5 w l W) (m1 : (P, qn X) ∈ l) (m2 : (Q, qd X) ∈ l) (m3 : (R, qn Y) ∈ l) (m4 : (S, qd Y) ∈ l) => cmp_q X Y P Q R S e f g h W (kk.sl m1) (kk.sl m2) (kk.sl m3) (kk.sl m4) fx fy _ k4)
  have C5 := hide (fun P Q R S e f g h l W (kk : K5 w l W) (m1 : (P, qn U) ∈ l) (m2 : (Q, qd U) ∈ l) (m3 : (R, qn V) ∈ l) (m4 : (S, qd V) ∈ l) => cmp_q U V P Q R S e f g h W (kk.sl m1) (kk.sl m2) (kk.sl m3) (kk.sl m4) fu fv _ k5)
  have SC := hide (fun W (k : Below w.heap.size w W) => sign_q q3 A3 B3 a3 e3 W (kp' k sA3) (kp' k sB3) f3 sg hsg)
  have SP := hide (fun P Q e f l W (kk : K5 w l W) (m1 : (P, qn D) ∈ l) (m2 : (Q, qd D) ∈ l) => same3_q D q1 P Q A1 B1 e f a1 e1 W (kk.sl m1) (kk.sl m2) (kp' kk.b sA1) (kp' kk.b sB1) fD f1 true (decide_eq_true hD.symm))
  have e0 : binOp .eql 27 (.int .i64 0) (.int .i64 0) = pure (.bool true) := rfl
  have o2 : ∀ W : World, (binOp .neq 4 (.bool false) (.bool false)).run Tryz.prog W = .ok (.bool false) W := fun _ => by kernel_rfl
  have o3 : binOp .neq 3 (.int .i64 (-1)) (.int .i64 (-1)) = pure (.bool false) := rfl
  have o3' : binOp .neq 3 (.int .i64 (1)) (.int .i64 (1)) = pure (.bool false) := rfl
  have o4 : IntKind.i64.wrap (-1) = -1 := rfl
  have o5 : IntKind.i64.wrap 1 = 1 := rfl
  have o6 : IntKind.i64.wrap 0 = 0 := rfl
  have o7 : binOp .eql 3 (.int .i64 (-1)) (.int .i64 0) = pure (.bool false) := rfl
  have o8 : binOp .eql 3 (.int .i64 (-1)) (.int .i64 (-1)) = pure (.bool true) := rfl
  have o9 : binOp .mul 3 (.int .i64 (-1)) (.int .i64 sg) = pure (.int .i64 m) := by
    rcases (show sg = -1 ∨ sg = 0 ∨ sg = 1 by omega) with rfl | rfl | rfl <;> (rw [← hm]; try rfl)
  have o10 := je3 3 m
  clear n1 n2 n3 f1 f2 f3 fx fy fu fv fD fm1 fm2 hX hY hU hV hD hM1 hM2 k2 k3 k4 k5 k6 hk hsg hm sgb g1 g2 g3 ht sA1 sB1 sA2 sB2 sA3 sB3
  generalize qs q1 = s1 at *
  generalize ln (qn q1) = i1 at *
  generalize ln (qd q1) = j1 at *
  generalize qs q2 = s2 at *
  generalize ln (qn q2) = i2 at *
  generalize ln (qd q2) = j2 at *
  generalize qs q3 = s3 at *
  generalize ln (qn q3) = i3 at *
  generalize ln (qd q3) = j3 at *
  have Xa := hide (((Q3.new (.bool s1) (.slice A1 i1 a1) (.slice B1 j1 e1) w ).al (.cells #[.bool s2, .slice A2 i2 a2, .slice B2 j2 e2] 24)).al (.cells #[.bool s3, .slice A3 i3 a3, .slice B3 j3 e3] 24))
  have Xb := hide ((Q3.new1 (.bool s2) (.slice A2 i2 a2) (.slice B2 j2 e2) w (.cells #[.bool s1, .slice A1 i1 a1, .slice B1 j1 e1] 24)).al (.cells #[.bool s3, .slice A3 i3 a3, .slice B3 j3 e3] 24))
  have Xc := hide (Q3.new2 (.bool s3) (.slice A3 i3 a3) (.slice B3 j3 e3) w (.cells #[.bool s1, .slice A1 i1 a1, .slice B1 j1 e1] 24) (.cells #[.bool s2, .slice A2 i2 a2, .slice B2 j2 e2] 24))
  have b0 : Below w.heap.size w (((w.alloc (.cells #[.bool s1, .slice A1 i1 a1, .slice B1 j1 e1] 24)).alloc (.cells #[.bool s2, .slice A2 i2 a2, .slice B2 j2 e2] 24)).alloc (.cells #[.bool s3, .slice A3 i3 a3, .slice B3 j3 e3] 24)) := (bl_al (bl_al (bl_al (.refl _ _) _) _) _)
  go_enter Tryz.func6, Tryz.ntmps6
  go_wp2_with (first
    | (go_at_call 13; (with_reducible refine (FW0.out _ b0).mono ?_); rintro e w1 ⟨rfl, hb⟩; have g := hb; have Xa := hide (Xa.out.next g); have Xb := hide (Xb.out.next g); have Xc := hide (Xc.out.next g); have b1 := bl_trans b0 g; obtain ⟨xac1, xac2, xac3, xac4, xac5, xac6⟩ := Xa.out; obtain ⟨xbc1, xbc2, xbc3, xbc4, xbc5, xbc6⟩ := Xb.out; obtain ⟨xcc1, xcc2, xcc3, xcc4, xcc5, xcc6⟩ := Xc.out; clear hb g)
    | (go_at_call 13; (with_reducible refine (FW1.out _ b1).mono ?_); rintro e w2 ⟨rfl, hb⟩; have g := hb; have Xa := hide (Xa.out.next g); have Xb := hide (Xb.out.next g); have Xc := hide (Xc.out.next g); have b2 := bl_trans b1 g; (try clear xac1 xac2 xac3 xac4 xac5 xac6); (try clear xbc1 xbc2 xbc3 xbc4 xbc5 xbc6); (try clear xcc1 xcc2 xcc3 xcc4 xcc5 xcc6); obtain ⟨xac1, xac2, xac3, xac4, xac5, xac6⟩ := Xa.out; obtain ⟨xbc1, xbc2, xbc3, xbc4, xbc5, xbc6⟩ := Xb.out; obtain ⟨xcc1, xcc2, xcc3, xcc4, xcc5, xcc6⟩ := Xc.out; clear hb g)
    | (go_at_call 30; (with_reducible refine (V1.out _ b2).mono ?_); rintro e w3 ⟨rfl, hb⟩; have g := hb; have Xa := hide (Xa.out.next g); have Xb := hide (Xb.out.next g); have Xc := hide (Xc.out.next g); have b3 := bl_trans b2 g; (try clear xac1 xac2 xac3 xac4 xac5 xac6); (try clear xbc1 xbc2 xbc3 xbc4 xbc5 xbc6); (try clear xcc1 xcc2 xcc3 xcc4 xcc5 xcc6); obtain ⟨xac1, xac2, xac3, xac4, xac5, xac6⟩ := Xa.out; obtain ⟨xbc1, xbc2, xbc3, xbc4, xbc5, xbc6⟩ := Xb.out; obtain ⟨xcc1, xcc2, xcc3, xcc4, xcc5, xcc6⟩ := Xc.out; clear hb g)
    | (go_at_call 30; (with_reducible refine (V2.out _ b3).mono ?_); rintro e w4 ⟨rfl, hb⟩; have g := hb; have Xa := hide (Xa.out.next g); have Xb := hide (Xb.out.next g); have Xc := hide (Xc.out.next g); have b4 := bl_trans b3 g; (try clear xac1 xac2 xac3 xac4 xac5 xac6); (try clear xbc1 xbc2 xbc3 xbc4 xbc5 xbc6); (try clear xcc1 xcc2 xcc3 xcc4 xcc5 xcc6); obtain ⟨xac1, xac2, xac3, xac4, xac5, xac6⟩ := Xa.out; obtain ⟨xbc1, xbc2, xbc3, xbc4, xbc5, xbc6⟩ := Xb.out; obtain ⟨xcc1, xcc2, xcc3, xcc4, xcc5, xcc6⟩ := Xc.out; clear hb g)
    | (go_at_call 30; (with_reducible refine (V3.out _ b4).mono ?_); rintro e w5 ⟨rfl, hb⟩; have g := hb; have Xa := hide (Xa.out.next g); have Xb := hide (Xb.out.next g); have Xc := hide (Xc.out.next g); have b5 := bl_trans b4 g; (try clear xac1 xac2 xac3 xac4 xac5 xac6); (try clear xbc1 xbc2 xbc3 xbc4 xbc5 xbc6); (try clear xcc1 xcc2 xcc3 xcc4 xcc5 xcc6); obtain ⟨xac1, xac2, xac3, xac4, xac5, xac6⟩ := Xa.out; obtain ⟨xbc1, xbc2, xbc3, xbc4, xbc5, xbc6⟩ := Xb.out; obtain ⟨xcc1, xcc2, xcc3, xcc4, xcc5, xcc6⟩ := Xc.out; clear hb g)
    | (go_at_call 24; (with_reducible refine (C1.out _ b5).mono ?_); rintro e w6 ⟨rfl, hb⟩; have g := hb; have Xa := hide (Xa.out.next g); have Xb := hide (Xb.out.next g); have Xc := hide (Xc.out.next g); have b6 := bl_trans b5 g; (try clear xac1 xac2 xac3 xac4 xac5 xac6); (try clear xbc1 xbc2 xbc3 xbc4 xbc5 xbc6); (try clear xcc1 xcc2 xcc3 xcc4 xcc5 xcc6); obtain ⟨xac1, xac2, xac3, xac4, xac5, xac6⟩ := Xa.out; obtain ⟨xbc1, xbc2, xbc3, xbc4, xbc5, xbc6⟩ := Xb.out; obtain ⟨xcc1, xcc2, xcc3, xcc4, xcc5, xcc6⟩ := Xc.out; clear hb g))
  have kz : Hid (KR w (w.heap.size) (w.heap.size + 1) (w.heap.size + 1 + 1) (.bool s1) (.slice A1 i1 a1) (.slice B1 j1 e1) (.bool s2) (.slice A2 i2 a2) (.slice B2 j2 e2) (.bool s3) (.slice A3 i3 a3) (.slice B3 j3 e3) w6) := hide ⟨b6, Xa.out, Xb.out, Xc.out⟩
  have kd := hide kz.out.drew
  clear Xa Xb Xc b0 b1 b2 b3 b4 b5 b6
  (try clear xcc1 xcc2 xcc3 xcc4 xcc5 xcc6)
  clear xac4 xac5 xac6 xbc4 xbc5 xbc6
  (try dsimp only [List.append])
  go_region_held3 (fun W => W.cell? ⟨w.heap.size, 0, none⟩ = some (.bool s1) ∧ W.cell? ⟨w.heap.size, 1, none⟩ = some (.slice A1 i1 a1) ∧ W.cell? ⟨w.heap.size, 2, none⟩ = some (.slice B1 j1 e1) ∧ W.cell? ⟨w.heap.size + 1, 0, none⟩ = some (.bool s2) ∧ W.cell? ⟨w.heap.size + 1, 1, none⟩ = some (.slice A2 i2 a2) ∧ W.cell? ⟨w.heap.size + 1, 2, none⟩ = some (.slice B2 j2 e2) ∧ KR w (w.heap.size) (w.heap.size + 1) (w.heap.size + 1 + 1) (.bool s1) (.slice A1 i1 a1) (.slice B1 j1 e1) (.bool s2) (.slice A2 i2 a2) (.slice B2 j2 e2) (.bool s3) (.slice A3 i3 a3) (.slice B3 j3 e3) W)
    (first | exact ⟨xac1, xac2, xac3, xbc1, xbc2, xbc3, kz.out⟩ | exact ⟨xac1, xac2, xac3, xbc1, xbc2, xbc3, kd.out⟩ | with_reducible exact SR_next hb (by assumption) | with_reducible assumption)
    (first
      | (go_at_call 24; (with_reducible refine (C2.out _ (KR.b (kr6 (by assumption)))).mono ?_); rintro e v1 ⟨rfl, hb⟩)
      | (go_at_call 23; (with_reducible refine (SM.out _ (KR.b (kr6 (by assumption)))).mono ?_); rintro e v2 ⟨rfl, hb⟩)
      | (go_at_call 28; (with_reducible refine (N1.out _ (KR.b (kr6 (by assumption)))).mono ?_); rintro e v3 ⟨Z1, p1, Z2, p2, rfl, y1, y2, hb⟩; (try have y3 := kp' hb y3; have y4 := kp' hb y4))
      | (go_at_call 28; (with_reducible refine (N2.out _ (KR.b (kr6 (by assumption)))).mono ?_); rintro e v4 ⟨Z3, p3, Z4, p4, rfl, y3, y4, hb⟩; (try have y1 := kp' hb y1; have y2 := kp' hb y2))
      | (go_at_call 24; (with_reducible refine (C3.out Z1 Z2 Z3 Z4 p1 p2 p3 p4 _ (KR.b (kr6 (by assumption))) y1 y2 y3 y4).mono ?_); rintro e v5 ⟨rfl, hb⟩))
  rename_i hS
  have kk := hide (kr6 hS)
  clear hS
  have b10 := kk.out.1
  have Xa := hide kk.out.2.1
  have Xb := hide kk.out.2.2.1
  have Xc := hide kk.out.2.2.2
  obtain ⟨xac1, xac2, xac3, xac4, xac5, xac6⟩ := Xa.out
  obtain ⟨xbc1, xbc2, xbc3, xbc4, xbc5, xbc6⟩ := Xb.out
  obtain ⟨xcc1, xcc2, xcc3, xcc4, xcc5, xcc6⟩ := Xc.out
  clear kz kd kk
  go_wp2_with (first
    | (go_at_call 15; (with_reducible refine (S1.out _ b10).mono ?_); rintro e w11 ⟨A11, c11, B11, d11, rfl, s11, t11, hb⟩; have g := hb; have Xa := hide (Xa.out.next g); have Xb := hide (Xb.out.next g); have Xc := hide (Xc.out.next g); have b11 := bl_trans b10 g; (try clear xac1 xac2 xac3 xac4 xac5 xac6); (try clear xbc1 xbc2 xbc3 xbc4 xbc5 xbc6); (try clear xcc1 xcc2 xcc3 xcc4 xcc5 xcc6); obtain ⟨xac1, xac2, xac3, xac4, xac5, xac6⟩ := Xa.out; obtain ⟨xbc1, xbc2, xbc3, xbc4, xbc5, xbc6⟩ := Xb.out; obtain ⟨xcc1, xcc2, xcc3, xcc4, xcc5, xcc6⟩ := Xc.out; have xad1 := fun X => (Xa.out.al X).1; have xad2 := fun X => (Xa.out.al X).2.1; have xad3 := fun X => (Xa.out.al X).2.2.1; have xbd1 := fun X => (Xb.out.al X).1; have xbd2 := fun X => (Xb.out.al X).2.1; have xbd3 := fun X => (Xb.out.al X).2.2.1; have xcd1 := fun X => (Xc.out.al X).1; have xcd2 := fun X => (Xc.out.al X).2.1; have xcd3 := fun X => (Xc.out.al X).2.2.1; clear hb g)
    | (go_at_call 15; (with_reducible refine (S2.out _ (bl_al b11 _)).mono ?_); rintro e w12 ⟨A12, c12, B12, d12, rfl, s12, t12, hb⟩; have g := (bl_one hb); have Y1 := hide ((Q3.new (.bool (qs X)) (.slice A11 (ln (qn X)) c11) (.slice B11 (ln (qd X)) d11) w11).next hb); have s11 := kp' g s11; have t11 := kp' g t11; have Xa := hide (Xa.out.next g); have Xb := hide (Xb.out.next g); have Xc := hide (Xc.out.next g); have b12 := bl_trans b11 g; clear xad1 xad2 xad3 xbd1 xbd2 xbd3 xcd1 xcd2 xcd3; (try clear xac1 xac2 xac3 xac4 xac5 xac6); (try clear xbc1 xbc2 xbc3 xbc4 xbc5 xbc6); (try clear xcc1 xcc2 xcc3 xcc4 xcc5 xcc6); obtain ⟨xac1, xac2, xac3, xac4, xac5, xac6⟩ := Xa.out; obtain ⟨xbc1, xbc2, xbc3, xbc4, xbc5, xbc6⟩ := Xb.out; obtain ⟨xcc1, xcc2, xcc3, xcc4, xcc5, xcc6⟩ := Xc.out; have xad1 := fun X => (Xa.out.al X).1; have xad2 := fun X => (Xa.out.al X).2.1; have xad3 := fun X => (Xa.out.al X).2.2.1; have xbd1 := fun X => (Xb.out.al X).1; have xbd2 := fun X => (Xb.out.al X).2.1; have xbd3 := fun X => (Xb.out.al X).2.2.1; have xcd1 := fun X => (Xc.out.al X).1; have xcd2 := fun X => (Xc.out.al X).2.1; have xcd3 := fun X => (Xc.out.al X).2.2.1; clear hb g)
    | (go_at_call 19; (with_reducible refine (P1.out _ (bl_al b12 _)).mono ?_); rintro e w13 ⟨A13, c13, B13, d13, rfl, s13, t13, hb⟩; have g := (bl_one hb); have Y2 := hide ((Q3.new (.bool (qs Y)) (.slice A12 (ln (qn Y)) c12) (.slice B12 (ln (qd Y)) d12) w12).next hb); have s11 := kp' g s11; have t11 := kp' g t11; have s12 := kp' g s12; have t12 := kp' g t12; have Xa := hide (Xa.out.next g); have Xb := hide (Xb.out.next g); have Xc := hide (Xc.out.next g); have Y1 := hide (Y1.out.next g); have b13 := bl_trans b12 g; clear xad1 xad2 xad3 xbd1 xbd2 xbd3 xcd1 xcd2 xcd3; (try clear xac1 xac2 xac3 xac4 xac5 xac6); (try clear xbc1 xbc2 xbc3 xbc4 xbc5 xbc6); (try clear xcc1 xcc2 xcc3 xcc4 xcc5 xcc6); obtain ⟨xac1, xac2, xac3, xac4, xac5, xac6⟩ := Xa.out; obtain ⟨xbc1, xbc2, xbc3, xbc4, xbc5, xbc6⟩ := Xb.out; obtain ⟨xcc1, xcc2, xcc3, xcc4, xcc5, xcc6⟩ := Xc.out; have xad1 := fun X => (Xa.out.al X).1; have xad2 := fun X => (Xa.out.al X).2.1; have xad3 := fun X => (Xa.out.al X).2.2.1; have xbd1 := fun X => (Xb.out.al X).1; have xbd2 := fun X => (Xb.out.al X).2.1; have xbd3 := fun X => (Xb.out.al X).2.2.1; have xcd1 := fun X => (Xc.out.al X).1; have xcd2 := fun X => (Xc.out.al X).2.1; have xcd3 := fun X => (Xc.out.al X).2.2.1; clear hb g)
    | (go_at_call 19; (with_reducible refine (P2.out _ (bl_al b13 _)).mono ?_); rintro e w14 ⟨A14, c14, B14, d14, rfl, s14, t14, hb⟩; have g := (bl_one hb); have Y3 := hide ((Q3.new (.bool (qs U)) (.slice A13 (ln (qn U)) c13) (.slice B13 (ln (qd U)) d13) w13).next hb); have s11 := kp' g s11; have t11 := kp' g t11; have s12 := kp' g s12; have t12 := kp' g t12; have s13 := kp' g s13; have t13 := kp' g t13; have Xa := hide (Xa.out.next g); have Xb := hide (Xb.out.next g); have Xc := hide (Xc.out.next g); have Y1 := hide (Y1.out.next g); have Y2 := hide (Y2.out.next g); have b14 := bl_trans b13 g; clear xad1 xad2 xad3 xbd1 xbd2 xbd3 xcd1 xcd2 xcd3; (try clear xac1 xac2 xac3 xac4 xac5 xac6); (try clear xbc1 xbc2 xbc3 xbc4 xbc5 xbc6); (try clear xcc1 xcc2 xcc3 xcc4 xcc5 xcc6); obtain ⟨xac1, xac2, xac3, xac4, xac5, xac6⟩ := Xa.out; obtain ⟨xbc1, xbc2, xbc3, xbc4, xbc5, xbc6⟩ := Xb.out; obtain ⟨xcc1, xcc2, xcc3, xcc4, xcc5, xcc6⟩ := Xc.out; have xad1 := fun X => (Xa.out.al X).1; have xad2 := fun X => (Xa.out.al X).2.1; have xad3 := fun X => (Xa.out.al X).2.2.1; have xbd1 := fun X => (Xb.out.al X).1; have xbd2 := fun X => (Xb.out.al X).2.1; have xbd3 := fun X => (Xb.out.al X).2.2.1; have xcd1 := fun X => (Xc.out.al X).1; have xcd2 := fun X => (Xc.out.al X).2.1; have xcd3 := fun X => (Xc.out.al X).2.2.1; clear hb g)
    | (go_at_call 39; (with_reducible refine (TX.out _ (bl_al b14 _)).mono ?_); rintro e w15 ⟨rfl, hb⟩; have g := (bl_one hb); have Y4 := hide ((Q3.new (.bool (qs V)) (.slice A14 (ln (qn V)) c14) (.slice B14 (ln (qd V)) d14) w14).next hb); have s11 := kp' g s11; have t11 := kp' g t11; have s12 := kp' g s12; have t12 := kp' g t12; have s13 := kp' g s13; have t13 := kp' g t13; have s14 := kp' g s14; have t14 := kp' g t14; have Xa := hide (Xa.out.next g); have Xb := hide (Xb.out.next g); have Xc := hide (Xc.out.next g); have Y1 := hide (Y1.out.next g); have Y2 := hide (Y2.out.next g); have Y3 := hide (Y3.out.next g); have b15 := bl_trans b14 g; clear xad1 xad2 xad3 xbd1 xbd2 xbd3 xcd1 xcd2 xcd3; (try clear xac1 xac2 xac3 xac4 xac5 xac6); (try clear xbc1 xbc2 xbc3 xbc4 xbc5 xbc6); (try clear xcc1 xcc2 xcc3 xcc4 xcc5 xcc6); obtain ⟨xac1, xac2, xac3, xac4, xac5, xac6⟩ := Xa.out; obtain ⟨xbc1, xbc2, xbc3, xbc4, xbc5, xbc6⟩ := Xb.out; obtain ⟨xcc1, xcc2, xcc3, xcc4, xcc5, xcc6⟩ := Xc.out; clear hb g)
    | (go_at_call 38; (with_reducible refine (PT.out _ b15).mono ?_); rintro e w16 ⟨A16, c16, B16, d16, rfl, s16, t16, hb⟩; have g := hb; have s11 := kp' g s11; have t11 := kp' g t11; have s12 := kp' g s12; have t12 := kp' g t12; have s13 := kp' g s13; have t13 := kp' g t13; have s14 := kp' g s14; have t14 := kp' g t14; have Xa := hide (Xa.out.next g); have Xb := hide (Xb.out.next g); have Xc := hide (Xc.out.next g); have Y1 := hide (Y1.out.next g); have Y2 := hide (Y2.out.next g); have Y3 := hide (Y3.out.next g); have Y4 := hide (Y4.out.next g); have b16 := bl_trans b15 g; (try clear xac1 xac2 xac3 xac4 xac5 xac6); (try clear xbc1 xbc2 xbc3 xbc4 xbc5 xbc6); (try clear xcc1 xcc2 xcc3 xcc4 xcc5 xcc6); obtain ⟨xac1, xac2, xac3, xac4, xac5, xac6⟩ := Xa.out; obtain ⟨xbc1, xbc2, xbc3, xbc4, xbc5, xbc6⟩ := Xb.out; obtain ⟨xcc1, xcc2, xcc3, xcc4, xcc5, xcc6⟩ := Xc.out; clear hb g))
  have kz : Hid (K5 w [(A11, qn X), (B11, qd X), (A12, qn Y), (B12, qd Y), (A13, qn U), (B13, qd U), (A14, qn V), (B14, qd V), (A16, qn D), (B16, qd D)] (w16.alloc (.cells #[.bool (qs D), .slice A16 (ln (qn D)) c16, .slice B16 (ln (qd D)) d16] 24))) := hide (K5.cons (K5.cons (K5.cons (K5.cons (K5.cons (K5.cons (K5.cons (K5.cons (K5.cons (K5.cons (K5.nil (bl_al b16 (.cells #[.bool (qs D), .slice A16 (ln (qn D)) c16, .slice B16 (ln (qd D)) d16] 24))) (t16.alloc (.cells #[.bool (qs D), .slice A16 (ln (qn D)) c16, .slice B16 (ln (qd D)) d16] 24))) (s16.alloc (.cells #[.bool (qs D), .slice A16 (ln (qn D)) c16, .slice B16 (ln (qd D)) d16] 24))) (t14.alloc (.cells #[.bool (qs D), .slice A16 (ln (qn D)) c16, .slice B16 (ln (qd D)) d16] 24))) (s14.alloc (.cells #[.bool (qs D), .slice A16 (ln (qn D)) c16, .slice B16 (ln (qd D)) d16] 24))) (t13.alloc (.cells #[.bool (qs D), .slice A16 (ln (qn D)) c16, .slice B16 (ln (qd D)) d16] 24))) (s13.alloc (.cells #[.bool (qs D), .slice A16 (ln (qn D)) c16, .slice B16 (ln (qd D)) d16] 24))) (t12.alloc (.cells #[.bool (qs D), .slice A16 (ln (qn D)) c16, .slice B16 (ln (qd D)) d16] 24))) (s12.alloc (.cells #[.bool (qs D), .slice A16 (ln (qn D)) c16, .slice B16 (ln (qd D)) d16] 24))) (t11.alloc (.cells #[.bool (qs D), .slice A16 (ln (qn D)) c16, .slice B16 (ln (qd D)) d16] 24))) (s11.alloc (.cells #[.bool (qs D), .slice A16 (ln (qn D)) c16, .slice B16 (ln (qd D)) d16] 24)))
  have kd := hide kz.out.drew
  have Y1 := hide (Y1.out.al (.cells #[.bool (qs D), .slice A16 (ln (qn D)) c16, .slice B16 (ln (qd D)) d16] 24))
  have Y2 := hide (Y2.out.al (.cells #[.bool (qs D), .slice A16 (ln (qn D)) c16, .slice B16 (ln (qd D)) d16] 24))
  have Y3 := hide (Y3.out.al (.cells #[.bool (qs D), .slice A16 (ln (qn D)) c16, .slice B16 (ln (qd D)) d16] 24))
  have Y4 := hide (Y4.out.al (.cells #[.bool (qs D), .slice A16 (ln (qn D)) c16, .slice B16 (ln (qd D)) d16] 24))
  have Xc := hide (Xc.out.al (.cells #[.bool (qs D), .slice A16 (ln (qn D)) c16, .slice B16 (ln (qd D)) d16] 24))
  have Xa := hide (Xa.out.al (.cells #[.bool (qs D), .slice A16 (ln (qn D)) c16, .slice B16 (ln (qd D)) d16] 24))
  have Y5 := hide (Q3.new (.bool (qs D)) (.slice A16 (ln (qn D)) c16) (.slice B16 (ln (qd D)) d16) w16)
  clear s11 t11 b11 s12 t12 b12 s13 t13 b13 s14 t14 b14 s16 t16 b16
  (try clear xac1 xac2 xac3 xac4 xac5 xac6 xbc1 xbc2 xbc3 xbc4 xbc5 xbc6 xcc1 xcc2 xcc3 xcc4 xcc5 xcc6)
  (try dsimp only [List.append])
  go_region_held3 (fun W => W.cell? ⟨w11.heap.size, 0, none⟩ = some (.bool (qs X)) ∧ W.cell? ⟨w11.heap.size, 1, none⟩ = some (.slice A11 (ln (qn X)) c11) ∧ W.cell? ⟨w11.heap.size, 2, none⟩ = some (.slice B11 (ln (qd X)) d11) ∧ W.cell? ⟨w12.heap.size, 0, none⟩ = some (.bool (qs Y)) ∧ W.cell? ⟨w12.heap.size, 1, none⟩ = some (.slice A12 (ln (qn Y)) c12) ∧ W.cell? ⟨w12.heap.size, 2, none⟩ = some (.slice B12 (ln (qd Y)) d12) ∧ W.cell? ⟨w13.heap.size, 0, none⟩ = some (.bool (qs U)) ∧ W.cell? ⟨w13.heap.size, 1, none⟩ = some (.slice A13 (ln (qn U)) c13) ∧ W.cell? ⟨w13.heap.size, 2, none⟩ = some (.slice B13 (ln (qd U)) d13) ∧ W.cell? ⟨w14.heap.size, 0, none⟩ = some (.bool (qs V)) ∧ W.cell? ⟨w14.heap.size, 1, none⟩ = some (.slice A14 (ln (qn V)) c14) ∧ W.cell? ⟨w14.heap.size, 2, none⟩ = some (.slice B14 (ln (qd V)) d14) ∧ W.cell? ⟨w.heap.size + 1 + 1, 0, none⟩ = some (.bool s3) ∧ W.cell? ⟨w.heap.size + 1 + 1, 1, none⟩ = some (.slice A3 i3 a3) ∧ W.cell? ⟨w.heap.size + 1 + 1, 2, none⟩ = some (.slice B3 j3 e3) ∧ W.cell? ⟨w16.heap.size, 0, none⟩ = some (.bool (qs D)) ∧ W.cell? ⟨w16.heap.size, 1, none⟩ = some (.slice A16 (ln (qn D)) c16) ∧ W.cell? ⟨w16.heap.size, 2, none⟩ = some (.slice B16 (ln (qd D)) d16) ∧ W.cell? ⟨w.heap.size, 0, none⟩ = some (.bool s1) ∧ W.cell? ⟨w.heap.size, 1, none⟩ = some (.slice A1 i1 a1) ∧ W.cell? ⟨w.heap.size, 2, none⟩ = some (.slice B1 j1 e1) ∧ K5 w [(A11, qn X), (B11, qd X), (A12, qn Y), (B12, qd Y), (A13, qn U), (B13, qd U), (A14, qn V), (B14, qd V), (A16, qn D), (B16, qd D)] W)
    (first | exact ⟨Y1.out.1, Y1.out.2.1, Y1.out.2.2.1, Y2.out.1, Y2.out.2.1, Y2.out.2.2.1, Y3.out.1, Y3.out.2.1, Y3.out.2.2.1, Y4.out.1, Y4.out.2.1, Y4.out.2.2.1, Xc.out.1, Xc.out.2.1, Xc.out.2.2.1, Y5.out.1, Y5.out.2.1, Y5.out.2.2.1, Xa.out.1, Xa.out.2.1, Xa.out.2.2.1, kz.out⟩ | exact ⟨Y1.out.1, Y1.out.2.1, Y1.out.2.2.1, Y2.out.1, Y2.out.2.1, Y2.out.2.2.1, Y3.out.1, Y3.out.2.1, Y3.out.2.2.1, Y4.out.1, Y4.out.2.1, Y4.out.2.2.1, Xc.out.1, Xc.out.2.1, Xc.out.2.2.1, Y5.out.1, Y5.out.2.1, Y5.out.2.2.1, Xa.out.1, Xa.out.2.1, Xa.out.2.2.1, kd.out⟩ | with_reducible exact S21_next hb (by assumption) | with_reducible assumption)
    (first
      | (go_at_call 24; (with_reducible refine (C4.out A11 B11 A12 B12 c11 d11 c12 d12 _ _ (k21 (by assumption)) mem1 mem2 mem3 mem4).mono ?_); rintro e v1 ⟨rfl, hb⟩)
      | (go_at_call 24; (with_reducible refine (C5.out A13 B13 A14 B14 c13 d13 c14 d14 _ _ (k21 (by assumption)) mem5 mem6 mem7 mem8).mono ?_); rintro e v2 ⟨rfl, hb⟩)
      | (go_at_call 26; (with_reducible refine (SC.out _ (K5.b (k21 (by assumption)))).mono ?_); rintro e v3 ⟨rfl, hb⟩)
      | (go_at_call 23; (with_reducible refine (SP.out A16 B16 c16 d16 _ _ (k21 (by assumption)) mem9 mem10).mono ?_); rintro e v4 ⟨rfl, hb⟩)
      | (go_at_call 14; (with_reducible refine (AW.out _ (K5.b (k21 (by assumption)))).mono ?_); rintro e v5 ⟨rfl, hb⟩))
  all_goals
    go_wp2
    go_ret
    exact ⟨rfl, K5.b (k21 (by assumption))⟩

set_option maxRecDepth 100000 in
set_option maxHeartbeats 16000000 in
theorem rorder_eq (q1 q2 q3 : Rat) (A1 B1 A2 B2 A3 B3 : Option Addr) (a1 e1 a2 e2 a3 e3 : Nat) (w : World) (sA1 : Sl w A1 (digs (qn q1))) (sB1 : Sl w B1 (digs (qd q1))) (sA2 : Sl w A2 (digs (qn q2))) (sB2 : Sl w B2 (digs (qd q2))) (sA3 : Sl w A3 (digs (qn q3))) (sB3 : Sl w B3 (digs (qd q3))) (g1 : ln (qn q1) ≤ 10 ∧ ln (qd q1) ≤ 10) (g2 : ln (qn q2) ≤ 10 ∧ ln (qd q2) ≤ 10) (g3 : ln (qn q3) ≤ 10 ∧ ln (qd q3) ≤ 10) (ht : Pow10 w) (hk : cmpQ q1 q2 = (0)) :
    Calls Tryz.prog 6 #[.agg #[.bool (qs q1), .slice A1 (ln (qn q1)) a1, .slice B1 (ln (qd q1)) e1], .agg #[.bool (qs q2), .slice A2 (ln (qn q2)) a2, .slice B2 (ln (qd q2)) e2], .agg #[.bool (qs q3), .slice A3 (ln (qn q3)) a3, .slice B3 (ln (qd q3)) e3]] w fun e w' => e = .returned (.bool true) ∧ Below w.heap.size w w' := by
  have AW := hide (fun W (k : Below w.heap.size w W) => awake3_any W (pow_below ht k))
  have f1 : fitq q1 := ⟨by omega, by omega⟩
  have f2 : fitq q2 := ⟨by omega, by omega⟩
  have f3 : fitq q3 := ⟨by omega, by omega⟩
  have n1 : bnd 10 q1 := ⟨lt_of_ln g1.1, lt_of_ln g1.2⟩
  have n2 : bnd 10 q2 := ⟨lt_of_ln g2.1, lt_of_ln g2.2⟩
  have n3 : bnd 10 q3 := ⟨lt_of_ln g3.1, lt_of_ln g3.2⟩
  have fx : fitq (q1 + q3) := fitq_bnd (bnd_add n1 n3) (by decide)
  have fy : fitq (q2 + q3) := fitq_bnd (bnd_add n2 n3) (by decide)
  have fu : fitq (q1 * q3) := fitq_bnd (bnd_mul n1 n3) (by decide)
  have fv : fitq (q2 * q3) := fitq_bnd (bnd_mul n2 n3) (by decide)
  have k2 : cmpQ q2 q1 = (0) := by rw [cmpQ_anti, hk]; try rfl
  have k3 : cmpQ (-q1) (-q2) = (0) := by rw [cmpQ_neg]; exact k2
  have k4 : cmpQ (q1 + q3) (q2 + q3) = (0) := by rw [cmpQ_add]; exact hk
  have k5 := cmpQ_mul q1 q2 q3
  rw [hk] at k5
  have k6 : decide (q1 = q2) = true := by rw [cmpQ_eq, hk]; rfl
  obtain ⟨sg, hsg⟩ : ∃ x, cmpZ q3.num 0 = x := ⟨_, rfl⟩
  have sgb : -1 ≤ sg ∧ sg ≤ 1 := by rw [← hsg]; exact cmpZ_le _ _
  rw [hsg] at k5
  obtain ⟨m, hm⟩ : ∃ x, (0) * sg = x := ⟨_, rfl⟩
  rw [hm] at k5
  obtain ⟨X, hX⟩ : ∃ x, q1 + q3 = x := ⟨_, rfl⟩
  obtain ⟨Y, hY⟩ : ∃ x, q2 + q3 = x := ⟨_, rfl⟩
  obtain ⟨U, hU⟩ : ∃ x, q1 * q3 = x := ⟨_, rfl⟩
  obtain ⟨V, hV⟩ : ∃ x, q2 * q3 = x := ⟨_, rfl⟩
  obtain ⟨D, hD⟩ : ∃ x, q1 = x := ⟨_, rfl⟩
  have fD : fitq D := by rw [← hD]; exact f1
  rw [hX] at fx k4
  rw [hY] at fy k4
  rw [hU] at fu k5
  rw [hV] at fv k5
  have FW0 := hide (fun W (_ : Below w.heap.size w W) => few_any (qs q1) (qs q2) A1 B1 A2 B2 a1 e1 a2 e2 (ln (qn q1)) (ln (qd q1)) (ln (qn q2)) (ln (qd q2)) W true (decide_eq_true ⟨g1.1, g1.2, g2.1, g2.2⟩))
  have FW1 := hide (fun W (_ : Below w.heap.size w W) => few_any (qs q3) (qs q3) A3 B3 A3 B3 a3 e3 a3 e3 (ln (qn q3)) (ln (qd q3)) (ln (qn q3)) (ln (qd q3)) W true (decide_eq_true ⟨g3.1, g3.2, g3.1, g3.2⟩))
  have V1 := hide (fun W (k : Below w.heap.size w W) => valid_q q1 A1 B1 a1 e1 W (kp' k sA1) (kp' k sB1) f1.1 f1.2)
  have V2 := hide (fun W (k : Below w.heap.size w W) => valid_q q2 A2 B2 a2 e2 W (kp' k sA2) (kp' k sB2) f2.1 f2.2)
  have V3 := hide (fun W (k : Below w.heap.size w W) => valid_q q3 A3 B3 a3 e3 W (kp' k sA3) (kp' k sB3) f3.1 f3.2)
  have C1 := hide (fun W (k : Below w.heap.size w W) => cmp_q q1 q2 A1 B1 A2 B2 a1 e1 a2 e2 W (kp' k sA1) (kp' k sB1) (kp' k sA2) (kp' k sB2) f1 f2 _ hk)
  have C2 := hide (fun W (k : Below w.heap.size w W) => cmp_q q2 q1 A2 B2 A1 B1 a2 e2 a1 e1 W (kp' k sA2) (kp' k sB2) (kp' k sA1) (kp' k sB1) f2 f1 _ k2)
  have SM := hide (fun W (k : Below w.heap.size w W) => same3_q q1 q2 A1 B1 A2 B2 a1 e1 a2 e2 W (kp' k sA1) (kp' k sB1) (kp' k sA2) (kp' k sB2) f1 f2 _ k6)
  have N1 := hide (fun W (k : Below w.heap.size w W) => neg_q q1 A1 B1 a1 e1 W (kp' k sA1) (kp' k sB1) f1)
  have N2 := hide (fun W (k : Below w.heap.size w W) => neg_q q2 A2 B2 a2 e2 W (kp' k sA2) (kp' k sB2) f2)
  obtain ⟨M1, hM1⟩ : ∃ x, -q1 = x := ⟨_, rfl⟩
  obtain ⟨M2, hM2⟩ : ∃ x, -q2 = x := ⟨_, rfl⟩
  have fm1 := fitq_neg f1
  have fm2 := fitq_neg f2
  rw [hM1] at N1 k3 fm1
  rw [hM2] at N2 k3 fm2
  have C3 := hide (fun P Q R S e f g h W (_ : Below w.heap.size w W) s1 s2 s3 s4 => cmp_q M1 M2 P Q R S e f g h W s1 s2 s3 s4 fm1 fm2 _ k3)
  have S1 := hide (fun W (k : Below w.heap.size w W) => add_q q1 q3 X hX A1 B1 A3 B3 a1 e1 a3 e3 W (kp' k sA1) (kp' k sB1) (kp' k sA3) (kp' k sB3) f1 f3 fx)
  have S2 := hide (fun W (k : Below w.heap.size w W) => add_q q2 q3 Y hY A2 B2 A3 B3 a2 e2 a3 e3 W (kp' k sA2) (kp' k sB2) (kp' k sA3) (kp' k sB3) f2 f3 fy)
  have P1 := hide (fun W (k : Below w.heap.size w W) => mul_q q1 q3 U hU A1 B1 A3 B3 a1 e1 a3 e3 W (kp' k sA1) (kp' k sB1) (kp' k sA3) (kp' k sB3) f1 f3 fu)
  have P2 := hide (fun W (k : Below w.heap.size w W) => mul_q q2 q3 V hV A2 B2 A3 B3 a2 e2 a3 e3 W (kp' k sA2) (kp' k sB2) (kp' k sA3) (kp' k sB3) f2 f3 fv)
  have TX := hide (fun W (k : Below w.heap.size w W) => text_q q1 A1 B1 a1 e1 W (kp' k sA1) (kp' k sB1) f1 (pow_below ht k) _ rfl)
  have PT := hide (fun W (_ : Below w.heap.size w W) => ptext_q q1 f1 W)
  generalize (⟨(textQ q1).toArray⟩ : ByteArray) = T at *
  have PT : Hid (∀ W, Below w.heap.size w W → Calls Tryz.prog 38 #[.string T] W (RQE W D)) := by rw [← hD]; exact PT
  have C4 := hide (fun P Q R S e f g h l W (kk : K5 w l W) (m1 : (P, qn X) ∈ l) (m2 : (Q, qd X) ∈ l) (m3 : (R, qn Y) ∈ l) (m4 : (S, qd Y) ∈ l) => cmp_q X Y P Q R S e f g h W (kk.sl m1) (kk.sl m2) (kk.sl m3) (kk.sl m4) fx fy _ k4)
  have C5 := hide (fun P Q R S e f g h l W (kk : K5 w l W) (m1 : (P, qn U) ∈ l) (m2 : (Q, qd U) ∈ l) (m3 : (R, qn V) ∈ l) (m4 : (S, qd V) ∈ l) => cmp_q U V P Q R S e f g h W (kk.sl m1) (kk.sl m2) (kk.sl m3) (kk.sl m4) fu fv _ k5)
  have SC := hide (fun W (k : Below w.heap.size w W) => sign_q q3 A3 B3 a3 e3 W (kp' k sA3) (kp' k sB3) f3 sg hsg)
  have SP := hide (fun P Q e f l W (kk : K5 w l W) (m1 : (P, qn D) ∈ l) (m2 : (Q, qd D) ∈ l) => same3_q D q1 P Q A1 B1 e f a1 e1 W (kk.sl m1) (kk.sl m2) (kp' kk.b sA1) (kp' kk.b sB1) fD f1 true (decide_eq_true hD.symm))
  have e0 : binOp .eql 27 (.int .i64 0) (.int .i64 0) = pure (.bool true) := rfl
  have o2 : ∀ W : World, (binOp .neq 4 (.bool true) (.bool true)).run Tryz.prog W = .ok (.bool false) W := fun _ => by kernel_rfl
  have o3 : binOp .neq 3 (.int .i64 (0)) (.int .i64 (0)) = pure (.bool false) := rfl
  have o3' : binOp .neq 3 (.int .i64 (0)) (.int .i64 (0)) = pure (.bool false) := rfl
  have o4 : IntKind.i64.wrap (-1) = -1 := rfl
  have o5 : IntKind.i64.wrap 1 = 1 := rfl
  have o6 : IntKind.i64.wrap 0 = 0 := rfl
  have o7 : binOp .eql 3 (.int .i64 (0)) (.int .i64 0) = pure (.bool true) := rfl
  have o8 : binOp .eql 3 (.int .i64 (0)) (.int .i64 (0)) = pure (.bool true) := rfl
  have o9 : binOp .mul 3 (.int .i64 (0)) (.int .i64 sg) = pure (.int .i64 m) := by
    rcases (show sg = -1 ∨ sg = 0 ∨ sg = 1 by omega) with rfl | rfl | rfl <;> (rw [← hm]; try rfl)
  have o10 := je3 3 m
  clear n1 n2 n3 f1 f2 f3 fx fy fu fv fD fm1 fm2 hX hY hU hV hD hM1 hM2 k2 k3 k4 k5 k6 hk hsg hm sgb g1 g2 g3 ht sA1 sB1 sA2 sB2 sA3 sB3
  generalize qs q1 = s1 at *
  generalize ln (qn q1) = i1 at *
  generalize ln (qd q1) = j1 at *
  generalize qs q2 = s2 at *
  generalize ln (qn q2) = i2 at *
  generalize ln (qd q2) = j2 at *
  generalize qs q3 = s3 at *
  generalize ln (qn q3) = i3 at *
  generalize ln (qd q3) = j3 at *
  have Xa := hide (((Q3.new (.bool s1) (.slice A1 i1 a1) (.slice B1 j1 e1) w ).al (.cells #[.bool s2, .slice A2 i2 a2, .slice B2 j2 e2] 24)).al (.cells #[.bool s3, .slice A3 i3 a3, .slice B3 j3 e3] 24))
  have Xb := hide ((Q3.new1 (.bool s2) (.slice A2 i2 a2) (.slice B2 j2 e2) w (.cells #[.bool s1, .slice A1 i1 a1, .slice B1 j1 e1] 24)).al (.cells #[.bool s3, .slice A3 i3 a3, .slice B3 j3 e3] 24))
  have Xc := hide (Q3.new2 (.bool s3) (.slice A3 i3 a3) (.slice B3 j3 e3) w (.cells #[.bool s1, .slice A1 i1 a1, .slice B1 j1 e1] 24) (.cells #[.bool s2, .slice A2 i2 a2, .slice B2 j2 e2] 24))
  have b0 : Below w.heap.size w (((w.alloc (.cells #[.bool s1, .slice A1 i1 a1, .slice B1 j1 e1] 24)).alloc (.cells #[.bool s2, .slice A2 i2 a2, .slice B2 j2 e2] 24)).alloc (.cells #[.bool s3, .slice A3 i3 a3, .slice B3 j3 e3] 24)) := (bl_al (bl_al (bl_al (.refl _ _) _) _) _)
  go_enter Tryz.func6, Tryz.ntmps6
  go_wp2_with (first
    | (go_at_call 13; (with_reducible refine (FW0.out _ b0).mono ?_); rintro e w1 ⟨rfl, hb⟩; have g := hb; have Xa := hide (Xa.out.next g); have Xb := hide (Xb.out.next g); have Xc := hide (Xc.out.next g); have b1 := bl_trans b0 g; obtain ⟨xac1, xac2, xac3, xac4, xac5, xac6⟩ := Xa.out; obtain ⟨xbc1, xbc2, xbc3, xbc4, xbc5, xbc6⟩ := Xb.out; obtain ⟨xcc1, xcc2, xcc3, xcc4, xcc5, xcc6⟩ := Xc.out; clear hb g)
    | (go_at_call 13; (with_reducible refine (FW1.out _ b1).mono ?_); rintro e w2 ⟨rfl, hb⟩; have g := hb; have Xa := hide (Xa.out.next g); have Xb := hide (Xb.out.next g); have Xc := hide (Xc.out.next g); have b2 := bl_trans b1 g; (try clear xac1 xac2 xac3 xac4 xac5 xac6); (try clear xbc1 xbc2 xbc3 xbc4 xbc5 xbc6); (try clear xcc1 xcc2 xcc3 xcc4 xcc5 xcc6); obtain ⟨xac1, xac2, xac3, xac4, xac5, xac6⟩ := Xa.out; obtain ⟨xbc1, xbc2, xbc3, xbc4, xbc5, xbc6⟩ := Xb.out; obtain ⟨xcc1, xcc2, xcc3, xcc4, xcc5, xcc6⟩ := Xc.out; clear hb g)
    | (go_at_call 30; (with_reducible refine (V1.out _ b2).mono ?_); rintro e w3 ⟨rfl, hb⟩; have g := hb; have Xa := hide (Xa.out.next g); have Xb := hide (Xb.out.next g); have Xc := hide (Xc.out.next g); have b3 := bl_trans b2 g; (try clear xac1 xac2 xac3 xac4 xac5 xac6); (try clear xbc1 xbc2 xbc3 xbc4 xbc5 xbc6); (try clear xcc1 xcc2 xcc3 xcc4 xcc5 xcc6); obtain ⟨xac1, xac2, xac3, xac4, xac5, xac6⟩ := Xa.out; obtain ⟨xbc1, xbc2, xbc3, xbc4, xbc5, xbc6⟩ := Xb.out; obtain ⟨xcc1, xcc2, xcc3, xcc4, xcc5, xcc6⟩ := Xc.out; clear hb g)
    | (go_at_call 30; (with_reducible refine (V2.out _ b3).mono ?_); rintro e w4 ⟨rfl, hb⟩; have g := hb; have Xa := hide (Xa.out.next g); have Xb := hide (Xb.out.next g); have Xc := hide (Xc.out.next g); have b4 := bl_trans b3 g; (try clear xac1 xac2 xac3 xac4 xac5 xac6); (try clear xbc1 xbc2 xbc3 xbc4 xbc5 xbc6); (try clear xcc1 xcc2 xcc3 xcc4 xcc5 xcc6); obtain ⟨xac1, xac2, xac3, xac4, xac5, xac6⟩ := Xa.out; obtain ⟨xbc1, xbc2, xbc3, xbc4, xbc5, xbc6⟩ := Xb.out; obtain ⟨xcc1, xcc2, xcc3, xcc4, xcc5, xcc6⟩ := Xc.out; clear hb g)
    | (go_at_call 30; (with_reducible refine (V3.out _ b4).mono ?_); rintro e w5 ⟨rfl, hb⟩; have g := hb; have Xa := hide (Xa.out.next g); have Xb := hide (Xb.out.next g); have Xc := hide (Xc.out.next g); have b5 := bl_trans b4 g; (try clear xac1 xac2 xac3 xac4 xac5 xac6); (try clear xbc1 xbc2 xbc3 xbc4 xbc5 xbc6); (try clear xcc1 xcc2 xcc3 xcc4 xcc5 xcc6); obtain ⟨xac1, xac2, xac3, xac4, xac5, xac6⟩ := Xa.out; obtain ⟨xbc1, xbc2, xbc3, xbc4, xbc5, xbc6⟩ := Xb.out; obtain ⟨xcc1, xcc2, xcc3, xcc4, xcc5, xcc6⟩ := Xc.out; clear hb g)
    | (go_at_call 24; (with_reducible refine (C1.out _ b5).mono ?_); rintro e w6 ⟨rfl, hb⟩; have g := hb; have Xa := hide (Xa.out.next g); have Xb := hide (Xb.out.next g); have Xc := hide (Xc.out.next g); have b6 := bl_trans b5 g; (try clear xac1 xac2 xac3 xac4 xac5 xac6); (try clear xbc1 xbc2 xbc3 xbc4 xbc5 xbc6); (try clear xcc1 xcc2 xcc3 xcc4 xcc5 xcc6); obtain ⟨xac1, xac2, xac3, xac4, xac5, xac6⟩ := Xa.out; obtain ⟨xbc1, xbc2, xbc3, xbc4, xbc5, xbc6⟩ := Xb.out; obtain ⟨xcc1, xcc2, xcc3, xcc4, xcc5, xcc6⟩ := Xc.out; clear hb g))
  have kz : Hid (KR w (w.heap.size) (w.heap.size + 1) (w.heap.size + 1 + 1) (.bool s1) (.slice A1 i1 a1) (.slice B1 j1 e1) (.bool s2) (.slice A2 i2 a2) (.slice B2 j2 e2) (.bool s3) (.slice A3 i3 a3) (.slice B3 j3 e3) w6) := hide ⟨b6, Xa.out, Xb.out, Xc.out⟩
  have kd := hide kz.out.drew
  clear Xa Xb Xc b0 b1 b2 b3 b4 b5 b6
  (try clear xcc1 xcc2 xcc3 xcc4 xcc5 xcc6)
  clear xac4 xac5 xac6 xbc4 xbc5 xbc6
  (try dsimp only [List.append])
  go_region_held3 (fun W => W.cell? ⟨w.heap.size, 0, none⟩ = some (.bool s1) ∧ W.cell? ⟨w.heap.size, 1, none⟩ = some (.slice A1 i1 a1) ∧ W.cell? ⟨w.heap.size, 2, none⟩ = some (.slice B1 j1 e1) ∧ W.cell? ⟨w.heap.size + 1, 0, none⟩ = some (.bool s2) ∧ W.cell? ⟨w.heap.size + 1, 1, none⟩ = some (.slice A2 i2 a2) ∧ W.cell? ⟨w.heap.size + 1, 2, none⟩ = some (.slice B2 j2 e2) ∧ KR w (w.heap.size) (w.heap.size + 1) (w.heap.size + 1 + 1) (.bool s1) (.slice A1 i1 a1) (.slice B1 j1 e1) (.bool s2) (.slice A2 i2 a2) (.slice B2 j2 e2) (.bool s3) (.slice A3 i3 a3) (.slice B3 j3 e3) W)
    (first | exact ⟨xac1, xac2, xac3, xbc1, xbc2, xbc3, kz.out⟩ | exact ⟨xac1, xac2, xac3, xbc1, xbc2, xbc3, kd.out⟩ | with_reducible exact SR_next hb (by assumption) | with_reducible assumption)
    (first
      | (go_at_call 24; (with_reducible refine (C2.out _ (KR.b (kr6 (by assumption)))).mono ?_); rintro e v1 ⟨rfl, hb⟩)
      | (go_at_call 23; (with_reducible refine (SM.out _ (KR.b (kr6 (by assumption)))).mono ?_); rintro e v2 ⟨rfl, hb⟩)
      | (go_at_call 28; (with_reducible refine (N1.out _ (KR.b (kr6 (by assumption)))).mono ?_); rintro e v3 ⟨Z1, p1, Z2, p2, rfl, y1, y2, hb⟩; (try have y3 := kp' hb y3; have y4 := kp' hb y4))
      | (go_at_call 28; (with_reducible refine (N2.out _ (KR.b (kr6 (by assumption)))).mono ?_); rintro e v4 ⟨Z3, p3, Z4, p4, rfl, y3, y4, hb⟩; (try have y1 := kp' hb y1; have y2 := kp' hb y2))
      | (go_at_call 24; (with_reducible refine (C3.out Z1 Z2 Z3 Z4 p1 p2 p3 p4 _ (KR.b (kr6 (by assumption))) y1 y2 y3 y4).mono ?_); rintro e v5 ⟨rfl, hb⟩))
  rename_i hS
  have kk := hide (kr6 hS)
  clear hS
  have b10 := kk.out.1
  have Xa := hide kk.out.2.1
  have Xb := hide kk.out.2.2.1
  have Xc := hide kk.out.2.2.2
  obtain ⟨xac1, xac2, xac3, xac4, xac5, xac6⟩ := Xa.out
  obtain ⟨xbc1, xbc2, xbc3, xbc4, xbc5, xbc6⟩ := Xb.out
  obtain ⟨xcc1, xcc2, xcc3, xcc4, xcc5, xcc6⟩ := Xc.out
  clear kz kd kk
  go_wp2_with (first
    | (go_at_call 15; (with_reducible refine (S1.out _ b10).mono ?_); rintro e w11 ⟨A11, c11, B11, d11, rfl, s11, t11, hb⟩; have g := hb; have Xa := hide (Xa.out.next g); have Xb := hide (Xb.out.next g); have Xc := hide (Xc.out.next g); have b11 := bl_trans b10 g; (try clear xac1 xac2 xac3 xac4 xac5 xac6); (try clear xbc1 xbc2 xbc3 xbc4 xbc5 xbc6); (try clear xcc1 xcc2 xcc3 xcc4 xcc5 xcc6); obtain ⟨xac1, xac2, xac3, xac4, xac5, xac6⟩ := Xa.out; obtain ⟨xbc1, xbc2, xbc3, xbc4, xbc5, xbc6⟩ := Xb.out; obtain ⟨xcc1, xcc2, xcc3, xcc4, xcc5, xcc6⟩ := Xc.out; have xad1 := fun X => (Xa.out.al X).1; have xad2 := fun X => (Xa.out.al X).2.1; have xad3 := fun X => (Xa.out.al X).2.2.1; have xbd1 := fun X => (Xb.out.al X).1; have xbd2 := fun X => (Xb.out.al X).2.1; have xbd3 := fun X => (Xb.out.al X).2.2.1; have xcd1 := fun X => (Xc.out.al X).1; have xcd2 := fun X => (Xc.out.al X).2.1; have xcd3 := fun X => (Xc.out.al X).2.2.1; clear hb g)
    | (go_at_call 15; (with_reducible refine (S2.out _ (bl_al b11 _)).mono ?_); rintro e w12 ⟨A12, c12, B12, d12, rfl, s12, t12, hb⟩; have g := (bl_one hb); have Y1 := hide ((Q3.new (.bool (qs X)) (.slice A11 (ln (qn X)) c11) (.slice B11 (ln (qd X)) d11) w11).next hb); have s11 := kp' g s11; have t11 := kp' g t11; have Xa := hide (Xa.out.next g); have Xb := hide (Xb.out.next g); have Xc := hide (Xc.out.next g); have b12 := bl_trans b11 g; clear xad1 xad2 xad3 xbd1 xbd2 xbd3 xcd1 xcd2 xcd3; (try clear xac1 xac2 xac3 xac4 xac5 xac6); (try clear xbc1 xbc2 xbc3 xbc4 xbc5 xbc6); (try clear xcc1 xcc2 xcc3 xcc4 xcc5 xcc6); obtain ⟨xac1, xac2, xac3, xac4, xac5, xac6⟩ := Xa.out; obtain ⟨xbc1, xbc2, xbc3, xbc4, xbc5, xbc6⟩ := Xb.out; obtain ⟨xcc1, xcc2, xcc3, xcc4, xcc5, xcc6⟩ := Xc.out; have xad1 := fun X => (Xa.out.al X).1; have xad2 := fun X => (Xa.out.al X).2.1; have xad3 := fun X => (Xa.out.al X).2.2.1; have xbd1 := fun X => (Xb.out.al X).1; have xbd2 := fun X => (Xb.out.al X).2.1; have xbd3 := fun X => (Xb.out.al X).2.2.1; have xcd1 := fun X => (Xc.out.al X).1; have xcd2 := fun X => (Xc.out.al X).2.1; have xcd3 := fun X => (Xc.out.al X).2.2.1; clear hb g)
    | (go_at_call 19; (with_reducible refine (P1.out _ (bl_al b12 _)).mono ?_); rintro e w13 ⟨A13, c13, B13, d13, rfl, s13, t13, hb⟩; have g := (bl_one hb); have Y2 := hide ((Q3.new (.bool (qs Y)) (.slice A12 (ln (qn Y)) c12) (.slice B12 (ln (qd Y)) d12) w12).next hb); have s11 := kp' g s11; have t11 := kp' g t11; have s12 := kp' g s12; have t12 := kp' g t12; have Xa := hide (Xa.out.next g); have Xb := hide (Xb.out.next g); have Xc := hide (Xc.out.next g); have Y1 := hide (Y1.out.next g); have b13 := bl_trans b12 g; clear xad1 xad2 xad3 xbd1 xbd2 xbd3 xcd1 xcd2 xcd3; (try clear xac1 xac2 xac3 xac4 xac5 xac6); (try clear xbc1 xbc2 xbc3 xbc4 xbc5 xbc6); (try clear xcc1 xcc2 xcc3 xcc4 xcc5 xcc6); obtain ⟨xac1, xac2, xac3, xac4, xac5, xac6⟩ := Xa.out; obtain ⟨xbc1, xbc2, xbc3, xbc4, xbc5, xbc6⟩ := Xb.out; obtain ⟨xcc1, xcc2, xcc3, xcc4, xcc5, xcc6⟩ := Xc.out; have xad1 := fun X => (Xa.out.al X).1; have xad2 := fun X => (Xa.out.al X).2.1; have xad3 := fun X => (Xa.out.al X).2.2.1; have xbd1 := fun X => (Xb.out.al X).1; have xbd2 := fun X => (Xb.out.al X).2.1; have xbd3 := fun X => (Xb.out.al X).2.2.1; have xcd1 := fun X => (Xc.out.al X).1; have xcd2 := fun X => (Xc.out.al X).2.1; have xcd3 := fun X => (Xc.out.al X).2.2.1; clear hb g)
    | (go_at_call 19; (with_reducible refine (P2.out _ (bl_al b13 _)).mono ?_); rintro e w14 ⟨A14, c14, B14, d14, rfl, s14, t14, hb⟩; have g := (bl_one hb); have Y3 := hide ((Q3.new (.bool (qs U)) (.slice A13 (ln (qn U)) c13) (.slice B13 (ln (qd U)) d13) w13).next hb); have s11 := kp' g s11; have t11 := kp' g t11; have s12 := kp' g s12; have t12 := kp' g t12; have s13 := kp' g s13; have t13 := kp' g t13; have Xa := hide (Xa.out.next g); have Xb := hide (Xb.out.next g); have Xc := hide (Xc.out.next g); have Y1 := hide (Y1.out.next g); have Y2 := hide (Y2.out.next g); have b14 := bl_trans b13 g; clear xad1 xad2 xad3 xbd1 xbd2 xbd3 xcd1 xcd2 xcd3; (try clear xac1 xac2 xac3 xac4 xac5 xac6); (try clear xbc1 xbc2 xbc3 xbc4 xbc5 xbc6); (try clear xcc1 xcc2 xcc3 xcc4 xcc5 xcc6); obtain ⟨xac1, xac2, xac3, xac4, xac5, xac6⟩ := Xa.out; obtain ⟨xbc1, xbc2, xbc3, xbc4, xbc5, xbc6⟩ := Xb.out; obtain ⟨xcc1, xcc2, xcc3, xcc4, xcc5, xcc6⟩ := Xc.out; have xad1 := fun X => (Xa.out.al X).1; have xad2 := fun X => (Xa.out.al X).2.1; have xad3 := fun X => (Xa.out.al X).2.2.1; have xbd1 := fun X => (Xb.out.al X).1; have xbd2 := fun X => (Xb.out.al X).2.1; have xbd3 := fun X => (Xb.out.al X).2.2.1; have xcd1 := fun X => (Xc.out.al X).1; have xcd2 := fun X => (Xc.out.al X).2.1; have xcd3 := fun X => (Xc.out.al X).2.2.1; clear hb g)
    | (go_at_call 39; (with_reducible refine (TX.out _ (bl_al b14 _)).mono ?_); rintro e w15 ⟨rfl, hb⟩; have g := (bl_one hb); have Y4 := hide ((Q3.new (.bool (qs V)) (.slice A14 (ln (qn V)) c14) (.slice B14 (ln (qd V)) d14) w14).next hb); have s11 := kp' g s11; have t11 := kp' g t11; have s12 := kp' g s12; have t12 := kp' g t12; have s13 := kp' g s13; have t13 := kp' g t13; have s14 := kp' g s14; have t14 := kp' g t14; have Xa := hide (Xa.out.next g); have Xb := hide (Xb.out.next g); have Xc := hide (Xc.out.next g); have Y1 := hide (Y1.out.next g); have Y2 := hide (Y2.out.next g); have Y3 := hide (Y3.out.next g); have b15 := bl_trans b14 g; clear xad1 xad2 xad3 xbd1 xbd2 xbd3 xcd1 xcd2 xcd3; (try clear xac1 xac2 xac3 xac4 xac5 xac6); (try clear xbc1 xbc2 xbc3 xbc4 xbc5 xbc6); (try clear xcc1 xcc2 xcc3 xcc4 xcc5 xcc6); obtain ⟨xac1, xac2, xac3, xac4, xac5, xac6⟩ := Xa.out; obtain ⟨xbc1, xbc2, xbc3, xbc4, xbc5, xbc6⟩ := Xb.out; obtain ⟨xcc1, xcc2, xcc3, xcc4, xcc5, xcc6⟩ := Xc.out; clear hb g)
    | (go_at_call 38; (with_reducible refine (PT.out _ b15).mono ?_); rintro e w16 ⟨A16, c16, B16, d16, rfl, s16, t16, hb⟩; have g := hb; have s11 := kp' g s11; have t11 := kp' g t11; have s12 := kp' g s12; have t12 := kp' g t12; have s13 := kp' g s13; have t13 := kp' g t13; have s14 := kp' g s14; have t14 := kp' g t14; have Xa := hide (Xa.out.next g); have Xb := hide (Xb.out.next g); have Xc := hide (Xc.out.next g); have Y1 := hide (Y1.out.next g); have Y2 := hide (Y2.out.next g); have Y3 := hide (Y3.out.next g); have Y4 := hide (Y4.out.next g); have b16 := bl_trans b15 g; (try clear xac1 xac2 xac3 xac4 xac5 xac6); (try clear xbc1 xbc2 xbc3 xbc4 xbc5 xbc6); (try clear xcc1 xcc2 xcc3 xcc4 xcc5 xcc6); obtain ⟨xac1, xac2, xac3, xac4, xac5, xac6⟩ := Xa.out; obtain ⟨xbc1, xbc2, xbc3, xbc4, xbc5, xbc6⟩ := Xb.out; obtain ⟨xcc1, xcc2, xcc3, xcc4, xcc5, xcc6⟩ := Xc.out; clear hb g))
  have kz : Hid (K5 w [(A11, qn X), (B11, qd X), (A12, qn Y), (B12, qd Y), (A13, qn U), (B13, qd U), (A14, qn V), (B14, qd V), (A16, qn D), (B16, qd D)] (w16.alloc (.cells #[.bool (qs D), .slice A16 (ln (qn D)) c16, .slice B16 (ln (qd D)) d16] 24))) := hide (K5.cons (K5.cons (K5.cons (K5.cons (K5.cons (K5.cons (K5.cons (K5.cons (K5.cons (K5.cons (K5.nil (bl_al b16 (.cells #[.bool (qs D), .slice A16 (ln (qn D)) c16, .slice B16 (ln (qd D)) d16] 24))) (t16.alloc (.cells #[.bool (qs D), .slice A16 (ln (qn D)) c16, .slice B16 (ln (qd D)) d16] 24))) (s16.alloc (.cells #[.bool (qs D), .slice A16 (ln (qn D)) c16, .slice B16 (ln (qd D)) d16] 24))) (t14.alloc (.cells #[.bool (qs D), .slice A16 (ln (qn D)) c16, .slice B16 (ln (qd D)) d16] 24))) (s14.alloc (.cells #[.bool (qs D), .slice A16 (ln (qn D)) c16, .slice B16 (ln (qd D)) d16] 24))) (t13.alloc (.cells #[.bool (qs D), .slice A16 (ln (qn D)) c16, .slice B16 (ln (qd D)) d16] 24))) (s13.alloc (.cells #[.bool (qs D), .slice A16 (ln (qn D)) c16, .slice B16 (ln (qd D)) d16] 24))) (t12.alloc (.cells #[.bool (qs D), .slice A16 (ln (qn D)) c16, .slice B16 (ln (qd D)) d16] 24))) (s12.alloc (.cells #[.bool (qs D), .slice A16 (ln (qn D)) c16, .slice B16 (ln (qd D)) d16] 24))) (t11.alloc (.cells #[.bool (qs D), .slice A16 (ln (qn D)) c16, .slice B16 (ln (qd D)) d16] 24))) (s11.alloc (.cells #[.bool (qs D), .slice A16 (ln (qn D)) c16, .slice B16 (ln (qd D)) d16] 24)))
  have kd := hide kz.out.drew
  have Y1 := hide (Y1.out.al (.cells #[.bool (qs D), .slice A16 (ln (qn D)) c16, .slice B16 (ln (qd D)) d16] 24))
  have Y2 := hide (Y2.out.al (.cells #[.bool (qs D), .slice A16 (ln (qn D)) c16, .slice B16 (ln (qd D)) d16] 24))
  have Y3 := hide (Y3.out.al (.cells #[.bool (qs D), .slice A16 (ln (qn D)) c16, .slice B16 (ln (qd D)) d16] 24))
  have Y4 := hide (Y4.out.al (.cells #[.bool (qs D), .slice A16 (ln (qn D)) c16, .slice B16 (ln (qd D)) d16] 24))
  have Xc := hide (Xc.out.al (.cells #[.bool (qs D), .slice A16 (ln (qn D)) c16, .slice B16 (ln (qd D)) d16] 24))
  have Xa := hide (Xa.out.al (.cells #[.bool (qs D), .slice A16 (ln (qn D)) c16, .slice B16 (ln (qd D)) d16] 24))
  have Y5 := hide (Q3.new (.bool (qs D)) (.slice A16 (ln (qn D)) c16) (.slice B16 (ln (qd D)) d16) w16)
  clear s11 t11 b11 s12 t12 b12 s13 t13 b13 s14 t14 b14 s16 t16 b16
  (try clear xac1 xac2 xac3 xac4 xac5 xac6 xbc1 xbc2 xbc3 xbc4 xbc5 xbc6 xcc1 xcc2 xcc3 xcc4 xcc5 xcc6)
  (try dsimp only [List.append])
  go_region_held3 (fun W => W.cell? ⟨w11.heap.size, 0, none⟩ = some (.bool (qs X)) ∧ W.cell? ⟨w11.heap.size, 1, none⟩ = some (.slice A11 (ln (qn X)) c11) ∧ W.cell? ⟨w11.heap.size, 2, none⟩ = some (.slice B11 (ln (qd X)) d11) ∧ W.cell? ⟨w12.heap.size, 0, none⟩ = some (.bool (qs Y)) ∧ W.cell? ⟨w12.heap.size, 1, none⟩ = some (.slice A12 (ln (qn Y)) c12) ∧ W.cell? ⟨w12.heap.size, 2, none⟩ = some (.slice B12 (ln (qd Y)) d12) ∧ W.cell? ⟨w13.heap.size, 0, none⟩ = some (.bool (qs U)) ∧ W.cell? ⟨w13.heap.size, 1, none⟩ = some (.slice A13 (ln (qn U)) c13) ∧ W.cell? ⟨w13.heap.size, 2, none⟩ = some (.slice B13 (ln (qd U)) d13) ∧ W.cell? ⟨w14.heap.size, 0, none⟩ = some (.bool (qs V)) ∧ W.cell? ⟨w14.heap.size, 1, none⟩ = some (.slice A14 (ln (qn V)) c14) ∧ W.cell? ⟨w14.heap.size, 2, none⟩ = some (.slice B14 (ln (qd V)) d14) ∧ W.cell? ⟨w.heap.size + 1 + 1, 0, none⟩ = some (.bool s3) ∧ W.cell? ⟨w.heap.size + 1 + 1, 1, none⟩ = some (.slice A3 i3 a3) ∧ W.cell? ⟨w.heap.size + 1 + 1, 2, none⟩ = some (.slice B3 j3 e3) ∧ W.cell? ⟨w16.heap.size, 0, none⟩ = some (.bool (qs D)) ∧ W.cell? ⟨w16.heap.size, 1, none⟩ = some (.slice A16 (ln (qn D)) c16) ∧ W.cell? ⟨w16.heap.size, 2, none⟩ = some (.slice B16 (ln (qd D)) d16) ∧ W.cell? ⟨w.heap.size, 0, none⟩ = some (.bool s1) ∧ W.cell? ⟨w.heap.size, 1, none⟩ = some (.slice A1 i1 a1) ∧ W.cell? ⟨w.heap.size, 2, none⟩ = some (.slice B1 j1 e1) ∧ K5 w [(A11, qn X), (B11, qd X), (A12, qn Y), (B12, qd Y), (A13, qn U), (B13, qd U), (A14, qn V), (B14, qd V), (A16, qn D), (B16, qd D)] W)
    (first | exact ⟨Y1.out.1, Y1.out.2.1, Y1.out.2.2.1, Y2.out.1, Y2.out.2.1, Y2.out.2.2.1, Y3.out.1, Y3.out.2.1, Y3.out.2.2.1, Y4.out.1, Y4.out.2.1, Y4.out.2.2.1, Xc.out.1, Xc.out.2.1, Xc.out.2.2.1, Y5.out.1, Y5.out.2.1, Y5.out.2.2.1, Xa.out.1, Xa.out.2.1, Xa.out.2.2.1, kz.out⟩ | exact ⟨Y1.out.1, Y1.out.2.1, Y1.out.2.2.1, Y2.out.1, Y2.out.2.1, Y2.out.2.2.1, Y3.out.1, Y3.out.2.1, Y3.out.2.2.1, Y4.out.1, Y4.out.2.1, Y4.out.2.2.1, Xc.out.1, Xc.out.2.1, Xc.out.2.2.1, Y5.out.1, Y5.out.2.1, Y5.out.2.2.1, Xa.out.1, Xa.out.2.1, Xa.out.2.2.1, kd.out⟩ | with_reducible exact S21_next hb (by assumption) | with_reducible assumption)
    (first
      | (go_at_call 24; (with_reducible refine (C4.out A11 B11 A12 B12 c11 d11 c12 d12 _ _ (k21 (by assumption)) mem1 mem2 mem3 mem4).mono ?_); rintro e v1 ⟨rfl, hb⟩)
      | (go_at_call 24; (with_reducible refine (C5.out A13 B13 A14 B14 c13 d13 c14 d14 _ _ (k21 (by assumption)) mem5 mem6 mem7 mem8).mono ?_); rintro e v2 ⟨rfl, hb⟩)
      | (go_at_call 26; (with_reducible refine (SC.out _ (K5.b (k21 (by assumption)))).mono ?_); rintro e v3 ⟨rfl, hb⟩)
      | (go_at_call 23; (with_reducible refine (SP.out A16 B16 c16 d16 _ _ (k21 (by assumption)) mem9 mem10).mono ?_); rintro e v4 ⟨rfl, hb⟩)
      | (go_at_call 14; (with_reducible refine (AW.out _ (K5.b (k21 (by assumption)))).mono ?_); rintro e v5 ⟨rfl, hb⟩))
  all_goals
    go_wp2
    go_ret
    exact ⟨rfl, K5.b (k21 (by assumption))⟩

set_option maxRecDepth 100000 in
set_option maxHeartbeats 16000000 in
theorem rorder_gt (q1 q2 q3 : Rat) (A1 B1 A2 B2 A3 B3 : Option Addr) (a1 e1 a2 e2 a3 e3 : Nat) (w : World) (sA1 : Sl w A1 (digs (qn q1))) (sB1 : Sl w B1 (digs (qd q1))) (sA2 : Sl w A2 (digs (qn q2))) (sB2 : Sl w B2 (digs (qd q2))) (sA3 : Sl w A3 (digs (qn q3))) (sB3 : Sl w B3 (digs (qd q3))) (g1 : ln (qn q1) ≤ 10 ∧ ln (qd q1) ≤ 10) (g2 : ln (qn q2) ≤ 10 ∧ ln (qd q2) ≤ 10) (g3 : ln (qn q3) ≤ 10 ∧ ln (qd q3) ≤ 10) (ht : Pow10 w) (hk : cmpQ q1 q2 = (1)) :
    Calls Tryz.prog 6 #[.agg #[.bool (qs q1), .slice A1 (ln (qn q1)) a1, .slice B1 (ln (qd q1)) e1], .agg #[.bool (qs q2), .slice A2 (ln (qn q2)) a2, .slice B2 (ln (qd q2)) e2], .agg #[.bool (qs q3), .slice A3 (ln (qn q3)) a3, .slice B3 (ln (qd q3)) e3]] w fun e w' => e = .returned (.bool true) ∧ Below w.heap.size w w' := by
  have AW := hide (fun W (k : Below w.heap.size w W) => awake3_any W (pow_below ht k))
  have f1 : fitq q1 := ⟨by omega, by omega⟩
  have f2 : fitq q2 := ⟨by omega, by omega⟩
  have f3 : fitq q3 := ⟨by omega, by omega⟩
  have n1 : bnd 10 q1 := ⟨lt_of_ln g1.1, lt_of_ln g1.2⟩
  have n2 : bnd 10 q2 := ⟨lt_of_ln g2.1, lt_of_ln g2.2⟩
  have n3 : bnd 10 q3 := ⟨lt_of_ln g3.1, lt_of_ln g3.2⟩
  have fx : fitq (q1 + q3) := fitq_bnd (bnd_add n1 n3) (by decide)
  have fy : fitq (q2 + q3) := fitq_bnd (bnd_add n2 n3) (by decide)
  have fu : fitq (q1 * q3) := fitq_bnd (bnd_mul n1 n3) (by decide)
  have fv : fitq (q2 * q3) := fitq_bnd (bnd_mul n2 n3) (by decide)
  have k2 : cmpQ q2 q1 = (-1) := by rw [cmpQ_anti, hk]; try rfl
  have k3 : cmpQ (-q1) (-q2) = (-1) := by rw [cmpQ_neg]; exact k2
  have k4 : cmpQ (q1 + q3) (q2 + q3) = (1) := by rw [cmpQ_add]; exact hk
  have k5 := cmpQ_mul q1 q2 q3
  rw [hk] at k5
  have k6 : decide (q1 = q2) = false := by rw [cmpQ_eq, hk]; rfl
  obtain ⟨sg, hsg⟩ : ∃ x, cmpZ q3.num 0 = x := ⟨_, rfl⟩
  have sgb : -1 ≤ sg ∧ sg ≤ 1 := by rw [← hsg]; exact cmpZ_le _ _
  rw [hsg] at k5
  obtain ⟨m, hm⟩ : ∃ x, (1) * sg = x := ⟨_, rfl⟩
  rw [hm] at k5
  obtain ⟨X, hX⟩ : ∃ x, q1 + q3 = x := ⟨_, rfl⟩
  obtain ⟨Y, hY⟩ : ∃ x, q2 + q3 = x := ⟨_, rfl⟩
  obtain ⟨U, hU⟩ : ∃ x, q1 * q3 = x := ⟨_, rfl⟩
  obtain ⟨V, hV⟩ : ∃ x, q2 * q3 = x := ⟨_, rfl⟩
  obtain ⟨D, hD⟩ : ∃ x, q1 = x := ⟨_, rfl⟩
  have fD : fitq D := by rw [← hD]; exact f1
  rw [hX] at fx k4
  rw [hY] at fy k4
  rw [hU] at fu k5
  rw [hV] at fv k5
  have FW0 := hide (fun W (_ : Below w.heap.size w W) => few_any (qs q1) (qs q2) A1 B1 A2 B2 a1 e1 a2 e2 (ln (qn q1)) (ln (qd q1)) (ln (qn q2)) (ln (qd q2)) W true (decide_eq_true ⟨g1.1, g1.2, g2.1, g2.2⟩))
  have FW1 := hide (fun W (_ : Below w.heap.size w W) => few_any (qs q3) (qs q3) A3 B3 A3 B3 a3 e3 a3 e3 (ln (qn q3)) (ln (qd q3)) (ln (qn q3)) (ln (qd q3)) W true (decide_eq_true ⟨g3.1, g3.2, g3.1, g3.2⟩))
  have V1 := hide (fun W (k : Below w.heap.size w W) => valid_q q1 A1 B1 a1 e1 W (kp' k sA1) (kp' k sB1) f1.1 f1.2)
  have V2 := hide (fun W (k : Below w.heap.size w W) => valid_q q2 A2 B2 a2 e2 W (kp' k sA2) (kp' k sB2) f2.1 f2.2)
  have V3 := hide (fun W (k : Below w.heap.size w W) => valid_q q3 A3 B3 a3 e3 W (kp' k sA3) (kp' k sB3) f3.1 f3.2)
  have C1 := hide (fun W (k : Below w.heap.size w W) => cmp_q q1 q2 A1 B1 A2 B2 a1 e1 a2 e2 W (kp' k sA1) (kp' k sB1) (kp' k sA2) (kp' k sB2) f1 f2 _ hk)
  have C2 := hide (fun W (k : Below w.heap.size w W) => cmp_q q2 q1 A2 B2 A1 B1 a2 e2 a1 e1 W (kp' k sA2) (kp' k sB2) (kp' k sA1) (kp' k sB1) f2 f1 _ k2)
  have SM := hide (fun W (k : Below w.heap.size w W) => same3_q q1 q2 A1 B1 A2 B2 a1 e1 a2 e2 W (kp' k sA1) (kp' k sB1) (kp' k sA2) (kp' k sB2) f1 f2 _ k6)
  have N1 := hide (fun W (k : Below w.heap.size w W) => neg_q q1 A1 B1 a1 e1 W (kp' k sA1) (kp' k sB1) f1)
  have N2 := hide (fun W (k : Below w.heap.size w W) => neg_q q2 A2 B2 a2 e2 W (kp' k sA2) (kp' k sB2) f2)
  obtain ⟨M1, hM1⟩ : ∃ x, -q1 = x := ⟨_, rfl⟩
  obtain ⟨M2, hM2⟩ : ∃ x, -q2 = x := ⟨_, rfl⟩
  have fm1 := fitq_neg f1
  have fm2 := fitq_neg f2
  rw [hM1] at N1 k3 fm1
  rw [hM2] at N2 k3 fm2
  have C3 := hide (fun P Q R S e f g h W (_ : Below w.heap.size w W) s1 s2 s3 s4 => cmp_q M1 M2 P Q R S e f g h W s1 s2 s3 s4 fm1 fm2 _ k3)
  have S1 := hide (fun W (k : Below w.heap.size w W) => add_q q1 q3 X hX A1 B1 A3 B3 a1 e1 a3 e3 W (kp' k sA1) (kp' k sB1) (kp' k sA3) (kp' k sB3) f1 f3 fx)
  have S2 := hide (fun W (k : Below w.heap.size w W) => add_q q2 q3 Y hY A2 B2 A3 B3 a2 e2 a3 e3 W (kp' k sA2) (kp' k sB2) (kp' k sA3) (kp' k sB3) f2 f3 fy)
  have P1 := hide (fun W (k : Below w.heap.size w W) => mul_q q1 q3 U hU A1 B1 A3 B3 a1 e1 a3 e3 W (kp' k sA1) (kp' k sB1) (kp' k sA3) (kp' k sB3) f1 f3 fu)
  have P2 := hide (fun W (k : Below w.heap.size w W) => mul_q q2 q3 V hV A2 B2 A3 B3 a2 e2 a3 e3 W (kp' k sA2) (kp' k sB2) (kp' k sA3) (kp' k sB3) f2 f3 fv)
  have TX := hide (fun W (k : Below w.heap.size w W) => text_q q1 A1 B1 a1 e1 W (kp' k sA1) (kp' k sB1) f1 (pow_below ht k) _ rfl)
  have PT := hide (fun W (_ : Below w.heap.size w W) => ptext_q q1 f1 W)
  generalize (⟨(textQ q1).toArray⟩ : ByteArray) = T at *
  have PT : Hid (∀ W, Below w.heap.size w W → Calls Tryz.prog 38 #[.string T] W (RQE W D)) := by rw [← hD]; exact PT
  have C4 := hide (fun P Q R S e f g h l W (kk : K5 w l W) (m1 : (P, qn X) ∈ l) (m2 : (Q, qd X) ∈ l) (m3 : (R, qn Y) ∈ l) (m4 : (S, qd Y) ∈ l) => cmp_q X Y P Q R S e f g h W (kk.sl m1) (kk.sl m2) (kk.sl m3) (kk.sl m4) fx fy _ k4)
  have C5 := hide (fun P Q R S e f g h l W (kk : K5 w l W) (m1 : (P, qn U) ∈ l) (m2 : (Q, qd U) ∈ l) (m3 : (R, qn V) ∈ l) (m4 : (S, qd V) ∈ l) => cmp_q U V P Q R S e f g h W (kk.sl m1) (kk.sl m2) (kk.sl m3) (kk.sl m4) fu fv _ k5)
  have SC := hide (fun W (k : Below w.heap.size w W) => sign_q q3 A3 B3 a3 e3 W (kp' k sA3) (kp' k sB3) f3 sg hsg)
  have SP := hide (fun P Q e f l W (kk : K5 w l W) (m1 : (P, qn D) ∈ l) (m2 : (Q, qd D) ∈ l) => same3_q D q1 P Q A1 B1 e f a1 e1 W (kk.sl m1) (kk.sl m2) (kp' kk.b sA1) (kp' kk.b sB1) fD f1 true (decide_eq_true hD.symm))
  have e0 : binOp .eql 27 (.int .i64 0) (.int .i64 0) = pure (.bool true) := rfl
  have o2 : ∀ W : World, (binOp .neq 4 (.bool false) (.bool false)).run Tryz.prog W = .ok (.bool false) W := fun _ => by kernel_rfl
  have o3 : binOp .neq 3 (.int .i64 (1)) (.int .i64 (1)) = pure (.bool false) := rfl
  have o3' : binOp .neq 3 (.int .i64 (-1)) (.int .i64 (-1)) = pure (.bool false) := rfl
  have o4 : IntKind.i64.wrap (-1) = -1 := rfl
  have o5 : IntKind.i64.wrap 1 = 1 := rfl
  have o6 : IntKind.i64.wrap 0 = 0 := rfl
  have o7 : binOp .eql 3 (.int .i64 (1)) (.int .i64 0) = pure (.bool false) := rfl
  have o8 : binOp .eql 3 (.int .i64 (1)) (.int .i64 (1)) = pure (.bool true) := rfl
  have o9 : binOp .mul 3 (.int .i64 (1)) (.int .i64 sg) = pure (.int .i64 m) := by
    rcases (show sg = -1 ∨ sg = 0 ∨ sg = 1 by omega) with rfl | rfl | rfl <;> (rw [← hm]; try rfl)
  have o10 := je3 3 m
  clear n1 n2 n3 f1 f2 f3 fx fy fu fv fD fm1 fm2 hX hY hU hV hD hM1 hM2 k2 k3 k4 k5 k6 hk hsg hm sgb g1 g2 g3 ht sA1 sB1 sA2 sB2 sA3 sB3
  generalize qs q1 = s1 at *
  generalize ln (qn q1) = i1 at *
  generalize ln (qd q1) = j1 at *
  generalize qs q2 = s2 at *
  generalize ln (qn q2) = i2 at *
  generalize ln (qd q2) = j2 at *
  generalize qs q3 = s3 at *
  generalize ln (qn q3) = i3 at *
  generalize ln (qd q3) = j3 at *
  have Xa := hide (((Q3.new (.bool s1) (.slice A1 i1 a1) (.slice B1 j1 e1) w ).al (.cells #[.bool s2, .slice A2 i2 a2, .slice B2 j2 e2] 24)).al (.cells #[.bool s3, .slice A3 i3 a3, .slice B3 j3 e3] 24))
  have Xb := hide ((Q3.new1 (.bool s2) (.slice A2 i2 a2) (.slice B2 j2 e2) w (.cells #[.bool s1, .slice A1 i1 a1, .slice B1 j1 e1] 24)).al (.cells #[.bool s3, .slice A3 i3 a3, .slice B3 j3 e3] 24))
  have Xc := hide (Q3.new2 (.bool s3) (.slice A3 i3 a3) (.slice B3 j3 e3) w (.cells #[.bool s1, .slice A1 i1 a1, .slice B1 j1 e1] 24) (.cells #[.bool s2, .slice A2 i2 a2, .slice B2 j2 e2] 24))
  have b0 : Below w.heap.size w (((w.alloc (.cells #[.bool s1, .slice A1 i1 a1, .slice B1 j1 e1] 24)).alloc (.cells #[.bool s2, .slice A2 i2 a2, .slice B2 j2 e2] 24)).alloc (.cells #[.bool s3, .slice A3 i3 a3, .slice B3 j3 e3] 24)) := (bl_al (bl_al (bl_al (.refl _ _) _) _) _)
  go_enter Tryz.func6, Tryz.ntmps6
  go_wp2_with (first
    | (go_at_call 13; (with_reducible refine (FW0.out _ b0).mono ?_); rintro e w1 ⟨rfl, hb⟩; have g := hb; have Xa := hide (Xa.out.next g); have Xb := hide (Xb.out.next g); have Xc := hide (Xc.out.next g); have b1 := bl_trans b0 g; obtain ⟨xac1, xac2, xac3, xac4, xac5, xac6⟩ := Xa.out; obtain ⟨xbc1, xbc2, xbc3, xbc4, xbc5, xbc6⟩ := Xb.out; obtain ⟨xcc1, xcc2, xcc3, xcc4, xcc5, xcc6⟩ := Xc.out; clear hb g)
    | (go_at_call 13; (with_reducible refine (FW1.out _ b1).mono ?_); rintro e w2 ⟨rfl, hb⟩; have g := hb; have Xa := hide (Xa.out.next g); have Xb := hide (Xb.out.next g); have Xc := hide (Xc.out.next g); have b2 := bl_trans b1 g; (try clear xac1 xac2 xac3 xac4 xac5 xac6); (try clear xbc1 xbc2 xbc3 xbc4 xbc5 xbc6); (try clear xcc1 xcc2 xcc3 xcc4 xcc5 xcc6); obtain ⟨xac1, xac2, xac3, xac4, xac5, xac6⟩ := Xa.out; obtain ⟨xbc1, xbc2, xbc3, xbc4, xbc5, xbc6⟩ := Xb.out; obtain ⟨xcc1, xcc2, xcc3, xcc4, xcc5, xcc6⟩ := Xc.out; clear hb g)
    | (go_at_call 30; (with_reducible refine (V1.out _ b2).mono ?_); rintro e w3 ⟨rfl, hb⟩; have g := hb; have Xa := hide (Xa.out.next g); have Xb := hide (Xb.out.next g); have Xc := hide (Xc.out.next g); have b3 := bl_trans b2 g; (try clear xac1 xac2 xac3 xac4 xac5 xac6); (try clear xbc1 xbc2 xbc3 xbc4 xbc5 xbc6); (try clear xcc1 xcc2 xcc3 xcc4 xcc5 xcc6); obtain ⟨xac1, xac2, xac3, xac4, xac5, xac6⟩ := Xa.out; obtain ⟨xbc1, xbc2, xbc3, xbc4, xbc5, xbc6⟩ := Xb.out; obtain ⟨xcc1, xcc2, xcc3, xcc4, xcc5, xcc6⟩ := Xc.out; clear hb g)
    | (go_at_call 30; (with_reducible refine (V2.out _ b3).mono ?_); rintro e w4 ⟨rfl, hb⟩; have g := hb; have Xa := hide (Xa.out.next g); have Xb := hide (Xb.out.next g); have Xc := hide (Xc.out.next g); have b4 := bl_trans b3 g; (try clear xac1 xac2 xac3 xac4 xac5 xac6); (try clear xbc1 xbc2 xbc3 xbc4 xbc5 xbc6); (try clear xcc1 xcc2 xcc3 xcc4 xcc5 xcc6); obtain ⟨xac1, xac2, xac3, xac4, xac5, xac6⟩ := Xa.out; obtain ⟨xbc1, xbc2, xbc3, xbc4, xbc5, xbc6⟩ := Xb.out; obtain ⟨xcc1, xcc2, xcc3, xcc4, xcc5, xcc6⟩ := Xc.out; clear hb g)
    | (go_at_call 30; (with_reducible refine (V3.out _ b4).mono ?_); rintro e w5 ⟨rfl, hb⟩; have g := hb; have Xa := hide (Xa.out.next g); have Xb := hide (Xb.out.next g); have Xc := hide (Xc.out.next g); have b5 := bl_trans b4 g; (try clear xac1 xac2 xac3 xac4 xac5 xac6); (try clear xbc1 xbc2 xbc3 xbc4 xbc5 xbc6); (try clear xcc1 xcc2 xcc3 xcc4 xcc5 xcc6); obtain ⟨xac1, xac2, xac3, xac4, xac5, xac6⟩ := Xa.out; obtain ⟨xbc1, xbc2, xbc3, xbc4, xbc5, xbc6⟩ := Xb.out; obtain ⟨xcc1, xcc2, xcc3, xcc4, xcc5, xcc6⟩ := Xc.out; clear hb g)
    | (go_at_call 24; (with_reducible refine (C1.out _ b5).mono ?_); rintro e w6 ⟨rfl, hb⟩; have g := hb; have Xa := hide (Xa.out.next g); have Xb := hide (Xb.out.next g); have Xc := hide (Xc.out.next g); have b6 := bl_trans b5 g; (try clear xac1 xac2 xac3 xac4 xac5 xac6); (try clear xbc1 xbc2 xbc3 xbc4 xbc5 xbc6); (try clear xcc1 xcc2 xcc3 xcc4 xcc5 xcc6); obtain ⟨xac1, xac2, xac3, xac4, xac5, xac6⟩ := Xa.out; obtain ⟨xbc1, xbc2, xbc3, xbc4, xbc5, xbc6⟩ := Xb.out; obtain ⟨xcc1, xcc2, xcc3, xcc4, xcc5, xcc6⟩ := Xc.out; clear hb g))
  have kz : Hid (KR w (w.heap.size) (w.heap.size + 1) (w.heap.size + 1 + 1) (.bool s1) (.slice A1 i1 a1) (.slice B1 j1 e1) (.bool s2) (.slice A2 i2 a2) (.slice B2 j2 e2) (.bool s3) (.slice A3 i3 a3) (.slice B3 j3 e3) w6) := hide ⟨b6, Xa.out, Xb.out, Xc.out⟩
  have kd := hide kz.out.drew
  clear Xa Xb Xc b0 b1 b2 b3 b4 b5 b6
  (try clear xcc1 xcc2 xcc3 xcc4 xcc5 xcc6)
  clear xac4 xac5 xac6 xbc4 xbc5 xbc6
  (try dsimp only [List.append])
  go_region_held3 (fun W => W.cell? ⟨w.heap.size, 0, none⟩ = some (.bool s1) ∧ W.cell? ⟨w.heap.size, 1, none⟩ = some (.slice A1 i1 a1) ∧ W.cell? ⟨w.heap.size, 2, none⟩ = some (.slice B1 j1 e1) ∧ W.cell? ⟨w.heap.size + 1, 0, none⟩ = some (.bool s2) ∧ W.cell? ⟨w.heap.size + 1, 1, none⟩ = some (.slice A2 i2 a2) ∧ W.cell? ⟨w.heap.size + 1, 2, none⟩ = some (.slice B2 j2 e2) ∧ KR w (w.heap.size) (w.heap.size + 1) (w.heap.size + 1 + 1) (.bool s1) (.slice A1 i1 a1) (.slice B1 j1 e1) (.bool s2) (.slice A2 i2 a2) (.slice B2 j2 e2) (.bool s3) (.slice A3 i3 a3) (.slice B3 j3 e3) W)
    (first | exact ⟨xac1, xac2, xac3, xbc1, xbc2, xbc3, kz.out⟩ | exact ⟨xac1, xac2, xac3, xbc1, xbc2, xbc3, kd.out⟩ | with_reducible exact SR_next hb (by assumption) | with_reducible assumption)
    (first
      | (go_at_call 24; (with_reducible refine (C2.out _ (KR.b (kr6 (by assumption)))).mono ?_); rintro e v1 ⟨rfl, hb⟩)
      | (go_at_call 23; (with_reducible refine (SM.out _ (KR.b (kr6 (by assumption)))).mono ?_); rintro e v2 ⟨rfl, hb⟩)
      | (go_at_call 28; (with_reducible refine (N1.out _ (KR.b (kr6 (by assumption)))).mono ?_); rintro e v3 ⟨Z1, p1, Z2, p2, rfl, y1, y2, hb⟩; (try have y3 := kp' hb y3; have y4 := kp' hb y4))
      | (go_at_call 28; (with_reducible refine (N2.out _ (KR.b (kr6 (by assumption)))).mono ?_); rintro e v4 ⟨Z3, p3, Z4, p4, rfl, y3, y4, hb⟩; (try have y1 := kp' hb y1; have y2 := kp' hb y2))
      | (go_at_call 24; (with_reducible refine (C3.out Z1 Z2 Z3 Z4 p1 p2 p3 p4 _ (KR.b (kr6 (by assumption))) y1 y2 y3 y4).mono ?_); rintro e v5 ⟨rfl, hb⟩))
  rename_i hS
  have kk := hide (kr6 hS)
  clear hS
  have b10 := kk.out.1
  have Xa := hide kk.out.2.1
  have Xb := hide kk.out.2.2.1
  have Xc := hide kk.out.2.2.2
  obtain ⟨xac1, xac2, xac3, xac4, xac5, xac6⟩ := Xa.out
  obtain ⟨xbc1, xbc2, xbc3, xbc4, xbc5, xbc6⟩ := Xb.out
  obtain ⟨xcc1, xcc2, xcc3, xcc4, xcc5, xcc6⟩ := Xc.out
  clear kz kd kk
  go_wp2_with (first
    | (go_at_call 15; (with_reducible refine (S1.out _ b10).mono ?_); rintro e w11 ⟨A11, c11, B11, d11, rfl, s11, t11, hb⟩; have g := hb; have Xa := hide (Xa.out.next g); have Xb := hide (Xb.out.next g); have Xc := hide (Xc.out.next g); have b11 := bl_trans b10 g; (try clear xac1 xac2 xac3 xac4 xac5 xac6); (try clear xbc1 xbc2 xbc3 xbc4 xbc5 xbc6); (try clear xcc1 xcc2 xcc3 xcc4 xcc5 xcc6); obtain ⟨xac1, xac2, xac3, xac4, xac5, xac6⟩ := Xa.out; obtain ⟨xbc1, xbc2, xbc3, xbc4, xbc5, xbc6⟩ := Xb.out; obtain ⟨xcc1, xcc2, xcc3, xcc4, xcc5, xcc6⟩ := Xc.out; have xad1 := fun X => (Xa.out.al X).1; have xad2 := fun X => (Xa.out.al X).2.1; have xad3 := fun X => (Xa.out.al X).2.2.1; have xbd1 := fun X => (Xb.out.al X).1; have xbd2 := fun X => (Xb.out.al X).2.1; have xbd3 := fun X => (Xb.out.al X).2.2.1; have xcd1 := fun X => (Xc.out.al X).1; have xcd2 := fun X => (Xc.out.al X).2.1; have xcd3 := fun X => (Xc.out.al X).2.2.1; clear hb g)
    | (go_at_call 15; (with_reducible refine (S2.out _ (bl_al b11 _)).mono ?_); rintro e w12 ⟨A12, c12, B12, d12, rfl, s12, t12, hb⟩; have g := (bl_one hb); have Y1 := hide ((Q3.new (.bool (qs X)) (.slice A11 (ln (qn X)) c11) (.slice B11 (ln (qd X)) d11) w11).next hb); have s11 := kp' g s11; have t11 := kp' g t11; have Xa := hide (Xa.out.next g); have Xb := hide (Xb.out.next g); have Xc := hide (Xc.out.next g); have b12 := bl_trans b11 g; clear xad1 xad2 xad3 xbd1 xbd2 xbd3 xcd1 xcd2 xcd3; (try clear xac1 xac2 xac3 xac4 xac5 xac6); (try clear xbc1 xbc2 xbc3 xbc4 xbc5 xbc6); (try clear xcc1 xcc2 xcc3 xcc4 xcc5 xcc6); obtain ⟨xac1, xac2, xac3, xac4, xac5, xac6⟩ := Xa.out; obtain ⟨xbc1, xbc2, xbc3, xbc4, xbc5, xbc6⟩ := Xb.out; obtain ⟨xcc1, xcc2, xcc3, xcc4, xcc5, xcc6⟩ := Xc.out; have xad1 := fun X => (Xa.out.al X).1; have xad2 := fun X => (Xa.out.al X).2.1; have xad3 := fun X => (Xa.out.al X).2.2.1; have xbd1 := fun X => (Xb.out.al X).1; have xbd2 := fun X => (Xb.out.al X).2.1; have xbd3 := fun X => (Xb.out.al X).2.2.1; have xcd1 := fun X => (Xc.out.al X).1; have xcd2 := fun X => (Xc.out.al X).2.1; have xcd3 := fun X => (Xc.out.al X).2.2.1; clear hb g)
    | (go_at_call 19; (with_reducible refine (P1.out _ (bl_al b12 _)).mono ?_); rintro e w13 ⟨A13, c13, B13, d13, rfl, s13, t13, hb⟩; have g := (bl_one hb); have Y2 := hide ((Q3.new (.bool (qs Y)) (.slice A12 (ln (qn Y)) c12) (.slice B12 (ln (qd Y)) d12) w12).next hb); have s11 := kp' g s11; have t11 := kp' g t11; have s12 := kp' g s12; have t12 := kp' g t12; have Xa := hide (Xa.out.next g); have Xb := hide (Xb.out.next g); have Xc := hide (Xc.out.next g); have Y1 := hide (Y1.out.next g); have b13 := bl_trans b12 g; clear xad1 xad2 xad3 xbd1 xbd2 xbd3 xcd1 xcd2 xcd3; (try clear xac1 xac2 xac3 xac4 xac5 xac6); (try clear xbc1 xbc2 xbc3 xbc4 xbc5 xbc6); (try clear xcc1 xcc2 xcc3 xcc4 xcc5 xcc6); obtain ⟨xac1, xac2, xac3, xac4, xac5, xac6⟩ := Xa.out; obtain ⟨xbc1, xbc2, xbc3, xbc4, xbc5, xbc6⟩ := Xb.out; obtain ⟨xcc1, xcc2, xcc3, xcc4, xcc5, xcc6⟩ := Xc.out; have xad1 := fun X => (Xa.out.al X).1; have xad2 := fun X => (Xa.out.al X).2.1; have xad3 := fun X => (Xa.out.al X).2.2.1; have xbd1 := fun X => (Xb.out.al X).1; have xbd2 := fun X => (Xb.out.al X).2.1; have xbd3 := fun X => (Xb.out.al X).2.2.1; have xcd1 := fun X => (Xc.out.al X).1; have xcd2 := fun X => (Xc.out.al X).2.1; have xcd3 := fun X => (Xc.out.al X).2.2.1; clear hb g)
    | (go_at_call 19; (with_reducible refine (P2.out _ (bl_al b13 _)).mono ?_); rintro e w14 ⟨A14, c14, B14, d14, rfl, s14, t14, hb⟩; have g := (bl_one hb); have Y3 := hide ((Q3.new (.bool (qs U)) (.slice A13 (ln (qn U)) c13) (.slice B13 (ln (qd U)) d13) w13).next hb); have s11 := kp' g s11; have t11 := kp' g t11; have s12 := kp' g s12; have t12 := kp' g t12; have s13 := kp' g s13; have t13 := kp' g t13; have Xa := hide (Xa.out.next g); have Xb := hide (Xb.out.next g); have Xc := hide (Xc.out.next g); have Y1 := hide (Y1.out.next g); have Y2 := hide (Y2.out.next g); have b14 := bl_trans b13 g; clear xad1 xad2 xad3 xbd1 xbd2 xbd3 xcd1 xcd2 xcd3; (try clear xac1 xac2 xac3 xac4 xac5 xac6); (try clear xbc1 xbc2 xbc3 xbc4 xbc5 xbc6); (try clear xcc1 xcc2 xcc3 xcc4 xcc5 xcc6); obtain ⟨xac1, xac2, xac3, xac4, xac5, xac6⟩ := Xa.out; obtain ⟨xbc1, xbc2, xbc3, xbc4, xbc5, xbc6⟩ := Xb.out; obtain ⟨xcc1, xcc2, xcc3, xcc4, xcc5, xcc6⟩ := Xc.out; have xad1 := fun X => (Xa.out.al X).1; have xad2 := fun X => (Xa.out.al X).2.1; have xad3 := fun X => (Xa.out.al X).2.2.1; have xbd1 := fun X => (Xb.out.al X).1; have xbd2 := fun X => (Xb.out.al X).2.1; have xbd3 := fun X => (Xb.out.al X).2.2.1; have xcd1 := fun X => (Xc.out.al X).1; have xcd2 := fun X => (Xc.out.al X).2.1; have xcd3 := fun X => (Xc.out.al X).2.2.1; clear hb g)
    | (go_at_call 39; (with_reducible refine (TX.out _ (bl_al b14 _)).mono ?_); rintro e w15 ⟨rfl, hb⟩; have g := (bl_one hb); have Y4 := hide ((Q3.new (.bool (qs V)) (.slice A14 (ln (qn V)) c14) (.slice B14 (ln (qd V)) d14) w14).next hb); have s11 := kp' g s11; have t11 := kp' g t11; have s12 := kp' g s12; have t12 := kp' g t12; have s13 := kp' g s13; have t13 := kp' g t13; have s14 := kp' g s14; have t14 := kp' g t14; have Xa := hide (Xa.out.next g); have Xb := hide (Xb.out.next g); have Xc := hide (Xc.out.next g); have Y1 := hide (Y1.out.next g); have Y2 := hide (Y2.out.next g); have Y3 := hide (Y3.out.next g); have b15 := bl_trans b14 g; clear xad1 xad2 xad3 xbd1 xbd2 xbd3 xcd1 xcd2 xcd3; (try clear xac1 xac2 xac3 xac4 xac5 xac6); (try clear xbc1 xbc2 xbc3 xbc4 xbc5 xbc6); (try clear xcc1 xcc2 xcc3 xcc4 xcc5 xcc6); obtain ⟨xac1, xac2, xac3, xac4, xac5, xac6⟩ := Xa.out; obtain ⟨xbc1, xbc2, xbc3, xbc4, xbc5, xbc6⟩ := Xb.out; obtain ⟨xcc1, xcc2, xcc3, xcc4, xcc5, xcc6⟩ := Xc.out; clear hb g)
    | (go_at_call 38; (with_reducible refine (PT.out _ b15).mono ?_); rintro e w16 ⟨A16, c16, B16, d16, rfl, s16, t16, hb⟩; have g := hb; have s11 := kp' g s11; have t11 := kp' g t11; have s12 := kp' g s12; have t12 := kp' g t12; have s13 := kp' g s13; have t13 := kp' g t13; have s14 := kp' g s14; have t14 := kp' g t14; have Xa := hide (Xa.out.next g); have Xb := hide (Xb.out.next g); have Xc := hide (Xc.out.next g); have Y1 := hide (Y1.out.next g); have Y2 := hide (Y2.out.next g); have Y3 := hide (Y3.out.next g); have Y4 := hide (Y4.out.next g); have b16 := bl_trans b15 g; (try clear xac1 xac2 xac3 xac4 xac5 xac6); (try clear xbc1 xbc2 xbc3 xbc4 xbc5 xbc6); (try clear xcc1 xcc2 xcc3 xcc4 xcc5 xcc6); obtain ⟨xac1, xac2, xac3, xac4, xac5, xac6⟩ := Xa.out; obtain ⟨xbc1, xbc2, xbc3, xbc4, xbc5, xbc6⟩ := Xb.out; obtain ⟨xcc1, xcc2, xcc3, xcc4, xcc5, xcc6⟩ := Xc.out; clear hb g))
  have kz : Hid (K5 w [(A11, qn X), (B11, qd X), (A12, qn Y), (B12, qd Y), (A13, qn U), (B13, qd U), (A14, qn V), (B14, qd V), (A16, qn D), (B16, qd D)] (w16.alloc (.cells #[.bool (qs D), .slice A16 (ln (qn D)) c16, .slice B16 (ln (qd D)) d16] 24))) := hide (K5.cons (K5.cons (K5.cons (K5.cons (K5.cons (K5.cons (K5.cons (K5.cons (K5.cons (K5.cons (K5.nil (bl_al b16 (.cells #[.bool (qs D), .slice A16 (ln (qn D)) c16, .slice B16 (ln (qd D)) d16] 24))) (t16.alloc (.cells #[.bool (qs D), .slice A16 (ln (qn D)) c16, .slice B16 (ln (qd D)) d16] 24))) (s16.alloc (.cells #[.bool (qs D), .slice A16 (ln (qn D)) c16, .slice B16 (ln (qd D)) d16] 24))) (t14.alloc (.cells #[.bool (qs D), .slice A16 (ln (qn D)) c16, .slice B16 (ln (qd D)) d16] 24))) (s14.alloc (.cells #[.bool (qs D), .slice A16 (ln (qn D)) c16, .slice B16 (ln (qd D)) d16] 24))) (t13.alloc (.cells #[.bool (qs D), .slice A16 (ln (qn D)) c16, .slice B16 (ln (qd D)) d16] 24))) (s13.alloc (.cells #[.bool (qs D), .slice A16 (ln (qn D)) c16, .slice B16 (ln (qd D)) d16] 24))) (t12.alloc (.cells #[.bool (qs D), .slice A16 (ln (qn D)) c16, .slice B16 (ln (qd D)) d16] 24))) (s12.alloc (.cells #[.bool (qs D), .slice A16 (ln (qn D)) c16, .slice B16 (ln (qd D)) d16] 24))) (t11.alloc (.cells #[.bool (qs D), .slice A16 (ln (qn D)) c16, .slice B16 (ln (qd D)) d16] 24))) (s11.alloc (.cells #[.bool (qs D), .slice A16 (ln (qn D)) c16, .slice B16 (ln (qd D)) d16] 24)))
  have kd := hide kz.out.drew
  have Y1 := hide (Y1.out.al (.cells #[.bool (qs D), .slice A16 (ln (qn D)) c16, .slice B16 (ln (qd D)) d16] 24))
  have Y2 := hide (Y2.out.al (.cells #[.bool (qs D), .slice A16 (ln (qn D)) c16, .slice B16 (ln (qd D)) d16] 24))
  have Y3 := hide (Y3.out.al (.cells #[.bool (qs D), .slice A16 (ln (qn D)) c16, .slice B16 (ln (qd D)) d16] 24))
  have Y4 := hide (Y4.out.al (.cells #[.bool (qs D), .slice A16 (ln (qn D)) c16, .slice B16 (ln (qd D)) d16] 24))
  have Xc := hide (Xc.out.al (.cells #[.bool (qs D), .slice A16 (ln (qn D)) c16, .slice B16 (ln (qd D)) d16] 24))
  have Xa := hide (Xa.out.al (.cells #[.bool (qs D), .slice A16 (ln (qn D)) c16, .slice B16 (ln (qd D)) d16] 24))
  have Y5 := hide (Q3.new (.bool (qs D)) (.slice A16 (ln (qn D)) c16) (.slice B16 (ln (qd D)) d16) w16)
  clear s11 t11 b11 s12 t12 b12 s13 t13 b13 s14 t14 b14 s16 t16 b16
  (try clear xac1 xac2 xac3 xac4 xac5 xac6 xbc1 xbc2 xbc3 xbc4 xbc5 xbc6 xcc1 xcc2 xcc3 xcc4 xcc5 xcc6)
  (try dsimp only [List.append])
  go_region_held3 (fun W => W.cell? ⟨w11.heap.size, 0, none⟩ = some (.bool (qs X)) ∧ W.cell? ⟨w11.heap.size, 1, none⟩ = some (.slice A11 (ln (qn X)) c11) ∧ W.cell? ⟨w11.heap.size, 2, none⟩ = some (.slice B11 (ln (qd X)) d11) ∧ W.cell? ⟨w12.heap.size, 0, none⟩ = some (.bool (qs Y)) ∧ W.cell? ⟨w12.heap.size, 1, none⟩ = some (.slice A12 (ln (qn Y)) c12) ∧ W.cell? ⟨w12.heap.size, 2, none⟩ = some (.slice B12 (ln (qd Y)) d12) ∧ W.cell? ⟨w13.heap.size, 0, none⟩ = some (.bool (qs U)) ∧ W.cell? ⟨w13.heap.size, 1, none⟩ = some (.slice A13 (ln (qn U)) c13) ∧ W.cell? ⟨w13.heap.size, 2, none⟩ = some (.slice B13 (ln (qd U)) d13) ∧ W.cell? ⟨w14.heap.size, 0, none⟩ = some (.bool (qs V)) ∧ W.cell? ⟨w14.heap.size, 1, none⟩ = some (.slice A14 (ln (qn V)) c14) ∧ W.cell? ⟨w14.heap.size, 2, none⟩ = some (.slice B14 (ln (qd V)) d14) ∧ W.cell? ⟨w.heap.size + 1 + 1, 0, none⟩ = some (.bool s3) ∧ W.cell? ⟨w.heap.size + 1 + 1, 1, none⟩ = some (.slice A3 i3 a3) ∧ W.cell? ⟨w.heap.size + 1 + 1, 2, none⟩ = some (.slice B3 j3 e3) ∧ W.cell? ⟨w16.heap.size, 0, none⟩ = some (.bool (qs D)) ∧ W.cell? ⟨w16.heap.size, 1, none⟩ = some (.slice A16 (ln (qn D)) c16) ∧ W.cell? ⟨w16.heap.size, 2, none⟩ = some (.slice B16 (ln (qd D)) d16) ∧ W.cell? ⟨w.heap.size, 0, none⟩ = some (.bool s1) ∧ W.cell? ⟨w.heap.size, 1, none⟩ = some (.slice A1 i1 a1) ∧ W.cell? ⟨w.heap.size, 2, none⟩ = some (.slice B1 j1 e1) ∧ K5 w [(A11, qn X), (B11, qd X), (A12, qn Y), (B12, qd Y), (A13, qn U), (B13, qd U), (A14, qn V), (B14, qd V), (A16, qn D), (B16, qd D)] W)
    (first | exact ⟨Y1.out.1, Y1.out.2.1, Y1.out.2.2.1, Y2.out.1, Y2.out.2.1, Y2.out.2.2.1, Y3.out.1, Y3.out.2.1, Y3.out.2.2.1, Y4.out.1, Y4.out.2.1, Y4.out.2.2.1, Xc.out.1, Xc.out.2.1, Xc.out.2.2.1, Y5.out.1, Y5.out.2.1, Y5.out.2.2.1, Xa.out.1, Xa.out.2.1, Xa.out.2.2.1, kz.out⟩ | exact ⟨Y1.out.1, Y1.out.2.1, Y1.out.2.2.1, Y2.out.1, Y2.out.2.1, Y2.out.2.2.1, Y3.out.1, Y3.out.2.1, Y3.out.2.2.1, Y4.out.1, Y4.out.2.1, Y4.out.2.2.1, Xc.out.1, Xc.out.2.1, Xc.out.2.2.1, Y5.out.1, Y5.out.2.1, Y5.out.2.2.1, Xa.out.1, Xa.out.2.1, Xa.out.2.2.1, kd.out⟩ | with_reducible exact S21_next hb (by assumption) | with_reducible assumption)
    (first
      | (go_at_call 24; (with_reducible refine (C4.out A11 B11 A12 B12 c11 d11 c12 d12 _ _ (k21 (by assumption)) mem1 mem2 mem3 mem4).mono ?_); rintro e v1 ⟨rfl, hb⟩)
      | (go_at_call 24; (with_reducible refine (C5.out A13 B13 A14 B14 c13 d13 c14 d14 _ _ (k21 (by assumption)) mem5 mem6 mem7 mem8).mono ?_); rintro e v2 ⟨rfl, hb⟩)
      | (go_at_call 26; (with_reducible refine (SC.out _ (K5.b (k21 (by assumption)))).mono ?_); rintro e v3 ⟨rfl, hb⟩)
      | (go_at_call 23; (with_reducible refine (SP.out A16 B16 c16 d16 _ _ (k21 (by assumption)) mem9 mem10).mono ?_); rintro e v4 ⟨rfl, hb⟩)
      | (go_at_call 14; (with_reducible refine (AW.out _ (K5.b (k21 (by assumption)))).mono ?_); rintro e v5 ⟨rfl, hb⟩))
  all_goals
    go_wp2
    go_ret
    exact ⟨rfl, K5.b (k21 (by assumption))⟩

set_option maxRecDepth 100000 in
set_option maxHeartbeats 8000000 in
theorem rorder_law (s1 : Bool) (A1 B1 : Option Addr) (a1 b1 : Nat) (xs1 ys1 : List Nat) (s2 : Bool) (A2 B2 : Option Addr) (a2 b2 : Nat) (xs2 ys2 : List Nat) (s3 : Bool) (A3 B3 : Option Addr) (a3 b3 : Nat) (xs3 ys3 : List Nat) (w : World) (sA1 : Sl w A1 xs1) (sB1 : Sl w B1 ys1) (sA2 : Sl w A2 xs2) (sB2 : Sl w B2 ys2) (sA3 : Sl w A3 xs3) (sB3 : Sl w B3 ys3) (lx1 : Limbs xs1) (ly1 : Limbs ys1) (lx2 : Limbs xs2) (ly2 : Limbs ys2) (lx3 : Limbs xs3) (ly3 : Limbs ys3) (_mx1 : xs1.length ≤ maxLen) (_my1 : ys1.length ≤ maxLen) (_mx2 : xs2.length ≤ maxLen) (_my2 : ys2.length ≤ maxLen) (_mx3 : xs3.length ≤ maxLen) (_my3 : ys3.length ≤ maxLen) (ht : Pow10 w) :
    Calls Tryz.prog 6 #[.agg #[.bool s1, .slice A1 xs1.length a1, .slice B1 ys1.length b1], .agg #[.bool s2, .slice A2 xs2.length a2, .slice B2 ys2.length b2], .agg #[.bool s3, .slice A3 xs3.length a3, .slice B3 ys3.length b3]] w fun e w' => e = .returned (.bool true) ∧ Below w.heap.size w w' := by
  have AW := hide (fun W (k : Below w.heap.size w W) => awake3_any W (pow_below ht k))
  obtain ⟨r0, hr0⟩ : ∃ r, decide (xs1.length ≤ 10 ∧ ys1.length ≤ 10 ∧ xs2.length ≤ 10 ∧ ys2.length ≤ 10) = r := ⟨_, rfl⟩
  have FW0 := hide (fun W (_ : Below w.heap.size w W) => few_any s1 s2 A1 B1 A2 B2 a1 b1 a2 b2 xs1.length ys1.length xs2.length ys2.length W r0 hr0)
  obtain ⟨r1, hr1⟩ : ∃ r, decide (xs3.length ≤ 10 ∧ ys3.length ≤ 10 ∧ xs3.length ≤ 10 ∧ ys3.length ≤ 10) = r := ⟨_, rfl⟩
  have FW1 := hide (fun W (_ : Below w.heap.size w W) => few_any s3 s3 A3 B3 A3 B3 a3 b3 a3 b3 xs3.length ys3.length xs3.length ys3.length W r1 hr1)
  cases r0 with
  | false =>
    clear ht sA1 sB1 lx1 ly1 _mx1 _my1 sA2 sB2 lx2 ly2 _mx2 _my2 sA3 sB3 lx3 ly3 _mx3 _my3 hr0 hr1
    generalize xs1.length = i1 at *
    generalize ys1.length = j1 at *
    generalize xs2.length = i2 at *
    generalize ys2.length = j2 at *
    generalize xs3.length = i3 at *
    generalize ys3.length = j3 at *
    have Xa := hide (((Q3.new (.bool s1) (.slice A1 i1 a1) (.slice B1 j1 b1) w ).al (.cells #[.bool s2, .slice A2 i2 a2, .slice B2 j2 b2] 24)).al (.cells #[.bool s3, .slice A3 i3 a3, .slice B3 j3 b3] 24))
    have Xb := hide ((Q3.new1 (.bool s2) (.slice A2 i2 a2) (.slice B2 j2 b2) w (.cells #[.bool s1, .slice A1 i1 a1, .slice B1 j1 b1] 24)).al (.cells #[.bool s3, .slice A3 i3 a3, .slice B3 j3 b3] 24))
    have Xc := hide (Q3.new2 (.bool s3) (.slice A3 i3 a3) (.slice B3 j3 b3) w (.cells #[.bool s1, .slice A1 i1 a1, .slice B1 j1 b1] 24) (.cells #[.bool s2, .slice A2 i2 a2, .slice B2 j2 b2] 24))
    have b0 : Below w.heap.size w (((w.alloc (.cells #[.bool s1, .slice A1 i1 a1, .slice B1 j1 b1] 24)).alloc (.cells #[.bool s2, .slice A2 i2 a2, .slice B2 j2 b2] 24)).alloc (.cells #[.bool s3, .slice A3 i3 a3, .slice B3 j3 b3] 24)) := (bl_al (bl_al (bl_al (.refl _ _) _) _) _)
    go_enter Tryz.func6, Tryz.ntmps6
    go_wp2_with (first
      | (go_at_call 13; (with_reducible refine (FW0.out _ b0).mono ?_); rintro e w1 ⟨rfl, hb⟩; have g := hb; have Xa := hide (Xa.out.next g); have Xb := hide (Xb.out.next g); have Xc := hide (Xc.out.next g); have b1 := bl_trans b0 g; obtain ⟨xac1, xac2, xac3, xac4, xac5, xac6⟩ := Xa.out; obtain ⟨xbc1, xbc2, xbc3, xbc4, xbc5, xbc6⟩ := Xb.out; obtain ⟨xcc1, xcc2, xcc3, xcc4, xcc5, xcc6⟩ := Xc.out; clear hb g)
      | (go_at_call 14; (with_reducible refine (AW.out _ b1).mono ?_); rintro e w2 ⟨rfl, hb⟩; have g := hb; have Xa := hide (Xa.out.next g); have Xb := hide (Xb.out.next g); have Xc := hide (Xc.out.next g); have b2 := bl_trans b1 g; (try clear xac1 xac2 xac3 xac4 xac5 xac6); (try clear xbc1 xbc2 xbc3 xbc4 xbc5 xbc6); (try clear xcc1 xcc2 xcc3 xcc4 xcc5 xcc6); obtain ⟨xac1, xac2, xac3, xac4, xac5, xac6⟩ := Xa.out; obtain ⟨xbc1, xbc2, xbc3, xbc4, xbc5, xbc6⟩ := Xb.out; obtain ⟨xcc1, xcc2, xcc3, xcc4, xcc5, xcc6⟩ := Xc.out; clear hb g))
    go_ret
    exact ⟨rfl, b2⟩
  | true =>
    cases r1 with
    | false =>
      clear ht sA1 sB1 lx1 ly1 _mx1 _my1 sA2 sB2 lx2 ly2 _mx2 _my2 sA3 sB3 lx3 ly3 _mx3 _my3 hr0 hr1
      generalize xs1.length = i1 at *
      generalize ys1.length = j1 at *
      generalize xs2.length = i2 at *
      generalize ys2.length = j2 at *
      generalize xs3.length = i3 at *
      generalize ys3.length = j3 at *
      have Xa := hide (((Q3.new (.bool s1) (.slice A1 i1 a1) (.slice B1 j1 b1) w ).al (.cells #[.bool s2, .slice A2 i2 a2, .slice B2 j2 b2] 24)).al (.cells #[.bool s3, .slice A3 i3 a3, .slice B3 j3 b3] 24))
      have Xb := hide ((Q3.new1 (.bool s2) (.slice A2 i2 a2) (.slice B2 j2 b2) w (.cells #[.bool s1, .slice A1 i1 a1, .slice B1 j1 b1] 24)).al (.cells #[.bool s3, .slice A3 i3 a3, .slice B3 j3 b3] 24))
      have Xc := hide (Q3.new2 (.bool s3) (.slice A3 i3 a3) (.slice B3 j3 b3) w (.cells #[.bool s1, .slice A1 i1 a1, .slice B1 j1 b1] 24) (.cells #[.bool s2, .slice A2 i2 a2, .slice B2 j2 b2] 24))
      have b0 : Below w.heap.size w (((w.alloc (.cells #[.bool s1, .slice A1 i1 a1, .slice B1 j1 b1] 24)).alloc (.cells #[.bool s2, .slice A2 i2 a2, .slice B2 j2 b2] 24)).alloc (.cells #[.bool s3, .slice A3 i3 a3, .slice B3 j3 b3] 24)) := (bl_al (bl_al (bl_al (.refl _ _) _) _) _)
      go_enter Tryz.func6, Tryz.ntmps6
      go_wp2_with (first
        | (go_at_call 13; (with_reducible refine (FW0.out _ b0).mono ?_); rintro e w1 ⟨rfl, hb⟩; have g := hb; have Xa := hide (Xa.out.next g); have Xb := hide (Xb.out.next g); have Xc := hide (Xc.out.next g); have b1 := bl_trans b0 g; obtain ⟨xac1, xac2, xac3, xac4, xac5, xac6⟩ := Xa.out; obtain ⟨xbc1, xbc2, xbc3, xbc4, xbc5, xbc6⟩ := Xb.out; obtain ⟨xcc1, xcc2, xcc3, xcc4, xcc5, xcc6⟩ := Xc.out; clear hb g)
        | (go_at_call 13; (with_reducible refine (FW1.out _ b1).mono ?_); rintro e w2 ⟨rfl, hb⟩; have g := hb; have Xa := hide (Xa.out.next g); have Xb := hide (Xb.out.next g); have Xc := hide (Xc.out.next g); have b2 := bl_trans b1 g; (try clear xac1 xac2 xac3 xac4 xac5 xac6); (try clear xbc1 xbc2 xbc3 xbc4 xbc5 xbc6); (try clear xcc1 xcc2 xcc3 xcc4 xcc5 xcc6); obtain ⟨xac1, xac2, xac3, xac4, xac5, xac6⟩ := Xa.out; obtain ⟨xbc1, xbc2, xbc3, xbc4, xbc5, xbc6⟩ := Xb.out; obtain ⟨xcc1, xcc2, xcc3, xcc4, xcc5, xcc6⟩ := Xc.out; clear hb g)
        | (go_at_call 14; (with_reducible refine (AW.out _ b2).mono ?_); rintro e w3 ⟨rfl, hb⟩; have g := hb; have Xa := hide (Xa.out.next g); have Xb := hide (Xb.out.next g); have Xc := hide (Xc.out.next g); have b3 := bl_trans b2 g; (try clear xac1 xac2 xac3 xac4 xac5 xac6); (try clear xbc1 xbc2 xbc3 xbc4 xbc5 xbc6); (try clear xcc1 xcc2 xcc3 xcc4 xcc5 xcc6); obtain ⟨xac1, xac2, xac3, xac4, xac5, xac6⟩ := Xa.out; obtain ⟨xbc1, xbc2, xbc3, xbc4, xbc5, xbc6⟩ := Xb.out; obtain ⟨xcc1, xcc2, xcc3, xcc4, xcc5, xcc6⟩ := Xc.out; clear hb g))
      go_ret
      exact ⟨rfl, b3⟩
    | true =>
      have hl0 := of_decide_eq_true hr0
      have hl1 := of_decide_eq_true hr1
      rcases vQ s1 xs1 ys1 with v1 | v1
      rotate_left
      · have V1 := hide (fun W (k : Below w.heap.size w W) => validQ_any s1 A1 B1 a1 b1 xs1 ys1 W (kp' k sA1) (kp' k sB1) lx1 ly1 (by omega) (by omega) false v1)
        clear ht sA1 sB1 lx1 ly1 _mx1 _my1 sA2 sB2 lx2 ly2 _mx2 _my2 sA3 sB3 lx3 ly3 _mx3 _my3 hr0 hr1 hl0 hl1 v1
        generalize xs1.length = i1 at *
        generalize ys1.length = j1 at *
        generalize xs2.length = i2 at *
        generalize ys2.length = j2 at *
        generalize xs3.length = i3 at *
        generalize ys3.length = j3 at *
        have Xa := hide (((Q3.new (.bool s1) (.slice A1 i1 a1) (.slice B1 j1 b1) w ).al (.cells #[.bool s2, .slice A2 i2 a2, .slice B2 j2 b2] 24)).al (.cells #[.bool s3, .slice A3 i3 a3, .slice B3 j3 b3] 24))
        have Xb := hide ((Q3.new1 (.bool s2) (.slice A2 i2 a2) (.slice B2 j2 b2) w (.cells #[.bool s1, .slice A1 i1 a1, .slice B1 j1 b1] 24)).al (.cells #[.bool s3, .slice A3 i3 a3, .slice B3 j3 b3] 24))
        have Xc := hide (Q3.new2 (.bool s3) (.slice A3 i3 a3) (.slice B3 j3 b3) w (.cells #[.bool s1, .slice A1 i1 a1, .slice B1 j1 b1] 24) (.cells #[.bool s2, .slice A2 i2 a2, .slice B2 j2 b2] 24))
        have b0 : Below w.heap.size w (((w.alloc (.cells #[.bool s1, .slice A1 i1 a1, .slice B1 j1 b1] 24)).alloc (.cells #[.bool s2, .slice A2 i2 a2, .slice B2 j2 b2] 24)).alloc (.cells #[.bool s3, .slice A3 i3 a3, .slice B3 j3 b3] 24)) := (bl_al (bl_al (bl_al (.refl _ _) _) _) _)
        go_enter Tryz.func6, Tryz.ntmps6
        go_wp2_with (first
          | (go_at_call 13; (with_reducible refine (FW0.out _ b0).mono ?_); rintro e w1 ⟨rfl, hb⟩; have g := hb; have Xa := hide (Xa.out.next g); have Xb := hide (Xb.out.next g); have Xc := hide (Xc.out.next g); have b1 := bl_trans b0 g; obtain ⟨xac1, xac2, xac3, xac4, xac5, xac6⟩ := Xa.out; obtain ⟨xbc1, xbc2, xbc3, xbc4, xbc5, xbc6⟩ := Xb.out; obtain ⟨xcc1, xcc2, xcc3, xcc4, xcc5, xcc6⟩ := Xc.out; clear hb g)
          | (go_at_call 13; (with_reducible refine (FW1.out _ b1).mono ?_); rintro e w2 ⟨rfl, hb⟩; have g := hb; have Xa := hide (Xa.out.next g); have Xb := hide (Xb.out.next g); have Xc := hide (Xc.out.next g); have b2 := bl_trans b1 g; (try clear xac1 xac2 xac3 xac4 xac5 xac6); (try clear xbc1 xbc2 xbc3 xbc4 xbc5 xbc6); (try clear xcc1 xcc2 xcc3 xcc4 xcc5 xcc6); obtain ⟨xac1, xac2, xac3, xac4, xac5, xac6⟩ := Xa.out; obtain ⟨xbc1, xbc2, xbc3, xbc4, xbc5, xbc6⟩ := Xb.out; obtain ⟨xcc1, xcc2, xcc3, xcc4, xcc5, xcc6⟩ := Xc.out; clear hb g)
          | (go_at_call 30; (with_reducible refine (V1.out _ b2).mono ?_); rintro e w3 ⟨rfl, hb⟩; have g := hb; have Xa := hide (Xa.out.next g); have Xb := hide (Xb.out.next g); have Xc := hide (Xc.out.next g); have b3 := bl_trans b2 g; (try clear xac1 xac2 xac3 xac4 xac5 xac6); (try clear xbc1 xbc2 xbc3 xbc4 xbc5 xbc6); (try clear xcc1 xcc2 xcc3 xcc4 xcc5 xcc6); obtain ⟨xac1, xac2, xac3, xac4, xac5, xac6⟩ := Xa.out; obtain ⟨xbc1, xbc2, xbc3, xbc4, xbc5, xbc6⟩ := Xb.out; obtain ⟨xcc1, xcc2, xcc3, xcc4, xcc5, xcc6⟩ := Xc.out; clear hb g)
          | (go_at_call 14; (with_reducible refine (AW.out _ b3).mono ?_); rintro e w4 ⟨rfl, hb⟩; have g := hb; have Xa := hide (Xa.out.next g); have Xb := hide (Xb.out.next g); have Xc := hide (Xc.out.next g); have b4 := bl_trans b3 g; (try clear xac1 xac2 xac3 xac4 xac5 xac6); (try clear xbc1 xbc2 xbc3 xbc4 xbc5 xbc6); (try clear xcc1 xcc2 xcc3 xcc4 xcc5 xcc6); obtain ⟨xac1, xac2, xac3, xac4, xac5, xac6⟩ := Xa.out; obtain ⟨xbc1, xbc2, xbc3, xbc4, xbc5, xbc6⟩ := Xb.out; obtain ⟨xcc1, xcc2, xcc3, xcc4, xcc5, xcc6⟩ := Xc.out; clear hb g))
        go_ret
        exact ⟨rfl, b4⟩
      · have V1 := hide (fun W (k : Below w.heap.size w W) => validQ_any s1 A1 B1 a1 b1 xs1 ys1 W (kp' k sA1) (kp' k sB1) lx1 ly1 (by omega) (by omega) true v1)
        rcases vQ s2 xs2 ys2 with v2 | v2
        rotate_left
        · have V2 := hide (fun W (k : Below w.heap.size w W) => validQ_any s2 A2 B2 a2 b2 xs2 ys2 W (kp' k sA2) (kp' k sB2) lx2 ly2 (by omega) (by omega) false v2)
          clear ht sA1 sB1 lx1 ly1 _mx1 _my1 sA2 sB2 lx2 ly2 _mx2 _my2 sA3 sB3 lx3 ly3 _mx3 _my3 hr0 hr1 hl0 hl1 v1 v2
          generalize xs1.length = i1 at *
          generalize ys1.length = j1 at *
          generalize xs2.length = i2 at *
          generalize ys2.length = j2 at *
          generalize xs3.length = i3 at *
          generalize ys3.length = j3 at *
          have Xa := hide (((Q3.new (.bool s1) (.slice A1 i1 a1) (.slice B1 j1 b1) w ).al (.cells #[.bool s2, .slice A2 i2 a2, .slice B2 j2 b2] 24)).al (.cells #[.bool s3, .slice A3 i3 a3, .slice B3 j3 b3] 24))
          have Xb := hide ((Q3.new1 (.bool s2) (.slice A2 i2 a2) (.slice B2 j2 b2) w (.cells #[.bool s1, .slice A1 i1 a1, .slice B1 j1 b1] 24)).al (.cells #[.bool s3, .slice A3 i3 a3, .slice B3 j3 b3] 24))
          have Xc := hide (Q3.new2 (.bool s3) (.slice A3 i3 a3) (.slice B3 j3 b3) w (.cells #[.bool s1, .slice A1 i1 a1, .slice B1 j1 b1] 24) (.cells #[.bool s2, .slice A2 i2 a2, .slice B2 j2 b2] 24))
          have b0 : Below w.heap.size w (((w.alloc (.cells #[.bool s1, .slice A1 i1 a1, .slice B1 j1 b1] 24)).alloc (.cells #[.bool s2, .slice A2 i2 a2, .slice B2 j2 b2] 24)).alloc (.cells #[.bool s3, .slice A3 i3 a3, .slice B3 j3 b3] 24)) := (bl_al (bl_al (bl_al (.refl _ _) _) _) _)
          go_enter Tryz.func6, Tryz.ntmps6
          go_wp2_with (first
            | (go_at_call 13; (with_reducible refine (FW0.out _ b0).mono ?_); rintro e w1 ⟨rfl, hb⟩; have g := hb; have Xa := hide (Xa.out.next g); have Xb := hide (Xb.out.next g); have Xc := hide (Xc.out.next g); have b1 := bl_trans b0 g; obtain ⟨xac1, xac2, xac3, xac4, xac5, xac6⟩ := Xa.out; obtain ⟨xbc1, xbc2, xbc3, xbc4, xbc5, xbc6⟩ := Xb.out; obtain ⟨xcc1, xcc2, xcc3, xcc4, xcc5, xcc6⟩ := Xc.out; clear hb g)
            | (go_at_call 13; (with_reducible refine (FW1.out _ b1).mono ?_); rintro e w2 ⟨rfl, hb⟩; have g := hb; have Xa := hide (Xa.out.next g); have Xb := hide (Xb.out.next g); have Xc := hide (Xc.out.next g); have b2 := bl_trans b1 g; (try clear xac1 xac2 xac3 xac4 xac5 xac6); (try clear xbc1 xbc2 xbc3 xbc4 xbc5 xbc6); (try clear xcc1 xcc2 xcc3 xcc4 xcc5 xcc6); obtain ⟨xac1, xac2, xac3, xac4, xac5, xac6⟩ := Xa.out; obtain ⟨xbc1, xbc2, xbc3, xbc4, xbc5, xbc6⟩ := Xb.out; obtain ⟨xcc1, xcc2, xcc3, xcc4, xcc5, xcc6⟩ := Xc.out; clear hb g)
            | (go_at_call 30; (with_reducible refine (V1.out _ b2).mono ?_); rintro e w3 ⟨rfl, hb⟩; have g := hb; have Xa := hide (Xa.out.next g); have Xb := hide (Xb.out.next g); have Xc := hide (Xc.out.next g); have b3 := bl_trans b2 g; (try clear xac1 xac2 xac3 xac4 xac5 xac6); (try clear xbc1 xbc2 xbc3 xbc4 xbc5 xbc6); (try clear xcc1 xcc2 xcc3 xcc4 xcc5 xcc6); obtain ⟨xac1, xac2, xac3, xac4, xac5, xac6⟩ := Xa.out; obtain ⟨xbc1, xbc2, xbc3, xbc4, xbc5, xbc6⟩ := Xb.out; obtain ⟨xcc1, xcc2, xcc3, xcc4, xcc5, xcc6⟩ := Xc.out; clear hb g)
            | (go_at_call 30; (with_reducible refine (V2.out _ b3).mono ?_); rintro e w4 ⟨rfl, hb⟩; have g := hb; have Xa := hide (Xa.out.next g); have Xb := hide (Xb.out.next g); have Xc := hide (Xc.out.next g); have b4 := bl_trans b3 g; (try clear xac1 xac2 xac3 xac4 xac5 xac6); (try clear xbc1 xbc2 xbc3 xbc4 xbc5 xbc6); (try clear xcc1 xcc2 xcc3 xcc4 xcc5 xcc6); obtain ⟨xac1, xac2, xac3, xac4, xac5, xac6⟩ := Xa.out; obtain ⟨xbc1, xbc2, xbc3, xbc4, xbc5, xbc6⟩ := Xb.out; obtain ⟨xcc1, xcc2, xcc3, xcc4, xcc5, xcc6⟩ := Xc.out; clear hb g)
            | (go_at_call 14; (with_reducible refine (AW.out _ b4).mono ?_); rintro e w5 ⟨rfl, hb⟩; have g := hb; have Xa := hide (Xa.out.next g); have Xb := hide (Xb.out.next g); have Xc := hide (Xc.out.next g); have b5 := bl_trans b4 g; (try clear xac1 xac2 xac3 xac4 xac5 xac6); (try clear xbc1 xbc2 xbc3 xbc4 xbc5 xbc6); (try clear xcc1 xcc2 xcc3 xcc4 xcc5 xcc6); obtain ⟨xac1, xac2, xac3, xac4, xac5, xac6⟩ := Xa.out; obtain ⟨xbc1, xbc2, xbc3, xbc4, xbc5, xbc6⟩ := Xb.out; obtain ⟨xcc1, xcc2, xcc3, xcc4, xcc5, xcc6⟩ := Xc.out; clear hb g))
          go_ret
          exact ⟨rfl, b5⟩
        · have V2 := hide (fun W (k : Below w.heap.size w W) => validQ_any s2 A2 B2 a2 b2 xs2 ys2 W (kp' k sA2) (kp' k sB2) lx2 ly2 (by omega) (by omega) true v2)
          rcases vQ s3 xs3 ys3 with v3 | v3
          rotate_left
          · have V3 := hide (fun W (k : Below w.heap.size w W) => validQ_any s3 A3 B3 a3 b3 xs3 ys3 W (kp' k sA3) (kp' k sB3) lx3 ly3 (by omega) (by omega) false v3)
            clear ht sA1 sB1 lx1 ly1 _mx1 _my1 sA2 sB2 lx2 ly2 _mx2 _my2 sA3 sB3 lx3 ly3 _mx3 _my3 hr0 hr1 hl0 hl1 v1 v2 v3
            generalize xs1.length = i1 at *
            generalize ys1.length = j1 at *
            generalize xs2.length = i2 at *
            generalize ys2.length = j2 at *
            generalize xs3.length = i3 at *
            generalize ys3.length = j3 at *
            have Xa := hide (((Q3.new (.bool s1) (.slice A1 i1 a1) (.slice B1 j1 b1) w ).al (.cells #[.bool s2, .slice A2 i2 a2, .slice B2 j2 b2] 24)).al (.cells #[.bool s3, .slice A3 i3 a3, .slice B3 j3 b3] 24))
            have Xb := hide ((Q3.new1 (.bool s2) (.slice A2 i2 a2) (.slice B2 j2 b2) w (.cells #[.bool s1, .slice A1 i1 a1, .slice B1 j1 b1] 24)).al (.cells #[.bool s3, .slice A3 i3 a3, .slice B3 j3 b3] 24))
            have Xc := hide (Q3.new2 (.bool s3) (.slice A3 i3 a3) (.slice B3 j3 b3) w (.cells #[.bool s1, .slice A1 i1 a1, .slice B1 j1 b1] 24) (.cells #[.bool s2, .slice A2 i2 a2, .slice B2 j2 b2] 24))
            have b0 : Below w.heap.size w (((w.alloc (.cells #[.bool s1, .slice A1 i1 a1, .slice B1 j1 b1] 24)).alloc (.cells #[.bool s2, .slice A2 i2 a2, .slice B2 j2 b2] 24)).alloc (.cells #[.bool s3, .slice A3 i3 a3, .slice B3 j3 b3] 24)) := (bl_al (bl_al (bl_al (.refl _ _) _) _) _)
            go_enter Tryz.func6, Tryz.ntmps6
            go_wp2_with (first
              | (go_at_call 13; (with_reducible refine (FW0.out _ b0).mono ?_); rintro e w1 ⟨rfl, hb⟩; have g := hb; have Xa := hide (Xa.out.next g); have Xb := hide (Xb.out.next g); have Xc := hide (Xc.out.next g); have b1 := bl_trans b0 g; obtain ⟨xac1, xac2, xac3, xac4, xac5, xac6⟩ := Xa.out; obtain ⟨xbc1, xbc2, xbc3, xbc4, xbc5, xbc6⟩ := Xb.out; obtain ⟨xcc1, xcc2, xcc3, xcc4, xcc5, xcc6⟩ := Xc.out; clear hb g)
              | (go_at_call 13; (with_reducible refine (FW1.out _ b1).mono ?_); rintro e w2 ⟨rfl, hb⟩; have g := hb; have Xa := hide (Xa.out.next g); have Xb := hide (Xb.out.next g); have Xc := hide (Xc.out.next g); have b2 := bl_trans b1 g; (try clear xac1 xac2 xac3 xac4 xac5 xac6); (try clear xbc1 xbc2 xbc3 xbc4 xbc5 xbc6); (try clear xcc1 xcc2 xcc3 xcc4 xcc5 xcc6); obtain ⟨xac1, xac2, xac3, xac4, xac5, xac6⟩ := Xa.out; obtain ⟨xbc1, xbc2, xbc3, xbc4, xbc5, xbc6⟩ := Xb.out; obtain ⟨xcc1, xcc2, xcc3, xcc4, xcc5, xcc6⟩ := Xc.out; clear hb g)
              | (go_at_call 30; (with_reducible refine (V1.out _ b2).mono ?_); rintro e w3 ⟨rfl, hb⟩; have g := hb; have Xa := hide (Xa.out.next g); have Xb := hide (Xb.out.next g); have Xc := hide (Xc.out.next g); have b3 := bl_trans b2 g; (try clear xac1 xac2 xac3 xac4 xac5 xac6); (try clear xbc1 xbc2 xbc3 xbc4 xbc5 xbc6); (try clear xcc1 xcc2 xcc3 xcc4 xcc5 xcc6); obtain ⟨xac1, xac2, xac3, xac4, xac5, xac6⟩ := Xa.out; obtain ⟨xbc1, xbc2, xbc3, xbc4, xbc5, xbc6⟩ := Xb.out; obtain ⟨xcc1, xcc2, xcc3, xcc4, xcc5, xcc6⟩ := Xc.out; clear hb g)
              | (go_at_call 30; (with_reducible refine (V2.out _ b3).mono ?_); rintro e w4 ⟨rfl, hb⟩; have g := hb; have Xa := hide (Xa.out.next g); have Xb := hide (Xb.out.next g); have Xc := hide (Xc.out.next g); have b4 := bl_trans b3 g; (try clear xac1 xac2 xac3 xac4 xac5 xac6); (try clear xbc1 xbc2 xbc3 xbc4 xbc5 xbc6); (try clear xcc1 xcc2 xcc3 xcc4 xcc5 xcc6); obtain ⟨xac1, xac2, xac3, xac4, xac5, xac6⟩ := Xa.out; obtain ⟨xbc1, xbc2, xbc3, xbc4, xbc5, xbc6⟩ := Xb.out; obtain ⟨xcc1, xcc2, xcc3, xcc4, xcc5, xcc6⟩ := Xc.out; clear hb g)
              | (go_at_call 30; (with_reducible refine (V3.out _ b4).mono ?_); rintro e w5 ⟨rfl, hb⟩; have g := hb; have Xa := hide (Xa.out.next g); have Xb := hide (Xb.out.next g); have Xc := hide (Xc.out.next g); have b5 := bl_trans b4 g; (try clear xac1 xac2 xac3 xac4 xac5 xac6); (try clear xbc1 xbc2 xbc3 xbc4 xbc5 xbc6); (try clear xcc1 xcc2 xcc3 xcc4 xcc5 xcc6); obtain ⟨xac1, xac2, xac3, xac4, xac5, xac6⟩ := Xa.out; obtain ⟨xbc1, xbc2, xbc3, xbc4, xbc5, xbc6⟩ := Xb.out; obtain ⟨xcc1, xcc2, xcc3, xcc4, xcc5, xcc6⟩ := Xc.out; clear hb g)
              | (go_at_call 14; (with_reducible refine (AW.out _ b5).mono ?_); rintro e w6 ⟨rfl, hb⟩; have g := hb; have Xa := hide (Xa.out.next g); have Xb := hide (Xb.out.next g); have Xc := hide (Xc.out.next g); have b6 := bl_trans b5 g; (try clear xac1 xac2 xac3 xac4 xac5 xac6); (try clear xbc1 xbc2 xbc3 xbc4 xbc5 xbc6); (try clear xcc1 xcc2 xcc3 xcc4 xcc5 xcc6); obtain ⟨xac1, xac2, xac3, xac4, xac5, xac6⟩ := Xa.out; obtain ⟨xbc1, xbc2, xbc3, xbc4, xbc5, xbc6⟩ := Xb.out; obtain ⟨xcc1, xcc2, xcc3, xcc4, xcc5, xcc6⟩ := Xc.out; clear hb g))
            go_ret
            exact ⟨rfl, b6⟩
          · have V3 := hide (fun W (k : Below w.heap.size w W) => validQ_any s3 A3 B3 a3 b3 xs3 ys3 W (kp' k sA3) (kp' k sB3) lx3 ly3 (by omega) (by omega) true v3)
            obtain ⟨q1, rfl, rfl, rfl⟩ := as_rat lx1 ly1 v1
            obtain ⟨q2, rfl, rfl, rfl⟩ := as_rat lx2 ly2 v2
            obtain ⟨q3, rfl, rfl, rfl⟩ := as_rat lx3 ly3 v3
            by_cases h1 : q1 < q2
            · exact rorder_lt q1 q2 q3 A1 B1 A2 B2 A3 B3 a1 b1 a2 b2 a3 b3 w sA1 sB1 sA2 sB2 sA3 sB3 ⟨hl0.1, hl0.2.1⟩ ⟨hl0.2.2.1, hl0.2.2.2⟩ ⟨hl1.1, hl1.2.1⟩ ht (cmpQ_lt h1)
            · by_cases h2 : q2 < q1
              · exact rorder_gt q1 q2 q3 A1 B1 A2 B2 A3 B3 a1 b1 a2 b2 a3 b3 w sA1 sB1 sA2 sB2 sA3 sB3 ⟨hl0.1, hl0.2.1⟩ ⟨hl0.2.2.1, hl0.2.2.2⟩ ⟨hl1.1, hl1.2.1⟩ ht (by unfold cmpQ; rw [if_neg h1, if_pos h2])
              · exact rorder_eq q1 q2 q3 A1 B1 A2 B2 A3 B3 a1 b1 a2 b2 a3 b3 w sA1 sB1 sA2 sB2 sA3 sB3 ⟨hl0.1, hl0.2.1⟩ ⟨hl0.2.2.1, hl0.2.2.2⟩ ⟨hl1.1, hl1.2.1⟩ ht (by unfold cmpQ; rw [if_neg h1, if_neg h2])
end Nt

end Go.Proofs.YtofofabmidpbhaaGreatDoor
