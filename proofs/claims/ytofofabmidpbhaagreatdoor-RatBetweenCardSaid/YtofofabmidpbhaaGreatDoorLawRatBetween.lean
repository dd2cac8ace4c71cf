
/-
  The law RatBetween.
-/
import Derived.Test.YtofofabmidpbhaaGreatDoorAwake3

namespace Go.Proofs.YtofofabmidpbhaaGreatDoor

open Go.RowKit

namespace Nt

theorem vQ (s : Bool) (xs ys : List Nat) : validQ s xs ys = true ∨ validQ s xs ys = false := by cases validQ s xs ys <;> simp
theorem geq_z (t : TypeId) {x y : Int} (h : y ≤ x) : binOp .geq t (.int .i64 x) (.int .i64 y) = pure (.bool true) := by
  show pure (Value.bool (decide (x ≥ y))) = _
  rw [decide_eq_true h]
theorem leq_z (t : TypeId) {x y : Int} (h : x ≤ y) : binOp .leq t (.int .i64 x) (.int .i64 y) = pure (.bool true) := by
  show pure (Value.bool (decide (x ≤ y))) = _
  rw [decide_eq_true h]
set_option maxRecDepth 100000 in
set_option maxHeartbeats 4000000 in
/-- Of what is no fraction 0 is told. -/
theorem cmp_no (s t : Bool) (A B C D : Option Addr) (a b c d : Nat) (xs ys us vs : List Nat) (w : World) (sA : Sl w A xs) (sB : Sl w B ys) (sC : Sl w C us) (sD : Sl w D vs) (lx : Limbs xs) (ly : Limbs ys) (lu : Limbs us) (lv : Limbs vs)
    (m1 : xs.length ≤ 1000000) (m2 : ys.length ≤ 1000000) (m3 : us.length ≤ 1000000) (m4 : vs.length ≤ 1000000) (h : validQ s xs ys = false ∨ validQ t us vs = false) :
    Calls Tryz.prog 24 #[.agg #[.bool s, .slice A xs.length a, .slice B ys.length b], .agg #[.bool t, .slice C us.length c, .slice D vs.length d]] w fun e w' => e = .returned (.int .i64 0) ∧ Below w.heap.size w w' := by
  obtain ⟨r1, h1⟩ : ∃ r, validQ s xs ys = r := ⟨_, rfl⟩
  obtain ⟨r2, h2⟩ : ∃ r, validQ t us vs = r := ⟨_, rfl⟩
  rw [h1, h2] at h
  have V1 := hide (fun W (k : Below w.heap.size w W) => validQ_any s A B a b xs ys W (kp' k sA) (kp' k sB) lx ly m1 m2 r1 h1)
  have V2 := hide (fun W (k : Below w.heap.size w W) => validQ_any t C D c d us vs W (kp' k sC) (kp' k sD) lu lv m3 m4 r2 h2)
  clear sA sB sC sD lx ly lu lv m1 m2 m3 m4 h1 h2
  generalize xs.length = i1 at *
  generalize ys.length = i2 at *
  generalize us.length = i3 at *
  generalize vs.length = i4 at *
  have X1 := hide ((Q3.new (.bool s) (.slice A i1 a) (.slice B i2 b) w).al (.cells #[.bool t, .slice C i3 c, .slice D i4 d] 24))
  have X2 := hide (Q3.new1 (.bool t) (.slice C i3 c) (.slice D i4 d) w (.cells #[.bool s, .slice A i1 a, .slice B i2 b] 24))
  have b0 : Below w.heap.size w ((w.alloc (.cells #[.bool s, .slice A i1 a, .slice B i2 b] 24)).alloc (.cells #[.bool t, .slice C i3 c, .slice D i4 d] 24)) := bl_al (bl_al (.refl _ _) _) _
  cases r1 with
  | false =>
    go_enter Tryz.func24, Tryz.ntmps24
    go_wp2_with (first
      | (go_at_call 30; (with_reducible refine (V1.out _ b0).mono ?_); rintro e w1 ⟨rfl, hb⟩; have X1 := hide (X1.out.next hb); have X2 := hide (X2.out.next hb); (try clear x1 x2 x3 x4 x5 x6 y1 y2 y3 y4 y5 y6); obtain ⟨x1, x2, x3, x4, x5, x6⟩ := X1.out; obtain ⟨y1, y2, y3, y4, y5, y6⟩ := X2.out; have b1 := bl_trans b0 hb; clear hb))
    go_ret
    exact ⟨rfl, b1⟩
  | true =>
    obtain rfl : r2 = false := by rcases h with h | h; exact absurd h (by decide); exact h
    go_enter Tryz.func24, Tryz.ntmps24
    go_wp2_with (first
      | (go_at_call 30; (with_reducible refine (V1.out _ b0).mono ?_); rintro e w1 ⟨rfl, hb⟩; have X1 := hide (X1.out.next hb); have X2 := hide (X2.out.next hb); (try clear x1 x2 x3 x4 x5 x6 y1 y2 y3 y4 y5 y6); obtain ⟨x1, x2, x3, x4, x5, x6⟩ := X1.out; obtain ⟨y1, y2, y3, y4, y5, y6⟩ := X2.out; have b1 := bl_trans b0 hb; clear hb)
      | (go_at_call 30; (with_reducible refine (V2.out _ b1).mono ?_); rintro e w2 ⟨rfl, hb⟩; have X1 := hide (X1.out.next hb); have X2 := hide (X2.out.next hb); (try clear x1 x2 x3 x4 x5 x6 y1 y2 y3 y4 y5 y6); obtain ⟨x1, x2, x3, x4, x5, x6⟩ := X1.out; obtain ⟨y1, y2, y3, y4, y5, y6⟩ := X2.out; have b2 := bl_trans b1 hb; clear hb))
    go_ret
    exact ⟨rfl, b2⟩

theorem sign_cmpQ (z : Rat) : cmpZ z.num 0 = cmpQ z 0 := by
  rw [cmpQ_Z, show qd 0 = 1 from rfl, show (0 : Rat).num = 0 from rfl, Int.zero_mul, show ((1 : Nat) : Int) = 1 from rfl, Int.mul_one]
theorem cmpQ_gt {q r : Rat} (h : r < q) : cmpQ q r = 1 := by rw [cmpQ_anti, cmpQ_lt h]; rfl
theorem cmpQ_le {q r : Rat} (h : q ≤ r) : cmpQ q r ≤ 0 := by
  rw [cmpQ_anti]
  have := cmpQ_nlt (q := r) (r := q) (Rat.not_lt.2 h)
  omega
theorem cmpQ_ge {q r : Rat} (h : r ≤ q) : 0 ≤ cmpQ q r := cmpQ_nlt (Rat.not_lt.2 h)
theorem bnd_int {z : Int} {k : Nat} (h : z.natAbs < LB ^ k) (hk : 0 < k) : bnd k (z : Rat) := ⟨by rw [qn_int]; exact h, by rw [qd_int]; exact Nat.one_lt_pow (by omega) (by decide)⟩
theorem bnd_near {q r : Rat} (h1 : bnd 10 q) (h2 : bnd 10 r) : bnd 11 (near q r) := by
  have k1 : ∀ x : Rat, bnd 10 x → nxt x < LB ^ 11 := fun x hx => lt_of_ln (nxt_len (ln_le hx.1) (by decide))
  unfold near
  split
  · exact bnd_int (z := 0) (by decide) (by decide)
  · split
    · exact bnd_int (by rw [Int.natAbs_neg]; exact k1 r h2) (by decide)
    · exact bnd_int (k1 q h1) (by decide)
theorem bnd_btw {q r : Rat} (h1 : bnd 10 q) (h2 : bnd 10 r) : bnd 22 (btw q r) := by
  unfold btw
  split
  · exact bnd_mono (bnd_near h1 h2) (by decide)
  · unfold mid
    exact bnd_mul (bnd_add h1 h2) (show bnd 1 (Rat.divInt 1 2) from ⟨by decide, by decide⟩)
theorem qadd_sub (a b : Rat) : a + b - b = a := by
  rw [Rat.sub_eq_add_neg, Rat.add_assoc, ← Rat.sub_eq_add_neg, Rat.sub_self, Rat.add_zero]
theorem btw_int {q r : Rat} (h : q < r) (hd : qd (btw q r) = 1) : btw q r = near q r := by
  have h1 := btw_lt h
  rw [int_of_qd hd] at h1
  unfold btw
  rw [if_pos (near_of h1.1 h1.2)]
theorem near_qd (q r : Rat) : qd (near q r) = 1 := by
  unfold near
  split
  · rfl
  · split <;> exact qd_int _
theorem btw_frac {q r : Rat} (hd : qd (btw q r) ≠ 1) : r ≤ ((q.floor + 1 : Int) : Rat) := by
  refine Rat.not_lt.1 fun h => hd ?_
  have := near_of (Rat.lt_floor_add_one q) h
  unfold btw
  rw [if_pos this]
  exact near_qd q r
theorem btw_zero {q r : Rat} (h : q < r) (h0 : btw q r = 0) : q < 0 ∧ 0 < r := by
  have := btw_lt h
  rwa [h0] at this
/-- A whole one that is not 0, above 0: one less is not above the lower one. -/
theorem btw_up {q r : Rat} (h : q < r) (hd : qd (btw q r) = 1) (hq : 0 ≤ q) : 0 < btw q r ∧ btw q r - 1 ≤ q := by
  refine ⟨lt_trans'' hq (btw_lt h).1, ?_⟩
  rw [btw_int h hd, near_pos hq, Rat.intCast_add, show ((1 : Int) : Rat) = 1 from rfl, qadd_sub]
  exact Rat.floor_le q
theorem btw_down {q r : Rat} (h : q < r) (hd : qd (btw q r) = 1) (h0 : btw q r ≠ 0) (hq : q < 0) : btw q r < 0 ∧ r ≤ 0 ∧ r ≤ btw q r + 1 := by
  have hr : r ≤ 0 := by
    refine Rat.not_lt.1 fun k => h0 ?_
    rw [btw_int h hd]; exact near_zero hq k
  refine ⟨lt_trans' (btw_lt h).2 hr, hr, ?_⟩
  rw [btw_int h hd, near_neg hq hr]
  have h1 : ((-r).floor : Rat) ≤ -r := Rat.floor_le (-r)
  have h2 := Rat.neg_le_neg h1
  rw [Rat.neg_neg] at h2
  have e : ((-((-r).floor + 1) : Int) : Rat) + 1 = -((-r).floor : Rat) := by
    rw [show (1 : Rat) = ((1 : Int) : Rat) from rfl, ← Rat.intCast_add, ← Rat.intCast_neg, show -((-r).floor + 1) + 1 = -(-r).floor by omega]
  rw [e]; exact h2

/-- What stays: all that was there, rows of limbs, the cells of four fractions. -/
def KS (w : World) (l : List (Option Addr × Nat)) (g1 g2 g3 g4 : Nat) (u1 v1 x1 u2 v2 x2 u3 v3 x3 u4 v4 x4 : Value) (W : World) : Prop := K5 w l W ∧ Q3 g1 u1 v1 x1 W ∧ Q3 g2 u2 v2 x2 W ∧ Q3 g3 u3 v3 x3 W ∧ Q3 g4 u4 v4 x4 W
theorem KS.next {w W W' : World} {l : List (Option Addr × Nat)} {g1 g2 g3 g4 : Nat} {u1 v1 x1 u2 v2 x2 u3 v3 x3 u4 v4 x4 : Value} (k : KS w l g1 g2 g3 g4 u1 v1 x1 u2 v2 x2 u3 v3 x3 u4 v4 x4 W) (hb : Below W.heap.size W W') : KS w l g1 g2 g3 g4 u1 v1 x1 u2 v2 x2 u3 v3 x3 u4 v4 x4 W' := ⟨k.1.next hb, k.2.1.next hb, k.2.2.1.next hb, k.2.2.2.1.next hb, k.2.2.2.2.next hb⟩
theorem KS.drew {w W : World} {l : List (Option Addr × Nat)} {g1 g2 g3 g4 : Nat} {u1 v1 x1 u2 v2 x2 u3 v3 x3 u4 v4 x4 : Value} (k : KS w l g1 g2 g3 g4 u1 v1 x1 u2 v2 x2 u3 v3 x3 u4 v4 x4 W) : KS w l g1 g2 g3 g4 u1 v1 x1 u2 v2 x2 u3 v3 x3 u4 v4 x4 W.drew := ⟨k.1.drew, k.2.1, k.2.2.1, k.2.2.2.1, k.2.2.2.2⟩
theorem KS.k {w W : World} {l : List (Option Addr × Nat)} {g1 g2 g3 g4 : Nat} {u1 v1 x1 u2 v2 x2 u3 v3 x3 u4 v4 x4 : Value} (k : KS w l g1 g2 g3 g4 u1 v1 x1 u2 v2 x2 u3 v3 x3 u4 v4 x4 W) : K5 w l W := k.1
theorem ks3 {c1 c2 c3 k : Prop} (h : c1 ∧ c2 ∧ c3 ∧ k) : k := h.2.2.2
theorem SS_next {w w' : World} (hb : Below w.heap.size w w') {p1 p2 p3 : Addr} {v1 v2 v3 : Value} {w0 : World} {l : List (Option Addr × Nat)} {g1 g2 g3 g4 : Nat} {a1 b1 e1 a2 b2 e2 a3 b3 e3 a4 b4 e4 : Value}
    (h : w.cell? p1 = some v1 ∧ w.cell? p2 = some v2 ∧ w.cell? p3 = some v3 ∧ KS w0 l g1 g2 g3 g4 a1 b1 e1 a2 b2 e2 a3 b3 e3 a4 b4 e4 w) : w'.cell? p1 = some v1 ∧ w'.cell? p2 = some v2 ∧ w'.cell? p3 = some v3 ∧ KS w0 l g1 g2 g3 g4 a1 b1 e1 a2 b2 e2 a3 b3 e3 a4 b4 e4 w' :=
  ⟨cell_next hb h.1, cell_next hb h.2.1, cell_next hb h.2.2.1, h.2.2.2.next hb⟩
/-- A block's three cells. -/
def T3 (g : Nat) (u v x : Value) (w : World) : Prop := w.cell? ⟨g, 0, none⟩ = some u ∧ w.cell? ⟨g, 1, none⟩ = some v ∧ w.cell? ⟨g, 2, none⟩ = some x ∧ True ∧ True ∧ True
theorem T3.next {g : Nat} {u v x : Value} {w w' : World} (h : T3 g u v x w) (hb : Below w.heap.size w w') : T3 g u v x w' := ⟨cell_next hb h.1, cell_next hb h.2.1, cell_next hb h.2.2.1, trivial, trivial, trivial⟩
theorem T3.over {g h : Nat} {u v x : Value} {w : World} (k : Q3 g u v x w) (hne : g ≠ h) (a b c : Value) : T3 g u v x (((w.setCell ⟨h, 0, none⟩ a).setCell ⟨h, 1, none⟩ b).setCell ⟨h, 2, none⟩ c) :=
  ⟨cell_over3 k.1 hne a b c, cell_over3 k.2.1 hne a b c, cell_over3 k.2.2.1 hne a b c, trivial, trivial, trivial⟩
theorem T3.set {g : Nat} {u v x : Value} {w : World} (k : Q3 g u v x w) (a b c : Value) : T3 g a b c (((w.setCell ⟨g, 0, none⟩ a).setCell ⟨g, 1, none⟩ b).setCell ⟨g, 2, none⟩ c) := by
  have ne : ∀ {i j : Nat}, i ≠ j → (⟨g, i, none⟩ : Addr) ≠ ⟨g, j, none⟩ := by
    intro i j hh e
    injection e with _ e2 _
    exact hh e2
  obtain ⟨k1, k2, k3, _⟩ := k
  refine ⟨?_, ?_, ?_, trivial, trivial, trivial⟩
  · rw [World.cell?_setCell_other _ _ _ _ (ne (by decide)), World.cell?_setCell_other _ _ _ _ (ne (by decide))]
    exact World.cell?_setCell_same _ _ _ k1
  · rw [World.cell?_setCell_other _ _ _ _ (ne (by decide))]
    exact World.cell?_setCell_same _ _ _ (by rw [World.cell?_setCell_other _ _ _ _ (ne (by decide))]; exact k2)
  · exact World.cell?_setCell_same _ _ _ (by rw [World.cell?_setCell_other _ _ _ _ (ne (by decide)), World.cell?_setCell_other _ _ _ _ (ne (by decide))]; exact k3)

set_option maxRecDepth 100000 in
set_option maxHeartbeats 16000000 in
theorem between_zero (q1 q2 Z : Rat) (A1 B1 A2 B2 : Option Addr) (a1 e1 a2 e2 : Nat) (w : World) (sA1 : Sl w A1 (digs (qn q1))) (sB1 : Sl w B1 (digs (qd q1))) (sA2 : Sl w A2 (digs (qn q2))) (sB2 : Sl w B2 (digs (qd q2))) (g1 : ln (qn q1) ≤ 10 ∧ ln (qd q1) ≤ 10) (g2 : ln (qn q2) ≤ 10 ∧ ln (qd q2) ≤ 10) (ht : Pow10 w) (h : q1 < q2) (hZ : btw q1 q2 = Z) (h0 : Z = 0) :
    Calls Tryz.prog 5 #[.agg #[.bool (qs q1), .slice A1 (ln (qn q1)) a1, .slice B1 (ln (qd q1)) e1], .agg #[.bool (qs q2), .slice A2 (ln (qn q2)) a2, .slice B2 (ln (qd q2)) e2]] w fun e w' => e = .returned (.bool true) ∧ Below w.heap.size w w' := by
  have AW := hide (fun W (k : Below w.heap.size w W) => awake3_any W (pow_below ht k))
  have f1 : fitq q1 := ⟨by omega, by omega⟩
  have f2 : fitq q2 := ⟨by omega, by omega⟩
  have n1 : bnd 10 q1 := ⟨lt_of_ln g1.1, lt_of_ln g1.2⟩
  have n2 : bnd 10 q2 := ⟨lt_of_ln g2.1, lt_of_ln g2.2⟩
  have nz : bnd 22 Z := by rw [← hZ]; exact bnd_btw n1 n2
  have fz : fitq Z := fitq_bnd nz (by decide)
  have hl := btw_lt h
  rw [hZ] at hl
  obtain ⟨E, hE⟩ : ∃ x, x = Rat.divInt 1 1 := ⟨_, rfl⟩
  obtain ⟨O, hO⟩ : ∃ x, x = Rat.divInt 0 1 := ⟨_, rfl⟩
  have hE1 : E = 1 := by rw [hE]; decide
  have hO0 : O = 0 := by rw [hO]; decide
  have fE : fitq E := by rw [hE]; exact fit_small (by decide) (by decide)
  have fO : fitq O := by rw [hO]; exact fit_small (by decide) (by decide)
  have nE : bnd 1 E := by rw [hE]; exact ⟨by decide, by decide⟩
  have O1 := hide (fun W (_ : Below w.heap.size w W) => of_pos 1 1 E W (by decide) (by decide) (by decide) (by decide) (by decide) (by rw [hE]; exact qmk_divInt 1 1 (by decide)))
  have O0 := hide (fun W (_ : Below w.heap.size w W) => of_pos 0 1 O W (by decide) (by decide) (by decide) (by decide) (by decide) (by rw [hO]; exact qmk_divInt 0 1 (by decide)))
  have FW0 := hide (fun W (_ : Below w.heap.size w W) => few_any (qs q1) (qs q2) A1 B1 A2 B2 a1 e1 a2 e2 (ln (qn q1)) (ln (qd q1)) (ln (qn q2)) (ln (qd q2)) W true (decide_eq_true ⟨g1.1, g1.2, g2.1, g2.2⟩))
  have V1 := hide (fun W (k : Below w.heap.size w W) => valid_q q1 A1 B1 a1 e1 W (kp' k sA1) (kp' k sB1) f1.1 f1.2)
  have V2 := hide (fun W (k : Below w.heap.size w W) => valid_q q2 A2 B2 a2 e2 W (kp' k sA2) (kp' k sB2) f2.1 f2.2)
  have C1 := hide (fun W (k : Below w.heap.size w W) => cmp_q q1 q2 A1 B1 A2 B2 a1 e1 a2 e2 W (kp' k sA1) (kp' k sB1) (kp' k sA2) (kp' k sB2) f1 f2 _ (cmpQ_lt h))
  have BT := hide (fun W (k : Below w.heap.size w W) => between_q q1 q2 _ Z h rfl hZ A1 B1 A2 B2 a1 e1 a2 e2 W (kp' k sA1) (kp' k sB1) (kp' k sA2) (kp' k sB2) f1 f2 fz)
  have C2 := hide (fun X Y e f W (k : Below w.heap.size w W) s1 s2 => cmp_q q1 Z A1 B1 X Y a1 e1 e f W (kp' k sA1) (kp' k sB1) s1 s2 f1 fz _ (cmpQ_lt hl.1))
  have C3 := hide (fun X Y e f W (k : Below w.heap.size w W) s1 s2 => cmp_q Z q2 X Y A2 B2 e f a2 e2 W s1 s2 (kp' k sA2) (kp' k sB2) fz f2 _ (cmpQ_lt hl.2))
  have en : binOp .neq 27 (.int .i64 0) (.int .i64 0) = pure (.bool false) := rfl
  have e0 : binOp .eql 27 (.int .i64 0) (.int .i64 0) = pure (.bool true) := rfl
  have o1 : binOp .geq 3 (.int .i64 (-1)) (.int .i64 0) = pure (.bool false) := rfl
  have o2 : binOp .lss 3 (.int .i64 (-1)) (.int .i64 0) = pure (.bool true) := rfl
  have o3 : binOp .lss 3 (.int .i64 1) (.int .i64 0) = pure (.bool false) := rfl
  have o4 : binOp .gtr 3 (.int .i64 1) (.int .i64 0) = pure (.bool true) := rfl
  have o5 : binOp .leq 3 (.int .i64 1) (.int .i64 0) = pure (.bool false) := rfl
  have hs : q1 < 0 ∧ 0 < q2 := btw_zero h (by rw [hZ]; exact h0)
  have SM := hide (fun X Y P R e f g i W (_ : Below w.heap.size w W) s1 s2 s3 s4 => same3_q Z O X Y P R e f g i W s1 s2 s3 s4 fz fO true (by rw [hO0, h0]; rfl))
  have S1 := hide (fun W (k : Below w.heap.size w W) => sign_q q1 A1 B1 a1 e1 W (kp' k sA1) (kp' k sB1) f1 (-1) (by rw [sign_cmpQ]; exact cmpQ_lt hs.1))
  have S2 := hide (fun W (k : Below w.heap.size w W) => sign_q q2 A2 B2 a2 e2 W (kp' k sA2) (kp' k sB2) f2 1 (by rw [sign_cmpQ]; exact cmpQ_gt hs.2))
  clear hs h0
  clear n1 n2 nz f1 f2 fz hl hE hO hE1 hO0 fE fO nE g1 g2 ht h hZ sA1 sB1 sA2 sB2
  generalize qs q1 = s1 at *
  generalize ln (qn q1) = i1 at *
  generalize ln (qd q1) = j1 at *
  generalize qs q2 = s2 at *
  generalize ln (qn q2) = i2 at *
  generalize ln (qd q2) = j2 at *
  have Xa := hide ((Q3.new (.bool s1) (.slice A1 i1 a1) (.slice B1 j1 e1) w ).al (.cells #[.bool s2, .slice A2 i2 a2, .slice B2 j2 e2] 24))
  have Xb := hide (Q3.new1 (.bool s2) (.slice A2 i2 a2) (.slice B2 j2 e2) w (.cells #[.bool s1, .slice A1 i1 a1, .slice B1 j1 e1] 24))
  have b0 : Below w.heap.size w ((w.alloc (.cells #[.bool s1, .slice A1 i1 a1, .slice B1 j1 e1] 24)).alloc (.cells #[.bool s2, .slice A2 i2 a2, .slice B2 j2 e2] 24)) := (bl_al (bl_al (.refl _ _) _) _)
  go_enter Tryz.func5, Tryz.ntmps5
  go_wp2_with (first
    | (go_at_call 13; (with_reducible refine (FW0.out _ b0).mono ?_); rintro e w1 ⟨rfl, hb⟩; have g := hb; have Xa := hide (Xa.out.next g); have Xb := hide (Xb.out.next g); have b1 := bl_trans b0 g; obtain ⟨xac1, xac2, xac3, xac4, xac5, xac6⟩ := Xa.out; obtain ⟨xbc1, xbc2, xbc3, xbc4, xbc5, xbc6⟩ := Xb.out; clear hb g)
    | (go_at_call 24; (with_reducible refine (C1.out _ b1).mono ?_); rintro e w2 ⟨rfl, hb⟩; have g := hb; have Xa := hide (Xa.out.next g); have Xb := hide (Xb.out.next g); have b2 := bl_trans b1 g; (try clear xac1 xac2 xac3 xac4 xac5 xac6); (try clear xbc1 xbc2 xbc3 xbc4 xbc5 xbc6); obtain ⟨xac1, xac2, xac3, xac4, xac5, xac6⟩ := Xa.out; obtain ⟨xbc1, xbc2, xbc3, xbc4, xbc5, xbc6⟩ := Xb.out; clear hb g)
    | (go_at_call 30; (with_reducible refine (V1.out _ b2).mono ?_); rintro e w3 ⟨rfl, hb⟩; have g := hb; have Xa := hide (Xa.out.next g); have Xb := hide (Xb.out.next g); have b3 := bl_trans b2 g; (try clear xac1 xac2 xac3 xac4 xac5 xac6); (try clear xbc1 xbc2 xbc3 xbc4 xbc5 xbc6); obtain ⟨xac1, xac2, xac3, xac4, xac5, xac6⟩ := Xa.out; obtain ⟨xbc1, xbc2, xbc3, xbc4, xbc5, xbc6⟩ := Xb.out; clear hb g)
    | (go_at_call 30; (with_reducible refine (V2.out _ b3).mono ?_); rintro e w4 ⟨rfl, hb⟩; have g := hb; have Xa := hide (Xa.out.next g); have Xb := hide (Xb.out.next g); have b4 := bl_trans b3 g; (try clear xac1 xac2 xac3 xac4 xac5 xac6); (try clear xbc1 xbc2 xbc3 xbc4 xbc5 xbc6); obtain ⟨xac1, xac2, xac3, xac4, xac5, xac6⟩ := Xa.out; obtain ⟨xbc1, xbc2, xbc3, xbc4, xbc5, xbc6⟩ := Xb.out; clear hb g)
    | (go_at_call 32; (with_reducible refine (BT.out _ b4).mono ?_); rintro e w5 ⟨A5, c5, B5, d5, rfl, s5, t5, hb⟩; have g := hb; have Xa := hide (Xa.out.next g); have Xb := hide (Xb.out.next g); have b5 := bl_trans b4 g; (try clear xac1 xac2 xac3 xac4 xac5 xac6); (try clear xbc1 xbc2 xbc3 xbc4 xbc5 xbc6); obtain ⟨xac1, xac2, xac3, xac4, xac5, xac6⟩ := Xa.out; obtain ⟨xbc1, xbc2, xbc3, xbc4, xbc5, xbc6⟩ := Xb.out; have xad1 := fun X => (Xa.out.al X).1; have xad2 := fun X => (Xa.out.al X).2.1; have xad3 := fun X => (Xa.out.al X).2.2.1; have xbd1 := fun X => (Xb.out.al X).1; have xbd2 := fun X => (Xb.out.al X).2.1; have xbd3 := fun X => (Xb.out.al X).2.2.1; clear hb g)
    | (go_at_call 24; (with_reducible refine (C2.out A5 B5 c5 d5 _ (bl_al b5 _) (s5.alloc _) (t5.alloc _)).mono ?_); rintro e w6 ⟨rfl, hb⟩; have g := (bl_one hb); have Y1 := hide ((Q3.new (.bool (qs Z)) (.slice A5 (ln (qn Z)) c5) (.slice B5 (ln (qd Z)) d5) w5).next hb); have s5 := kp' g s5; have t5 := kp' g t5; have Xa := hide (Xa.out.next g); have Xb := hide (Xb.out.next g); have b6 := bl_trans b5 g; clear xad1 xad2 xad3 xbd1 xbd2 xbd3; (try clear xac1 xac2 xac3 xac4 xac5 xac6); (try clear xbc1 xbc2 xbc3 xbc4 xbc5 xbc6); obtain ⟨xac1, xac2, xac3, xac4, xac5, xac6⟩ := Xa.out; obtain ⟨xbc1, xbc2, xbc3, xbc4, xbc5, xbc6⟩ := Xb.out; obtain ⟨y1c1, y1c2, y1c3, y1c4, y1c5, y1c6⟩ := Y1.out; clear hb g)
    | (go_at_call 24; (with_reducible refine (C3.out A5 B5 c5 d5 _ b6 s5 t5).mono ?_); rintro e w7 ⟨rfl, hb⟩; have g := hb; have s5 := kp' g s5; have t5 := kp' g t5; have Xa := hide (Xa.out.next g); have Xb := hide (Xb.out.next g); have Y1 := hide (Y1.out.next g); have b7 := bl_trans b6 g; (try clear xac1 xac2 xac3 xac4 xac5 xac6); (try clear xbc1 xbc2 xbc3 xbc4 xbc5 xbc6); (try clear y1c1 y1c2 y1c3 y1c4 y1c5 y1c6); obtain ⟨xac1, xac2, xac3, xac4, xac5, xac6⟩ := Xa.out; obtain ⟨xbc1, xbc2, xbc3, xbc4, xbc5, xbc6⟩ := Xb.out; obtain ⟨y1c1, y1c2, y1c3, y1c4, y1c5, y1c6⟩ := Y1.out; clear hb g)
    | (go_at_call 33; (with_reducible refine (O1.out _ b7).mono ?_); rintro e w8 ⟨A8, c8, B8, d8, rfl, s8, t8, hb⟩; have g := hb; have s5 := kp' g s5; have t5 := kp' g t5; have Xa := hide (Xa.out.next g); have Xb := hide (Xb.out.next g); have Y1 := hide (Y1.out.next g); have b8 := bl_trans b7 g; (try clear xac1 xac2 xac3 xac4 xac5 xac6); (try clear xbc1 xbc2 xbc3 xbc4 xbc5 xbc6); (try clear y1c1 y1c2 y1c3 y1c4 y1c5 y1c6); obtain ⟨xac1, xac2, xac3, xac4, xac5, xac6⟩ := Xa.out; obtain ⟨xbc1, xbc2, xbc3, xbc4, xbc5, xbc6⟩ := Xb.out; obtain ⟨y1c1, y1c2, y1c3, y1c4, y1c5, y1c6⟩ := Y1.out; clear hb g))
  have kz : Hid (KS w [(A5, qn Z), (B5, qd Z), (A8, qn E), (B8, qd E)] (w.heap.size) (w.heap.size + 1) w5.heap.size w8.heap.size (.bool s1) (.slice A1 i1 a1) (.slice B1 j1 e1) (.bool s2) (.slice A2 i2 a2) (.slice B2 j2 e2) (.bool (qs Z)) (.slice A5 (ln (qn Z)) c5) (.slice B5 (ln (qd Z)) d5) (.bool (qs E)) (.slice A8 (ln (qn E)) c8) (.slice B8 (ln (qd E)) d8) (w8.alloc (.cells #[.bool (qs E), .slice A8 (ln (qn E)) c8, .slice B8 (ln (qd E)) d8] 24))) := hide ⟨(K5.cons (K5.cons (K5.cons (K5.cons (K5.nil (bl_al b8 (.cells #[.bool (qs E), .slice A8 (ln (qn E)) c8, .slice B8 (ln (qd E)) d8] 24))) (t8.alloc (.cells #[.bool (qs E), .slice A8 (ln (qn E)) c8, .slice B8 (ln (qd E)) d8] 24))) (s8.alloc (.cells #[.bool (qs E), .slice A8 (ln (qn E)) c8, .slice B8 (ln (qd E)) d8] 24))) (t5.alloc (.cells #[.bool (qs E), .slice A8 (ln (qn E)) c8, .slice B8 (ln (qd E)) d8] 24))) (s5.alloc (.cells #[.bool (qs E), .slice A8 (ln (qn E)) c8, .slice B8 (ln (qd E)) d8] 24))), Xa.out.al _, Xb.out.al _, Y1.out.al _, Q3.new _ _ _ _⟩
  have kd := hide kz.out.drew
  have z1 := kz.out.2.2.2.1.1
  have z2 := kz.out.2.2.2.1.2.1
  have z3 := kz.out.2.2.2.1.2.2.1
  clear Xa Xb Y1 b0 b1 b2 b3 b4 b5 b6 b7 b8 s5 t5 s8 t8
  (try clear xac1 xac2 xac3 xac4 xac5 xac6 xbc1 xbc2 xbc3 xbc4 xbc5 xbc6 y1c1 y1c2 y1c3 y1c4 y1c5 y1c6)
  go_region_held3 (fun W => W.cell? ⟨w5.heap.size, 0, none⟩ = some (.bool (qs Z)) ∧ W.cell? ⟨w5.heap.size, 1, none⟩ = some (.slice A5 (ln (qn Z)) c5) ∧ W.cell? ⟨w5.heap.size, 2, none⟩ = some (.slice B5 (ln (qd Z)) d5) ∧ KS w [(A5, qn Z), (B5, qd Z), (A8, qn E), (B8, qd E)] (w.heap.size) (w.heap.size + 1) w5.heap.size w8.heap.size (.bool s1) (.slice A1 i1 a1) (.slice B1 j1 e1) (.bool s2) (.slice A2 i2 a2) (.slice B2 j2 e2) (.bool (qs Z)) (.slice A5 (ln (qn Z)) c5) (.slice B5 (ln (qd Z)) d5) (.bool (qs E)) (.slice A8 (ln (qn E)) c8) (.slice B8 (ln (qd E)) d8) W)
    (first | exact ⟨z1, z2, z3, kz.out⟩ | exact ⟨z1, z2, z3, kd.out⟩ | with_reducible exact SS_next hb (by assumption) | with_reducible assumption)
    (first
      | (go_at_call 33; (with_reducible refine (O0.out _ (K5.b (KS.k (ks3 (by assumption))))).mono ?_); rintro e v1 ⟨P1, p1, R1, r1, rfl, y1, y2, hb⟩)
      | (go_at_call 23; (with_reducible refine (SM.out A5 B5 P1 R1 c5 d5 p1 r1 _ (K5.b (KS.k (ks3 (by assumption)))) (K5.sl (KS.k (ks3 (by assumption))) mem1) (K5.sl (KS.k (ks3 (by assumption))) mem2) y1 y2).mono ?_); rintro e v2 ⟨rfl, hb⟩))
  rename_i hS
  have kk := hide (ks3 hS)
  clear hS kz kd z1 z2 z3
  have b10 := K5.b kk.out.1
  have s5 := K5.sl kk.out.1 mem1
  have t5 := K5.sl kk.out.1 mem2
  have s8 := K5.sl kk.out.1 mem3
  have t8 := K5.sl kk.out.1 mem4
  have Xa := hide kk.out.2.1
  have Xb := hide kk.out.2.2.1
  have Y1 := hide kk.out.2.2.2.1
  have Y2 := hide kk.out.2.2.2.2
  clear kk
  obtain ⟨xac1, xac2, xac3, xac4, xac5, xac6⟩ := Xa.out
  obtain ⟨xbc1, xbc2, xbc3, xbc4, xbc5, xbc6⟩ := Xb.out
  obtain ⟨y1c1, y1c2, y1c3, y1c4, y1c5, y1c6⟩ := Y1.out
  obtain ⟨y2c1, y2c2, y2c3, y2c4, y2c5, y2c6⟩ := Y2.out
  go_wp2_with (first
    | (go_at_call 26; (with_reducible refine (S1.out _ b10).mono ?_); rintro e w11 ⟨rfl, hb⟩; have g := hb; have s5 := kp' g s5; have t5 := kp' g t5; have s8 := kp' g s8; have t8 := kp' g t8; have Xa := hide (Xa.out.next g); have Xb := hide (Xb.out.next g); have Y1 := hide (Y1.out.next g); have Y2 := hide (Y2.out.next g); have b11 := bl_trans b10 g; (try clear xac1 xac2 xac3 xac4 xac5 xac6); (try clear xbc1 xbc2 xbc3 xbc4 xbc5 xbc6); (try clear y1c1 y1c2 y1c3 y1c4 y1c5 y1c6); (try clear y2c1 y2c2 y2c3 y2c4 y2c5 y2c6); obtain ⟨xac1, xac2, xac3, xac4, xac5, xac6⟩ := Xa.out; obtain ⟨xbc1, xbc2, xbc3, xbc4, xbc5, xbc6⟩ := Xb.out; obtain ⟨y1c1, y1c2, y1c3, y1c4, y1c5, y1c6⟩ := Y1.out; obtain ⟨y2c1, y2c2, y2c3, y2c4, y2c5, y2c6⟩ := Y2.out; clear hb g)
    | (go_at_call 26; (with_reducible refine (S2.out _ b11).mono ?_); rintro e w12 ⟨rfl, hb⟩; have g := hb; have s5 := kp' g s5; have t5 := kp' g t5; have s8 := kp' g s8; have t8 := kp' g t8; have Xa := hide (Xa.out.next g); have Xb := hide (Xb.out.next g); have Y1 := hide (Y1.out.next g); have Y2 := hide (Y2.out.next g); have b12 := bl_trans b11 g; (try clear xac1 xac2 xac3 xac4 xac5 xac6); (try clear xbc1 xbc2 xbc3 xbc4 xbc5 xbc6); (try clear y1c1 y1c2 y1c3 y1c4 y1c5 y1c6); (try clear y2c1 y2c2 y2c3 y2c4 y2c5 y2c6); obtain ⟨xac1, xac2, xac3, xac4, xac5, xac6⟩ := Xa.out; obtain ⟨xbc1, xbc2, xbc3, xbc4, xbc5, xbc6⟩ := Xb.out; obtain ⟨y1c1, y1c2, y1c3, y1c4, y1c5, y1c6⟩ := Y1.out; obtain ⟨y2c1, y2c2, y2c3, y2c4, y2c5, y2c6⟩ := Y2.out; clear hb g)
    | (go_at_call 14; (with_reducible refine (AW.out _ b12).mono ?_); rintro e w13 ⟨rfl, hb⟩; have g := hb; have s5 := kp' g s5; have t5 := kp' g t5; have s8 := kp' g s8; have t8 := kp' g t8; have Xa := hide (Xa.out.next g); have Xb := hide (Xb.out.next g); have Y1 := hide (Y1.out.next g); have Y2 := hide (Y2.out.next g); have b13 := bl_trans b12 g; (try clear xac1 xac2 xac3 xac4 xac5 xac6); (try clear xbc1 xbc2 xbc3 xbc4 xbc5 xbc6); (try clear y1c1 y1c2 y1c3 y1c4 y1c5 y1c6); (try clear y2c1 y2c2 y2c3 y2c4 y2c5 y2c6); obtain ⟨xac1, xac2, xac3, xac4, xac5, xac6⟩ := Xa.out; obtain ⟨xbc1, xbc2, xbc3, xbc4, xbc5, xbc6⟩ := Xb.out; obtain ⟨y1c1, y1c2, y1c3, y1c4, y1c5, y1c6⟩ := Y1.out; obtain ⟨y2c1, y2c2, y2c3, y2c4, y2c5, y2c6⟩ := Y2.out; clear hb g))
  go_ret
  exact ⟨rfl, b13⟩

set_option maxRecDepth 100000 in
set_option maxHeartbeats 16000000 in
theorem between_pos (q1 q2 Z : Rat) (A1 B1 A2 B2 : Option Addr) (a1 e1 a2 e2 : Nat) (w : World) (sA1 : Sl w A1 (digs (qn q1))) (sB1 : Sl w B1 (digs (qd q1))) (sA2 : Sl w A2 (digs (qn q2))) (sB2 : Sl w B2 (digs (qd q2))) (g1 : ln (qn q1) ≤ 10 ∧ ln (qd q1) ≤ 10) (g2 : ln (qn q2) ≤ 10 ∧ ln (qd q2) ≤ 10) (ht : Pow10 w) (h : q1 < q2) (hZ : btw q1 q2 = Z) (h0 : Z ≠ 0) (hd : qd Z = 1) (hq : 0 ≤ q1) :
    Calls Tryz.prog 5 #[.agg #[.bool (qs q1), .slice A1 (ln (qn q1)) a1, .slice B1 (ln (qd q1)) e1], .agg #[.bool (qs q2), .slice A2 (ln (qn q2)) a2, .slice B2 (ln (qd q2)) e2]] w fun e w' => e = .returned (.bool true) ∧ Below w.heap.size w w' := by
  have AW := hide (fun W (k : Below w.heap.size w W) => awake3_any W (pow_below ht k))
  have f1 : fitq q1 := ⟨by omega, by omega⟩
  have f2 : fitq q2 := ⟨by omega, by omega⟩
  have n1 : bnd 10 q1 := ⟨lt_of_ln g1.1, lt_of_ln g1.2⟩
  have n2 : bnd 10 q2 := ⟨lt_of_ln g2.1, lt_of_ln g2.2⟩
  have nz : bnd 22 Z := by rw [← hZ]; exact bnd_btw n1 n2
  have fz : fitq Z := fitq_bnd nz (by decide)
  have hl := btw_lt h
  rw [hZ] at hl
  obtain ⟨E, hE⟩ : ∃ x, x = Rat.divInt 1 1 := ⟨_, rfl⟩
  obtain ⟨O, hO⟩ : ∃ x, x = Rat.divInt 0 1 := ⟨_, rfl⟩
  have hE1 : E = 1 := by rw [hE]; decide
  have hO0 : O = 0 := by rw [hO]; decide
  have fE : fitq E := by rw [hE]; exact fit_small (by decide) (by decide)
  have fO : fitq O := by rw [hO]; exact fit_small (by decide) (by decide)
  have nE : bnd 1 E := by rw [hE]; exact ⟨by decide, by decide⟩
  have O1 := hide (fun W (_ : Below w.heap.size w W) => of_pos 1 1 E W (by decide) (by decide) (by decide) (by decide) (by decide) (by rw [hE]; exact qmk_divInt 1 1 (by decide)))
  have O0 := hide (fun W (_ : Below w.heap.size w W) => of_pos 0 1 O W (by decide) (by decide) (by decide) (by decide) (by decide) (by rw [hO]; exact qmk_divInt 0 1 (by decide)))
  have FW0 := hide (fun W (_ : Below w.heap.size w W) => few_any (qs q1) (qs q2) A1 B1 A2 B2 a1 e1 a2 e2 (ln (qn q1)) (ln (qd q1)) (ln (qn q2)) (ln (qd q2)) W true (decide_eq_true ⟨g1.1, g1.2, g2.1, g2.2⟩))
  have V1 := hide (fun W (k : Below w.heap.size w W) => valid_q q1 A1 B1 a1 e1 W (kp' k sA1) (kp' k sB1) f1.1 f1.2)
  have V2 := hide (fun W (k : Below w.heap.size w W) => valid_q q2 A2 B2 a2 e2 W (kp' k sA2) (kp' k sB2) f2.1 f2.2)
  have C1 := hide (fun W (k : Below w.heap.size w W) => cmp_q q1 q2 A1 B1 A2 B2 a1 e1 a2 e2 W (kp' k sA1) (kp' k sB1) (kp' k sA2) (kp' k sB2) f1 f2 _ (cmpQ_lt h))
  have BT := hide (fun W (k : Below w.heap.size w W) => between_q q1 q2 _ Z h rfl hZ A1 B1 A2 B2 a1 e1 a2 e2 W (kp' k sA1) (kp' k sB1) (kp' k sA2) (kp' k sB2) f1 f2 fz)
  have C2 := hide (fun X Y e f W (k : Below w.heap.size w W) s1 s2 => cmp_q q1 Z A1 B1 X Y a1 e1 e f W (kp' k sA1) (kp' k sB1) s1 s2 f1 fz _ (cmpQ_lt hl.1))
  have C3 := hide (fun X Y e f W (k : Below w.heap.size w W) s1 s2 => cmp_q Z q2 X Y A2 B2 e f a2 e2 W s1 s2 (kp' k sA2) (kp' k sB2) fz f2 _ (cmpQ_lt hl.2))
  have en : binOp .neq 27 (.int .i64 0) (.int .i64 0) = pure (.bool false) := rfl
  have e0 : binOp .eql 27 (.int .i64 0) (.int .i64 0) = pure (.bool true) := rfl
  have o1 : binOp .geq 3 (.int .i64 (-1)) (.int .i64 0) = pure (.bool false) := rfl
  have o2 : binOp .lss 3 (.int .i64 (-1)) (.int .i64 0) = pure (.bool true) := rfl
  have o3 : binOp .lss 3 (.int .i64 1) (.int .i64 0) = pure (.bool false) := rfl
  have o4 : binOp .gtr 3 (.int .i64 1) (.int .i64 0) = pure (.bool true) := rfl
  have o5 : binOp .leq 3 (.int .i64 1) (.int .i64 0) = pure (.bool false) := rfl
  have hs : 0 < Z ∧ Z - 1 ≤ q1 := by
    rw [← hZ]
    exact btw_up h (by rw [hZ]; exact hd) hq
  have SM := hide (fun X Y P R e f g i W (_ : Below w.heap.size w W) s1 s2 s3 s4 => same3_q Z O X Y P R e f g i W s1 s2 s3 s4 fz fO false (by rw [hO0]; exact decide_eq_false h0))
  have SL := hide (fun X Y e f W (_ : Below w.heap.size w W) s1 s2 => lsame_z X Y e f (ln (qd Z)) (ln (qd E)) (digs (qd Z)) (digs (qd E)) W s1 s2 rfl rfl (Nat.le_trans fz.2 (by decide)) (Nat.le_trans fE.2 (by decide)) true (by rw [hE1, hd, show qd 1 = 1 from rfl]; exact decide_eq_true rfl))
  have SX := hide (fun X Y e f W (_ : Below w.heap.size w W) s1 s2 => sign_q Z X Y e f W s1 s2 fz 1 (by rw [sign_cmpQ]; exact cmpQ_gt hs.1))
  obtain ⟨M, hM⟩ : ∃ x, Z - E = x := ⟨_, rfl⟩
  have fM : fitq M := by rw [← hM, Rat.sub_eq_add_neg]; exact fitq_bnd (bnd_add nz (bnd_neg nE)) (by decide)
  have SB := hide (fun X Y P R e f g i W (_ : Below w.heap.size w W) s1 s2 s3 s4 => sub_q Z E M hM X Y P R e f g i W s1 s2 s3 s4 fz fE fM)
  obtain ⟨k, hk⟩ : ∃ k, cmpQ M q1 = k := ⟨_, rfl⟩
  have k0 : k ≤ 0 := by rw [← hk]; exact cmpQ_le (by rw [← hM, hE1]; exact hs.2)
  have CN := hide (fun X Y e f W (k' : Below w.heap.size w W) s1 s2 => cmp_q M q1 X Y A1 B1 e f a1 e1 W s1 s2 (kp' k' sA1) (kp' k' sB1) fM f1 k hk)
  have ok := leq_z 3 k0
  obtain ⟨j, hj⟩ : ∃ k, cmpZ q1.num 0 = k := ⟨_, rfl⟩
  have j0 : 0 ≤ j := by rw [← hj, sign_cmpQ]; exact cmpQ_ge hq
  have oj := geq_z 3 j0
  have S1 := hide (fun W (k : Below w.heap.size w W) => sign_q q1 A1 B1 a1 e1 W (kp' k sA1) (kp' k sB1) f1 j (hj))
  clear hs h0 hd hq hM fM hk k0 hj j0
  clear n1 n2 nz f1 f2 fz hl hE hO hE1 hO0 fE fO nE g1 g2 ht h hZ sA1 sB1 sA2 sB2
  generalize qs q1 = s1 at *
  generalize ln (qn q1) = i1 at *
  generalize ln (qd q1) = j1 at *
  generalize qs q2 = s2 at *
  generalize ln (qn q2) = i2 at *
  generalize ln (qd q2) = j2 at *
  have Xa := hide ((Q3.new (.bool s1) (.slice A1 i1 a1) (.slice B1 j1 e1) w ).al (.cells #[.bool s2, .slice A2 i2 a2, .slice B2 j2 e2] 24))
  have Xb := hide (Q3.new1 (.bool s2) (.slice A2 i2 a2) (.slice B2 j2 e2) w (.cells #[.bool s1, .slice A1 i1 a1, .slice B1 j1 e1] 24))
  have b0 : Below w.heap.size w ((w.alloc (.cells #[.bool s1, .slice A1 i1 a1, .slice B1 j1 e1] 24)).alloc (.cells #[.bool s2, .slice A2 i2 a2, .slice B2 j2 e2] 24)) := (bl_al (bl_al (.refl _ _) _) _)
  go_enter Tryz.func5, Tryz.ntmps5
  go_wp2_with (first
    | (go_at_call 13; (with_reducible refine (FW0.out _ b0).mono ?_); rintro e w1 ⟨rfl, hb⟩; have g := hb; have Xa := hide (Xa.out.next g); have Xb := hide (Xb.out.next g); have b1 := bl_trans b0 g; obtain ⟨xac1, xac2, xac3, xac4, xac5, xac6⟩ := Xa.out; obtain ⟨xbc1, xbc2, xbc3, xbc4, xbc5, xbc6⟩ := Xb.out; clear hb g)
    | (go_at_call 24; (with_reducible refine (C1.out _ b1).mono ?_); rintro e w2 ⟨rfl, hb⟩; have g := hb; have Xa := hide (Xa.out.next g); have Xb := hide (Xb.out.next g); have b2 := bl_trans b1 g; (try clear xac1 xac2 xac3 xac4 xac5 xac6); (try clear xbc1 xbc2 xbc3 xbc4 xbc5 xbc6); obtain ⟨xac1, xac2, xac3, xac4, xac5, xac6⟩ := Xa.out; obtain ⟨xbc1, xbc2, xbc3, xbc4, xbc5, xbc6⟩ := Xb.out; clear hb g)
    | (go_at_call 30; (with_reducible refine (V1.out _ b2).mono ?_); rintro e w3 ⟨rfl, hb⟩; have g := hb; have Xa := hide (Xa.out.next g); have Xb := hide (Xb.out.next g); have b3 := bl_trans b2 g; (try clear xac1 xac2 xac3 xac4 xac5 xac6); (try clear xbc1 xbc2 xbc3 xbc4 xbc5 xbc6); obtain ⟨xac1, xac2, xac3, xac4, xac5, xac6⟩ := Xa.out; obtain ⟨xbc1, xbc2, xbc3, xbc4, xbc5, xbc6⟩ := Xb.out; clear hb g)
    | (go_at_call 30; (with_reducible refine (V2.out _ b3).mono ?_); rintro e w4 ⟨rfl, hb⟩; have g := hb; have Xa := hide (Xa.out.next g); have Xb := hide (Xb.out.next g); have b4 := bl_trans b3 g; (try clear xac1 xac2 xac3 xac4 xac5 xac6); (try clear xbc1 xbc2 xbc3 xbc4 xbc5 xbc6); obtain ⟨xac1, xac2, xac3, xac4, xac5, xac6⟩ := Xa.out; obtain ⟨xbc1, xbc2, xbc3, xbc4, xbc5, xbc6⟩ := Xb.out; clear hb g)
    | (go_at_call 32; (with_reducible refine (BT.out _ b4).mono ?_); rintro e w5 ⟨A5, c5, B5, d5, rfl, s5, t5, hb⟩; have g := hb; have Xa := hide (Xa.out.next g); have Xb := hide (Xb.out.next g); have b5 := bl_trans b4 g; (try clear xac1 xac2 xac3 xac4 xac5 xac6); (try clear xbc1 xbc2 xbc3 xbc4 xbc5 xbc6); obtain ⟨xac1, xac2, xac3, xac4, xac5, xac6⟩ := Xa.out; obtain ⟨xbc1, xbc2, xbc3, xbc4, xbc5, xbc6⟩ := Xb.out; have xad1 := fun X => (Xa.out.al X).1; have xad2 := fun X => (Xa.out.al X).2.1; have xad3 := fun X => (Xa.out.al X).2.2.1; have xbd1 := fun X => (Xb.out.al X).1; have xbd2 := fun X => (Xb.out.al X).2.1; have xbd3 := fun X => (Xb.out.al X).2.2.1; clear hb g)
    | (go_at_call 24; (with_reducible refine (C2.out A5 B5 c5 d5 _ (bl_al b5 _) (s5.alloc _) (t5.alloc _)).mono ?_); rintro e w6 ⟨rfl, hb⟩; have g := (bl_one hb); have Y1 := hide ((Q3.new (.bool (qs Z)) (.slice A5 (ln (qn Z)) c5) (.slice B5 (ln (qd Z)) d5) w5).next hb); have s5 := kp' g s5; have t5 := kp' g t5; have Xa := hide (Xa.out.next g); have Xb := hide (Xb.out.next g); have b6 := bl_trans b5 g; clear xad1 xad2 xad3 xbd1 xbd2 xbd3; (try clear xac1 xac2 xac3 xac4 xac5 xac6); (try clear xbc1 xbc2 xbc3 xbc4 xbc5 xbc6); obtain ⟨xac1, xac2, xac3, xac4, xac5, xac6⟩ := Xa.out; obtain ⟨xbc1, xbc2, xbc3, xbc4, xbc5, xbc6⟩ := Xb.out; obtain ⟨y1c1, y1c2, y1c3, y1c4, y1c5, y1c6⟩ := Y1.out; clear hb g)
    | (go_at_call 24; (with_reducible refine (C3.out A5 B5 c5 d5 _ b6 s5 t5).mono ?_); rintro e w7 ⟨rfl, hb⟩; have g := hb; have s5 := kp' g s5; have t5 := kp' g t5; have Xa := hide (Xa.out.next g); have Xb := hide (Xb.out.next g); have Y1 := hide (Y1.out.next g); have b7 := bl_trans b6 g; (try clear xac1 xac2 xac3 xac4 xac5 xac6); (try clear xbc1 xbc2 xbc3 xbc4 xbc5 xbc6); (try clear y1c1 y1c2 y1c3 y1c4 y1c5 y1c6); obtain ⟨xac1, xac2, xac3, xac4, xac5, xac6⟩ := Xa.out; obtain ⟨xbc1, xbc2, xbc3, xbc4, xbc5, xbc6⟩ := Xb.out; obtain ⟨y1c1, y1c2, y1c3, y1c4, y1c5, y1c6⟩ := Y1.out; clear hb g)
    | (go_at_call 33; (with_reducible refine (O1.out _ b7).mono ?_); rintro e w8 ⟨A8, c8, B8, d8, rfl, s8, t8, hb⟩; have g := hb; have s5 := kp' g s5; have t5 := kp' g t5; have Xa := hide (Xa.out.next g); have Xb := hide (Xb.out.next g); have Y1 := hide (Y1.out.next g); have b8 := bl_trans b7 g; (try clear xac1 xac2 xac3 xac4 xac5 xac6); (try clear xbc1 xbc2 xbc3 xbc4 xbc5 xbc6); (try clear y1c1 y1c2 y1c3 y1c4 y1c5 y1c6); obtain ⟨xac1, xac2, xac3, xac4, xac5, xac6⟩ := Xa.out; obtain ⟨xbc1, xbc2, xbc3, xbc4, xbc5, xbc6⟩ := Xb.out; obtain ⟨y1c1, y1c2, y1c3, y1c4, y1c5, y1c6⟩ := Y1.out; clear hb g))
  have kz : Hid (KS w [(A5, qn Z), (B5, qd Z), (A8, qn E), (B8, qd E)] (w.heap.size) (w.heap.size + 1) w5.heap.size w8.heap.size (.bool s1) (.slice A1 i1 a1) (.slice B1 j1 e1) (.bool s2) (.slice A2 i2 a2) (.slice B2 j2 e2) (.bool (qs Z)) (.slice A5 (ln (qn Z)) c5) (.slice B5 (ln (qd Z)) d5) (.bool (qs E)) (.slice A8 (ln (qn E)) c8) (.slice B8 (ln (qd E)) d8) (w8.alloc (.cells #[.bool (qs E), .slice A8 (ln (qn E)) c8, .slice B8 (ln (qd E)) d8] 24))) := hide ⟨(K5.cons (K5.cons (K5.cons (K5.cons (K5.nil (bl_al b8 (.cells #[.bool (qs E), .slice A8 (ln (qn E)) c8, .slice B8 (ln (qd E)) d8] 24))) (t8.alloc (.cells #[.bool (qs E), .slice A8 (ln (qn E)) c8, .slice B8 (ln (qd E)) d8] 24))) (s8.alloc (.cells #[.bool (qs E), .slice A8 (ln (qn E)) c8, .slice B8 (ln (qd E)) d8] 24))) (t5.alloc (.cells #[.bool (qs E), .slice A8 (ln (qn E)) c8, .slice B8 (ln (qd E)) d8] 24))) (s5.alloc (.cells #[.bool (qs E), .slice A8 (ln (qn E)) c8, .slice B8 (ln (qd E)) d8] 24))), Xa.out.al _, Xb.out.al _, Y1.out.al _, Q3.new _ _ _ _⟩
  have kd := hide kz.out.drew
  have z1 := kz.out.2.2.2.1.1
  have z2 := kz.out.2.2.2.1.2.1
  have z3 := kz.out.2.2.2.1.2.2.1
  clear Xa Xb Y1 b0 b1 b2 b3 b4 b5 b6 b7 b8 s5 t5 s8 t8
  (try clear xac1 xac2 xac3 xac4 xac5 xac6 xbc1 xbc2 xbc3 xbc4 xbc5 xbc6 y1c1 y1c2 y1c3 y1c4 y1c5 y1c6)
  go_region_held3 (fun W => W.cell? ⟨w5.heap.size, 0, none⟩ = some (.bool (qs Z)) ∧ W.cell? ⟨w5.heap.size, 1, none⟩ = some (.slice A5 (ln (qn Z)) c5) ∧ W.cell? ⟨w5.heap.size, 2, none⟩ = some (.slice B5 (ln (qd Z)) d5) ∧ KS w [(A5, qn Z), (B5, qd Z), (A8, qn E), (B8, qd E)] (w.heap.size) (w.heap.size + 1) w5.heap.size w8.heap.size (.bool s1) (.slice A1 i1 a1) (.slice B1 j1 e1) (.bool s2) (.slice A2 i2 a2) (.slice B2 j2 e2) (.bool (qs Z)) (.slice A5 (ln (qn Z)) c5) (.slice B5 (ln (qd Z)) d5) (.bool (qs E)) (.slice A8 (ln (qn E)) c8) (.slice B8 (ln (qd E)) d8) W)
    (first | exact ⟨z1, z2, z3, kz.out⟩ | exact ⟨z1, z2, z3, kd.out⟩ | with_reducible exact SS_next hb (by assumption) | with_reducible assumption)
    (first
      | (go_at_call 33; (with_reducible refine (O0.out _ (K5.b (KS.k (ks3 (by assumption))))).mono ?_); rintro e v1 ⟨P1, p1, R1, r1, rfl, y1, y2, hb⟩)
      | (go_at_call 23; (with_reducible refine (SM.out A5 B5 P1 R1 c5 d5 p1 r1 _ (K5.b (KS.k (ks3 (by assumption)))) (K5.sl (KS.k (ks3 (by assumption))) mem1) (K5.sl (KS.k (ks3 (by assumption))) mem2) y1 y2).mono ?_); rintro e v2 ⟨rfl, hb⟩))
  rename_i hS
  have kk := hide (ks3 hS)
  clear hS kz kd z1 z2 z3
  have b10 := K5.b kk.out.1
  have s5 := K5.sl kk.out.1 mem1
  have t5 := K5.sl kk.out.1 mem2
  have s8 := K5.sl kk.out.1 mem3
  have t8 := K5.sl kk.out.1 mem4
  have Xa := hide kk.out.2.1
  have Xb := hide kk.out.2.2.1
  have Y1 := hide kk.out.2.2.2.1
  have Y2 := hide kk.out.2.2.2.2
  clear kk
  obtain ⟨xac1, xac2, xac3, xac4, xac5, xac6⟩ := Xa.out
  obtain ⟨xbc1, xbc2, xbc3, xbc4, xbc5, xbc6⟩ := Xb.out
  obtain ⟨y1c1, y1c2, y1c3, y1c4, y1c5, y1c6⟩ := Y1.out
  obtain ⟨y2c1, y2c2, y2c3, y2c4, y2c5, y2c6⟩ := Y2.out
  go_wp2_with (first
    | (go_at_call 34; (with_reducible refine (SL.out B5 B8 d5 d8 _ b10 t5 t8).mono ?_); rintro e w11 ⟨rfl, hb⟩; have g := hb; have s5 := kp' g s5; have t5 := kp' g t5; have s8 := kp' g s8; have t8 := kp' g t8; have Xa := hide (Xa.out.next g); have Xb := hide (Xb.out.next g); have Y1 := hide (Y1.out.next g); have Y2 := hide (Y2.out.next g); have b11 := bl_trans b10 g; (try clear xac1 xac2 xac3 xac4 xac5 xac6); (try clear xbc1 xbc2 xbc3 xbc4 xbc5 xbc6); (try clear y1c1 y1c2 y1c3 y1c4 y1c5 y1c6); (try clear y2c1 y2c2 y2c3 y2c4 y2c5 y2c6); obtain ⟨xac1, xac2, xac3, xac4, xac5, xac6⟩ := Xa.out; obtain ⟨xbc1, xbc2, xbc3, xbc4, xbc5, xbc6⟩ := Xb.out; obtain ⟨y1c1, y1c2, y1c3, y1c4, y1c5, y1c6⟩ := Y1.out; obtain ⟨y2c1, y2c2, y2c3, y2c4, y2c5, y2c6⟩ := Y2.out; clear hb g)
    | (go_at_call 17; (with_reducible refine (SB.out A5 B5 A8 B8 c5 d5 c8 d8 _ b11 s5 t5 s8 t8).mono ?_); rintro e w12 ⟨A12, c12, B12, d12, rfl, s12, t12, hb⟩; have g := hb; have s5 := kp' g s5; have t5 := kp' g t5; have s8 := kp' g s8; have t8 := kp' g t8; have Xa := hide (Xa.out.next g); have Xb := hide (Xb.out.next g); have Y1 := hide (Y1.out.next g); have Y2 := hide (Y2.out.next g); have b12 := bl_trans b11 g; (try clear xac1 xac2 xac3 xac4 xac5 xac6); (try clear xbc1 xbc2 xbc3 xbc4 xbc5 xbc6); (try clear y1c1 y1c2 y1c3 y1c4 y1c5 y1c6); (try clear y2c1 y2c2 y2c3 y2c4 y2c5 y2c6); obtain ⟨xac1, xac2, xac3, xac4, xac5, xac6⟩ := Xa.out; obtain ⟨xbc1, xbc2, xbc3, xbc4, xbc5, xbc6⟩ := Xb.out; obtain ⟨y1c1, y1c2, y1c3, y1c4, y1c5, y1c6⟩ := Y1.out; obtain ⟨y2c1, y2c2, y2c3, y2c4, y2c5, y2c6⟩ := Y2.out; have xad1 := fun X => (Xa.out.al X).1; have xad2 := fun X => (Xa.out.al X).2.1; have xad3 := fun X => (Xa.out.al X).2.2.1; have xbd1 := fun X => (Xb.out.al X).1; have xbd2 := fun X => (Xb.out.al X).2.1; have xbd3 := fun X => (Xb.out.al X).2.2.1; have y1d1 := fun X => (Y1.out.al X).1; have y1d2 := fun X => (Y1.out.al X).2.1; have y1d3 := fun X => (Y1.out.al X).2.2.1; have y2d1 := fun X => (Y2.out.al X).1; have y2d2 := fun X => (Y2.out.al X).2.1; have y2d3 := fun X => (Y2.out.al X).2.2.1; clear hb g)
    | (go_at_call 26; (with_reducible refine (SX.out A5 B5 c5 d5 _ (bl_al b12 _) (s5.alloc _) (t5.alloc _)).mono ?_); rintro e w13 ⟨rfl, hb⟩; have g := (bl_one hb); have Y3 := hide ((Q3.new (.bool (qs M)) (.slice A12 (ln (qn M)) c12) (.slice B12 (ln (qd M)) d12) w12).next hb); have s5 := kp' g s5; have t5 := kp' g t5; have s8 := kp' g s8; have t8 := kp' g t8; have s12 := kp' g s12; have t12 := kp' g t12; have Xa := hide (Xa.out.next g); have Xb := hide (Xb.out.next g); have Y1 := hide (Y1.out.next g); have Y2 := hide (Y2.out.next g); have b13 := bl_trans b12 g; clear xad1 xad2 xad3 xbd1 xbd2 xbd3 y1d1 y1d2 y1d3 y2d1 y2d2 y2d3; (try clear xac1 xac2 xac3 xac4 xac5 xac6); (try clear xbc1 xbc2 xbc3 xbc4 xbc5 xbc6); (try clear y1c1 y1c2 y1c3 y1c4 y1c5 y1c6); (try clear y2c1 y2c2 y2c3 y2c4 y2c5 y2c6); obtain ⟨xac1, xac2, xac3, xac4, xac5, xac6⟩ := Xa.out; obtain ⟨xbc1, xbc2, xbc3, xbc4, xbc5, xbc6⟩ := Xb.out; obtain ⟨y1c1, y1c2, y1c3, y1c4, y1c5, y1c6⟩ := Y1.out; obtain ⟨y2c1, y2c2, y2c3, y2c4, y2c5, y2c6⟩ := Y2.out; obtain ⟨y3c1, y3c2, y3c3, y3c4, y3c5, y3c6⟩ := Y3.out; clear hb g)
    | (go_at_call 24; (with_reducible refine (CN.out A12 B12 c12 d12 _ b13 s12 t12).mono ?_); rintro e w14 ⟨rfl, hb⟩; have g := hb; have s5 := kp' g s5; have t5 := kp' g t5; have s8 := kp' g s8; have t8 := kp' g t8; have s12 := kp' g s12; have t12 := kp' g t12; have Xa := hide (Xa.out.next g); have Xb := hide (Xb.out.next g); have Y1 := hide (Y1.out.next g); have Y2 := hide (Y2.out.next g); have Y3 := hide (Y3.out.next g); have b14 := bl_trans b13 g; (try clear xac1 xac2 xac3 xac4 xac5 xac6); (try clear xbc1 xbc2 xbc3 xbc4 xbc5 xbc6); (try clear y1c1 y1c2 y1c3 y1c4 y1c5 y1c6); (try clear y2c1 y2c2 y2c3 y2c4 y2c5 y2c6); (try clear y3c1 y3c2 y3c3 y3c4 y3c5 y3c6); obtain ⟨xac1, xac2, xac3, xac4, xac5, xac6⟩ := Xa.out; obtain ⟨xbc1, xbc2, xbc3, xbc4, xbc5, xbc6⟩ := Xb.out; obtain ⟨y1c1, y1c2, y1c3, y1c4, y1c5, y1c6⟩ := Y1.out; obtain ⟨y2c1, y2c2, y2c3, y2c4, y2c5, y2c6⟩ := Y2.out; obtain ⟨y3c1, y3c2, y3c3, y3c4, y3c5, y3c6⟩ := Y3.out; clear hb g)
    | (go_at_call 26; (with_reducible refine (S1.out _ b14).mono ?_); rintro e w15 ⟨rfl, hb⟩; have g := hb; have s5 := kp' g s5; have t5 := kp' g t5; have s8 := kp' g s8; have t8 := kp' g t8; have s12 := kp' g s12; have t12 := kp' g t12; have Xa := hide (Xa.out.next g); have Xb := hide (Xb.out.next g); have Y1 := hide (Y1.out.next g); have Y2 := hide (Y2.out.next g); have Y3 := hide (Y3.out.next g); have b15 := bl_trans b14 g; (try clear xac1 xac2 xac3 xac4 xac5 xac6); (try clear xbc1 xbc2 xbc3 xbc4 xbc5 xbc6); (try clear y1c1 y1c2 y1c3 y1c4 y1c5 y1c6); (try clear y2c1 y2c2 y2c3 y2c4 y2c5 y2c6); (try clear y3c1 y3c2 y3c3 y3c4 y3c5 y3c6); obtain ⟨xac1, xac2, xac3, xac4, xac5, xac6⟩ := Xa.out; obtain ⟨xbc1, xbc2, xbc3, xbc4, xbc5, xbc6⟩ := Xb.out; obtain ⟨y1c1, y1c2, y1c3, y1c4, y1c5, y1c6⟩ := Y1.out; obtain ⟨y2c1, y2c2, y2c3, y2c4, y2c5, y2c6⟩ := Y2.out; obtain ⟨y3c1, y3c2, y3c3, y3c4, y3c5, y3c6⟩ := Y3.out; clear hb g)
    | (go_at_call 14; (with_reducible refine (AW.out _ b15).mono ?_); rintro e w16 ⟨rfl, hb⟩; have g := hb; have s5 := kp' g s5; have t5 := kp' g t5; have s8 := kp' g s8; have t8 := kp' g t8; have s12 := kp' g s12; have t12 := kp' g t12; have Xa := hide (Xa.out.next g); have Xb := hide (Xb.out.next g); have Y1 := hide (Y1.out.next g); have Y2 := hide (Y2.out.next g); have Y3 := hide (Y3.out.next g); have b16 := bl_trans b15 g; (try clear xac1 xac2 xac3 xac4 xac5 xac6); (try clear xbc1 xbc2 xbc3 xbc4 xbc5 xbc6); (try clear y1c1 y1c2 y1c3 y1c4 y1c5 y1c6); (try clear y2c1 y2c2 y2c3 y2c4 y2c5 y2c6); (try clear y3c1 y3c2 y3c3 y3c4 y3c5 y3c6); obtain ⟨xac1, xac2, xac3, xac4, xac5, xac6⟩ := Xa.out; obtain ⟨xbc1, xbc2, xbc3, xbc4, xbc5, xbc6⟩ := Xb.out; obtain ⟨y1c1, y1c2, y1c3, y1c4, y1c5, y1c6⟩ := Y1.out; obtain ⟨y2c1, y2c2, y2c3, y2c4, y2c5, y2c6⟩ := Y2.out; obtain ⟨y3c1, y3c2, y3c3, y3c4, y3c5, y3c6⟩ := Y3.out; clear hb g))
  go_ret
  exact ⟨rfl, b16⟩

set_option maxRecDepth 100000 in
set_option maxHeartbeats 16000000 in
theorem between_neg (q1 q2 Z : Rat) (A1 B1 A2 B2 : Option Addr) (a1 e1 a2 e2 : Nat) (w : World) (sA1 : Sl w A1 (digs (qn q1))) (sB1 : Sl w B1 (digs (qd q1))) (sA2 : Sl w A2 (digs (qn q2))) (sB2 : Sl w B2 (digs (qd q2))) (g1 : ln (qn q1) ≤ 10 ∧ ln (qd q1) ≤ 10) (g2 : ln (qn q2) ≤ 10 ∧ ln (qd q2) ≤ 10) (ht : Pow10 w) (h : q1 < q2) (hZ : btw q1 q2 = Z) (h0 : Z ≠ 0) (hd : qd Z = 1) (hq : q1 < 0) :
    Calls Tryz.prog 5 #[.agg #[.bool (qs q1), .slice A1 (ln (qn q1)) a1, .slice B1 (ln (qd q1)) e1], .agg #[.bool (qs q2), .slice A2 (ln (qn q2)) a2, .slice B2 (ln (qd q2)) e2]] w fun e w' => e = .returned (.bool true) ∧ Below w.heap.size w w' := by
  have AW := hide (fun W (k : Below w.heap.size w W) => awake3_any W (pow_below ht k))
  have f1 : fitq q1 := ⟨by omega, by omega⟩
  have f2 : fitq q2 := ⟨by omega, by omega⟩
  have n1 : bnd 10 q1 := ⟨lt_of_ln g1.1, lt_of_ln g1.2⟩
  have n2 : bnd 10 q2 := ⟨lt_of_ln g2.1, lt_of_ln g2.2⟩
  have nz : bnd 22 Z := by rw [← hZ]; exact bnd_btw n1 n2
  have fz : fitq Z := fitq_bnd nz (by decide)
  have hl := btw_lt h
  rw [hZ] at hl
  obtain ⟨E, hE⟩ : ∃ x, x = Rat.divInt 1 1 := ⟨_, rfl⟩
  obtain ⟨O, hO⟩ : ∃ x, x = Rat.divInt 0 1 := ⟨_, rfl⟩
  have hE1 : E = 1 := by rw [hE]; decide
  have hO0 : O = 0 := by rw [hO]; decide
  have fE : fitq E := by rw [hE]; exact fit_small (by decide) (by decide)
  have fO : fitq O := by rw [hO]; exact fit_small (by decide) (by decide)
  have nE : bnd 1 E := by rw [hE]; exact ⟨by decide, by decide⟩
  have O1 := hide (fun W (_ : Below w.heap.size w W) => of_pos 1 1 E W (by decide) (by decide) (by decide) (by decide) (by decide) (by rw [hE]; exact qmk_divInt 1 1 (by decide)))
  have O0 := hide (fun W (_ : Below w.heap.size w W) => of_pos 0 1 O W (by decide) (by decide) (by decide) (by decide) (by decide) (by rw [hO]; exact qmk_divInt 0 1 (by decide)))
  have FW0 := hide (fun W (_ : Below w.heap.size w W) => few_any (qs q1) (qs q2) A1 B1 A2 B2 a1 e1 a2 e2 (ln (qn q1)) (ln (qd q1)) (ln (qn q2)) (ln (qd q2)) W true (decide_eq_true ⟨g1.1, g1.2, g2.1, g2.2⟩))
  have V1 := hide (fun W (k : Below w.heap.size w W) => valid_q q1 A1 B1 a1 e1 W (kp' k sA1) (kp' k sB1) f1.1 f1.2)
  have V2 := hide (fun W (k : Below w.heap.size w W) => valid_q q2 A2 B2 a2 e2 W (kp' k sA2) (kp' k sB2) f2.1 f2.2)
  have C1 := hide (fun W (k : Below w.heap.size w W) => cmp_q q1 q2 A1 B1 A2 B2 a1 e1 a2 e2 W (kp' k sA1) (kp' k sB1) (kp' k sA2) (kp' k sB2) f1 f2 _ (cmpQ_lt h))
  have BT := hide (fun W (k : Below w.heap.size w W) => between_q q1 q2 _ Z h rfl hZ A1 B1 A2 B2 a1 e1 a2 e2 W (kp' k sA1) (kp' k sB1) (kp' k sA2) (kp' k sB2) f1 f2 fz)
  have C2 := hide (fun X Y e f W (k : Below w.heap.size w W) s1 s2 => cmp_q q1 Z A1 B1 X Y a1 e1 e f W (kp' k sA1) (kp' k sB1) s1 s2 f1 fz _ (cmpQ_lt hl.1))
  have C3 := hide (fun X Y e f W (k : Below w.heap.size w W) s1 s2 => cmp_q Z q2 X Y A2 B2 e f a2 e2 W s1 s2 (kp' k sA2) (kp' k sB2) fz f2 _ (cmpQ_lt hl.2))
  have en : binOp .neq 27 (.int .i64 0) (.int .i64 0) = pure (.bool false) := rfl
  have e0 : binOp .eql 27 (.int .i64 0) (.int .i64 0) = pure (.bool true) := rfl
  have o1 : binOp .geq 3 (.int .i64 (-1)) (.int .i64 0) = pure (.bool false) := rfl
  have o2 : binOp .lss 3 (.int .i64 (-1)) (.int .i64 0) = pure (.bool true) := rfl
  have o3 : binOp .lss 3 (.int .i64 1) (.int .i64 0) = pure (.bool false) := rfl
  have o4 : binOp .gtr 3 (.int .i64 1) (.int .i64 0) = pure (.bool true) := rfl
  have o5 : binOp .leq 3 (.int .i64 1) (.int .i64 0) = pure (.bool false) := rfl
  have hs : Z < 0 ∧ q2 ≤ 0 ∧ q2 ≤ Z + 1 := by
    rw [← hZ]
    exact btw_down h (by rw [hZ]; exact hd) (by rw [hZ]; exact h0) hq
  have SM := hide (fun X Y P R e f g i W (_ : Below w.heap.size w W) s1 s2 s3 s4 => same3_q Z O X Y P R e f g i W s1 s2 s3 s4 fz fO false (by rw [hO0]; exact decide_eq_false h0))
  have SL := hide (fun X Y e f W (_ : Below w.heap.size w W) s1 s2 => lsame_z X Y e f (ln (qd Z)) (ln (qd E)) (digs (qd Z)) (digs (qd E)) W s1 s2 rfl rfl (Nat.le_trans fz.2 (by decide)) (Nat.le_trans fE.2 (by decide)) true (by rw [hE1, hd, show qd 1 = 1 from rfl]; exact decide_eq_true rfl))
  have SX := hide (fun X Y e f W (_ : Below w.heap.size w W) s1 s2 => sign_q Z X Y e f W s1 s2 fz (-1) (by rw [sign_cmpQ]; exact cmpQ_lt hs.1))
  obtain ⟨M, hM⟩ : ∃ x, Z - E = x := ⟨_, rfl⟩
  have fM : fitq M := by rw [← hM, Rat.sub_eq_add_neg]; exact fitq_bnd (bnd_add nz (bnd_neg nE)) (by decide)
  have SB := hide (fun X Y P R e f g i W (_ : Below w.heap.size w W) s1 s2 s3 s4 => sub_q Z E M hM X Y P R e f g i W s1 s2 s3 s4 fz fE fM)
  obtain ⟨N, hN⟩ : ∃ x, Z + E = x := ⟨_, rfl⟩
  have fN : fitq N := by rw [← hN]; exact fitq_bnd (bnd_add nz nE) (by decide)
  have AD := hide (fun X Y P R e f g i W (_ : Below w.heap.size w W) s1 s2 s3 s4 => add_q Z E N hN X Y P R e f g i W s1 s2 s3 s4 fz fE fN)
  have hn : q2 ≤ N := by rw [← hN, hE1]; exact hs.2.2
  have CN := hide (fun X Y e f W (k' : Below w.heap.size w W) s1 s2 => cmp_q N q1 X Y A1 B1 e f a1 e1 W s1 s2 (kp' k' sA1) (kp' k' sB1) fN f1 1 (cmpQ_gt (lt_trans' h hn)))
  obtain ⟨k, hk⟩ : ∃ k, cmpQ N q2 = k := ⟨_, rfl⟩
  have k0 : 0 ≤ k := by rw [← hk]; exact cmpQ_ge hn
  have CM := hide (fun X Y e f W (k' : Below w.heap.size w W) s1 s2 => cmp_q N q2 X Y A2 B2 e f a2 e2 W s1 s2 (kp' k' sA2) (kp' k' sB2) fN f2 k hk)
  have ok := geq_z 3 k0
  obtain ⟨j, hj⟩ : ∃ k, cmpZ q2.num 0 = k := ⟨_, rfl⟩
  have j0 : j ≤ 0 := by rw [← hj, sign_cmpQ]; exact cmpQ_le hs.2.1
  have oj := leq_z 3 j0
  have S1 := hide (fun W (k : Below w.heap.size w W) => sign_q q1 A1 B1 a1 e1 W (kp' k sA1) (kp' k sB1) f1 (-1) (by rw [sign_cmpQ]; exact cmpQ_lt hq))
  have S2 := hide (fun W (k : Below w.heap.size w W) => sign_q q2 A2 B2 a2 e2 W (kp' k sA2) (kp' k sB2) f2 j (hj))
  clear hs h0 hd hq hM fM hN fN hn hk k0 hj j0
  clear n1 n2 nz f1 f2 fz hl hE hO hE1 hO0 fE fO nE g1 g2 ht h hZ sA1 sB1 sA2 sB2
  generalize qs q1 = s1 at *
  generalize ln (qn q1) = i1 at *
  generalize ln (qd q1) = j1 at *
  generalize qs q2 = s2 at *
  generalize ln (qn q2) = i2 at *
  generalize ln (qd q2) = j2 at *
  have Xa := hide ((Q3.new (.bool s1) (.slice A1 i1 a1) (.slice B1 j1 e1) w ).al (.cells #[.bool s2, .slice A2 i2 a2, .slice B2 j2 e2] 24))
  have Xb := hide (Q3.new1 (.bool s2) (.slice A2 i2 a2) (.slice B2 j2 e2) w (.cells #[.bool s1, .slice A1 i1 a1, .slice B1 j1 e1] 24))
  have b0 : Below w.heap.size w ((w.alloc (.cells #[.bool s1, .slice A1 i1 a1, .slice B1 j1 e1] 24)).alloc (.cells #[.bool s2, .slice A2 i2 a2, .slice B2 j2 e2] 24)) := (bl_al (bl_al (.refl _ _) _) _)
  go_enter Tryz.func5, Tryz.ntmps5
  go_wp2_with (first
    | (go_at_call 13; (with_reducible refine (FW0.out _ b0).mono ?_); rintro e w1 ⟨rfl, hb⟩; have g := hb; have Xa := hide (Xa.out.next g); have Xb := hide (Xb.out.next g); have b1 := bl_trans b0 g; obtain ⟨xac1, xac2, xac3, xac4, xac5, xac6⟩ := Xa.out; obtain ⟨xbc1, xbc2, xbc3, xbc4, xbc5, xbc6⟩ := Xb.out; clear hb g)
    | (go_at_call 24; (with_reducible refine (C1.out _ b1).mono ?_); rintro e w2 ⟨rfl, hb⟩; have g := hb; have Xa := hide (Xa.out.next g); have Xb := hide (Xb.out.next g); have b2 := bl_trans b1 g; (try clear xac1 xac2 xac3 xac4 xac5 xac6); (try clear xbc1 xbc2 xbc3 xbc4 xbc5 xbc6); obtain ⟨xac1, xac2, xac3, xac4, xac5, xac6⟩ := Xa.out; obtain ⟨xbc1, xbc2, xbc3, xbc4, xbc5, xbc6⟩ := Xb.out; clear hb g)
    | (go_at_call 30; (with_reducible refine (V1.out _ b2).mono ?_); rintro e w3 ⟨rfl, hb⟩; have g := hb; have Xa := hide (Xa.out.next g); have Xb := hide (Xb.out.next g); have b3 := bl_trans b2 g; (try clear xac1 xac2 xac3 xac4 xac5 xac6); (try clear xbc1 xbc2 xbc3 xbc4 xbc5 xbc6); obtain ⟨xac1, xac2, xac3, xac4, xac5, xac6⟩ := Xa.out; obtain ⟨xbc1, xbc2, xbc3, xbc4, xbc5, xbc6⟩ := Xb.out; clear hb g)
    | (go_at_call 30; (with_reducible refine (V2.out _ b3).mono ?_); rintro e w4 ⟨rfl, hb⟩; have g := hb; have Xa := hide (Xa.out.next g); have Xb := hide (Xb.out.next g); have b4 := bl_trans b3 g; (try clear xac1 xac2 xac3 xac4 xac5 xac6); (try clear xbc1 xbc2 xbc3 xbc4 xbc5 xbc6); obtain ⟨xac1, xac2, xac3, xac4, xac5, xac6⟩ := Xa.out; obtain ⟨xbc1, xbc2, xbc3, xbc4, xbc5, xbc6⟩ := Xb.out; clear hb g)
    | (go_at_call 32; (with_reducible refine (BT.out _ b4).mono ?_); rintro e w5 ⟨A5, c5, B5, d5, rfl, s5, t5, hb⟩; have g := hb; have Xa := hide (Xa.out.next g); have Xb := hide (Xb.out.next g); have b5 := bl_trans b4 g; (try clear xac1 xac2 xac3 xac4 xac5 xac6); (try clear xbc1 xbc2 xbc3 xbc4 xbc5 xbc6); obtain ⟨xac1, xac2, xac3, xac4, xac5, xac6⟩ := Xa.out; obtain ⟨xbc1, xbc2, xbc3, xbc4, xbc5, xbc6⟩ := Xb.out; have xad1 := fun X => (Xa.out.al X).1; have xad2 := fun X => (Xa.out.al X).2.1; have xad3 := fun X => (Xa.out.al X).2.2.1; have xbd1 := fun X => (Xb.out.al X).1; have xbd2 := fun X => (Xb.out.al X).2.1; have xbd3 := fun X => (Xb.out.al X).2.2.1; clear hb g)
    | (go_at_call 24; (with_reducible refine (C2.out A5 B5 c5 d5 _ (bl_al b5 _) (s5.alloc _) (t5.alloc _)).mono ?_); rintro e w6 ⟨rfl, hb⟩; have g := (bl_one hb); have Y1 := hide ((Q3.new (.bool (qs Z)) (.slice A5 (ln (qn Z)) c5) (.slice B5 (ln (qd Z)) d5) w5).next hb); have s5 := kp' g s5; have t5 := kp' g t5; have Xa := hide (Xa.out.next g); have Xb := hide (Xb.out.next g); have b6 := bl_trans b5 g; clear xad1 xad2 xad3 xbd1 xbd2 xbd3; (try clear xac1 xac2 xac3 xac4 xac5 xac6); (try clear xbc1 xbc2 xbc3 xbc4 xbc5 xbc6); obtain ⟨xac1, xac2, xac3, xac4, xac5, xac6⟩ := Xa.out; obtain ⟨xbc1, xbc2, xbc3, xbc4, xbc5, xbc6⟩ := Xb.out; obtain ⟨y1c1, y1c2, y1c3, y1c4, y1c5, y1c6⟩ := Y1.out; clear hb g)
    | (go_at_call 24; (with_reducible refine (C3.out A5 B5 c5 d5 _ b6 s5 t5).mono ?_); rintro e w7 ⟨rfl, hb⟩; have g := hb; have s5 := kp' g s5; have t5 := kp' g t5; have Xa := hide (Xa.out.next g); have Xb := hide (Xb.out.next g); have Y1 := hide (Y1.out.next g); have b7 := bl_trans b6 g; (try clear xac1 xac2 xac3 xac4 xac5 xac6); (try clear xbc1 xbc2 xbc3 xbc4 xbc5 xbc6); (try clear y1c1 y1c2 y1c3 y1c4 y1c5 y1c6); obtain ⟨xac1, xac2, xac3, xac4, xac5, xac6⟩ := Xa.out; obtain ⟨xbc1, xbc2, xbc3, xbc4, xbc5, xbc6⟩ := Xb.out; obtain ⟨y1c1, y1c2, y1c3, y1c4, y1c5, y1c6⟩ := Y1.out; clear hb g)
    | (go_at_call 33; (with_reducible refine (O1.out _ b7).mono ?_); rintro e w8 ⟨A8, c8, B8, d8, rfl, s8, t8, hb⟩; have g := hb; have s5 := kp' g s5; have t5 := kp' g t5; have Xa := hide (Xa.out.next g); have Xb := hide (Xb.out.next g); have Y1 := hide (Y1.out.next g); have b8 := bl_trans b7 g; (try clear xac1 xac2 xac3 xac4 xac5 xac6); (try clear xbc1 xbc2 xbc3 xbc4 xbc5 xbc6); (try clear y1c1 y1c2 y1c3 y1c4 y1c5 y1c6); obtain ⟨xac1, xac2, xac3, xac4, xac5, xac6⟩ := Xa.out; obtain ⟨xbc1, xbc2, xbc3, xbc4, xbc5, xbc6⟩ := Xb.out; obtain ⟨y1c1, y1c2, y1c3, y1c4, y1c5, y1c6⟩ := Y1.out; clear hb g))
  have kz : Hid (KS w [(A5, qn Z), (B5, qd Z), (A8, qn E), (B8, qd E)] (w.heap.size) (w.heap.size + 1) w5.heap.size w8.heap.size (.bool s1) (.slice A1 i1 a1) (.slice B1 j1 e1) (.bool s2) (.slice A2 i2 a2) (.slice B2 j2 e2) (.bool (qs Z)) (.slice A5 (ln (qn Z)) c5) (.slice B5 (ln (qd Z)) d5) (.bool (qs E)) (.slice A8 (ln (qn E)) c8) (.slice B8 (ln (qd E)) d8) (w8.alloc (.cells #[.bool (qs E), .slice A8 (ln (qn E)) c8, .slice B8 (ln (qd E)) d8] 24))) := hide ⟨(K5.cons (K5.cons (K5.cons (K5.cons (K5.nil (bl_al b8 (.cells #[.bool (qs E), .slice A8 (ln (qn E)) c8, .slice B8 (ln (qd E)) d8] 24))) (t8.alloc (.cells #[.bool (qs E), .slice A8 (ln (qn E)) c8, .slice B8 (ln (qd E)) d8] 24))) (s8.alloc (.cells #[.bool (qs E), .slice A8 (ln (qn E)) c8, .slice B8 (ln (qd E)) d8] 24))) (t5.alloc (.cells #[.bool (qs E), .slice A8 (ln (qn E)) c8, .slice B8 (ln (qd E)) d8] 24))) (s5.alloc (.cells #[.bool (qs E), .slice A8 (ln (qn E)) c8, .slice B8 (ln (qd E)) d8] 24))), Xa.out.al _, Xb.out.al _, Y1.out.al _, Q3.new _ _ _ _⟩
  have kd := hide kz.out.drew
  have z1 := kz.out.2.2.2.1.1
  have z2 := kz.out.2.2.2.1.2.1
  have z3 := kz.out.2.2.2.1.2.2.1
  clear Xa Xb Y1 b0 b1 b2 b3 b4 b5 b6 b7 b8 s5 t5 s8 t8
  (try clear xac1 xac2 xac3 xac4 xac5 xac6 xbc1 xbc2 xbc3 xbc4 xbc5 xbc6 y1c1 y1c2 y1c3 y1c4 y1c5 y1c6)
  go_region_held3 (fun W => W.cell? ⟨w5.heap.size, 0, none⟩ = some (.bool (qs Z)) ∧ W.cell? ⟨w5.heap.size, 1, none⟩ = some (.slice A5 (ln (qn Z)) c5) ∧ W.cell? ⟨w5.heap.size, 2, none⟩ = some (.slice B5 (ln (qd Z)) d5) ∧ KS w [(A5, qn Z), (B5, qd Z), (A8, qn E), (B8, qd E)] (w.heap.size) (w.heap.size + 1) w5.heap.size w8.heap.size (.bool s1) (.slice A1 i1 a1) (.slice B1 j1 e1) (.bool s2) (.slice A2 i2 a2) (.slice B2 j2 e2) (.bool (qs Z)) (.slice A5 (ln (qn Z)) c5) (.slice B5 (ln (qd Z)) d5) (.bool (qs E)) (.slice A8 (ln (qn E)) c8) (.slice B8 (ln (qd E)) d8) W)
    (first | exact ⟨z1, z2, z3, kz.out⟩ | exact ⟨z1, z2, z3, kd.out⟩ | with_reducible exact SS_next hb (by assumption) | with_reducible assumption)
    (first
      | (go_at_call 33; (with_reducible refine (O0.out _ (K5.b (KS.k (ks3 (by assumption))))).mono ?_); rintro e v1 ⟨P1, p1, R1, r1, rfl, y1, y2, hb⟩)
      | (go_at_call 23; (with_reducible refine (SM.out A5 B5 P1 R1 c5 d5 p1 r1 _ (K5.b (KS.k (ks3 (by assumption)))) (K5.sl (KS.k (ks3 (by assumption))) mem1) (K5.sl (KS.k (ks3 (by assumption))) mem2) y1 y2).mono ?_); rintro e v2 ⟨rfl, hb⟩))
  rename_i hS
  have kk := hide (ks3 hS)
  clear hS kz kd z1 z2 z3
  have b10 := K5.b kk.out.1
  have s5 := K5.sl kk.out.1 mem1
  have t5 := K5.sl kk.out.1 mem2
  have s8 := K5.sl kk.out.1 mem3
  have t8 := K5.sl kk.out.1 mem4
  have Xa := hide kk.out.2.1
  have Xb := hide kk.out.2.2.1
  have Y1 := hide kk.out.2.2.2.1
  have Y2 := hide kk.out.2.2.2.2
  clear kk
  obtain ⟨xac1, xac2, xac3, xac4, xac5, xac6⟩ := Xa.out
  obtain ⟨xbc1, xbc2, xbc3, xbc4, xbc5, xbc6⟩ := Xb.out
  obtain ⟨y1c1, y1c2, y1c3, y1c4, y1c5, y1c6⟩ := Y1.out
  obtain ⟨y2c1, y2c2, y2c3, y2c4, y2c5, y2c6⟩ := Y2.out
  go_wp2_with (first
    | (go_at_call 34; (with_reducible refine (SL.out B5 B8 d5 d8 _ b10 t5 t8).mono ?_); rintro e w11 ⟨rfl, hb⟩; have g := hb; have s5 := kp' g s5; have t5 := kp' g t5; have s8 := kp' g s8; have t8 := kp' g t8; have Xa := hide (Xa.out.next g); have Xb := hide (Xb.out.next g); have Y1 := hide (Y1.out.next g); have Y2 := hide (Y2.out.next g); have b11 := bl_trans b10 g; (try clear xac1 xac2 xac3 xac4 xac5 xac6); (try clear xbc1 xbc2 xbc3 xbc4 xbc5 xbc6); (try clear y1c1 y1c2 y1c3 y1c4 y1c5 y1c6); (try clear y2c1 y2c2 y2c3 y2c4 y2c5 y2c6); obtain ⟨xac1, xac2, xac3, xac4, xac5, xac6⟩ := Xa.out; obtain ⟨xbc1, xbc2, xbc3, xbc4, xbc5, xbc6⟩ := Xb.out; obtain ⟨y1c1, y1c2, y1c3, y1c4, y1c5, y1c6⟩ := Y1.out; obtain ⟨y2c1, y2c2, y2c3, y2c4, y2c5, y2c6⟩ := Y2.out; clear hb g)
    | (go_at_call 17; (with_reducible refine (SB.out A5 B5 A8 B8 c5 d5 c8 d8 _ b11 s5 t5 s8 t8).mono ?_); rintro e w12 ⟨A12, c12, B12, d12, rfl, s12, t12, hb⟩; have g := hb; have s5 := kp' g s5; have t5 := kp' g t5; have s8 := kp' g s8; have t8 := kp' g t8; have Xa := hide (Xa.out.next g); have Xb := hide (Xb.out.next g); have Y1 := hide (Y1.out.next g); have Y2 := hide (Y2.out.next g); have b12 := bl_trans b11 g; (try clear xac1 xac2 xac3 xac4 xac5 xac6); (try clear xbc1 xbc2 xbc3 xbc4 xbc5 xbc6); (try clear y1c1 y1c2 y1c3 y1c4 y1c5 y1c6); (try clear y2c1 y2c2 y2c3 y2c4 y2c5 y2c6); obtain ⟨xac1, xac2, xac3, xac4, xac5, xac6⟩ := Xa.out; obtain ⟨xbc1, xbc2, xbc3, xbc4, xbc5, xbc6⟩ := Xb.out; obtain ⟨y1c1, y1c2, y1c3, y1c4, y1c5, y1c6⟩ := Y1.out; obtain ⟨y2c1, y2c2, y2c3, y2c4, y2c5, y2c6⟩ := Y2.out; have xad1 := fun X => (Xa.out.al X).1; have xad2 := fun X => (Xa.out.al X).2.1; have xad3 := fun X => (Xa.out.al X).2.2.1; have xbd1 := fun X => (Xb.out.al X).1; have xbd2 := fun X => (Xb.out.al X).2.1; have xbd3 := fun X => (Xb.out.al X).2.2.1; have y1d1 := fun X => (Y1.out.al X).1; have y1d2 := fun X => (Y1.out.al X).2.1; have y1d3 := fun X => (Y1.out.al X).2.2.1; have y2d1 := fun X => (Y2.out.al X).1; have y2d2 := fun X => (Y2.out.al X).2.1; have y2d3 := fun X => (Y2.out.al X).2.2.1; have la := Xa.out.lt; have lb := Xb.out.lt; clear hb g)
    | (go_at_call 26; (with_reducible refine (SX.out A5 B5 c5 d5 _ (bl_al b12 _) (s5.alloc _) (t5.alloc _)).mono ?_); rintro e w13 ⟨rfl, hb⟩; have g := (bl_one hb); have Y3 := hide ((Q3.new (.bool (qs M)) (.slice A12 (ln (qn M)) c12) (.slice B12 (ln (qd M)) d12) w12).next hb); have s5 := kp' g s5; have t5 := kp' g t5; have s8 := kp' g s8; have t8 := kp' g t8; have s12 := kp' g s12; have t12 := kp' g t12; have Xa := hide (Xa.out.next g); have Xb := hide (Xb.out.next g); have Y1 := hide (Y1.out.next g); have Y2 := hide (Y2.out.next g); have b13 := bl_trans b12 g; clear xad1 xad2 xad3 xbd1 xbd2 xbd3 y1d1 y1d2 y1d3 y2d1 y2d2 y2d3; (try clear xac1 xac2 xac3 xac4 xac5 xac6); (try clear xbc1 xbc2 xbc3 xbc4 xbc5 xbc6); (try clear y1c1 y1c2 y1c3 y1c4 y1c5 y1c6); (try clear y2c1 y2c2 y2c3 y2c4 y2c5 y2c6); obtain ⟨xac1, xac2, xac3, xac4, xac5, xac6⟩ := Xa.out; obtain ⟨xbc1, xbc2, xbc3, xbc4, xbc5, xbc6⟩ := Xb.out; obtain ⟨y1c1, y1c2, y1c3, y1c4, y1c5, y1c6⟩ := Y1.out; obtain ⟨y2c1, y2c2, y2c3, y2c4, y2c5, y2c6⟩ := Y2.out; obtain ⟨y3c1, y3c2, y3c3, y3c4, y3c5, y3c6⟩ := Y3.out; clear hb g)
    | (go_at_call 15; (with_reducible refine (AD.out A5 B5 A8 B8 c5 d5 c8 d8 _ b13 s5 t5 s8 t8).mono ?_); rintro e w14 ⟨A14, c14, B14, d14, rfl, s14, t14, hb⟩; have g := hb; have s5 := kp' g s5; have t5 := kp' g t5; have s8 := kp' g s8; have t8 := kp' g t8; have s12 := kp' g s12; have t12 := kp' g t12; have Xa := hide (Xa.out.next g); have Xb := hide (Xb.out.next g); have Y1 := hide (Y1.out.next g); have Y2 := hide (Y2.out.next g); have Y3 := hide (Y3.out.next g); have b14 := bl_trans b13 g; (try clear xac1 xac2 xac3 xac4 xac5 xac6); (try clear xbc1 xbc2 xbc3 xbc4 xbc5 xbc6); (try clear y1c1 y1c2 y1c3 y1c4 y1c5 y1c6); (try clear y2c1 y2c2 y2c3 y2c4 y2c5 y2c6); (try clear y3c1 y3c2 y3c3 y3c4 y3c5 y3c6); obtain ⟨xac1, xac2, xac3, xac4, xac5, xac6⟩ := Xa.out; obtain ⟨xbc1, xbc2, xbc3, xbc4, xbc5, xbc6⟩ := Xb.out; obtain ⟨y1c1, y1c2, y1c3, y1c4, y1c5, y1c6⟩ := Y1.out; obtain ⟨y2c1, y2c2, y2c3, y2c4, y2c5, y2c6⟩ := Y2.out; obtain ⟨y3c1, y3c2, y3c3, y3c4, y3c5, y3c6⟩ := Y3.out; have Xa := hide (T3.over (h := w12.heap.size) Xa.out (by omega) (.bool (qs N)) (.slice A14 (ln (qn N)) c14) (.slice B14 (ln (qd N)) d14)); have Xb := hide (T3.over (h := w12.heap.size) Xb.out (by omega) (.bool (qs N)) (.slice A14 (ln (qn N)) c14) (.slice B14 (ln (qd N)) d14)); have b14 := Below.over3 b14 (g := w12.heap.size) (by omega) (.bool (qs N)) (.slice A14 (ln (qn N)) c14) (.slice B14 (ln (qd N)) d14); have s14 := s14.over3 Y3.out (.bool (qs N)) (.slice A14 (ln (qn N)) c14) (.slice B14 (ln (qd N)) d14); have t14 := t14.over3 Y3.out (.bool (qs N)) (.slice A14 (ln (qn N)) c14) (.slice B14 (ln (qd N)) d14); have Y3 := hide (T3.set Y3.out (.bool (qs N)) (.slice A14 (ln (qn N)) c14) (.slice B14 (ln (qd N)) d14)); obtain ⟨nac1, nac2, nac3, _⟩ := Xa.out; obtain ⟨nbc1, nbc2, nbc3, _⟩ := Xb.out; obtain ⟨n3c1, n3c2, n3c3, _⟩ := Y3.out; clear hb g)
    | (go_at_call 24; (with_reducible refine (CN.out A14 B14 c14 d14 _ b14 s14 t14).mono ?_); rintro e w15 ⟨rfl, hb⟩; have g := hb; have s14 := kp' g s14; have t14 := kp' g t14; have Xa := hide (Xa.out.next g); have Xb := hide (Xb.out.next g); have Y3 := hide (Y3.out.next g); have b15 := bl_trans b14 g; (try clear nac1 nac2 nac3); (try clear nbc1 nbc2 nbc3); (try clear n3c1 n3c2 n3c3); obtain ⟨xac1, xac2, xac3, xac4, xac5, xac6⟩ := Xa.out; obtain ⟨xbc1, xbc2, xbc3, xbc4, xbc5, xbc6⟩ := Xb.out; obtain ⟨y3c1, y3c2, y3c3, y3c4, y3c5, y3c6⟩ := Y3.out; clear hb g)
    | (go_at_call 24; (with_reducible refine (CM.out A14 B14 c14 d14 _ b15 s14 t14).mono ?_); rintro e w16 ⟨rfl, hb⟩; have g := hb; have s14 := kp' g s14; have t14 := kp' g t14; have Xa := hide (Xa.out.next g); have Xb := hide (Xb.out.next g); have Y3 := hide (Y3.out.next g); have b16 := bl_trans b15 g; (try clear xac1 xac2 xac3 xac4 xac5 xac6); (try clear xbc1 xbc2 xbc3 xbc4 xbc5 xbc6); (try clear y3c1 y3c2 y3c3 y3c4 y3c5 y3c6); obtain ⟨xac1, xac2, xac3, xac4, xac5, xac6⟩ := Xa.out; obtain ⟨xbc1, xbc2, xbc3, xbc4, xbc5, xbc6⟩ := Xb.out; obtain ⟨y3c1, y3c2, y3c3, y3c4, y3c5, y3c6⟩ := Y3.out; clear hb g)
    | (go_at_call 26; (with_reducible refine (S1.out _ b16).mono ?_); rintro e w17 ⟨rfl, hb⟩; have g := hb; have s14 := kp' g s14; have t14 := kp' g t14; have Xa := hide (Xa.out.next g); have Xb := hide (Xb.out.next g); have Y3 := hide (Y3.out.next g); have b17 := bl_trans b16 g; (try clear xac1 xac2 xac3 xac4 xac5 xac6); (try clear xbc1 xbc2 xbc3 xbc4 xbc5 xbc6); (try clear y3c1 y3c2 y3c3 y3c4 y3c5 y3c6); obtain ⟨xac1, xac2, xac3, xac4, xac5, xac6⟩ := Xa.out; obtain ⟨xbc1, xbc2, xbc3, xbc4, xbc5, xbc6⟩ := Xb.out; obtain ⟨y3c1, y3c2, y3c3, y3c4, y3c5, y3c6⟩ := Y3.out; clear hb g)
    | (go_at_call 26; (with_reducible refine (S2.out _ b17).mono ?_); rintro e w18 ⟨rfl, hb⟩; have g := hb; have s14 := kp' g s14; have t14 := kp' g t14; have Xa := hide (Xa.out.next g); have Xb := hide (Xb.out.next g); have Y3 := hide (Y3.out.next g); have b18 := bl_trans b17 g; (try clear xac1 xac2 xac3 xac4 xac5 xac6); (try clear xbc1 xbc2 xbc3 xbc4 xbc5 xbc6); (try clear y3c1 y3c2 y3c3 y3c4 y3c5 y3c6); obtain ⟨xac1, xac2, xac3, xac4, xac5, xac6⟩ := Xa.out; obtain ⟨xbc1, xbc2, xbc3, xbc4, xbc5, xbc6⟩ := Xb.out; obtain ⟨y3c1, y3c2, y3c3, y3c4, y3c5, y3c6⟩ := Y3.out; clear hb g)
    | (go_at_call 14; (with_reducible refine (AW.out _ b18).mono ?_); rintro e w19 ⟨rfl, hb⟩; have g := hb; have s14 := kp' g s14; have t14 := kp' g t14; have Xa := hide (Xa.out.next g); have Xb := hide (Xb.out.next g); have Y3 := hide (Y3.out.next g); have b19 := bl_trans b18 g; (try clear xac1 xac2 xac3 xac4 xac5 xac6); (try clear xbc1 xbc2 xbc3 xbc4 xbc5 xbc6); (try clear y3c1 y3c2 y3c3 y3c4 y3c5 y3c6); obtain ⟨xac1, xac2, xac3, xac4, xac5, xac6⟩ := Xa.out; obtain ⟨xbc1, xbc2, xbc3, xbc4, xbc5, xbc6⟩ := Xb.out; obtain ⟨y3c1, y3c2, y3c3, y3c4, y3c5, y3c6⟩ := Y3.out; clear hb g))
  go_ret
  exact ⟨rfl, b19⟩

theorem C2_next {w w' : World} (hb : Below w.heap.size w w') {p1 p2 : Addr} {v1 v2 : Value} (h : w.cell? p1 = some v1 ∧ w.cell? p2 = some v2) : w'.cell? p1 = some v1 ∧ w'.cell? p2 = some v2 := ⟨cell_next hb h.1, cell_next hb h.2⟩
theorem q2_two {g : Nat} {u v : Value} {w : World} (h : Q2 g u v w) : w.cell? ⟨g, 0, none⟩ = some u ∧ w.cell? ⟨g, 1, none⟩ = some v := ⟨h.1, h.2.1⟩
theorem C2_over {w : World} {g h : Nat} {u v a b c : Value} (hne : h ≠ g) (x : w.cell? ⟨h, 0, none⟩ = some u ∧ w.cell? ⟨h, 1, none⟩ = some v) :
    (((w.setCell ⟨g, 0, none⟩ a).setCell ⟨g, 1, none⟩ b).setCell ⟨g, 2, none⟩ c).cell? ⟨h, 0, none⟩ = some u ∧ (((w.setCell ⟨g, 0, none⟩ a).setCell ⟨g, 1, none⟩ b).setCell ⟨g, 2, none⟩ c).cell? ⟨h, 1, none⟩ = some v :=
  ⟨cell_over3 x.1 hne a b c, cell_over3 x.2 hne a b c⟩
theorem q3_frozen {g h k : Nat} {w : World} (f : w.frozen? ⟨h, k, none⟩ = false) (a b c : Value) : (((w.setCell ⟨g, 0, none⟩ a).setCell ⟨g, 1, none⟩ b).setCell ⟨g, 2, none⟩ c).frozen? ⟨h, k, none⟩ = false := by
  rw [World.frozen?_setCell, World.frozen?_setCell, World.frozen?_setCell]; exact f
theorem q3_other {g h : Nat} {u v x : Value} {w : World} (k : Q3 h u v x w) (hne : h ≠ g) (a b c : Value) : Q3 h u v x (((w.setCell ⟨g, 0, none⟩ a).setCell ⟨g, 1, none⟩ b).setCell ⟨g, 2, none⟩ c) :=
  ⟨cell_over3 k.1 hne a b c, cell_over3 k.2.1 hne a b c, cell_over3 k.2.2.1 hne a b c, q3_frozen k.2.2.2.1 a b c, q3_frozen k.2.2.2.2.1 a b c, q3_frozen k.2.2.2.2.2 a b c⟩
theorem q3_set {g : Nat} {u v x : Value} {w : World} (k : Q3 g u v x w) (a b c : Value) : Q3 g a b c (((w.setCell ⟨g, 0, none⟩ a).setCell ⟨g, 1, none⟩ b).setCell ⟨g, 2, none⟩ c) :=
  ⟨(T3.set k a b c).1, (T3.set k a b c).2.1, (T3.set k a b c).2.2.1, q3_frozen k.2.2.2.1 a b c, q3_frozen k.2.2.2.2.1 a b c, q3_frozen k.2.2.2.2.2 a b c⟩
theorem T3.over' {g h : Nat} {u v x u' v' x' : Value} {w : World} (k : Q3 g u v x w) (_ : Q3 h u' v' x' w) (hne : g ≠ h) (a b c : Value) : T3 g u v x (((w.setCell ⟨h, 0, none⟩ a).setCell ⟨h, 1, none⟩ b).setCell ⟨h, 2, none⟩ c) := T3.over k hne a b c
theorem Below.over3' {g : Nat} {w w0 : World} {u' v' x' : Value} (b : Below w0.heap.size w0 w) (_ : Q3 g u' v' x' w) (hg : w0.heap.size ≤ g) (u v x : Value) : Below w0.heap.size w0 (((w.setCell ⟨g, 0, none⟩ u).setCell ⟨g, 1, none⟩ v).setCell ⟨g, 2, none⟩ x) := Below.over3 b hg u v x
/-- What stays behind New: all that was there, the cells of b and of one, the rows of one and of the new one. -/
def UF0 (w : World) (g1 g2 : Nat) (u1 v1 x1 u2 v2 x2 : Value) (A B C D : Option Addr) (x y z t : Nat) (V : World) : Prop :=
  Below w.heap.size w V ∧ Q3 g1 u1 v1 x1 V ∧ Q3 g2 u2 v2 x2 V ∧ Sl V A (digs x) ∧ Sl V B (digs y) ∧ Sl V C (digs z) ∧ Sl V D (digs t)
/-- .. and the new one's cells. -/
def UF (w : World) (g1 g2 : Nat) (u1 v1 x1 u2 v2 x2 : Value) (A B C D : Option Addr) (x y z t : Nat) (u3 v3 x3 : Value) (g : Nat) (V : World) : Prop :=
  UF0 w g1 g2 u1 v1 x1 u2 v2 x2 A B C D x y z t V ∧ Q3 g u3 v3 x3 V ∧ w.heap.size ≤ g ∧ g1 < g
theorem fin3_new {w V : World} {g1 g2 : Nat} {u1 v1 x1 u2 v2 x2 u3 v3 x3 : Value} {A B C D : Option Addr} {x y z t : Nat} (f : UF0 w g1 g2 u1 v1 x1 u2 v2 x2 A B C D x y z t V) :
    UF w g1 g2 u1 v1 x1 u2 v2 x2 A B C D x y z t u3 v3 x3 V.heap.size (V.alloc (.cells #[u3, v3, x3] 24)) :=
  ⟨⟨bl_al f.1 _, f.2.1.al _, f.2.2.1.al _, f.2.2.2.1.alloc _, f.2.2.2.2.1.alloc _, f.2.2.2.2.2.1.alloc _, f.2.2.2.2.2.2.alloc _⟩, Q3.new _ _ _ _, Below.size f.1, f.2.1.lt⟩
theorem fin3_set {w V : World} {g1 g2 g : Nat} {u1 v1 x1 u2 v2 x2 u3 v3 x3 : Value} {A B C D : Option Addr} {x y z t : Nat} (f : UF0 w g1 g2 u1 v1 x1 u2 v2 x2 A B C D x y z t V) (h : Q3 g (.bool false) (.slice none 0 0) (.slice none 0 0) V) (h0 : w.heap.size ≤ g) (h1 : g1 < g) (h2 : g2 < g) :
    UF w g1 g2 u1 v1 x1 u2 v2 x2 A B C D x y z t u3 v3 x3 g (((V.setCell ⟨g, 0, none⟩ u3).setCell ⟨g, 1, none⟩ v3).setCell ⟨g, 2, none⟩ x3) :=
  ⟨⟨Below.over3 f.1 h0 _ _ _, q3_other f.2.1 (by omega) _ _ _, q3_other f.2.2.1 (by omega) _ _ _, f.2.2.2.1.over3 h _ _ _, f.2.2.2.2.1.over3 h _ _ _, f.2.2.2.2.2.1.over3 h _ _ _, f.2.2.2.2.2.2.over3 h _ _ _⟩, q3_set h _ _ _, h0, h1⟩

theorem floor_size (q : Rat) : q.floor.natAbs ≤ qn q + 1 := by
  rw [Rat.floor_def]
  have hd := q.den_pos
  show (q.num / (q.den : Int)).natAbs ≤ q.num.natAbs + 1
  rcases (show q.num < 0 ∨ 0 ≤ q.num by omega) with h | h
  · have h1 : q.num / (q.den : Int) ≤ 0 := Int.le_of_lt (Int.ediv_neg_of_neg_of_pos h (by omega))
    have h2 : q.num ≤ q.num / (q.den : Int) := by
      have := Int.le_ediv_of_mul_le (a := q.num) (b := q.num) (c := (q.den : Int)) (by omega) (by
        have : q.num * (q.den : Int) ≤ q.num * 1 := Int.mul_le_mul_of_nonpos_left (by omega) (by omega)
        omega)
      exact this
    omega
  · have h1 : 0 ≤ q.num / (q.den : Int) := Int.ediv_nonneg h (by omega)
    have h2 : q.num / (q.den : Int) ≤ q.num := Int.ediv_le_self _ h
    omega

set_option maxRecDepth 100000 in
set_option maxHeartbeats 16000000 in
theorem between_frac (q1 q2 Z : Rat) (A1 B1 A2 B2 : Option Addr) (a1 e1 a2 e2 : Nat) (w : World) (sA1 : Sl w A1 (digs (qn q1))) (sB1 : Sl w B1 (digs (qd q1))) (sA2 : Sl w A2 (digs (qn q2))) (sB2 : Sl w B2 (digs (qd q2))) (g1 : ln (qn q1) ≤ 10 ∧ ln (qd q1) ≤ 10) (g2 : ln (qn q2) ≤ 10 ∧ ln (qd q2) ≤ 10) (ht : Pow10 w) (h : q1 < q2) (hZ : btw q1 q2 = Z) (h0 : Z ≠ 0) (hd : qd Z ≠ 1) :
    Calls Tryz.prog 5 #[.agg #[.bool (qs q1), .slice A1 (ln (qn q1)) a1, .slice B1 (ln (qd q1)) e1], .agg #[.bool (qs q2), .slice A2 (ln (qn q2)) a2, .slice B2 (ln (qd q2)) e2]] w fun e w' => e = .returned (.bool true) ∧ Below w.heap.size w w' := by
  have AW := hide (fun W (k : Below w.heap.size w W) => awake3_any W (pow_below ht k))
  have f1 : fitq q1 := ⟨by omega, by omega⟩
  have f2 : fitq q2 := ⟨by omega, by omega⟩
  have n1 : bnd 10 q1 := ⟨lt_of_ln g1.1, lt_of_ln g1.2⟩
  have n2 : bnd 10 q2 := ⟨lt_of_ln g2.1, lt_of_ln g2.2⟩
  have nz : bnd 22 Z := by rw [← hZ]; exact bnd_btw n1 n2
  have fz : fitq Z := fitq_bnd nz (by decide)
  have hl := btw_lt h
  rw [hZ] at hl
  obtain ⟨E, hE⟩ : ∃ x, x = Rat.divInt 1 1 := ⟨_, rfl⟩
  obtain ⟨O, hO⟩ : ∃ x, x = Rat.divInt 0 1 := ⟨_, rfl⟩
  have hE1 : E = 1 := by rw [hE]; decide
  have hO0 : O = 0 := by rw [hO]; decide
  have fE : fitq E := by rw [hE]; exact fit_small (by decide) (by decide)
  have fO : fitq O := by rw [hO]; exact fit_small (by decide) (by decide)
  have nE : bnd 1 E := by rw [hE]; exact ⟨by decide, by decide⟩
  have O1 := hide (fun W (_ : Below w.heap.size w W) => of_pos 1 1 E W (by decide) (by decide) (by decide) (by decide) (by decide) (by rw [hE]; exact qmk_divInt 1 1 (by decide)))
  have O0 := hide (fun W (_ : Below w.heap.size w W) => of_pos 0 1 O W (by decide) (by decide) (by decide) (by decide) (by decide) (by rw [hO]; exact qmk_divInt 0 1 (by decide)))
  have FW0 := hide (fun W (_ : Below w.heap.size w W) => few_any (qs q1) (qs q2) A1 B1 A2 B2 a1 e1 a2 e2 (ln (qn q1)) (ln (qd q1)) (ln (qn q2)) (ln (qd q2)) W true (decide_eq_true ⟨g1.1, g1.2, g2.1, g2.2⟩))
  have V1 := hide (fun W (k : Below w.heap.size w W) => valid_q q1 A1 B1 a1 e1 W (kp' k sA1) (kp' k sB1) f1.1 f1.2)
  have V2 := hide (fun W (k : Below w.heap.size w W) => valid_q q2 A2 B2 a2 e2 W (kp' k sA2) (kp' k sB2) f2.1 f2.2)
  have C1 := hide (fun W (k : Below w.heap.size w W) => cmp_q q1 q2 A1 B1 A2 B2 a1 e1 a2 e2 W (kp' k sA1) (kp' k sB1) (kp' k sA2) (kp' k sB2) f1 f2 _ (cmpQ_lt h))
  have BT := hide (fun W (k : Below w.heap.size w W) => between_q q1 q2 _ Z h rfl hZ A1 B1 A2 B2 a1 e1 a2 e2 W (kp' k sA1) (kp' k sB1) (kp' k sA2) (kp' k sB2) f1 f2 fz)
  have C2 := hide (fun X Y e f W (k : Below w.heap.size w W) s1 s2 => cmp_q q1 Z A1 B1 X Y a1 e1 e f W (kp' k sA1) (kp' k sB1) s1 s2 f1 fz _ (cmpQ_lt hl.1))
  have C3 := hide (fun X Y e f W (k : Below w.heap.size w W) s1 s2 => cmp_q Z q2 X Y A2 B2 e f a2 e2 W s1 s2 (kp' k sA2) (kp' k sB2) fz f2 _ (cmpQ_lt hl.2))
  have en : binOp .neq 27 (.int .i64 0) (.int .i64 0) = pure (.bool false) := rfl
  have e0 : binOp .eql 27 (.int .i64 0) (.int .i64 0) = pure (.bool true) := rfl
  have o1 : binOp .geq 3 (.int .i64 (-1)) (.int .i64 0) = pure (.bool false) := rfl
  have o2 : binOp .lss 3 (.int .i64 (-1)) (.int .i64 0) = pure (.bool true) := rfl
  have o3 : binOp .lss 3 (.int .i64 1) (.int .i64 0) = pure (.bool false) := rfl
  have o4 : binOp .gtr 3 (.int .i64 1) (.int .i64 0) = pure (.bool true) := rfl
  have o5 : binOp .leq 3 (.int .i64 1) (.int .i64 0) = pure (.bool false) := rfl
  have SM := hide (fun X Y P R e f g i W (_ : Below w.heap.size w W) s1 s2 s3 s4 => same3_q Z O X Y P R e f g i W s1 s2 s3 s4 fz fO false (by rw [hO0]; exact decide_eq_false h0))
  have SL := hide (fun X Y e f W (_ : Below w.heap.size w W) s1 s2 => lsame_z X Y e f (ln (qd Z)) (ln (qd E)) (digs (qd Z)) (digs (qd E)) W s1 s2 rfl rfl (Nat.le_trans fz.2 (by decide)) (Nat.le_trans fE.2 (by decide)) false (decide_eq_false (fun e => hd (by
      rw [hE1, show qd 1 = 1 from rfl] at e
      rw [← val_digs (qd Z), e, val_digs]))))
  obtain ⟨z, hz⟩ : ∃ z, q1.floor = z := ⟨_, rfl⟩
  have zl : ln z.natAbs ≤ 11 := by
    rw [← hz]
    refine Nat.le_trans (ln_mono (n := qn q1 + 1) ?_) (ln_add _ _ 10 g1.1 (by rw [ln_one]; decide))
    exact floor_size q1
  have FL := hide (fun W (k : Below w.heap.size w W) => floor_q q1 A1 B1 a1 e1 W (kp' k sA1) (kp' k sB1) f1 z hz)
  have RI := hide (fun W (_ : Below w.heap.size w W) => rof_z 1 W (by decide) (by decide))
  obtain ⟨U, hU⟩ : ∃ U, U = Rat.divInt z 1 := ⟨_, rfl⟩
  have hU' : U = (z : Rat) := by rw [hU, Rat.divInt_eq_div, show ((1 : Int) : Rat) = 1 from rfl, Rat.div_def, show (1 : Rat)⁻¹ = 1 from Rat.inv_eq_of_mul_eq_one (Rat.one_mul 1), Rat.mul_one]
  have nU : bnd 11 U := by rw [hU']; exact bnd_int (lt_of_ln zl) (by decide)
  have fU : fitq U := fitq_bnd nU (by decide)
  have NW := hide (fun X Y e g W (_ : Below w.heap.size w W) s1 s2 => new_q z 1 X Y e g U W s1 s2 (by omega) (by rw [show (1 : Int).natAbs = 1 from rfl, ln_one]; decide) (by decide) (by rw [hU]; exact qmk_divInt z 1 (by decide)))
  obtain ⟨N, hN⟩ : ∃ x, U + E = x := ⟨_, rfl⟩
  have fN : fitq N := by rw [← hN]; exact fitq_bnd (bnd_add nU nE) (by decide)
  have AD := hide (fun X Y P R e f g i W (_ : Below w.heap.size w W) s1 s2 s3 s4 => add_q U E N hN X Y P R e f g i W s1 s2 s3 s4 fU fE fN)
  obtain ⟨k, hk⟩ : ∃ k, cmpQ N q2 = k := ⟨_, rfl⟩
  have k0 : 0 ≤ k := by
    rw [← hk]
    refine cmpQ_ge ?_
    have := btw_frac (q := q1) (r := q2) (by rw [hZ]; exact hd)
    rw [Rat.intCast_add, hz] at this
    rw [← hN, hU', hE1]; exact this
  have CN := hide (fun X Y e f W (k' : Below w.heap.size w W) s1 s2 => cmp_q N q2 X Y A2 B2 e f a2 e2 W s1 s2 (kp' k' sA2) (kp' k' sB2) fN f2 k hk)
  have ok := geq_z 3 k0
  clear h0 hd hz zl hU hU' nU fU hN fN hk k0
  generalize isg z = sz at *
  generalize isg 1 = s1' at *
  generalize (1 : Int).natAbs = k1 at *
  generalize z.natAbs = kz at *
  clear n1 n2 nz f1 f2 fz hl hE hO hE1 hO0 fE fO nE g1 g2 ht h hZ sA1 sB1 sA2 sB2
  generalize qs q1 = s1 at *
  generalize ln (qn q1) = i1 at *
  generalize ln (qd q1) = j1 at *
  generalize qs q2 = s2 at *
  generalize ln (qn q2) = i2 at *
  generalize ln (qd q2) = j2 at *
  have Xa := hide ((Q3.new (.bool s1) (.slice A1 i1 a1) (.slice B1 j1 e1) w ).al (.cells #[.bool s2, .slice A2 i2 a2, .slice B2 j2 e2] 24))
  have Xb := hide (Q3.new1 (.bool s2) (.slice A2 i2 a2) (.slice B2 j2 e2) w (.cells #[.bool s1, .slice A1 i1 a1, .slice B1 j1 e1] 24))
  have b0 : Below w.heap.size w ((w.alloc (.cells #[.bool s1, .slice A1 i1 a1, .slice B1 j1 e1] 24)).alloc (.cells #[.bool s2, .slice A2 i2 a2, .slice B2 j2 e2] 24)) := (bl_al (bl_al (.refl _ _) _) _)
  go_enter Tryz.func5, Tryz.ntmps5
  go_wp2_with (first
    | (go_at_call 13; (with_reducible refine (FW0.out _ b0).mono ?_); rintro e w1 ⟨rfl, hb⟩; have g := hb; have Xa := hide (Xa.out.next g); have Xb := hide (Xb.out.next g); have b1 := bl_trans b0 g; obtain ⟨xac1, xac2, xac3, xac4, xac5, xac6⟩ := Xa.out; obtain ⟨xbc1, xbc2, xbc3, xbc4, xbc5, xbc6⟩ := Xb.out; clear hb g)
    | (go_at_call 24; (with_reducible refine (C1.out _ b1).mono ?_); rintro e w2 ⟨rfl, hb⟩; have g := hb; have Xa := hide (Xa.out.next g); have Xb := hide (Xb.out.next g); have b2 := bl_trans b1 g; (try clear xac1 xac2 xac3 xac4 xac5 xac6); (try clear xbc1 xbc2 xbc3 xbc4 xbc5 xbc6); obtain ⟨xac1, xac2, xac3, xac4, xac5, xac6⟩ := Xa.out; obtain ⟨xbc1, xbc2, xbc3, xbc4, xbc5, xbc6⟩ := Xb.out; clear hb g)
    | (go_at_call 30; (with_reducible refine (V1.out _ b2).mono ?_); rintro e w3 ⟨rfl, hb⟩; have g := hb; have Xa := hide (Xa.out.next g); have Xb := hide (Xb.out.next g); have b3 := bl_trans b2 g; (try clear xac1 xac2 xac3 xac4 xac5 xac6); (try clear xbc1 xbc2 xbc3 xbc4 xbc5 xbc6); obtain ⟨xac1, xac2, xac3, xac4, xac5, xac6⟩ := Xa.out; obtain ⟨xbc1, xbc2, xbc3, xbc4, xbc5, xbc6⟩ := Xb.out; clear hb g)
    | (go_at_call 30; (with_reducible refine (V2.out _ b3).mono ?_); rintro e w4 ⟨rfl, hb⟩; have g := hb; have Xa := hide (Xa.out.next g); have Xb := hide (Xb.out.next g); have b4 := bl_trans b3 g; (try clear xac1 xac2 xac3 xac4 xac5 xac6); (try clear xbc1 xbc2 xbc3 xbc4 xbc5 xbc6); obtain ⟨xac1, xac2, xac3, xac4, xac5, xac6⟩ := Xa.out; obtain ⟨xbc1, xbc2, xbc3, xbc4, xbc5, xbc6⟩ := Xb.out; clear hb g)
    | (go_at_call 32; (with_reducible refine (BT.out _ b4).mono ?_); rintro e w5 ⟨A5, c5, B5, d5, rfl, s5, t5, hb⟩; have g := hb; have Xa := hide (Xa.out.next g); have Xb := hide (Xb.out.next g); have b5 := bl_trans b4 g; (try clear xac1 xac2 xac3 xac4 xac5 xac6); (try clear xbc1 xbc2 xbc3 xbc4 xbc5 xbc6); obtain ⟨xac1, xac2, xac3, xac4, xac5, xac6⟩ := Xa.out; obtain ⟨xbc1, xbc2, xbc3, xbc4, xbc5, xbc6⟩ := Xb.out; have xad1 := fun X => (Xa.out.al X).1; have xad2 := fun X => (Xa.out.al X).2.1; have xad3 := fun X => (Xa.out.al X).2.2.1; have xbd1 := fun X => (Xb.out.al X).1; have xbd2 := fun X => (Xb.out.al X).2.1; have xbd3 := fun X => (Xb.out.al X).2.2.1; clear hb g)
    | (go_at_call 24; (with_reducible refine (C2.out A5 B5 c5 d5 _ (bl_al b5 _) (s5.alloc _) (t5.alloc _)).mono ?_); rintro e w6 ⟨rfl, hb⟩; have g := (bl_one hb); have Y1 := hide ((Q3.new (.bool (qs Z)) (.slice A5 (ln (qn Z)) c5) (.slice B5 (ln (qd Z)) d5) w5).next hb); have s5 := kp' g s5; have t5 := kp' g t5; have Xa := hide (Xa.out.next g); have Xb := hide (Xb.out.next g); have b6 := bl_trans b5 g; clear xad1 xad2 xad3 xbd1 xbd2 xbd3; (try clear xac1 xac2 xac3 xac4 xac5 xac6); (try clear xbc1 xbc2 xbc3 xbc4 xbc5 xbc6); obtain ⟨xac1, xac2, xac3, xac4, xac5, xac6⟩ := Xa.out; obtain ⟨xbc1, xbc2, xbc3, xbc4, xbc5, xbc6⟩ := Xb.out; obtain ⟨y1c1, y1c2, y1c3, y1c4, y1c5, y1c6⟩ := Y1.out; clear hb g)
    | (go_at_call 24; (with_reducible refine (C3.out A5 B5 c5 d5 _ b6 s5 t5).mono ?_); rintro e w7 ⟨rfl, hb⟩; have g := hb; have s5 := kp' g s5; have t5 := kp' g t5; have Xa := hide (Xa.out.next g); have Xb := hide (Xb.out.next g); have Y1 := hide (Y1.out.next g); have b7 := bl_trans b6 g; (try clear xac1 xac2 xac3 xac4 xac5 xac6); (try clear xbc1 xbc2 xbc3 xbc4 xbc5 xbc6); (try clear y1c1 y1c2 y1c3 y1c4 y1c5 y1c6); obtain ⟨xac1, xac2, xac3, xac4, xac5, xac6⟩ := Xa.out; obtain ⟨xbc1, xbc2, xbc3, xbc4, xbc5, xbc6⟩ := Xb.out; obtain ⟨y1c1, y1c2, y1c3, y1c4, y1c5, y1c6⟩ := Y1.out; clear hb g)
    | (go_at_call 33; (with_reducible refine (O1.out _ b7).mono ?_); rintro e w8 ⟨A8, c8, B8, d8, rfl, s8, t8, hb⟩; have g := hb; have s5 := kp' g s5; have t5 := kp' g t5; have Xa := hide (Xa.out.next g); have Xb := hide (Xb.out.next g); have Y1 := hide (Y1.out.next g); have b8 := bl_trans b7 g; (try clear xac1 xac2 xac3 xac4 xac5 xac6); (try clear xbc1 xbc2 xbc3 xbc4 xbc5 xbc6); (try clear y1c1 y1c2 y1c3 y1c4 y1c5 y1c6); obtain ⟨xac1, xac2, xac3, xac4, xac5, xac6⟩ := Xa.out; obtain ⟨xbc1, xbc2, xbc3, xbc4, xbc5, xbc6⟩ := Xb.out; obtain ⟨y1c1, y1c2, y1c3, y1c4, y1c5, y1c6⟩ := Y1.out; clear hb g))
  have kz : Hid (KS w [(A5, qn Z), (B5, qd Z), (A8, qn E), (B8, qd E)] (w.heap.size) (w.heap.size + 1) w5.heap.size w8.heap.size (.bool s1) (.slice A1 i1 a1) (.slice B1 j1 e1) (.bool s2) (.slice A2 i2 a2) (.slice B2 j2 e2) (.bool (qs Z)) (.slice A5 (ln (qn Z)) c5) (.slice B5 (ln (qd Z)) d5) (.bool (qs E)) (.slice A8 (ln (qn E)) c8) (.slice B8 (ln (qd E)) d8) (w8.alloc (.cells #[.bool (qs E), .slice A8 (ln (qn E)) c8, .slice B8 (ln (qd E)) d8] 24))) := hide ⟨(K5.cons (K5.cons (K5.cons (K5.cons (K5.nil (bl_al b8 (.cells #[.bool (qs E), .slice A8 (ln (qn E)) c8, .slice B8 (ln (qd E)) d8] 24))) (t8.alloc (.cells #[.bool (qs E), .slice A8 (ln (qn E)) c8, .slice B8 (ln (qd E)) d8] 24))) (s8.alloc (.cells #[.bool (qs E), .slice A8 (ln (qn E)) c8, .slice B8 (ln (qd E)) d8] 24))) (t5.alloc (.cells #[.bool (qs E), .slice A8 (ln (qn E)) c8, .slice B8 (ln (qd E)) d8] 24))) (s5.alloc (.cells #[.bool (qs E), .slice A8 (ln (qn E)) c8, .slice B8 (ln (qd E)) d8] 24))), Xa.out.al _, Xb.out.al _, Y1.out.al _, Q3.new _ _ _ _⟩
  have kd := hide kz.out.drew
  have z1 := kz.out.2.2.2.1.1
  have z2 := kz.out.2.2.2.1.2.1
  have z3 := kz.out.2.2.2.1.2.2.1
  clear Xa Xb Y1 b0 b1 b2 b3 b4 b5 b6 b7 b8 s5 t5 s8 t8
  (try clear xac1 xac2 xac3 xac4 xac5 xac6 xbc1 xbc2 xbc3 xbc4 xbc5 xbc6 y1c1 y1c2 y1c3 y1c4 y1c5 y1c6)
  go_region_held3 (fun W => W.cell? ⟨w5.heap.size, 0, none⟩ = some (.bool (qs Z)) ∧ W.cell? ⟨w5.heap.size, 1, none⟩ = some (.slice A5 (ln (qn Z)) c5) ∧ W.cell? ⟨w5.heap.size, 2, none⟩ = some (.slice B5 (ln (qd Z)) d5) ∧ KS w [(A5, qn Z), (B5, qd Z), (A8, qn E), (B8, qd E)] (w.heap.size) (w.heap.size + 1) w5.heap.size w8.heap.size (.bool s1) (.slice A1 i1 a1) (.slice B1 j1 e1) (.bool s2) (.slice A2 i2 a2) (.slice B2 j2 e2) (.bool (qs Z)) (.slice A5 (ln (qn Z)) c5) (.slice B5 (ln (qd Z)) d5) (.bool (qs E)) (.slice A8 (ln (qn E)) c8) (.slice B8 (ln (qd E)) d8) W)
    (first | exact ⟨z1, z2, z3, kz.out⟩ | exact ⟨z1, z2, z3, kd.out⟩ | with_reducible exact SS_next hb (by assumption) | with_reducible assumption)
    (first
      | (go_at_call 33; (with_reducible refine (O0.out _ (K5.b (KS.k (ks3 (by assumption))))).mono ?_); rintro e v1 ⟨P1, p1, R1, r1, rfl, y1, y2, hb⟩)
      | (go_at_call 23; (with_reducible refine (SM.out A5 B5 P1 R1 c5 d5 p1 r1 _ (K5.b (KS.k (ks3 (by assumption)))) (K5.sl (KS.k (ks3 (by assumption))) mem1) (K5.sl (KS.k (ks3 (by assumption))) mem2) y1 y2).mono ?_); rintro e v2 ⟨rfl, hb⟩))
  rename_i hS
  have kk := hide (ks3 hS)
  clear hS kz kd z1 z2 z3
  have b10 := K5.b kk.out.1
  have s5 := K5.sl kk.out.1 mem1
  have t5 := K5.sl kk.out.1 mem2
  have s8 := K5.sl kk.out.1 mem3
  have t8 := K5.sl kk.out.1 mem4
  have Xa := hide kk.out.2.1
  have Xb := hide kk.out.2.2.1
  have Y1 := hide kk.out.2.2.2.1
  have Y2 := hide kk.out.2.2.2.2
  clear kk
  obtain ⟨xac1, xac2, xac3, xac4, xac5, xac6⟩ := Xa.out
  obtain ⟨xbc1, xbc2, xbc3, xbc4, xbc5, xbc6⟩ := Xb.out
  obtain ⟨y1c1, y1c2, y1c3, y1c4, y1c5, y1c6⟩ := Y1.out
  obtain ⟨y2c1, y2c2, y2c3, y2c4, y2c5, y2c6⟩ := Y2.out
  go_wp2_with (first
    | (go_at_call 34; (with_reducible refine (SL.out B5 B8 d5 d8 _ b10 t5 t8).mono ?_); rintro e w11 ⟨rfl, hb⟩; have g := hb; have s5 := kp' g s5; have t5 := kp' g t5; have s8 := kp' g s8; have t8 := kp' g t8; have Xa := hide (Xa.out.next g); have Xb := hide (Xb.out.next g); have Y1 := hide (Y1.out.next g); have Y2 := hide (Y2.out.next g); have b11 := bl_trans b10 g; (try clear xac1 xac2 xac3 xac4 xac5 xac6); (try clear xbc1 xbc2 xbc3 xbc4 xbc5 xbc6); (try clear y1c1 y1c2 y1c3 y1c4 y1c5 y1c6); (try clear y2c1 y2c2 y2c3 y2c4 y2c5 y2c6); obtain ⟨xac1, xac2, xac3, xac4, xac5, xac6⟩ := Xa.out; obtain ⟨xbc1, xbc2, xbc3, xbc4, xbc5, xbc6⟩ := Xb.out; obtain ⟨y1c1, y1c2, y1c3, y1c4, y1c5, y1c6⟩ := Y1.out; obtain ⟨y2c1, y2c2, y2c3, y2c4, y2c5, y2c6⟩ := Y2.out; clear hb g)
    | (go_at_call 35; (with_reducible refine (FL.out _ b11).mono ?_); rintro e w12 ⟨A12, c12, rfl, s12, hb⟩; have g := hb; have s5 := kp' g s5; have t5 := kp' g t5; have s8 := kp' g s8; have t8 := kp' g t8; have Xa := hide (Xa.out.next g); have Xb := hide (Xb.out.next g); have Y1 := hide (Y1.out.next g); have Y2 := hide (Y2.out.next g); have b12 := bl_trans b11 g; (try clear xac1 xac2 xac3 xac4 xac5 xac6); (try clear xbc1 xbc2 xbc3 xbc4 xbc5 xbc6); (try clear y1c1 y1c2 y1c3 y1c4 y1c5 y1c6); (try clear y2c1 y2c2 y2c3 y2c4 y2c5 y2c6); obtain ⟨xac1, xac2, xac3, xac4, xac5, xac6⟩ := Xa.out; obtain ⟨xbc1, xbc2, xbc3, xbc4, xbc5, xbc6⟩ := Xb.out; obtain ⟨y1c1, y1c2, y1c3, y1c4, y1c5, y1c6⟩ := Y1.out; obtain ⟨y2c1, y2c2, y2c3, y2c4, y2c5, y2c6⟩ := Y2.out; clear hb g))
  have la := Xb.out.lt
  have lb := Y2.out.lt
  have lc := Below.size b12
  have Xb := hide (Xb.out.al (.cells #[.bool sz, .slice A12 (ln kz) c12] 40))
  have Y2 := hide (Y2.out.al (.cells #[.bool sz, .slice A12 (ln kz) c12] 40))
  have I1 := hide (Q2.new (.bool sz) (.slice A12 (ln kz) c12) w12)
  have ld := I1.out.lt
  have s8 := s8.alloc (.cells #[.bool sz, .slice A12 (ln kz) c12] 40)
  have t8 := t8.alloc (.cells #[.bool sz, .slice A12 (ln kz) c12] 40)
  have s12 := s12.alloc (.cells #[.bool sz, .slice A12 (ln kz) c12] 40)
  have kb := hide (bl_al b12 (.cells #[.bool sz, .slice A12 (ln kz) c12] 40))
  clear Xa Y1 s5 t5 b10 b11 b12
  (try clear xac1 xac2 xac3 xac4 xac5 xac6 xbc1 xbc2 xbc3 xbc4 xbc5 xbc6 y1c1 y1c2 y1c3 y1c4 y1c5 y1c6 y2c1 y2c2 y2c3 y2c4 y2c5 y2c6)
  generalize w12.alloc (.cells #[.bool sz, .slice A12 (ln kz) c12] 40) = w20 at *
  have ka : Hid (Below w.heap.size w (w20.alloc (.cells #[.bool false, .slice none 0 0, .slice none 0 0] 24)).drew) := hide (bl_al kb.out (.cells #[.bool false, .slice none 0 0, .slice none 0 0] 24)).drew
  have I1 := hide I1.out.drew
  have Xb := hide Xb.out.drew
  have Y2 := hide Y2.out.drew
  have kb := hide kb.out.drew
  have s8 : Sl w20.drew A8 (digs (qn E)) := s8
  have t8 : Sl w20.drew B8 (digs (qd E)) := t8
  have s12 : Sl w20.drew A12 (digs kz) := s12
  go_region_held3 (fun W => W.cell? ⟨w12.heap.size, 0, none⟩ = some (.bool sz) ∧ W.cell? ⟨w12.heap.size, 1, none⟩ = some (.slice A12 (ln kz) c12))
    (first | with_reducible exact q2_two I1.out | with_reducible exact C2_next (bl_al (.refl _ _) _) (by assumption) | with_reducible exact q2_two (I1.out.al _) | with_reducible exact C2_over (by omega) (by assumption) | with_reducible assumption | exact C2_next (bl_al (.refl _ _) _) (by assumption))
    (first
      | (go_at_call 37; (with_reducible refine (RI.out _ (by first | exact kb.out | exact ka.out)).mono ?_); rintro e v1 ⟨P1, p1, rfl, y1, hb⟩; (first | (have Xb := hide (Xb.out.next hb); have Y2 := hide (Y2.out.next hb); have I1 := hide (I1.out.next hb); have s8 := kp' hb s8; have t8 := kp' hb t8; have s12 := kp' hb s12; have kb := hide (bl_trans kb.out hb)) | (have hb := (show Below (w20.drew.alloc (.cells #[.bool false, .slice none 0 0, .slice none 0 0] 24)).heap.size (w20.drew.alloc (.cells #[.bool false, .slice none 0 0, .slice none 0 0] 24)) v1 from hb); have h1 := bl_one hb; have Xb := hide (Xb.out.next h1); have Y2 := hide (Y2.out.next h1); have I1 := hide (I1.out.next h1); have s8 := kp' h1 s8; have t8 := kp' h1 t8; have s12 := kp' h1 s12; have kb := hide (bl_trans kb.out h1); have Pa : Hid (Q3 w20.heap.size (.bool false) (.slice none 0 0) (.slice none 0 0) v1) := hide ((Q3.new (.bool false) (.slice none 0 0) (.slice none 0 0) w20.drew).next hb); clear h1)); have ls1 := I1.out.lt; (try have lp1 := Pa.out.lt); have z1 := Below.size hb; (try rw [size1] at z1); clear hb)
      | (go_at_call 36; (with_reducible refine (NW.out A12 P1 c12 p1 _ (by first | exact kb.out | exact bl_al kb.out _) (by first | exact s12 | exact s12.alloc _) (by first | exact y1 | exact y1.alloc _)).mono ?_); rintro e v2 ⟨A14, c14, B14, d14, rfl, s14, t14, hb⟩; (first | (have Xb := hide (Xb.out.next hb); have Y2 := hide (Y2.out.next hb); have I1 := hide (I1.out.next hb); have s8 := kp' hb s8; have t8 := kp' hb t8; have s12 := kp' hb s12; have kb := hide (bl_trans kb.out hb); have y1 := kp' hb y1; (try have Pa := hide (Pa.out.next hb))) | (have h1 := bl_one hb; have Xb := hide (Xb.out.next h1); have Y2 := hide (Y2.out.next h1); have I1 := hide (I1.out.next h1); have s8 := kp' h1 s8; have t8 := kp' h1 t8; have s12 := kp' h1 s12; have kb := hide (bl_trans kb.out h1); have y1 := kp' h1 y1; have Pa := hide ((Q3.new (.bool false) (.slice none 0 0) (.slice none 0 0) v1).next hb); clear h1)); have ls2 := I1.out.lt; (try have lp2 := Pa.out.lt); have z2 := Below.size hb; (try rw [size1] at z2); (try (obtain ⟨pa1, pa2, pa3, pa4, pa5, pa6⟩ := Pa.out)); clear hb))
  all_goals
    have f0 : UF0 w (w.heap.size + 1) w8.heap.size (.bool s2) (.slice A2 i2 a2) (.slice B2 j2 e2) (.bool (qs E)) (.slice A8 (ln (qn E)) c8) (.slice B8 (ln (qd E)) d8) A8 B8 A14 B14 (qn E) (qd E) (qn U) (qd U) v2 := ⟨kb.out, Xb.out, Y2.out, s8, t8, s14, t14⟩
    refine then_fin (Fn := UF w (w.heap.size + 1) w8.heap.size (.bool s2) (.slice A2 i2 a2) (.slice B2 j2 e2) (.bool (qs E)) (.slice A8 (ln (qn E)) c8) (.slice B8 (ln (qd E)) d8) A8 B8 A14 B14 (qn E) (qd E) (qn U) (qd U) (.bool (qs U)) (.slice A14 (ln (qn U)) c14) (.slice B14 (ln (qd U)) d14) _) (by
      first
        | with_reducible exact fin3_new f0
        | with_reducible exact fin3_set f0 Pa.out (by omega) (by omega) (by omega)) ?_
    clear f0 s8 t8 s14 t14 Xb Y2 kb I1
    rintro v ⟨⟨b30, Xb, Y2, s8, t8, s14, t14⟩, Y3, l0, lg⟩
    have Xb := hide Xb
    have Y2 := hide Y2
    have Y3 := hide Y3
    obtain ⟨xbc1, xbc2, xbc3, xbc4, xbc5, xbc6⟩ := Xb.out
    obtain ⟨y2c1, y2c2, y2c3, y2c4, y2c5, y2c6⟩ := Y2.out
    obtain ⟨y3c1, y3c2, y3c3, y3c4, y3c5, y3c6⟩ := Y3.out
    go_wp2_with (first
      | (go_at_call 15; (with_reducible refine (AD.out A14 B14 A8 B8 c14 d14 c8 d8 _ b30 s14 t14 s8 t8).mono ?_); rintro e w31 ⟨A31, c31, B31, d31, rfl, s31, t31, hb⟩; have g := hb; have s8 := kp' g s8; have t8 := kp' g t8; have s14 := kp' g s14; have t14 := kp' g t14; have Xb := hide (Xb.out.next g); have Y2 := hide (Y2.out.next g); have Y3 := hide (Y3.out.next g); have b31 := bl_trans b30 g; (try clear xbc1 xbc2 xbc3 xbc4 xbc5 xbc6); (try clear y2c1 y2c2 y2c3 y2c4 y2c5 y2c6); (try clear y3c1 y3c2 y3c3 y3c4 y3c5 y3c6); obtain ⟨xbc1, xbc2, xbc3, xbc4, xbc5, xbc6⟩ := Xb.out; obtain ⟨y2c1, y2c2, y2c3, y2c4, y2c5, y2c6⟩ := Y2.out; obtain ⟨y3c1, y3c2, y3c3, y3c4, y3c5, y3c6⟩ := Y3.out; have Xb := hide (T3.over' Xb.out Y3.out (by omega) (.bool (qs N)) (.slice A31 (ln (qn N)) c31) (.slice B31 (ln (qd N)) d31)); have b31 := Below.over3' b31 Y3.out (by omega) (.bool (qs N)) (.slice A31 (ln (qn N)) c31) (.slice B31 (ln (qd N)) d31); have s31 := s31.over3 Y3.out (.bool (qs N)) (.slice A31 (ln (qn N)) c31) (.slice B31 (ln (qd N)) d31); have t31 := t31.over3 Y3.out (.bool (qs N)) (.slice A31 (ln (qn N)) c31) (.slice B31 (ln (qd N)) d31); have Y3 := hide (T3.set Y3.out (.bool (qs N)) (.slice A31 (ln (qn N)) c31) (.slice B31 (ln (qd N)) d31)); obtain ⟨nbc1, nbc2, nbc3, _⟩ := Xb.out; obtain ⟨n3c1, n3c2, n3c3, _⟩ := Y3.out; clear hb g)
      | (go_at_call 24; (with_reducible refine (CN.out A31 B31 c31 d31 _ b31 s31 t31).mono ?_); rintro e w32 ⟨rfl, hb⟩; have g := hb; have s31 := kp' g s31; have t31 := kp' g t31; have Xb := hide (Xb.out.next g); have Y3 := hide (Y3.out.next g); have b32 := bl_trans b31 g; (try clear nbc1 nbc2 nbc3); (try clear n3c1 n3c2 n3c3); obtain ⟨xbc1, xbc2, xbc3, xbc4, xbc5, xbc6⟩ := Xb.out; obtain ⟨y3c1, y3c2, y3c3, y3c4, y3c5, y3c6⟩ := Y3.out; clear hb g)
      | (go_at_call 14; (with_reducible refine (AW.out _ b32).mono ?_); rintro e w33 ⟨rfl, hb⟩; have g := hb; have s31 := kp' g s31; have t31 := kp' g t31; have Xb := hide (Xb.out.next g); have Y3 := hide (Y3.out.next g); have b33 := bl_trans b32 g; (try clear xbc1 xbc2 xbc3 xbc4 xbc5 xbc6); (try clear y3c1 y3c2 y3c3 y3c4 y3c5 y3c6); obtain ⟨xbc1, xbc2, xbc3, xbc4, xbc5, xbc6⟩ := Xb.out; obtain ⟨y3c1, y3c2, y3c3, y3c4, y3c5, y3c6⟩ := Y3.out; clear hb g))
    go_ret
    exact ⟨rfl, b33⟩

set_option maxRecDepth 100000 in
set_option maxHeartbeats 4000000 in
theorem between_off (s1 : Bool) (A1 B1 : Option Addr) (a1 b1 : Nat) (xs1 ys1 : List Nat) (s2 : Bool) (A2 B2 : Option Addr) (a2 b2 : Nat) (xs2 ys2 : List Nat) (w : World) (k : Int) (k0 : 0 ≤ k) (hl : xs1.length ≤ 10 ∧ ys1.length ≤ 10 ∧ xs2.length ≤ 10 ∧ ys2.length ≤ 10)
    (CK : Hid (∀ W, Below w.heap.size w W → Calls Tryz.prog 24 #[.agg #[.bool s1, .slice A1 xs1.length a1, .slice B1 ys1.length b1], .agg #[.bool s2, .slice A2 xs2.length a2, .slice B2 ys2.length b2]] W fun e w' => e = .returned (.int .i64 k) ∧ Below W.heap.size W w')) (ht : Pow10 w) :
    Calls Tryz.prog 5 #[.agg #[.bool s1, .slice A1 xs1.length a1, .slice B1 ys1.length b1], .agg #[.bool s2, .slice A2 xs2.length a2, .slice B2 ys2.length b2]] w fun e w' => e = .returned (.bool true) ∧ Below w.heap.size w w' := by
  have AW := hide (fun W (k : Below w.heap.size w W) => awake3_any W (pow_below ht k))
  have FW := hide (fun W (_ : Below w.heap.size w W) => few_any s1 s2 A1 B1 A2 B2 a1 b1 a2 b2 xs1.length ys1.length xs2.length ys2.length W true (decide_eq_true hl))
  have ok := geq_z 3 k0
  clear ht hl k0
  generalize xs1.length = i1 at *
  generalize ys1.length = j1 at *
  generalize xs2.length = i2 at *
  generalize ys2.length = j2 at *
  have Xa := hide ((Q3.new (.bool s1) (.slice A1 i1 a1) (.slice B1 j1 b1) w ).al (.cells #[.bool s2, .slice A2 i2 a2, .slice B2 j2 b2] 24))
  have Xb := hide (Q3.new1 (.bool s2) (.slice A2 i2 a2) (.slice B2 j2 b2) w (.cells #[.bool s1, .slice A1 i1 a1, .slice B1 j1 b1] 24))
  have b0 : Below w.heap.size w ((w.alloc (.cells #[.bool s1, .slice A1 i1 a1, .slice B1 j1 b1] 24)).alloc (.cells #[.bool s2, .slice A2 i2 a2, .slice B2 j2 b2] 24)) := (bl_al (bl_al (.refl _ _) _) _)
  go_enter Tryz.func5, Tryz.ntmps5
  go_wp2_with (first
    | (go_at_call 13; (with_reducible refine (FW.out _ b0).mono ?_); rintro e w1 ⟨rfl, hb⟩; have g := hb; have Xa := hide (Xa.out.next g); have Xb := hide (Xb.out.next g); have b1 := bl_trans b0 g; obtain ⟨xac1, xac2, xac3, xac4, xac5, xac6⟩ := Xa.out; obtain ⟨xbc1, xbc2, xbc3, xbc4, xbc5, xbc6⟩ := Xb.out; clear hb g)
    | (go_at_call 24; (with_reducible refine (CK.out _ b1).mono ?_); rintro e w2 ⟨rfl, hb⟩; have g := hb; have Xa := hide (Xa.out.next g); have Xb := hide (Xb.out.next g); have b2 := bl_trans b1 g; (try clear xac1 xac2 xac3 xac4 xac5 xac6); (try clear xbc1 xbc2 xbc3 xbc4 xbc5 xbc6); obtain ⟨xac1, xac2, xac3, xac4, xac5, xac6⟩ := Xa.out; obtain ⟨xbc1, xbc2, xbc3, xbc4, xbc5, xbc6⟩ := Xb.out; clear hb g)
    | (go_at_call 14; (with_reducible refine (AW.out _ b2).mono ?_); rintro e w3 ⟨rfl, hb⟩; have g := hb; have Xa := hide (Xa.out.next g); have Xb := hide (Xb.out.next g); have b3 := bl_trans b2 g; (try clear xac1 xac2 xac3 xac4 xac5 xac6); (try clear xbc1 xbc2 xbc3 xbc4 xbc5 xbc6); obtain ⟨xac1, xac2, xac3, xac4, xac5, xac6⟩ := Xa.out; obtain ⟨xbc1, xbc2, xbc3, xbc4, xbc5, xbc6⟩ := Xb.out; clear hb g))
  go_ret
  exact ⟨rfl, b3⟩

set_option maxRecDepth 100000 in
set_option maxHeartbeats 4000000 in
theorem between_law (s1 : Bool) (A1 B1 : Option Addr) (a1 b1 : Nat) (xs1 ys1 : List Nat) (s2 : Bool) (A2 B2 : Option Addr) (a2 b2 : Nat) (xs2 ys2 : List Nat) (w : World) (sA1 : Sl w A1 xs1) (sB1 : Sl w B1 ys1) (sA2 : Sl w A2 xs2) (sB2 : Sl w B2 ys2) (lx1 : Limbs xs1) (ly1 : Limbs ys1) (lx2 : Limbs xs2) (ly2 : Limbs ys2) (_mx1 : xs1.length ≤ maxLen) (_my1 : ys1.length ≤ maxLen) (_mx2 : xs2.length ≤ maxLen) (_my2 : ys2.length ≤ maxLen) (ht : Pow10 w) :
    Calls Tryz.prog 5 #[.agg #[.bool s1, .slice A1 xs1.length a1, .slice B1 ys1.length b1], .agg #[.bool s2, .slice A2 xs2.length a2, .slice B2 ys2.length b2]] w fun e w' => e = .returned (.bool true) ∧ Below w.heap.size w w' := by
  obtain ⟨r, hr⟩ : ∃ r, decide (xs1.length ≤ 10 ∧ ys1.length ≤ 10 ∧ xs2.length ≤ 10 ∧ ys2.length ≤ 10) = r := ⟨_, rfl⟩
  cases r with
  | false =>
    have AW := hide (fun W (k : Below w.heap.size w W) => awake3_any W (pow_below ht k))
    have FW := hide (fun W (_ : Below w.heap.size w W) => few_any s1 s2 A1 B1 A2 B2 a1 b1 a2 b2 xs1.length ys1.length xs2.length ys2.length W false hr)
    clear ht sA1 sB1 sA2 sB2 lx1 ly1 lx2 ly2 _mx1 _my1 _mx2 _my2 hr
    generalize xs1.length = i1 at *
    generalize ys1.length = j1 at *
    generalize xs2.length = i2 at *
    generalize ys2.length = j2 at *
    have Xa := hide ((Q3.new (.bool s1) (.slice A1 i1 a1) (.slice B1 j1 b1) w ).al (.cells #[.bool s2, .slice A2 i2 a2, .slice B2 j2 b2] 24))
    have Xb := hide (Q3.new1 (.bool s2) (.slice A2 i2 a2) (.slice B2 j2 b2) w (.cells #[.bool s1, .slice A1 i1 a1, .slice B1 j1 b1] 24))
    have b0 : Below w.heap.size w ((w.alloc (.cells #[.bool s1, .slice A1 i1 a1, .slice B1 j1 b1] 24)).alloc (.cells #[.bool s2, .slice A2 i2 a2, .slice B2 j2 b2] 24)) := (bl_al (bl_al (.refl _ _) _) _)
    go_enter Tryz.func5, Tryz.ntmps5
    go_wp2_with (first
      | (go_at_call 13; (with_reducible refine (FW.out _ b0).mono ?_); rintro e w1 ⟨rfl, hb⟩; have g := hb; have Xa := hide (Xa.out.next g); have Xb := hide (Xb.out.next g); have b1 := bl_trans b0 g; obtain ⟨xac1, xac2, xac3, xac4, xac5, xac6⟩ := Xa.out; obtain ⟨xbc1, xbc2, xbc3, xbc4, xbc5, xbc6⟩ := Xb.out; clear hb g)
      | (go_at_call 14; (with_reducible refine (AW.out _ b1).mono ?_); rintro e w2 ⟨rfl, hb⟩; have g := hb; have Xa := hide (Xa.out.next g); have Xb := hide (Xb.out.next g); have b2 := bl_trans b1 g; (try clear xac1 xac2 xac3 xac4 xac5 xac6); (try clear xbc1 xbc2 xbc3 xbc4 xbc5 xbc6); obtain ⟨xac1, xac2, xac3, xac4, xac5, xac6⟩ := Xa.out; obtain ⟨xbc1, xbc2, xbc3, xbc4, xbc5, xbc6⟩ := Xb.out; clear hb g))
    go_ret
    exact ⟨rfl, b2⟩
  | true =>
    have hl := of_decide_eq_true hr
    by_cases hv : validQ s1 xs1 ys1 = false ∨ validQ s2 xs2 ys2 = false
    · exact between_off s1 A1 B1 a1 b1 xs1 ys1 s2 A2 B2 a2 b2 xs2 ys2 w 0 (by decide) hl (hide (fun W k => cmp_no s1 s2 A1 B1 A2 B2 a1 b1 a2 b2 xs1 ys1 xs2 ys2 W (kp' k sA1) (kp' k sB1) (kp' k sA2) (kp' k sB2) lx1 ly1 lx2 ly2 (by omega) (by omega) (by omega) (by omega) hv)) ht
    · have v1 : validQ s1 xs1 ys1 = true := (vQ s1 xs1 ys1).resolve_right (fun e => hv (.inl e))
      have v2 : validQ s2 xs2 ys2 = true := (vQ s2 xs2 ys2).resolve_right (fun e => hv (.inr e))
      obtain ⟨q1, rfl, rfl, rfl⟩ := as_rat lx1 ly1 v1
      obtain ⟨q2, rfl, rfl, rfl⟩ := as_rat lx2 ly2 v2
      have f1 : fitq q1 := ⟨Nat.le_trans hl.1 (by decide), Nat.le_trans hl.2.1 (by decide)⟩
      have f2 : fitq q2 := ⟨Nat.le_trans hl.2.2.1 (by decide), Nat.le_trans hl.2.2.2 (by decide)⟩
      have g1 : ln (qn q1) ≤ 10 ∧ ln (qd q1) ≤ 10 := ⟨hl.1, hl.2.1⟩
      have g2 : ln (qn q2) ≤ 10 ∧ ln (qd q2) ≤ 10 := ⟨hl.2.2.1, hl.2.2.2⟩
      by_cases h : q1 < q2
      · by_cases h0 : btw q1 q2 = 0
        · exact between_zero q1 q2 _ A1 B1 A2 B2 a1 b1 a2 b2 w sA1 sB1 sA2 sB2 g1 g2 ht h rfl h0
        · by_cases hd : qd (btw q1 q2) = 1
          · by_cases hq : q1 < 0
            · exact between_neg q1 q2 _ A1 B1 A2 B2 a1 b1 a2 b2 w sA1 sB1 sA2 sB2 g1 g2 ht h rfl h0 hd hq
            · exact between_pos q1 q2 _ A1 B1 A2 B2 a1 b1 a2 b2 w sA1 sB1 sA2 sB2 g1 g2 ht h rfl h0 hd (Rat.not_lt.1 hq)
          · exact between_frac q1 q2 _ A1 B1 A2 B2 a1 b1 a2 b2 w sA1 sB1 sA2 sB2 g1 g2 ht h rfl h0 hd
      · exact between_off (qs q1) A1 B1 a1 b1 (digs (qn q1)) (digs (qd q1)) (qs q2) A2 B2 a2 b2 (digs (qn q2)) (digs (qd q2)) w (cmpQ q1 q2) (cmpQ_nlt h) hl (hide (fun W k => cmp_q q1 q2 A1 B1 A2 B2 a1 b1 a2 b2 W (kp' k sA1) (kp' k sB1) (kp' k sA2) (kp' k sB2) f1 f2 _ rfl)) ht
end Nt

end Go.Proofs.YtofofabmidpbhaaGreatDoor
