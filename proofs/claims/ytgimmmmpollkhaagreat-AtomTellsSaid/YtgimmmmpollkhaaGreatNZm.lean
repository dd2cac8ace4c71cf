
/-
  The reference's Mul and Scale, with what the rows have room for.
  The reference's noPoly and Says; atom.Valid of every kind.
  The reference's SameAtom, Trivial, HoldsAtom.
  The reference's MakeAtom, of kinds 1 and 2.
  The reference's NotAtom.
-/
import Derived.Test.YtgimmmmpollkhaaGreatNZo
import Derived.Test.YtgimmmmpollkhaaGreatNZh
namespace Go.Proofs.YtgimmmmpollkhaaGreat

open Go.ChangeShapes Go.RowKit

namespace Nt
set_option maxRecDepth 100000
set_option linter.unusedSimpArgs false
set_option linter.unusedVariables false

def RQC (w : World) (q : Rat) (e : Ending) (w' : World) : Prop := ∃ A c B d, e = .returned (.agg #[.bool (qs q), .slice A (ln (qn q)) c, .slice B (ln (qd q)) d]) ∧ Sl w' A (digs (qn q)) ∧ Sl w' B (digs (qd q)) ∧ Below w.heap.size w w' ∧ ln (qn q) ≤ c ∧ ln (qd q) ≤ d
def RQEC (w : World) (q : Rat) (e : Ending) (w' : World) : Prop := ∃ A c B d, e = .returned (.tuple #[.agg #[.bool (qs q), .slice A (ln (qn q)) c, .slice B (ln (qd q)) d], .int .i64 0]) ∧ Sl w' A (digs (qn q)) ∧ Sl w' B (digs (qd q)) ∧ Below w.heap.size w w' ∧ ln (qn q) ≤ c ∧ ln (qd q) ≤ d
theorem RQC.mk {w w' : World} {q : Rat} {A B : Option Addr} {c d n m : Nat} {s : Bool} (h1 : qs q = s) (h2 : qn q = n) (h3 : qd q = m) (sa : Sl w' A (digs n)) (sb : Sl w' B (digs m)) (b : Below w.heap.size w w') (ka : ln n ≤ c) (kb : ln m ≤ d) :
    RQC w q (.returned (.agg #[.bool s, .slice A (ln n) c, .slice B (ln m) d])) w' := by
  subst h1 h2 h3
  exact ⟨A, c, B, d, rfl, sa, sb, b, ka, kb⟩
theorem RQEC.mk {w w' : World} {q : Rat} {A B : Option Addr} {c d n m : Nat} {s : Bool} (h1 : qs q = s) (h2 : qn q = n) (h3 : qd q = m) (sa : Sl w' A (digs n)) (sb : Sl w' B (digs m)) (b : Below w.heap.size w w') (ka : ln n ≤ c) (kb : ln m ≤ d) :
    RQEC w q (.returned (.tuple #[.agg #[.bool s, .slice A (ln n) c, .slice B (ln m) d], .int .i64 0])) w' := by
  subst h1 h2 h3
  exact ⟨A, c, B, d, rfl, sa, sb, b, ka, kb⟩
theorem rtrim_c (A : Option Addr) (c x : Nat) (w : World) (sx : Sl w A (digs x)) (hx : ln x ≤ 5000) (hc : ln x ≤ c) :
    Calls Tryz.prog 93 #[.slice A (ln x) c] w fun e w' => ∃ B d, e = .returned (.slice B (ln x) d) ∧ Sl w' B (digs x) ∧ ln x ≤ d ∧ Below w.heap.size w w' :=
  (rtrim_any A c (digs x) w sx hc (Nat.le_trans hx (by decide))).mono fun _ _ h => by
    rw [← digs_val (limbs_digs x), val_digs] at h
    obtain ⟨B, d, h1, h2, h3⟩ := h
    exact ⟨B, d, h1, h2.sl, h2.le, h3⟩
set_option maxRecDepth 100000 in
set_option maxHeartbeats 4000000 in
theorem rmade_c (s : Bool) (A B : Option Addr) (c d x y : Nat) (q : Rat) (w : World) (sx : Sl w A (digs x)) (sy : Sl w B (digs y)) (hx : ln x ≤ 1000) (hy : ln y ≤ 1000) (hp : 0 < y) (hq : qmk s x y = q) :
    Calls Tryz.prog 103 #[.bool s, .slice A (ln x) c, .slice B (ln y) d] w (RQC w q) := by
  obtain ⟨g, hg⟩ : ∃ g, Nat.gcd x y = g := ⟨_, rfl⟩
  have gp : 0 < g := by rw [← hg]; exact Nat.gcd_pos_of_pos_right _ hp
  have gl : ln g ≤ 1000 := by rw [← hg]; exact Nat.le_trans (ln_mono (Nat.gcd_le_right _ hp)) hy
  obtain ⟨u, hu⟩ : ∃ u, x / g = u := ⟨_, rfl⟩
  obtain ⟨v, hv⟩ : ∃ v, y / g = v := ⟨_, rfl⟩
  have ul : ln u ≤ 1000 := by rw [← hu]; exact Nat.le_trans (ln_div _ _) hx
  have vl : ln v ≤ 1000 := by rw [← hv]; exact Nat.le_trans (ln_div _ _) hy
  have E1 := hide (show qs q = (s && decide (0 < ln u)) by rw [← hq, qs_mk s x (Nat.ne_of_gt hp), hg, hu, dec_ln])
  have E2 := hide (show qn q = u by rw [← hq, qn_mk s x (Nat.ne_of_gt hp), hg, hu])
  have E3 := hide (show qd q = v by rw [← hq, qd_mk s x (Nat.ne_of_gt hp), hg, hv])
  have G := hide (fun W (k : Below w.heap.size w W) => rgcd_z A B c d x y g W (kp' k sx) (kp' k sy) hx hy hg)
  have D1 := hide (fun X e W (k : Below w.heap.size w W) s3 => rdivmod_cap A X c e x g (ln x) (ln g) W rfl rfl (kp' k sx) s3 hx gl gp)
  have D2 := hide (fun X e W (k : Below w.heap.size w W) s3 => rdivmod_cap B X d e y g (ln y) (ln g) W rfl rfl (kp' k sy) s3 hy gl gp)
  rw [hu] at D1
  rw [hv] at D2
  obtain ⟨m1, hm1⟩ : ∃ m, x % g = m := ⟨_, rfl⟩
  obtain ⟨m2, hm2⟩ : ∃ m, y % g = m := ⟨_, rfl⟩
  rw [hm1] at D1
  rw [hm2] at D2
  have T1 := hide (fun X e W s3 h => rtrim_c X e u W s3 (by omega) h)
  have T2 := hide (fun X e W s3 h => rtrim_c X e v W s3 (by omega) h)
  obtain ⟨i, hi⟩ : ∃ i, i = ln u := ⟨_, rfl⟩
  have D1 : Hid (∀ X e W, Below w.heap.size w W → Sl W X (digs g) → Calls Tryz.prog 119 #[.slice A (ln x) c, .slice X (ln g) e] W fun e w' => ∃ A c B d, e = .returned (.tuple #[.slice A i c, .slice B (ln m1) d]) ∧ Sl w' A (digs u) ∧ Sl w' B (digs m1) ∧ i ≤ c ∧ Below W.heap.size W w') := by rw [hi]; exact D1
  have T1 : Hid (∀ X e W, Sl W X (digs u) → i ≤ e → Calls Tryz.prog 93 #[.slice X i e] W fun e w' => ∃ A c, e = .returned (.slice A i c) ∧ Sl w' A (digs u) ∧ i ≤ c ∧ Below W.heap.size W w') := by rw [hi]; exact T1
  obtain ⟨j, hj⟩ : ∃ j, j = ln v := ⟨_, rfl⟩
  have D2 : Hid (∀ X e W, Below w.heap.size w W → Sl W X (digs g) → Calls Tryz.prog 119 #[.slice B (ln y) d, .slice X (ln g) e] W fun e w' => ∃ A c B d, e = .returned (.tuple #[.slice A j c, .slice B (ln m2) d]) ∧ Sl w' A (digs v) ∧ Sl w' B (digs m2) ∧ j ≤ c ∧ Below W.heap.size W w') := by rw [hj]; exact D2
  have T2 : Hid (∀ X e W, Sl W X (digs v) → j ≤ e → Calls Tryz.prog 93 #[.slice X j e] W fun e w' => ∃ A c, e = .returned (.slice A j c) ∧ Sl w' A (digs v) ∧ j ≤ c ∧ Below W.heap.size W w') := by rw [hj]; exact T2
  rw [← hi] at E1
  have MK := hide (fun (A B : Option Addr) (c d : Nat) (W : World) (sa : Sl W A (digs u)) (sb : Sl W B (digs v)) (b : Below w.heap.size w W) (ka : ln u ≤ c) (kb : ln v ≤ d) => (RQC.mk E1.out E2.out E3.out sa sb b ka kb : RQC w q (.returned (.agg #[.bool (s && decide (0 < i)), .slice A (ln u) c, .slice B (ln v) d])) W))
  rw [← hi, ← hj] at MK
  have i0 : i ≤ 1000 := by omega
  clear sx sy hx hy hp hq hg gp gl hu hv ul vl E1 E2 E3 hm1 hm2 hi hj
  generalize ln x = n at *
  generalize ln y = m at *
  have X := hide (Q3.new (.bool false) (.slice none 0 0) (.slice none 0 0) w)
  have b0 : Below w.heap.size w (w.alloc (.cells #[.bool false, .slice none 0 0, .slice none 0 0] 25)) := bl_al (.refl _ _) _
  obtain ⟨z, hz⟩ : ∃ z, (s && decide (0 < i)) = z := ⟨_, rfl⟩
  rw [hz] at MK
  cases s with
  | false =>
    obtain rfl : z = false := by rw [← hz]; rfl
    clear hz
    go_enter Tryz.func103, Tryz.ntmps103
    go_wp2_with (first
      | (go_at_call 77; (with_reducible refine (G.out _ b0).mono ?_); rintro e w1 ⟨A1, c1, rfl, s1, hb⟩; have X := hide (X.out.next hb); (try clear x1 x2 x3 x4 x5 x6); obtain ⟨x1, x2, x3, x4, x5, x6⟩ := X.out; have b1 := bl_trans b0 hb; clear hb)
      | (go_at_call 119; (with_reducible refine (D1.out A1 c1 _ b1 s1).mono ?_); rintro e w2 ⟨A2, c2, B2, d2, rfl, s2, _, h2, hb⟩; have X := hide (X.out.next hb); (try clear x1 x2 x3 x4 x5 x6); obtain ⟨x1, x2, x3, x4, x5, x6⟩ := X.out; have b2 := bl_trans b1 hb; have s1 := kp' hb s1; clear hb)
      | (go_at_call 119; (with_reducible refine (D2.out A1 c1 _ b2 s1).mono ?_); rintro e w3 ⟨A3, c3, B3, d3, rfl, s3, _, h3, hb⟩; have X := hide (X.out.next hb); (try clear x1 x2 x3 x4 x5 x6); obtain ⟨x1, x2, x3, x4, x5, x6⟩ := X.out; have b3 := bl_trans b2 hb; have s2 := kp' hb s2; clear hb)
      | (go_at_call 93; (with_reducible refine (T1.out A2 c2 _ s2 h2).mono ?_); rintro e w4 ⟨A4, c4, rfl, s4, k4, hb⟩; have X := hide (X.out.next hb); (try clear x1 x2 x3 x4 x5 x6); obtain ⟨x1, x2, x3, x4, x5, x6⟩ := X.out; have b4 := bl_trans b3 hb; have s3 := kp' hb s3; clear hb)
      | (go_at_call 93; (with_reducible refine (T2.out A3 c3 _ s3 h3).mono ?_); rintro e w5 ⟨A5, c5, rfl, s5, k5, hb⟩; have X := hide (X.out.next hb); (try clear x1 x2 x3 x4 x5 x6); obtain ⟨x1, x2, x3, x4, x5, x6⟩ := X.out; have b5 := bl_trans b4 hb; have s4 := kp' hb s4; clear hb))
    refine bodyPost_ret (v := .agg #[.bool false, .slice A4 i c4, .slice A5 j c5]) (by simp [results, Tryz.results103, go_sem, x1, x2, x3]) rfl (MK.out A4 A5 c4 c5 _ (s4.over3 X.out _ _ _) (s5.over3 X.out _ _ _) (Below.over3 b5 (Nat.le_refl _) _ _ _) k4 k5)
  | true =>
    have hz' : decide (0 < i) = z := by rw [← hz]; rfl
    have oz : binOp .gtr 3 (.int .i64 (i : Int)) (.int .i64 0) = pure (.bool z) := by
      show pure (Value.bool (decide ((i : Int) > 0))) = _
      rw [← hz']; congr 2; exact decide_eq_decide.2 (by omega)
    clear hz hz'
    go_enter Tryz.func103, Tryz.ntmps103
    go_wp2_with (first
      | (go_at_call 77; (with_reducible refine (G.out _ b0).mono ?_); rintro e w1 ⟨A1, c1, rfl, s1, hb⟩; have X := hide (X.out.next hb); (try clear x1 x2 x3 x4 x5 x6); obtain ⟨x1, x2, x3, x4, x5, x6⟩ := X.out; have b1 := bl_trans b0 hb; clear hb)
      | (go_at_call 119; (with_reducible refine (D1.out A1 c1 _ b1 s1).mono ?_); rintro e w2 ⟨A2, c2, B2, d2, rfl, s2, _, h2, hb⟩; have X := hide (X.out.next hb); (try clear x1 x2 x3 x4 x5 x6); obtain ⟨x1, x2, x3, x4, x5, x6⟩ := X.out; have b2 := bl_trans b1 hb; have s1 := kp' hb s1; clear hb)
      | (go_at_call 119; (with_reducible refine (D2.out A1 c1 _ b2 s1).mono ?_); rintro e w3 ⟨A3, c3, B3, d3, rfl, s3, _, h3, hb⟩; have X := hide (X.out.next hb); (try clear x1 x2 x3 x4 x5 x6); obtain ⟨x1, x2, x3, x4, x5, x6⟩ := X.out; have b3 := bl_trans b2 hb; have s2 := kp' hb s2; clear hb)
      | (go_at_call 93; (with_reducible refine (T1.out A2 c2 _ s2 h2).mono ?_); rintro e w4 ⟨A4, c4, rfl, s4, k4, hb⟩; have X := hide (X.out.next hb); (try clear x1 x2 x3 x4 x5 x6); obtain ⟨x1, x2, x3, x4, x5, x6⟩ := X.out; have b4 := bl_trans b3 hb; have s3 := kp' hb s3; clear hb)
      | (go_at_call 93; (with_reducible refine (T2.out A3 c3 _ s3 h3).mono ?_); rintro e w5 ⟨A5, c5, rfl, s5, k5, hb⟩; have X := hide (X.out.next hb); (try clear x1 x2 x3 x4 x5 x6); obtain ⟨x1, x2, x3, x4, x5, x6⟩ := X.out; have b5 := bl_trans b4 hb; have s4 := kp' hb s4; clear hb))
    refine bodyPost_ret (v := .agg #[.bool z, .slice A4 i c4, .slice A5 j c5]) (by simp [results, Tryz.results103, go_sem, x1, x2, x3]) rfl (MK.out A4 A5 c4 c5 _ (s4.over3 X.out _ _ _) (s5.over3 X.out _ _ _) (Below.over3 b5 (Nat.le_refl _) _ _ _) k4 k5)
set_option maxRecDepth 100000 in
set_option maxHeartbeats 1000000 in
theorem rfits_c (q : Rat) (A B : Option Addr) (a b : Nat) (w : World) (sA : Sl w A (digs (qn q))) (sB : Sl w B (digs (qd q))) (f : fitq q) (ka : ln (qn q) ≤ a) (kb : ln (qd q) ≤ b) :
    Calls Tryz.prog 102 #[.agg #[.bool (qs q), .slice A (ln (qn q)) a, .slice B (ln (qd q)) b]] w (RQEC w q) := by
  have e1 := leI 3 (show (ln (qn q) : Int) ≤ 64 by have := f.1; omega)
  have e2 := leI 3 (show (ln (qd q) : Int) ≤ 64 by have := f.2; omega)
  have X := hide (Q3.new1 (.bool false) (.slice none 0 0) (.slice none 0 0) w (.cells #[.bool (qs q), .slice A (ln (qn q)) a, .slice B (ln (qd q)) b] 25))
  have b0 : Below w.heap.size w ((w.alloc (.cells #[.bool (qs q), .slice A (ln (qn q)) a, .slice B (ln (qd q)) b] 25)).alloc (.cells #[.bool false, .slice none 0 0, .slice none 0 0] 25)) := bl_al (bl_al (.refl _ _) _) _
  have R := hide (fun (W : World) (k : Below w.heap.size w W) => (RQEC.mk rfl rfl rfl (kp' k sA) (kp' k sB) k ka kb : RQEC w q (.returned (.tuple #[.agg #[.bool (qs q), .slice A (ln (qn q)) a, .slice B (ln (qd q)) b], .int .i64 0])) W))
  clear sA sB f ka kb
  generalize qs q = s at *
  generalize ln (qn q) = i1 at *
  generalize ln (qd q) = i2 at *
  have X1 := hide ((Q3.new (.bool s) (.slice A i1 a) (.slice B i2 b) w).al (.cells #[.bool false, .slice none 0 0, .slice none 0 0] 25))
  obtain ⟨x1, x2, x3, x4, x5, x6⟩ := X.out
  obtain ⟨y1, y2, y3, y4, y5, y6⟩ := X1.out
  go_enter Tryz.func102, Tryz.ntmps102
  go_wp2
  exact bodyPost_ret (v := .tuple #[.agg #[.bool s, .slice A i1 a, .slice B i2 b], .int .i64 0]) (by simp [results, Tryz.results102, go_sem]) rfl (R.out _ (bl_al (bl_al (.refl _ _) _) _))

set_option maxRecDepth 100000 in
set_option maxHeartbeats 4000000 in
theorem rmul_c (q r Z : Rat) (hZ : q * r = Z) (A B C D : Option Addr) (a b c d : Nat) (w : World) (sA : Sl w A (digs (qn q))) (sB : Sl w B (digs (qd q))) (sC : Sl w C (digs (qn r))) (sD : Sl w D (digs (qd r))) (f1 : fitq q) (f2 : fitq r) (f3 : fitq Z) :
    Calls Tryz.prog 59 #[.agg #[.bool (qs q), .slice A (ln (qn q)) a, .slice B (ln (qd q)) b], .agg #[.bool (qs r), .slice C (ln (qn r)) c, .slice D (ln (qd r)) d]] w (RQEC w Z) := by
  have V1 := hide (fun W (k : Below w.heap.size w W) => rvalid_q q A B a b W (kp' k sA) (kp' k sB) f1)
  have V2 := hide (fun W (k : Below w.heap.size w W) => rvalid_q r C D c d W (kp' k sC) (kp' k sD) f2)
  obtain ⟨u, hu⟩ : ∃ x, qn q * qn r = x := ⟨_, rfl⟩
  have ul : ln u ≤ 128 := by rw [← hu]; exact ln_mul2 f1.1 f2.1
  obtain ⟨v, hv⟩ : ∃ x, qd q * qd r = x := ⟨_, rfl⟩
  have vl : ln v ≤ 128 := by rw [← hv]; exact ln_mul2 f1.2 f2.2
  have M1 := hide (fun W (h : Below w.heap.size w W) => rmul_z A C a c (qn q) (qn r) u W (kp' h sA) (kp' h sC) (Nat.le_trans f1.1 (by decide)) (Nat.le_trans f2.1 (by decide)) hu)
  have M2 := hide (fun W (h : Below w.heap.size w W) => rmul_z B D b d (qd q) (qd r) v W (kp' h sB) (kp' h sD) (Nat.le_trans f1.2 (by decide)) (Nat.le_trans f2.2 (by decide)) hv)
  have vp : 0 < v := by rw [← hv]; exact Nat.mul_pos (qd_pos q) (qd_pos r)
  obtain ⟨s2, hs2⟩ : ∃ x, (qs q != qs r) = x := ⟨_, rfl⟩
  have hq : qmk s2 u v = Z := by rw [← hs2, ← hu, ← hv, ← hZ]; exact (mul_qmk q r).symm
  have MD := hide (fun X Y e f W (sx : Sl W X (digs u)) (sy : Sl W Y (digs v)) => rmade_c s2 X Y e f u v Z W sx sy (by omega) (by omega) vp hq)
  have FT := hide (fun X Y e f W (sx : Sl W X (digs (qn Z))) (sy : Sl W Y (digs (qd Z))) (k1 : ln (qn Z) ≤ e) (k2 : ln (qd Z) ≤ f) => rfits_c Z X Y e f W sx sy f3 k1 k2)
  have on : ∀ W : World, (binOp .neq 4 (.bool (qs q)) (.bool (qs r))).run Tryz.prog W = .ok (.bool s2) W := fun W => by
    rw [← hs2]
    cases qs q <;> cases qs r <;> kernel_rfl
  clear sA sB sC sD f1 f2 f3 hZ hu hv ul vl vp hq hs2
  generalize qs q = s at *
  generalize qs r = t at *
  generalize ln (qn q) = i1 at *
  generalize ln (qd q) = i2 at *
  generalize ln (qn r) = i3 at *
  generalize ln (qd r) = i4 at *
  have X1 := hide (((Q3.new (.bool s) (.slice A i1 a) (.slice B i2 b) w).al (.cells #[.bool t, .slice C i3 c, .slice D i4 d] 25)).al (.cells #[.bool false, .slice none 0 0, .slice none 0 0] 25))
  have X2 := hide ((Q3.new1 (.bool t) (.slice C i3 c) (.slice D i4 d) w (.cells #[.bool s, .slice A i1 a, .slice B i2 b] 25)).al (.cells #[.bool false, .slice none 0 0, .slice none 0 0] 25))
  have X3 := hide (Q3.new2 (.bool false) (.slice none 0 0) (.slice none 0 0) w (.cells #[.bool s, .slice A i1 a, .slice B i2 b] 25) (.cells #[.bool t, .slice C i3 c, .slice D i4 d] 25))
  have b0 : Below w.heap.size w (((w.alloc (.cells #[.bool s, .slice A i1 a, .slice B i2 b] 25)).alloc (.cells #[.bool t, .slice C i3 c, .slice D i4 d] 25)).alloc (.cells #[.bool false, .slice none 0 0, .slice none 0 0] 25)) := bl_al (bl_al (bl_al (.refl _ _) _) _) _
  obtain ⟨x1, x2, x3, x4, x5, x6⟩ := X1.out
  obtain ⟨y1, y2, y3, y4, y5, y6⟩ := X2.out
  obtain ⟨u1, u2, u3, u4, u5, u6⟩ := X3.out
  go_enter Tryz.func59, Tryz.ntmps59
  go_wp2_with (first
    | (go_at_call 30; (with_reducible refine (V1.out _ b0).mono ?_); rintro e w1 ⟨rfl, hb⟩; have X1 := hide (X1.out.next hb); have X2 := hide (X2.out.next hb); have X3 := hide (X3.out.next hb); (try clear x1 x2 x3 x4 x5 x6 y1 y2 y3 y4 y5 y6 u1 u2 u3 u4 u5 u6); obtain ⟨x1, x2, x3, x4, x5, x6⟩ := X1.out; obtain ⟨y1, y2, y3, y4, y5, y6⟩ := X2.out; obtain ⟨u1, u2, u3, u4, u5, u6⟩ := X3.out; have b1 := bl_trans b0 hb; clear hb)
    | (go_at_call 30; (with_reducible refine (V2.out _ b1).mono ?_); rintro e w2 ⟨rfl, hb⟩; have X1 := hide (X1.out.next hb); have X2 := hide (X2.out.next hb); have X3 := hide (X3.out.next hb); (try clear x1 x2 x3 x4 x5 x6 y1 y2 y3 y4 y5 y6 u1 u2 u3 u4 u5 u6); obtain ⟨x1, x2, x3, x4, x5, x6⟩ := X1.out; obtain ⟨y1, y2, y3, y4, y5, y6⟩ := X2.out; obtain ⟨u1, u2, u3, u4, u5, u6⟩ := X3.out; have b2 := bl_trans b1 hb; clear hb))
  have kb := hide b2.drew
  have X3 := hide X3.out.drew
  go_region_held3 (fun W => W.cell? ⟨w.heap.size, 0, none⟩ = some (.bool s) ∧ W.cell? ⟨w.heap.size, 1, none⟩ = some (.slice A i1 a) ∧ W.cell? ⟨w.heap.size, 2, none⟩ = some (.slice B i2 b) ∧ W.cell? ⟨w.heap.size + 1, 0, none⟩ = some (.bool t) ∧ W.cell? ⟨w.heap.size + 1, 1, none⟩ = some (.slice C i3 c) ∧ W.cell? ⟨w.heap.size + 1, 2, none⟩ = some (.slice D i4 d))
    (first | exact ⟨x1, x2, x3, y1, y2, y3⟩ | with_reducible exact T6c_next hb (by assumption) | with_reducible exact T6c_over (by omega) (by omega) (by assumption) | with_reducible assumption)
    (first
      | (go_at_call 104; (with_reducible refine (M1.out _ kb.out).mono ?_); rintro e v1 ⟨P1, p1, rfl, z1, hb⟩; have X3 := hide (X3.out.next hb); have kb := hide (bl_trans kb.out hb); (try have z2 := kp' hb z2))
      | (go_at_call 104; (with_reducible refine (M2.out _ kb.out).mono ?_); rintro e v2 ⟨P2, p2, rfl, z2, hb⟩; have X3 := hide (X3.out.next hb); have kb := hide (bl_trans kb.out hb); (try have z1 := kp' hb z1))
      | (go_at_call 103; (with_reducible refine (MD.out P1 P2 p1 p2 _ z1 z2).mono ?_); rintro e v3 ⟨P3, p3, P4, p4, rfl, z3, z4, hb, k31, k32⟩; have X3 := hide (X3.out.next hb); have kb := hide (bl_trans kb.out hb))
      | (go_at_call 102; (with_reducible refine (FT.out P3 P4 p3 p4 _ z3 z4 k31 k32).mono ?_); rintro e v4 ⟨P5, p5, P6, p6, rfl, z5, z6, hb, k51, k52⟩; have X3 := hide (X3.out.next hb); have kb := hide (bl_trans kb.out hb); obtain ⟨k1, k2, k3, k4, k5, k6⟩ := X3.out))
  all_goals
    go_wp2
    exact bodyPost_ret (v := .tuple #[.agg #[.bool (qs Z), .slice P5 (ln (qn Z)) p5, .slice P6 (ln (qd Z)) p6], .int .i64 0]) (by simp [results, Tryz.results59, go_sem, k1, k2, k3]) rfl (RQEC.mk rfl rfl rfl (z5.over3 X3.out _ _ _) (z6.over3 X3.out _ _ _) (Below.over3 kb.out (by omega) _ _ _) k51 k52)

def Pt.OkC (p : Pt) : Prop := p.Ok ∧ p.Cap
def NewQC (q : Rat) (t : Int) (w : World) (e : Ending) (w' : World) : Prop := ∃ r : Pt, e = .returned (.tuple #[.agg #[.bool r.s, .slice r.A r.xs.length r.a, .slice r.B r.ys.length r.b], .int .i64 0]) ∧ r.q = q ∧ r.t = t ∧ r.OkC ∧ r.At w' ∧ Below w.heap.size w w'
theorem RQEC.newQ {q : Rat} {w w' : World} {e : Ending} (h : RQEC w q e w') (f : fitq q) (t : Int) : NewQC q t w e w' := by
  obtain ⟨A, c, B, d, rfl, sA, sB, hb, k1, k2⟩ := h
  exact ⟨mkP q A c B d t, rfl, mkP_q _ _ _ _ _ _, rfl, ⟨mkP_ok f _ _ _ _ _, k1, k2⟩, ⟨sA, sB⟩, hb⟩
theorem rmul_pc {p k : Pt} (hp : p.Ok) (hk : k.Ok) (w : World) (aP : p.At w) (aK : k.At w) (f : fitB (p.q * k.q) = true) : Calls Tryz.prog 59 #[rv p, rv k] w (NewQC (p.q * k.q) p.t w) := by
  rw [fitB_t] at f
  rw [hp.rv, hk.rv]
  exact (rmul_c p.q k.q _ rfl _ _ _ _ _ _ _ _ w (hp.sl aP).1 (hp.sl aP).2 (hk.sl aK).1 (hk.sl aK).2 hp.f hk.f f).mono fun e w' h => h.newQ f _
def PRC (w : World) (L : List (Rat × Int)) (r : Rat) (e : Ending) (w' : World) : Prop := ∃ A k l c, e = .returned (.tuple #[polyV A l.length k c, .int .i64 0]) ∧ l.map Pt.qt = L ∧ c.q = r ∧ Pl w' A l ∧ c.At w' ∧ (∀ p ∈ l, p.OkC) ∧ c.Ok ∧ Below w.heap.size w w' ∧ l.length ≤ k ∧ k ≤ maxLen
theorem PRC.pr {w w' : World} {L : List (Rat × Int)} {r : Rat} {e : Ending} (h : PRC w L r e w') : PR w L r e w' := by
  obtain ⟨A, k, l, c, e, m, q, p, t, o, z, b, y, x⟩ := h
  exact ⟨A, k, l, c, e, m, q, p, t, fun p hp => (o p hp).1, z, b, y, x⟩

structure RscC (w : World) (c kk : Pt) (A : Option Addr) (n kc go : Nat) (v : Value) (l : List Pt) (W : World) : Prop where
  b : Below w.heap.size w W
  x : C4 w.heap.size (.slice A n kc) (.bool c.s) (.slice c.A c.xs.length c.a) (.slice c.B c.ys.length c.b) W
  k : C3 (w.heap.size + 1) (.bool kk.s) (.slice kk.A kk.xs.length kk.a) (.slice kk.B kk.ys.length kk.b) W
  r : Bk (w.heap.size + 1 + 1) zP 27 W
  o : Bk go #[v, .bool false, .slice none 0 0, .slice none 0 0] 27 W
  gn : Gn (w.heap.size + 3) W v l
  ok : ∀ p ∈ l, p.OkC ∧ p.At W
  ne : w.heap.size + 3 ≤ go ∧ v.ownBlock ≠ some go
section

variable {w W W' : World} {c kk : Pt} {A : Option Addr} {n kc go : Nat} {v : Value} {l : List Pt}
theorem RscC.next (h : RscC w c kk A n kc go v l W) (hb : Below W.heap.size W W') : RscC w c kk A n kc go v l W' :=
  ⟨bl_trans h.b hb, h.x.next hb, h.k.next hb, h.r.next hb, h.o.next hb, h.gn.next hb, fun p hp => ⟨(h.ok p hp).1, (h.ok p hp).2.next hb⟩, h.ne⟩
theorem RscC.al (h : RscC w c kk A n kc go v l W) (o : Obj) : RscC w c kk A n kc go v l (W.alloc o) := h.next (bl_al (.refl _ _) o)
theorem RscC.start (w : World) (c kk : Pt) (A : Option Addr) (n kc : Nat) (hn : n ≤ 1000000) {W : World} (hb : Below (W3 w c kk A n kc).heap.size (W3 w c kk A n kc) W) : RscC w c kk A n kc W.heap.size (.slice none 0 0) [] (W.alloc (.cells zP 27)) := by
  obtain ⟨hR, hbw⟩ := Sx.boxes w c kk A n kc hb
  obtain ⟨_, hx, hk, _, _⟩ := Sx.start w c kk A n kc hn hb
  have hs : w.heap.size + 3 ≤ W.heap.size := by
    have := hb.size
    unfold W3 at this
    simpa using this
  exact ⟨bl_al hbw _, hx.next (bl_al (.refl _ _) _), hk.next (bl_al (.refl _ _) _), hR.al _, Bk.new _ _ _, Gn.nil _ _, fun p hp => by simp at hp, hs, by simp [Value.ownBlock]⟩
theorem RscC.push (h : RscC w c kk A n kc go v l W) (p : Pt) (hp : p.OkC) (aP : p.At W) (hl : l.length ≤ 100000) {x : Nat} (hX : Bk x #[.bool p.s, .slice p.A p.xs.length p.a, .slice p.B p.ys.length p.b, .int .i64 p.t] 83 W) :
    ∃ v' W', (∀ ty, (Builtin.append_ #[22, 22] ty #[v, .slice (some ⟨x, 0, none⟩) 1 1]).run Tryz.prog W = .ok v' W') ∧ (∃ g' m', v' = .slice (some ⟨g', 0, none⟩) (l.length + 1) m') ∧ Off v.ownBlock.toList W W' ∧ Bk go #[v, .bool false, .slice none 0 0, .slice none 0 0] 27 W' ∧ RscC w c kk A n kc go v' (l ++ [p]) (W'.setCell ⟨go, 0, none⟩ v') := by
  have hbs := h.b.size
  have hgs : w.heap.size + 3 ≤ W.heap.size := by have := h.o.lt; have := h.ne.1; omega
  obtain ⟨v', W', hr, hg, hO, hw⟩ := h.gn.push p hl hgs hX
  have hT : ∀ b ∈ v.ownBlock.toList, w.heap.size + 3 ≤ b ∧ b ≠ go := fun b hb => by
    rw [Option.mem_toList] at hb
    exact ⟨(h.gn.base b hb).1, fun e => h.ne.2 (by rw [← e]; exact hb)⟩
  have ho := h.o.off hO (fun hm => (hT _ hm).2 rfl)
  have hO2 : Off [go] W' (W'.setCell ⟨go, 0, none⟩ v') := (Off.refl _ _).setCell _ _ (.inl (by simp))
  have hgo : ∀ b, v'.ownBlock = some b → b ∉ [go] := fun b hb hm => by
    simp at hm
    subst hm
    rcases hw b hb with e | e
    · exact h.ne.2 e
    · have := h.o.lt; omega
  have hno : ∀ u ∈ (#[v, .bool false, .slice none 0 0, .slice none 0 0] : Array Value).toList, noU u = true := by
    intro u hu
    simp at hu
    rcases hu with rfl | rfl | rfl
    · rcases h.gn with ⟨rfl, _⟩ | ⟨g, m, rfl, _⟩ <;> rfl
    · rfl
    · rfl
  have hB : Below w.heap.size W W' := hO.below hbs (fun b hb => by have := (hT b hb).1; omega)
  have hform : ∃ g' m', v' = .slice (some ⟨g', 0, none⟩) (l.length + 1) m' := by
    rcases hg with ⟨_, e⟩ | ⟨g', m', e, _⟩
    · simp at e
    · exact ⟨g', m', by rw [e, List.length_append]; rfl⟩
  refine ⟨v', W', hr, hform, hO, ho, ⟨?_, ?_, ?_, ?_, ?_, hg.off hO2 hgo, ?_, h.ne.1, fun e => hgo go e (by simp)⟩⟩
  · exact (h.b.trans hB).trans (hO2.below (Nat.le_trans hbs hO.size) (fun b hb => by simp at hb; have := h.ne.1; omega))
  · exact (h.x.off hO (fun hm => by have := (hT _ hm).1; omega)).off hO2 (by simp; have := h.ne.1; omega)
  · exact (h.k.off hO (fun hm => by have := (hT _ hm).1; omega)).off hO2 (by simp; have := h.ne.1; omega)
  · exact (h.r.off hO (fun hm => by have := (hT _ hm).1; omega)).off hO2 (by simp; have := h.ne.1; omega)
  · exact ho.set _ rfl
  · intro p' hp'
    have hat : p'.OkC ∧ p'.At W := by
      rcases List.mem_append.1 hp' with hm | hm
      · exact h.ok p' hm
      · simp at hm
        subst hm
        exact ⟨hp, aP⟩
    have h1 := h.gn.at_ hat.2 hO
    exact ⟨hat.1, ho.sl hno h1.1 hO2, ho.sl hno h1.2 hO2⟩
theorem RscC.done {r : Pt} (h : RscC w c kk A n kc go v l W) (hr : r.Ok) (aR : r.At W) :
    ∃ A' k, v = .slice A' l.length k ∧ PRC w (l.map Pt.qt) r.q (.returned (.tuple #[.agg #[.slice A' l.length k, .bool r.s, .slice r.A r.xs.length r.a, .slice r.B r.ys.length r.b], .int .i64 0]))
      ((((((((W.setCell ⟨go, 1, none⟩ (.bool r.s)).setCell ⟨go, 2, none⟩ (.slice r.A r.xs.length r.a)).setCell ⟨go, 3, none⟩ (.slice r.B r.ys.length r.b)).setCell ⟨w.heap.size + 1 + 1, 0, none⟩ (.slice A' l.length k)).setCell ⟨w.heap.size + 1 + 1, 1, none⟩ (.bool r.s)).setCell ⟨w.heap.size + 1 + 1, 2, none⟩ (.slice r.A r.xs.length r.a)).setCell ⟨w.heap.size + 1 + 1, 3, none⟩ (.slice r.B r.ys.length r.b))) ∧
      Bk go #[.slice A' l.length k, .bool r.s, .slice r.A r.xs.length r.a, .slice r.B r.ys.length r.b] 27 (((W.setCell ⟨go, 1, none⟩ (.bool r.s)).setCell ⟨go, 2, none⟩ (.slice r.A r.xs.length r.a)).setCell ⟨go, 3, none⟩ (.slice r.B r.ys.length r.b)) ∧
      Bk (w.heap.size + 1 + 1) zP 27 (((W.setCell ⟨go, 1, none⟩ (.bool r.s)).setCell ⟨go, 2, none⟩ (.slice r.A r.xs.length r.a)).setCell ⟨go, 3, none⟩ (.slice r.B r.ys.length r.b)) := by
  have hbs := h.b.size
  obtain ⟨A', k, rfl, _, hk1, hk2⟩ := h.gn.pl (fun p hp => (h.ok p hp).2)
  have hO1 : Off [go] W (((W.setCell ⟨go, 1, none⟩ (.bool r.s)).setCell ⟨go, 2, none⟩ (.slice r.A r.xs.length r.a)).setCell ⟨go, 3, none⟩ (.slice r.B r.ys.length r.b)) := (((Off.refl _ _).setCell _ _ (.inl (by simp))).setCell _ _ (.inl (by simp))).setCell _ _ (.inl (by simp))
  have hbox : Bk go #[.slice A' l.length k, .bool r.s, .slice r.A r.xs.length r.a, .slice r.B r.ys.length r.b] 27 (((W.setCell ⟨go, 1, none⟩ (.bool r.s)).setCell ⟨go, 2, none⟩ (.slice r.A r.xs.length r.a)).setCell ⟨go, 3, none⟩ (.slice r.B r.ys.length r.b)) := (((h.o.set (.bool r.s) rfl).set (.slice r.A r.xs.length r.a) rfl).set (.slice r.B r.ys.length r.b) rfl)
  have hno : ∀ u ∈ (#[.slice A' l.length k, .bool false, .slice none 0 0, .slice none 0 0] : Array Value).toList, noU u = true := by
    intro u hu
    simp at hu
    rcases hu with rfl | rfl | rfl <;> rfl
  have hr1 := h.r.off hO1 (by simp; have := h.ne.1; omega)
  have hO2 := off4 (w.heap.size + 1 + 1) (((W.setCell ⟨go, 1, none⟩ (.bool r.s)).setCell ⟨go, 2, none⟩ (.slice r.A r.xs.length r.a)).setCell ⟨go, 3, none⟩ (.slice r.B r.ys.length r.b)) (.slice A' l.length k) (.bool r.s) (.slice r.A r.xs.length r.a) (.slice r.B r.ys.length r.b)
  have at1 : ∀ p : Pt, p.At W → p.At _ := fun p hp => at_off hr1 (⟨h.o.sl hno hp.1 hO1, h.o.sl hno hp.2 hO1⟩ : p.At (((W.setCell ⟨go, 1, none⟩ (.bool r.s)).setCell ⟨go, 2, none⟩ (.slice r.A r.xs.length r.a)).setCell ⟨go, 3, none⟩ (.slice r.B r.ys.length r.b))) hO2
  have hgo1 : ∀ b, (Value.slice A' l.length k).ownBlock = some b → b ∉ [go] := fun b hb hm => by
    simp at hm
    subst hm
    exact h.ne.2 hb
  have hgo2 : ∀ b, (Value.slice A' l.length k).ownBlock = some b → b ∉ [w.heap.size + 1 + 1] := fun b hb hm => by
    simp at hm
    have := (h.gn.base b hb).1
    omega
  have hg2 := (h.gn.off hO1 hgo1).off hO2 hgo2
  obtain ⟨A2, k2, e2, hP, hk3, hk4⟩ := hg2.pl (fun p hp => at1 p (h.ok p hp).2)
  injection e2 with e2 _ e3
  subst e2
  subst e3
  refine ⟨A', k, rfl, ⟨A', k, l, r, rfl, rfl, rfl, hP, at1 r aR, fun p hp => (h.ok p hp).1, hr, ?_, hk3, hk4⟩, hbox, hr1⟩
  exact (h.b.trans (hO1.below hbs (fun b hb => by simp at hb; have := h.ne.1; omega))).trans (hO2.below (Nat.le_trans hbs hO1.size) (fun b hb => by simp at hb; omega))
end
set_option maxHeartbeats 8000000 in
theorem rscale_c (A : Option Addr) (l : List Pt) (kc : Nat) (c kk : Pt) (w : World) (hl : Pl w A l) (fl : ∀ p ∈ l, p.Ok) (hv : pvB (-1) l = true) (hc : c.At w) (fc : c.Ok) (hk : kk.At w) (fk : kk.Ok) (hn : l.length ≤ 1000) (hs : scB kk.q l c = true) (hk0 : kk.q ≠ 0) :
    Calls Tryz.prog 15 #[polyV A l.length kc c, rv kk] w (PRC w (scaleL kk.q l) (c.q * kk.q)) := by
  have hV := hide (fun W (b : Below w.heap.size w W) => rvalidP_any A l kc c W (hl.next b) (hc.next b) (fun p hp => (fl p hp).few) fc.few (by omega) true (by rw [hv, fc.valid]; rfl))
  have hK := hide (fun W (b : Below w.heap.size w W) => rvalid_p fk W (hk.next b))
  have hP := hide (fun W (b : Below w.heap.size w W) => Pl.next hl b)
  have hPg := hide (fun i (h : i < l.length) => (show ∃ g o, A = some ⟨g, o, none⟩ ∧ g < w.heap.size from by
    obtain ⟨g, o, e, ⟨c0, _⟩, _⟩ := hl.get h
    exact ⟨g, o, e, cell_in c0⟩))
  have hs' : (∀ p ∈ l, fitB (p.q * kk.q) = true) ∧ fitB (c.q * kk.q) = true := by
    unfold scB at hs
    rw [Bool.and_eq_true, List.all_eq_true] at hs
    exact hs
  have hM := hide (fun (p : Pt) (hp : p ∈ l) W (a : p.At W) (b : Below w.heap.size w W) => rmul_pc (fl p hp) fk W a (hk.next b) (hs'.1 p hp))
  have hC := hide (fun W (b : Below w.heap.size w W) => rmul_p fc fk W (hc.next b) (hk.next b) hs'.2)
  obtain ⟨n, hnn⟩ : ∃ n, n = l.length := ⟨_, rfl⟩
  have hst := hide (fun W (b : Below (W3 w c kk A n kc).heap.size (W3 w c kk A n kc) W) => RscC.start w c kk A n kc (by omega) b)
  have hbx := hide (fun W (b : Below (W3 w c kk A n kc).heap.size (W3 w c kk A n kc) W) => Sx.boxes w c kk A n kc b)
  have hkz : kk.xs.length = 0 ↔ kk.q = 0 := by
    rw [fk.x]
    have := q_zero_len kk.q
    constructor
    · intro h
      exact Decidable.byContradiction fun e => by have := this.2 e; omega
    · intro h
      have h2 : ¬ 0 < (digs (qn kk.q)).length := fun h' => this.1 h' h
      omega
  have hbS := hide (Sx.start w c kk A n kc (by omega) (.refl _ _))
  have hb0 : Below w.heap.size w (W3 w c kk A n kc) := bl_al (bl_al (bl_al (.refl _ _) _) _) _
  have hfull : ∀ lp : List Pt, kk.q ≠ 0 → lp.map Pt.qt = scL kk.q l → lp.map Pt.qt = scaleL kk.q l := fun lp h0 h => by
    unfold scaleL
    rw [if_neg h0, h]
  clear hl hc fc hk fk hs hs' fl hv
  unfold polyV rv at *
  rw [← hnn] at hV ⊢
  replace hnn := hide hnn
  unfold W3 zP at hb0 hst hbx
  replace hst := hide hst.out
  replace hbx := hide hbx.out
  replace hb0 := hide hb0
  obtain ⟨_, ⟨x0, x1, x2, x3⟩, ⟨y0, y1, y2⟩, _, _⟩ := hbS.out
  clear hbS
  unfold W3 zP at x0 x1 x2 x3 y0 y1 y2
  replace hk0 := hide hk0
  by_cases h0 : kk.q = 0
  · exact absurd h0 hk0.out
  · obtain ⟨j1, hj1⟩ : ∃ j, kk.xs.length = j := ⟨_, rfl⟩
    have hjz : ((j1 : Int) == 0) = false := by
      have : kk.xs.length ≠ 0 := fun e => h0 (hkz.1 e)
      rw [hj1] at this
      simpa using this
    replace hfull := hide (hfull · h0)
    replace hj1 := hide hj1
    clear hkz
    replace h0 := hide h0
    rw [hj1.out] at x0 x1 x2 x3 y0 y1 y2 hbx hb0 hK hC hM hst ⊢
    go_enter Tryz.func15, Tryz.ntmps15
    go_wp2_with (first
      | (go_at_call 26; (with_reducible refine (hV.out _ hb0.out).mono ?_); rintro e w1 ⟨rfl, hb⟩; have hb1 := hb; replace hb0 := hide (bl_trans hb0.out hb); replace x0 := cell_next hb x0; replace x1 := cell_next hb x1; replace x2 := cell_next hb x2; replace x3 := cell_next hb x3; replace y0 := cell_next hb y0; replace y1 := cell_next hb y1; replace y2 := cell_next hb y2; replace hb1 := hide hb1; clear hb)
      | (go_at_call 30; (with_reducible refine (hK.out _ hb0.out).mono ?_); rintro e w2 ⟨rfl, hb⟩; have X := hide (hst.out _ (bl_trans hb1.out hb)); replace hb0 := hide (bl_trans hb0.out hb); replace y0 := cell_next hb y0; replace y1 := cell_next hb y1; replace y2 := cell_next hb y2; clear hb x0 x1 x2 x3 hb1)
      | fail)
    clear y0 y1 y2 hV hK hst hbx
    generalize w2.heap.size = go at *
    go_loopw [7] (fun ix wr => ∃ (i : Nat) (v : Value) (l' : List Pt), i ≤ n ∧ ix = .int .i64 (i : Int) ∧ l'.length ≤ i ∧ l'.map Pt.qt = scL kk.q (l.take i) ∧ RscC w c kk A n kc go v l' wr) (fun ix _ => n - (intOf ix).toNat)
    case atStart => exact ⟨0, _, [], Nat.zero_le _, rfl, Nat.le_refl _, rfl, X.out⟩
    case round =>
      obtain ⟨i, v, l', hi, rfl, hli, hmap, hX⟩ := hrel
      have hX' := hX
      obtain ⟨hbw, ⟨x0, x1, x2, x3⟩, ⟨y0, y1, y2⟩, hR, hO, _, _, _⟩ := hX'
      rw [hj1.out] at *
      by_cases hlt : i < n
      · have hil : i < l.length := by rw [← hnn.out]; exact hlt
        obtain ⟨g1, o1, rfl, ⟨c0, c1, c2, c3⟩, hat⟩ := (hP.out wr hbw).get hil
        have hmem : l[i] ∈ l := List.getElem_mem hil
        have htk := hide (take_part hil)
        have hM1 := hide (fun W (b : Below wr.heap.size wr W) => hM.out l[i] hmem W (hat.next b) (bl_trans hbw b))
        have hg1 : g1 < w.heap.size := by
          obtain ⟨_, _, e, h⟩ := hPg.out i hil
          cases e
          exact h
        have hlt' : (i : Int) < (n : Int) := by omega
        clear hM hP
        have hX2 := hide hX
        replace hat := hide hat; replace hmap := hide hmap; replace hli := hide hli; replace hbw := hide hbw
        generalize l[i] = p at *
        generalize p.xs.length = p1 at *
        generalize p.ys.length = p2 at *
        have SF := hide (fun W (b : Below wr.heap.size wr W) => (show W.cell? ⟨w.heap.size, 0, none⟩ = some (.slice (some ⟨g1, o1, none⟩) n kc) ∧ (W.cell? ⟨w.heap.size + 1, 0, none⟩ = some (.bool kk.s) ∧ W.cell? ⟨w.heap.size + 1, 1, none⟩ = some (.slice kk.A j1 kk.a) ∧ W.cell? ⟨w.heap.size + 1, 2, none⟩ = some (.slice kk.B kk.ys.length kk.b)) ∧ (W.cell? ⟨g1, o1 + i * 4, none⟩ = some (.bool p.s) ∧ W.cell? ⟨g1, o1 + i * 4 + 1, none⟩ = some (.slice p.A p1 p.a) ∧ W.cell? ⟨g1, o1 + i * 4 + 2, none⟩ = some (.slice p.B p2 p.b)) from
          ⟨cell_next b x0, ⟨cell_next b y0, cell_next b y1, cell_next b y2⟩, ⟨cell_next b c0, cell_next b c1, cell_next b c2⟩⟩))
        have hC3 := hide (fun W (b : Below wr.heap.size wr W) => cell_next b c3)
        clear hX hR hO
        go_wp2_with fail
        go_region_held3 (fun W => W.cell? ⟨w.heap.size, 0, none⟩ = some (.slice (some ⟨g1, o1, none⟩) n kc) ∧ (W.cell? ⟨w.heap.size + 1, 0, none⟩ = some (.bool kk.s) ∧ W.cell? ⟨w.heap.size + 1, 1, none⟩ = some (.slice kk.A j1 kk.a) ∧ W.cell? ⟨w.heap.size + 1, 2, none⟩ = some (.slice kk.B kk.ys.length kk.b)) ∧ (W.cell? ⟨g1, o1 + i * 4, none⟩ = some (.bool p.s) ∧ W.cell? ⟨g1, o1 + i * 4 + 1, none⟩ = some (.slice p.A p1 p.a) ∧ W.cell? ⟨g1, o1 + i * 4 + 2, none⟩ = some (.slice p.B p2 p.b)))
          (first
            | (with_reducible exact SF.out _ (ka0 wr))
            | (with_reducible exact SF.out _ (ka1 wr _))
            | (with_reducible exact SF.out _ bc)
            | (with_reducible exact SF.out _ (bl_al bc _))
            | (with_reducible exact SF.out _ (bc.trans ((off3 _ _ _ _ _).below bc.size (fun b hb => by simp at hb; omega))))
            | fail)
          (first
            | (go_at_call 59; (with_reducible refine (hM1.out _ ?hw).mono ?_); (case hw => first | (with_reducible exact ka0 wr) | (with_reducible exact ka1 wr _) | fail); rintro e wa ⟨r, rfl, hq, ht, hok, har, hb⟩; have bc : Below wr.heap.size wr wa := (by first | (with_reducible exact bl_trans (ka0 wr) hb) | (with_reducible exact bl_trans (ka1 wr _) hb)); have n1 := bc.size; (first | (have hZ : Hid (Bk wr.heap.size #[.bool false, .slice none 0 0, .slice none 0 0] 25 wa) := by with_reducible exact hide (zd hb)) | skip); (first | (have v0 := hZ.out.cell (j := 0) rfl; have v1 := hZ.out.cell (j := 1) rfl; have v2 := hZ.out.cell (j := 2) rfl; have u0 := hZ.out.free 0; have u1 := hZ.out.free 1; have u2 := hZ.out.free 2) | skip))
            | fail)
        · have HB := hide (Bk.new #[.bool r.s, .slice r.A r.xs.length r.a, .slice r.B r.ys.length r.b] 25 wa)
          have ha2 := hide (har.next (bl_al (.refl _ _) (.cells #[.bool r.s, .slice r.A r.xs.length r.a, .slice r.B r.ys.length r.b] 25)))
          have hbb := hide (bl_al bc (.cells #[.bool r.s, .slice r.A r.xs.length r.a, .slice r.B r.ys.length r.b] 25))
          have hgw : wr.heap.size ≤ wa.heap.size := n1
          generalize wa.alloc (.cells #[.bool r.s, .slice r.A r.xs.length r.a, .slice r.B r.ys.length r.b] 25) = wy at *
          have hX3 := hide (hX2.out.next hbb.out)
          have c3' := hC3.out wy hbb.out
          rw [← ht] at c3'
          have hg3 : g1 < wy.heap.size := by have := hbb.out.size; have := hbw.out.size; omega
          have hT : ∀ b, b ∈ v.ownBlock.toList → w.heap.size + 3 ≤ b ∧ b < wr.heap.size := fun b hb => hX2.out.gn.base b (Option.mem_toList.1 hb)
          have hgo : go ∉ v.ownBlock.toList := fun hm => hX2.out.ne.2 (Option.mem_toList.1 hm)
          have SS := hide (fun W (hO : Off v.ownBlock.toList wy W) => (show W.cell? ⟨go, 0, none⟩ = some v ∧ W.cell? ⟨w.heap.size, 0, none⟩ = some (.slice (some ⟨g1, o1, none⟩) n kc) ∧ (W.cell? ⟨wa.heap.size, 0, none⟩ = some (.bool r.s) ∧ W.cell? ⟨wa.heap.size, 1, none⟩ = some (.slice r.A r.xs.length r.a) ∧ W.cell? ⟨wa.heap.size, 2, none⟩ = some (.slice r.B r.ys.length r.b)) ∧ W.cell? ⟨g1, o1 + i * 4 + 3, none⟩ = some (.int .i64 r.t) from
            ⟨(hX3.out.o.off hO hgo).cell rfl, (hX3.out.x.off hO (fun hm => by have := (hT _ hm).1; omega)).1, ⟨(HB.out.off hO (fun hm => by have := (hT _ hm).2; omega)).cell rfl, (HB.out.off hO (fun hm => by have := (hT _ hm).2; omega)).cell rfl, (HB.out.off hO (fun hm => by have := (hT _ hm).2; omega)).cell rfl⟩, hO.cell c3' hg3 (fun hm => by have h1 : w.heap.size + 3 ≤ g1 := (hT _ hm).1; omega)⟩))
          clear x0 x1 x2 x3 y0 y1 y2 c0 c1 c2 c3 c3' bc n1 SF hC3 hT hgo hgw hM1
          replace hq := hide hq; replace ht := hide ht; replace hok := hide hok
          go_wp2_with fail
          refine wp_region_T (fun W => W.cell? ⟨go, 0, none⟩ = some v ∧ W.cell? ⟨w.heap.size, 0, none⟩ = some (.slice (some ⟨g1, o1, none⟩) n kc) ∧ (W.cell? ⟨wa.heap.size, 0, none⟩ = some (.bool r.s) ∧ W.cell? ⟨wa.heap.size, 1, none⟩ = some (.slice r.A r.xs.length r.a) ∧ W.cell? ⟨wa.heap.size, 2, none⟩ = some (.slice r.B r.ys.length r.b)) ∧ W.cell? ⟨g1, o1 + i * 4 + 3, none⟩ = some (.int .i64 r.t)) 13 (by kernel_rfl) (SS.out _ ((Off.refl _ _).drew)) (fun hHeld => ?_)
          refine wpAnyT_take 12 (i := 0) (v := ?vvt1) (by (simp only [List.getElem?_toArray, List.getElem?_cons_zero, List.getElem?_cons_succ]) <;> rfl) (by kernel_rfl) (by kernel_rfl) (by kernel_rfl) (by kernel_rfl) (by kernel_rfl) (by rfl) ?hqt1 (Or.inl ⟨by rfl, ?hyt1⟩) (by assumption) ?_
          case hqt1 => exact fun _ _ _ h => h
          case hyt1 => ((intro w hSw; (try dsimp only at hSw); go_simp) <;> (with_reducible rfl))
          (try simp only [Act.put, List.setIfInBounds_toArray, List.set_cons_zero, List.set_cons_succ])
          refine wpAnyT_take 12 (i := 1) (v := ?vvt2) (by (simp only [List.getElem?_toArray, List.getElem?_cons_zero, List.getElem?_cons_succ]) <;> rfl) (by kernel_rfl) (by kernel_rfl) (by kernel_rfl) (by kernel_rfl) (by kernel_rfl) (by rfl) ?hqt2 (Or.inl ⟨by rfl, ?hyt2⟩) (by assumption) ?_
          case hqt2 => exact fun _ _ _ h => h
          case hyt2 => ((intro w hSw; (try dsimp only at hSw); go_simp) <;> (with_reducible rfl))
          (try simp only [Act.put, List.setIfInBounds_toArray, List.set_cons_zero, List.set_cons_succ])
          refine wpAnyT_take 12 (i := 2) (v := ?vvt3) (by (simp only [List.getElem?_toArray, List.getElem?_cons_zero, List.getElem?_cons_succ]) <;> rfl) (by kernel_rfl) (by kernel_rfl) (by kernel_rfl) (by kernel_rfl) (by kernel_rfl) (by rfl) ?hqt3 (Or.inl ⟨by rfl, ?hyt3⟩) (by assumption) ?_
          case hqt3 => exact fun _ _ _ h => h
          case hyt3 => ((intro w hSw; (try dsimp only at hSw); go_simp) <;> (with_reducible rfl))
          (try simp only [Act.put, List.setIfInBounds_toArray, List.set_cons_zero, List.set_cons_succ])
          refine wpAnyT_take 12 (i := 3) (v := ?vvt4) (by (simp only [List.getElem?_toArray, List.getElem?_cons_zero, List.getElem?_cons_succ]) <;> rfl) (by kernel_rfl) (by kernel_rfl) (by kernel_rfl) (by kernel_rfl) (by kernel_rfl) (by rfl) ?hqt4 (Or.inl ⟨by rfl, ?hyt4⟩) (by assumption) ?_
          case hqt4 => exact fun _ _ _ h => h
          case hyt4 => ((intro w hSw; (try dsimp only at hSw); go_simp) <;> (with_reducible rfl))
          (try simp only [Act.put, List.setIfInBounds_toArray, List.set_cons_zero, List.set_cons_succ])
          refine wpAnyT_take 12 (i := 4) (v := ?vvt5) (by (simp only [List.getElem?_toArray, List.getElem?_cons_zero, List.getElem?_cons_succ]) <;> rfl) (by kernel_rfl) (by kernel_rfl) (by kernel_rfl) (by kernel_rfl) (by kernel_rfl) (by rfl) ?hqt5 (Or.inl ⟨by rfl, ?hyt5⟩) (by assumption) ?_
          case hqt5 => exact fun _ _ _ h => h
          case hyt5 => ((intro w hSw; (try dsimp only at hSw); go_simp) <;> (with_reducible rfl))
          (try simp only [Act.put, List.setIfInBounds_toArray, List.set_cons_zero, List.set_cons_succ])
          refine wpAnyT_take 12 (i := 5) (v := ?vvt6) (by (simp only [List.getElem?_toArray, List.getElem?_cons_zero, List.getElem?_cons_succ]) <;> rfl) (by kernel_rfl) (by kernel_rfl) (by kernel_rfl) (by kernel_rfl) (by kernel_rfl) (by rfl) ?hqt6 (Or.inl ⟨by rfl, ?hyt6⟩) (by assumption) ?_
          case hqt6 => exact fun _ _ _ h => h
          case hyt6 => ((intro w hSw; (try dsimp only at hSw); go_simp) <;> (with_reducible rfl))
          (try simp only [Act.put, List.setIfInBounds_toArray, List.set_cons_zero, List.set_cons_succ])
          refine wpAnyT_take 12 (i := 6) (v := ?vvt7) (by (simp only [List.getElem?_toArray, List.getElem?_cons_zero, List.getElem?_cons_succ]) <;> rfl) (by kernel_rfl) (by kernel_rfl) (by kernel_rfl) (by kernel_rfl) (by kernel_rfl) (by rfl) ?hqt7 (Or.inl ⟨by rfl, ?hyt7⟩) (by assumption) ?_
          case hqt7 => exact fun _ _ _ h => h
          case hyt7 => ((intro w hSw; (try dsimp only at hSw); go_simp) <;> (with_reducible rfl))
          (try simp only [Act.put, List.setIfInBounds_toArray, List.set_cons_zero, List.set_cons_succ])
          refine wpAnyT_take 12 (i := 7) (v := ?vvt8) (by (simp only [List.getElem?_toArray, List.getElem?_cons_zero, List.getElem?_cons_succ]) <;> rfl) (by kernel_rfl) (by kernel_rfl) (by kernel_rfl) (by kernel_rfl) (by kernel_rfl) (by rfl) ?hqt8 (Or.inl ⟨by rfl, ?hyt8⟩) (by assumption) ?_
          case hqt8 => exact fun _ _ _ h => h
          case hyt8 => ((intro w hSw; (try dsimp only at hSw); go_simp) <;> (with_reducible rfl))
          (try simp only [Act.put, List.setIfInBounds_toArray, List.set_cons_zero, List.set_cons_succ])
          refine wpAnyT_take 12 (i := 8) (v := ?vvt9) (by (simp only [List.getElem?_toArray, List.getElem?_cons_zero, List.getElem?_cons_succ]) <;> rfl) (by kernel_rfl) (by kernel_rfl) (by kernel_rfl) (by kernel_rfl) (by kernel_rfl) (by rfl) ?hqt9 (Or.inl ⟨by rfl, ?hyt9⟩) (by assumption) ?_
          case hqt9 => exact fun _ _ _ h => h
          case hyt9 => ((intro w hSw; (try dsimp only at hSw); go_simp) <;> (with_reducible rfl))
          (try simp only [Act.put, List.setIfInBounds_toArray, List.set_cons_zero, List.set_cons_succ])
          refine wpAnyT_take 12 (i := 9) (v := ?vvt10) (by (simp only [List.getElem?_toArray, List.getElem?_cons_zero, List.getElem?_cons_succ]) <;> rfl) (by kernel_rfl) (by kernel_rfl) (by kernel_rfl) (by kernel_rfl) (by kernel_rfl) (by rfl) ?hqt10 (Or.inl ⟨by rfl, ?hyt10⟩) (by assumption) ?_
          case hqt10 => exact fun _ _ _ h => h
          case hyt10 => ((intro w hSw; (try dsimp only at hSw); go_simp) <;> (with_reducible rfl))
          (try simp only [Act.put, List.setIfInBounds_toArray, List.set_cons_zero, List.set_cons_succ])
          refine wpAnyT_ready (rs := [10]) (by kernel_rfl) (by simp) ?_
          refine (AllReadyT.cons (by (simp only [List.getElem?_toArray, List.getElem?_cons_zero, List.getElem?_cons_succ]) <;> rfl) (fun K hK => ?_) AllReadyT.nil)
          rw [if_pos (by rfl)]
          refine wp_buildP 58 r _ _ rfl rfl rfl rfl ?_
          intro W10 hB10 hb10
          have hb10' := hide (bl_trans (ka0 wy) hb10)
          have hO10 := hide (((Off.refl v.ownBlock.toList wy).drew).trans (Off.of_below hb10 []) (by simp))
          replace hB10 := hide hB10
          clear hb10
          refine hK.out _ _ (by first | exact SS.out _ hO10.out | exact SS.out _ (hO10.out.trans hO11.out (fun b hb => .inl hb))) (fun hHeld => ?_)
          (try clear hK K)
          (try simp only [Act.put, List.setIfInBounds_toArray, List.set_cons_zero, List.set_cons_succ])
          refine wpAnyT_ready (rs := [11]) (by kernel_rfl) (by simp) ?_
          refine (AllReadyT.cons (by (simp only [List.getElem?_toArray, List.getElem?_cons_zero, List.getElem?_cons_succ]) <;> rfl) (fun K hK => ?_) AllReadyT.nil)
          rw [if_pos (by rfl)]
          refine wp_append_ex (.tmp 50) (.tmp 59) 22 rfl v (.slice (some ⟨_, 0, none⟩) 1 1) rfl rfl _ (RscC.push (hX3.out.next hb10'.out) r hok.out (ha2.out.next hb10'.out) (by have := hli.out; omega) hB10.out) ?_
          rintro v11 W11 ⟨⟨g11, m11, rfl⟩, hO11, hB11, hX11⟩
          have k1 : W11.cell? ⟨go, 0, none⟩ = some v := hB11.cell rfl
          have k2 := hB11.free 0
          replace hO11 := hide hO11; replace hX11 := hide hX11
          clear hB11
          refine hK.out _ _ (by first | exact SS.out _ hO10.out | exact SS.out _ (hO10.out.trans hO11.out (fun b hb => .inl hb))) (fun hHeld => ?_)
          (try clear hK K)
          (try simp only [Act.put, List.setIfInBounds_toArray, List.set_cons_zero, List.set_cons_succ])
          refine wpAnyT_take 12 (i := 12) (v := ?vvt11) (by (simp only [List.getElem?_toArray, List.getElem?_cons_zero, List.getElem?_cons_succ]) <;> rfl) (by kernel_rfl) (by kernel_rfl) (by kernel_rfl) (by kernel_rfl) (by kernel_rfl) (by rfl) ?hqt11 (Or.inl ⟨by rfl, ?hyt11⟩) (by assumption) ?_
          case hqt11 => exact fun _ _ _ h => h
          case hyt11 => ((intro w hSw; (try dsimp only at hSw); go_simp) <;> (with_reducible rfl))
          (try simp only [Act.put, List.setIfInBounds_toArray, List.set_cons_zero, List.set_cons_succ])
          refine wpAnyT_ready (rs := [13]) (by kernel_rfl) (by simp) ?_
          refine (AllReadyT.last (by (simp only [List.getElem?_toArray, List.getElem?_cons_zero, List.getElem?_cons_succ]) <;> rfl) (by kernel_rfl) (fun K hK => ?_) AllReadyT.nil)
          go_simp
          refine hK.out _ _ ?_
          (try clear hK K)
          (try simp only [Act.put, List.setIfInBounds_toArray, List.set_cons_zero, List.set_cons_succ])
          refine wpAnyT_done (by kernel_rfl) ?_ _
          (try clear hHeld)
          go_wp2_with fail
          go_roundw
          case rel =>
            refine ⟨i + 1, _, l' ++ [r], hlt, by go_num, by rw [List.length_append]; have := hli.out; simp; omega, ?_, hX11.out⟩
            rw [htk.out, List.map_append, hmap.out]
            unfold scL
            rw [List.map_append]
            simp [Pt.qt, hq.out, ht.out]
          case measure => simp only [intOf]; omega
        · have HB : Hid (Bk wr.heap.size #[.bool r.s, .slice r.A r.xs.length r.a, .slice r.B r.ys.length r.b] 25 (((wa.setCell ⟨wr.heap.size, 0, none⟩ (.bool r.s)).setCell ⟨wr.heap.size, 1, none⟩ (.slice r.A r.xs.length r.a)).setCell ⟨wr.heap.size, 2, none⟩ (.slice r.B r.ys.length r.b))) := hide (((hZ.out.set (.bool r.s) rfl).set (.slice r.A r.xs.length r.a) rfl).set (.slice r.B r.ys.length r.b) rfl)
          have ha2 : Hid (r.At (((wa.setCell ⟨wr.heap.size, 0, none⟩ (.bool r.s)).setCell ⟨wr.heap.size, 1, none⟩ (.slice r.A r.xs.length r.a)).setCell ⟨wr.heap.size, 2, none⟩ (.slice r.B r.ys.length r.b))) := hide (at_offR hZ.out har (off3 _ _ _ _ _))
          have hbb : Hid (Below wr.heap.size wr (((wa.setCell ⟨wr.heap.size, 0, none⟩ (.bool r.s)).setCell ⟨wr.heap.size, 1, none⟩ (.slice r.A r.xs.length r.a)).setCell ⟨wr.heap.size, 2, none⟩ (.slice r.B r.ys.length r.b))) := hide (bc.trans ((off3 _ _ _ _ _).below bc.size (fun b hb => by simp at hb; omega)))
          have hgw : wr.heap.size ≤ wr.heap.size := Nat.le_refl _
          clear hZ v0 v1 v2 u0 u1 u2
          generalize (((wa.setCell ⟨wr.heap.size, 0, none⟩ (.bool r.s)).setCell ⟨wr.heap.size, 1, none⟩ (.slice r.A r.xs.length r.a)).setCell ⟨wr.heap.size, 2, none⟩ (.slice r.B r.ys.length r.b)) = wy at *
          have hX3 := hide (hX2.out.next hbb.out)
          have c3' := hC3.out wy hbb.out
          rw [← ht] at c3'
          have hg3 : g1 < wy.heap.size := by have := hbb.out.size; have := hbw.out.size; omega
          have hT : ∀ b, b ∈ v.ownBlock.toList → w.heap.size + 3 ≤ b ∧ b < wr.heap.size := fun b hb => hX2.out.gn.base b (Option.mem_toList.1 hb)
          have hgo : go ∉ v.ownBlock.toList := fun hm => hX2.out.ne.2 (Option.mem_toList.1 hm)
          have SS := hide (fun W (hO : Off v.ownBlock.toList wy W) => (show W.cell? ⟨go, 0, none⟩ = some v ∧ W.cell? ⟨w.heap.size, 0, none⟩ = some (.slice (some ⟨g1, o1, none⟩) n kc) ∧ (W.cell? ⟨wr.heap.size, 0, none⟩ = some (.bool r.s) ∧ W.cell? ⟨wr.heap.size, 1, none⟩ = some (.slice r.A r.xs.length r.a) ∧ W.cell? ⟨wr.heap.size, 2, none⟩ = some (.slice r.B r.ys.length r.b)) ∧ W.cell? ⟨g1, o1 + i * 4 + 3, none⟩ = some (.int .i64 r.t) from
            ⟨(hX3.out.o.off hO hgo).cell rfl, (hX3.out.x.off hO (fun hm => by have := (hT _ hm).1; omega)).1, ⟨(HB.out.off hO (fun hm => by have := (hT _ hm).2; omega)).cell rfl, (HB.out.off hO (fun hm => by have := (hT _ hm).2; omega)).cell rfl, (HB.out.off hO (fun hm => by have := (hT _ hm).2; omega)).cell rfl⟩, hO.cell c3' hg3 (fun hm => by have h1 : w.heap.size + 3 ≤ g1 := (hT _ hm).1; omega)⟩))
          clear x0 x1 x2 x3 y0 y1 y2 c0 c1 c2 c3 c3' bc n1 SF hC3 hT hgo hgw hM1
          replace hq := hide hq; replace ht := hide ht; replace hok := hide hok
          go_wp2_with fail
          refine wp_region_T (fun W => W.cell? ⟨go, 0, none⟩ = some v ∧ W.cell? ⟨w.heap.size, 0, none⟩ = some (.slice (some ⟨g1, o1, none⟩) n kc) ∧ (W.cell? ⟨wr.heap.size, 0, none⟩ = some (.bool r.s) ∧ W.cell? ⟨wr.heap.size, 1, none⟩ = some (.slice r.A r.xs.length r.a) ∧ W.cell? ⟨wr.heap.size, 2, none⟩ = some (.slice r.B r.ys.length r.b)) ∧ W.cell? ⟨g1, o1 + i * 4 + 3, none⟩ = some (.int .i64 r.t)) 13 (by kernel_rfl) (SS.out _ ((Off.refl _ _).drew)) (fun hHeld => ?_)
          refine wpAnyT_take 12 (i := 0) (v := ?vvt12) (by (simp only [List.getElem?_toArray, List.getElem?_cons_zero, List.getElem?_cons_succ]) <;> rfl) (by kernel_rfl) (by kernel_rfl) (by kernel_rfl) (by kernel_rfl) (by kernel_rfl) (by rfl) ?hqt12 (Or.inl ⟨by rfl, ?hyt12⟩) (by assumption) ?_
          case hqt12 => exact fun _ _ _ h => h
          case hyt12 => ((intro w hSw; (try dsimp only at hSw); go_simp) <;> (with_reducible rfl))
          (try simp only [Act.put, List.setIfInBounds_toArray, List.set_cons_zero, List.set_cons_succ])
          refine wpAnyT_take 12 (i := 1) (v := ?vvt13) (by (simp only [List.getElem?_toArray, List.getElem?_cons_zero, List.getElem?_cons_succ]) <;> rfl) (by kernel_rfl) (by kernel_rfl) (by kernel_rfl) (by kernel_rfl) (by kernel_rfl) (by rfl) ?hqt13 (Or.inl ⟨by rfl, ?hyt13⟩) (by assumption) ?_
          case hqt13 => exact fun _ _ _ h => h
          case hyt13 => ((intro w hSw; (try dsimp only at hSw); go_simp) <;> (with_reducible rfl))
          (try simp only [Act.put, List.setIfInBounds_toArray, List.set_cons_zero, List.set_cons_succ])
          refine wpAnyT_take 12 (i := 2) (v := ?vvt14) (by (simp only [List.getElem?_toArray, List.getElem?_cons_zero, List.getElem?_cons_succ]) <;> rfl) (by kernel_rfl) (by kernel_rfl) (by kernel_rfl) (by kernel_rfl) (by kernel_rfl) (by rfl) ?hqt14 (Or.inl ⟨by rfl, ?hyt14⟩) (by assumption) ?_
          case hqt14 => exact fun _ _ _ h => h
          case hyt14 => ((intro w hSw; (try dsimp only at hSw); go_simp) <;> (with_reducible rfl))
          (try simp only [Act.put, List.setIfInBounds_toArray, List.set_cons_zero, List.set_cons_succ])
          refine wpAnyT_take 12 (i := 3) (v := ?vvt15) (by (simp only [List.getElem?_toArray, List.getElem?_cons_zero, List.getElem?_cons_succ]) <;> rfl) (by kernel_rfl) (by kernel_rfl) (by kernel_rfl) (by kernel_rfl) (by kernel_rfl) (by rfl) ?hqt15 (Or.inl ⟨by rfl, ?hyt15⟩) (by assumption) ?_
          case hqt15 => exact fun _ _ _ h => h
          case hyt15 => ((intro w hSw; (try dsimp only at hSw); go_simp) <;> (with_reducible rfl))
          (try simp only [Act.put, List.setIfInBounds_toArray, List.set_cons_zero, List.set_cons_succ])
          refine wpAnyT_take 12 (i := 4) (v := ?vvt16) (by (simp only [List.getElem?_toArray, List.getElem?_cons_zero, List.getElem?_cons_succ]) <;> rfl) (by kernel_rfl) (by kernel_rfl) (by kernel_rfl) (by kernel_rfl) (by kernel_rfl) (by rfl) ?hqt16 (Or.inl ⟨by rfl, ?hyt16⟩) (by assumption) ?_
          case hqt16 => exact fun _ _ _ h => h
          case hyt16 => ((intro w hSw; (try dsimp only at hSw); go_simp) <;> (with_reducible rfl))
          (try simp only [Act.put, List.setIfInBounds_toArray, List.set_cons_zero, List.set_cons_succ])
          refine wpAnyT_take 12 (i := 5) (v := ?vvt17) (by (simp only [List.getElem?_toArray, List.getElem?_cons_zero, List.getElem?_cons_succ]) <;> rfl) (by kernel_rfl) (by kernel_rfl) (by kernel_rfl) (by kernel_rfl) (by kernel_rfl) (by rfl) ?hqt17 (Or.inl ⟨by rfl, ?hyt17⟩) (by assumption) ?_
          case hqt17 => exact fun _ _ _ h => h
          case hyt17 => ((intro w hSw; (try dsimp only at hSw); go_simp) <;> (with_reducible rfl))
          (try simp only [Act.put, List.setIfInBounds_toArray, List.set_cons_zero, List.set_cons_succ])
          refine wpAnyT_take 12 (i := 6) (v := ?vvt18) (by (simp only [List.getElem?_toArray, List.getElem?_cons_zero, List.getElem?_cons_succ]) <;> rfl) (by kernel_rfl) (by kernel_rfl) (by kernel_rfl) (by kernel_rfl) (by kernel_rfl) (by rfl) ?hqt18 (Or.inl ⟨by rfl, ?hyt18⟩) (by assumption) ?_
          case hqt18 => exact fun _ _ _ h => h
          case hyt18 => ((intro w hSw; (try dsimp only at hSw); go_simp) <;> (with_reducible rfl))
          (try simp only [Act.put, List.setIfInBounds_toArray, List.set_cons_zero, List.set_cons_succ])
          refine wpAnyT_take 12 (i := 7) (v := ?vvt19) (by (simp only [List.getElem?_toArray, List.getElem?_cons_zero, List.getElem?_cons_succ]) <;> rfl) (by kernel_rfl) (by kernel_rfl) (by kernel_rfl) (by kernel_rfl) (by kernel_rfl) (by rfl) ?hqt19 (Or.inl ⟨by rfl, ?hyt19⟩) (by assumption) ?_
          case hqt19 => exact fun _ _ _ h => h
          case hyt19 => ((intro w hSw; (try dsimp only at hSw); go_simp) <;> (with_reducible rfl))
          (try simp only [Act.put, List.setIfInBounds_toArray, List.set_cons_zero, List.set_cons_succ])
          refine wpAnyT_take 12 (i := 8) (v := ?vvt20) (by (simp only [List.getElem?_toArray, List.getElem?_cons_zero, List.getElem?_cons_succ]) <;> rfl) (by kernel_rfl) (by kernel_rfl) (by kernel_rfl) (by kernel_rfl) (by kernel_rfl) (by rfl) ?hqt20 (Or.inl ⟨by rfl, ?hyt20⟩) (by assumption) ?_
          case hqt20 => exact fun _ _ _ h => h
          case hyt20 => ((intro w hSw; (try dsimp only at hSw); go_simp) <;> (with_reducible rfl))
          (try simp only [Act.put, List.setIfInBounds_toArray, List.set_cons_zero, List.set_cons_succ])
          refine wpAnyT_take 12 (i := 9) (v := ?vvt21) (by (simp only [List.getElem?_toArray, List.getElem?_cons_zero, List.getElem?_cons_succ]) <;> rfl) (by kernel_rfl) (by kernel_rfl) (by kernel_rfl) (by kernel_rfl) (by kernel_rfl) (by rfl) ?hqt21 (Or.inl ⟨by rfl, ?hyt21⟩) (by assumption) ?_
          case hqt21 => exact fun _ _ _ h => h
          case hyt21 => ((intro w hSw; (try dsimp only at hSw); go_simp) <;> (with_reducible rfl))
          (try simp only [Act.put, List.setIfInBounds_toArray, List.set_cons_zero, List.set_cons_succ])
          refine wpAnyT_ready (rs := [10]) (by kernel_rfl) (by simp) ?_
          refine (AllReadyT.cons (by (simp only [List.getElem?_toArray, List.getElem?_cons_zero, List.getElem?_cons_succ]) <;> rfl) (fun K hK => ?_) AllReadyT.nil)
          rw [if_pos (by rfl)]
          refine wp_buildP 58 r _ _ rfl rfl rfl rfl ?_
          intro W10 hB10 hb10
          have hb10' := hide (bl_trans (ka0 wy) hb10)
          have hO10 := hide (((Off.refl v.ownBlock.toList wy).drew).trans (Off.of_below hb10 []) (by simp))
          replace hB10 := hide hB10
          clear hb10
          refine hK.out _ _ (by first | exact SS.out _ hO10.out | exact SS.out _ (hO10.out.trans hO11.out (fun b hb => .inl hb))) (fun hHeld => ?_)
          (try clear hK K)
          (try simp only [Act.put, List.setIfInBounds_toArray, List.set_cons_zero, List.set_cons_succ])
          refine wpAnyT_ready (rs := [11]) (by kernel_rfl) (by simp) ?_
          refine (AllReadyT.cons (by (simp only [List.getElem?_toArray, List.getElem?_cons_zero, List.getElem?_cons_succ]) <;> rfl) (fun K hK => ?_) AllReadyT.nil)
          rw [if_pos (by rfl)]
          refine wp_append_ex (.tmp 50) (.tmp 59) 22 rfl v (.slice (some ⟨_, 0, none⟩) 1 1) rfl rfl _ (RscC.push (hX3.out.next hb10'.out) r hok.out (ha2.out.next hb10'.out) (by have := hli.out; omega) hB10.out) ?_
          rintro v11 W11 ⟨⟨g11, m11, rfl⟩, hO11, hB11, hX11⟩
          have k1 : W11.cell? ⟨go, 0, none⟩ = some v := hB11.cell rfl
          have k2 := hB11.free 0
          replace hO11 := hide hO11; replace hX11 := hide hX11
          clear hB11
          refine hK.out _ _ (by first | exact SS.out _ hO10.out | exact SS.out _ (hO10.out.trans hO11.out (fun b hb => .inl hb))) (fun hHeld => ?_)
          (try clear hK K)
          (try simp only [Act.put, List.setIfInBounds_toArray, List.set_cons_zero, List.set_cons_succ])
          refine wpAnyT_take 12 (i := 12) (v := ?vvt22) (by (simp only [List.getElem?_toArray, List.getElem?_cons_zero, List.getElem?_cons_succ]) <;> rfl) (by kernel_rfl) (by kernel_rfl) (by kernel_rfl) (by kernel_rfl) (by kernel_rfl) (by rfl) ?hqt22 (Or.inl ⟨by rfl, ?hyt22⟩) (by assumption) ?_
          case hqt22 => exact fun _ _ _ h => h
          case hyt22 => ((intro w hSw; (try dsimp only at hSw); go_simp) <;> (with_reducible rfl))
          (try simp only [Act.put, List.setIfInBounds_toArray, List.set_cons_zero, List.set_cons_succ])
          refine wpAnyT_ready (rs := [13]) (by kernel_rfl) (by simp) ?_
          refine (AllReadyT.last (by (simp only [List.getElem?_toArray, List.getElem?_cons_zero, List.getElem?_cons_succ]) <;> rfl) (by kernel_rfl) (fun K hK => ?_) AllReadyT.nil)
          go_simp
          refine hK.out _ _ ?_
          (try clear hK K)
          (try simp only [Act.put, List.setIfInBounds_toArray, List.set_cons_zero, List.set_cons_succ])
          refine wpAnyT_done (by kernel_rfl) ?_ _
          (try clear hHeld)
          go_wp2_with fail
          go_roundw
          case rel =>
            refine ⟨i + 1, _, l' ++ [r], hlt, by go_num, by rw [List.length_append]; have := hli.out; simp; omega, ?_, hX11.out⟩
            rw [htk.out, List.map_append, hmap.out]
            unfold scL
            rw [List.map_append]
            simp [Pt.qt, hq.out, ht.out]
          case measure => simp only [intOf]; omega
      · have hmi : i = n := by omega
        subst hmi
        have hwk : l.take i = l := by rw [hnn.out, List.take_length]
        rw [hwk] at hmap
        have hC1 := hide (hC.out wr hbw)
        have hX2 := hide hX
        have hlt2 : ¬ ((i : Int) < (i : Int)) := Int.lt_irrefl _
        clear hX hO hR hM hP hC
        go_upto_region 17 with (first
          | (go_at_call 59; (with_reducible refine hC1.out.mono ?_); rintro e wa ⟨r, rfl, hq, ht, hok, har, hb⟩; have hX3 := hide ((hX2.out.next hb).al (.cells #[.bool r.s, .slice r.A r.xs.length r.a, .slice r.B r.ys.length r.b] 25)); have har2 := har.next (bl_al (.refl _ _) (.cells #[.bool r.s, .slice r.A r.xs.length r.a, .slice r.B r.ys.length r.b] 25)); have o0 := hX3.out.o.cell (j := 0) rfl; have o1 := hX3.out.o.cell (j := 1) rfl; have o2 := hX3.out.o.cell (j := 2) rfl; have o3 := hX3.out.o.cell (j := 3) rfl; have f1 := hX3.out.o.free 1; have f2 := hX3.out.o.free 2; have f3 := hX3.out.o.free 3; clear x0 x1 x2 x3 y0 y1 y2 hb har)
          | fail)
        obtain ⟨A', k', rfl, hPR, hbox, hres⟩ := hX3.out.done hok har2
        rw [hfull.out l' hmap, hq] at hPR
        clear hX3 hX2 hC1 hok har2 o0 o1 o2 o3 f1 f2 f3
        generalize (((World.alloc wa _).setCell ⟨go, 1, none⟩ _).setCell ⟨go, 2, none⟩ _).setCell ⟨go, 3, none⟩ _ = w17 at *
        have o0 := hbox.cell (j := 0) rfl
        have o1 := hbox.cell (j := 1) rfl
        have o2 := hbox.cell (j := 2) rfl
        have o3 := hbox.cell (j := 3) rfl
        have r0 := hres.cell (j := 0) rfl
        have r1 := hres.cell (j := 1) rfl
        have r2 := hres.cell (j := 2) rfl
        have r3 := hres.cell (j := 3) rfl
        have s0 := hres.free 0
        have s1 := hres.free 1
        have s2 := hres.free 2
        have s3 := hres.free 3
        replace hPR := hide hPR
        clear hbox hres
        go_wp2_with fail
        exact bodyPost_ret (v := .tuple #[.agg #[.slice A' l'.length k', .bool r.s, .slice r.A r.xs.length r.a, .slice r.B r.ys.length r.b], .int .i64 0]) (by simp [results, Tryz.results15, go_sem, r0, r1, r2, r3]) rfl hPR.out
end Nt

end Go.Proofs.YtgimmmmpollkhaaGreat

namespace Go.Proofs.YtgimmmmpollkhaaGreat

open Go.ChangeShapes Go.RowKit

namespace Nt
set_option maxRecDepth 100000
set_option linter.unusedSimpArgs false
set_option linter.unusedVariables false

def npB (l : List Pt) (c : Pt) : Bool := decide (l.length = 0) && (!c.s && (decide (c.xs.length = 0) && decide (c.ys.length = 0)))
theorem npB_raw (l : List Pt) (c : Pt) : (decide (l.map Pt.raw = ([] : List Pt).map Pt.raw) && decide (c.cn = (false, [], []))) = npB l c := by
  unfold npB
  rw [Bool.eq_iff_iff]
  simp [Pt.cn, Prod.ext_iff]
set_option maxHeartbeats 4000000 in
theorem nopoly_any (A : Option Addr) (l : List Pt) (kc : Nat) (c : Pt) (w : World) : Calls Tryz.prog 92 #[polyV A l.length kc c] w fun e w' => e = .returned (.bool (npB l c)) ∧ Below w.heap.size w w' := by
  unfold npB polyV
  generalize l.length = n at *
  generalize c.xs.length = i1 at *
  generalize c.ys.length = i2 at *
  have hb0 := hide (bl_al (.refl _ _) (.cells #[.slice A n kc, .bool c.s, .slice c.A i1 c.a, .slice c.B i2 c.b] 27) : Below w.heap.size w _)
  obtain ⟨x0, x1, x2, x3⟩ := C4.of (Bk.new #[.slice A n kc, .bool c.s, .slice c.A i1 c.a, .slice c.B i2 c.b] 27 w)
  have eN : ∀ (n : Nat) (r : Bool), decide (n = 0) = r → binOp .eql 3 (.int .i64 (n : Int)) (.int .i64 0) = pure (.bool r) := fun n r h => eql_b 3 (n : Int) 0 r (by rw [← h]; exact decide_eq_decide.2 (by omega))
  obtain ⟨z0, h0⟩ : ∃ z, decide (n = 0) = z := ⟨_, rfl⟩
  obtain ⟨z1, h1⟩ : ∃ z, decide (i1 = 0) = z := ⟨_, rfl⟩
  obtain ⟨z2, h2⟩ : ∃ z, decide (i2 = 0) = z := ⟨_, rfl⟩
  obtain ⟨s, hs⟩ : ∃ s, c.s = s := ⟨_, rfl⟩
  have e0 := eN n z0 h0
  have e1 := eN i1 z1 h1
  have e2 := eN i2 z2 h2
  rw [h0, h1, h2, hs]
  rw [hs] at x0 x1 x2 x3 hb0
  clear h0 h1 h2 hs eN
  rcases z0 with _ | _
  · clear e1 e2
    go_enter Tryz.func92, Tryz.ntmps92
    go_wp2_with fail
    go_ret
    exact ⟨rfl, hb0.out⟩
  rcases s with _ | _
  · rcases z1 with _ | _
    · clear e2
      go_enter Tryz.func92, Tryz.ntmps92
      go_wp2_with fail
      go_ret
      exact ⟨rfl, hb0.out⟩
    · go_enter Tryz.func92, Tryz.ntmps92
      go_wp2_with fail
      go_ret
      exact ⟨rfl, hb0.out⟩
  · clear e1 e2
    go_enter Tryz.func92, Tryz.ntmps92
    go_wp2_with fail
    go_ret
    exact ⟨rfl, hb0.out⟩
set_option maxHeartbeats 4000000 in
theorem rsays_p (k : Int) {p : Pt} (hp : p.Ok) (w : World) (aP : p.At w) : Calls Tryz.prog 90 #[.int .i64 k, rv p] w fun e w' => e = .returned (.bool (stB k p.q)) ∧ Below w.heap.size w w' := by
  have hb : Below w.heap.size w (w.alloc (.cells #[.bool p.s, .slice p.A p.xs.length p.a, .slice p.B p.ys.length p.b] 25)) := bl_al (.refl _ _) _
  have hS := hide (rsign_p hp _ (aP.next hb))
  have hX := hide (Q3.new (.bool p.s) (.slice p.A p.xs.length p.a) (.slice p.B p.ys.length p.b) w)
  unfold stB
  obtain ⟨z, hz⟩ : ∃ z, cmpZ p.q.num 0 = z := ⟨_, rfl⟩
  rw [hz] at hS ⊢
  unfold rv at *
  clear hz aP hp
  replace hb := hide hb
  generalize p.xs.length = i1 at *
  generalize p.ys.length = i2 at *
  obtain ⟨x1, x2, x3, x4, x5, x6⟩ := hX.out
  by_cases h1 : k = 1
  · subst h1
    rw [if_pos rfl]
    obtain ⟨b, hbb⟩ : ∃ b, decide (z ≤ 0) = b := ⟨_, rfl⟩
    have e1 := leq_b 3 z 0 b hbb
    rw [hbb]
    clear hbb
    go_enter Tryz.func90, Tryz.ntmps90
    go_wp2_with (first | (go_at_call 32; (with_reducible refine hS.out.mono ?_); rintro e wa ⟨rfl, hb3⟩; replace hb3 := hide hb3) | fail)
    go_ret
    exact ⟨rfl, bl_trans hb.out hb3.out⟩
  by_cases h2 : k = 2
  · subst h2
    rw [if_neg (by decide), if_pos rfl]
    obtain ⟨b, hbb⟩ : ∃ b, decide (z < 0) = b := ⟨_, rfl⟩
    have e1 := lss_b 3 z 0 b hbb
    rw [hbb]
    clear hbb
    go_enter Tryz.func90, Tryz.ntmps90
    go_wp2_with (first | (go_at_call 32; (with_reducible refine hS.out.mono ?_); rintro e wa ⟨rfl, hb3⟩; replace hb3 := hide hb3) | fail)
    go_ret
    exact ⟨rfl, bl_trans hb.out hb3.out⟩
  rw [if_neg h1, if_neg h2]
  have e1 := eql_b 3 k 1 false (decide_eq_false h1)
  have e2 := eql_b 3 k 2 false (decide_eq_false h2)
  obtain ⟨b, hbb⟩ : ∃ b, decide (z = 0) = b := ⟨_, rfl⟩
  have e3 := eql_b 3 z 0 b hbb
  rw [hbb]
  clear hbb h1 h2
  go_enter Tryz.func90, Tryz.ntmps90
  go_wp2_with (first | (go_at_call 32; (with_reducible refine hS.out.mono ?_); rintro e wa ⟨rfl, hb3⟩; replace hb3 := hide hb3) | fail)
  go_ret
  exact ⟨rfl, bl_trans hb.out hb3.out⟩
def vaB (k : Int) (l : List Pt) (c : Pt) (a b : Int) : Bool := if k = 5 then decide (0 ≤ a) && (decide (a < b) && npB l c) else if k = 6 then decide (0 ≤ a) && (decide (b = 0) && npB l c) else if k = 1 ∨ k = 2 ∨ k = 3 then avB k l c a b else false
theorem p0Few : (⟨false, none, 0, [], none, 0, [], 0⟩ : Pt).Few := ⟨fun x h => (by cases h), fun x h => (by cases h), Nat.zero_le _, Nat.zero_le _⟩
set_option maxHeartbeats 8000000 in
theorem avalid_any (k : Int) (A : Option Addr) (l : List Pt) (kc : Nat) (c : Pt) (a b : Int) (w : World) (hl : Pl w A l) (hc : c.At w) (fl : ∀ p ∈ l, p.Few) (fc : c.Few) (hn : l.length ≤ 1000) (r : Bool) (hr : vaB k l c a b = r) :
    Calls Tryz.prog 44 #[atomV k A l.length kc c a b] w fun e w' => e = .returned (.bool r) ∧ Below w.heap.size w w' := by
  by_cases h3 : k = 1 ∨ k = 2 ∨ k = 3
  · exact valid_sum k h3 A l kc c a b w hl hc fl fc hn r (by rw [← hr]; unfold vaB avB; rw [if_neg (by omega), if_neg (by omega), if_pos h3])
  have hS := hide (fun W (b : Below w.heap.size w W) => (show Calls Tryz.prog 29 #[.agg #[.slice A l.length kc, .bool c.s, .slice c.A c.xs.length c.a, .slice c.B c.ys.length c.b], .agg #[.slice none 0 0, .bool false, .slice none 0 0, .slice none 0 0]] W fun e w' => e = .returned (.bool (npB l c)) ∧ Below W.heap.size W w' from by
    have := lsame_r A none kc 0 l [] c ⟨false, none, 0, [], none, 0, [], 0⟩ W (hl.next b) (.inl rfl) fl (fun p hp => by cases hp) (hc.next b) ⟨.inl rfl, .inl rfl⟩ fc p0Few (by omega) (Nat.zero_le _) _ _ rfl rfl
    rw [show (⟨false, none, 0, [], none, 0, [], 0⟩ : Pt).cn = (false, [], []) from rfl, npB_raw] at this
    exact this))
  obtain ⟨v, hv⟩ : ∃ v, npB l c = v := ⟨_, rfl⟩
  obtain ⟨x, hx⟩ : ∃ x, decide (0 ≤ a) = x := ⟨_, rfl⟩
  obtain ⟨y, hy⟩ : ∃ y, decide (a < b) = y := ⟨_, rfl⟩
  obtain ⟨z, hz⟩ : ∃ z, decide (b = 0) = z := ⟨_, rfl⟩
  have e1 := leq_b 3 0 a x hx
  have e2 := lss_b 3 a b y hy
  have e3 := eql_b 3 b 0 z hz
  unfold vaB at hr
  rw [hv, hx, hy, hz] at hr
  rw [hv] at hS
  have hr' : (k = 5 ∧ (x && (y && v)) = r) ∨ (k = 6 ∧ (x && (z && v)) = r) ∨ (k ≠ 5 ∧ k ≠ 6 ∧ r = false) := by
    by_cases h5 : k = 5
    · rw [if_pos h5] at hr; exact .inl ⟨h5, hr⟩
    · by_cases h6 : k = 6
      · rw [if_neg h5, if_pos h6] at hr; exact .inr (.inl ⟨h6, hr⟩)
      · rw [if_neg h5, if_neg h6, if_neg h3] at hr; exact .inr (.inr ⟨h5, h6, hr.symm⟩)
  clear hl hc fl fc hn hv hx hy hz hr
  unfold atomV
  generalize l.length = n at *
  generalize c.xs.length = i1 at *
  generalize c.ys.length = i2 at *
  have hX := hide (C7.new (.int .i64 k) (.slice A n kc) (.bool c.s) (.slice c.A i1 c.a) (.slice c.B i2 c.b) (.int .i64 a) (.int .i64 b) 58 w)
  have hb0 := hide (bl_al (.refl _ _) (.cells #[.int .i64 k, .slice A n kc, .bool c.s, .slice c.A i1 c.a, .slice c.B i2 c.b, .int .i64 a, .int .i64 b] 58) : Below w.heap.size w _)
  obtain ⟨x0, x1, x2, x3, x4, x5, x6⟩ := hX.out
  rcases hr' with ⟨rfl, rfl⟩ | ⟨rfl, rfl⟩ | ⟨h5, h6, rfl⟩
  · clear h3 e3
    rcases x with _ | _
    · clear hS e2
      go_enter Tryz.func44, Tryz.ntmps44
      go_wp2_with fail
      go_ret
      exact ⟨rfl, hb0.out⟩
    rcases y with _ | _
    · clear hS
      go_enter Tryz.func44, Tryz.ntmps44
      go_wp2_with fail
      go_ret
      exact ⟨rfl, hb0.out⟩
    go_enter Tryz.func44, Tryz.ntmps44
    go_wp2_with (first
      | (go_at_call 29; (with_reducible refine (hS.out _ ?hw).mono ?_); (case hw => first | (with_reducible exact hb0.out) | (with_reducible exact bl_al hb0.out _)); rintro e w2 ⟨rfl, hb2⟩; have hb3 := hide (show Below w.heap.size w w2 by first | (with_reducible exact bl_trans hb0.out hb2) | (with_reducible exact bl_trans (bl_al hb0.out _) hb2)))
      | fail)
    go_ret
    exact ⟨rfl, hb3.out⟩
  · clear h3 e2
    rcases x with _ | _
    · clear hS e3
      go_enter Tryz.func44, Tryz.ntmps44
      go_wp2_with fail
      go_ret
      exact ⟨rfl, hb0.out⟩
    rcases z with _ | _
    · clear hS
      go_enter Tryz.func44, Tryz.ntmps44
      go_wp2_with fail
      go_ret
      exact ⟨rfl, hb0.out⟩
    go_enter Tryz.func44, Tryz.ntmps44
    go_wp2_with (first
      | (go_at_call 29; (with_reducible refine (hS.out _ ?hw).mono ?_); (case hw => first | (with_reducible exact hb0.out) | (with_reducible exact bl_al hb0.out _)); rintro e w2 ⟨rfl, hb2⟩; have hb3 := hide (show Below w.heap.size w w2 by first | (with_reducible exact bl_trans hb0.out hb2) | (with_reducible exact bl_trans (bl_al hb0.out _) hb2)))
      | fail)
    go_ret
    exact ⟨rfl, hb3.out⟩
  · have f1 := eql_b 3 k 1 false (decide_eq_false (by omega))
    have f2 := eql_b 3 k 2 false (decide_eq_false (by omega))
    have f3 := eql_b 3 k 3 false (decide_eq_false (by omega))
    have f5 := eql_b 3 k 5 false (decide_eq_false (by omega))
    have f6 := eql_b 3 k 6 false (decide_eq_false (by omega))
    clear hS e1 e2 e3 h3 h5 h6
    go_enter Tryz.func44, Tryz.ntmps44
    go_wp2_with fail
    go_ret
    exact ⟨rfl, hb0.out⟩
theorem rneg_v {p : Pt} (hp : p.Ok) (ca : p.xs.length ≤ p.a) (cb : p.ys.length ≤ p.b) (w : World) (aP : p.At w) : Calls Tryz.prog 49 #[rv p] w (NewR (-p.q) w) := by
  rw [hp.rv]
  have h1 : ln (qn p.q) = p.xs.length := by rw [hp.x]; rfl
  have h2 : ln (qd p.q) = p.ys.length := by rw [hp.y]; rfl
  exact (rneg_q p.q _ rfl _ _ _ _ w (hp.sl aP).1 (hp.sl aP).2 hp.f (by rw [h1]; exact ca) (by rw [h2]; exact cb)).mono fun e w' h => h.newR (fitq_neg hp.f)
theorem geq_v (t : TypeId) (x y : Int) (b : Bool) (h : decide (y ≤ x) = b) : binOp .geq t (.int .i64 x) (.int .i64 y) = pure (.bool b) := by rw [← h]; rfl
theorem formB_cons (k : Int) (hk : k = 1 ∨ k = 2) (x : Rat × Int) (L : List (Rat × Int)) (h0 : x.1 ≠ 0) : formB k (x :: L) = (decide (x.1 = 1) || decide (-x.1 = 1)) := by
  show decide ((if k = 3 then x.1 else absq x.1) = 1) = _
  rw [if_neg (by omega), Bool.eq_iff_iff, Bool.or_eq_true, decide_eq_true_eq, decide_eq_true_eq, decide_eq_true_eq]
  constructor
  · intro h
    rcases absq_one h with h | h
    · exact .inl h
    · exact .inr (by rw [h, Rat.neg_neg])
  · rintro (h | h)
    · rw [h]; exact absq_1
    · rw [show x.1 = -1 by rw [← h, Rat.neg_neg]]; exact absq_m1
theorem formB_3 (x : Rat × Int) (L : List (Rat × Int)) : formB 3 (x :: L) = decide (x.1 = 1) := rfl
set_option maxHeartbeats 16000000 in
theorem rvalida_any (k : Int) (A : Option Addr) (l : List Pt) (kc : Nat) (c : Pt) (a b : Int) (w : World) (hl : Pl w A l) (hc : c.At w) (fl : ∀ p ∈ l, p.Few) (fcap : ∀ p ∈ l, p.Cap) (fc : c.Few) (hn : l.length ≤ 1000) (r : Bool) (hr : vaB k l c a b = r) :
    Calls Tryz.prog 45 #[atomV k A l.length kc c a b] w fun e w' => e = .returned (.bool r) ∧ Below w.heap.size w w' := by
  have HN := hide (fun W => nopoly_any A l kc c W)
  obtain ⟨u, hu⟩ : ∃ v, (pvB (-1) l && c.ok) = v := ⟨_, rfl⟩
  have HVP := hide (fun W (b : Below w.heap.size w W) => rvalidP_any A l kc c W (hl.next b) (hc.next b) fl fc hn u hu)
  have HS := hide (fun (hu' : u = true) (p : Pt) (hp : p ∈ l) => (show p.Ok ∧ p.Cap from ⟨pvB_ok (by rw [hu', Bool.and_eq_true] at hu; exact hu.1) fl p hp, fcap p hp⟩))
  have HQ := hide (fun (hu' : u = true) (h : 0 < l.length) => (show l[0].q ≠ 0 from by
    rw [hu', Bool.and_eq_true] at hu
    exact rvB_ne ((pvB_rvB (pvB_ok hu.1 fl) (-1)).1 hu.1) (x := l[0].qt) (List.mem_map_of_mem (List.getElem_mem h))))
  obtain ⟨v, hv⟩ : ∃ v, npB l c = v := ⟨_, rfl⟩
  obtain ⟨x, hx⟩ : ∃ x, decide (0 ≤ a) = x := ⟨_, rfl⟩
  obtain ⟨y, hy⟩ : ∃ y, decide (a < b) = y := ⟨_, rfl⟩
  obtain ⟨z, hz⟩ : ∃ z, decide (b = 0) = z := ⟨_, rfl⟩
  obtain ⟨z', hz'⟩ : ∃ z, decide (a = 0) = z := ⟨_, rfl⟩
  have e1 := geq_v 3 a 0 x hx
  have e2 := lss_b 3 a b y hy
  have e3 := eql_b 3 b 0 z hz
  have e4 := neq_b 3 a 0 (!z') (by rw [← hz']; simp)
  have e5 := neq_b 3 b 0 (!z) (by rw [← hz]; simp)
  unfold vaB avB at hr
  rw [hv, hx, hy, hz, hz', hu] at hr
  rw [hv] at HN
  have hP := hide (fun W (b : Below w.heap.size w W) => hl.next b)
  have hr' : (k = 5 ∧ (x && (y && v)) = r) ∨ (k = 6 ∧ (x && (z && v)) = r) ∨ (k ≠ 5 ∧ k ≠ 6 ∧ ¬ (k = 1 ∨ k = 2 ∨ k = 3) ∧ r = false) ∨ ((k = 1 ∨ k = 2 ∨ k = 3) ∧ (z' && z && u && formB k (l.map Pt.qt)) = r) := by
    by_cases h5 : k = 5
    · rw [if_pos h5] at hr; exact .inl ⟨h5, hr⟩
    · by_cases h6 : k = 6
      · rw [if_neg h5, if_pos h6] at hr; exact .inr (.inl ⟨h6, hr⟩)
      · by_cases h3 : k = 1 ∨ k = 2 ∨ k = 3
        · rw [if_neg h5, if_neg h6, if_pos h3] at hr; exact .inr (.inr (.inr ⟨h3, hr⟩))
        · rw [if_neg h5, if_neg h6, if_neg h3] at hr; exact .inr (.inr (.inl ⟨h5, h6, h3, hr.symm⟩))
  clear hl hc fl fcap fc hv hx hy hz hz' hr hu
  obtain ⟨n, hnn⟩ : ∃ n, n = l.length := ⟨_, rfl⟩
  unfold atomV
  unfold polyV at *
  rw [← hnn] at HN HVP hn ⊢
  replace hnn := hide hnn
  generalize c.xs.length = i1 at *
  generalize c.ys.length = i2 at *
  have hX := hide (C7.new (.int .i64 k) (.slice A n kc) (.bool c.s) (.slice c.A i1 c.a) (.slice c.B i2 c.b) (.int .i64 a) (.int .i64 b) 58 w)
  have hb0 := hide (bl_al (.refl _ _) (.cells #[.int .i64 k, .slice A n kc, .bool c.s, .slice c.A i1 c.a, .slice c.B i2 c.b, .int .i64 a, .int .i64 b] 58) : Below w.heap.size w _)
  obtain ⟨x0, x1, x2, x3, x4, x5, x6⟩ := hX.out
  rcases hr' with ⟨rfl, rfl⟩ | ⟨rfl, rfl⟩ | ⟨h5, h6, h3, rfl⟩ | ⟨hk, hr⟩
  · clear HVP HS e3 e4 e5 HQ hP
    rcases x with _ | _
    · clear HN e2
      go_enter Tryz.func45, Tryz.ntmps45
      go_wp2_with fail
      go_ret
      exact ⟨rfl, hb0.out⟩
    rcases y with _ | _
    · clear HN
      go_enter Tryz.func45, Tryz.ntmps45
      go_wp2_with fail
      go_ret
      exact ⟨rfl, hb0.out⟩
    go_enter Tryz.func45, Tryz.ntmps45
    go_wp2_with (first
      | (go_at_call 92; (with_reducible refine (HN.out _).mono ?_); rintro e w2 ⟨rfl, hb2⟩; replace hb2 := hide (bl_trans hb0.out hb2))
      | fail)
    go_ret
    exact ⟨rfl, hb2.out⟩
  · clear HVP HS e2 e4 e5 HQ hP
    rcases x with _ | _
    · clear HN e3
      go_enter Tryz.func45, Tryz.ntmps45
      go_wp2_with fail
      go_ret
      exact ⟨rfl, hb0.out⟩
    rcases z with _ | _
    · clear HN
      go_enter Tryz.func45, Tryz.ntmps45
      go_wp2_with fail
      go_ret
      exact ⟨rfl, hb0.out⟩
    go_enter Tryz.func45, Tryz.ntmps45
    go_wp2_with (first
      | (go_at_call 92; (with_reducible refine (HN.out _).mono ?_); rintro e w2 ⟨rfl, hb2⟩; replace hb2 := hide (bl_trans hb0.out hb2))
      | fail)
    go_ret
    exact ⟨rfl, hb2.out⟩
  · have f1 := eql_b 3 k 1 false (decide_eq_false (by omega))
    have f2 := eql_b 3 k 2 false (decide_eq_false (by omega))
    have f3 := eql_b 3 k 3 false (decide_eq_false (by omega))
    have f5 := eql_b 3 k 5 false (decide_eq_false h5)
    have f6 := eql_b 3 k 6 false (decide_eq_false h6)
    clear HVP HS HQ HN hP e1 e2 e3 e4 e5 h3 h5 h6
    go_enter Tryz.func45, Tryz.ntmps45
    go_wp2_with fail
    go_ret
    exact ⟨rfl, hb0.out⟩
  · clear HN e1 e2 e3
    by_cases hk3 : k = 3
    · subst hk3
      clear hk
      rcases z' with _ | _
      · subst hr
        clear HVP HS HQ hP e5
        go_enter Tryz.func45, Tryz.ntmps45
        go_wp2_with fail
        go_ret
        exact ⟨rfl, hb0.out⟩
      rcases z with _ | _
      · subst hr
        clear HVP HS HQ hP
        go_enter Tryz.func45, Tryz.ntmps45
        go_wp2_with fail
        go_ret
        exact ⟨rfl, hb0.out⟩
      rcases u with _ | _
      · subst hr
        clear HS HQ hP
        go_enter Tryz.func45, Tryz.ntmps45
        go_wp2_with (first
          | (go_at_call 26; (with_reducible refine (HVP.out _ hb0.out).mono ?_); rintro e w2 ⟨rfl, hb2⟩; replace hb2 := hide (bl_trans hb0.out hb2))
          | fail)
        go_ret
        exact ⟨rfl, hb2.out⟩
      by_cases hn0 : n = 0
      · have hln : l.map Pt.qt = [] := by
          have h := hnn.out
          rw [hn0] at h
          rw [List.eq_nil_of_length_eq_zero h.symm]; rfl
        rw [hln] at hr
        obtain rfl : true = r := hr
        subst hn0
        clear HS HQ hP hln
        go_enter Tryz.func45, Tryz.ntmps45
        go_wp2_with (first
          | (go_at_call 26; (with_reducible refine (HVP.out _ hb0.out).mono ?_); rintro e w2 ⟨rfl, hb2⟩; clear x0 x1 x2 x3 x4 x5 x6; obtain ⟨x0, x1, x2, x3, x4, x5, x6⟩ := hX.out.next hb2; replace hb2 := hide (bl_trans hb0.out hb2))
          | fail)
        go_ret
        exact ⟨rfl, hb2.out⟩
      have hpos : 0 < l.length := by rw [← hnn.out]; omega
      have hq0 := HQ.out rfl hpos
      obtain ⟨pok, pcap⟩ := HS.out rfl l[0] (List.getElem_mem hpos)
      have hform : l.map Pt.qt = l[0].qt :: (l.drop 1).map Pt.qt := by
        rw [← List.map_cons, ← List.drop_eq_getElem_cons hpos]; rfl
      rw [hform] at hr
      have hlt : (0 : Int) < (n : Int) := by omega
      have hne := eql_b 3 (n : Int) 0 false (decide_eq_false (by omega))
      obtain ⟨g1, o1, rfl, hcel, hat⟩ := (hP.out w (.refl _ _)).get hpos
      rw [Nat.zero_mul, Nat.add_zero] at hcel
      generalize l[0] = p at *
      have hcc := hide (fun W (b : Below w.heap.size w W) => And.intro (hcel.next b) (hat.next b))
      have hO := hide (fun W => rof_p 1 1 1 W (by decide) (by decide) (by decide) (by decide) (by decide) (by first | rfl | decide +kernel) fit_1)
      obtain ⟨s1, hs1⟩ : ∃ s, decide (p.q = 1) = s := ⟨_, rfl⟩
      obtain ⟨s2, hs2⟩ : ∃ s, decide (-p.q = 1) = s := ⟨_, rfl⟩
      rw [formB_3] at hr
      have hr2 : s1 = r := by rw [← hs1]; exact hr
      subst hr2
      clear hr HS HQ hP hform hcel
      have NG := hide (fun W (b : Below w.heap.size w W) => rneg_v pok pcap.1 pcap.2 W (hat.next b))
      have SM0 := hide (fun (r1 : Pt) (q1 : r1.q = 1) (k1 : r1.Ok) W (b : Below w.heap.size w W) (a1 : r1.At W) => rsame_p pok k1 W (hat.next b) a1 s1 (by rw [q1]; exact hs1))
      have SM1 := hide (fun (r1 : Pt) (q1 : r1.q = 1) (k1 : r1.Ok) (r2 : Pt) W (q2 : r2.q = -p.q) (k2 : r2.Ok) (a2 : r2.At W) (a1 : r1.At W) => rsame_p k2 k1 W a2 a1 s2 (by rw [q1, q2]; exact hs2))
      clear hs1 hs2 pok pcap hat hq0
      unfold rv at NG SM0 SM1
      go_enter Tryz.func45, Tryz.ntmps45
      go_upto_region 16 with (first
        | (go_at_call 26; (with_reducible refine (HVP.out _ hb0.out).mono ?_); rintro e w2 ⟨rfl, hb2⟩; clear x0 x1 x2 x3 x4 x5 x6; have hX2 := hide (hX.out.next hb2); obtain ⟨x0, x1, x2, x3, x4, x5, x6⟩ := hX2.out; replace hb2 := hide (bl_trans hb0.out hb2); obtain ⟨⟨c0, c1, c2, c3⟩, _⟩ := hcc.out _ hb2.out)
        | (go_at_call 31; (with_reducible refine (hO.out _).mono ?_); rintro e w3 ⟨r1, rfl, q1, k1, a1, hb⟩; have BC := Bk.next (Bk.new #[.bool p.s, .slice p.A p.xs.length p.a, .slice p.B p.ys.length p.b] 25 w2) hb; have hX3 := hide (hX2.out.next (bl_trans (bl_al (.refl _ _) _) hb)); have hb3 := bl_trans hb2.out (bl_trans (bl_al (.refl _ _) _) hb); clear hb c0 c1 c2 c3 x0 x1 x2 x3 x4 x5 x6 hX2)
        | fail)
      have BP := hide (C3.of (Bk.new #[.bool r1.s, .slice r1.A r1.xs.length r1.a, .slice r1.B r1.ys.length r1.b] 25 w3))
      have BC3 := hide (C3.of (BC.al (.cells #[.bool r1.s, .slice r1.A r1.xs.length r1.a, .slice r1.B r1.ys.length r1.b] 25)))
      have hk0 := hide ((hX3.out.next (bl_al (.refl _ _) (.cells #[.bool r1.s, .slice r1.A r1.xs.length r1.a, .slice r1.B r1.ys.length r1.b] 25))).1)
      have hb4 := bl_al hb3 (.cells #[.bool r1.s, .slice r1.A r1.xs.length r1.a, .slice r1.B r1.ys.length r1.b] 25)
      have a1' := hide (a1.next (bl_al (.refl _ _) (.cells #[.bool r1.s, .slice r1.A r1.xs.length r1.a, .slice r1.B r1.ys.length r1.b] 25)))
      generalize w3.heap.size = gp at *
      generalize w2.heap.size = gc at *
      generalize w3.alloc _ = wu at *
      have SS := hide (fun W (b_ : Below wu.heap.size wu W) => (show (W.cell? ⟨gc, 0, none⟩ = some (.bool p.s) ∧ W.cell? ⟨gc, 1, none⟩ = some (.slice p.A p.xs.length p.a) ∧ W.cell? ⟨gc, 2, none⟩ = some (.slice p.B p.ys.length p.b)) ∧ (W.cell? ⟨gp, 0, none⟩ = some (.bool r1.s) ∧ W.cell? ⟨gp, 1, none⟩ = some (.slice r1.A r1.xs.length r1.a) ∧ W.cell? ⟨gp, 2, none⟩ = some (.slice r1.B r1.ys.length r1.b)) ∧ W.cell? ⟨w.heap.size, 0, none⟩ = some (.int .i64 3) from ⟨BC3.out.next b_, BP.out.next b_, cell_next b_ hk0.out⟩))
      have SM := hide (fun W (b_ : Below wu.heap.size wu W) => SM0.out r1 q1 k1 W (bl_trans hb4 b_) (a1'.out.next b_))
      have SM2 := hide (fun (r2 : Pt) W (b_ : Below wu.heap.size wu W) (q2 : r2.q = -p.q) (k2 : r2.Ok) (a2 : r2.At W) => SM1.out r1 q1 k1 r2 W q2 k2 a2 (a1'.out.next b_))
      replace NG := hide (fun W (b_ : Below wu.heap.size wu W) => NG.out W (bl_trans hb4 b_))
      replace hb4 := hide hb4
      clear q1 k1 a1 hb3 BC hX3 SM0 SM1 BP BC3 hk0 a1' hcc HVP hO hX hb0 hb2
      go_wp2_with fail
      have bw := ka0 wu
      rcases s1 with _ | _
      · refine wp_region_held_drew (S := (fun W => (W.cell? ⟨gc, 0, none⟩ = some (.bool p.s) ∧ W.cell? ⟨gc, 1, none⟩ = some (.slice p.A p.xs.length p.a) ∧ W.cell? ⟨gc, 2, none⟩ = some (.slice p.B p.ys.length p.b)) ∧ (W.cell? ⟨gp, 0, none⟩ = some (.bool r1.s) ∧ W.cell? ⟨gp, 1, none⟩ = some (.slice r1.A r1.xs.length r1.a) ∧ W.cell? ⟨gp, 2, none⟩ = some (.slice r1.B r1.ys.length r1.b)) ∧ W.cell? ⟨w.heap.size, 0, none⟩ = some (.int .i64 3))) (by kernel_rfl) ?_ (fun hHeld => ?_)
        · (try dsimp only)
          with_reducible exact SS.out _ (ka0 wu)
        refine wpAnyH_take (i := 0) (v := ?vvb0) (by (simp only [List.getElem?_toArray, List.getElem?_cons_zero, List.getElem?_cons_succ]) <;> rfl) (by kernel_rfl) (by kernel_rfl) (by kernel_rfl) ?hqb0 (Or.inl ⟨by rfl, ?hyb0⟩) (by assumption) ?_
        case hqb0 => exact fun _ _ _ h => h
        case hyb0 => ((intro w hSw; (try dsimp only at hSw); go_simp) <;> (with_reducible rfl))
        (try simp only [Act.put, List.setIfInBounds_toArray, List.set_cons_zero, List.set_cons_succ])
        refine wpAnyH_take (i := 1) (v := ?vvb1) (by (simp only [List.getElem?_toArray, List.getElem?_cons_zero, List.getElem?_cons_succ]) <;> rfl) (by kernel_rfl) (by kernel_rfl) (by kernel_rfl) ?hqb1 (Or.inl ⟨by rfl, ?hyb1⟩) (by assumption) ?_
        case hqb1 => exact fun _ _ _ h => h
        case hyb1 => ((intro w hSw; (try dsimp only at hSw); go_simp) <;> (with_reducible rfl))
        (try simp only [Act.put, List.setIfInBounds_toArray, List.set_cons_zero, List.set_cons_succ])
        refine wpAnyH_ready (rs := [2]) (by kernel_rfl) (by simp) ?_
        refine AllReadyH.cons (by (simp only [List.getElem?_toArray, List.getElem?_cons_zero, List.getElem?_cons_succ]) <;> rfl) (fun K hK => ?_) AllReadyH.nil
        go_simp
        (go_at_call 24; (with_reducible refine (SM.out _ bw).mono ?_); rintro e wz ⟨rfl, hb⟩; replace bw := bl_trans bw hb; clear hb)
        (try go_wp2_with fail)
        refine hK.out _ _ ?_ (fun hHeld => ?_)
        · (try dsimp only)
          with_reducible exact SS.out _ bw
        (try clear hK K)
        (try simp only [Act.put, List.setIfInBounds_toArray, List.set_cons_zero, List.set_cons_succ])
        refine wpAnyH_take (i := 3) (v := ?vvb3) (by (simp only [List.getElem?_toArray, List.getElem?_cons_zero, List.getElem?_cons_succ]) <;> rfl) (by kernel_rfl) (by kernel_rfl) (by kernel_rfl) ?hqb3 (Or.inl ⟨by rfl, ?hyb3⟩) (by assumption) ?_
        case hqb3 => exact fun _ _ _ h => h
        case hyb3 => ((intro w hSw; (try dsimp only at hSw); go_simp) <;> (with_reducible rfl))
        (try simp only [Act.put, List.setIfInBounds_toArray, List.set_cons_zero, List.set_cons_succ])
        refine wpAnyH_take (i := 4) (v := ?vvb4) (by (simp only [List.getElem?_toArray, List.getElem?_cons_zero, List.getElem?_cons_succ]) <;> rfl) (by kernel_rfl) (by kernel_rfl) (by kernel_rfl) ?hqb4 (Or.inl ⟨by rfl, ?hyb4⟩) (by assumption) ?_
        case hqb4 => exact fun _ _ _ h => h
        case hyb4 => ((intro w hSw; (try dsimp only at hSw); go_simp) <;> (with_reducible rfl))
        (try simp only [Act.put, List.setIfInBounds_toArray, List.set_cons_zero, List.set_cons_succ])
        refine wpAnyH_take (i := 5) (v := ?vvb5) (by (simp only [List.getElem?_toArray, List.getElem?_cons_zero, List.getElem?_cons_succ]) <;> rfl) (by kernel_rfl) (by kernel_rfl) (by kernel_rfl) ?hqb5 (Or.inl ⟨by rfl, ?hyb5⟩) (by assumption) ?_
        case hqb5 => exact fun _ _ _ h => h
        case hyb5 => ((intro w hSw; (try dsimp only at hSw); go_simp) <;> (with_reducible rfl))
        (try simp only [Act.put, List.setIfInBounds_toArray, List.set_cons_zero, List.set_cons_succ])
        refine wpAnyH_take (i := 6) (v := ?vvb6) (by (simp only [List.getElem?_toArray, List.getElem?_cons_zero, List.getElem?_cons_succ]) <;> rfl) (by kernel_rfl) (by kernel_rfl) (by kernel_rfl) ?hqb6 (Or.inl ⟨by rfl, ?hyb6⟩) (by assumption) ?_
        case hqb6 => exact fun _ _ _ h => h
        case hyb6 => ((intro w hSw; (try dsimp only at hSw); go_simp) <;> (with_reducible rfl))
        (try simp only [Act.put, List.setIfInBounds_toArray, List.set_cons_zero, List.set_cons_succ])
        refine wpAnyH_take (i := 7) (v := ?vvb7) (by (simp only [List.getElem?_toArray, List.getElem?_cons_zero, List.getElem?_cons_succ]) <;> rfl) (by kernel_rfl) (by kernel_rfl) (by kernel_rfl) ?hqb7 (Or.inl ⟨by rfl, ?hyb7⟩) (by assumption) ?_
        case hqb7 => exact fun _ _ _ h => h
        case hyb7 => ((intro w hSw; (try dsimp only at hSw); go_simp) <;> (with_reducible rfl))
        (try simp only [Act.put, List.setIfInBounds_toArray, List.set_cons_zero, List.set_cons_succ])
        refine wpAnyH_take (i := 8) (v := undef) (by (simp only [List.getElem?_toArray, List.getElem?_cons_zero, List.getElem?_cons_succ]) <;> rfl) (by kernel_rfl) (by kernel_rfl) (by kernel_rfl) ?hqb8 (Or.inr ⟨by rfl, rfl⟩) (by assumption) ?_
        case hqb8 => exact fun _ _ _ h => h
        (try simp only [Act.put, List.setIfInBounds_toArray, List.set_cons_zero, List.set_cons_succ])
        refine wpAnyH_take (i := 9) (v := undef) (by (simp only [List.getElem?_toArray, List.getElem?_cons_zero, List.getElem?_cons_succ]) <;> rfl) (by kernel_rfl) (by kernel_rfl) (by kernel_rfl) ?hqb9 (Or.inr ⟨by rfl, rfl⟩) (by assumption) ?_
        case hqb9 => exact fun _ _ _ h => h
        (try simp only [Act.put, List.setIfInBounds_toArray, List.set_cons_zero, List.set_cons_succ])
        refine wpAnyH_take (i := 10) (v := undef) (by (simp only [List.getElem?_toArray, List.getElem?_cons_zero, List.getElem?_cons_succ]) <;> rfl) (by kernel_rfl) (by kernel_rfl) (by kernel_rfl) ?hqb10 (Or.inr ⟨by rfl, rfl⟩) (by assumption) ?_
        case hqb10 => exact fun _ _ _ h => h
        (try simp only [Act.put, List.setIfInBounds_toArray, List.set_cons_zero, List.set_cons_succ])
        refine wpAnyH_take (i := 11) (v := undef) (by (simp only [List.getElem?_toArray, List.getElem?_cons_zero, List.getElem?_cons_succ]) <;> rfl) (by kernel_rfl) (by kernel_rfl) (by kernel_rfl) ?hqb11 (Or.inr ⟨by rfl, rfl⟩) (by assumption) ?_
        case hqb11 => exact fun _ _ _ h => h
        (try simp only [Act.put, List.setIfInBounds_toArray, List.set_cons_zero, List.set_cons_succ])
        refine wpAnyH_take (i := 12) (v := ?vvb12) (by (simp only [List.getElem?_toArray, List.getElem?_cons_zero, List.getElem?_cons_succ]) <;> rfl) (by kernel_rfl) (by kernel_rfl) (by kernel_rfl) ?hqb12 (Or.inl ⟨by rfl, ?hyb12⟩) (by assumption) ?_
        case hqb12 => exact fun _ _ _ h => h
        case hyb12 => ((intro w hSw; (try dsimp only at hSw); go_simp) <;> (with_reducible rfl))
        (try simp only [Act.put, List.setIfInBounds_toArray, List.set_cons_zero, List.set_cons_succ])
        refine wpAnyH_take (i := 13) (v := ?vvb13) (by (simp only [List.getElem?_toArray, List.getElem?_cons_zero, List.getElem?_cons_succ]) <;> rfl) (by kernel_rfl) (by kernel_rfl) (by kernel_rfl) ?hqb13 (Or.inl ⟨by rfl, ?hyb13⟩) (by assumption) ?_
        case hqb13 => exact fun _ _ _ h => h
        case hyb13 => ((intro w hSw; (try dsimp only at hSw); go_simp) <;> (with_reducible rfl))
        (try simp only [Act.put, List.setIfInBounds_toArray, List.set_cons_zero, List.set_cons_succ])
        refine wpAnyH_take (i := 14) (v := ?vvb14) (by (simp only [List.getElem?_toArray, List.getElem?_cons_zero, List.getElem?_cons_succ]) <;> rfl) (by kernel_rfl) (by kernel_rfl) (by kernel_rfl) ?hqb14 (Or.inl ⟨by rfl, ?hyb14⟩) (by assumption) ?_
        case hqb14 => exact fun _ _ _ h => h
        case hyb14 => ((intro w hSw; (try dsimp only at hSw); go_simp) <;> (with_reducible rfl))
        (try simp only [Act.put, List.setIfInBounds_toArray, List.set_cons_zero, List.set_cons_succ])
        refine wpAnyH_done (by kernel_rfl) ?_ _
        go_wp2_with fail
        go_ret
        exact ⟨rfl, bl_trans hb4.out bw⟩
      · refine wp_region_held_drew (S := (fun W => (W.cell? ⟨gc, 0, none⟩ = some (.bool p.s) ∧ W.cell? ⟨gc, 1, none⟩ = some (.slice p.A p.xs.length p.a) ∧ W.cell? ⟨gc, 2, none⟩ = some (.slice p.B p.ys.length p.b)) ∧ (W.cell? ⟨gp, 0, none⟩ = some (.bool r1.s) ∧ W.cell? ⟨gp, 1, none⟩ = some (.slice r1.A r1.xs.length r1.a) ∧ W.cell? ⟨gp, 2, none⟩ = some (.slice r1.B r1.ys.length r1.b)) ∧ W.cell? ⟨w.heap.size, 0, none⟩ = some (.int .i64 3))) (by kernel_rfl) ?_ (fun hHeld => ?_)
        · (try dsimp only)
          with_reducible exact SS.out _ (ka0 wu)
        refine wpAnyH_take (i := 0) (v := ?vva3_0) (by (simp only [List.getElem?_toArray, List.getElem?_cons_zero, List.getElem?_cons_succ]) <;> rfl) (by kernel_rfl) (by kernel_rfl) (by kernel_rfl) ?hqa3_0 (Or.inl ⟨by rfl, ?hya3_0⟩) (by assumption) ?_
        case hqa3_0 => exact fun _ _ _ h => h
        case hya3_0 => ((intro w hSw; (try dsimp only at hSw); go_simp) <;> (with_reducible rfl))
        (try simp only [Act.put, List.setIfInBounds_toArray, List.set_cons_zero, List.set_cons_succ])
        refine wpAnyH_take (i := 1) (v := ?vva3_1) (by (simp only [List.getElem?_toArray, List.getElem?_cons_zero, List.getElem?_cons_succ]) <;> rfl) (by kernel_rfl) (by kernel_rfl) (by kernel_rfl) ?hqa3_1 (Or.inl ⟨by rfl, ?hya3_1⟩) (by assumption) ?_
        case hqa3_1 => exact fun _ _ _ h => h
        case hya3_1 => ((intro w hSw; (try dsimp only at hSw); go_simp) <;> (with_reducible rfl))
        (try simp only [Act.put, List.setIfInBounds_toArray, List.set_cons_zero, List.set_cons_succ])
        refine wpAnyH_ready (rs := [2]) (by kernel_rfl) (by simp) ?_
        refine AllReadyH.cons (by (simp only [List.getElem?_toArray, List.getElem?_cons_zero, List.getElem?_cons_succ]) <;> rfl) (fun K hK => ?_) AllReadyH.nil
        go_simp
        (go_at_call 24; (with_reducible refine (SM.out _ bw).mono ?_); rintro e wz ⟨rfl, hb⟩; replace bw := bl_trans bw hb; clear hb)
        (try go_wp2_with fail)
        refine hK.out _ _ ?_ (fun hHeld => ?_)
        · (try dsimp only)
          with_reducible exact SS.out _ bw
        (try clear hK K)
        (try simp only [Act.put, List.setIfInBounds_toArray, List.set_cons_zero, List.set_cons_succ])
        refine wpAnyH_take (i := 3) (v := ?vva3_3) (by (simp only [List.getElem?_toArray, List.getElem?_cons_zero, List.getElem?_cons_succ]) <;> rfl) (by kernel_rfl) (by kernel_rfl) (by kernel_rfl) ?hqa3_3 (Or.inl ⟨by rfl, ?hya3_3⟩) (by assumption) ?_
        case hqa3_3 => exact fun _ _ _ h => h
        case hya3_3 => ((intro w hSw; (try dsimp only at hSw); go_simp) <;> (with_reducible rfl))
        (try simp only [Act.put, List.setIfInBounds_toArray, List.set_cons_zero, List.set_cons_succ])
        refine wpAnyH_take (i := 4) (v := undef) (by (simp only [List.getElem?_toArray, List.getElem?_cons_zero, List.getElem?_cons_succ]) <;> rfl) (by kernel_rfl) (by kernel_rfl) (by kernel_rfl) ?hqa3_4 (Or.inr ⟨by rfl, rfl⟩) (by assumption) ?_
        case hqa3_4 => exact fun _ _ _ h => h
        (try simp only [Act.put, List.setIfInBounds_toArray, List.set_cons_zero, List.set_cons_succ])
        refine wpAnyH_take (i := 5) (v := undef) (by (simp only [List.getElem?_toArray, List.getElem?_cons_zero, List.getElem?_cons_succ]) <;> rfl) (by kernel_rfl) (by kernel_rfl) (by kernel_rfl) ?hqa3_5 (Or.inr ⟨by rfl, rfl⟩) (by assumption) ?_
        case hqa3_5 => exact fun _ _ _ h => h
        (try simp only [Act.put, List.setIfInBounds_toArray, List.set_cons_zero, List.set_cons_succ])
        refine wpAnyH_take (i := 6) (v := undef) (by (simp only [List.getElem?_toArray, List.getElem?_cons_zero, List.getElem?_cons_succ]) <;> rfl) (by kernel_rfl) (by kernel_rfl) (by kernel_rfl) ?hqa3_6 (Or.inr ⟨by rfl, rfl⟩) (by assumption) ?_
        case hqa3_6 => exact fun _ _ _ h => h
        (try simp only [Act.put, List.setIfInBounds_toArray, List.set_cons_zero, List.set_cons_succ])
        refine wpAnyH_take (i := 7) (v := undef) (by (simp only [List.getElem?_toArray, List.getElem?_cons_zero, List.getElem?_cons_succ]) <;> rfl) (by kernel_rfl) (by kernel_rfl) (by kernel_rfl) ?hqa3_7 (Or.inr ⟨by rfl, rfl⟩) (by assumption) ?_
        case hqa3_7 => exact fun _ _ _ h => h
        (try simp only [Act.put, List.setIfInBounds_toArray, List.set_cons_zero, List.set_cons_succ])
        refine wpAnyH_take (i := 8) (v := undef) (by (simp only [List.getElem?_toArray, List.getElem?_cons_zero, List.getElem?_cons_succ]) <;> rfl) (by kernel_rfl) (by kernel_rfl) (by kernel_rfl) ?hqa3_8 (Or.inr ⟨by rfl, rfl⟩) (by assumption) ?_
        case hqa3_8 => exact fun _ _ _ h => h
        (try simp only [Act.put, List.setIfInBounds_toArray, List.set_cons_zero, List.set_cons_succ])
        refine wpAnyH_take (i := 9) (v := undef) (by (simp only [List.getElem?_toArray, List.getElem?_cons_zero, List.getElem?_cons_succ]) <;> rfl) (by kernel_rfl) (by kernel_rfl) (by kernel_rfl) ?hqa3_9 (Or.inr ⟨by rfl, rfl⟩) (by assumption) ?_
        case hqa3_9 => exact fun _ _ _ h => h
        (try simp only [Act.put, List.setIfInBounds_toArray, List.set_cons_zero, List.set_cons_succ])
        refine wpAnyH_take (i := 10) (v := undef) (by (simp only [List.getElem?_toArray, List.getElem?_cons_zero, List.getElem?_cons_succ]) <;> rfl) (by kernel_rfl) (by kernel_rfl) (by kernel_rfl) ?hqa3_10 (Or.inr ⟨by rfl, rfl⟩) (by assumption) ?_
        case hqa3_10 => exact fun _ _ _ h => h
        (try simp only [Act.put, List.setIfInBounds_toArray, List.set_cons_zero, List.set_cons_succ])
        refine wpAnyH_take (i := 11) (v := undef) (by (simp only [List.getElem?_toArray, List.getElem?_cons_zero, List.getElem?_cons_succ]) <;> rfl) (by kernel_rfl) (by kernel_rfl) (by kernel_rfl) ?hqa3_11 (Or.inr ⟨by rfl, rfl⟩) (by assumption) ?_
        case hqa3_11 => exact fun _ _ _ h => h
        (try simp only [Act.put, List.setIfInBounds_toArray, List.set_cons_zero, List.set_cons_succ])
        refine wpAnyH_take (i := 12) (v := undef) (by (simp only [List.getElem?_toArray, List.getElem?_cons_zero, List.getElem?_cons_succ]) <;> rfl) (by kernel_rfl) (by kernel_rfl) (by kernel_rfl) ?hqa3_12 (Or.inr ⟨by rfl, rfl⟩) (by assumption) ?_
        case hqa3_12 => exact fun _ _ _ h => h
        (try simp only [Act.put, List.setIfInBounds_toArray, List.set_cons_zero, List.set_cons_succ])
        refine wpAnyH_take (i := 13) (v := ?vva3_13) (by (simp only [List.getElem?_toArray, List.getElem?_cons_zero, List.getElem?_cons_succ]) <;> rfl) (by kernel_rfl) (by kernel_rfl) (by kernel_rfl) ?hqa3_13 (Or.inl ⟨by rfl, ?hya3_13⟩) (by assumption) ?_
        case hqa3_13 => exact fun _ _ _ h => h
        case hya3_13 => ((intro w hSw; (try dsimp only at hSw); go_simp) <;> (with_reducible rfl))
        (try simp only [Act.put, List.setIfInBounds_toArray, List.set_cons_zero, List.set_cons_succ])
        refine wpAnyH_take (i := 14) (v := ?vva3_14) (by (simp only [List.getElem?_toArray, List.getElem?_cons_zero, List.getElem?_cons_succ]) <;> rfl) (by kernel_rfl) (by kernel_rfl) (by kernel_rfl) ?hqa3_14 (Or.inl ⟨by rfl, ?hya3_14⟩) (by assumption) ?_
        case hqa3_14 => exact fun _ _ _ h => h
        case hya3_14 => ((intro w hSw; (try dsimp only at hSw); go_simp) <;> (with_reducible rfl))
        (try simp only [Act.put, List.setIfInBounds_toArray, List.set_cons_zero, List.set_cons_succ])
        refine wpAnyH_done (by kernel_rfl) ?_ _
        go_wp2_with fail
        go_ret
        exact ⟨rfl, bl_trans hb4.out bw⟩
    · have h12 : Hid (k = 1 ∨ k = 2) := hide (by omega)
      have f5 := eql_b 3 k 5 false (decide_eq_false (by omega))
      have f6 := eql_b 3 k 6 false (decide_eq_false (by omega))
      have f3 := neq_b 3 k 3 true (decide_eq_true hk3)
      have f12 : binOp .eql 3 (.int .i64 k) (.int .i64 1) = pure (.bool true) ∨ (binOp .eql 3 (.int .i64 k) (.int .i64 1) = pure (.bool false) ∧ binOp .eql 3 (.int .i64 k) (.int .i64 2) = pure (.bool true)) := by
        rcases h12.out with h | h
        · exact .inl (eql_b _ _ _ _ (by simp [h]))
        · exact .inr ⟨eql_b _ _ _ _ (by simp [h]), eql_b _ _ _ _ (by simp [h])⟩
      clear hk hk3
      rcases f12 with g1 | ⟨g1, g2⟩
      all_goals
        rcases z' with _ | _
        · subst hr
          clear HVP HS HQ hP e5
          go_enter Tryz.func45, Tryz.ntmps45
          go_wp2_with fail
          go_ret
          exact ⟨rfl, hb0.out⟩
        rcases z with _ | _
        · subst hr
          clear HVP HS HQ hP
          go_enter Tryz.func45, Tryz.ntmps45
          go_wp2_with fail
          go_ret
          exact ⟨rfl, hb0.out⟩
        rcases u with _ | _
        · subst hr
          clear HS HQ hP
          go_enter Tryz.func45, Tryz.ntmps45
          go_wp2_with (first
            | (go_at_call 26; (with_reducible refine (HVP.out _ hb0.out).mono ?_); rintro e w2 ⟨rfl, hb2⟩; replace hb2 := hide (bl_trans hb0.out hb2))
            | fail)
          go_ret
          exact ⟨rfl, hb2.out⟩
        by_cases hn0 : n = 0
        · have hln : l.map Pt.qt = [] := by
            have h := hnn.out
            rw [hn0] at h
            rw [List.eq_nil_of_length_eq_zero h.symm]; rfl
          rw [hln] at hr
          obtain rfl : true = r := hr
          subst hn0
          clear HS HQ hP hln
          go_enter Tryz.func45, Tryz.ntmps45
          go_wp2_with (first
            | (go_at_call 26; (with_reducible refine (HVP.out _ hb0.out).mono ?_); rintro e w2 ⟨rfl, hb2⟩; clear x0 x1 x2 x3 x4 x5 x6; obtain ⟨x0, x1, x2, x3, x4, x5, x6⟩ := hX.out.next hb2; replace hb2 := hide (bl_trans hb0.out hb2))
            | fail)
          go_ret
          exact ⟨rfl, hb2.out⟩
        have hpos : 0 < l.length := by rw [← hnn.out]; omega
        have hq0 := HQ.out rfl hpos
        obtain ⟨pok, pcap⟩ := HS.out rfl l[0] (List.getElem_mem hpos)
        have hform : l.map Pt.qt = l[0].qt :: (l.drop 1).map Pt.qt := by
          rw [← List.map_cons, ← List.drop_eq_getElem_cons hpos]; rfl
        rw [hform] at hr
        have hlt : (0 : Int) < (n : Int) := by omega
        have hne := eql_b 3 (n : Int) 0 false (decide_eq_false (by omega))
        obtain ⟨g1, o1, rfl, hcel, hat⟩ := (hP.out w (.refl _ _)).get hpos
        rw [Nat.zero_mul, Nat.add_zero] at hcel
        generalize l[0] = p at *
        have hcc := hide (fun W (b : Below w.heap.size w W) => And.intro (hcel.next b) (hat.next b))
        have hO := hide (fun W => rof_p 1 1 1 W (by decide) (by decide) (by decide) (by decide) (by decide) (by first | rfl | decide +kernel) fit_1)
        obtain ⟨s1, hs1⟩ : ∃ s, decide (p.q = 1) = s := ⟨_, rfl⟩
        obtain ⟨s2, hs2⟩ : ∃ s, decide (-p.q = 1) = s := ⟨_, rfl⟩
        rw [formB_cons k h12.out _ _ hq0] at hr
        have hr2 : (s1 || s2) = r := by rw [← hs1, ← hs2]; exact hr
        subst hr2
        clear hr HS HQ hP hform hcel
        have NG := hide (fun W (b : Below w.heap.size w W) => rneg_v pok pcap.1 pcap.2 W (hat.next b))
        have SM0 := hide (fun (r1 : Pt) (q1 : r1.q = 1) (k1 : r1.Ok) W (b : Below w.heap.size w W) (a1 : r1.At W) => rsame_p pok k1 W (hat.next b) a1 s1 (by rw [q1]; exact hs1))
        have SM1 := hide (fun (r1 : Pt) (q1 : r1.q = 1) (k1 : r1.Ok) (r2 : Pt) W (q2 : r2.q = -p.q) (k2 : r2.Ok) (a2 : r2.At W) (a1 : r1.At W) => rsame_p k2 k1 W a2 a1 s2 (by rw [q1, q2]; exact hs2))
        clear hs1 hs2 pok pcap hat hq0
        unfold rv at NG SM0 SM1
        go_enter Tryz.func45, Tryz.ntmps45
        go_upto_region 16 with (first
          | (go_at_call 26; (with_reducible refine (HVP.out _ hb0.out).mono ?_); rintro e w2 ⟨rfl, hb2⟩; clear x0 x1 x2 x3 x4 x5 x6; have hX2 := hide (hX.out.next hb2); obtain ⟨x0, x1, x2, x3, x4, x5, x6⟩ := hX2.out; replace hb2 := hide (bl_trans hb0.out hb2); obtain ⟨⟨c0, c1, c2, c3⟩, _⟩ := hcc.out _ hb2.out)
          | (go_at_call 31; (with_reducible refine (hO.out _).mono ?_); rintro e w3 ⟨r1, rfl, q1, k1, a1, hb⟩; have BC := Bk.next (Bk.new #[.bool p.s, .slice p.A p.xs.length p.a, .slice p.B p.ys.length p.b] 25 w2) hb; have hX3 := hide (hX2.out.next (bl_trans (bl_al (.refl _ _) _) hb)); have hb3 := bl_trans hb2.out (bl_trans (bl_al (.refl _ _) _) hb); clear hb c0 c1 c2 c3 x0 x1 x2 x3 x4 x5 x6 hX2)
          | fail)
        have BP := hide (C3.of (Bk.new #[.bool r1.s, .slice r1.A r1.xs.length r1.a, .slice r1.B r1.ys.length r1.b] 25 w3))
        have BC3 := hide (C3.of (BC.al (.cells #[.bool r1.s, .slice r1.A r1.xs.length r1.a, .slice r1.B r1.ys.length r1.b] 25)))
        have hk0 := hide ((hX3.out.next (bl_al (.refl _ _) (.cells #[.bool r1.s, .slice r1.A r1.xs.length r1.a, .slice r1.B r1.ys.length r1.b] 25))).1)
        have hb4 := bl_al hb3 (.cells #[.bool r1.s, .slice r1.A r1.xs.length r1.a, .slice r1.B r1.ys.length r1.b] 25)
        have a1' := hide (a1.next (bl_al (.refl _ _) (.cells #[.bool r1.s, .slice r1.A r1.xs.length r1.a, .slice r1.B r1.ys.length r1.b] 25)))
        generalize w3.heap.size = gp at *
        generalize w2.heap.size = gc at *
        generalize w3.alloc _ = wu at *
        have SS := hide (fun W (b_ : Below wu.heap.size wu W) => (show (W.cell? ⟨gc, 0, none⟩ = some (.bool p.s) ∧ W.cell? ⟨gc, 1, none⟩ = some (.slice p.A p.xs.length p.a) ∧ W.cell? ⟨gc, 2, none⟩ = some (.slice p.B p.ys.length p.b)) ∧ (W.cell? ⟨gp, 0, none⟩ = some (.bool r1.s) ∧ W.cell? ⟨gp, 1, none⟩ = some (.slice r1.A r1.xs.length r1.a) ∧ W.cell? ⟨gp, 2, none⟩ = some (.slice r1.B r1.ys.length r1.b)) ∧ W.cell? ⟨w.heap.size, 0, none⟩ = some (.int .i64 k) from ⟨BC3.out.next b_, BP.out.next b_, cell_next b_ hk0.out⟩))
        have SM := hide (fun W (b_ : Below wu.heap.size wu W) => SM0.out r1 q1 k1 W (bl_trans hb4 b_) (a1'.out.next b_))
        have SM2 := hide (fun (r2 : Pt) W (b_ : Below wu.heap.size wu W) (q2 : r2.q = -p.q) (k2 : r2.Ok) (a2 : r2.At W) => SM1.out r1 q1 k1 r2 W q2 k2 a2 (a1'.out.next b_))
        replace NG := hide (fun W (b_ : Below wu.heap.size wu W) => NG.out W (bl_trans hb4 b_))
        replace hb4 := hide hb4
        clear q1 k1 a1 hb3 BC hX3 SM0 SM1 BP BC3 hk0 a1' hcc HVP hO hX hb0 hb2
        go_wp2_with fail
        have bw := ka0 wu
        rcases s1 with _ | _
        · refine wp_region_held_drew (S := (fun W => (W.cell? ⟨gc, 0, none⟩ = some (.bool p.s) ∧ W.cell? ⟨gc, 1, none⟩ = some (.slice p.A p.xs.length p.a) ∧ W.cell? ⟨gc, 2, none⟩ = some (.slice p.B p.ys.length p.b)) ∧ (W.cell? ⟨gp, 0, none⟩ = some (.bool r1.s) ∧ W.cell? ⟨gp, 1, none⟩ = some (.slice r1.A r1.xs.length r1.a) ∧ W.cell? ⟨gp, 2, none⟩ = some (.slice r1.B r1.ys.length r1.b)) ∧ W.cell? ⟨w.heap.size, 0, none⟩ = some (.int .i64 k))) (by kernel_rfl) ?_ (fun hHeld => ?_)
          · (try dsimp only)
            with_reducible exact SS.out _ (ka0 wu)
          refine wpAnyH_take (i := 0) (v := (.agg #[.bool p.s, .slice p.A p.xs.length p.a, .slice p.B p.ys.length p.b])) (by (simp only [List.getElem?_toArray, List.getElem?_cons_zero, List.getElem?_cons_succ]) <;> rfl) (by kernel_rfl) (by kernel_rfl) (by kernel_rfl) ?_ (Or.inl ⟨by rfl, ?_⟩) (by assumption) ?_
          · exact fun _ _ _ h => h
          · ((intro w hSw; (try dsimp only at hSw); go_simp) <;> (with_reducible rfl))
          (try simp only [Act.put, List.setIfInBounds_toArray, List.set_cons_zero, List.set_cons_succ])
          refine wpAnyH_take (i := 1) (v := (.agg #[.bool r1.s, .slice r1.A r1.xs.length r1.a, .slice r1.B r1.ys.length r1.b])) (by (simp only [List.getElem?_toArray, List.getElem?_cons_zero, List.getElem?_cons_succ]) <;> rfl) (by kernel_rfl) (by kernel_rfl) (by kernel_rfl) ?_ (Or.inl ⟨by rfl, ?_⟩) (by assumption) ?_
          · exact fun _ _ _ h => h
          · ((intro w hSw; (try dsimp only at hSw); go_simp) <;> (with_reducible rfl))
          (try simp only [Act.put, List.setIfInBounds_toArray, List.set_cons_zero, List.set_cons_succ])
          refine wpAnyH_ready (rs := [2]) (by kernel_rfl) (by simp) ?_
          refine AllReadyH.cons (by (simp only [List.getElem?_toArray, List.getElem?_cons_zero, List.getElem?_cons_succ]) <;> rfl) (fun K hK => ?_) AllReadyH.nil
          go_simp
          (go_at_call 24; (with_reducible refine (SM.out _ bw).mono ?_); rintro e wz ⟨rfl, hb⟩; replace bw := bl_trans bw hb; clear hb)
          (try go_wp2_with fail)
          refine hK.out _ _ ?_ (fun hHeld => ?_)
          · (try dsimp only)
            with_reducible exact SS.out _ bw
          (try clear hK K)
          (try simp only [Act.put, List.setIfInBounds_toArray, List.set_cons_zero, List.set_cons_succ])
          refine wpAnyH_take (i := 3) (v := (.bool false)) (by (simp only [List.getElem?_toArray, List.getElem?_cons_zero, List.getElem?_cons_succ]) <;> rfl) (by kernel_rfl) (by kernel_rfl) (by kernel_rfl) ?_ (Or.inl ⟨by rfl, ?_⟩) (by assumption) ?_
          · exact fun _ _ _ h => h
          · ((intro w hSw; (try dsimp only at hSw); go_simp) <;> (with_reducible rfl))
          (try simp only [Act.put, List.setIfInBounds_toArray, List.set_cons_zero, List.set_cons_succ])
          refine wpAnyH_take (i := 4) (v := (.pointer (some ⟨w.heap.size, 0, none⟩))) (by (simp only [List.getElem?_toArray, List.getElem?_cons_zero, List.getElem?_cons_succ]) <;> rfl) (by kernel_rfl) (by kernel_rfl) (by kernel_rfl) ?_ (Or.inl ⟨by rfl, ?_⟩) (by assumption) ?_
          · exact fun _ _ _ h => h
          · ((intro w hSw; (try dsimp only at hSw); go_simp) <;> (with_reducible rfl))
          (try simp only [Act.put, List.setIfInBounds_toArray, List.set_cons_zero, List.set_cons_succ])
          refine wpAnyH_take (i := 5) (v := (.int .i64 k)) (by (simp only [List.getElem?_toArray, List.getElem?_cons_zero, List.getElem?_cons_succ]) <;> rfl) (by kernel_rfl) (by kernel_rfl) (by kernel_rfl) ?_ (Or.inl ⟨by rfl, ?_⟩) (by assumption) ?_
          · exact fun _ _ _ h => h
          · ((intro w hSw; (try dsimp only at hSw); go_simp) <;> (with_reducible rfl))
          (try simp only [Act.put, List.setIfInBounds_toArray, List.set_cons_zero, List.set_cons_succ])
          refine wpAnyH_take (i := 6) (v := (.bool true)) (by (simp only [List.getElem?_toArray, List.getElem?_cons_zero, List.getElem?_cons_succ]) <;> rfl) (by kernel_rfl) (by kernel_rfl) (by kernel_rfl) ?_ (Or.inl ⟨by rfl, ?_⟩) (by assumption) ?_
          · exact fun _ _ _ h => h
          · ((intro w hSw; (try dsimp only at hSw); go_simp) <;> (with_reducible rfl))
          (try simp only [Act.put, List.setIfInBounds_toArray, List.set_cons_zero, List.set_cons_succ])
          refine wpAnyH_take (i := 7) (v := (.bool true)) (by (simp only [List.getElem?_toArray, List.getElem?_cons_zero, List.getElem?_cons_succ]) <;> rfl) (by kernel_rfl) (by kernel_rfl) (by kernel_rfl) ?_ (Or.inl ⟨by rfl, ?_⟩) (by assumption) ?_
          · exact fun _ _ _ h => h
          · ((intro w hSw; (try dsimp only at hSw); go_simp) <;> (with_reducible rfl))
          (try simp only [Act.put, List.setIfInBounds_toArray, List.set_cons_zero, List.set_cons_succ])
          refine wpAnyH_take (i := 8) (v := (.agg #[.bool p.s, .slice p.A p.xs.length p.a, .slice p.B p.ys.length p.b])) (by (simp only [List.getElem?_toArray, List.getElem?_cons_zero, List.getElem?_cons_succ]) <;> rfl) (by kernel_rfl) (by kernel_rfl) (by kernel_rfl) ?_ (Or.inl ⟨by rfl, ?_⟩) (by assumption) ?_
          · exact fun _ _ _ h => h
          · ((intro w hSw; (try dsimp only at hSw); go_simp) <;> (with_reducible rfl))
          (try simp only [Act.put, List.setIfInBounds_toArray, List.set_cons_zero, List.set_cons_succ])
          refine wpAnyH_take (i := 10) (v := (.agg #[.bool r1.s, .slice r1.A r1.xs.length r1.a, .slice r1.B r1.ys.length r1.b])) (by (simp only [List.getElem?_toArray, List.getElem?_cons_zero, List.getElem?_cons_succ]) <;> rfl) (by kernel_rfl) (by kernel_rfl) (by kernel_rfl) ?_ (Or.inl ⟨by rfl, ?_⟩) (by assumption) ?_
          · exact fun _ _ _ h => h
          · ((intro w hSw; (try dsimp only at hSw); go_simp) <;> (with_reducible rfl))
          (try simp only [Act.put, List.setIfInBounds_toArray, List.set_cons_zero, List.set_cons_succ])
          refine wpAnyH_ready (rs := [9]) (by kernel_rfl) (by simp) ?_
          refine AllReadyH.cons (by (simp only [List.getElem?_toArray, List.getElem?_cons_zero, List.getElem?_cons_succ]) <;> rfl) (fun K hK => ?_) AllReadyH.nil
          go_simp
          (go_at_call 49; (with_reducible refine (NG.out _ bw).mono ?_); rintro e wz ⟨r2, rfl, hq2, hk2, ha2, hb⟩; replace bw := bl_trans bw hb; have SM2' := hide (SM2.out r2 _ bw hq2 hk2 ha2); clear hb hq2 hk2 ha2)
          (try go_wp2_with fail)
          refine hK.out _ _ ?_ (fun hHeld => ?_)
          · (try dsimp only)
            with_reducible exact SS.out _ bw
          (try clear hK K)
          (try simp only [Act.put, List.setIfInBounds_toArray, List.set_cons_zero, List.set_cons_succ])
          refine wpAnyH_ready (rs := [11]) (by kernel_rfl) (by simp) ?_
          refine AllReadyH.cons (by (simp only [List.getElem?_toArray, List.getElem?_cons_zero, List.getElem?_cons_succ]) <;> rfl) (fun K hK => ?_) AllReadyH.nil
          go_simp
          (go_at_call 24; (with_reducible refine SM2'.out.mono ?_); rintro e wz ⟨rfl, hb⟩; replace bw := bl_trans bw hb; clear hb SM2')
          (try go_wp2_with fail)
          refine hK.out _ _ ?_ (fun hHeld => ?_)
          · (try dsimp only)
            with_reducible exact SS.out _ bw
          (try clear hK K)
          (try simp only [Act.put, List.setIfInBounds_toArray, List.set_cons_zero, List.set_cons_succ])
          refine wpAnyH_take (i := 12) (v := (.bool s2)) (by (simp only [List.getElem?_toArray, List.getElem?_cons_zero, List.getElem?_cons_succ]) <;> rfl) (by kernel_rfl) (by kernel_rfl) (by kernel_rfl) ?_ (Or.inl ⟨by rfl, ?_⟩) (by assumption) ?_
          · exact fun _ _ _ h => h
          · ((intro w hSw; (try dsimp only at hSw); go_simp) <;> (with_reducible rfl))
          (try simp only [Act.put, List.setIfInBounds_toArray, List.set_cons_zero, List.set_cons_succ])
          refine wpAnyH_take (i := 13) (v := (.bool s2)) (by (simp only [List.getElem?_toArray, List.getElem?_cons_zero, List.getElem?_cons_succ]) <;> rfl) (by kernel_rfl) (by kernel_rfl) (by kernel_rfl) ?_ (Or.inl ⟨by rfl, ?_⟩) (by assumption) ?_
          · exact fun _ _ _ h => h
          · ((intro w hSw; (try dsimp only at hSw); go_simp) <;> (with_reducible rfl))
          (try simp only [Act.put, List.setIfInBounds_toArray, List.set_cons_zero, List.set_cons_succ])
          refine wpAnyH_take (i := 14) (v := (.bool s2)) (by (simp only [List.getElem?_toArray, List.getElem?_cons_zero, List.getElem?_cons_succ]) <;> rfl) (by kernel_rfl) (by kernel_rfl) (by kernel_rfl) ?_ (Or.inl ⟨by rfl, ?_⟩) (by assumption) ?_
          · exact fun _ _ _ h => h
          · ((intro w hSw; (try dsimp only at hSw); go_simp) <;> (with_reducible rfl))
          (try simp only [Act.put, List.setIfInBounds_toArray, List.set_cons_zero, List.set_cons_succ])
          refine wpAnyH_done (by kernel_rfl) ?_ _
          go_wp2_with fail
          go_ret
          exact ⟨rfl, bl_trans hb4.out bw⟩
        · refine wp_region_held_drew (S := (fun W => (W.cell? ⟨gc, 0, none⟩ = some (.bool p.s) ∧ W.cell? ⟨gc, 1, none⟩ = some (.slice p.A p.xs.length p.a) ∧ W.cell? ⟨gc, 2, none⟩ = some (.slice p.B p.ys.length p.b)) ∧ (W.cell? ⟨gp, 0, none⟩ = some (.bool r1.s) ∧ W.cell? ⟨gp, 1, none⟩ = some (.slice r1.A r1.xs.length r1.a) ∧ W.cell? ⟨gp, 2, none⟩ = some (.slice r1.B r1.ys.length r1.b)) ∧ W.cell? ⟨w.heap.size, 0, none⟩ = some (.int .i64 k))) (by kernel_rfl) ?_ (fun hHeld => ?_)
          · (try dsimp only)
            with_reducible exact SS.out _ (ka0 wu)
          refine wpAnyH_take (i := 0) (v := (.agg #[.bool p.s, .slice p.A p.xs.length p.a, .slice p.B p.ys.length p.b])) (by (simp only [List.getElem?_toArray, List.getElem?_cons_zero, List.getElem?_cons_succ]) <;> rfl) (by kernel_rfl) (by kernel_rfl) (by kernel_rfl) ?_ (Or.inl ⟨by rfl, ?_⟩) (by assumption) ?_
          · exact fun _ _ _ h => h
          · ((intro w hSw; (try dsimp only at hSw); go_simp) <;> (with_reducible rfl))
          (try simp only [Act.put, List.setIfInBounds_toArray, List.set_cons_zero, List.set_cons_succ])
          refine wpAnyH_take (i := 1) (v := (.agg #[.bool r1.s, .slice r1.A r1.xs.length r1.a, .slice r1.B r1.ys.length r1.b])) (by (simp only [List.getElem?_toArray, List.getElem?_cons_zero, List.getElem?_cons_succ]) <;> rfl) (by kernel_rfl) (by kernel_rfl) (by kernel_rfl) ?_ (Or.inl ⟨by rfl, ?_⟩) (by assumption) ?_
          · exact fun _ _ _ h => h
          · ((intro w hSw; (try dsimp only at hSw); go_simp) <;> (with_reducible rfl))
          (try simp only [Act.put, List.setIfInBounds_toArray, List.set_cons_zero, List.set_cons_succ])
          refine wpAnyH_ready (rs := [2]) (by kernel_rfl) (by simp) ?_
          refine AllReadyH.cons (by (simp only [List.getElem?_toArray, List.getElem?_cons_zero, List.getElem?_cons_succ]) <;> rfl) (fun K hK => ?_) AllReadyH.nil
          go_simp
          (go_at_call 24; (with_reducible refine (SM.out _ bw).mono ?_); rintro e wz ⟨rfl, hb⟩; replace bw := bl_trans bw hb; clear hb)
          (try go_wp2_with fail)
          refine hK.out _ _ ?_ (fun hHeld => ?_)
          · (try dsimp only)
            with_reducible exact SS.out _ bw
          (try clear hK K)
          (try simp only [Act.put, List.setIfInBounds_toArray, List.set_cons_zero, List.set_cons_succ])
          refine wpAnyH_take (i := 3) (v := (.bool true)) (by (simp only [List.getElem?_toArray, List.getElem?_cons_zero, List.getElem?_cons_succ]) <;> rfl) (by kernel_rfl) (by kernel_rfl) (by kernel_rfl) ?_ (Or.inl ⟨by rfl, ?_⟩) (by assumption) ?_
          · exact fun _ _ _ h => h
          · ((intro w hSw; (try dsimp only at hSw); go_simp) <;> (with_reducible rfl))
          (try simp only [Act.put, List.setIfInBounds_toArray, List.set_cons_zero, List.set_cons_succ])
          refine wpAnyH_take (i := 4) (v := undef) (by (simp only [List.getElem?_toArray, List.getElem?_cons_zero, List.getElem?_cons_succ]) <;> rfl) (by kernel_rfl) (by kernel_rfl) (by kernel_rfl) ?_ (Or.inr ⟨by rfl, rfl⟩) (by assumption) ?_
          · exact fun _ _ _ h => h
          (try simp only [Act.put, List.setIfInBounds_toArray, List.set_cons_zero, List.set_cons_succ])
          refine wpAnyH_take (i := 5) (v := undef) (by (simp only [List.getElem?_toArray, List.getElem?_cons_zero, List.getElem?_cons_succ]) <;> rfl) (by kernel_rfl) (by kernel_rfl) (by kernel_rfl) ?_ (Or.inr ⟨by rfl, rfl⟩) (by assumption) ?_
          · exact fun _ _ _ h => h
          (try simp only [Act.put, List.setIfInBounds_toArray, List.set_cons_zero, List.set_cons_succ])
          refine wpAnyH_take (i := 6) (v := undef) (by (simp only [List.getElem?_toArray, List.getElem?_cons_zero, List.getElem?_cons_succ]) <;> rfl) (by kernel_rfl) (by kernel_rfl) (by kernel_rfl) ?_ (Or.inr ⟨by rfl, rfl⟩) (by assumption) ?_
          · exact fun _ _ _ h => h
          (try simp only [Act.put, List.setIfInBounds_toArray, List.set_cons_zero, List.set_cons_succ])
          refine wpAnyH_take (i := 7) (v := undef) (by (simp only [List.getElem?_toArray, List.getElem?_cons_zero, List.getElem?_cons_succ]) <;> rfl) (by kernel_rfl) (by kernel_rfl) (by kernel_rfl) ?_ (Or.inr ⟨by rfl, rfl⟩) (by assumption) ?_
          · exact fun _ _ _ h => h
          (try simp only [Act.put, List.setIfInBounds_toArray, List.set_cons_zero, List.set_cons_succ])
          refine wpAnyH_take (i := 8) (v := undef) (by (simp only [List.getElem?_toArray, List.getElem?_cons_zero, List.getElem?_cons_succ]) <;> rfl) (by kernel_rfl) (by kernel_rfl) (by kernel_rfl) ?_ (Or.inr ⟨by rfl, rfl⟩) (by assumption) ?_
          · exact fun _ _ _ h => h
          (try simp only [Act.put, List.setIfInBounds_toArray, List.set_cons_zero, List.set_cons_succ])
          refine wpAnyH_take (i := 9) (v := undef) (by (simp only [List.getElem?_toArray, List.getElem?_cons_zero, List.getElem?_cons_succ]) <;> rfl) (by kernel_rfl) (by kernel_rfl) (by kernel_rfl) ?_ (Or.inr ⟨by rfl, rfl⟩) (by assumption) ?_
          · exact fun _ _ _ h => h
          (try simp only [Act.put, List.setIfInBounds_toArray, List.set_cons_zero, List.set_cons_succ])
          refine wpAnyH_take (i := 10) (v := undef) (by (simp only [List.getElem?_toArray, List.getElem?_cons_zero, List.getElem?_cons_succ]) <;> rfl) (by kernel_rfl) (by kernel_rfl) (by kernel_rfl) ?_ (Or.inr ⟨by rfl, rfl⟩) (by assumption) ?_
          · exact fun _ _ _ h => h
          (try simp only [Act.put, List.setIfInBounds_toArray, List.set_cons_zero, List.set_cons_succ])
          refine wpAnyH_take (i := 11) (v := undef) (by (simp only [List.getElem?_toArray, List.getElem?_cons_zero, List.getElem?_cons_succ]) <;> rfl) (by kernel_rfl) (by kernel_rfl) (by kernel_rfl) ?_ (Or.inr ⟨by rfl, rfl⟩) (by assumption) ?_
          · exact fun _ _ _ h => h
          (try simp only [Act.put, List.setIfInBounds_toArray, List.set_cons_zero, List.set_cons_succ])
          refine wpAnyH_take (i := 12) (v := undef) (by (simp only [List.getElem?_toArray, List.getElem?_cons_zero, List.getElem?_cons_succ]) <;> rfl) (by kernel_rfl) (by kernel_rfl) (by kernel_rfl) ?_ (Or.inr ⟨by rfl, rfl⟩) (by assumption) ?_
          · exact fun _ _ _ h => h
          (try simp only [Act.put, List.setIfInBounds_toArray, List.set_cons_zero, List.set_cons_succ])
          refine wpAnyH_take (i := 13) (v := (.bool true)) (by (simp only [List.getElem?_toArray, List.getElem?_cons_zero, List.getElem?_cons_succ]) <;> rfl) (by kernel_rfl) (by kernel_rfl) (by kernel_rfl) ?_ (Or.inl ⟨by rfl, ?_⟩) (by assumption) ?_
          · exact fun _ _ _ h => h
          · ((intro w hSw; (try dsimp only at hSw); go_simp) <;> (with_reducible rfl))
          (try simp only [Act.put, List.setIfInBounds_toArray, List.set_cons_zero, List.set_cons_succ])
          refine wpAnyH_take (i := 14) (v := (.bool true)) (by (simp only [List.getElem?_toArray, List.getElem?_cons_zero, List.getElem?_cons_succ]) <;> rfl) (by kernel_rfl) (by kernel_rfl) (by kernel_rfl) ?_ (Or.inl ⟨by rfl, ?_⟩) (by assumption) ?_
          · exact fun _ _ _ h => h
          · ((intro w hSw; (try dsimp only at hSw); go_simp) <;> (with_reducible rfl))
          (try simp only [Act.put, List.setIfInBounds_toArray, List.set_cons_zero, List.set_cons_succ])
          refine wpAnyH_done (by kernel_rfl) ?_ _
          go_wp2_with fail
          go_ret
          exact ⟨rfl, bl_trans hb4.out bw⟩
end Nt

end Go.Proofs.YtgimmmmpollkhaaGreat

namespace Go.Proofs.YtgimmmmpollkhaaGreat

open Go.ChangeShapes Go.RowKit

namespace Nt
set_option maxRecDepth 100000
set_option linter.unusedSimpArgs false
set_option linter.unusedVariables false

set_option maxHeartbeats 8000000 in
theorem rsamea_r (k k' : Int) (A B : Option Addr) (l m : List Pt) (kc kd : Nat) (c d : Pt) (a a' b b' : Int) (w : World) (hl : Pl w A l) (hm : Pl w B m) (fl : ∀ p ∈ l, p.Few) (fm : ∀ p ∈ m, p.Few) (hc : c.At w) (hd : d.At w) (fc : c.Few) (fd : d.Few) (nl : l.length ≤ 1000000) (nm : m.length ≤ 1000000) (r : Bool)
    (hr : (decide (k = k') && decide (a = a') && decide (b = b') && (decide (l.map Pt.raw = m.map Pt.raw) && decide (c.cn = d.cn))) = r) :
    Calls Tryz.prog 46 #[atomV k A l.length kc c a b, atomV k' B m.length kd d a' b'] w fun e w' => e = .returned (.bool r) ∧ Below w.heap.size w w' := by
  obtain ⟨x, hx⟩ : ∃ x, decide (k = k') = x := ⟨_, rfl⟩
  obtain ⟨y, hy⟩ : ∃ y, decide (a = a') = y := ⟨_, rfl⟩
  obtain ⟨z, hz⟩ : ∃ z, decide (b = b') = z := ⟨_, rfl⟩
  obtain ⟨v, hv⟩ : ∃ v, (decide (l.map Pt.raw = m.map Pt.raw) && decide (c.cn = d.cn)) = v := ⟨_, rfl⟩
  have e1 := eql_b 3 k k' x hx
  have e2 := eql_b 3 a a' y hy
  have e3 := eql_b 3 b b' z hz
  rw [hx, hy, hz, hv] at hr
  subst hr
  have hS := hide (fun W (b : Below w.heap.size w W) => (show Calls Tryz.prog 23 #[polyV A l.length kc c, polyV B m.length kd d] W fun e w' => e = .returned (.bool v) ∧ Below W.heap.size W w' from
    rsamep_r A B kc kd l m c d W (hl.next b) (hm.next b) fl fm (hc.next b) (hd.next b) fc fd nl nm v hv))
  clear hl hm fl fm hc hd fc fd nl nm hx hy hz hv
  unfold atomV polyV at *
  generalize l.length = n at *
  generalize c.xs.length = i1 at *
  generalize c.ys.length = i2 at *
  generalize m.length = o at *
  generalize d.xs.length = i3 at *
  generalize d.ys.length = i4 at *
  have hX := hide ((C7.new (.int .i64 k) (.slice A n kc) (.bool c.s) (.slice c.A i1 c.a) (.slice c.B i2 c.b) (.int .i64 a) (.int .i64 b) 58 w).next (bl_al (.refl _ _) (.cells #[.int .i64 k', .slice B o kd, .bool d.s, .slice d.A i3 d.a, .slice d.B i4 d.b, .int .i64 a', .int .i64 b'] 58)))
  have hY := hide (C7.of (Bk.new1 #[.int .i64 k', .slice B o kd, .bool d.s, .slice d.A i3 d.a, .slice d.B i4 d.b, .int .i64 a', .int .i64 b'] 58 w (.cells #[.int .i64 k, .slice A n kc, .bool c.s, .slice c.A i1 c.a, .slice c.B i2 c.b, .int .i64 a, .int .i64 b] 58)))
  have hb0 := hide (bl_al (bl_al (.refl _ _) (.cells #[.int .i64 k, .slice A n kc, .bool c.s, .slice c.A i1 c.a, .slice c.B i2 c.b, .int .i64 a, .int .i64 b] 58)) (.cells #[.int .i64 k', .slice B o kd, .bool d.s, .slice d.A i3 d.a, .slice d.B i4 d.b, .int .i64 a', .int .i64 b'] 58) : Below w.heap.size w _)
  obtain ⟨x0, x1, x2, x3, x4, x5, x6⟩ := hX.out
  obtain ⟨y0, y1, y2, y3, y4, y5, y6⟩ := hY.out
  clear hX hY
  rcases x with _ | _
  · clear hS e2 e3
    go_enter Tryz.func46, Tryz.ntmps46
    go_wp2_with fail
    go_ret
    exact ⟨rfl, hb0.out⟩
  rcases y with _ | _
  · clear hS e3
    go_enter Tryz.func46, Tryz.ntmps46
    go_wp2_with fail
    go_ret
    exact ⟨rfl, hb0.out⟩
  rcases z with _ | _
  · clear hS
    go_enter Tryz.func46, Tryz.ntmps46
    go_wp2_with fail
    go_ret
    exact ⟨rfl, hb0.out⟩
  · go_enter Tryz.func46, Tryz.ntmps46
    go_wp2_with (first
      | (go_at_call 23; (with_reducible refine (hS.out _ hb0.out).mono ?_); rintro e w2 ⟨rfl, hb2⟩; replace hb2 := hide (bl_trans hb0.out hb2))
      | fail)
    go_ret
    exact ⟨rfl, hb2.out⟩
theorem vaB_sum (k : Int) (l : List Pt) (c : Pt) (a b : Int) : (vaB k l c a b && !decide (3 < k)) = (sumK k && avB k l c a b) := by
  unfold vaB sumK
  by_cases h3 : k = 1 ∨ k = 2 ∨ k = 3
  · rw [if_neg (by omega), if_neg (by omega), if_pos h3, decide_eq_true h3, decide_eq_false (by omega)]
    simp
  · rw [decide_eq_false h3]
    by_cases h5 : k = 5
    · rw [decide_eq_true (by omega : 3 < k)]; simp
    · by_cases h6 : k = 6
      · rw [decide_eq_true (by omega : 3 < k)]; simp
      · rw [if_neg h5, if_neg h6, if_neg h3]; rfl
set_option maxHeartbeats 8000000 in
theorem rtrivial_any (k : Int) (A : Option Addr) (l : List Pt) (kc : Nat) (c : Pt) (a b : Int) (w : World) (hl : Pl w A l) (hc : c.At w) (fl : ∀ p ∈ l, p.Few) (fcap : ∀ p ∈ l, p.Cap) (fc : c.Few) (hn : l.length ≤ 1000) (t : Bool) (ht : (sumK k && decide (l.length = 0) && avB k l c a b) = t) :
    Calls Tryz.prog 39 #[atomV k A l.length kc c a b] w fun e w' => e = .returned (.tuple #[.bool (t && stB k c.q), .bool t]) ∧ Below w.heap.size w w' := by
  obtain ⟨v, hv⟩ : ∃ v, vaB k l c a b = v := ⟨_, rfl⟩
  obtain ⟨g, hg⟩ : ∃ g, decide (3 < k) = g := ⟨_, rfl⟩
  obtain ⟨z, hz⟩ : ∃ z, decide (l.length = 0) = z := ⟨_, rfl⟩
  have hV := hide (fun W (bl : Below w.heap.size w W) => rvalida_any k A l kc c a b W (hl.next bl) (hc.next bl) fl fcap fc hn v hv)
  have hS := hide (fun (h1 : v = true) (h2 : g = false) W (bl : Below w.heap.size w W) => rsays_p k (ok_of fc (by
    have := vaB_sum k l c a b
    rw [hv, hg, h1, h2] at this
    have := this.symm
    rw [show (true && !false) = true from rfl, Bool.and_eq_true] at this
    exact (avB_ok this.2).2.2.2.1)) W (hc.next bl))
  have e1 := gtr_b 3 k 3 g hg
  have e2 := gtr_b 3 (l.length : Int) 0 (!z) (by rw [← hz]; by_cases h : l.length = 0 <;> simp [h]; omega)
  have ht' : (v && !g && z) = t := by
    rw [← ht, ← hv, ← hg, ← hz, vaB_sum]
    cases sumK k <;> cases avB k l c a b <;> simp
  subst ht'
  clear hl hc fl fcap fc hn hv hg hz ht
  unfold atomV rv at *
  generalize c.q = q at *
  generalize l.length = n at *
  generalize c.xs.length = i1 at *
  generalize c.ys.length = i2 at *
  have hX := hide (C7.new (.int .i64 k) (.slice A n kc) (.bool c.s) (.slice c.A i1 c.a) (.slice c.B i2 c.b) (.int .i64 a) (.int .i64 b) 58 w)
  have hb0 := hide (bl_al (.refl _ _) (.cells #[.int .i64 k, .slice A n kc, .bool c.s, .slice c.A i1 c.a, .slice c.B i2 c.b, .int .i64 a, .int .i64 b] 58) : Below w.heap.size w _)
  obtain ⟨x0, x1, x2, x3, x4, x5, x6⟩ := hX.out
  rcases v with _ | _
  · clear hS e1 e2
    go_enter Tryz.func39, Tryz.ntmps39
    go_wp2_with (first
      | (go_at_call 45; (with_reducible refine (hV.out _ hb0.out).mono ?_); rintro e w2 ⟨rfl, hb2⟩; clear x0 x1 x2 x3 x4 x5 x6; have hX2 := hide (hX.out.next hb2); obtain ⟨x0, x1, x2, x3, x4, x5, x6⟩ := hX2.out; replace hb2 := hide (bl_trans hb0.out hb2))
      | fail)
    go_ret2
    exact ⟨rfl, hb2.out⟩
  rcases g with _ | _
  · have hS1 := hide (hS.out rfl rfl)
    clear hS
    rcases z with _ | _
    · clear hS1
      go_enter Tryz.func39, Tryz.ntmps39
      go_wp2_with (first
      | (go_at_call 45; (with_reducible refine (hV.out _ hb0.out).mono ?_); rintro e w2 ⟨rfl, hb2⟩; clear x0 x1 x2 x3 x4 x5 x6; have hX2 := hide (hX.out.next hb2); obtain ⟨x0, x1, x2, x3, x4, x5, x6⟩ := hX2.out; replace hb2 := hide (bl_trans hb0.out hb2))
        | fail)
      go_ret2
      exact ⟨rfl, hb2.out⟩
    · go_enter Tryz.func39, Tryz.ntmps39
      go_wp2_with (first
        | (go_at_call 45; (with_reducible refine (hV.out _ hb0.out).mono ?_); rintro e w2 ⟨rfl, hb2⟩; clear x0 x1 x2 x3 x4 x5 x6; have hX2 := hide (hX.out.next hb2); obtain ⟨x0, x1, x2, x3, x4, x5, x6⟩ := hX2.out; replace hb2 := hide (bl_trans hb0.out hb2))
        | (go_at_call 90; (with_reducible refine (hS1.out _ hb2.out).mono ?_); rintro e w3 ⟨rfl, hb3⟩; replace hb3 := hide (bl_trans hb2.out hb3))
        | fail)
      go_ret2
      exact ⟨rfl, hb3.out⟩
  · clear hS e2
    go_enter Tryz.func39, Tryz.ntmps39
    go_wp2_with (first
      | (go_at_call 45; (with_reducible refine (hV.out _ hb0.out).mono ?_); rintro e w2 ⟨rfl, hb2⟩; clear x0 x1 x2 x3 x4 x5 x6; have hX2 := hide (hX.out.next hb2); obtain ⟨x0, x1, x2, x3, x4, x5, x6⟩ := hX2.out; replace hb2 := hide (bl_trans hb0.out hb2))
      | fail)
    go_ret2
    exact ⟨rfl, hb2.out⟩
set_option maxHeartbeats 8000000 in
theorem rholds_no (k : Int) (A B : Option Addr) (l : List Pt) (kc nb kb : Nat) (c : Pt) (a b : Int) (w : World) (hl : Pl w A l) (hc : c.At w) (fl : ∀ p ∈ l, p.Few) (fcap : ∀ p ∈ l, p.Cap) (fc : c.Few) (hn : l.length ≤ 1000) (ht : (sumK k && avB k l c a b) = false) :
    Calls Tryz.prog 43 #[atomV k A l.length kc c a b, .slice B nb kb] w fun e w' => e = .returned (.tuple #[.bool false, .int .i64 1]) ∧ Below w.heap.size w w' := by
  obtain ⟨v, hv⟩ : ∃ v, vaB k l c a b = v := ⟨_, rfl⟩
  obtain ⟨g, hg⟩ : ∃ g, decide (3 < k) = g := ⟨_, rfl⟩
  have hV := hide (fun W (bl : Below w.heap.size w W) => rvalida_any k A l kc c a b W (hl.next bl) (hc.next bl) fl fcap fc hn v hv)
  have e1 := gtr_b 3 k 3 g hg
  rw [← vaB_sum, hv, hg] at ht
  clear hl hc fl fcap fc hn hv hg
  unfold atomV at *
  generalize l.length = n at *
  generalize c.xs.length = i1 at *
  generalize c.ys.length = i2 at *
  have hX := hide (C7.new (.int .i64 k) (.slice A n kc) (.bool c.s) (.slice c.A i1 c.a) (.slice c.B i2 c.b) (.int .i64 a) (.int .i64 b) 58 w)
  have hb0 := hide (bl_al (.refl _ _) (.cells #[.int .i64 k, .slice A n kc, .bool c.s, .slice c.A i1 c.a, .slice c.B i2 c.b, .int .i64 a, .int .i64 b] 58) : Below w.heap.size w _)
  obtain ⟨x0, x1, x2, x3, x4, x5, x6⟩ := hX.out
  rcases v with _ | _
  · clear e1 ht
    go_enter Tryz.func43, Tryz.ntmps43
    go_wp2_with (first
      | (go_at_call 45; (with_reducible refine (hV.out _ hb0.out).mono ?_); rintro e w2 ⟨rfl, hb2⟩; clear x0 x1 x2 x3 x4 x5 x6; have hX2 := hide (hX.out.next hb2); obtain ⟨x0, x1, x2, x3, x4, x5, x6⟩ := hX2.out; replace hb2 := hide (bl_trans hb0.out hb2))
      | fail)
    go_ret2
    exact ⟨rfl, hb2.out⟩
  · obtain rfl : g = true := by simpa using ht
    clear ht
    go_enter Tryz.func43, Tryz.ntmps43
    go_wp2_with (first
      | (go_at_call 45; (with_reducible refine (hV.out _ hb0.out).mono ?_); rintro e w2 ⟨rfl, hb2⟩; clear x0 x1 x2 x3 x4 x5 x6; have hX2 := hide (hX.out.next hb2); obtain ⟨x0, x1, x2, x3, x4, x5, x6⟩ := hX2.out; replace hb2 := hide (bl_trans hb0.out hb2))
      | fail)
    go_ret2
    exact ⟨rfl, hb2.out⟩
set_option maxHeartbeats 8000000 in
theorem rholds_ok (k : Int) (A B : Option Addr) (l lb : List Pt) (kc kb : Nat) (c : Pt) (w : World) (hl : Pl w A l) (hc : c.At w) (fl : ∀ p ∈ l, p.Ok) (fcap : ∀ p ∈ l, p.Cap) (fc : c.Ok) (hn : l.length ≤ 1000) (hk : sumK k = true) (hv : avB k l c 0 0 = true) (hbl : Bl w B lb) (fb : ∀ p ∈ lb, p.Few) (hnb : lb.length ≤ 1000)
    (hfit : ∀ p ∈ l, oOk (lookT lb) p.t = true → fitB (p.q * oq (lookT lb) p.t) = true) :
    Calls Tryz.prog 43 #[atomV k A l.length kc c 0 0, .slice B lb.length kb] w (HoR w k (lookT lb) (l.map Pt.qt) c.q) := by
  have hvs := vaB_sum k l c 0 0
  rw [hk, hv, show (true && true) = true from rfl, Bool.and_eq_true] at hvs
  have e1 := gtr_b 3 k 3 false (by simpa using hvs.2)
  have hV := hide (fun W (bl : Below w.heap.size w W) => rvalida_any k A l kc c 0 0 W (hl.next bl) (hc.next bl) (fun p hp => (fl p hp).few) fcap fc.few hn true hvs.1)
  have hL := hide (fun W (bl : Below w.heap.size w W) => (rvalue_ok A B l lb kc kb c W (hl.next bl) (hc.next bl) fl fc (avB_ok hv).2.2.1 hn (hbl.next bl) fb hnb hfit).mono fun e w' h => h.cases)
  have hS := hide (fun (r : Pt) (ok : r.Ok) W (a : r.At W) => rsays_p k ok W a)
  clear hl hc fl fcap fc hn hv hk hvs hbl fb hnb hfit
  unfold atomV polyV HoR at *
  generalize lb.length = nb at *
  generalize lookT lb = o at *
  generalize l.length = n at *
  generalize c.xs.length = i1 at *
  generalize c.ys.length = i2 at *
  generalize l.map Pt.qt = L at *
  generalize c.q = q at *
  have hX := hide (C7.new (.int .i64 k) (.slice A n kc) (.bool c.s) (.slice c.A i1 c.a) (.slice c.B i2 c.b) (.int .i64 0) (.int .i64 0) 58 w)
  have hb0 := hide (bl_al (.refl _ _) (.cells #[.int .i64 k, .slice A n kc, .bool c.s, .slice c.A i1 c.a, .slice c.B i2 c.b, .int .i64 0, .int .i64 0] 58) : Below w.heap.size w _)
  obtain ⟨x0, x1, x2, x3, x4, x5, x6⟩ := hX.out
  go_enter Tryz.func43, Tryz.ntmps43
  go_wp2_with (first
    | (go_at_call 45; (with_reducible refine (hV.out _ hb0.out).mono ?_); rintro e w2 ⟨rfl, hb2⟩; clear x0 x1 x2 x3 x4 x5 x6; have hX2 := hide (hX.out.next hb2); obtain ⟨x0, x1, x2, x3, x4, x5, x6⟩ := hX2.out; replace hb2 := hide (bl_trans hb0.out hb2))
    | (go_at_call 22; (with_reducible refine (hL.out _ hb2.out).mono ?_); rintro e w3 (⟨r, rfl, ha, hvv, hok, hat, hb3⟩ | ⟨rfl, ha, hvv, hb3⟩ | ⟨rfl, ha, hb3⟩)
        <;> first
          | (refine only hok ?_; have RV := hide (rb_new (q := r.q) rfl hok hat); have g := bl_al hb3 (.cells #[.bool r.s, .slice r.A r.xs.length r.a, .slice r.B r.ys.length r.b] 25); clear x0 x1 x2 x3 x4 x5 x6; obtain ⟨x0, x1, x2, x3, x4, x5, x6⟩ := hX2.out.next g; obtain ⟨y0, y1, y2⟩ := C3.of (Bk.new #[.bool r.s, .slice r.A r.xs.length r.a, .slice r.B r.ys.length r.b] 25 w3); have hSr := hide (hS.out r hok _ (hat.next (ka0' w3 (.cells #[.bool r.s, .slice r.A r.xs.length r.a, .slice r.B r.ys.length r.b] 25)))); unfold rv at hSr; replace g := hide (bl_trans hb2.out g); replace hvv := hide hvv; replace ha := hide ha; clear hb3)
          | (refine only hvv ?_; have g := hide (bl_trans hb2.out (bl_al hb3 (.cells #[.bool false, .slice none 0 0, .slice none 0 0] 25))); replace hvv := hide hvv; replace ha := hide ha; clear hb3)
          | (have g := hide (bl_trans hb2.out (bl_al hb3 (.cells #[.bool false, .slice none 0 0, .slice none 0 0] 25))); replace ha := hide ha; clear hb3)
          | fail)
    | (go_at_call 90; (with_reducible refine (hSr.out).mono ?_); rintro e w4 ⟨rfl, hb4⟩; replace hb4 := hide (bl_trans g.out hb4))
    | fail)
  all_goals
    first
      | (refine only hb4 ?_; go_ret2; exact ⟨hb4.out, .inl ⟨ha.out, _, hvv.out, rfl⟩⟩)
      | (refine only hvv ?_; go_ret2; exact ⟨g.out, .inr (.inl ⟨ha.out, hvv.out, rfl⟩)⟩)
      | (go_ret2; exact ⟨g.out, .inr (.inr ⟨ha.out, rfl⟩)⟩)
      | fail
end Nt

end Go.Proofs.YtgimmmmpollkhaaGreat

namespace Go.Proofs.YtgimmmmpollkhaaGreat

open Go.ChangeShapes Go.RowKit

namespace Nt
set_option maxRecDepth 100000
set_option linter.unusedSimpArgs false
set_option linter.unusedVariables false

theorem rof_sg (q : Rat) (w : World) : Calls Tryz.prog 31 #[.int .i64 (cmpZ q.num 0), .int .i64 1] w (NewR ((cmpZ q.num 0 : Int) : Rat) w) := by
  rcases cmpZ_cases q.num with h | h | h <;> rw [h]
  · exact rof_p (-1) 1 ((-1 : Int) : Rat) w (by decide) (by decide) (by decide) (by decide) (by decide) (by first | rfl | decide +kernel) (fit_lit (by decide +kernel) (by decide +kernel))
  · exact rof_p 0 1 ((0 : Int) : Rat) w (by decide) (by decide) (by decide) (by decide) (by decide) (by first | rfl | decide +kernel) (fit_lit (by decide +kernel) (by decide +kernel))
  · exact rof_p 1 1 ((1 : Int) : Rat) w (by decide) (by decide) (by decide) (by decide) (by decide) (by first | rfl | decide +kernel) (fit_lit (by decide +kernel) (by decide +kernel))
theorem kz_no (kk : Int) : ∀ v ∈ (#[.int .i64 kk, .slice none 0 0, .bool false, .slice none 0 0, .slice none 0 0, .int .i64 0, .int .i64 0] : Array Value).toList, noU v = true := by
  intro v hv
  simp at hv
  rcases hv with rfl | rfl | rfl | rfl | rfl <;> rfl
theorem kz_s (kk : Int) : ∀ v ∈ (#[.int .i64 kk, .slice none 0 0, .bool false, .slice none 0 0, .slice none 0 0, .int .i64 0, .int .i64 0] : Array Value).toList, slice0 v = true := by
  intro v hv
  simp at hv
  rcases hv with rfl | rfl | rfl | rfl | rfl <;> rfl
theorem kz_put {g : Nat} {W : World} {kk : Int} (h : Bk g #[.int .i64 kk, .slice none 0 0, .bool false, .slice none 0 0, .slice none 0 0, .int .i64 0, .int .i64 0] 58 W) (A : Option Addr) (n k : Nat) (c : Pt) : Bk g #[.int .i64 kk, .slice A n k, .bool c.s, .slice c.A c.xs.length c.a, .slice c.B c.ys.length c.b, .int .i64 0, .int .i64 0] 58 ((((W.setCell ⟨g, 1, none⟩ (.slice A n k)).setCell ⟨g, 2, none⟩ (.bool c.s)).setCell ⟨g, 3, none⟩ (.slice c.A c.xs.length c.a)).setCell ⟨g, 4, none⟩ (.slice c.B c.ys.length c.b)) ∧ Off [g] W ((((W.setCell ⟨g, 1, none⟩ (.slice A n k)).setCell ⟨g, 2, none⟩ (.bool c.s)).setCell ⟨g, 3, none⟩ (.slice c.A c.xs.length c.a)).setCell ⟨g, 4, none⟩ (.slice c.B c.ys.length c.b)) :=
  ⟨(((h.set (j := 1) (.slice A n k) rfl).set (j := 2) (.bool c.s) rfl).set (j := 3) (.slice c.A c.xs.length c.a) rfl).set (j := 4) (.slice c.B c.ys.length c.b) rfl, ((((Off.refl _ _).setCell _ _ (.inl (by simp))).setCell _ _ (.inl (by simp))).setCell _ _ (.inl (by simp))).setCell _ _ (.inl (by simp))⟩
set_option maxHeartbeats 8000000 in
theorem rmake_nil (kk : Int) (hkk : kk = 1 ∨ kk = 2) (A : Option Addr) (kc : Nat) (c : Pt) (w : World) (hc : c.At w) (fc : c.Ok) :
    Calls Tryz.prog 87 #[.int .i64 kk, polyV A 0 kc c] w (AtR w kk false [] ((cmpZ c.q.num 0 : Int) : Rat)) := by
  have HV := hide (fun W (b : Below w.heap.size w W) => (show Calls Tryz.prog 26 #[polyV A 0 kc c] W (fun e w' => e = .returned (.bool true) ∧ Below W.heap.size W w') from rvalidP_any A [] kc c W (.inl rfl) (hc.next b) (fun p hp => by cases hp) fc.few (Nat.zero_le _) true (by rw [fc.valid]; rfl)))
  have SG := hide (fun W (b : Below w.heap.size w W) => rsign_p fc W (hc.next b))
  have OF := hide (fun W => rof_sg c.q W)
  have hst := hide (fun W (b : Below (Ew w c A 0 kc).heap.size (Ew w c A 0 kc) W) => Ew.start w c A 0 kc b)
  have hb0 : Below w.heap.size w (Ew w c A 0 kc) := bl_al (bl_al (.refl _ _) _) _
  have hbz := hide (hst.out _ (Below.refl _ _))
  obtain ⟨z, hz⟩ : ∃ z, cmpZ c.q.num 0 = z := ⟨_, rfl⟩
  rw [hz] at SG OF ⊢
  clear hc fc hz
  unfold polyV rv at *
  unfold Ew zA at hb0 hst hbz
  replace hb0 := hide hb0
  have hsz : w.heap.size + 2 = ((w.alloc (.cells #[.slice A 0 kc, .bool c.s, .slice c.A c.xs.length c.a, .slice c.B c.ys.length c.b] 27)).alloc (.cells #[.int .i64 0, .slice none 0 0, .bool false, .slice none 0 0, .slice none 0 0, .int .i64 0, .int .i64 0] 58)).heap.size := by simp
  replace hsz := hide hsz
  obtain ⟨⟨x0, x1, x2, x3⟩, _, _⟩ := hbz.out
  clear hbz
  have eK1 := lss_b 3 kk 1 false (decide_eq_false (by omega))
  have eK2 := gtr_b 3 kk 4 false (decide_eq_false (by omega))
  have eK3 := eql_b 3 kk 4 false (decide_eq_false (by omega))
  have eK4 := neq_b 3 kk 3 true (decide_eq_true (by omega))
  clear hkk
  · go_enter Tryz.func87, Tryz.ntmps87
    go_upto_region 7 with (first
      | (go_at_call 26; (with_reducible refine (HV.out _ hb0.out).mono ?_); rintro e w2 ⟨rfl, hb2⟩; clear x0 x1 x2 x3; have H2 := hide (hst.out w2 hb2); obtain ⟨⟨x0, x1, x2, x3⟩, _, _⟩ := H2.out; have hg2 := hide (Nat.le_trans (Nat.le_of_eq hsz.out) hb2.size); clear hb2)
      | fail)
    clear x0 x1 x2 x3 hst
    have KA2 := hide (Bk.new #[.int .i64 kk, .slice none 0 0, .bool false, .slice none 0 0, .slice none 0 0, .int .i64 0, .int .i64 0] 58 w2)
    have H3 := hide (And.intro (H2.out.1.next (bl_al (.refl _ _) (.cells #[.int .i64 kk, .slice none 0 0, .bool false, .slice none 0 0, .slice none 0 0, .int .i64 0, .int .i64 0] 58))) (And.intro (H2.out.2.1.al (.cells #[.int .i64 kk, .slice none 0 0, .bool false, .slice none 0 0, .slice none 0 0, .int .i64 0, .int .i64 0] 58)) (bl_al H2.out.2.2 (.cells #[.int .i64 kk, .slice none 0 0, .bool false, .slice none 0 0, .slice none 0 0, .int .i64 0, .int .i64 0] 58))))
    clear H2
    generalize w2.heap.size = ga at *
    generalize w2.alloc _ = wy at *
    obtain ⟨⟨x0, x1, x2, x3⟩, _, _⟩ := H3.out
    go_upto_region 9 with (first
      | (go_at_call 32; (with_reducible refine (SG.out _ H3.out.2.2).mono ?_); rintro e w3 ⟨rfl, hb3⟩; have g3 := hide hb3; have KA3 := hide (KA2.out.next hb3); clear hb3 x0 x1 x2 x3)
      | (go_at_call 31; (with_reducible refine (OF.out _).mono ?_); rintro e w4 ⟨r, rfl, rq, rk, ra, hb4⟩; have g4 := hide (bl_trans g3.out hb4); have KA4 := hide (KA3.out.next hb4); have v1 := KA4.out.cell (j := 1) rfl; have v2 := KA4.out.cell (j := 2) rfl; have v3 := KA4.out.cell (j := 3) rfl; have v4 := KA4.out.cell (j := 4) rfl; have u1 := KA4.out.free 1; have u2 := KA4.out.free 2; have u3 := KA4.out.free 3; have u4 := KA4.out.free 4; replace rq := hide rq; replace rk := hide rk; replace ra := hide ra; clear hb4 KA3 g3)
      | fail)
    have KP := kz_put KA4.out none 0 0 r
    have R4 := (H3.out.2.1.next g4.out).off KP.2 (fun hm => by simp at hm; have := hg2.out; omega)
    have b4 := bl_trans H3.out.2.2 g4.out
    have b5 := b4.trans (KP.2.below b4.size (fun b hb => by simp at hb; have := hg2.out; omega))
    have ra5 : r.At _ := ⟨KA4.out.sl (kz_no _) ra.out.1 KP.2, KA4.out.sl (kz_no _) ra.out.2 KP.2⟩
    have KP1 := KP.1
    clear v1 v2 v3 v4 u1 u2 u3 u4 KP KA4 g4 b4
    replace R4 := hide R4; replace b5 := hide b5; replace ra5 := hide ra5
    generalize ((((w4.setCell ⟨ga, 1, none⟩ (.slice none 0 0)).setCell ⟨ga, 2, none⟩ (.bool r.s)).setCell ⟨ga, 3, none⟩ (.slice r.A r.xs.length r.a)).setCell ⟨ga, 4, none⟩ (.slice r.B r.ys.length r.b)) = wv at *
    have v0 := KP1.cell (j := 0) rfl; have v1 := KP1.cell (j := 1) rfl; have v2 := KP1.cell (j := 2) rfl; have v3 := KP1.cell (j := 3) rfl; have v4 := KP1.cell (j := 4) rfl; have v5 := KP1.cell (j := 5) rfl; have v6 := KP1.cell (j := 6) rfl
    clear KP1
    have RF := R4.out
    have r0 := RF.cell (j := 0) rfl; have r1 := RF.cell (j := 1) rfl; have r2 := RF.cell (j := 2) rfl; have r3 := RF.cell (j := 3) rfl; have r4 := RF.cell (j := 4) rfl; have r5 := RF.cell (j := 5) rfl; have r6 := RF.cell (j := 6) rfl
    have s0 := RF.free 0; have s1 := RF.free 1; have s2 := RF.free 2; have s3 := RF.free 3; have s4 := RF.free 4; have s5 := RF.free 5; have s6 := RF.free 6
    clear RF
    go_wp2_with fail
    exact bodyPost_ret (v := .tuple #[.agg #[.int .i64 kk, .slice none 0 0, .bool r.s, .slice r.A r.xs.length r.a, .slice r.B r.ys.length r.b, .int .i64 0, .int .i64 0], .bool false, .int .i64 0]) (by simp [results, Tryz.results87, go_sem, r0, r1, r2, r3, r4, r5, r6]) rfl (at_done (l := []) b5.out R4.out rfl rq.out (.inl rfl) ra5.out (fun p hp => by cases hp) rk.out (Nat.le_refl _) (Nat.zero_le _))
theorem box_noU' (p : Pt) : ∀ v ∈ (#[.bool p.s, .slice p.A p.xs.length p.a, .slice p.B p.ys.length p.b] : Array Value).toList, noU v = true := by
  intro v hv
  simp at hv
  rcases hv with rfl | rfl | rfl <;> rfl
theorem at_offB {g : Nat} {cur : Array Value} {t : TypeId} {W W' : World} {r : Pt} (h : Bk g cur t W) (hno : ∀ v ∈ cur.toList, noU v = true) (a : r.At W) (hO : Off [g] W W') : r.At W' := ⟨h.sl hno a.1 hO, h.sl hno a.2 hO⟩
theorem absq_inv {x : Rat} (h : x ≠ 0) : absq (1 / x) = 1 / absq x := by
  have h1 : x * (1 / x) = 1 := by rw [Rat.div_def, Rat.one_mul, Rat.mul_inv_cancel x h]
  have h2 := absq_mul (x := x) (k := 1 / x) (by rw [h1]; decide)
  rw [h1, absq_1] at h2
  have h3 : absq x ≠ 0 := absq_ne h
  have h4 := Rat.mul_inv_cancel (absq x) h3
  rw [show 1 / absq x = (absq x)⁻¹ by rw [Rat.div_def, Rat.one_mul]]
  calc absq (1 / x) = (absq x)⁻¹ * (absq x * absq (1 / x)) := by rw [← Rat.mul_assoc, Rat.mul_comm _ (absq x), h4, Rat.one_mul]
    _ = (absq x)⁻¹ := by rw [← h2, Rat.mul_one]
set_option maxHeartbeats 16000000 in
theorem rmake_cons (kk : Int) (hkk : kk = 1 ∨ kk = 2) (A : Option Addr) (l : List Pt) (kc : Nat) (c : Pt) (w : World) (hl : Pl w A l) (ok : ∀ p ∈ l, p.Ok) (cap : ∀ p ∈ l, p.Cap) (hc : c.At w) (fc : c.Ok) (hv : pvB (-1) l = true) (hn : l.length ≤ 1000) (hpos : 0 < l.length) (hf : fmB kk c.q (l.map Pt.qt) = true) :
    Calls Tryz.prog 87 #[.int .i64 kk, polyV A l.length kc c] w (AtR w kk false (fmL kk (l.map Pt.qt)) (fmQ kk c.q (l.map Pt.qt))) := by
  have h0 : l[0].q ≠ 0 := rvB_ne ((pvB_rvB ok (-1)).1 hv) (x := l[0].qt) (List.mem_map_of_mem (List.getElem_mem hpos))
  have hform : l.map Pt.qt = l[0].qt :: (l.drop 1).map Pt.qt := by
    rw [← List.map_cons, ← List.drop_eq_getElem_cons hpos]; rfl
  have pok := ok l[0] (List.getElem_mem hpos)
  have pcap := cap l[0] (List.getElem_mem hpos)
  have hfb : fby kk l[0].q = (1 : Rat) / absq l[0].q := by
    unfold fby
    rw [if_neg (by omega), absq_inv h0]
  have hL : fmL kk (l.map Pt.qt) = scq' ((1 : Rat) / absq l[0].q) (l.map Pt.qt) := by
    rw [← hfb, hform]; rfl
  have hQ' : fmQ kk c.q (l.map Pt.qt) = c.q * ((1 : Rat) / absq l[0].q) := by
    rw [← hfb, hform]; rfl
  have hS : scB ((1 : Rat) / absq l[0].q) l c = true := by
    rw [scB_q, ← hfb, ← hf, hform]; rfl
  have ha0 : absq l[0].q ≠ 0 := absq_ne h0
  have haf : fitq (absq l[0].q) := fit_abs pok.f
  rw [hL, hQ']
  have HV := hide (fun W (b : Below w.heap.size w W) => rvalidP_any A l kc c W (hl.next b) (hc.next b) (fun p hp => (ok p hp).few) fc.few hn true (by rw [hv, fc.valid]; rfl))
  have SC := hide (fun (t : Pt) (h1 : t.q = (1 : Rat) / absq l[0].q) (h2 : t.Ok) W (at_ : t.At W) (b : Below w.heap.size w W) => (show Calls Tryz.prog 15 #[polyV A l.length kc c, rv t] W (PR W (scq' ((1 : Rat) / absq l[0].q) (l.map Pt.qt)) (c.q * ((1 : Rat) / absq l[0].q))) from by
    have := (rscale_c A l kc c t W (hl.next b) ok hv (hc.next b) fc at_ h2 hn (by rw [h1]; exact hS) (by rw [h1]; exact one_div_ne ha0)).mono fun e w' H => H.pr
    rw [scaleL_q, h1] at this
    exact this))
  have QU := hide (fun (r1 r : Pt) (e1 : r1.q = 1) (k1 : r1.Ok) (e2 : r.q = absq l[0].q) (k2 : r.Ok) W (a1 : r1.At W) (a2 : r.At W) => (show Calls Tryz.prog 64 #[rv r1, rv r] W (NewQ ((1 : Rat) / absq l[0].q) r1.t W) from by
    have := rquo_p k1 k2 W a1 a2 (by rw [e2]; exact ha0) (by rw [e1, e2]; exact fit_1div haf ha0)
    rw [e1, e2] at this
    exact this))
  have hO := hide (fun W => rof_p 1 1 1 W (by decide) (by decide) (by decide) (by decide) (by decide) (by first | rfl | decide +kernel) fit_1)
  obtain ⟨g1, o1, rfl, hcel, hat⟩ := hl.get hpos
  rw [Nat.zero_mul, Nat.add_zero] at hcel
  have hab : absq l[0].q = if l[0].s = true then -l[0].q else l[0].q := by
    unfold absq
    rw [pok.s]
  have NG := hide (fun W (b : Below w.heap.size w W) => rneg_v pok pcap.1 pcap.2 W (hat.next b))
  generalize l[0] = p at *
  generalize scq' (1 / absq p.q) (l.map Pt.qt) = L2 at *
  generalize c.q * (1 / absq p.q) = q2 at *
  have hcc := hide (fun W (b : Below w.heap.size w W) => And.intro (hcel.next b) (hat.next b))
  have hst := hide (fun W (b : Below (Ew w c (some ⟨g1, o1, none⟩) l.length kc).heap.size (Ew w c (some ⟨g1, o1, none⟩) l.length kc) W) => Ew.start w c (some ⟨g1, o1, none⟩) l.length kc b)
  have hb0 : Below w.heap.size w (Ew w c (some ⟨g1, o1, none⟩) l.length kc) := bl_al (bl_al (.refl _ _) _) _
  have hbz := hide (hst.out _ (Below.refl _ _))
  have hlt : (0 : Int) < (l.length : Int) := by omega
  have hne := eql_b 3 (l.length : Int) 0 false (decide_eq_false (by omega))
  clear hl hc fc hv hn hpos ok cap hf h0 hform pcap hfb hL hQ' hS ha0 haf hat hcel
  replace pok := hide pok
  obtain ⟨n, hnn⟩ : ∃ n, n = l.length := ⟨_, rfl⟩
  unfold polyV rv at *
  rw [← hnn] at HV SC hst hb0 hbz hlt hne ⊢
  clear hnn
  unfold Ew zA at hb0 hst hbz
  replace hb0 := hide hb0
  have hsz : w.heap.size + 2 = ((w.alloc (.cells #[.slice (some ⟨g1, o1, none⟩) n kc, .bool c.s, .slice c.A c.xs.length c.a, .slice c.B c.ys.length c.b] 27)).alloc (.cells #[.int .i64 0, .slice none 0 0, .bool false, .slice none 0 0, .slice none 0 0, .int .i64 0, .int .i64 0] 58)).heap.size := by simp
  replace hsz := hide hsz
  obtain ⟨⟨x0, x1, x2, x3⟩, _, _⟩ := hbz.out
  clear hbz
  obtain ⟨s, hs⟩ : ∃ s, p.s = s := ⟨_, rfl⟩
  replace hs := hide hs
  replace hab := hide hab
  have eK1 := lss_b 3 kk 1 false (decide_eq_false (by omega))
  have eK2 := gtr_b 3 kk 4 false (decide_eq_false (by omega))
  have eK3 := eql_b 3 kk 4 false (decide_eq_false (by omega))
  have eK4 := neq_b 3 kk 3 true (decide_eq_true (by omega))
  clear hkk
  · go_enter Tryz.func87, Tryz.ntmps87
    go_upto_region 7 with (first
      | (go_at_call 26; (with_reducible refine (HV.out _ hb0.out).mono ?_); rintro e w2 ⟨rfl, hb2⟩; clear x0 x1 x2 x3; have H2 := hide (hst.out w2 hb2); obtain ⟨⟨x0, x1, x2, x3⟩, _, _⟩ := H2.out; have hg2 := hide (Nat.le_trans (Nat.le_of_eq hsz.out) hb2.size); clear hb2)
      | fail)
    clear x0 x1 x2 x3 hst hsz
    have KA2 := hide (Bk.new #[.int .i64 kk, .slice none 0 0, .bool false, .slice none 0 0, .slice none 0 0, .int .i64 0, .int .i64 0] 58 w2)
    have H3 := hide (And.intro (H2.out.1.next (bl_al (.refl _ _) (.cells #[.int .i64 kk, .slice none 0 0, .bool false, .slice none 0 0, .slice none 0 0, .int .i64 0, .int .i64 0] 58))) (And.intro (H2.out.2.1.al (.cells #[.int .i64 kk, .slice none 0 0, .bool false, .slice none 0 0, .slice none 0 0, .int .i64 0, .int .i64 0] 58)) (bl_al H2.out.2.2 (.cells #[.int .i64 kk, .slice none 0 0, .bool false, .slice none 0 0, .slice none 0 0, .int .i64 0, .int .i64 0] 58))))
    have hga : Hid (∀ W, Below (w2.alloc (.cells #[.int .i64 kk, .slice none 0 0, .bool false, .slice none 0 0, .slice none 0 0, .int .i64 0, .int .i64 0] 58)).heap.size (w2.alloc (.cells #[.int .i64 kk, .slice none 0 0, .bool false, .slice none 0 0, .slice none 0 0, .int .i64 0, .int .i64 0] 58)) W → w2.heap.size < W.heap.size) := hide (fun W b => by have := b.size; simp at this; omega)
    clear H2
    generalize w2.heap.size = ga at *
    generalize w2.alloc _ = wy at *
    have hgy := hide (hga.out _ (.refl _ _))
    clear hga
    obtain ⟨⟨x0, x1, x2, x3⟩, _, _⟩ := H3.out
    obtain ⟨⟨c0, c1, c2, c3⟩, hpat⟩ := hcc.out _ H3.out.2.2
    replace hpat := hide hpat
    go_upto_region 11 with fail
    clear x0 x1 x2 x3 c0 c1 c2 c3
    have KA3 := hide (KA2.out.al (.cells #[.bool p.s, .slice p.A p.xs.length p.a, .slice p.B p.ys.length p.b] 25))
    have BC3 := hide (Bk.new #[.bool p.s, .slice p.A p.xs.length p.a, .slice p.B p.ys.length p.b] 25 wy)
    have H4 := hide (And.intro (H3.out.1.next (bl_al (.refl _ _) (.cells #[.bool p.s, .slice p.A p.xs.length p.a, .slice p.B p.ys.length p.b] 25))) (And.intro (H3.out.2.1.al (.cells #[.bool p.s, .slice p.A p.xs.length p.a, .slice p.B p.ys.length p.b] 25)) (bl_al H3.out.2.2 (.cells #[.bool p.s, .slice p.A p.xs.length p.a, .slice p.B p.ys.length p.b] 25))))
    replace hpat := hide (hpat.out.next (bl_al (.refl _ _) (.cells #[.bool p.s, .slice p.A p.xs.length p.a, .slice p.B p.ys.length p.b] 25)))
    have hgc : Hid (ga < wy.heap.size) := hgy
    clear KA2 H3 hgy
    generalize wy.heap.size = gc at *
    generalize wy.alloc _ = wz at *
    have k0 := KA3.out.cell (j := 0) rfl
    obtain ⟨y0, y1, y2⟩ := C3.of BC3.out
    have hs' := hs.out
    have hab' := hab.out
    rw [hs'] at y0 hab'
    clear hs' hab
    replace hab' := hide hab'
    rcases s with _ | _
    · go_upto_region 13 with fail
      have HR : Hid (∃ r : Pt, r.q = absq p.q ∧ r.Ok ∧ r.At wz ∧ Bk gc #[.bool r.s, .slice r.A r.xs.length r.a, .slice r.B r.ys.length r.b] 25 wz) := hide ⟨p, hab'.out.symm, pok.out, hpat.out, BC3.out⟩
      clear BC3 k0 y0 y1 y2 hpat pok NG hab' hs
      obtain ⟨r, rq, rk, ra, BR⟩ := HR.out
      clear HR
      have S2 := hide (fun W (b : Below wz.heap.size wz W) => (show W.cell? ⟨gc, 0, none⟩ = some (.bool r.s) ∧ W.cell? ⟨gc, 1, none⟩ = some (.slice r.A r.xs.length r.a) ∧ W.cell? ⟨gc, 2, none⟩ = some (.slice r.B r.ys.length r.b) from C3.next (C3.of BR) b))
      have QU2 := hide (fun (r1 : Pt) (e1 : r1.q = 1) (k1 : r1.Ok) W (a1 : r1.At W) (b : Below wz.heap.size wz W) => QU.out r1 r e1 k1 rq rk W a1 (ra.next b))
      clear rq rk ra BR QU
      go_wp2_with fail
      go_cut [10, 11] (fun sa sb wx => ∃ (gb : Nat) (t : Pt), sa = .pointer (some ⟨gb, 0, none⟩) ∧ sb = .int .i64 0 ∧ C3 gb (.bool t.s) (.slice t.A t.xs.length t.a) (.slice t.B t.ys.length t.b) wx ∧ t.q = 1 / absq p.q ∧ t.Ok ∧ t.At wx ∧ Below wz.heap.size wz wx)
      case first =>
        go_region_held3 (fun W => W.cell? ⟨gc, 0, none⟩ = some (.bool r.s) ∧ W.cell? ⟨gc, 1, none⟩ = some (.slice r.A r.xs.length r.a) ∧ W.cell? ⟨gc, 2, none⟩ = some (.slice r.B r.ys.length r.b))
          (first
            | (with_reducible exact S2.out _ (ka0 wz))
            | (with_reducible exact S2.out _ (ka1 wz _))
            | (with_reducible exact S2.out _ bc)
            | (with_reducible exact S2.out _ (bl_al bc _))
            | (with_reducible exact S2.out _ be)
            | (with_reducible exact S2.out _ (bl_al be _))
            | (with_reducible exact S2.out _ (be.trans ((off3 _ _ _ _ _).below be.size (fun b hb => by simp at hb; omega))))
            | fail)
          (first
            | (go_at_call 31; (with_reducible refine (hO.out _).mono ?_); rintro e wa ⟨r1, rfl, q1, k1, a1, hb⟩; have bc : Below wz.heap.size wz wa := (by first | (with_reducible exact bl_trans (ka0 wz) hb) | (with_reducible exact bl_trans (ka1 wz _) hb)); have n1 := bc.size; (first | (have hZ : Hid (Bk wz.heap.size #[.bool false, .slice none 0 0, .slice none 0 0] 25 wa) := by with_reducible exact hide (zd hb)) | skip); replace q1 := hide q1; replace k1 := hide k1; replace a1 := hide a1; clear hb)
            | (go_at_call 64; (with_reducible refine (QU2.out r1 q1.out k1.out _ ?h1 ?h2).mono ?_); (case h1 => first | (with_reducible exact a1.out) | (with_reducible exact a1.out.next (bl_al (.refl _ _) _)) | fail); (case h2 => first | (with_reducible exact bc) | (with_reducible exact bl_al bc _) | fail); rintro e wd ⟨t, rfl, tq, _, tk, ta, hb⟩; have g2 : Below wa.heap.size wa wd := (by first | (with_reducible exact hb) | (with_reducible exact bl_one hb)); have be := bl_trans bc g2; have n3 := be.size; have n4 := g2.size; (first | (have hZ3 := hide (hZ.out.next g2)) | (have hZ3 : Hid (Bk wa.heap.size #[.bool false, .slice none 0 0, .slice none 0 0] 25 wd) := by with_reducible exact hide (z1 hb)) | skip); (first | (have v0 := hZ3.out.cell (j := 0) rfl; have v1 := hZ3.out.cell (j := 1) rfl; have v2 := hZ3.out.cell (j := 2) rfl; have u0 := hZ3.out.free 0; have u1 := hZ3.out.free 1; have u2 := hZ3.out.free 2) | skip); clear hb)
            | fail)
        all_goals
          go_wp2_with fail
          go_meet
          first
            | with_reducible refine ⟨wd.heap.size, t, rfl, rfl, ?_⟩
              exact ⟨C3.of (Bk.new _ _ wd), tq, tk, ta.next (bl_al (.refl _ _) _), bl_al be _⟩
            | with_reducible refine ⟨_, t, rfl, rfl, ?_⟩
              exact ⟨C3.of (((hZ3.out.set (.bool t.s) rfl).set (.slice t.A t.xs.length t.a) rfl).set (.slice t.B t.ys.length t.b) rfl), tq, tk, at_offR hZ3.out ta (off3 _ _ _ _ _), be.trans ((off3 _ _ _ _ _).below be.size (fun b hb => by simp at hb; omega))⟩
            | fail
      case rest =>
        obtain ⟨gb, t, rfl, rfl, T3, tq, tk, ta, bx⟩ := hcut
        have H6 := hide (And.intro (H4.out.1.next bx) (And.intro (H4.out.2.1.next bx) (bl_trans H4.out.2.2 bx)))
        have KA6 := hide (KA3.out.next bx)
        have SC2 := hide (SC.out t tq tk _ ta H6.out.2.2)
        clear S2 QU2 SC H4 KA3 hO bx tq tk ta
        obtain ⟨x0, x1, x2, x3⟩ := H6.out.1
        obtain ⟨y0, y1, y2⟩ := T3
        go_upto_region 16 with (first
          | (go_at_call 15; (with_reducible refine SC2.out.mono ?_); rintro e w6 ⟨A', k', l', c', rfl, m, hq, hP, ha, okk, hck, hb, hy, hx⟩; unfold polyV; have KA7 := KA6.out.next hb; have v1 := KA7.cell (j := 1) rfl; have v2 := KA7.cell (j := 2) rfl; have v3 := KA7.cell (j := 3) rfl; have v4 := KA7.cell (j := 4) rfl; have u1 := KA7.free 1; have u2 := KA7.free 2; have u3 := KA7.free 3; have u4 := KA7.free 4; replace KA7 := hide KA7; have R7 := hide (H6.out.2.1.next hb); have b7 := hide (bl_trans H6.out.2.2 hb); replace m := hide m; replace hq := hide hq; replace hP := hide hP; replace ha := hide ha; replace okk := hide okk; replace hck := hide hck; replace hy := hide hy; replace hx := hide hx; clear hb x0 x1 x2 x3 y0 y1 y2 H6 KA6 SC2)
          | fail)
        have KP := kz_put KA7.out A' l'.length k' c'
        have R8 := R7.out.off KP.2 (fun hm => by simp at hm; have := hg2.out; omega)
        have b8 := b7.out.trans (KP.2.below b7.out.size (fun b hb => by simp at hb; have := hg2.out; omega))
        have ha8 : c'.At _ := ⟨KA7.out.sl (kz_no _) ha.out.1 KP.2, KA7.out.sl (kz_no _) ha.out.2 KP.2⟩
        have hP8 := pl_offz KA7.out (kz_no _) (kz_s _) hP.out okk.out KP.2
        have KP1 := KP.1
        clear v1 v2 v3 v4 u1 u2 u3 u4 KP KA7 R7 b7 ha hP
        replace R8 := hide R8; replace b8 := hide b8; replace ha8 := hide ha8; replace hP8 := hide hP8
        generalize ((((w6.setCell ⟨ga, 1, none⟩ (.slice A' l'.length k')).setCell ⟨ga, 2, none⟩ (.bool c'.s)).setCell ⟨ga, 3, none⟩ (.slice c'.A c'.xs.length c'.a)).setCell ⟨ga, 4, none⟩ (.slice c'.B c'.ys.length c'.b)) = wv at *
        have v0 := KP1.cell (j := 0) rfl; have v1 := KP1.cell (j := 1) rfl; have v2 := KP1.cell (j := 2) rfl; have v3 := KP1.cell (j := 3) rfl; have v4 := KP1.cell (j := 4) rfl; have v5 := KP1.cell (j := 5) rfl; have v6 := KP1.cell (j := 6) rfl
        clear KP1
        have RF := R8.out
        have r0 := RF.cell (j := 0) rfl; have r1 := RF.cell (j := 1) rfl; have r2 := RF.cell (j := 2) rfl; have r3 := RF.cell (j := 3) rfl; have r4 := RF.cell (j := 4) rfl; have r5 := RF.cell (j := 5) rfl; have r6 := RF.cell (j := 6) rfl
        have s0 := RF.free 0; have s1 := RF.free 1; have s2 := RF.free 2; have s3 := RF.free 3; have s4 := RF.free 4; have s5 := RF.free 5; have s6 := RF.free 6
        clear RF
        go_wp2_with fail
        exact bodyPost_ret (v := .tuple #[.agg #[.int .i64 kk, .slice A' l'.length k', .bool c'.s, .slice c'.A c'.xs.length c'.a, .slice c'.B c'.ys.length c'.b, .int .i64 0, .int .i64 0], .bool false, .int .i64 0]) (by simp [results, Tryz.results87, go_sem, r0, r1, r2, r3, r4, r5, r6]) rfl (at_done b8.out R8.out m.out hq.out hP8.out ha8.out okk.out hck.out hy.out hx.out)
    · replace NG := NG.out
      rw [hs.out] at NG
      replace NG := hide NG
      go_upto_region 13 with (first
        | (go_at_call 49; (with_reducible refine (NG.out _ H4.out.2.2).mono ?_); rintro e w5 ⟨r, rfl, rq, rk, ra, hb⟩; have BC5 := BC3.out.next hb; have z0 := BC5.cell (j := 0) rfl; have z1_ := BC5.cell (j := 1) rfl; have z2_ := BC5.cell (j := 2) rfl; have t0 := BC5.free 0; have t1 := BC5.free 1; have t2 := BC5.free 2; replace BC5 := hide BC5; have H5 := hide (And.intro (H4.out.1.next hb) (And.intro (H4.out.2.1.next hb) (bl_trans H4.out.2.2 hb))); have KA5 := hide (KA3.out.next hb); replace rq := hide rq; replace rk := hide rk; replace ra := hide ra; clear hb k0 y0 y1 y2 BC3 KA3 H4)
        | fail)
      have hO3 := off3 gc w5 (.bool r.s) (.slice r.A r.xs.length r.a) (.slice r.B r.ys.length r.b)
      have hBr := ((BC5.out.set (j := 0) (.bool r.s) rfl).set (j := 1) (.slice r.A r.xs.length r.a) rfl).set (j := 2) (.slice r.B r.ys.length r.b) rfl
      have hgw := H5.out.2.2.size
      have hgcw := BC5.out.lt
      have hx2 := hg2.out
      have hx3 := hgc.out
      have HR : Hid (∃ r' : Pt, r'.q = absq p.q ∧ r'.Ok ∧ r'.At (((w5.setCell ⟨gc, 0, none⟩ (.bool r.s)).setCell ⟨gc, 1, none⟩ (.slice r.A r.xs.length r.a)).setCell ⟨gc, 2, none⟩ (.slice r.B r.ys.length r.b)) ∧ Bk gc #[.bool r'.s, .slice r'.A r'.xs.length r'.a, .slice r'.B r'.ys.length r'.b] 25 (((w5.setCell ⟨gc, 0, none⟩ (.bool r.s)).setCell ⟨gc, 1, none⟩ (.slice r.A r.xs.length r.a)).setCell ⟨gc, 2, none⟩ (.slice r.B r.ys.length r.b))) := hide ⟨r, by rw [rq.out, hab'.out]; rfl, rk.out, at_offB BC5.out (box_noU' p) ra.out hO3, hBr⟩
      have H4 := hide (And.intro (H5.out.1.off hO3 (fun hm => by simp at hm; omega)) (And.intro (H5.out.2.1.off hO3 (fun hm => by simp at hm; omega)) (H5.out.2.2.trans (hO3.below hgw (fun b hb => by simp at hb; omega)))))
      have KA3 := hide (KA5.out.off hO3 (fun hm => by simp at hm; omega))
      clear H5 KA5 BC5 hO3 hBr hgw hgcw hx2 hx3 rq rk ra z0 z1_ z2_ t0 t1 t2 hpat pok NG hab' hs
      generalize ((w5.setCell ⟨gc, 0, none⟩ (.bool r.s)).setCell ⟨gc, 1, none⟩ (.slice r.A r.xs.length r.a)).setCell ⟨gc, 2, none⟩ (.slice r.B r.ys.length r.b) = wz at *
      obtain ⟨r, rq, rk, ra, BR⟩ := HR.out
      clear HR
      have S2 := hide (fun W (b : Below wz.heap.size wz W) => (show W.cell? ⟨gc, 0, none⟩ = some (.bool r.s) ∧ W.cell? ⟨gc, 1, none⟩ = some (.slice r.A r.xs.length r.a) ∧ W.cell? ⟨gc, 2, none⟩ = some (.slice r.B r.ys.length r.b) from C3.next (C3.of BR) b))
      have QU2 := hide (fun (r1 : Pt) (e1 : r1.q = 1) (k1 : r1.Ok) W (a1 : r1.At W) (b : Below wz.heap.size wz W) => QU.out r1 r e1 k1 rq rk W a1 (ra.next b))
      clear rq rk ra BR QU
      go_wp2_with fail
      go_cut [10, 11] (fun sa sb wx => ∃ (gb : Nat) (t : Pt), sa = .pointer (some ⟨gb, 0, none⟩) ∧ sb = .int .i64 0 ∧ C3 gb (.bool t.s) (.slice t.A t.xs.length t.a) (.slice t.B t.ys.length t.b) wx ∧ t.q = 1 / absq p.q ∧ t.Ok ∧ t.At wx ∧ Below wz.heap.size wz wx)
      case first =>
        go_region_held3 (fun W => W.cell? ⟨gc, 0, none⟩ = some (.bool r.s) ∧ W.cell? ⟨gc, 1, none⟩ = some (.slice r.A r.xs.length r.a) ∧ W.cell? ⟨gc, 2, none⟩ = some (.slice r.B r.ys.length r.b))
          (first
            | (with_reducible exact S2.out _ (ka0 wz))
            | (with_reducible exact S2.out _ (ka1 wz _))
            | (with_reducible exact S2.out _ bc)
            | (with_reducible exact S2.out _ (bl_al bc _))
            | (with_reducible exact S2.out _ be)
            | (with_reducible exact S2.out _ (bl_al be _))
            | (with_reducible exact S2.out _ (be.trans ((off3 _ _ _ _ _).below be.size (fun b hb => by simp at hb; omega))))
            | fail)
          (first
            | (go_at_call 31; (with_reducible refine (hO.out _).mono ?_); rintro e wa ⟨r1, rfl, q1, k1, a1, hb⟩; have bc : Below wz.heap.size wz wa := (by first | (with_reducible exact bl_trans (ka0 wz) hb) | (with_reducible exact bl_trans (ka1 wz _) hb)); have n1 := bc.size; (first | (have hZ : Hid (Bk wz.heap.size #[.bool false, .slice none 0 0, .slice none 0 0] 25 wa) := by with_reducible exact hide (zd hb)) | skip); replace q1 := hide q1; replace k1 := hide k1; replace a1 := hide a1; clear hb)
            | (go_at_call 64; (with_reducible refine (QU2.out r1 q1.out k1.out _ ?h1 ?h2).mono ?_); (case h1 => first | (with_reducible exact a1.out) | (with_reducible exact a1.out.next (bl_al (.refl _ _) _)) | fail); (case h2 => first | (with_reducible exact bc) | (with_reducible exact bl_al bc _) | fail); rintro e wd ⟨t, rfl, tq, _, tk, ta, hb⟩; have g2 : Below wa.heap.size wa wd := (by first | (with_reducible exact hb) | (with_reducible exact bl_one hb)); have be := bl_trans bc g2; have n3 := be.size; have n4 := g2.size; (first | (have hZ3 := hide (hZ.out.next g2)) | (have hZ3 : Hid (Bk wa.heap.size #[.bool false, .slice none 0 0, .slice none 0 0] 25 wd) := by with_reducible exact hide (z1 hb)) | skip); (first | (have v0 := hZ3.out.cell (j := 0) rfl; have v1 := hZ3.out.cell (j := 1) rfl; have v2 := hZ3.out.cell (j := 2) rfl; have u0 := hZ3.out.free 0; have u1 := hZ3.out.free 1; have u2 := hZ3.out.free 2) | skip); clear hb)
            | fail)
        all_goals
          go_wp2_with fail
          go_meet
          first
            | with_reducible refine ⟨wd.heap.size, t, rfl, rfl, ?_⟩
              exact ⟨C3.of (Bk.new _ _ wd), tq, tk, ta.next (bl_al (.refl _ _) _), bl_al be _⟩
            | with_reducible refine ⟨_, t, rfl, rfl, ?_⟩
              exact ⟨C3.of (((hZ3.out.set (.bool t.s) rfl).set (.slice t.A t.xs.length t.a) rfl).set (.slice t.B t.ys.length t.b) rfl), tq, tk, at_offR hZ3.out ta (off3 _ _ _ _ _), be.trans ((off3 _ _ _ _ _).below be.size (fun b hb => by simp at hb; omega))⟩
            | fail
      case rest =>
        obtain ⟨gb, t, rfl, rfl, T3, tq, tk, ta, bx⟩ := hcut
        have H6 := hide (And.intro (H4.out.1.next bx) (And.intro (H4.out.2.1.next bx) (bl_trans H4.out.2.2 bx)))
        have KA6 := hide (KA3.out.next bx)
        have SC2 := hide (SC.out t tq tk _ ta H6.out.2.2)
        clear S2 QU2 SC H4 KA3 hO bx tq tk ta
        obtain ⟨x0, x1, x2, x3⟩ := H6.out.1
        obtain ⟨y0, y1, y2⟩ := T3
        go_upto_region 16 with (first
          | (go_at_call 15; (with_reducible refine SC2.out.mono ?_); rintro e w6 ⟨A', k', l', c', rfl, m, hq, hP, ha, okk, hck, hb, hy, hx⟩; unfold polyV; have KA7 := KA6.out.next hb; have v1 := KA7.cell (j := 1) rfl; have v2 := KA7.cell (j := 2) rfl; have v3 := KA7.cell (j := 3) rfl; have v4 := KA7.cell (j := 4) rfl; have u1 := KA7.free 1; have u2 := KA7.free 2; have u3 := KA7.free 3; have u4 := KA7.free 4; replace KA7 := hide KA7; have R7 := hide (H6.out.2.1.next hb); have b7 := hide (bl_trans H6.out.2.2 hb); replace m := hide m; replace hq := hide hq; replace hP := hide hP; replace ha := hide ha; replace okk := hide okk; replace hck := hide hck; replace hy := hide hy; replace hx := hide hx; clear hb x0 x1 x2 x3 y0 y1 y2 H6 KA6 SC2)
          | fail)
        have KP := kz_put KA7.out A' l'.length k' c'
        have R8 := R7.out.off KP.2 (fun hm => by simp at hm; have := hg2.out; omega)
        have b8 := b7.out.trans (KP.2.below b7.out.size (fun b hb => by simp at hb; have := hg2.out; omega))
        have ha8 : c'.At _ := ⟨KA7.out.sl (kz_no _) ha.out.1 KP.2, KA7.out.sl (kz_no _) ha.out.2 KP.2⟩
        have hP8 := pl_offz KA7.out (kz_no _) (kz_s _) hP.out okk.out KP.2
        have KP1 := KP.1
        clear v1 v2 v3 v4 u1 u2 u3 u4 KP KA7 R7 b7 ha hP
        replace R8 := hide R8; replace b8 := hide b8; replace ha8 := hide ha8; replace hP8 := hide hP8
        generalize ((((w6.setCell ⟨ga, 1, none⟩ (.slice A' l'.length k')).setCell ⟨ga, 2, none⟩ (.bool c'.s)).setCell ⟨ga, 3, none⟩ (.slice c'.A c'.xs.length c'.a)).setCell ⟨ga, 4, none⟩ (.slice c'.B c'.ys.length c'.b)) = wv at *
        have v0 := KP1.cell (j := 0) rfl; have v1 := KP1.cell (j := 1) rfl; have v2 := KP1.cell (j := 2) rfl; have v3 := KP1.cell (j := 3) rfl; have v4 := KP1.cell (j := 4) rfl; have v5 := KP1.cell (j := 5) rfl; have v6 := KP1.cell (j := 6) rfl
        clear KP1
        have RF := R8.out
        have r0 := RF.cell (j := 0) rfl; have r1 := RF.cell (j := 1) rfl; have r2 := RF.cell (j := 2) rfl; have r3 := RF.cell (j := 3) rfl; have r4 := RF.cell (j := 4) rfl; have r5 := RF.cell (j := 5) rfl; have r6 := RF.cell (j := 6) rfl
        have s0 := RF.free 0; have s1 := RF.free 1; have s2 := RF.free 2; have s3 := RF.free 3; have s4 := RF.free 4; have s5 := RF.free 5; have s6 := RF.free 6
        clear RF
        go_wp2_with fail
        exact bodyPost_ret (v := .tuple #[.agg #[.int .i64 kk, .slice A' l'.length k', .bool c'.s, .slice c'.A c'.xs.length c'.a, .slice c'.B c'.ys.length c'.b, .int .i64 0, .int .i64 0], .bool false, .int .i64 0]) (by simp [results, Tryz.results87, go_sem, r0, r1, r2, r3, r4, r5, r6]) rfl (at_done b8.out R8.out m.out hq.out hP8.out ha8.out okk.out hck.out hy.out hx.out)
end Nt

end Go.Proofs.YtgimmmmpollkhaaGreat

namespace Go.Proofs.YtgimmmmpollkhaaGreat

open Go.ChangeShapes Go.RowKit

namespace Nt
set_option maxRecDepth 100000
set_option linter.unusedSimpArgs false
set_option linter.unusedVariables false

theorem vaB_opp {k : Int} (h : oppB k = true) (l : List Pt) (c : Pt) (a b : Int) : vaB k l c a b = avB k l c a b := by
  unfold vaB
  rcases oppB_of h with rfl | rfl <;> rfl
set_option maxHeartbeats 8000000 in
theorem rnot_no (k : Int) (A : Option Addr) (l : List Pt) (kc : Nat) (c : Pt) (a b : Int) (w : World) (hl : Pl w A l) (hc : c.At w) (fl : ∀ p ∈ l, p.Few) (fcap : ∀ p ∈ l, p.Cap) (fc : c.Few) (hn : l.length ≤ 1000) (ht : (oppB k && avB k l c a b) = false) :
    Calls Tryz.prog 37 #[atomV k A l.length kc c a b] w fun e w' => e = .returned (.tuple #[atomZ 0 0 0, .bool false]) ∧ Below w.heap.size w w' := by
  obtain ⟨v, hv⟩ : ∃ v, vaB k l c a b = v := ⟨_, rfl⟩
  have hV := hide (fun W (bl : Below w.heap.size w W) => rvalida_any k A l kc c a b W (hl.next bl) (hc.next bl) fl fcap fc hn v hv)
  have hcase : v = false ∨ (k ≠ 1 ∧ k ≠ 2) := by
    cases ho : oppB k with
    | true =>
      rw [ho, Bool.true_and, ← vaB_opp ho, hv] at ht
      exact .inl ht
    | false =>
      have := of_decide_eq_false ho
      exact .inr ⟨fun e => this (.inl e), fun e => this (.inr e)⟩
  have hst := hide (fun W (bl : Below (Nw w k A l.length kc c a b).heap.size (Nw w k A l.length kc c a b) W) => Nw.start w k A l.length kc c a b bl)
  have hb0 : Below w.heap.size w (Nw w k A l.length kc c a b) := bl_al (bl_al (.refl _ _) _) _
  have hbz := hide (hst.out _ (Below.refl _ _))
  clear hl hc fl fcap fc hn hv ht
  unfold Nw at hst hb0 hbz
  unfold atomV atomZ zA at *
  generalize l.length = n at *
  generalize c.xs.length = i1 at *
  generalize c.ys.length = i2 at *
  replace hb0 := hide hb0
  have hfin := hide (fun W (b : Below w.heap.size w W) x0 x1 x2 x3 x4 x5 x6 => b.trans ((off7 (w.heap.size + 1) W x0 x1 x2 x3 x4 x5 x6).below b.size (fun b hb => by simp at hb; omega)))
  obtain ⟨⟨x0, x1, x2, x3, x4, x5, x6⟩, _, _⟩ := hbz.out
  clear hbz
  rcases hcase with rfl | ⟨h1, h2⟩
  · go_enter Tryz.func37, Tryz.ntmps37
    go_wp2_with (first
      | (go_at_call 45; (with_reducible refine (hV.out _ hb0.out).mono ?_); rintro e w2 ⟨rfl, hb2⟩; clear x0 x1 x2 x3 x4 x5 x6; obtain ⟨⟨x0, x1, x2, x3, x4, x5, x6⟩, hR, hbw⟩ := hst.out w2 hb2; replace hbw := hide hbw; have r0 := hR.cell (j := 0) rfl; have s0 := hR.free 0; have r1 := hR.cell (j := 1) rfl; have s1 := hR.free 1; have r2 := hR.cell (j := 2) rfl; have s2 := hR.free 2; have r3 := hR.cell (j := 3) rfl; have s3 := hR.free 3; have r4 := hR.cell (j := 4) rfl; have s4 := hR.free 4; have r5 := hR.cell (j := 5) rfl; have s5 := hR.free 5; have r6 := hR.cell (j := 6) rfl; have s6 := hR.free 6; clear hR hb2)
      | fail)
    exact bodyPost_ret (v := .tuple #[.agg #[.int .i64 0, .slice none 0 0, .bool false, .slice none 0 0, .slice none 0 0, .int .i64 0, .int .i64 0], .bool false]) (by simp [results, Tryz.results37, go_sem, r0, r1, r2, r3, r4, r5, r6]) rfl ⟨rfl, hfin.out _ hbw.out _ _ _ _ _ _ _⟩
  · have e1 := neq_b 3 k 1 true (decide_eq_true h1)
    have e2 := neq_b 3 k 2 true (decide_eq_true h2)
    clear h1 h2
    rcases v with _ | _
    · clear e1 e2
      go_enter Tryz.func37, Tryz.ntmps37
      go_wp2_with (first
        | (go_at_call 45; (with_reducible refine (hV.out _ hb0.out).mono ?_); rintro e w2 ⟨rfl, hb2⟩; clear x0 x1 x2 x3 x4 x5 x6; obtain ⟨⟨x0, x1, x2, x3, x4, x5, x6⟩, hR, hbw⟩ := hst.out w2 hb2; replace hbw := hide hbw; have r0 := hR.cell (j := 0) rfl; have s0 := hR.free 0; have r1 := hR.cell (j := 1) rfl; have s1 := hR.free 1; have r2 := hR.cell (j := 2) rfl; have s2 := hR.free 2; have r3 := hR.cell (j := 3) rfl; have s3 := hR.free 3; have r4 := hR.cell (j := 4) rfl; have s4 := hR.free 4; have r5 := hR.cell (j := 5) rfl; have s5 := hR.free 5; have r6 := hR.cell (j := 6) rfl; have s6 := hR.free 6; clear hR hb2)
        | fail)
      exact bodyPost_ret (v := .tuple #[.agg #[.int .i64 0, .slice none 0 0, .bool false, .slice none 0 0, .slice none 0 0, .int .i64 0, .int .i64 0], .bool false]) (by simp [results, Tryz.results37, go_sem, r0, r1, r2, r3, r4, r5, r6]) rfl ⟨rfl, hfin.out _ hbw.out _ _ _ _ _ _ _⟩
    · go_enter Tryz.func37, Tryz.ntmps37
      go_wp2_with (first
        | (go_at_call 45; (with_reducible refine (hV.out _ hb0.out).mono ?_); rintro e w2 ⟨rfl, hb2⟩; clear x0 x1 x2 x3 x4 x5 x6; obtain ⟨⟨x0, x1, x2, x3, x4, x5, x6⟩, hR, hbw⟩ := hst.out w2 hb2; replace hbw := hide hbw; have r0 := hR.cell (j := 0) rfl; have s0 := hR.free 0; have r1 := hR.cell (j := 1) rfl; have s1 := hR.free 1; have r2 := hR.cell (j := 2) rfl; have s2 := hR.free 2; have r3 := hR.cell (j := 3) rfl; have s3 := hR.free 3; have r4 := hR.cell (j := 4) rfl; have s4 := hR.free 4; have r5 := hR.cell (j := 5) rfl; have s5 := hR.free 5; have r6 := hR.cell (j := 6) rfl; have s6 := hR.free 6; clear hR hb2)
        | fail)
      exact bodyPost_ret (v := .tuple #[.agg #[.int .i64 0, .slice none 0 0, .bool false, .slice none 0 0, .slice none 0 0, .int .i64 0, .int .i64 0], .bool false]) (by simp [results, Tryz.results37, go_sem, r0, r1, r2, r3, r4, r5, r6]) rfl ⟨rfl, hfin.out _ hbw.out _ _ _ _ _ _ _⟩
set_option maxHeartbeats 16000000 in
theorem rnot_ok (k : Int) (A : Option Addr) (l : List Pt) (kc : Nat) (c : Pt) (w : World) (hl : Pl w A l) (hc : c.At w) (fl : ∀ p ∈ l, p.Ok) (fcap : ∀ p ∈ l, p.Cap) (fc : c.Ok) (hn : l.length ≤ 1000) (hk : oppB k = true) (hv : avB k l c 0 0 = true) (hs : (l.map Pt.qt).all (fun x => fitB (x.1 * -1)) = true) (hs' : fitB (c.q * -1) = true) (hf : fmB (oppK k) (c.q * -1) (scq' (-1) (l.map Pt.qt)) = true) :
    Calls Tryz.prog 37 #[atomV k A l.length kc c 0 0] w (NtR w (oppK k) (fmL (oppK k) (scq' (-1) (l.map Pt.qt))) (fmQ (oppK k) (c.q * -1) (scq' (-1) (l.map Pt.qt)))) := by
  have hV := hide (fun W (bl : Below w.heap.size w W) => rvalida_any k A l kc c 0 0 W (hl.next bl) (hc.next bl) (fun p hp => (fl p hp).few) fcap fc.few hn true (by rw [vaB_opp hk]; exact hv))
  have hst := hide (fun W (bl : Below (Nw w k A l.length kc c 0 0).heap.size (Nw w k A l.length kc c 0 0) W) => Nw.start w k A l.length kc c 0 0 bl)
  have hb0 : Below w.heap.size w (Nw w k A l.length kc c 0 0) := bl_al (bl_al (.refl _ _) _) _
  have hbz := hide (hst.out _ (Below.refl _ _))
  have Sc := hide (fun W (b : Below w.heap.size w W) (R : Pt) (Rk : R.Ok) (Ra : R.At W) (Rq : R.q = -1) => (show Calls Tryz.prog 15 #[polyV A l.length kc c, rv R] W (PRC W (scq' (-1) (l.map Pt.qt)) (c.q * -1)) from by
    have h := rscale_c A l kc c R W (hl.next b) fl (avB_ok hv).2.2.1 (hc.next b) fc Ra Rk hn (by rw [scB_q, Rq, hs, hs']; rfl) (by rw [Rq]; decide)
    rw [scaleL_q, Rq] at h
    exact h))
  have rL : rvB (-1) (scq' (-1) (l.map Pt.qt)) := rvB_scq' _ (by
    have h := (avB_ok hv).2.2.1
    rw [pvB_rvB fl] at h
    exact h)
  have lL : (scq' (-1) (l.map Pt.qt)).length ≤ 1000 := Nat.le_trans (scq'_len _ _) (by rw [List.length_map]; exact hn)
  have hkk : oppK k = 1 ∨ oppK k = 2 := by rcases oppB_of hk with h | h <;> simp [h, oppK]
  have hk3 : (k = 1 ∧ oppK k = 2) ∨ (k = 2 ∧ oppK k = 1) := by rcases oppB_of hk with h | h <;> simp [h, oppK]
  clear hl hc fl fcap fc hn hs hs' hv hk
  unfold Nw at hst hb0 hbz
  unfold atomV polyV rv zA at *
  generalize l.length = n at *
  generalize c.xs.length = i1 at *
  generalize c.ys.length = i2 at *
  generalize oppK k = kk at *
  generalize scq' (-1) (l.map Pt.qt) = L2 at *
  generalize c.q * -1 = q2 at *
  have Mk := hide (fun (A' : Option Addr) (k' : Nat) (l' : List Pt) (c' : Pt) (W : World) (m : l'.map Pt.qt = L2) (q : c'.q = q2) (P : Pl W A' l') (t : c'.At W) (ok : ∀ p ∈ l', p.OkC) (z : c'.Ok) => (show Calls Tryz.prog 87 #[.int .i64 kk, .agg #[.slice A' l'.length k', .bool c'.s, .slice c'.A c'.xs.length c'.a, .slice c'.B c'.ys.length c'.b]] W (AtR W kk false (fmL kk L2) (fmQ kk q2 L2)) from by
    have hll : l'.length ≤ 1000 := by rw [← m, List.length_map] at lL; exact lL
    have hvv : pvB (-1) l' = true := (pvB_rvB (fun p hp => (ok p hp).1) (-1)).2 (by rw [m]; exact rL)
    by_cases h0 : l' = []
    · subst h0
      have := rmake_nil kk hkk A' k' c' W t z
      rw [← m, ← q]
      exact this
    · have := rmake_cons kk hkk A' l' k' c' W P (fun p hp => (ok p hp).1) (fun p hp => (ok p hp).2) t z hvv hll (List.length_pos_iff.2 h0) (by rw [m, q]; exact hf)
      rw [m, q] at this
      exact this))
  have hfin := hide (fun (W : World) (A' : Option Addr) (k' : Nat) (l' : List Pt) (c' : Pt) (b : Below w.heap.size w W) (hR : Bk (w.heap.size + 1) zA 58 W) (m : l'.map Pt.qt = fmL kk L2) (q : c'.q = fmQ kk q2 L2) (P : Pl W A' l') (a : c'.At W) (o : ∀ p ∈ l', p.Ok) (z : c'.Ok) (y : l'.length ≤ k') (x : k' ≤ maxLen) => nt_done (kd := kk) b hR m q P a o z y x)
  replace hb0 := hide hb0
  clear hf rL lL hkk
  generalize fmL kk L2 = L3 at *
  generalize fmQ kk q2 L2 = q3 at *
  obtain ⟨⟨x0, x1, x2, x3, x4, x5, x6⟩, _, _⟩ := hbz.out
  clear hbz
  have O1 := hide (fun W => rof_p (-1) 1 (-1) W (by decide) (by decide) (by decide) (by decide) (by decide) (by first | rfl | decide +kernel) fit_m1)
  have eS : binOp .sub 3 (.int .i64 3) (.int .i64 k) = pure (.int .i64 kk) := by rcases hk3 with ⟨rfl, rfl⟩ | ⟨rfl, rfl⟩ <;> rfl
  have eN : (binOp .neq 3 (.int .i64 k) (.int .i64 1) = pure (.bool false)) ∨ (binOp .neq 3 (.int .i64 k) (.int .i64 1) = pure (.bool true) ∧ binOp .neq 3 (.int .i64 k) (.int .i64 2) = pure (.bool false)) := by
    rcases hk3 with ⟨h, _⟩ | ⟨h, _⟩
    · exact .inl (neq_b _ _ _ _ (by simp [h]))
    · exact .inr ⟨neq_b _ _ _ _ (by simp [h]), neq_b _ _ _ _ (by simp [h])⟩
  clear hk3
  rcases eN with eN1 | ⟨eN1, eN2⟩
  all_goals
    go_enter Tryz.func37, Tryz.ntmps37
    go_upto_region 3 with (first
      | (go_at_call 45; (with_reducible refine (hV.out _ hb0.out).mono ?_); rintro e w2 ⟨rfl, hb2⟩; clear x0 x1 x2 x3 x4 x5 x6; obtain ⟨H7, R7, bw⟩ := hst.out w2 hb2; replace bw := hide bw; replace H7 := hide H7; replace R7 := hide R7; obtain ⟨x0, x1, x2, x3, x4, x5, x6⟩ := H7.out; clear hb2)
      | fail)
    clear hst hb0 hV
    have S2 := hide (fun W (b : Below w2.heap.size w2 W) => (show W.cell? ⟨w.heap.size, 1, none⟩ = some (.slice A n kc) ∧ W.cell? ⟨w.heap.size, 2, none⟩ = some (.bool c.s) ∧ W.cell? ⟨w.heap.size, 3, none⟩ = some (.slice c.A i1 c.a) ∧ W.cell? ⟨w.heap.size, 4, none⟩ = some (.slice c.B i2 c.b) from ⟨(H7.out.next b).2.1, (H7.out.next b).2.2.1, (H7.out.next b).2.2.2.1, (H7.out.next b).2.2.2.2.1⟩))
    go_cut [4, 5] (fun sa sb wx => ∃ (gs : Nat) (A : Option Addr) (k : Nat) (l : List Pt) (c : Pt), sa = .pointer (some ⟨gs, 0, none⟩) ∧ sb = .int .i64 0 ∧ (Pb L2 q2 gs A l.length k l c wx ∧ ∀ p ∈ l, p.OkC) ∧ Below w2.heap.size w2 wx)
    case first =>
      go_region_held3 (fun W => W.cell? ⟨w.heap.size, 1, none⟩ = some (.slice A n kc) ∧ W.cell? ⟨w.heap.size, 2, none⟩ = some (.bool c.s) ∧ W.cell? ⟨w.heap.size, 3, none⟩ = some (.slice c.A i1 c.a) ∧ W.cell? ⟨w.heap.size, 4, none⟩ = some (.slice c.B i2 c.b))
          (first
            | (with_reducible exact S2.out _ (ka0 w2))
            | (with_reducible exact S2.out _ (ka1 w2 _))
            | (with_reducible exact S2.out _ bc)
            | (with_reducible exact S2.out _ (bl_al bc _))
            | (with_reducible exact S2.out _ (bl_al (bl_al bc _) _))
            | (with_reducible exact S2.out _ bd)
            | (with_reducible exact S2.out _ (bl_al bd _))
            | (with_reducible exact S2.out _ (bl_al (bl_al bd _) _))
            | (with_reducible exact S2.out _ be)
            | (with_reducible exact S2.out _ (bl_al be _))
            | (with_reducible exact S2.out _ (be.trans ((off4 _ _ _ _ _ _).below be.size (fun b hb => by simp at hb; omega))))
            | (with_reducible exact S2.out _ (bd.trans ((off4 _ _ _ _ _ _).below bd.size (fun b hb => by simp at hb; omega))))
            | fail)
          (first
            | (go_at_call 31; (with_reducible refine (O1.out _).mono ?_); rintro e wa ⟨R, rfl, Rq, Rk, Ra, hb⟩; have bc : Below w2.heap.size w2 wa := (by first | (with_reducible exact bl_trans (ka0 w2) hb) | (with_reducible exact bl_trans (ka1 w2 _) hb)); have n1 := bc.size; have hCon := hide (fun W (b : Below wa.heap.size wa W) => Sc.out _ (bl_trans bw.out (bl_trans bc b)) R Rk (Ra.next b) Rq); (first | (have hZ : Hid (Bk w2.heap.size #[.slice none 0 0, .bool false, .slice none 0 0, .slice none 0 0] 27 wa) := by with_reducible exact hide (zd hb)) | skip))
            | (go_at_call 15; (with_reducible refine (hCon.out _ ?hw).mono ?_); (case hw => first | (with_reducible exact .refl _ _) | (with_reducible exact bl_al (.refl _ _) _) | fail); rintro e wd ⟨An_, kn_, ln_, cn_, rfl, mn_, vn_, pn_, tn_, on_, zn_, hb, wn_, yn_⟩; unfold polyV; have g2 : Below wa.heap.size wa wd := (by first | (with_reducible exact hb) | (with_reducible exact bl_one hb)); have be := bl_trans bc g2; have n3 := be.size; (first | (have hZ3 := hide (hZ.out.next g2)) | (have hZ3 : Hid (Bk wa.heap.size #[.slice none 0 0, .bool false, .slice none 0 0, .slice none 0 0] 27 wd) := by with_reducible exact hide (z1 hb)) | skip); (first | (have v0 := hZ3.out.cell (j := 0) rfl; have v1 := hZ3.out.cell (j := 1) rfl; have v2 := hZ3.out.cell (j := 2) rfl; have v3 := hZ3.out.cell (j := 3) rfl; have u0 := hZ3.out.free 0; have u1 := hZ3.out.free 1; have u2 := hZ3.out.free 2; have u3 := hZ3.out.free 3) | skip))
            | fail)
      all_goals
        go_wp2_with fail
        go_meet
        first
          | with_reducible refine ⟨wd.heap.size, An_, kn_, ln_, cn_, rfl, rfl, ?_⟩
            exact ⟨⟨pb_new (k := kn_) mn_ vn_ pn_ tn_ (fun p hp => (on_ p hp).1) zn_ wn_ yn_, on_⟩, bl_al be _⟩
          | with_reducible refine ⟨_, An_, kn_, ln_, cn_, rfl, rfl, ?_⟩
            exact ⟨⟨pb_set hZ3.out (k := kn_) mn_ vn_ pn_ tn_ (fun p hp => (on_ p hp).1) zn_ wn_ yn_, on_⟩, be.trans ((off4 _ _ _ _ _ _).below be.size (fun b hb => by simp at hb; omega))⟩
          | fail
    case rest =>
      obtain ⟨gm, Am, km, lm, cm, rfl, rfl, ⟨HM, hcm⟩, bm⟩ := hcut
      have HK := hide (And.intro (H7.out.next bm).1 hcm)
      have k0 := HK.out.1
      replace H7 := trivial
      have R8 := hide (R7.out.next bm)
      have bw8 := bl_trans bw.out bm
      clear S2 R7 bw bm H7 x0 x1 x2 x3 x4 x5 x6 Sc O1
      replace HM := hide HM
      obtain ⟨y0, y1, y2, y3⟩ := HM.out.x
      go_wp2_with (first
        | (go_at_call 87; (with_reducible refine (Mk.out Am km lm cm _ HM.out.qt HM.out.hq HM.out.pl HM.out.at_ HK.out.2 HM.out.ck).mono ?_); rintro e w3 ⟨A', k', l', c', rfl, m, hq, hP, ha, ok, hcok, hb3, hy, hx⟩; unfold atomV; have g := bl_al hb3 (.cells #[.int .i64 kk, .slice A' l'.length k', .bool c'.s, .slice c'.A c'.xs.length c'.a, .slice c'.B c'.ys.length c'.b, .int .i64 0, .int .i64 0] 58); have R9 := hide (R8.out.next g); have bw9 := hide (bl_trans bw8 g); have hP9 := hide (hP.next (ka0' w3 (.cells #[.int .i64 kk, .slice A' l'.length k', .bool c'.s, .slice c'.A c'.xs.length c'.a, .slice c'.B c'.ys.length c'.b, .int .i64 0, .int .i64 0] 58))); have ha9 := hide (ha.next (ka0' w3 (.cells #[.int .i64 kk, .slice A' l'.length k', .bool c'.s, .slice c'.A c'.xs.length c'.a, .slice c'.B c'.ys.length c'.b, .int .i64 0, .int .i64 0] 58))); obtain ⟨z0, z1, z2, z3, z4, z5, z6⟩ := C7.of (Bk.new #[.int .i64 kk, .slice A' l'.length k', .bool c'.s, .slice c'.A c'.xs.length c'.a, .slice c'.B c'.ys.length c'.b, .int .i64 0, .int .i64 0] 58 w3); have hR := R9.out; have r0 := hR.cell (j := 0) rfl; have s0 := hR.free 0; have r1 := hR.cell (j := 1) rfl; have s1 := hR.free 1; have r2 := hR.cell (j := 2) rfl; have s2 := hR.free 2; have r3 := hR.cell (j := 3) rfl; have s3 := hR.free 3; have r4 := hR.cell (j := 4) rfl; have s4 := hR.free 4; have r5 := hR.cell (j := 5) rfl; have s5 := hR.free 5; have r6 := hR.cell (j := 6) rfl; have s6 := hR.free 6; clear hR g hP ha hb3 y0 y1 y2 y3; replace m := hide m; replace hq := hide hq; replace ok := hide ok; replace hcok := hide hcok; replace hy := hide hy; replace hx := hide hx)
        | fail)
      exact bodyPost_ret (v := .tuple #[.agg #[.int .i64 kk, .slice A' l'.length k', .bool c'.s, .slice c'.A c'.xs.length c'.a, .slice c'.B c'.ys.length c'.b, .int .i64 0, .int .i64 0], .bool true]) (by simp [results, Tryz.results37, go_sem, r0, r1, r2, r3, r4, r5, r6]) rfl (hfin.out _ A' k' l' c' bw9.out R9.out m.out hq.out hP9.out ha9.out ok.out hcok.out hy.out hx.out)
end Nt

end Go.Proofs.YtgimmmmpollkhaaGreat
