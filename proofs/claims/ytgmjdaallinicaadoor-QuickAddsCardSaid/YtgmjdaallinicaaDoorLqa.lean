/-
  The reference's made, addRat, fitsRat, Add, with what their rows have room for.
  The law QuickAdds.
-/
import Derived.Test.YtgmjdaallinicaaDoorRefF
import Derived.Test.YtgmjdaallinicaaDoorQd
set_option linter.unusedVariables false
namespace Go.Proofs.YtgmjdaallinicaaDoor
open Go.RowKit
namespace Nt

/-- What a call hands back that answers a fraction, and its rows' room. -/
def RQC (w : World) (q : Rat) (e : Ending) (w' : World) : Prop := ∃ A c B d, e = .returned (.agg #[.bool (qs q), .slice A (ln (qn q)) c, .slice B (ln (qd q)) d]) ∧ Sl w' A (digs (qn q)) ∧ Sl w' B (digs (qd q)) ∧ Below w.heap.size w w' ∧ ln (qn q) ≤ c ∧ ln (qd q) ≤ d
def RQEC (w : World) (q : Rat) (e : Ending) (w' : World) : Prop := ∃ A c B d, e = .returned (.tuple #[.agg #[.bool (qs q), .slice A (ln (qn q)) c, .slice B (ln (qd q)) d], .int .i64 0]) ∧ Sl w' A (digs (qn q)) ∧ Sl w' B (digs (qd q)) ∧ Below w.heap.size w w' ∧ ln (qn q) ≤ c ∧ ln (qd q) ≤ d
theorem RQC.mk {w w' : World} {q : Rat} {A B : Option Addr} {c d n m : Nat} {s : Bool} (h1 : qs q = s) (h2 : qn q = n) (h3 : qd q = m) (sa : Sl w' A (digs n)) (sb : Sl w' B (digs m)) (b : Below w.heap.size w w') (ka : ln n ≤ c) (kb : ln m ≤ d) :
    RQC w q (.returned (.agg #[.bool s, .slice A (ln n) c, .slice B (ln m) d])) w' := by
  subst h1 h2 h3
  exact ⟨A, c, B, d, rfl, sa, sb, b, ka, kb⟩
theorem RQEC.mk {w w' : World} {q : Rat} {A B : Option Addr} {c d n m : Nat} {s : Bool} (h1 : qs q = s) (h2 : qn q = n) (h3 : qd q = m) (sa : Sl w' A (digs n)) (sb : Sl w' B (digs m)) (b : Below w.heap.size w w') (ka : ln n ≤ c) (kb : ln m ≤ d) :
    RQEC w q (.returned (.tuple #[.agg #[.bool s, .slice A (ln n) c, .slice B (ln m) d], .int .i64 0])) w' := by
  subst h1 h2 h3
  exact ⟨A, c, B, d, rfl, sa, sb, b, ka, kb⟩
theorem rtrim_c (A : Option Addr) (c x : Nat) (w : World) (sx : Sl w A (digs x)) (hx : ln x ≤ 5000) (hc : ln x ≤ c) :
    Calls Tryd.prog 56 #[.slice A (ln x) c] w fun e w' => ∃ B d, e = .returned (.slice B (ln x) d) ∧ Sl w' B (digs x) ∧ ln x ≤ d ∧ Below w.heap.size w w' :=
  (rtrim_any A c (digs x) w sx hc (Nat.le_trans hx (by decide))).mono fun _ _ h => by
    rw [← digs_val (limbs_digs x), val_digs] at h
    obtain ⟨B, d, h1, h2, h3⟩ := h
    exact ⟨B, d, h1, h2.sl, h2.le, h3⟩
set_option maxRecDepth 100000 in
set_option maxHeartbeats 4000000 in
theorem rmade_c (s : Bool) (A B : Option Addr) (c d x y : Nat) (q : Rat) (w : World) (sx : Sl w A (digs x)) (sy : Sl w B (digs y)) (hx : ln x ≤ 1000) (hy : ln y ≤ 1000) (hp : 0 < y) (hq : qmk s x y = q) :
    Calls Tryd.prog 37 #[.bool s, .slice A (ln x) c, .slice B (ln y) d] w (RQC w q) := by
  obtain ⟨g, hg⟩ : ∃ g, Nat.gcd x y = g := ⟨_, rfl⟩
  have gp : 0 < g := by rw [← hg]; exact Nat.gcd_pos_of_pos_right _ hp
  have gl : ln g ≤ 1000 := by rw [← hg]; exact Nat.le_trans (ln_mono (Nat.gcd_le_right _ hp)) hy
  obtain ⟨u, hu⟩ : ∃ u, x / g = u := ⟨_, rfl⟩
  obtain ⟨v, hv⟩ : ∃ v, y / g = v := ⟨_, rfl⟩
  have ul : ln u ≤ 1000 := by rw [← hu]; exact Nat.le_trans (ln_div _ _) hx
  have vl : ln v ≤ 1000 := by rw [← hv]; exact Nat.le_trans (ln_div _ _) hy
  have E1 := hide (show qs q = (s && decide (0 < ln u)) by rw [← hq, qs_mk s x (Nat.ne_of_gt hp), hg, hu, dec_ln])
  have E2 := hide (show qn q = u by rw [← hq, qn_mk s x (Nat.ne_of_gt hp), hg, hu])
  have E3 := hide (show qd q = v by rw [← hq, qd_mk s x (Nat.ne_of_gt hp), hg, hv])
  have G := hide (fun W (k : Below w.heap.size w W) => rgcd_z A B c d x y g W (kp' k sx) (kp' k sy) hx hy hg)
  have D1 := hide (fun X e W (k : Below w.heap.size w W) s3 => rdivmod_cap A X c e x g (ln x) (ln g) W rfl rfl (kp' k sx) s3 hx gl gp)
  have D2 := hide (fun X e W (k : Below w.heap.size w W) s3 => rdivmod_cap B X d e y g (ln y) (ln g) W rfl rfl (kp' k sy) s3 hy gl gp)
  rw [hu] at D1
  rw [hv] at D2
  obtain ⟨m1, hm1⟩ : ∃ m, x % g = m := ⟨_, rfl⟩
  obtain ⟨m2, hm2⟩ : ∃ m, y % g = m := ⟨_, rfl⟩
  rw [hm1] at D1
  rw [hm2] at D2
  have T1 := hide (fun X e W s3 h => rtrim_c X e u W s3 (by omega) h)
  have T2 := hide (fun X e W s3 h => rtrim_c X e v W s3 (by omega) h)
  obtain ⟨i, hi⟩ : ∃ i, i = ln u := ⟨_, rfl⟩
  have D1 : Hid (∀ X e W, Below w.heap.size w W → Sl W X (digs g) → Calls Tryd.prog 67 #[.slice A (ln x) c, .slice X (ln g) e] W fun e w' => ∃ A c B d, e = .returned (.tuple #[.slice A i c, .slice B (ln m1) d]) ∧ Sl w' A (digs u) ∧ Sl w' B (digs m1) ∧ i ≤ c ∧ Below W.heap.size W w') := by rw [hi]; exact D1
  have T1 : Hid (∀ X e W, Sl W X (digs u) → i ≤ e → Calls Tryd.prog 56 #[.slice X i e] W fun e w' => ∃ A c, e = .returned (.slice A i c) ∧ Sl w' A (digs u) ∧ i ≤ c ∧ Below W.heap.size W w') := by rw [hi]; exact T1
  obtain ⟨j, hj⟩ : ∃ j, j = ln v := ⟨_, rfl⟩
  have D2 : Hid (∀ X e W, Below w.heap.size w W → Sl W X (digs g) → Calls Tryd.prog 67 #[.slice B (ln y) d, .slice X (ln g) e] W fun e w' => ∃ A c B d, e = .returned (.tuple #[.slice A j c, .slice B (ln m2) d]) ∧ Sl w' A (digs v) ∧ Sl w' B (digs m2) ∧ j ≤ c ∧ Below W.heap.size W w') := by rw [hj]; exact D2
  have T2 : Hid (∀ X e W, Sl W X (digs v) → j ≤ e → Calls Tryd.prog 56 #[.slice X j e] W fun e w' => ∃ A c, e = .returned (.slice A j c) ∧ Sl w' A (digs v) ∧ j ≤ c ∧ Below W.heap.size W w') := by rw [hj]; exact T2
  rw [← hi] at E1
  have MK := hide (fun (A B : Option Addr) (c d : Nat) (W : World) (sa : Sl W A (digs u)) (sb : Sl W B (digs v)) (b : Below w.heap.size w W) (ka : ln u ≤ c) (kb : ln v ≤ d) => (RQC.mk E1.out E2.out E3.out sa sb b ka kb : RQC w q (.returned (.agg #[.bool (s && decide (0 < i)), .slice A (ln u) c, .slice B (ln v) d])) W))
  rw [← hi, ← hj] at MK
  have i0 : i ≤ 1000 := by omega
  clear sx sy hx hy hp hq hg gp gl hu hv ul vl E1 E2 E3 hm1 hm2 hi hj
  generalize ln x = n at *
  generalize ln y = m at *
  have X := hide (Q3.new (.bool false) (.slice none 0 0) (.slice none 0 0) w)
  have b0 : Below w.heap.size w (w.alloc (.cells #[.bool false, .slice none 0 0, .slice none 0 0] 24)) := bl_al (.refl _ _) _
  obtain ⟨z, hz⟩ : ∃ z, (s && decide (0 < i)) = z := ⟨_, rfl⟩
  rw [hz] at MK
  cases s with
  | false =>
    obtain rfl : z = false := by rw [← hz]; rfl
    clear hz
    go_enter Tryd.func37, Tryd.ntmps37
    go_wp2_with (first
      | (go_at_call 47; (with_reducible refine (G.out _ b0).mono ?_); rintro e w1 ⟨A1, c1, rfl, s1, hb⟩; have X := hide (X.out.next hb); (try clear x1 x2 x3 x4 x5 x6); obtain ⟨x1, x2, x3, x4, x5, x6⟩ := X.out; have b1 := bl_trans b0 hb; clear hb)
      | (go_at_call 67; (with_reducible refine (D1.out A1 c1 _ b1 s1).mono ?_); rintro e w2 ⟨A2, c2, B2, d2, rfl, s2, _, h2, hb⟩; have X := hide (X.out.next hb); (try clear x1 x2 x3 x4 x5 x6); obtain ⟨x1, x2, x3, x4, x5, x6⟩ := X.out; have b2 := bl_trans b1 hb; have s1 := kp' hb s1; clear hb)
      | (go_at_call 67; (with_reducible refine (D2.out A1 c1 _ b2 s1).mono ?_); rintro e w3 ⟨A3, c3, B3, d3, rfl, s3, _, h3, hb⟩; have X := hide (X.out.next hb); (try clear x1 x2 x3 x4 x5 x6); obtain ⟨x1, x2, x3, x4, x5, x6⟩ := X.out; have b3 := bl_trans b2 hb; have s2 := kp' hb s2; clear hb)
      | (go_at_call 56; (with_reducible refine (T1.out A2 c2 _ s2 h2).mono ?_); rintro e w4 ⟨A4, c4, rfl, s4, k4, hb⟩; have X := hide (X.out.next hb); (try clear x1 x2 x3 x4 x5 x6); obtain ⟨x1, x2, x3, x4, x5, x6⟩ := X.out; have b4 := bl_trans b3 hb; have s3 := kp' hb s3; clear hb)
      | (go_at_call 56; (with_reducible refine (T2.out A3 c3 _ s3 h3).mono ?_); rintro e w5 ⟨A5, c5, rfl, s5, k5, hb⟩; have X := hide (X.out.next hb); (try clear x1 x2 x3 x4 x5 x6); obtain ⟨x1, x2, x3, x4, x5, x6⟩ := X.out; have b5 := bl_trans b4 hb; have s4 := kp' hb s4; clear hb))
    refine bodyPost_ret (v := .agg #[.bool false, .slice A4 i c4, .slice A5 j c5]) (by simp [results, Tryd.results37, go_sem, x1, x2, x3]) rfl (MK.out A4 A5 c4 c5 _ (s4.over3 X.out _ _ _) (s5.over3 X.out _ _ _) (Below.over3 b5 (Nat.le_refl _) _ _ _) k4 k5)
  | true =>
    have hz' : decide (0 < i) = z := by rw [← hz]; rfl
    have oz : binOp .gtr 3 (.int .i64 (i : Int)) (.int .i64 0) = pure (.bool z) := by
      show pure (Value.bool (decide ((i : Int) > 0))) = _
      rw [← hz']; congr 2; exact decide_eq_decide.2 (by omega)
    clear hz hz'
    go_enter Tryd.func37, Tryd.ntmps37
    go_wp2_with (first
      | (go_at_call 47; (with_reducible refine (G.out _ b0).mono ?_); rintro e w1 ⟨A1, c1, rfl, s1, hb⟩; have X := hide (X.out.next hb); (try clear x1 x2 x3 x4 x5 x6); obtain ⟨x1, x2, x3, x4, x5, x6⟩ := X.out; have b1 := bl_trans b0 hb; clear hb)
      | (go_at_call 67; (with_reducible refine (D1.out A1 c1 _ b1 s1).mono ?_); rintro e w2 ⟨A2, c2, B2, d2, rfl, s2, _, h2, hb⟩; have X := hide (X.out.next hb); (try clear x1 x2 x3 x4 x5 x6); obtain ⟨x1, x2, x3, x4, x5, x6⟩ := X.out; have b2 := bl_trans b1 hb; have s1 := kp' hb s1; clear hb)
      | (go_at_call 67; (with_reducible refine (D2.out A1 c1 _ b2 s1).mono ?_); rintro e w3 ⟨A3, c3, B3, d3, rfl, s3, _, h3, hb⟩; have X := hide (X.out.next hb); (try clear x1 x2 x3 x4 x5 x6); obtain ⟨x1, x2, x3, x4, x5, x6⟩ := X.out; have b3 := bl_trans b2 hb; have s2 := kp' hb s2; clear hb)
      | (go_at_call 56; (with_reducible refine (T1.out A2 c2 _ s2 h2).mono ?_); rintro e w4 ⟨A4, c4, rfl, s4, k4, hb⟩; have X := hide (X.out.next hb); (try clear x1 x2 x3 x4 x5 x6); obtain ⟨x1, x2, x3, x4, x5, x6⟩ := X.out; have b4 := bl_trans b3 hb; have s3 := kp' hb s3; clear hb)
      | (go_at_call 56; (with_reducible refine (T2.out A3 c3 _ s3 h3).mono ?_); rintro e w5 ⟨A5, c5, rfl, s5, k5, hb⟩; have X := hide (X.out.next hb); (try clear x1 x2 x3 x4 x5 x6); obtain ⟨x1, x2, x3, x4, x5, x6⟩ := X.out; have b5 := bl_trans b4 hb; have s4 := kp' hb s4; clear hb))
    refine bodyPost_ret (v := .agg #[.bool z, .slice A4 i c4, .slice A5 j c5]) (by simp [results, Tryd.results37, go_sem, x1, x2, x3]) rfl (MK.out A4 A5 c4 c5 _ (s4.over3 X.out _ _ _) (s5.over3 X.out _ _ _) (Below.over3 b5 (Nat.le_refl _) _ _ _) k4 k5)
set_option maxRecDepth 100000 in
set_option maxHeartbeats 8000000 in
theorem raddRat_c (q r Z : Rat) (hZ : q + r = Z) (A B C D : Option Addr) (a b c d : Nat) (w : World) (sA : Sl w A (digs (qn q))) (sB : Sl w B (digs (qd q))) (sC : Sl w C (digs (qn r))) (sD : Sl w D (digs (qd r))) (f1 : fitq q) (f2 : fitq r) :
    Calls Tryd.prog 55 #[.agg #[.bool (qs q), .slice A (ln (qn q)) a, .slice B (ln (qd q)) b], .agg #[.bool (qs r), .slice C (ln (qn r)) c, .slice D (ln (qd r)) d]] w (RQC w Z) := by
  obtain ⟨u, hu⟩ : ∃ u, qn q * qd r = u := ⟨_, rfl⟩
  obtain ⟨v, hv⟩ : ∃ v, qn r * qd q = v := ⟨_, rfl⟩
  obtain ⟨p, hp⟩ : ∃ v, qd q * qd r = v := ⟨_, rfl⟩
  have ul : ln u ≤ 128 := by rw [← hu]; exact ln_mul2 f1.1 f2.2
  have vl : ln v ≤ 128 := by rw [← hv]; exact ln_mul2 f2.1 f1.2
  have pl : ln p ≤ 128 := by rw [← hp]; exact ln_mul2 f1.2 f2.2
  have pp : 0 < p := by rw [← hp]; exact Nat.mul_pos (qd_pos q) (qd_pos r)
  have M1 := hide (fun W (h : Below w.heap.size w W) => rmul_z A D a d (qn q) (qd r) u W (kp' h sA) (kp' h sD) (Nat.le_trans f1.1 (by decide)) (Nat.le_trans f2.2 (by decide)) hu)
  have M2 := hide (fun W (h : Below w.heap.size w W) => rmul_z C B c b (qn r) (qd q) v W (kp' h sC) (kp' h sB) (Nat.le_trans f2.1 (by decide)) (Nat.le_trans f1.2 (by decide)) hv)
  have M3 := hide (fun W (h : Below w.heap.size w W) => rmul_z B D b d (qd q) (qd r) p W (kp' h sB) (kp' h sD) (Nat.le_trans f1.2 (by decide)) (Nat.le_trans f2.2 (by decide)) hp)
  obtain ⟨x, hx⟩ : ∃ x, q.num * (qd r : Int) = x := ⟨_, rfl⟩
  obtain ⟨y, hy⟩ : ∃ x, r.num * (qd q : Int) = x := ⟨_, rfl⟩
  have hq := add_mkRat q r
  rw [hx, hy, hp, hZ] at hq
  have xa : x.natAbs = u := by rw [← hx, num_part]; exact hu
  have ya : y.natAbs = v := by rw [← hy, num_part]; exact hv
  have W1 := hide (fun X e W => rwhole_any (qs q) X (ln u) e W (by omega))
  have W2 := hide (fun X e W => rwhole_any (qs r) X (ln v) e W (by omega))
  rw [← hu, isg_part q (qd_pos r), hx, hu] at W1
  rw [← hv, isg_part r (qd_pos q), hy, hv] at W2
  have AI := hide (fun X Y e f W (sx : Sl W X (digs u)) (sy : Sl W Y (digs v)) => raddS_num X Y (ln u) (ln v) e f x y W (by show (digs x.natAbs).length = _; rw [xa]; rfl) (by show (digs y.natAbs).length = _; rw [ya]; rfl) (by show Sl W X (digs x.natAbs); rw [xa]; exact sx) (by show Sl W Y (digs y.natAbs); rw [ya]; exact sy) (by show (digs x.natAbs).length ≤ _; rw [xa]; exact Nat.le_trans ul (by decide)) (by show (digs y.natAbs).length ≤ _; rw [ya]; exact Nat.le_trans vl (by decide)))
  have nl : ln (x + y).natAbs ≤ 129 := add_lenI (k := 128) (by show (digs x.natAbs).length ≤ _; rw [xa]; exact ul) (by show (digs y.natAbs).length ≤ _; rw [ya]; exact vl)
  obtain ⟨n, hn⟩ : ∃ n, (x + y).natAbs = n := ⟨_, rfl⟩
  obtain ⟨sz, hsz⟩ : ∃ z, isg (x + y) = z := ⟨_, rfl⟩
  rw [hsz, hn] at hq
  rw [hn] at nl
  have AI : Hid (∀ X Y e f W, Sl W X (digs u) → Sl W Y (digs v) → Calls Tryd.prog 79 #[.agg #[.bool (isg x), .slice X (ln u) e], .agg #[.bool (isg y), .slice Y (ln v) f]] W fun e w' => ∃ A c, e = .returned (.agg #[.bool sz, .slice A (ln n) c]) ∧ Sl w' A (digs n) ∧ Below W.heap.size W w') := fun X Y e f W sx sy => (AI.out X Y e f W sx sy).mono fun e w' h => by
    obtain ⟨A, c, he, s1, b1⟩ := h
    refine ⟨A, c, ?_, ?_, b1⟩
    · rw [he, ← hsz, ← hn]; rfl
    · rw [← hn]; exact s1
  have MD := hide (fun X Y e f W (sx : Sl W X (digs n)) (sy : Sl W Y (digs p)) => rmade_c sz X Y e f n p Z W sx sy (by omega) (by omega) pp hq)
  clear sA sB sC sD f1 f2 hZ hu hv hp ul vl pl pp hq xa ya hx hy nl hn hsz
  generalize isg x = sx at *
  generalize isg y = sy at *
  generalize qs q = s at *
  generalize qs r = t at *
  generalize ln (qn q) = i1 at *
  generalize ln (qd q) = i2 at *
  generalize ln (qn r) = i3 at *
  generalize ln (qd r) = i4 at *
  have X1 := hide (((Q3.new (.bool s) (.slice A i1 a) (.slice B i2 b) w).al (.cells #[.bool t, .slice C i3 c, .slice D i4 d] 24)).al (.cells #[.bool false, .slice none 0 0, .slice none 0 0] 24))
  have X2 := hide ((Q3.new1 (.bool t) (.slice C i3 c) (.slice D i4 d) w (.cells #[.bool s, .slice A i1 a, .slice B i2 b] 24)).al (.cells #[.bool false, .slice none 0 0, .slice none 0 0] 24))
  have X3 := hide (Q3.new2 (.bool false) (.slice none 0 0) (.slice none 0 0) w (.cells #[.bool s, .slice A i1 a, .slice B i2 b] 24) (.cells #[.bool t, .slice C i3 c, .slice D i4 d] 24))
  have b0 : Below w.heap.size w (((w.alloc (.cells #[.bool s, .slice A i1 a, .slice B i2 b] 24)).alloc (.cells #[.bool t, .slice C i3 c, .slice D i4 d] 24)).alloc (.cells #[.bool false, .slice none 0 0, .slice none 0 0] 24)) := bl_al (bl_al (bl_al (.refl _ _) _) _) _
  obtain ⟨x1, x2, x3, x4, x5, x6⟩ := X1.out
  obtain ⟨y1, y2, y3, y4, y5, y6⟩ := X2.out
  go_enter Tryd.func55, Tryd.ntmps55
  go_wp2
  generalize ((w.alloc (.cells #[.bool s, .slice A i1 a, .slice B i2 b] 24)).alloc (.cells #[.bool t, .slice C i3 c, .slice D i4 d] 24)).alloc (.cells #[.bool false, .slice none 0 0, .slice none 0 0] 24) = w20 at *
  have kb := hide b0
  have ka : Hid (Below w.heap.size w (w20.alloc (.cells #[.bool false, .slice none 0 0] 77)).drew) := hide (bl_al kb.out (.cells #[.bool false, .slice none 0 0] 77)).drew
  have X1 := hide X1.out.drew
  have X2 := hide X2.out.drew
  have X3 := hide X3.out.drew
  have kb := hide kb.out.drew
  have l20 := X3.out.lt
  have l20 : w.heap.size + 1 + 1 < w20.heap.size := l20
  clear b0
  go_region_held3 (fun W => W.cell? ⟨w.heap.size, 0, none⟩ = some (.bool s) ∧ W.cell? ⟨w.heap.size, 1, none⟩ = some (.slice A i1 a) ∧ W.cell? ⟨w.heap.size, 2, none⟩ = some (.slice B i2 b) ∧ W.cell? ⟨w.heap.size + 1, 0, none⟩ = some (.bool t) ∧ W.cell? ⟨w.heap.size + 1, 1, none⟩ = some (.slice C i3 c) ∧ W.cell? ⟨w.heap.size + 1, 2, none⟩ = some (.slice D i4 d))
    (first | exact ⟨x1, x2, x3, y1, y2, y3⟩ | with_reducible exact q3_six X1.out X2.out | with_reducible exact T6c_next hb (by assumption) | with_reducible exact T6c_next (bl_al (.refl _ _) _) (by assumption) | with_reducible exact q3_six (X1.out.al _) (X2.out.al _) | with_reducible exact T6_set2 (by omega) (by omega) (by assumption) | with_reducible assumption | exact T6c_next (bl_al (.refl _ _) _) (by assumption))
    (first
      | (go_at_call 78; (with_reducible refine (M1.out _ (by first | exact kb.out | exact ka.out)).mono ?_); rintro e v1 ⟨P1, e1, rfl, z1, hb⟩; (first | (have X1 := hide (X1.out.next hb); have X2 := hide (X2.out.next hb); have X3 := hide (X3.out.next hb); have kb := hide (bl_trans kb.out hb); (try have Pa := hide (Pa.out.next hb))) | (have hb := (show Below (w20.drew.alloc (.cells #[.bool false, .slice none 0 0] 77)).heap.size (w20.drew.alloc (.cells #[.bool false, .slice none 0 0] 77)) v1 from hb); have h1 := bl_one hb; have X1 := hide (X1.out.next h1); have X2 := hide (X2.out.next h1); have X3 := hide (X3.out.next h1); have kb := hide (bl_trans kb.out h1); have Pa : Hid (Q2 w20.heap.size (.bool false) (.slice none 0 0) v1) := hide ((Q2.new (.bool false) (.slice none 0 0) w20.drew).next hb); clear h1)); have lx1 := X3.out.lt; (try have lp1 := Pa.out.lt); have zs1 := Below.size hb; (try rw [size1] at zs1))
      | (go_at_call 77; (with_reducible refine (W1.out P1 e1 _).mono ?_); rintro e v2 ⟨rfl, hb⟩; (first | (have X1 := hide (X1.out.next hb); have X2 := hide (X2.out.next hb); have X3 := hide (X3.out.next hb); have kb := hide (bl_trans kb.out hb); have z1 := kp' hb z1; (try have Pa := hide (Pa.out.next hb))) | (have h1 := bl_one hb; have X1 := hide (X1.out.next h1); have X2 := hide (X2.out.next h1); have X3 := hide (X3.out.next h1); have kb := hide (bl_trans kb.out h1); have z1 := kp' h1 z1; have Pa := hide ((Q2.new (.bool false) (.slice none 0 0) v1).next hb); clear h1)); have lx2 := X3.out.lt; (try have lp2 := Pa.out.lt); have zs2 := Below.size hb; (try rw [size1] at zs2))
      | (go_at_call 78; (with_reducible refine (M2.out _ (by first | exact kb.out | exact bl_al kb.out _)).mono ?_); rintro e v3 ⟨P3, e3, rfl, z3, hb⟩; (first | (have X1 := hide (X1.out.next hb); have X2 := hide (X2.out.next hb); have X3 := hide (X3.out.next hb); have kb := hide (bl_trans kb.out hb); have z1 := kp' hb z1; (try have Pa := hide (Pa.out.next hb))) | (have h1 := bl_one hb; have X1 := hide (X1.out.next h1); have X2 := hide (X2.out.next h1); have X3 := hide (X3.out.next h1); have kb := hide (bl_trans kb.out h1); have z1 := kp' h1 z1; have Pa := hide ((Q2.new (.bool false) (.slice none 0 0) v2).next hb); clear h1)); have lx3 := X3.out.lt; (try have lp3 := Pa.out.lt); have zs3 := Below.size hb; (try rw [size1] at zs3))
      | (go_at_call 77; (with_reducible refine (W2.out P3 e3 _).mono ?_); rintro e v4 ⟨rfl, hb⟩; (first | (have X1 := hide (X1.out.next hb); have X2 := hide (X2.out.next hb); have X3 := hide (X3.out.next hb); have kb := hide (bl_trans kb.out hb); have z1 := kp' hb z1; have z3 := kp' hb z3; (try have Pa := hide (Pa.out.next hb))) | (have h1 := bl_one hb; have X1 := hide (X1.out.next h1); have X2 := hide (X2.out.next h1); have X3 := hide (X3.out.next h1); have kb := hide (bl_trans kb.out h1); have z1 := kp' h1 z1; have z3 := kp' h1 z3; have Pa := hide ((Q2.new (.bool false) (.slice none 0 0) v3).next hb); clear h1)); have lx4 := X3.out.lt; (try have lp4 := Pa.out.lt); have zs4 := Below.size hb; (try rw [size1] at zs4))
      | (go_at_call 79; (with_reducible refine (AI.out P1 P3 e1 e3 _ (by first | exact z1 | exact z1.alloc _) (by first | exact z3 | exact z3.alloc _)).mono ?_); rintro e v5 ⟨S5, e5, rfl, z5, hb⟩; (first | (have X1 := hide (X1.out.next hb); have X2 := hide (X2.out.next hb); have X3 := hide (X3.out.next hb); have kb := hide (bl_trans kb.out hb); (try have Pa := hide (Pa.out.next hb))) | (have h1 := bl_one hb; have X1 := hide (X1.out.next h1); have X2 := hide (X2.out.next h1); have X3 := hide (X3.out.next h1); have kb := hide (bl_trans kb.out h1); have Pa := hide ((Q2.new (.bool false) (.slice none 0 0) v4).next hb); clear h1)); have lx5 := X3.out.lt; (try have lp5 := Pa.out.lt); have zs5 := Below.size hb; (try rw [size1] at zs5); (try (obtain ⟨pa1, pa2, pa3, pa4⟩ := Pa.out))))
  all_goals
    have f0 : UA0 w w.heap.size (w.heap.size + 1) (w.heap.size + 1 + 1) (.bool s) (.slice A i1 a) (.slice B i2 b) (.bool t) (.slice C i3 c) (.slice D i4 d) (.bool false) (.slice none 0 0) (.slice none 0 0) S5 n v5 := ⟨kb.out, X1.out, X2.out, X3.out, z5⟩
    refine then_fin (Fn := UA w w.heap.size (w.heap.size + 1) (w.heap.size + 1 + 1) (.bool s) (.slice A i1 a) (.slice B i2 b) (.bool t) (.slice C i3 c) (.slice D i4 d) (.bool false) (.slice none 0 0) (.slice none 0 0) S5 n (.bool sz) (.slice S5 (ln n) e5) _) (by
      first
        | with_reducible exact ua_new f0
        | with_reducible exact ua_set f0 Pa.out (by omega) (by omega) (by omega) (by omega)) ?_
    clear f0 z5 X1 X2 X3 kb
    rintro V ⟨⟨b9, X1, X2, X3, s9⟩, Y, l1, l2, l3, G, hG⟩
    rw [← hG] at Y l1 l2 l3 ⊢
    clear hG
    have X3 := hide X3
    have k1 := X1.2.2.1
    have k2 := X2.2.2.1
    have k3 := Y.1
    have k4 := Y.2.1
    have kb := hide b9.drew
    have X3 := hide X3.out.drew
    have s9 : Sl V.drew S5 (digs n) := s9
    clear X1 X2 Y
    go_wp2
    go_region_held3 (fun W => W.cell? ⟨G, 0, none⟩ = some (.bool sz) ∧ W.cell? ⟨G, 1, none⟩ = some (.slice S5 (ln n) e5) ∧ W.cell? ⟨w.heap.size, 2, none⟩ = some (.slice B i2 b) ∧ W.cell? ⟨w.heap.size + 1, 2, none⟩ = some (.slice D i4 d))
      (first | exact ⟨k3, k4, k1, k2⟩ | with_reducible exact S4q_next hb (by assumption) | with_reducible exact S4q_over (by omega) (by omega) (by omega) (by assumption) | with_reducible assumption)
      (first
        | (go_at_call 78; (with_reducible refine (M3.out _ kb.out).mono ?_); rintro e v7 ⟨P7, e7, rfl, z7, hb⟩; have X3 := hide (X3.out.next hb); have kb := hide (bl_trans kb.out hb); have s9 := kp' hb s9)
        | (go_at_call 37; (with_reducible refine (MD.out S5 P7 e5 e7 _ s9 z7).mono ?_); rintro e v8 ⟨A8, c8, B8, d8, rfl, s8, t8, hb, k8, j8⟩; have X3 := hide (X3.out.next hb); have kb := hide (bl_trans kb.out hb); obtain ⟨r1, r2, r3, r4, r5, r6⟩ := X3.out))
    all_goals
      go_wp2
      exact bodyPost_ret (v := .agg #[.bool (qs Z), .slice A8 (ln (qn Z)) c8, .slice B8 (ln (qd Z)) d8]) (by simp [results, Tryd.results55, go_sem, r1, r2, r3]) rfl (RQC.mk rfl rfl rfl (s8.over3 X3.out _ _ _) (t8.over3 X3.out _ _ _) (Below.over3 kb.out (by omega) _ _ _) k8 j8)
set_option maxRecDepth 100000 in
set_option maxHeartbeats 1000000 in
theorem rfits_c (q : Rat) (A B : Option Addr) (a b : Nat) (w : World) (sA : Sl w A (digs (qn q))) (sB : Sl w B (digs (qd q))) (f : fitq q) (ka : ln (qn q) ≤ a) (kb : ln (qd q) ≤ b) :
    Calls Tryd.prog 54 #[.agg #[.bool (qs q), .slice A (ln (qn q)) a, .slice B (ln (qd q)) b]] w (RQEC w q) := by
  have e1 := leI 3 (show (ln (qn q) : Int) ≤ 64 by have := f.1; omega)
  have e2 := leI 3 (show (ln (qd q) : Int) ≤ 64 by have := f.2; omega)
  have X := hide (Q3.new1 (.bool false) (.slice none 0 0) (.slice none 0 0) w (.cells #[.bool (qs q), .slice A (ln (qn q)) a, .slice B (ln (qd q)) b] 24))
  have b0 : Below w.heap.size w ((w.alloc (.cells #[.bool (qs q), .slice A (ln (qn q)) a, .slice B (ln (qd q)) b] 24)).alloc (.cells #[.bool false, .slice none 0 0, .slice none 0 0] 24)) := bl_al (bl_al (.refl _ _) _) _
  have R := hide (fun (W : World) (k : Below w.heap.size w W) => (RQEC.mk rfl rfl rfl (kp' k sA) (kp' k sB) k ka kb : RQEC w q (.returned (.tuple #[.agg #[.bool (qs q), .slice A (ln (qn q)) a, .slice B (ln (qd q)) b], .int .i64 0])) W))
  clear sA sB f ka kb
  generalize qs q = s at *
  generalize ln (qn q) = i1 at *
  generalize ln (qd q) = i2 at *
  have X1 := hide ((Q3.new (.bool s) (.slice A i1 a) (.slice B i2 b) w).al (.cells #[.bool false, .slice none 0 0, .slice none 0 0] 24))
  obtain ⟨x1, x2, x3, x4, x5, x6⟩ := X.out
  obtain ⟨y1, y2, y3, y4, y5, y6⟩ := X1.out
  go_enter Tryd.func54, Tryd.ntmps54
  go_wp2
  exact bodyPost_ret (v := .tuple #[.agg #[.bool s, .slice A i1 a, .slice B i2 b], .int .i64 0]) (by simp [results, Tryd.results54, go_sem]) rfl (R.out _ (bl_al (bl_al (.refl _ _) _) _))

set_option maxRecDepth 100000 in
set_option maxHeartbeats 4000000 in
theorem radd_c (q r Z : Rat) (hZ : q + r = Z) (A B C D : Option Addr) (a b c d : Nat) (w : World) (sA : Sl w A (digs (qn q))) (sB : Sl w B (digs (qd q))) (sC : Sl w C (digs (qn r))) (sD : Sl w D (digs (qd r))) (f1 : fitq q) (f2 : fitq r) (f3 : fitq Z) :
    Calls Tryd.prog 25 #[.agg #[.bool (qs q), .slice A (ln (qn q)) a, .slice B (ln (qd q)) b], .agg #[.bool (qs r), .slice C (ln (qn r)) c, .slice D (ln (qd r)) d]] w (RQEC w Z) := by
  have V1 := hide (fun W (k : Below w.heap.size w W) => rvalid_q q A B a b W (kp' k sA) (kp' k sB) f1)
  have V2 := hide (fun W (k : Below w.heap.size w W) => rvalid_q r C D c d W (kp' k sC) (kp' k sD) f2)
  have AR := hide (fun W (k : Below w.heap.size w W) => raddRat_c q r Z hZ A B C D a b c d W (kp' k sA) (kp' k sB) (kp' k sC) (kp' k sD) f1 f2)
  have FT := hide (fun X Y e f W (sx : Sl W X (digs (qn Z))) (sy : Sl W Y (digs (qd Z))) (k1 : ln (qn Z) ≤ e) (k2 : ln (qd Z) ≤ f) => rfits_c Z X Y e f W sx sy f3 k1 k2)
  clear sA sB sC sD f1 f2 f3 hZ
  generalize qs q = s at *
  generalize qs r = t at *
  generalize ln (qn q) = i1 at *
  generalize ln (qd q) = i2 at *
  generalize ln (qn r) = i3 at *
  generalize ln (qd r) = i4 at *
  have X1 := hide (((Q3.new (.bool s) (.slice A i1 a) (.slice B i2 b) w).al (.cells #[.bool t, .slice C i3 c, .slice D i4 d] 24)).al (.cells #[.bool false, .slice none 0 0, .slice none 0 0] 24))
  have X2 := hide ((Q3.new1 (.bool t) (.slice C i3 c) (.slice D i4 d) w (.cells #[.bool s, .slice A i1 a, .slice B i2 b] 24)).al (.cells #[.bool false, .slice none 0 0, .slice none 0 0] 24))
  have X3 := hide (Q3.new2 (.bool false) (.slice none 0 0) (.slice none 0 0) w (.cells #[.bool s, .slice A i1 a, .slice B i2 b] 24) (.cells #[.bool t, .slice C i3 c, .slice D i4 d] 24))
  have b0 : Below w.heap.size w (((w.alloc (.cells #[.bool s, .slice A i1 a, .slice B i2 b] 24)).alloc (.cells #[.bool t, .slice C i3 c, .slice D i4 d] 24)).alloc (.cells #[.bool false, .slice none 0 0, .slice none 0 0] 24)) := bl_al (bl_al (bl_al (.refl _ _) _) _) _
  go_enter Tryd.func25, Tryd.ntmps25
  go_wp2_with (first
    | (go_at_call 16; (with_reducible refine (V1.out _ b0).mono ?_); rintro e w1 ⟨rfl, hb⟩; have X1 := hide (X1.out.next hb); have X2 := hide (X2.out.next hb); have X3 := hide (X3.out.next hb); (try clear x1 x2 x3 x4 x5 x6 y1 y2 y3 y4 y5 y6 u1 u2 u3 u4 u5 u6); obtain ⟨x1, x2, x3, x4, x5, x6⟩ := X1.out; obtain ⟨y1, y2, y3, y4, y5, y6⟩ := X2.out; obtain ⟨u1, u2, u3, u4, u5, u6⟩ := X3.out; have b1 := bl_trans b0 hb; clear hb)
    | (go_at_call 16; (with_reducible refine (V2.out _ b1).mono ?_); rintro e w2 ⟨rfl, hb⟩; have X1 := hide (X1.out.next hb); have X2 := hide (X2.out.next hb); have X3 := hide (X3.out.next hb); (try clear x1 x2 x3 x4 x5 x6 y1 y2 y3 y4 y5 y6 u1 u2 u3 u4 u5 u6); obtain ⟨x1, x2, x3, x4, x5, x6⟩ := X1.out; obtain ⟨y1, y2, y3, y4, y5, y6⟩ := X2.out; obtain ⟨u1, u2, u3, u4, u5, u6⟩ := X3.out; have b2 := bl_trans b1 hb; clear hb)
    | (go_at_call 55; (with_reducible refine (AR.out _ b2).mono ?_); rintro e w3 ⟨P3, p3, P4, p4, rfl, z3, z4, hb, k3, k4⟩; have X1 := hide (X1.out.next hb); have X2 := hide (X2.out.next hb); have X3 := hide (X3.out.next hb); (try clear x1 x2 x3 x4 x5 x6 y1 y2 y3 y4 y5 y6 u1 u2 u3 u4 u5 u6); obtain ⟨x1, x2, x3, x4, x5, x6⟩ := X1.out; obtain ⟨y1, y2, y3, y4, y5, y6⟩ := X2.out; obtain ⟨u1, u2, u3, u4, u5, u6⟩ := X3.out; have b3 := bl_trans b2 hb; clear hb)
    | (go_at_call 54; (with_reducible refine (FT.out P3 P4 p3 p4 _ z3 z4 k3 k4).mono ?_); rintro e w4 ⟨P5, p5, P6, p6, rfl, z5, z6, hb, k5, k6⟩; have X1 := hide (X1.out.next hb); have X2 := hide (X2.out.next hb); have X3 := hide (X3.out.next hb); (try clear x1 x2 x3 x4 x5 x6 y1 y2 y3 y4 y5 y6 u1 u2 u3 u4 u5 u6); obtain ⟨x1, x2, x3, x4, x5, x6⟩ := X1.out; obtain ⟨y1, y2, y3, y4, y5, y6⟩ := X2.out; obtain ⟨u1, u2, u3, u4, u5, u6⟩ := X3.out; have b4 := bl_trans b3 hb; clear hb))
  exact bodyPost_ret (v := .tuple #[.agg #[.bool (qs Z), .slice P5 (ln (qn Z)) p5, .slice P6 (ln (qd Z)) p6], .int .i64 0]) (by simp [results, Tryd.results25, go_sem, u1, u2, u3]) rfl (RQEC.mk rfl rfl rfl (z5.over3 X3.out _ _ _) (z6.over3 X3.out _ _ _) (Below.over3 b4 (by omega) _ _ _) k5 k6)
end Nt
end Go.Proofs.YtgmjdaallinicaaDoor
set_option linter.unusedVariables false
set_option linter.unusedSimpArgs false
namespace Go.Proofs.YtgmjdaallinicaaDoor
open Go.RowKit
namespace Nt

theorem rq_bnd (s : Bool) {r : Nat} (hr : r < 2047 * 2 ^ 52) : bnd 20 (rq s r) := by
  by_cases h0 : r = 0
  · subst h0
    rw [rq_zero]
    exact ⟨by rw [show qn 0 = 0 from rfl]; decide, by rw [show qd 0 = 1 from rfl]; decide⟩
  obtain ⟨y, k, h⟩ := lifts_any (by omega) hr
  obtain ⟨-, -, h1, h2, h3, -⟩ := h.facts
  obtain ⟨e, f, hf, hy⟩ := rung_split y (by omega)
  obtain ⟨o, -, -, hj, -, ho, hh⟩ := back_math s h hy hf
  obtain ⟨e1, e2, -⟩ := hh _ rfl
  generalize Lib.ctz 64 (2 ^ 52 + f) = j at *
  have big : ∀ t : Nat, t ≤ 1200 → ∀ x : Nat, x < 2 ^ 53 → x * 2 ^ t < LB ^ 20 := fun t ht x hx => by
    have a1 : x * 2 ^ t < 2 ^ 53 * 2 ^ t := Nat.mul_lt_mul_of_pos_right hx (Nat.two_pow_pos _)
    rw [← Nat.pow_add] at a1
    obtain ⟨K, hK⟩ : ∃ K, K = 20 := ⟨_, rfl⟩
    have a2 : 2 ^ (53 + t) ≤ 2 ^ (64 * K) := Nat.pow_le_pow_right (by decide) (by omega)
    have a3 : LB ^ K = 2 ^ (64 * K) := by rw [LB_eq, show 18446744073709551616 = 2 ^ 64 by decide, ← Nat.pow_mul]
    have a4 : x * 2 ^ t < LB ^ K := by rw [a3]; exact Nat.lt_of_lt_of_le a1 a2
    rwa [hK] at a4
  refine ⟨?_, ?_⟩
  · rw [e1]
    exact big _ (by omega) o ho
  · rw [e2]
    have := big (-((e : Int) - k - 1074 + j)).toNat (by omega) 1 (by decide)
    rwa [Nat.one_mul] at this
theorem sum_fit (s t : Bool) {a b : Nat} (ha : a < 2047 * 2 ^ 52) (hb : b < 2047 * 2 ^ 52) : fitq (rq s a + rq t b) := by
  have h := bnd_add (rq_bnd s ha) (rq_bnd t hb)
  exact ⟨Nat.le_trans (ln_le h.1) (by decide), Nat.le_trans (ln_le h.2) (by decide)⟩
/-- The greatest float that is not above a sum, and the least that is not below, by the sum's bounds. -/
theorem dn_qb {T : Int} {q : Rat} (hq : q = mkRat T KU) (hT : T.natAbs ≤ U 9099492520756278684) {rs is : Bool} {r i : Nat} (Q : Qb (qs q) (qn q) (qd q) rs r is i) :
    Dn T rs r ∧ ∃ v p, Dn (-T) v p ∧ p ≤ 2047 * 2 ^ 52 ∧ is = (!v && decide (0 < p)) ∧ i = p := by
  obtain ⟨z, x, hf, hx, hh⟩ := Q
  obtain ⟨m, m0, m1, m2⟩ := mk_ends T KU (Nat.ne_of_gt KU_pos)
  rw [← hq] at m1 m2
  have e1 : T.natAbs = qn q * m := by rw [m1, Int.natAbs_mul]; rfl
  have e2 : KU = qd q * m := m2
  have kp := KU_pos
  have a1 : U z ≤ T.natAbs := by
    refine Nat.le_of_mul_le_mul_right (c := qd q) ?_ (qd_pos q)
    refine Nat.le_of_mul_le_mul_right (c := m) ?_ m0
    have := Nat.mul_le_mul_right m hf.1
    rw [e1, Nat.mul_assoc (qn q * m), ← e2, Nat.mul_right_comm (qn q) m KU]
    exact this
  have a2 : T.natAbs < U (z + 1) := by
    refine Nat.lt_of_mul_lt_mul_right (a := qd q) ?_
    refine Nat.lt_of_mul_lt_mul_right (a := m) ?_
    have := Nat.mul_lt_mul_of_pos_right hf.2 m0
    rw [e1, Nat.mul_assoc (qn q * m), ← e2, Nat.mul_right_comm (qn q) m KU]
    exact this
  have a3 : x = decide (U z = T.natAbs) := by
    rw [hx]
    refine decide_eq_decide.2 ⟨fun h => ?_, fun h => ?_⟩
    · refine Nat.eq_of_mul_eq_mul_right (qd_pos q) (Nat.eq_of_mul_eq_mul_right m0 ?_)
      rw [e1, Nat.mul_assoc (qn q * m), ← e2, Nat.mul_right_comm (qn q) m KU, h]
    · refine Nat.eq_of_mul_eq_mul_right m0 ?_
      rw [h, e1, Nat.mul_assoc (qn q * m), ← e2, Nat.mul_right_comm (qn q) m KU]
  have hz : z ≤ 9099492520756278684 := U_le_iff.1 (Nat.le_trans a1 hT)
  have hl : loR z = z := loR_of (by omega)
  have hh1 : hiR z x = if U z = T.natAbs then z else z + 1 := by
    rw [a3]
    by_cases h : U z = T.natAbs
    · rw [decide_eq_true h, if_pos h, hiR_t (by omega)]
    · rw [decide_eq_false h, if_neg h, hiR_f (by omega)]
  have hs : qs q = decide (T < 0) := by
    unfold qs isg
    refine decide_eq_decide.2 ?_
    have hm : (0 : Int) < m := by omega
    rw [m1]
    constructor
    · intro h; exact Int.mul_neg_of_neg_of_pos h hm
    · intro h
      rcases Int.lt_or_le (q.num) 0 with h1 | h1
      · exact h1
      · have := Int.mul_nonneg h1 (Int.le_of_lt hm); omega
  have hb : hiR z x ≤ 2047 * 2 ^ 52 := hiR_le z x
  rw [hs] at hh
  by_cases hn : T < 0
  · rw [decide_eq_true hn, if_pos rfl] at hh
    obtain ⟨rfl, rfl, rfl, rfl⟩ := hh
    rw [hl]
    refine ⟨.inr (.inr ⟨hn, rfl, z, by omega, by omega, ?_⟩), false, z, .inr (.inl ⟨by omega, rfl, by omega, by omega⟩), by omega, rfl, rfl⟩
    rw [hh1]
    by_cases h : U z = T.natAbs
    · rw [if_pos h, if_pos (by omega)]
    · rw [if_neg h, if_neg (by omega)]
  · rw [decide_eq_false hn, if_neg (by decide)] at hh
    obtain ⟨rfl, rfl, rfl, rfl⟩ := hh
    rw [hl]
    by_cases h0 : T = 0
    · have z0 : z = 0 := by
        refine Nat.le_antisymm (Nat.le_of_not_lt fun h => ?_) (Nat.zero_le _)
        have := U_pos h
        omega
      have hi0 : hiR z x = 0 := by rw [hh1, z0, U_zero, if_pos (by omega)]
      rw [hi0, z0]
      exact ⟨.inl ⟨h0, rfl, rfl⟩, false, 0, .inl ⟨by omega, rfl, rfl⟩, by omega, rfl, rfl⟩
    · have hp : 0 < T := by omega
      have hip : 0 < hiR z x := by
        rw [hh1]
        split
        · refine Nat.pos_of_ne_zero fun e => ?_
          rename_i h
          rw [e, U_zero] at h
          omega
        · omega
      refine ⟨.inr (.inl ⟨hp, rfl, by omega, by omega⟩), true, hiR z x, .inr (.inr ⟨by omega, rfl, z, by omega, by omega, ?_⟩), hb, rfl, rfl⟩
      rw [hh1]
      by_cases h : U z = T.natAbs
      · rw [if_pos h, if_pos (by omega)]
      · rw [if_neg h, if_neg (by omega)]
theorem sum_top (s t : Bool) {a b : Nat} (ha : a ≤ 9094988921128908188) (hb : b ≤ 9094988921128908188) : (I s a + I t b).natAbs ≤ U 9099492520756278684 := by
  have h := U_twice 9094988921128908188 (by decide)
  rw [show 9094988921128908188 + 2 ^ 52 = 9099492520756278684 by decide] at h
  have h1 := U_mono ha
  have h2 := U_mono hb
  rw [h]
  cases s <;> cases t <;> simp only [I_f, I_t] <;> omega
set_option maxRecDepth 100000 in
set_option maxHeartbeats 8000000 in
theorem qadds_main (S0 S1 S2 S3 : Bool) (r0 r1 r2 r3 : Nat) (w : World) (h0 : r0 ≤ 9094988921128908188) (h1 : r1 ≤ 9094988921128908188) (h2 : r2 ≤ 9094988921128908188) (h3 : r3 ≤ 9094988921128908188)
    (AW : Hid (∀ V : World, Below w.heap.size w V → Calls Tryd.prog 9 #[] V fun e V' => e = .returned (.bool true) ∧ Below V.heap.size V V')) :
    Calls Tryd.prog 6 #[.float .f64 (Ieee.double.word S0 r0), .float .f64 (Ieee.double.word S1 r1), .float .f64 (Ieee.double.word S2 r2), .float .f64 (Ieee.double.word S3 r3)] w fun e w' => e = .returned (.bool true) ∧ Below w.heap.size w w' := by
  have FN0 := hide (lfin_yes S0 r0 (by omega))
  have AB0 := hide (mabs S0 r0 (by omega))
  have g0 : binOp .gtr 25 (.float .f64 r0) (.float .f64 9094988921128908188) = pure (.bool false) := fl_gtr _ _ _ _ ((wo_gt false false r0 9094988921128908188 (by omega) (by decide)).trans (decide_eq_false (fun h => absurd (i_mono.1 h) (by omega))))
  have BK0 := hide (rback_f S0 r0 (by omega))
  have f0 := rq_fit S0 (show r0 < 2047 * 2 ^ 52 by omega)
  obtain ⟨q0, hq0⟩ : ∃ q, rq S0 r0 = q := ⟨_, rfl⟩
  have FN1 := hide (lfin_yes S1 r1 (by omega))
  have AB1 := hide (mabs S1 r1 (by omega))
  have g1 : binOp .gtr 25 (.float .f64 r1) (.float .f64 9094988921128908188) = pure (.bool false) := fl_gtr _ _ _ _ ((wo_gt false false r1 9094988921128908188 (by omega) (by decide)).trans (decide_eq_false (fun h => absurd (i_mono.1 h) (by omega))))
  have BK1 := hide (rback_f S1 r1 (by omega))
  have f1 := rq_fit S1 (show r1 < 2047 * 2 ^ 52 by omega)
  obtain ⟨q1, hq1⟩ : ∃ q, rq S1 r1 = q := ⟨_, rfl⟩
  have FN2 := hide (lfin_yes S2 r2 (by omega))
  have AB2 := hide (mabs S2 r2 (by omega))
  have g2 : binOp .gtr 25 (.float .f64 r2) (.float .f64 9094988921128908188) = pure (.bool false) := fl_gtr _ _ _ _ ((wo_gt false false r2 9094988921128908188 (by omega) (by decide)).trans (decide_eq_false (fun h => absurd (i_mono.1 h) (by omega))))
  have BK2 := hide (rback_f S2 r2 (by omega))
  have f2 := rq_fit S2 (show r2 < 2047 * 2 ^ 52 by omega)
  obtain ⟨q2, hq2⟩ : ∃ q, rq S2 r2 = q := ⟨_, rfl⟩
  have FN3 := hide (lfin_yes S3 r3 (by omega))
  have AB3 := hide (mabs S3 r3 (by omega))
  have g3 : binOp .gtr 25 (.float .f64 r3) (.float .f64 9094988921128908188) = pure (.bool false) := fl_gtr _ _ _ _ ((wo_gt false false r3 9094988921128908188 (by omega) (by decide)).trans (decide_eq_false (fun h => absurd (i_mono.1 h) (by omega))))
  have BK3 := hide (rback_f S3 r3 (by omega))
  have f3 := rq_fit S3 (show r3 < 2047 * 2 ^ 52 by omega)
  obtain ⟨q3, hq3⟩ : ∃ q, rq S3 r3 = q := ⟨_, rfl⟩
  have fL := sum_fit S0 S2 (show r0 < 2047 * 2 ^ 52 by omega) (show r2 < 2047 * 2 ^ 52 by omega)
  have fH := sum_fit S1 S3 (show r1 < 2047 * 2 ^ 52 by omega) (show r3 < 2047 * 2 ^ 52 by omega)
  have eL := rq_rq S0 S2 r0 r2
  have eH := rq_rq S1 S3 r1 r3
  rw [hq0, hq2] at fL eL
  rw [hq1, hq3] at fH eH
  obtain ⟨qL, hqL⟩ : ∃ q, q0 + q2 = q := ⟨_, rfl⟩
  obtain ⟨qH, hqH⟩ : ∃ q, q1 + q3 = q := ⟨_, rfl⟩
  rw [hqL] at fL eL
  rw [hqH] at fH eH
  obtain ⟨u1, l1, u2, l2, QL⟩ := qb_rat qL fL
  obtain ⟨u3, l3, u4, l4, QH⟩ := qb_rat qH fH
  obtain ⟨D1, -⟩ := dn_qb eL (sum_top S0 S2 h0 h2) QL
  obtain ⟨-, v, p, D2, hp, hu4, hl4⟩ := dn_qb eH (sum_top S1 S3 h1 h3) QH
  have ADD := hide (add_f S0 r0 S1 r1 S2 r2 S3 r3 (by omega) (by omega) (by omega) (by omega) u1 v l1 p D1 D2 hp)
  subst hl4
  rw [← hu4] at ADD
  obtain ⟨_, _, _, _, _, _, m1, m2⟩ := QL.vals
  obtain ⟨_, _, _, _, _, _, m3, m4⟩ := QH.vals
  have EQ1 := hide (equal_f u1 u1 l1 l1 m1 m1 true (decide_eq_true rfl))
  have EQ2 := hide (equal_f u4 u4 l4 l4 m4 m4 true (decide_eq_true rfl))
  have ADL := hide (fun A B C D a b c d (V : World) x1 x2 x3 x4 => radd_c q0 q2 qL hqL A B C D a b c d V x1 x2 x3 x4 (by rw [← hq0]; exact f0) (by rw [← hq2]; exact f2) fL)
  have ADH := hide (fun A B C D a b c d (V : World) x1 x2 x3 x4 => radd_c q1 q3 qH hqH A B C D a b c d V x1 x2 x3 x4 (by rw [← hq1]; exact f1) (by rw [← hq3]; exact f3) fH)
  have QKL := hide (fun A B a b (V : World) x1 x2 ca cb => rquick_f qL A B a b u1 l1 u2 l2 V x1 x2 fL ca cb QL)
  have QKH := hide (fun A B a b (V : World) x1 x2 ca cb => rquick_f qH A B a b u3 l3 u4 l4 V x1 x2 fH ca cb QH)
  rw [hq0] at BK0
  rw [hq1] at BK1
  rw [hq2] at BK2
  rw [hq3] at BK3
  have b00 : Below w.heap.size w w := .refl _ _
  clear h0 h1 h2 h3 f0 f1 f2 f3 hq0 hq1 hq2 hq3 fL fH eL eH hqL hqH QL QH D1 D2 hp hu4 m1 m2 m3 m4
  generalize Ieee.double.word S0 r0 = x0 at *
  generalize Ieee.double.word S1 r1 = x1 at *
  generalize Ieee.double.word S2 r2 = x2 at *
  generalize Ieee.double.word S3 r3 = x3 at *
  generalize Ieee.double.word u1 l1 = z1 at *
  generalize Ieee.double.word u2 l2 = z2 at *
  generalize Ieee.double.word u3 l3 = z3 at *
  generalize Ieee.double.word u4 l4 = z4 at *
  go_enter Tryd.func6, Tryd.ntmps6
  go_wp2_with (first
    | (go_at_call 17; (with_reducible refine (FN0.out _).mono ?_); rintro e v1 ⟨rfl, rfl⟩)
    | (go_at_call 17; (with_reducible refine (FN1.out _).mono ?_); rintro e v1 ⟨rfl, rfl⟩)
    | (go_at_call 17; (with_reducible refine (FN2.out _).mono ?_); rintro e v1 ⟨rfl, rfl⟩)
    | (go_at_call 17; (with_reducible refine (FN3.out _).mono ?_); rintro e v1 ⟨rfl, rfl⟩)
    | (go_at_call 23; (with_reducible refine (AB0.out _).mono ?_); rintro e v1 ⟨rfl, rfl⟩)
    | (go_at_call 23; (with_reducible refine (AB1.out _).mono ?_); rintro e v1 ⟨rfl, rfl⟩)
    | (go_at_call 23; (with_reducible refine (AB2.out _).mono ?_); rintro e v1 ⟨rfl, rfl⟩)
    | (go_at_call 23; (with_reducible refine (AB3.out _).mono ?_); rintro e v1 ⟨rfl, rfl⟩)
    | (go_at_call 24; (with_reducible refine (ADD.out _).mono ?_); rintro e v1 ⟨rfl, rfl⟩)
    | (go_at_call 11; (with_reducible refine (BK0.out _).mono ?_); rintro e w1 ⟨A0, a0, B0, b0, rfl, s0, t0, hb⟩; have bb1 := bl_al (bl_trans b00 hb) (.cells #[.bool (qs q0), .slice A0 (ln (qn q0)) a0, .slice B0 (ln (qd q0)) b0] 24); have Y0 := hide (Q3.new (.bool (qs q0)) (.slice A0 (ln (qn q0)) a0) (.slice B0 (ln (qd q0)) b0) w1); have s0 := s0.alloc (.cells #[.bool (qs q0), .slice A0 (ln (qn q0)) a0, .slice B0 (ln (qd q0)) b0] 24); have t0 := t0.alloc (.cells #[.bool (qs q0), .slice A0 (ln (qn q0)) a0, .slice B0 (ln (qd q0)) b0] 24); clear hb)
    | (go_at_call 11; (with_reducible refine (BK1.out _).mono ?_); rintro e w2 ⟨A1, a1, B1, b1, rfl, s1, t1, hb⟩; have bb2 := bl_al (bl_trans bb1 hb) (.cells #[.bool (qs q1), .slice A1 (ln (qn q1)) a1, .slice B1 (ln (qd q1)) b1] 24); have Y0 := hide ((Y0.out.next hb).al (.cells #[.bool (qs q1), .slice A1 (ln (qn q1)) a1, .slice B1 (ln (qd q1)) b1] 24)); have s0 := (kp' hb s0).alloc (.cells #[.bool (qs q1), .slice A1 (ln (qn q1)) a1, .slice B1 (ln (qd q1)) b1] 24); have t0 := (kp' hb t0).alloc (.cells #[.bool (qs q1), .slice A1 (ln (qn q1)) a1, .slice B1 (ln (qd q1)) b1] 24); have Y1 := hide (Q3.new (.bool (qs q1)) (.slice A1 (ln (qn q1)) a1) (.slice B1 (ln (qd q1)) b1) w2); have s1 := s1.alloc (.cells #[.bool (qs q1), .slice A1 (ln (qn q1)) a1, .slice B1 (ln (qd q1)) b1] 24); have t1 := t1.alloc (.cells #[.bool (qs q1), .slice A1 (ln (qn q1)) a1, .slice B1 (ln (qd q1)) b1] 24); clear hb)
    | (go_at_call 11; (with_reducible refine (BK2.out _).mono ?_); rintro e w3 ⟨A2, a2, B2, b2, rfl, s2, t2, hb⟩; have bb3 := bl_al (bl_trans bb2 hb) (.cells #[.bool (qs q2), .slice A2 (ln (qn q2)) a2, .slice B2 (ln (qd q2)) b2] 24); have Y0 := hide ((Y0.out.next hb).al (.cells #[.bool (qs q2), .slice A2 (ln (qn q2)) a2, .slice B2 (ln (qd q2)) b2] 24)); have Y1 := hide ((Y1.out.next hb).al (.cells #[.bool (qs q2), .slice A2 (ln (qn q2)) a2, .slice B2 (ln (qd q2)) b2] 24)); have s0 := (kp' hb s0).alloc (.cells #[.bool (qs q2), .slice A2 (ln (qn q2)) a2, .slice B2 (ln (qd q2)) b2] 24); have t0 := (kp' hb t0).alloc (.cells #[.bool (qs q2), .slice A2 (ln (qn q2)) a2, .slice B2 (ln (qd q2)) b2] 24); have s1 := (kp' hb s1).alloc (.cells #[.bool (qs q2), .slice A2 (ln (qn q2)) a2, .slice B2 (ln (qd q2)) b2] 24); have t1 := (kp' hb t1).alloc (.cells #[.bool (qs q2), .slice A2 (ln (qn q2)) a2, .slice B2 (ln (qd q2)) b2] 24); have Y2 := hide (Q3.new (.bool (qs q2)) (.slice A2 (ln (qn q2)) a2) (.slice B2 (ln (qd q2)) b2) w3); have s2 := s2.alloc (.cells #[.bool (qs q2), .slice A2 (ln (qn q2)) a2, .slice B2 (ln (qd q2)) b2] 24); have t2 := t2.alloc (.cells #[.bool (qs q2), .slice A2 (ln (qn q2)) a2, .slice B2 (ln (qd q2)) b2] 24); clear hb)
    | (go_at_call 11; (with_reducible refine (BK3.out _).mono ?_); rintro e w4 ⟨A3, a3, B3, b3, rfl, s3, t3, hb⟩; have bb4 := bl_al (bl_trans bb3 hb) (.cells #[.bool (qs q3), .slice A3 (ln (qn q3)) a3, .slice B3 (ln (qd q3)) b3] 24); have Y0 := hide ((Y0.out.next hb).al (.cells #[.bool (qs q3), .slice A3 (ln (qn q3)) a3, .slice B3 (ln (qd q3)) b3] 24)); have Y1 := hide ((Y1.out.next hb).al (.cells #[.bool (qs q3), .slice A3 (ln (qn q3)) a3, .slice B3 (ln (qd q3)) b3] 24)); have Y2 := hide ((Y2.out.next hb).al (.cells #[.bool (qs q3), .slice A3 (ln (qn q3)) a3, .slice B3 (ln (qd q3)) b3] 24)); have s0 := (kp' hb s0).alloc (.cells #[.bool (qs q3), .slice A3 (ln (qn q3)) a3, .slice B3 (ln (qd q3)) b3] 24); have t0 := (kp' hb t0).alloc (.cells #[.bool (qs q3), .slice A3 (ln (qn q3)) a3, .slice B3 (ln (qd q3)) b3] 24); have s1 := (kp' hb s1).alloc (.cells #[.bool (qs q3), .slice A3 (ln (qn q3)) a3, .slice B3 (ln (qd q3)) b3] 24); have t1 := (kp' hb t1).alloc (.cells #[.bool (qs q3), .slice A3 (ln (qn q3)) a3, .slice B3 (ln (qd q3)) b3] 24); have s2 := (kp' hb s2).alloc (.cells #[.bool (qs q3), .slice A3 (ln (qn q3)) a3, .slice B3 (ln (qd q3)) b3] 24); have t2 := (kp' hb t2).alloc (.cells #[.bool (qs q3), .slice A3 (ln (qn q3)) a3, .slice B3 (ln (qd q3)) b3] 24); have Y3 := hide (Q3.new (.bool (qs q3)) (.slice A3 (ln (qn q3)) a3) (.slice B3 (ln (qd q3)) b3) w4); have s3 := s3.alloc (.cells #[.bool (qs q3), .slice A3 (ln (qn q3)) a3, .slice B3 (ln (qd q3)) b3] 24); have t3 := t3.alloc (.cells #[.bool (qs q3), .slice A3 (ln (qn q3)) a3, .slice B3 (ln (qd q3)) b3] 24); clear hb; obtain ⟨y01, y02, y03, y04, y05, y06⟩ := Y0.out; obtain ⟨y11, y12, y13, y14, y15, y16⟩ := Y1.out; obtain ⟨y21, y22, y23, y24, y25, y26⟩ := Y2.out; obtain ⟨y31, y32, y33, y34, y35, y36⟩ := Y3.out)
    | (go_at_call 25; (with_reducible refine (ADL.out A0 B0 A2 B2 a0 b0 a2 b2 _ s0 t0 s2 t2).mono ?_); rintro e w5 ⟨AL, aL, BL, bL, rfl, sL, tL, hb, kL, jL⟩; have bb5 := bl_al (bl_trans bb4 hb) (.cells #[.bool (qs qL), .slice AL (ln (qn qL)) aL, .slice BL (ln (qd qL)) bL] 24); clear y01 y02 y03 y04 y05 y06 y11 y12 y13 y14 y15 y16 y21 y22 y23 y24 y25 y26 y31 y32 y33 y34 y35 y36; have Y0 := hide ((Y0.out.next hb).al (.cells #[.bool (qs qL), .slice AL (ln (qn qL)) aL, .slice BL (ln (qd qL)) bL] 24)); have Y1 := hide ((Y1.out.next hb).al (.cells #[.bool (qs qL), .slice AL (ln (qn qL)) aL, .slice BL (ln (qd qL)) bL] 24)); have Y2 := hide ((Y2.out.next hb).al (.cells #[.bool (qs qL), .slice AL (ln (qn qL)) aL, .slice BL (ln (qd qL)) bL] 24)); have Y3 := hide ((Y3.out.next hb).al (.cells #[.bool (qs qL), .slice AL (ln (qn qL)) aL, .slice BL (ln (qd qL)) bL] 24)); have s0 := (kp' hb s0).alloc (.cells #[.bool (qs qL), .slice AL (ln (qn qL)) aL, .slice BL (ln (qd qL)) bL] 24); have t0 := (kp' hb t0).alloc (.cells #[.bool (qs qL), .slice AL (ln (qn qL)) aL, .slice BL (ln (qd qL)) bL] 24); have s1 := (kp' hb s1).alloc (.cells #[.bool (qs qL), .slice AL (ln (qn qL)) aL, .slice BL (ln (qd qL)) bL] 24); have t1 := (kp' hb t1).alloc (.cells #[.bool (qs qL), .slice AL (ln (qn qL)) aL, .slice BL (ln (qd qL)) bL] 24); have s2 := (kp' hb s2).alloc (.cells #[.bool (qs qL), .slice AL (ln (qn qL)) aL, .slice BL (ln (qd qL)) bL] 24); have t2 := (kp' hb t2).alloc (.cells #[.bool (qs qL), .slice AL (ln (qn qL)) aL, .slice BL (ln (qd qL)) bL] 24); have s3 := (kp' hb s3).alloc (.cells #[.bool (qs qL), .slice AL (ln (qn qL)) aL, .slice BL (ln (qd qL)) bL] 24); have t3 := (kp' hb t3).alloc (.cells #[.bool (qs qL), .slice AL (ln (qn qL)) aL, .slice BL (ln (qd qL)) bL] 24); have YL := hide (Q3.new (.bool (qs qL)) (.slice AL (ln (qn qL)) aL) (.slice BL (ln (qd qL)) bL) w5); have sL := sL.alloc (.cells #[.bool (qs qL), .slice AL (ln (qn qL)) aL, .slice BL (ln (qd qL)) bL] 24); have tL := tL.alloc (.cells #[.bool (qs qL), .slice AL (ln (qn qL)) aL, .slice BL (ln (qd qL)) bL] 24); clear hb; obtain ⟨y01, y02, y03, y04, y05, y06⟩ := Y0.out; obtain ⟨y11, y12, y13, y14, y15, y16⟩ := Y1.out; obtain ⟨y21, y22, y23, y24, y25, y26⟩ := Y2.out; obtain ⟨y31, y32, y33, y34, y35, y36⟩ := Y3.out; obtain ⟨yL1, yL2, yL3, yL4, yL5, yL6⟩ := YL.out)
    | (go_at_call 25; (with_reducible refine (ADH.out A1 B1 A3 B3 a1 b1 a3 b3 _ s1 t1 s3 t3).mono ?_); rintro e w6 ⟨AH, aH, BH, bH, rfl, sH, tH, hb, kH, jH⟩; have bb6 := bl_al (bl_trans bb5 hb) (.cells #[.bool (qs qH), .slice AH (ln (qn qH)) aH, .slice BH (ln (qd qH)) bH] 24); clear y01 y02 y03 y04 y05 y06 y11 y12 y13 y14 y15 y16 y21 y22 y23 y24 y25 y26 y31 y32 y33 y34 y35 y36 yL1 yL2 yL3 yL4 yL5 yL6; have Y0 := hide ((Y0.out.next hb).al (.cells #[.bool (qs qH), .slice AH (ln (qn qH)) aH, .slice BH (ln (qd qH)) bH] 24)); have Y1 := hide ((Y1.out.next hb).al (.cells #[.bool (qs qH), .slice AH (ln (qn qH)) aH, .slice BH (ln (qd qH)) bH] 24)); have Y2 := hide ((Y2.out.next hb).al (.cells #[.bool (qs qH), .slice AH (ln (qn qH)) aH, .slice BH (ln (qd qH)) bH] 24)); have Y3 := hide ((Y3.out.next hb).al (.cells #[.bool (qs qH), .slice AH (ln (qn qH)) aH, .slice BH (ln (qd qH)) bH] 24)); have YL := hide ((YL.out.next hb).al (.cells #[.bool (qs qH), .slice AH (ln (qn qH)) aH, .slice BH (ln (qd qH)) bH] 24)); have s0 := (kp' hb s0).alloc (.cells #[.bool (qs qH), .slice AH (ln (qn qH)) aH, .slice BH (ln (qd qH)) bH] 24); have t0 := (kp' hb t0).alloc (.cells #[.bool (qs qH), .slice AH (ln (qn qH)) aH, .slice BH (ln (qd qH)) bH] 24); have s1 := (kp' hb s1).alloc (.cells #[.bool (qs qH), .slice AH (ln (qn qH)) aH, .slice BH (ln (qd qH)) bH] 24); have t1 := (kp' hb t1).alloc (.cells #[.bool (qs qH), .slice AH (ln (qn qH)) aH, .slice BH (ln (qd qH)) bH] 24); have s2 := (kp' hb s2).alloc (.cells #[.bool (qs qH), .slice AH (ln (qn qH)) aH, .slice BH (ln (qd qH)) bH] 24); have t2 := (kp' hb t2).alloc (.cells #[.bool (qs qH), .slice AH (ln (qn qH)) aH, .slice BH (ln (qd qH)) bH] 24); have s3 := (kp' hb s3).alloc (.cells #[.bool (qs qH), .slice AH (ln (qn qH)) aH, .slice BH (ln (qd qH)) bH] 24); have t3 := (kp' hb t3).alloc (.cells #[.bool (qs qH), .slice AH (ln (qn qH)) aH, .slice BH (ln (qd qH)) bH] 24); have sL := (kp' hb sL).alloc (.cells #[.bool (qs qH), .slice AH (ln (qn qH)) aH, .slice BH (ln (qd qH)) bH] 24); have tL := (kp' hb tL).alloc (.cells #[.bool (qs qH), .slice AH (ln (qn qH)) aH, .slice BH (ln (qd qH)) bH] 24); have YH := hide (Q3.new (.bool (qs qH)) (.slice AH (ln (qn qH)) aH) (.slice BH (ln (qd qH)) bH) w6); have sH := sH.alloc (.cells #[.bool (qs qH), .slice AH (ln (qn qH)) aH, .slice BH (ln (qd qH)) bH] 24); have tH := tH.alloc (.cells #[.bool (qs qH), .slice AH (ln (qn qH)) aH, .slice BH (ln (qd qH)) bH] 24); clear hb; obtain ⟨y01, y02, y03, y04, y05, y06⟩ := Y0.out; obtain ⟨y11, y12, y13, y14, y15, y16⟩ := Y1.out; obtain ⟨y21, y22, y23, y24, y25, y26⟩ := Y2.out; obtain ⟨y31, y32, y33, y34, y35, y36⟩ := Y3.out; obtain ⟨yL1, yL2, yL3, yL4, yL5, yL6⟩ := YL.out; obtain ⟨yH1, yH2, yH3, yH4, yH5, yH6⟩ := YH.out)
    | (go_at_call 14; (with_reducible refine (QKL.out AL BL aL bL _ sL tL kL jL).mono ?_); rintro e w7 ⟨rfl, hb⟩; have bb7 := bl_trans bb6 hb; clear y01 y02 y03 y04 y05 y06 y11 y12 y13 y14 y15 y16 y21 y22 y23 y24 y25 y26 y31 y32 y33 y34 y35 y36 yL1 yL2 yL3 yL4 yL5 yL6 yH1 yH2 yH3 yH4 yH5 yH6; have Y0 := hide (Y0.out.next hb); have Y1 := hide (Y1.out.next hb); have Y2 := hide (Y2.out.next hb); have Y3 := hide (Y3.out.next hb); have YL := hide (YL.out.next hb); have YH := hide (YH.out.next hb); have s0 := kp' hb s0; have t0 := kp' hb t0; have s1 := kp' hb s1; have t1 := kp' hb t1; have s2 := kp' hb s2; have t2 := kp' hb t2; have s3 := kp' hb s3; have t3 := kp' hb t3; have sL := kp' hb sL; have tL := kp' hb tL; have sH := kp' hb sH; have tH := kp' hb tH; clear hb; obtain ⟨y01, y02, y03, y04, y05, y06⟩ := Y0.out; obtain ⟨y11, y12, y13, y14, y15, y16⟩ := Y1.out; obtain ⟨y21, y22, y23, y24, y25, y26⟩ := Y2.out; obtain ⟨y31, y32, y33, y34, y35, y36⟩ := Y3.out; obtain ⟨yL1, yL2, yL3, yL4, yL5, yL6⟩ := YL.out; obtain ⟨yH1, yH2, yH3, yH4, yH5, yH6⟩ := YH.out)
    | (go_at_call 14; (with_reducible refine (QKH.out AH BH aH bH _ sH tH kH jH).mono ?_); rintro e w8 ⟨rfl, hb⟩; have bb8 := bl_trans bb7 hb; clear y01 y02 y03 y04 y05 y06 y11 y12 y13 y14 y15 y16 y21 y22 y23 y24 y25 y26 y31 y32 y33 y34 y35 y36 yL1 yL2 yL3 yL4 yL5 yL6 yH1 yH2 yH3 yH4 yH5 yH6; have Y0 := hide (Y0.out.next hb); have Y1 := hide (Y1.out.next hb); have Y2 := hide (Y2.out.next hb); have Y3 := hide (Y3.out.next hb); have YL := hide (YL.out.next hb); have YH := hide (YH.out.next hb); have s0 := kp' hb s0; have t0 := kp' hb t0; have s1 := kp' hb s1; have t1 := kp' hb t1; have s2 := kp' hb s2; have t2 := kp' hb t2; have s3 := kp' hb s3; have t3 := kp' hb t3; have sL := kp' hb sL; have tL := kp' hb tL; have sH := kp' hb sH; have tH := kp' hb tH; clear hb; obtain ⟨y01, y02, y03, y04, y05, y06⟩ := Y0.out; obtain ⟨y11, y12, y13, y14, y15, y16⟩ := Y1.out; obtain ⟨y21, y22, y23, y24, y25, y26⟩ := Y2.out; obtain ⟨y31, y32, y33, y34, y35, y36⟩ := Y3.out; obtain ⟨yL1, yL2, yL3, yL4, yL5, yL6⟩ := YL.out; obtain ⟨yH1, yH2, yH3, yH4, yH5, yH6⟩ := YH.out)
    | (go_at_call 26; (with_reducible refine (EQ1.out _).mono ?_); rintro e v1 ⟨rfl, rfl⟩)
    | (go_at_call 26; (with_reducible refine (EQ2.out _).mono ?_); rintro e v1 ⟨rfl, rfl⟩)
    | (go_at_call 9; (with_reducible refine (AW.out _ bb8).mono ?_); rintro e v9 ⟨rfl, hb⟩; have bz := bl_trans bb8 hb; clear hb))
  go_ret
  exact ⟨rfl, bz⟩
/-- A float that the law asks of: a number that is not too great. -/
def OkF (x : Nat) : Prop := ∃ s r, r ≤ 9094988921128908188 ∧ x = Ieee.double.word s r
theorem okf_cases (x : Nat) (hx : x < 2 ^ 64) : Odd x ∨ (∃ s r, r < 2047 * 2 ^ 52 ∧ 9094988921128908188 < r ∧ x = Ieee.double.word s r) ∨ OkF x := by
  rcases word_cases x hx with ⟨s, r, hr, rfl⟩ | ⟨s, rfl⟩ | ⟨s, r, h1, h2, rfl⟩
  · by_cases h : r ≤ 9094988921128908188
    · exact .inr (.inr ⟨s, r, h, rfl⟩)
    · exact .inr (.inl ⟨s, r, hr, by omega, rfl⟩)
  · exact .inl (odd_inf s)
  · exact .inl (odd_nan s r h1 h2)
/-- What the first way asks of a float: whether it is finite, and not too great. -/
def Fst (x : Nat) (fin : Bool) : Prop := ∀ w : World, Calls Tryd.prog 17 #[.float .f64 x] w fun e w' => e = .returned (.bool fin) ∧ Below w.heap.size w w'
def Snd (x : Nat) (big : Bool) : Prop := ∃ r, (∀ w : World, Calls Tryd.prog 23 #[.float .f64 x] w fun e w' => e = .returned (.float .f64 r) ∧ Below w.heap.size w w') ∧ binOp .gtr 25 (.float .f64 r) (.float .f64 9094988921128908188) = pure (.bool big)
theorem fst_odd {x : Nat} (h : Odd x) : Fst x false := lfin_no x h
theorem fst_num (s : Bool) {r : Nat} (hr : r < 2047 * 2 ^ 52) : Fst (Ieee.double.word s r) true := fun w => calls_bl (lfin_yes s r hr w)
theorem snd_big (s : Bool) {r : Nat} (hr : r < 2047 * 2 ^ 52) (h : 9094988921128908188 < r) : Snd (Ieee.double.word s r) true := ⟨r, fun w => calls_bl (mabs s r (by omega) w), fl_gtr _ _ _ _ ((wo_gt false false r 9094988921128908188 (by omega) (by decide)).trans (decide_eq_true (i_mono.2 h)))⟩
theorem snd_ok (s : Bool) {r : Nat} (h : r ≤ 9094988921128908188) : Snd (Ieee.double.word s r) false := ⟨r, fun w => calls_bl (mabs s r (by omega) w), fl_gtr _ _ _ _ ((wo_gt false false r 9094988921128908188 (by omega) (by decide)).trans (decide_eq_false (fun k => absurd (i_mono.1 k) (by omega))))⟩
theorem okf_fst {x : Nat} (h : OkF x) : Fst x true := by
  obtain ⟨s, r, h, rfl⟩ := h
  exact fst_num s (by omega)
theorem okf_snd {x : Nat} (h : OkF x) : Snd x false := by
  obtain ⟨s, r, h, rfl⟩ := h
  exact snd_ok s h
set_option maxHeartbeats 4000000 in
theorem adds_f0 (x0 x1 x2 x3 : Nat) (w : World) (H0 : Fst x0 false)  (AW : Hid (∀ V : World, Below w.heap.size w V → Calls Tryd.prog 9 #[] V fun e V' => e = .returned (.bool true) ∧ Below V.heap.size V V')) :
    Calls Tryd.prog 6 #[.float .f64 x0, .float .f64 x1, .float .f64 x2, .float .f64 x3] w fun e w' => e = .returned (.bool true) ∧ Below w.heap.size w w' := by
  have F0 := hide (show ∀ V : World, Calls Tryd.prog 17 #[.float .f64 x0] V fun e V' => e = .returned (.bool false) ∧ Below V.heap.size V V' from H0)
  clear H0
  have b00 : Below w.heap.size w w := .refl _ _
  go_enter Tryd.func6, Tryd.ntmps6
  go_wp2_with (first
    | (go_at_call 17; (with_reducible refine (F0.out _).mono ?_); rintro e w1 ⟨rfl, hb⟩; have c1 := bl_trans b00 hb; clear hb)
    | (go_at_call 9; (with_reducible refine (AW.out _ c1).mono ?_); rintro e w9 ⟨rfl, hb⟩; have bz := bl_trans c1 hb; clear hb))
  go_ret
  exact ⟨rfl, bz⟩
set_option maxHeartbeats 4000000 in
theorem adds_f1 (x0 x1 x2 x3 : Nat) (w : World) (H0 : Fst x0 true) (H1 : Fst x1 false)  (AW : Hid (∀ V : World, Below w.heap.size w V → Calls Tryd.prog 9 #[] V fun e V' => e = .returned (.bool true) ∧ Below V.heap.size V V')) :
    Calls Tryd.prog 6 #[.float .f64 x0, .float .f64 x1, .float .f64 x2, .float .f64 x3] w fun e w' => e = .returned (.bool true) ∧ Below w.heap.size w w' := by
  have F0 := hide (show ∀ V : World, Calls Tryd.prog 17 #[.float .f64 x0] V fun e V' => e = .returned (.bool true) ∧ Below V.heap.size V V' from H0)
  have F1 := hide (show ∀ V : World, Calls Tryd.prog 17 #[.float .f64 x1] V fun e V' => e = .returned (.bool false) ∧ Below V.heap.size V V' from H1)
  clear H0 H1
  have b00 : Below w.heap.size w w := .refl _ _
  go_enter Tryd.func6, Tryd.ntmps6
  go_wp2_with (first
    | (go_at_call 17; (with_reducible refine (F0.out _).mono ?_); rintro e w1 ⟨rfl, hb⟩; have c1 := bl_trans b00 hb; clear hb)
    | (go_at_call 17; (with_reducible refine (F1.out _).mono ?_); rintro e w2 ⟨rfl, hb⟩; have c2 := bl_trans c1 hb; clear hb)
    | (go_at_call 9; (with_reducible refine (AW.out _ c2).mono ?_); rintro e w9 ⟨rfl, hb⟩; have bz := bl_trans c2 hb; clear hb))
  go_ret
  exact ⟨rfl, bz⟩
set_option maxHeartbeats 4000000 in
theorem adds_f2 (x0 x1 x2 x3 : Nat) (w : World) (H0 : Fst x0 true) (H1 : Fst x1 true) (H2 : Fst x2 false)  (AW : Hid (∀ V : World, Below w.heap.size w V → Calls Tryd.prog 9 #[] V fun e V' => e = .returned (.bool true) ∧ Below V.heap.size V V')) :
    Calls Tryd.prog 6 #[.float .f64 x0, .float .f64 x1, .float .f64 x2, .float .f64 x3] w fun e w' => e = .returned (.bool true) ∧ Below w.heap.size w w' := by
  have F0 := hide (show ∀ V : World, Calls Tryd.prog 17 #[.float .f64 x0] V fun e V' => e = .returned (.bool true) ∧ Below V.heap.size V V' from H0)
  have F1 := hide (show ∀ V : World, Calls Tryd.prog 17 #[.float .f64 x1] V fun e V' => e = .returned (.bool true) ∧ Below V.heap.size V V' from H1)
  have F2 := hide (show ∀ V : World, Calls Tryd.prog 17 #[.float .f64 x2] V fun e V' => e = .returned (.bool false) ∧ Below V.heap.size V V' from H2)
  clear H0 H1 H2
  have b00 : Below w.heap.size w w := .refl _ _
  go_enter Tryd.func6, Tryd.ntmps6
  go_wp2_with (first
    | (go_at_call 17; (with_reducible refine (F0.out _).mono ?_); rintro e w1 ⟨rfl, hb⟩; have c1 := bl_trans b00 hb; clear hb)
    | (go_at_call 17; (with_reducible refine (F1.out _).mono ?_); rintro e w2 ⟨rfl, hb⟩; have c2 := bl_trans c1 hb; clear hb)
    | (go_at_call 17; (with_reducible refine (F2.out _).mono ?_); rintro e w3 ⟨rfl, hb⟩; have c3 := bl_trans c2 hb; clear hb)
    | (go_at_call 9; (with_reducible refine (AW.out _ c3).mono ?_); rintro e w9 ⟨rfl, hb⟩; have bz := bl_trans c3 hb; clear hb))
  go_ret
  exact ⟨rfl, bz⟩
set_option maxHeartbeats 4000000 in
theorem adds_f3 (x0 x1 x2 x3 : Nat) (w : World) (H0 : Fst x0 true) (H1 : Fst x1 true) (H2 : Fst x2 true) (H3 : Fst x3 false)  (AW : Hid (∀ V : World, Below w.heap.size w V → Calls Tryd.prog 9 #[] V fun e V' => e = .returned (.bool true) ∧ Below V.heap.size V V')) :
    Calls Tryd.prog 6 #[.float .f64 x0, .float .f64 x1, .float .f64 x2, .float .f64 x3] w fun e w' => e = .returned (.bool true) ∧ Below w.heap.size w w' := by
  have F0 := hide (show ∀ V : World, Calls Tryd.prog 17 #[.float .f64 x0] V fun e V' => e = .returned (.bool true) ∧ Below V.heap.size V V' from H0)
  have F1 := hide (show ∀ V : World, Calls Tryd.prog 17 #[.float .f64 x1] V fun e V' => e = .returned (.bool true) ∧ Below V.heap.size V V' from H1)
  have F2 := hide (show ∀ V : World, Calls Tryd.prog 17 #[.float .f64 x2] V fun e V' => e = .returned (.bool true) ∧ Below V.heap.size V V' from H2)
  have F3 := hide (show ∀ V : World, Calls Tryd.prog 17 #[.float .f64 x3] V fun e V' => e = .returned (.bool false) ∧ Below V.heap.size V V' from H3)
  clear H0 H1 H2 H3
  have b00 : Below w.heap.size w w := .refl _ _
  go_enter Tryd.func6, Tryd.ntmps6
  go_wp2_with (first
    | (go_at_call 17; (with_reducible refine (F0.out _).mono ?_); rintro e w1 ⟨rfl, hb⟩; have c1 := bl_trans b00 hb; clear hb)
    | (go_at_call 17; (with_reducible refine (F1.out _).mono ?_); rintro e w2 ⟨rfl, hb⟩; have c2 := bl_trans c1 hb; clear hb)
    | (go_at_call 17; (with_reducible refine (F2.out _).mono ?_); rintro e w3 ⟨rfl, hb⟩; have c3 := bl_trans c2 hb; clear hb)
    | (go_at_call 17; (with_reducible refine (F3.out _).mono ?_); rintro e w4 ⟨rfl, hb⟩; have c4 := bl_trans c3 hb; clear hb)
    | (go_at_call 9; (with_reducible refine (AW.out _ c4).mono ?_); rintro e w9 ⟨rfl, hb⟩; have bz := bl_trans c4 hb; clear hb))
  go_ret
  exact ⟨rfl, bz⟩
set_option maxHeartbeats 4000000 in
theorem adds_b0 (x0 x1 x2 x3 : Nat) (w : World) (H0 : Fst x0 true) (H1 : Fst x1 true) (H2 : Fst x2 true) (H3 : Fst x3 true) (G0 : Snd x0 true) (AW : Hid (∀ V : World, Below w.heap.size w V → Calls Tryd.prog 9 #[] V fun e V' => e = .returned (.bool true) ∧ Below V.heap.size V V')) :
    Calls Tryd.prog 6 #[.float .f64 x0, .float .f64 x1, .float .f64 x2, .float .f64 x3] w fun e w' => e = .returned (.bool true) ∧ Below w.heap.size w w' := by
  have F0 := hide (show ∀ V : World, Calls Tryd.prog 17 #[.float .f64 x0] V fun e V' => e = .returned (.bool true) ∧ Below V.heap.size V V' from H0)
  have F1 := hide (show ∀ V : World, Calls Tryd.prog 17 #[.float .f64 x1] V fun e V' => e = .returned (.bool true) ∧ Below V.heap.size V V' from H1)
  have F2 := hide (show ∀ V : World, Calls Tryd.prog 17 #[.float .f64 x2] V fun e V' => e = .returned (.bool true) ∧ Below V.heap.size V V' from H2)
  have F3 := hide (show ∀ V : World, Calls Tryd.prog 17 #[.float .f64 x3] V fun e V' => e = .returned (.bool true) ∧ Below V.heap.size V V' from H3)
  obtain ⟨r0, k0, o0⟩ := G0
  have K0 := hide k0
  clear k0
  clear H0 H1 H2 H3
  have b00 : Below w.heap.size w w := .refl _ _
  go_enter Tryd.func6, Tryd.ntmps6
  go_wp2_with (first
    | (go_at_call 17; (with_reducible refine (F0.out _).mono ?_); rintro e w1 ⟨rfl, hb⟩; have c1 := bl_trans b00 hb; clear hb)
    | (go_at_call 17; (with_reducible refine (F1.out _).mono ?_); rintro e w2 ⟨rfl, hb⟩; have c2 := bl_trans c1 hb; clear hb)
    | (go_at_call 17; (with_reducible refine (F2.out _).mono ?_); rintro e w3 ⟨rfl, hb⟩; have c3 := bl_trans c2 hb; clear hb)
    | (go_at_call 17; (with_reducible refine (F3.out _).mono ?_); rintro e w4 ⟨rfl, hb⟩; have c4 := bl_trans c3 hb; clear hb)
    | (go_at_call 23; (with_reducible refine (K0.out _).mono ?_); rintro e w5 ⟨rfl, hb⟩; have c5 := bl_trans c4 hb; clear hb)
    | (go_at_call 9; (with_reducible refine (AW.out _ c5).mono ?_); rintro e w9 ⟨rfl, hb⟩; have bz := bl_trans c5 hb; clear hb))
  go_ret
  exact ⟨rfl, bz⟩
set_option maxHeartbeats 4000000 in
theorem adds_b1 (x0 x1 x2 x3 : Nat) (w : World) (H0 : Fst x0 true) (H1 : Fst x1 true) (H2 : Fst x2 true) (H3 : Fst x3 true) (G0 : Snd x0 false) (G1 : Snd x1 true) (AW : Hid (∀ V : World, Below w.heap.size w V → Calls Tryd.prog 9 #[] V fun e V' => e = .returned (.bool true) ∧ Below V.heap.size V V')) :
    Calls Tryd.prog 6 #[.float .f64 x0, .float .f64 x1, .float .f64 x2, .float .f64 x3] w fun e w' => e = .returned (.bool true) ∧ Below w.heap.size w w' := by
  have F0 := hide (show ∀ V : World, Calls Tryd.prog 17 #[.float .f64 x0] V fun e V' => e = .returned (.bool true) ∧ Below V.heap.size V V' from H0)
  have F1 := hide (show ∀ V : World, Calls Tryd.prog 17 #[.float .f64 x1] V fun e V' => e = .returned (.bool true) ∧ Below V.heap.size V V' from H1)
  have F2 := hide (show ∀ V : World, Calls Tryd.prog 17 #[.float .f64 x2] V fun e V' => e = .returned (.bool true) ∧ Below V.heap.size V V' from H2)
  have F3 := hide (show ∀ V : World, Calls Tryd.prog 17 #[.float .f64 x3] V fun e V' => e = .returned (.bool true) ∧ Below V.heap.size V V' from H3)
  obtain ⟨r0, k0, o0⟩ := G0
  have K0 := hide k0
  clear k0
  obtain ⟨r1, k1, o1⟩ := G1
  have K1 := hide k1
  clear k1
  clear H0 H1 H2 H3
  have b00 : Below w.heap.size w w := .refl _ _
  go_enter Tryd.func6, Tryd.ntmps6
  go_wp2_with (first
    | (go_at_call 17; (with_reducible refine (F0.out _).mono ?_); rintro e w1 ⟨rfl, hb⟩; have c1 := bl_trans b00 hb; clear hb)
    | (go_at_call 17; (with_reducible refine (F1.out _).mono ?_); rintro e w2 ⟨rfl, hb⟩; have c2 := bl_trans c1 hb; clear hb)
    | (go_at_call 17; (with_reducible refine (F2.out _).mono ?_); rintro e w3 ⟨rfl, hb⟩; have c3 := bl_trans c2 hb; clear hb)
    | (go_at_call 17; (with_reducible refine (F3.out _).mono ?_); rintro e w4 ⟨rfl, hb⟩; have c4 := bl_trans c3 hb; clear hb)
    | (go_at_call 23; (with_reducible refine (K0.out _).mono ?_); rintro e w5 ⟨rfl, hb⟩; have c5 := bl_trans c4 hb; clear hb)
    | (go_at_call 23; (with_reducible refine (K1.out _).mono ?_); rintro e w6 ⟨rfl, hb⟩; have c6 := bl_trans c5 hb; clear hb)
    | (go_at_call 9; (with_reducible refine (AW.out _ c6).mono ?_); rintro e w9 ⟨rfl, hb⟩; have bz := bl_trans c6 hb; clear hb))
  go_ret
  exact ⟨rfl, bz⟩
set_option maxHeartbeats 4000000 in
theorem adds_b2 (x0 x1 x2 x3 : Nat) (w : World) (H0 : Fst x0 true) (H1 : Fst x1 true) (H2 : Fst x2 true) (H3 : Fst x3 true) (G0 : Snd x0 false) (G1 : Snd x1 false) (G2 : Snd x2 true) (AW : Hid (∀ V : World, Below w.heap.size w V → Calls Tryd.prog 9 #[] V fun e V' => e = .returned (.bool true) ∧ Below V.heap.size V V')) :
    Calls Tryd.prog 6 #[.float .f64 x0, .float .f64 x1, .float .f64 x2, .float .f64 x3] w fun e w' => e = .returned (.bool true) ∧ Below w.heap.size w w' := by
  have F0 := hide (show ∀ V : World, Calls Tryd.prog 17 #[.float .f64 x0] V fun e V' => e = .returned (.bool true) ∧ Below V.heap.size V V' from H0)
  have F1 := hide (show ∀ V : World, Calls Tryd.prog 17 #[.float .f64 x1] V fun e V' => e = .returned (.bool true) ∧ Below V.heap.size V V' from H1)
  have F2 := hide (show ∀ V : World, Calls Tryd.prog 17 #[.float .f64 x2] V fun e V' => e = .returned (.bool true) ∧ Below V.heap.size V V' from H2)
  have F3 := hide (show ∀ V : World, Calls Tryd.prog 17 #[.float .f64 x3] V fun e V' => e = .returned (.bool true) ∧ Below V.heap.size V V' from H3)
  obtain ⟨r0, k0, o0⟩ := G0
  have K0 := hide k0
  clear k0
  obtain ⟨r1, k1, o1⟩ := G1
  have K1 := hide k1
  clear k1
  obtain ⟨r2, k2, o2⟩ := G2
  have K2 := hide k2
  clear k2
  clear H0 H1 H2 H3
  have b00 : Below w.heap.size w w := .refl _ _
  go_enter Tryd.func6, Tryd.ntmps6
  go_wp2_with (first
    | (go_at_call 17; (with_reducible refine (F0.out _).mono ?_); rintro e w1 ⟨rfl, hb⟩; have c1 := bl_trans b00 hb; clear hb)
    | (go_at_call 17; (with_reducible refine (F1.out _).mono ?_); rintro e w2 ⟨rfl, hb⟩; have c2 := bl_trans c1 hb; clear hb)
    | (go_at_call 17; (with_reducible refine (F2.out _).mono ?_); rintro e w3 ⟨rfl, hb⟩; have c3 := bl_trans c2 hb; clear hb)
    | (go_at_call 17; (with_reducible refine (F3.out _).mono ?_); rintro e w4 ⟨rfl, hb⟩; have c4 := bl_trans c3 hb; clear hb)
    | (go_at_call 23; (with_reducible refine (K0.out _).mono ?_); rintro e w5 ⟨rfl, hb⟩; have c5 := bl_trans c4 hb; clear hb)
    | (go_at_call 23; (with_reducible refine (K1.out _).mono ?_); rintro e w6 ⟨rfl, hb⟩; have c6 := bl_trans c5 hb; clear hb)
    | (go_at_call 23; (with_reducible refine (K2.out _).mono ?_); rintro e w7 ⟨rfl, hb⟩; have c7 := bl_trans c6 hb; clear hb)
    | (go_at_call 9; (with_reducible refine (AW.out _ c7).mono ?_); rintro e w9 ⟨rfl, hb⟩; have bz := bl_trans c7 hb; clear hb))
  go_ret
  exact ⟨rfl, bz⟩
set_option maxHeartbeats 4000000 in
theorem adds_b3 (x0 x1 x2 x3 : Nat) (w : World) (H0 : Fst x0 true) (H1 : Fst x1 true) (H2 : Fst x2 true) (H3 : Fst x3 true) (G0 : Snd x0 false) (G1 : Snd x1 false) (G2 : Snd x2 false) (G3 : Snd x3 true) (AW : Hid (∀ V : World, Below w.heap.size w V → Calls Tryd.prog 9 #[] V fun e V' => e = .returned (.bool true) ∧ Below V.heap.size V V')) :
    Calls Tryd.prog 6 #[.float .f64 x0, .float .f64 x1, .float .f64 x2, .float .f64 x3] w fun e w' => e = .returned (.bool true) ∧ Below w.heap.size w w' := by
  have F0 := hide (show ∀ V : World, Calls Tryd.prog 17 #[.float .f64 x0] V fun e V' => e = .returned (.bool true) ∧ Below V.heap.size V V' from H0)
  have F1 := hide (show ∀ V : World, Calls Tryd.prog 17 #[.float .f64 x1] V fun e V' => e = .returned (.bool true) ∧ Below V.heap.size V V' from H1)
  have F2 := hide (show ∀ V : World, Calls Tryd.prog 17 #[.float .f64 x2] V fun e V' => e = .returned (.bool true) ∧ Below V.heap.size V V' from H2)
  have F3 := hide (show ∀ V : World, Calls Tryd.prog 17 #[.float .f64 x3] V fun e V' => e = .returned (.bool true) ∧ Below V.heap.size V V' from H3)
  obtain ⟨r0, k0, o0⟩ := G0
  have K0 := hide k0
  clear k0
  obtain ⟨r1, k1, o1⟩ := G1
  have K1 := hide k1
  clear k1
  obtain ⟨r2, k2, o2⟩ := G2
  have K2 := hide k2
  clear k2
  obtain ⟨r3, k3, o3⟩ := G3
  have K3 := hide k3
  clear k3
  clear H0 H1 H2 H3
  have b00 : Below w.heap.size w w := .refl _ _
  go_enter Tryd.func6, Tryd.ntmps6
  go_wp2_with (first
    | (go_at_call 17; (with_reducible refine (F0.out _).mono ?_); rintro e w1 ⟨rfl, hb⟩; have c1 := bl_trans b00 hb; clear hb)
    | (go_at_call 17; (with_reducible refine (F1.out _).mono ?_); rintro e w2 ⟨rfl, hb⟩; have c2 := bl_trans c1 hb; clear hb)
    | (go_at_call 17; (with_reducible refine (F2.out _).mono ?_); rintro e w3 ⟨rfl, hb⟩; have c3 := bl_trans c2 hb; clear hb)
    | (go_at_call 17; (with_reducible refine (F3.out _).mono ?_); rintro e w4 ⟨rfl, hb⟩; have c4 := bl_trans c3 hb; clear hb)
    | (go_at_call 23; (with_reducible refine (K0.out _).mono ?_); rintro e w5 ⟨rfl, hb⟩; have c5 := bl_trans c4 hb; clear hb)
    | (go_at_call 23; (with_reducible refine (K1.out _).mono ?_); rintro e w6 ⟨rfl, hb⟩; have c6 := bl_trans c5 hb; clear hb)
    | (go_at_call 23; (with_reducible refine (K2.out _).mono ?_); rintro e w7 ⟨rfl, hb⟩; have c7 := bl_trans c6 hb; clear hb)
    | (go_at_call 23; (with_reducible refine (K3.out _).mono ?_); rintro e w8 ⟨rfl, hb⟩; have c8 := bl_trans c7 hb; clear hb)
    | (go_at_call 9; (with_reducible refine (AW.out _ c8).mono ?_); rintro e w9 ⟨rfl, hb⟩; have bz := bl_trans c8 hb; clear hb))
  go_ret
  exact ⟨rfl, bz⟩
theorem quickAdds_fin (x0 x1 x2 x3 : Nat) (w : World) (h0 : x0 < 2 ^ 64) (h1 : x1 < 2 ^ 64) (h2 : x2 < 2 ^ 64) (h3 : x3 < 2 ^ 64) (T : DeB w) :
    Calls Tryd.prog 6 #[.float .f64 x0, .float .f64 x1, .float .f64 x2, .float .f64 x3] w fun e w' => e = .returned (.bool true) ∧ Below w.heap.size w w' := by
  have AW : Hid (∀ V : World, Below w.heap.size w V → Calls Tryd.prog 9 #[] V fun e V' => e = .returned (.bool true) ∧ Below V.heap.size V V') := hide fun V g => awake5_any V (T.next g)
  have num : ∀ {x : Nat}, x < 2 ^ 64 → ¬ Odd x → Fst x true ∧ (Snd x true ∨ OkF x) := fun {x} hx ho => by
    rcases okf_cases x hx with h | ⟨s, r, hr, hb, rfl⟩ | h
    · exact absurd h ho
    · exact ⟨fst_num s hr, .inl (snd_big s hr hb)⟩
    · exact ⟨okf_fst h, .inr h⟩
  by_cases o0 : Odd x0
  · exact adds_f0 x0 x1 x2 x3 w  (fst_odd o0) AW
  obtain ⟨a0, b0⟩ := num h0 o0
  by_cases o1 : Odd x1
  · exact adds_f1 x0 x1 x2 x3 w a0 (fst_odd o1) AW
  obtain ⟨a1, b1⟩ := num h1 o1
  by_cases o2 : Odd x2
  · exact adds_f2 x0 x1 x2 x3 w a0 a1 (fst_odd o2) AW
  obtain ⟨a2, b2⟩ := num h2 o2
  by_cases o3 : Odd x3
  · exact adds_f3 x0 x1 x2 x3 w a0 a1 a2 (fst_odd o3) AW
  obtain ⟨a3, b3⟩ := num h3 o3
  rcases b0 with c0 | c0
  · exact adds_b0 x0 x1 x2 x3 w a0 a1 a2 a3  c0 AW
  rcases b1 with c1 | c1
  · exact adds_b1 x0 x1 x2 x3 w a0 a1 a2 a3 (okf_snd c0) c1 AW
  rcases b2 with c2 | c2
  · exact adds_b2 x0 x1 x2 x3 w a0 a1 a2 a3 (okf_snd c0) (okf_snd c1) c2 AW
  rcases b3 with c3 | c3
  · exact adds_b3 x0 x1 x2 x3 w a0 a1 a2 a3 (okf_snd c0) (okf_snd c1) (okf_snd c2) c3 AW
  obtain ⟨S0, r0, k0, rfl⟩ := c0
  obtain ⟨S1, r1, k1, rfl⟩ := c1
  obtain ⟨S2, r2, k2, rfl⟩ := c2
  obtain ⟨S3, r3, k3, rfl⟩ := c3
  exact qadds_main S0 S1 S2 S3 r0 r1 r2 r3 w k0 k1 k2 k3 AW
end Nt
end Go.Proofs.YtgmjdaallinicaaDoor
