import Derived.Test.YthabfakbdfaciaaGreatOB16
namespace Go.Proofs.YthabfakbdfaciaaGreat
namespace Nt
set_option maxRecDepth 100000
set_option linter.unusedSimpArgs false
set_option linter.unusedVariables false
set_option maxHeartbeats 16000000
section
open Go.ChangeShapes Go.RowKit
def Fr (w : World) (A : Option Addr) : Prop := A = none ∨ ∃ b o, A = some ⟨b, o, none⟩ ∧ w.heap.size ≤ b
theorem Fr.mono {w w' : World} {A : Option Addr} (h : Fr w' A) (hs : w.heap.size ≤ w'.heap.size) : Fr w A := h.imp id fun ⟨b, o, e, hb⟩ => ⟨b, o, e, Nat.le_trans hs hb⟩
def RQF (w : World) (q : Rat) (e : Ending) (w' : World) : Prop := ∃ A c B d, e = .returned (.agg #[.bool (qs q), .slice A (ln (qn q)) c, .slice B (ln (qd q)) d]) ∧ Sl w' A (digs (qn q)) ∧ Sl w' B (digs (qd q)) ∧ Fr w A ∧ Fr w B ∧ Below w.heap.size w w'
def RQEF (w : World) (q : Rat) (e : Ending) (w' : World) : Prop := ∃ A c B d, e = .returned (.tuple #[.agg #[.bool (qs q), .slice A (ln (qn q)) c, .slice B (ln (qd q)) d], .int .i64 0]) ∧ Sl w' A (digs (qn q)) ∧ Sl w' B (digs (qd q)) ∧ Fr w A ∧ Fr w B ∧ Below w.heap.size w w'
theorem RQF.mk {w w' : World} {q : Rat} {A B : Option Addr} {c d n m : Nat} {s : Bool} (h1 : qs q = s) (h2 : qn q = n) (h3 : qd q = m) (sa : Sl w' A (digs n)) (sb : Sl w' B (digs m)) (b : Below w.heap.size w w') (fa : Fr w A) (fb : Fr w B) :
    RQF w q (.returned (.agg #[.bool s, .slice A (ln n) c, .slice B (ln m) d])) w' := by
  subst h1 h2 h3
  exact ⟨A, c, B, d, rfl, sa, sb, fa, fb, b⟩
theorem RQEF.mk {w w' : World} {q : Rat} {A B : Option Addr} {c d n m : Nat} {s : Bool} (h1 : qs q = s) (h2 : qn q = n) (h3 : qd q = m) (sa : Sl w' A (digs n)) (sb : Sl w' B (digs m)) (b : Below w.heap.size w w') (fa : Fr w A) (fb : Fr w B) :
    RQEF w q (.returned (.tuple #[.agg #[.bool s, .slice A (ln n) c, .slice B (ln m) d], .int .i64 0])) w' := by
  subst h1 h2 h3
  exact ⟨A, c, B, d, rfl, sa, sb, fa, fb, b⟩
theorem rtrim_f (A : Option Addr) (c x : Nat) (w : World) (sx : Sl w A (digs x)) (hx : ln x ≤ 5000) (hc : ln x ≤ c) :
    Calls Tryz.prog 88 #[.slice A (ln x) c] w fun e w' => ∃ A c, e = .returned (.slice A (ln x) c) ∧ Sl w' A (digs x) ∧ Fr w A ∧ Below w.heap.size w w' :=
  (rtrim_any A c (digs x) w sx hc (Nat.le_trans hx (by decide))).mono fun _ _ h => by
    rw [← digs_val (limbs_digs x), val_digs] at h
    obtain ⟨A, c, rfl, r, b⟩ := h
    refine ⟨A, c, rfl, r.sl, ?_, b⟩
    rcases r.2 with ⟨e, _⟩ | ⟨g, cap, cur, e, hg, _⟩
    · injection e with e _ _
      exact .inl e
    · injection e with e _ _
      exact .inr ⟨g, 0, e, hg⟩
theorem rmade_f (s : Bool) (A B : Option Addr) (c d x y : Nat) (q : Rat) (w : World) (sx : Sl w A (digs x)) (sy : Sl w B (digs y)) (hx : ln x ≤ 1000) (hy : ln y ≤ 1000) (hp : 0 < y) (hq : qmk s x y = q) :
    Calls Tryz.prog 86 #[.bool s, .slice A (ln x) c, .slice B (ln y) d] w (RQF w q) := by
  obtain ⟨g, hg⟩ : ∃ g, Nat.gcd x y = g := ⟨_, rfl⟩
  have gp : 0 < g := by rw [← hg]; exact Nat.gcd_pos_of_pos_right _ hp
  have gl : ln g ≤ 1000 := by rw [← hg]; exact Nat.le_trans (ln_mono (Nat.gcd_le_right _ hp)) hy
  obtain ⟨u, hu⟩ : ∃ u, x / g = u := ⟨_, rfl⟩
  obtain ⟨v, hv⟩ : ∃ v, y / g = v := ⟨_, rfl⟩
  have ul : ln u ≤ 1000 := by rw [← hu]; exact Nat.le_trans (ln_div _ _) hx
  have vl : ln v ≤ 1000 := by rw [← hv]; exact Nat.le_trans (ln_div _ _) hy
  have E1 := hide (show qs q = (s && decide (0 < ln u)) by rw [← hq, qs_mk s x (Nat.ne_of_gt hp), hg, hu, dec_ln])
  have E2 := hide (show qn q = u by rw [← hq, qn_mk s x (Nat.ne_of_gt hp), hg, hu])
  have E3 := hide (show qd q = v by rw [← hq, qd_mk s x (Nat.ne_of_gt hp), hg, hv])
  have G := hide (fun W (k : Below w.heap.size w W) => rgcd_z A B c d x y g W (kp' k sx) (kp' k sy) hx hy hg)
  have D1 := hide (fun X e W (k : Below w.heap.size w W) s3 => rdivmod_cap A X c e x g (ln x) (ln g) W rfl rfl (kp' k sx) s3 hx gl gp)
  have D2 := hide (fun X e W (k : Below w.heap.size w W) s3 => rdivmod_cap B X d e y g (ln y) (ln g) W rfl rfl (kp' k sy) s3 hy gl gp)
  rw [hu] at D1
  rw [hv] at D2
  obtain ⟨m1, hm1⟩ : ∃ m, x % g = m := ⟨_, rfl⟩
  obtain ⟨m2, hm2⟩ : ∃ m, y % g = m := ⟨_, rfl⟩
  rw [hm1] at D1
  rw [hm2] at D2
  have T1 := hide (fun X e W s3 h => rtrim_f X e u W s3 (by omega) h)
  have T2 := hide (fun X e W s3 h => rtrim_f X e v W s3 (by omega) h)
  obtain ⟨i, hi⟩ : ∃ i, i = ln u := ⟨_, rfl⟩
  have D1 : Hid (∀ X e W, Below w.heap.size w W → Sl W X (digs g) → Calls Tryz.prog 110 #[.slice A (ln x) c, .slice X (ln g) e] W fun e w' => ∃ A c B d, e = .returned (.tuple #[.slice A i c, .slice B (ln m1) d]) ∧ Sl w' A (digs u) ∧ Sl w' B (digs m1) ∧ i ≤ c ∧ Below W.heap.size W w') := by rw [hi]; exact D1
  have T1 : Hid (∀ X e W, Sl W X (digs u) → i ≤ e → Calls Tryz.prog 88 #[.slice X i e] W fun e w' => ∃ A c, e = .returned (.slice A i c) ∧ Sl w' A (digs u) ∧ Fr W A ∧ Below W.heap.size W w') := by rw [hi]; exact T1
  obtain ⟨j, hj⟩ : ∃ j, j = ln v := ⟨_, rfl⟩
  have D2 : Hid (∀ X e W, Below w.heap.size w W → Sl W X (digs g) → Calls Tryz.prog 110 #[.slice B (ln y) d, .slice X (ln g) e] W fun e w' => ∃ A c B d, e = .returned (.tuple #[.slice A j c, .slice B (ln m2) d]) ∧ Sl w' A (digs v) ∧ Sl w' B (digs m2) ∧ j ≤ c ∧ Below W.heap.size W w') := by rw [hj]; exact D2
  have T2 : Hid (∀ X e W, Sl W X (digs v) → j ≤ e → Calls Tryz.prog 88 #[.slice X j e] W fun e w' => ∃ A c, e = .returned (.slice A j c) ∧ Sl w' A (digs v) ∧ Fr W A ∧ Below W.heap.size W w') := by rw [hj]; exact T2
  rw [← hi] at E1
  have MK := hide (fun (A B : Option Addr) (c d : Nat) (W : World) (sa : Sl W A (digs u)) (sb : Sl W B (digs v)) (b : Below w.heap.size w W) (fa : Fr w A) (fb : Fr w B) => (RQF.mk E1.out E2.out E3.out sa sb b fa fb : RQF w q (.returned (.agg #[.bool (s && decide (0 < i)), .slice A (ln u) c, .slice B (ln v) d])) W))
  rw [← hi, ← hj] at MK
  have i0 : i ≤ 1000 := by omega
  clear sx sy hx hy hp hq hg gp gl hu hv ul vl E1 E2 E3 hm1 hm2 hi hj
  generalize ln x = n at *
  generalize ln y = m at *
  have X := hide (Q3.new (.bool false) (.slice none 0 0) (.slice none 0 0) w)
  have b0 : Below w.heap.size w (w.alloc (.cells #[.bool false, .slice none 0 0, .slice none 0 0] 28)) := bl_al (.refl _ _) _
  obtain ⟨z, hz⟩ : ∃ z, (s && decide (0 < i)) = z := ⟨_, rfl⟩
  rw [hz] at MK
  cases s with
  | false =>
    obtain rfl : z = false := by rw [← hz]; rfl
    clear hz
    go_enter Tryz.func86, Tryz.ntmps86
    go_wp2_with (first
      | (go_at_call 109; (with_reducible refine (G.out _ b0).mono ?_); rintro e w1 ⟨A1, c1, rfl, s1, hb⟩; have X := hide (X.out.next hb); (try clear x1 x2 x3 x4 x5 x6); obtain ⟨x1, x2, x3, x4, x5, x6⟩ := X.out; have b1 := bl_trans b0 hb; clear hb)
      | (go_at_call 110; (with_reducible refine (D1.out A1 c1 _ b1 s1).mono ?_); rintro e w2 ⟨A2, c2, B2, d2, rfl, s2, _, h2, hb⟩; have X := hide (X.out.next hb); (try clear x1 x2 x3 x4 x5 x6); obtain ⟨x1, x2, x3, x4, x5, x6⟩ := X.out; have b2 := bl_trans b1 hb; have s1 := kp' hb s1; clear hb)
      | (go_at_call 110; (with_reducible refine (D2.out A1 c1 _ b2 s1).mono ?_); rintro e w3 ⟨A3, c3, B3, d3, rfl, s3, _, h3, hb⟩; have X := hide (X.out.next hb); (try clear x1 x2 x3 x4 x5 x6); obtain ⟨x1, x2, x3, x4, x5, x6⟩ := X.out; have b3 := bl_trans b2 hb; have s2 := kp' hb s2; clear hb)
      | (go_at_call 88; (with_reducible refine (T1.out A2 c2 _ s2 h2).mono ?_); rintro e w4 ⟨A4, c4, rfl, s4, f4, hb⟩; replace f4 := f4.mono b3.size; have X := hide (X.out.next hb); (try clear x1 x2 x3 x4 x5 x6); obtain ⟨x1, x2, x3, x4, x5, x6⟩ := X.out; have b4 := bl_trans b3 hb; have s3 := kp' hb s3; clear hb)
      | (go_at_call 88; (with_reducible refine (T2.out A3 c3 _ s3 h3).mono ?_); rintro e w5 ⟨A5, c5, rfl, s5, f5, hb⟩; replace f5 := f5.mono b4.size; have X := hide (X.out.next hb); (try clear x1 x2 x3 x4 x5 x6); obtain ⟨x1, x2, x3, x4, x5, x6⟩ := X.out; have b5 := bl_trans b4 hb; have s4 := kp' hb s4; clear hb))
    refine bodyPost_ret (v := .agg #[.bool false, .slice A4 i c4, .slice A5 j c5]) (by simp [results, Tryz.results86, go_sem, x1, x2, x3]) rfl (MK.out A4 A5 c4 c5 _ (s4.over3 X.out _ _ _) (s5.over3 X.out _ _ _) (Below.over3 b5 (Nat.le_refl _) _ _ _) f4 f5)
  | true =>
    have hz' : decide (0 < i) = z := by rw [← hz]; rfl
    have oz : binOp .gtr 3 (.int .i64 (i : Int)) (.int .i64 0) = pure (.bool z) := by
      show pure (Value.bool (decide ((i : Int) > 0))) = _
      rw [← hz']; congr 2; exact decide_eq_decide.2 (by omega)
    clear hz hz'
    go_enter Tryz.func86, Tryz.ntmps86
    go_wp2_with (first
      | (go_at_call 109; (with_reducible refine (G.out _ b0).mono ?_); rintro e w1 ⟨A1, c1, rfl, s1, hb⟩; have X := hide (X.out.next hb); (try clear x1 x2 x3 x4 x5 x6); obtain ⟨x1, x2, x3, x4, x5, x6⟩ := X.out; have b1 := bl_trans b0 hb; clear hb)
      | (go_at_call 110; (with_reducible refine (D1.out A1 c1 _ b1 s1).mono ?_); rintro e w2 ⟨A2, c2, B2, d2, rfl, s2, _, h2, hb⟩; have X := hide (X.out.next hb); (try clear x1 x2 x3 x4 x5 x6); obtain ⟨x1, x2, x3, x4, x5, x6⟩ := X.out; have b2 := bl_trans b1 hb; have s1 := kp' hb s1; clear hb)
      | (go_at_call 110; (with_reducible refine (D2.out A1 c1 _ b2 s1).mono ?_); rintro e w3 ⟨A3, c3, B3, d3, rfl, s3, _, h3, hb⟩; have X := hide (X.out.next hb); (try clear x1 x2 x3 x4 x5 x6); obtain ⟨x1, x2, x3, x4, x5, x6⟩ := X.out; have b3 := bl_trans b2 hb; have s2 := kp' hb s2; clear hb)
      | (go_at_call 88; (with_reducible refine (T1.out A2 c2 _ s2 h2).mono ?_); rintro e w4 ⟨A4, c4, rfl, s4, f4, hb⟩; replace f4 := f4.mono b3.size; have X := hide (X.out.next hb); (try clear x1 x2 x3 x4 x5 x6); obtain ⟨x1, x2, x3, x4, x5, x6⟩ := X.out; have b4 := bl_trans b3 hb; have s3 := kp' hb s3; clear hb)
      | (go_at_call 88; (with_reducible refine (T2.out A3 c3 _ s3 h3).mono ?_); rintro e w5 ⟨A5, c5, rfl, s5, f5, hb⟩; replace f5 := f5.mono b4.size; have X := hide (X.out.next hb); (try clear x1 x2 x3 x4 x5 x6); obtain ⟨x1, x2, x3, x4, x5, x6⟩ := X.out; have b5 := bl_trans b4 hb; have s4 := kp' hb s4; clear hb))
    refine bodyPost_ret (v := .agg #[.bool z, .slice A4 i c4, .slice A5 j c5]) (by simp [results, Tryz.results86, go_sem, x1, x2, x3]) rfl (MK.out A4 A5 c4 c5 _ (s4.over3 X.out _ _ _) (s5.over3 X.out _ _ _) (Below.over3 b5 (Nat.le_refl _) _ _ _) f4 f5)
theorem rnew_f (x y : Int) (A B : Option Addr) (c d : Nat) (q : Rat) (w : World) (sx : Sl w A (digs x.natAbs)) (sy : Sl w B (digs y.natAbs)) (hx : ln x.natAbs ≤ 64) (hy : ln y.natAbs ≤ 64) (h0 : y ≠ 0) (hq : qmk (isg x != isg y) x.natAbs y.natAbs = q) :
    Calls Tryz.prog 60 #[.agg #[.bool (isg x), .slice A (ln x.natAbs) c], .agg #[.bool (isg y), .slice B (ln y.natAbs) d]] w (RQEF w q) := by
  have yp : 0 < y.natAbs := Int.natAbs_pos.2 h0
  have V1 := hide (fun W (k : Below w.heap.size w W) => rvalidI_any (isg x) A c (digs x.natAbs) W (kp' k sx) (Nat.le_trans hx (by decide)))
  have V2 := hide (fun W (k : Below w.heap.size w W) => rvalidI_any (isg y) B d (digs y.natAbs) W (kp' k sy) (Nat.le_trans hy (by decide)))
  rw [show validI (isg x) (digs x.natAbs) = true from validI_num (lt_of_ln hx)] at V1
  rw [show validI (isg y) (digs y.natAbs) = true from validI_num (lt_of_ln hy)] at V2
  obtain ⟨n, hn⟩ : ∃ n, ln x.natAbs = n := ⟨_, rfl⟩
  obtain ⟨m, hm⟩ : ∃ n, ln y.natAbs = n := ⟨_, rfl⟩
  have V1 : Hid (∀ W, Below w.heap.size w W → Calls Tryz.prog 85 #[.agg #[.bool (isg x), .slice A n c]] W fun e w' => e = .returned (.bool true) ∧ Below W.heap.size W w') := by rw [← hn]; exact V1
  have V2 : Hid (∀ W, Below w.heap.size w W → Calls Tryz.prog 85 #[.agg #[.bool (isg y), .slice B m d]] W fun e w' => e = .returned (.bool true) ∧ Below W.heap.size W w') := by rw [← hm]; exact V2
  obtain ⟨s2, hs2⟩ : ∃ z, (isg x != isg y) = z := ⟨_, rfl⟩
  rw [hs2] at hq
  have MD := hide (fun W (k : Below w.heap.size w W) => rmade_f s2 A B c d x.natAbs y.natAbs q W (kp' k sx) (kp' k sy) (Nat.le_trans hx (by decide)) (Nat.le_trans hy (by decide)) yp hq)
  rw [hn, hm] at MD
  rw [hn, hm]
  have hj : ((m : Int) == 0) = false := beq_eq_false_iff_ne.2 (by rw [← hm]; have := ln_pos.2 yp; omega)
  have on : ∀ W : World, (binOp .neq 4 (.bool (isg x)) (.bool (isg y))).run Tryz.prog W = .ok (.bool s2) W := fun W => by
    rw [← hs2]
    cases isg x <;> cases isg y <;> kernel_rfl
  clear sx sy hx hy h0 hq yp hs2 hn hm
  generalize isg x = s at *
  generalize isg y = t at *
  have X1 := hide (((Q2.new (.bool s) (.slice A n c) w).al (.cells #[.bool t, .slice B m d] 125)).al (.cells #[.bool false, .slice none 0 0, .slice none 0 0] 28))
  have X2 := hide ((Q2.new1 (.bool t) (.slice B m d) w (.cells #[.bool s, .slice A n c] 125)).al (.cells #[.bool false, .slice none 0 0, .slice none 0 0] 28))
  have X3 := hide (Q3.new2 (.bool false) (.slice none 0 0) (.slice none 0 0) w (.cells #[.bool s, .slice A n c] 125) (.cells #[.bool t, .slice B m d] 125))
  have b0 : Below w.heap.size w (((w.alloc (.cells #[.bool s, .slice A n c] 125)).alloc (.cells #[.bool t, .slice B m d] 125)).alloc (.cells #[.bool false, .slice none 0 0, .slice none 0 0] 28)) := bl_al (bl_al (bl_al (.refl _ _) _) _) _
  go_enter Tryz.func60, Tryz.ntmps60
  go_wp2_with (first
    | (go_at_call 85; (with_reducible refine (V1.out _ b0).mono ?_); rintro e w1 ⟨rfl, hb⟩; have X1 := hide (X1.out.next hb); have X2 := hide (X2.out.next hb); have X3 := hide (X3.out.next hb); (try clear x1 x2 x3 x4 y1 y2 y3 y4 u1 u2 u3 u4 u5 u6); obtain ⟨x1, x2, x3, x4⟩ := X1.out; obtain ⟨y1, y2, y3, y4⟩ := X2.out; obtain ⟨u1, u2, u3, u4, u5, u6⟩ := X3.out; have b1 := bl_trans b0 hb; clear hb)
    | (go_at_call 85; (with_reducible refine (V2.out _ b1).mono ?_); rintro e w2 ⟨rfl, hb⟩; have X1 := hide (X1.out.next hb); have X2 := hide (X2.out.next hb); have X3 := hide (X3.out.next hb); (try clear x1 x2 x3 x4 y1 y2 y3 y4 u1 u2 u3 u4 u5 u6); obtain ⟨x1, x2, x3, x4⟩ := X1.out; obtain ⟨y1, y2, y3, y4⟩ := X2.out; obtain ⟨u1, u2, u3, u4, u5, u6⟩ := X3.out; have b2 := bl_trans b1 hb; clear hb)
    | (go_at_call 86; (with_reducible refine (MD.out _ b2).mono ?_); rintro e w3 ⟨A3, c3, B3, d3, rfl, s3, t3, fA, fB, hb⟩; replace fA := fA.mono b2.size; replace fB := fB.mono b2.size; have X1 := hide (X1.out.next hb); have X2 := hide (X2.out.next hb); have X3 := hide (X3.out.next hb); (try clear x1 x2 x3 x4 y1 y2 y3 y4 u1 u2 u3 u4 u5 u6); obtain ⟨x1, x2, x3, x4⟩ := X1.out; obtain ⟨y1, y2, y3, y4⟩ := X2.out; obtain ⟨u1, u2, u3, u4, u5, u6⟩ := X3.out; have b3 := bl_trans b2 hb; clear hb))
  exact bodyPost_ret (v := .tuple #[.agg #[.bool (qs q), .slice A3 (ln (qn q)) c3, .slice B3 (ln (qd q)) d3], .int .i64 0]) (by simp [results, Tryz.results60, go_sem, u1, u2, u3]) rfl (RQEF.mk rfl rfl rfl (s3.over3 X3.out _ _ _) (t3.over3 X3.out _ _ _) (Below.over3 b3 (by omega) _ _ _) fA fB)
theorem rof_f (n d : Int) (q : Rat) (w : World) (n1 : -9223372036854775808 ≤ n) (n2 : n ≤ 9223372036854775807) (d1 : -9223372036854775808 ≤ d) (d2 : d ≤ 9223372036854775807) (d0 : d ≠ 0) (hq' : qmk (isg n != isg d) n.natAbs d.natAbs = q) : Calls Tryz.prog 32 #[.int .i64 n, .int .i64 d] w (RQF w q) := by
  have R0 := hide (fun W (_ : Below w.heap.size w W) => rof_z n W n1 n2)
  have R1 := hide (fun W (_ : Below w.heap.size w W) => rof_z d W d1 d2)
  have NW := hide (fun X Y e g W (_ : Below w.heap.size w W) s1 s2 => rnew_f n d X Y e g q W s1 s2 (int_ln n1 n2) (int_ln d1 d2) d0 hq')
  clear hq' n1 n2 d1 d2
  generalize isg n = s0 at *
  generalize isg d = s1 at *
  generalize n.natAbs = k0 at *
  generalize d.natAbs = k1 at *
  have X3 := hide (Q3.new (.bool false) (.slice none 0 0) (.slice none 0 0) w)
  have kb := hide (bl_al (.refl w.heap.size w) (.cells #[.bool false, .slice none 0 0, .slice none 0 0] 28))
  have oe : binOp .eql 3 (.int .i64 d) (.int .i64 0) = pure (.bool false) := by
    show pure (Value.bool (d == 0)) = _
    rw [beq_eq_false_iff_ne.2 d0]
  have oe' : (d == 0) = false := beq_eq_false_iff_ne.2 d0
  clear d0
  go_enter Tryz.func32, Tryz.ntmps32
  go_wp2_with (first
    | (go_at_call 61; (with_reducible refine (R0.out _ kb.out).mono ?_); rintro e v1 ⟨P1, p1, rfl, z1, hb⟩; have X3 := hide (X3.out.next hb); have kb := hide (bl_trans kb.out hb))
    | (go_at_call 61; (with_reducible refine (R1.out _ kb.out).mono ?_); rintro e v2 ⟨P2, p2, rfl, z2, hb⟩; have X3 := hide (X3.out.next hb); have kb := hide (bl_trans kb.out hb); have z1 := kp' hb z1)
    | (go_at_call 60; (with_reducible refine (NW.out P1 P2 p1 p2 _ kb.out z1 z2).mono ?_); rintro e w3 ⟨A3, c3, B3, d3, rfl, s3, t3, fA, fB, hb⟩; replace fA := fA.mono kb.out.size; replace fB := fB.mono kb.out.size; have X3 := hide (X3.out.next hb); have kb := hide (bl_trans kb.out hb); obtain ⟨u1, u2, u3, u4, u5, u6⟩ := X3.out.al (.cells #[.bool (qs q), .slice A3 (ln (qn q)) c3, .slice B3 (ln (qd q)) d3] 28); obtain ⟨y1, y2, y3, y4, y5, y6⟩ := Q3.new (.bool (qs q)) (.slice A3 (ln (qn q)) c3) (.slice B3 (ln (qd q)) d3) w3; have lx := X3.out.lt; have XA := X3; have ne1 : (⟨w.heap.size, 0, none⟩ : Addr) ≠ ⟨w.heap.size, 1, none⟩ := (by intro e; injection e with _ e2 _; exact absurd e2 (by decide)); have ne2 : (⟨w.heap.size, 0, none⟩ : Addr) ≠ ⟨w.heap.size, 2, none⟩ := (by intro e; injection e with _ e2 _; exact absurd e2 (by decide)); have ne3 : (⟨w.heap.size, 1, none⟩ : Addr) ≠ ⟨w.heap.size, 2, none⟩ := (by intro e; injection e with _ e2 _; exact absurd e2 (by decide)); have h1 : (w3.setCell ⟨w.heap.size, 0, none⟩ (.bool (qs q))).cell? ⟨w.heap.size, 1, none⟩ = some (.slice none 0 0) := (by rw [World.cell?_setCell_other _ _ _ _ ne1]; exact XA.out.2.1); have h2 : ((w3.setCell ⟨w.heap.size, 0, none⟩ (.bool (qs q))).setCell ⟨w.heap.size, 1, none⟩ (.slice A3 (ln (qn q)) c3)).cell? ⟨w.heap.size, 2, none⟩ = some (.slice none 0 0) := (by rw [World.cell?_setCell_other _ _ _ _ ne3, World.cell?_setCell_other _ _ _ _ ne2]; exact XA.out.2.2.1); have i1 := cell_next (bl_al (.refl _ _) (.cells #[.bool (qs q), .slice A3 (ln (qn q)) c3, .slice B3 (ln (qd q)) d3] 28)) h1; have i2 := cell_next (bl_al (.refl _ _) (.cells #[.bool (qs q), .slice A3 (ln (qn q)) c3, .slice B3 (ln (qd q)) d3] 28)) h2; have i3 := frozen_next (bl_al (.refl _ _) (.cells #[.bool (qs q), .slice A3 (ln (qn q)) c3, .slice B3 (ln (qd q)) d3] 28)) h1 (by rw [World.frozen?_setCell]; exact XA.out.2.2.2.2.1); have i4 := frozen_next (bl_al (.refl _ _) (.cells #[.bool (qs q), .slice A3 (ln (qn q)) c3, .slice B3 (ln (qd q)) d3] 28)) h2 (by rw [World.frozen?_setCell, World.frozen?_setCell]; exact XA.out.2.2.2.2.2); obtain ⟨r1, r2, r3, r4, r5, r6⟩ := (q3_put XA.out (.bool (qs q)) (.slice A3 (ln (qn q)) c3) (.slice B3 (ln (qd q)) d3)).al (.cells #[.bool (qs q), .slice A3 (ln (qn q)) c3, .slice B3 (ln (qd q)) d3] 28); clear h1 h2 ne1 ne2 ne3))
  refine bodyPost_ret (v := .agg #[.bool (qs q), .slice A3 (ln (qn q)) c3, .slice B3 (ln (qd q)) d3]) (by simp [results, Tryz.results32, go_sem, r1, r2, r3]) rfl (RQF.mk rfl rfl rfl ((s3.over3 XA.out (.bool (qs q)) (.slice A3 (ln (qn q)) c3) (.slice B3 (ln (qd q)) d3)).alloc (.cells #[.bool (qs q), .slice A3 (ln (qn q)) c3, .slice B3 (ln (qd q)) d3] 28)) ((t3.over3 XA.out (.bool (qs q)) (.slice A3 (ln (qn q)) c3) (.slice B3 (ln (qd q)) d3)).alloc (.cells #[.bool (qs q), .slice A3 (ln (qn q)) c3, .slice B3 (ln (qd q)) d3] 28)) (bl_al (Below.over3 kb.out (Nat.le_refl _) (.bool (qs q)) (.slice A3 (ln (qn q)) c3) (.slice B3 (ln (qd q)) d3)) (.cells #[.bool (qs q), .slice A3 (ln (qn q)) c3, .slice B3 (ln (qd q)) d3] 28)) fA fB)
theorem RQF.newF {q : Rat} {w w' : World} {e : Ending} (h : RQF w q e w') (f : fitq q) : ∃ r : Pt, e = .returned (rv r) ∧ r.q = q ∧ r.Ok ∧ r.At w' ∧ (Fr w r.A ∧ Fr w r.B) ∧ Below w.heap.size w w' := by
  obtain ⟨A, c, B, d, rfl, sA, sB, fA, fB, hb⟩ := h
  exact ⟨mkP q A c B d 0, rfl, mkP_q _ _ _ _ _ _, mkP_ok f _ _ _ _ _, ⟨sA, sB⟩, ⟨fA, fB⟩, hb⟩
def NmF (q : Rat) (w : World) (e : Ending) (w' : World) : Prop := ∃ r : Pt, e = .returned (nmV r).v ∧ Nq r q w' ∧ (Fr w r.A ∧ Fr w r.B) ∧ Below w.heap.size w w'
theorem lnum_f (n d : Int) (q : Rat) (w : World) (n1 : -9223372036854775808 ≤ n) (n2 : n ≤ 9223372036854775807) (d1 : -9223372036854775808 ≤ d) (d2 : d ≤ 9223372036854775807) (d0 : d ≠ 0) (hq : qmk (isg n != isg d) n.natAbs d.natAbs = q) (f : fitq q) :
    Calls Tryz.prog 29 #[.int .i64 n, .int .i64 d] w (NmF q w) := by
  have hO := (rof_f n d q (w.alloc (.cells #[.int .i64 0, .bool false, .bool false, .slice none 0 0, .slice none 0 0, .int .i64 0] 30)) n1 n2 d1 d2 d0 hq).mono fun e w' h => RQF.newF h f
  have hend : ∀ (W : World) (r : Pt), r.q = q → r.Ok → r.At W → (Fr (w.alloc (.cells #[.int .i64 0, .bool false, .bool false, .slice none 0 0, .slice none 0 0, .int .i64 0] 30)) r.A ∧ Fr (w.alloc (.cells #[.int .i64 0, .bool false, .bool false, .slice none 0 0, .slice none 0 0, .int .i64 0] 30)) r.B) → Below (w.alloc (.cells #[.int .i64 0, .bool false, .bool false, .slice none 0 0, .slice none 0 0, .int .i64 0] 30)).heap.size (w.alloc (.cells #[.int .i64 0, .bool false, .bool false, .slice none 0 0, .slice none 0 0, .int .i64 0] 30)) W → Bk w.heap.size zV 30 W ∧
      ∀ F, F = set6 W w.heap.size (.int .i64 1) (.bool false) (.bool r.s) (.slice r.A r.xs.length r.a) (.slice r.B r.ys.length r.b) (.int .i64 0) →
      C6 w.heap.size (.int .i64 1) (.bool false) (.bool r.s) (.slice r.A r.xs.length r.a) (.slice r.B r.ys.length r.b) (.int .i64 0) F ∧ NmF q w (.returned (.agg #[.int .i64 1, .bool false, .bool r.s, .slice r.A r.xs.length r.a, .slice r.B r.ys.length r.b, .int .i64 0])) F := fun W r h1 h2 h3 h4 hb => by
    have hz : Bk w.heap.size zV 30 W := (Bk.new _ _ w).next hb
    have hb2 : Below w.heap.size w W := bl_trans (bl_al (.refl _ _) _) hb
    refine ⟨hz, fun F hF => ?_⟩
    obtain ⟨e1, e2, e3, _⟩ := end6 hb2 (Nat.le_refl _) hz hF
    exact ⟨e1, r, rfl, ⟨h1, h2, ⟨e2 _ _ h3.1, e2 _ _ h3.2⟩⟩, ⟨h4.1.mono (by simp), h4.2.mono (by simp)⟩, e3⟩
  replace hO := hide hO
  replace hend := hide hend
  clear hq n1 n2 d1 d2 d0 f
  unfold rv at hO
  go_enter Tryz.func29, Tryz.ntmps29
  go_wp2_with (go_at_call 32; (with_reducible refine hO.out.mono ?_); rintro e w1 ⟨r, rfl, h1, h2, h3, h4, hb⟩; obtain ⟨hz, he⟩ := hend.out w1 r h1 h2 h3 h4 hb; obtain ⟨z0, z1, z2, z3, z4, z5⟩ : C6 w.heap.size _ _ _ _ _ _ w1 := C6.of hz; obtain ⟨f0, f1, f2, f3, f4, f5⟩ := free6 hz; clear h1 h2 h3 h4 hb hz; generalize r.xs.length = i1 at *; generalize r.ys.length = i2 at *; replace he := hide he)
  obtain ⟨F, hF⟩ : ∃ F, F = set6 w1 w.heap.size (.int .i64 1) (.bool false) (.bool r.s) (.slice r.A i1 r.a) (.slice r.B i2 r.b) (.int .i64 0) := ⟨_, rfl⟩
  clear z0 z1 z2 z3 z4 z5
  obtain ⟨⟨z0, z1, z2, z3, z4, z5⟩, e1⟩ := he.out F hF
  unfold set6 at hF
  rw [← hF]
  exact bodyPost_ret (v := .agg #[.int .i64 1, .bool false, .bool r.s, .slice r.A i1 r.a, .slice r.B i2 r.b, .int .i64 0]) (by simp [results, Tryz.results29, go_sem, z0, z1, z2, z3, z4, z5]) rfl e1
theorem num_f (n d : Int) (w : World) (hn : n.natAbs < 1000000000) (h0 : d ≠ 0) (hd : d.natAbs < 1000000000) :
    Calls Tryz.prog 29 #[.int .i64 n, .int .i64 d] w fun e w' => ∃ r : Pt, e = .returned (.agg #[.int .i64 1, .bool false, .bool r.s, .slice r.A r.xs.length r.a, .slice r.B r.ys.length r.b, .int .i64 0]) ∧ Nq r (Rat.divInt n d) w' ∧ (Fr w r.A ∧ Fr w r.B) ∧ Below w.heap.size w w' :=
  lnum_f n d _ w (by omega) (by omega) (by omega) (by omega) h0 (qmk_divInt n d h0) (fit_div n d hn h0 hd)
end
section
open Go.ChangeShapes Go.RowKit
section
variable {X Y S : List Nat} {B : Nat} {w0 w w' : World} {q N : Nat} {so fu : List (ByteArray × Nat)} {ty : List Fn} {ns : List Nd}
theorem TtP.offTurn {p : Nat} {T : List Nat} {v : Value} {m1 m2 : Option Nat} (h : TtP X w q p T N ns v m1 m2) (hf : Off S w w') (hS : ∀ b ∈ S, b ∈ X) (hY : ∀ b ∈ Y, (b ∈ X ∨ w.heap.size ≤ b) ∧ b < w'.heap.size) : TtP Y w' q p T N ns v m1 m2 := by
  have h1 := h.off hf hS
  have hd : ∀ b ∈ T, b ∉ S := fun b hb hm => (h.xs b (hS b hm)).2 hb
  obtain ⟨p1, p2, p3, p4⟩ := h.parts
  obtain ⟨xs, hx, hN⟩ := h.row
  refine ⟨h1.bk, ⟨xs, Off.row hx hf (fun k hk => hd k (p2 k hk)), Ns.off hf (fun b hb => .inl (List.mem_append_right _ (hS b hb))) (fun b hb => ?_) hN⟩, h1.mp, h1.eT, h1.once, fun b hb => ⟨(hY b hb).2, fun hm => ?_⟩, h1.fit, h1.args, h1.le⟩
  · rcases List.mem_append.1 hb with hb | hb
    · exact .inl (List.mem_append_left _ hb)
    · exact (hY b hb).1.imp (List.mem_append_right _) id
  · rcases (hY b hb).1 with hx | hx
    · exact (h.xs b hx).2 hm
    · exact Nat.not_lt.2 hx (h.lt b hm)
theorem Tt.offTurn (h : Tt X B w0 w q N so fu ty ns) (hO : Off S w w') (hS : ∀ b ∈ S, b ∈ X ∧ B ≤ b) (hY : ∀ b ∈ Y, (b ∈ X ∨ w.heap.size ≤ b) ∧ b < w'.heap.size) : Tt Y B w0 w' q N so fu ty ns := by
  obtain ⟨p, T, v, m1, m2, h1, h2, h3⟩ := h
  refine ⟨p, T, v, m1, m2, h1.offTurn hO (fun b hb => (hS b hb).1) hY, h2.offTurn hO (fun b hb => ⟨List.mem_append_right _ (hS b hb).1, (hS b hb).2⟩) (fun b hb => ?_), h3⟩
  rcases List.mem_append.1 hb with hb | hb
  · exact ⟨.inl (List.mem_append_left _ hb), Nat.lt_of_lt_of_le (h1.lt b hb) hO.size⟩
  · exact ⟨(hY b hb).1.imp (List.mem_append_right _) id, (hY b hb).2⟩
end
def ab (A : Option Addr) (xs : List Nat) : List Nat := if xs = [] then [] else (A.map (·.block)).toList
def pb (r : Pt) : List Nat := ab r.A r.xs ++ ab r.B r.ys
section
variable {w w' : World} {A : Option Addr} {xs : List Nat} {r : Pt} {q : Rat} {X : List Nat}
theorem Sl.ab_lt (h : Sl w A xs) : ∀ b ∈ ab A xs, b < w.heap.size := by
  intro b hb
  unfold ab at hb
  split at hb
  · cases hb
  · rename_i hx
    rcases h with h | ⟨g, o, e, hg, hc⟩
    · exact absurd h hx
    · subst e
      simp at hb
      subst hb
      exact hg
theorem Fr.ab (h : Fr w A) : ∀ b ∈ ab A xs, w.heap.size ≤ b := by
  intro b hb
  unfold Nt.ab at hb
  split at hb
  · cases hb
  · rcases h with rfl | ⟨g, o, rfl, hg⟩
    · cases hb
    · simp at hb
      subst hb
      exact hg
theorem Sl.same (h : Sl w A xs) (hs : Same X w w') (hX : ∀ b ∈ Nt.ab A xs, b ∈ X) : Sl w' A xs := by
  rcases h with h | ⟨g, o, e, hg, hc⟩
  · exact .inl h
  by_cases hx : xs = []
  · exact .inl hx
  have hgX : g ∈ X := hX g (by unfold Nt.ab; rw [if_neg hx, e]; simp)
  have hb := hs g hgX
  refine .inr ⟨g, o, e, ?_, fun j hj => (World.cell?_of_block (w := w) hb).trans (hc j hj)⟩
  rw [Array.getElem?_eq_getElem hg] at hb
  exact (Array.getElem?_eq_some_iff.1 hb).1
theorem Nq.pb_lt (h : Nq r q w) : ∀ b ∈ pb r, b < w.heap.size := fun b hb => (List.mem_append.1 hb).elim (h.at_.1.ab_lt b) (h.at_.2.ab_lt b)
theorem pb_new (h : Fr w r.A ∧ Fr w r.B) : ∀ b ∈ pb r, w.heap.size ≤ b := fun b hb => (List.mem_append.1 hb).elim (h.1.ab b) (h.2.ab b)
theorem Nq.same (h : Nq r q w) (hs : Same X w w') (hX : ∀ b ∈ pb r, b ∈ X) : Nq r q w' := ⟨h.q, h.ok, h.at_.1.same hs (fun b hb => hX b (List.mem_append_left _ hb)), h.at_.2.same hs (fun b hb => hX b (List.mem_append_right _ hb))⟩
theorem Bk.same {g : Nat} {cur : Array Value} {t : TypeId} (h : Bk g cur t w) (hs : Same X w w') (hX : g ∈ X) : Bk g cur t w' := (hs g hX).trans h
end
def rI : Rt Int := ⟨fun a => [.int .i64 a], 1, 57, 3, .int .i64 0, 8⟩
theorem rI_ok : rI.Ok where
  len := fun _ => rfl
  pos := by decide
  und := Tryz.underlying57
  inf := info_parts (P := Tryz.prog) (e := 3) (z := .int .i64 0) (size := 1) (bytes := 8) (by kernel_rfl)
  zs := rfl
  by1 := by decide
  no := by intro a v hv; simp [rI] at hv; subst hv; rfl
  one := by intro a v hv; simp [rI] at hv; subst hv; rfl
  zno := by intro v hv; simp [rI, Value.cells] at hv; subst hv; rfl
section
variable {Y : List Nat} {Bs B : Nat} {w0 W W' : World} {q N : Nat} {v : Value} {ids : List Int} {ns ns' : List Nd}
theorem Gr.same {α : Type} {R : Rt α} {l : List α} (h : Gr R Bs W v l) {X : List Nat} (hs : Same X W W') (hX : ∀ b ∈ v.ownBlock.toList, b ∈ X) : Gr R Bs W' v l := by
  rcases h with ⟨rfl, rfl⟩ | ⟨g, m, rfl, hg⟩
  · exact .inl ⟨rfl, rfl⟩
  · obtain ⟨⟨cur, hc, h1⟩, h2, h3, h4⟩ := hg
    exact .inr ⟨g, m, rfl, ⟨cur, (hs g (hX g (by simp [Value.ownBlock]))).trans hc, h1⟩, h2, h3, h4⟩
end
theorem Gr.ids {Bs n c : Nat} {W : World} {A : Option Addr} {ids : List Int} (h : Gr rI Bs W (.slice A n c) ids) (h0 : ids ≠ []) : ∃ gi, A = some ⟨gi, 0, none⟩ ∧ gi < W.heap.size ∧ Bs ≤ gi ∧ ∀ j (hj : j < ids.length), W.cell? ⟨gi, j, none⟩ = some (.int .i64 ids[j]) := by
  rcases h with ⟨_, e⟩ | ⟨g, m, e, hg⟩
  · exact absurd e h0
  · injection e with e1 e2 e3
    refine ⟨g, e1, hg.lt, hg.base, fun j hj => ?_⟩
    obtain ⟨g', o, e4, _, hc⟩ := (hg.rl rI_ok (Z := []) (by simp)).get hj
    injection e4 with e4
    injection e4 with e5 e6
    subst e5 e6
    have := hc 0 _ rfl
    simpa [rI] using this
def kdiff (m n : Nd) : Bool := m.op != n.op || m.nm.data.toList != n.nm.data.toList || decide (pk (m.ar.map Int.toNat) ≠ pk (n.ar.map Int.toNat))
theorem kdiff_ne {m n : Nd} (h : kdiff m n = true) : kvl m ≠ kvl n := by
  simp only [kdiff, Bool.or_eq_true, bne_iff_ne, ne_eq, decide_eq_true_eq] at h
  rcases h with (h | h) | h
  · exact kv_ne h
  · exact kv_name (fun e => h (by rw [e]))
  · exact kv_args h
theorem all_new {l : List Nd} {n : Nd} (h : l.all (fun m => kdiff m n) = true) : ∀ m ∈ l, kvl m ≠ kvl n := fun m hm => kdiff_ne (List.all_eq_true.1 h m hm)
theorem div_lt {x y d : Int} (hd : 0 < d) : Rat.divInt x d < Rat.divInt y d ↔ x < y := by
  have hd' : (0 : Rat) < (d : Rat) := Rat.intCast_lt_intCast.2 hd
  rw [Rat.divInt_eq_div, Rat.divInt_eq_div]
  constructor
  · intro h
    by_cases hc : x < y
    · exact hc
    · exfalso
      have h2 : (y : Rat) ≤ (x : Rat) := Rat.intCast_le_intCast.2 (by omega)
      rw [Rat.div_lt_iff hd', Rat.div_mul_cancel (by intro e; rw [e] at hd'; exact absurd hd' (by decide))] at h
      exact absurd h2 (Rat.not_le.2 h)
  · intro h
    have h2 : (x : Rat) < (y : Rat) := Rat.intCast_lt_intCast.2 h
    rw [Rat.div_lt_iff hd', Rat.div_mul_cancel (by intro e; rw [e] at hd'; exact absurd hd' (by decide))]
    exact h2
theorem cmp_div {x y d : Int} (hd : 0 < d) : cmpQ (Rat.divInt x d) (Rat.divInt y d) = if x < y then -1 else if y < x then 1 else 0 := by
  unfold cmpQ
  simp only [div_lt hd]
theorem cmp_lt {x y d : Int} (hd : 0 < d) : decide (cmpQ (Rat.divInt x d) (Rat.divInt y d) < 0) = decide (x < y) := decide_eq_decide.2 (by rw [cmp_div hd]; split <;> (try split) <;> omega)
theorem cmp_ge {x y d : Int} (hd : 0 < d) : decide (0 ≤ cmpQ (Rat.divInt x d) (Rat.divInt y d)) = decide (y ≤ x) := decide_eq_decide.2 (by rw [cmp_div hd]; split <;> (try split) <;> omega)
end
end Nt
end Go.Proofs.YthabfakbdfaciaaGreat
