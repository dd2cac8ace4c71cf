
/-
  The reference's fractions: Valid, made.
  The reference's fractions: cmpRat, Cmp.
  The reference's fractions: fitsRat, Mul, Quo.
  What the calls say of what is no fraction, ours and the reference's.
  The reference's fractions: New, Of of 0, Sign.
-/
import Derived.Test.YtgmjdaallinicaaDoorRatS

import Derived.Test.YtgmjdaallinicaaDoorRefDv

import Derived.Test.YtgmjdaallinicaaDoorRefJ

namespace Go.Proofs.YtgmjdaallinicaaDoor

open Go.RowKit

namespace Nt

theorem gt_z (t : TypeId) {x y : Int} (h : y < x) : binOp .gtr t (.int .i64 x) (.int .i64 y) = pure (.bool true) := by
  show pure (Value.bool (decide (x > y))) = _
  rw [decide_eq_true h]
theorem rone_z (w : World) : Calls Tryd.prog 39 #[] w (Rd w 1) := by
  have e1 : digs 1 = [1] := digs1 (by decide) (by decide)
  have s := litSl w #[.int .u64 1] [1] rfl rfl
  have b : Below w.heap.size w (w.alloc (.cells #[.int .u64 1] 54)) := bl_al (.refl _ _) _
  have R := fun c => Rd.mk (x := 1) (c := c) (by rw [e1]; exact s) b
  rw [ln_one] at R
  have R := hide R
  clear s b e1
  go_enter Tryd.func39, Tryd.ntmps39
  go_wp2
  go_ret
  exact R.out _
theorem rgcd_z (A B : Option Addr) (c d x y g : Nat) (w : World) (sx : Sl w A (digs x)) (sy : Sl w B (digs y)) (hx : ln x ≤ 1000) (hy : ln y ≤ 1000) (hg : Nat.gcd x y = g) :
    Calls Tryd.prog 47 #[.slice A (ln x) c, .slice B (ln y) d] w (Rd w g) := by
  subst hg
  exact rgcd_num A B c d x y (ln x) (ln y) w rfl rfl sx sy hx hy
theorem rmul_z (A B : Option Addr) (c d x y z : Nat) (w : World) (sx : Sl w A (digs x)) (sy : Sl w B (digs y)) (hx : ln x ≤ 5000) (hy : ln y ≤ 5000) (hz : x * y = z) :
    Calls Tryd.prog 78 #[.slice A (ln x) c, .slice B (ln y) d] w (Rd w z) :=
  (rmul_any A B c d (digs x) (digs y) w sx sy (limbs_digs x) (limbs_digs y) (Nat.le_trans hx (by decide)) (Nat.le_trans hy (by decide)) _ rfl).mono fun _ _ h => h.rd (by rw [val_digs, val_digs]; exact hz)
theorem rcmp_z (A B : Option Addr) (c d x y : Nat) (k : Int) (w : World) (sx : Sl w A (digs x)) (sy : Sl w B (digs y)) (hx : ln x ≤ 5000) (hy : ln y ≤ 5000) (hk : cmpN x y = k) :
    Calls Tryd.prog 46 #[.slice A (ln x) c, .slice B (ln y) d] w fun e w' => e = .returned (.int .i64 k) ∧ Below w.heap.size w w' := by
  have := rcmp_any A B c d (digs x) (digs y) w sx sy (limbs_digs x) (limbs_digs y) (norm_digs x) (norm_digs y) (Nat.le_trans hx (by decide)) (Nat.le_trans hy (by decide))
  rw [val_digs, val_digs, hk] at this
  exact this.mono fun e w' h => by obtain ⟨h1, q, h2⟩ := h; exact ⟨h1, bl_q0 h2⟩
theorem rtrim_z (A : Option Addr) (c x : Nat) (w : World) (sx : Sl w A (digs x)) (hx : ln x ≤ 5000) (hc : ln x ≤ c) :
    Calls Tryd.prog 56 #[.slice A (ln x) c] w (Rd w x) :=
  (rtrim_any A c (digs x) w sx hc (Nat.le_trans hx (by decide))).mono fun _ _ h => by
    rw [← digs_val (limbs_digs x), val_digs] at h
    exact h.rd rfl

set_option maxRecDepth 100000 in
set_option maxHeartbeats 4000000 in
theorem rvalidQ_any (s : Bool) (A B : Option Addr) (c d : Nat) (xs ys : List Nat) (w : World) (hx : Sl w A xs) (hy : Sl w B ys) (lx : Limbs xs) (ly : Limbs ys) (hl : xs.length ≤ 1000000) (hl' : ys.length ≤ 1000000) (r : Bool) (hr : validQ s xs ys = r) :
    Calls Tryd.prog 16 #[.agg #[.bool s, .slice A xs.length c, .slice B ys.length d]] w fun e w' => e = .returned (.bool r) ∧ Below w.heap.size w w' := by
  subst hr
  have V1 := hide (fun W (b : Below w.heap.size w W) => rvalid_any A c xs W (kp' b hx) (by omega))
  have V2 := hide (fun W (b : Below w.heap.size w W) => rvalid_any B d ys W (kp' b hy) (by omega))
  have X := hide (Q3.new (.bool s) (.slice A xs.length c) (.slice B ys.length d) w)
  have b0 : Below w.heap.size w (w.alloc (.cells #[.bool s, .slice A xs.length c, .slice B ys.length d] 24)) := bl_al (.refl _ _) _
  obtain ⟨x1, x2, x3, x4, x5, x6⟩ := X.out
  cases h1 : validB xs with
  | false =>
    have E := hide (show validQ s xs ys = false from validQ_a (by unfold validI; rw [h1]; rfl))
    rw [h1] at V1
    clear h1 V2 hx hy lx ly
    generalize xs.length = n at *
    generalize ys.length = m at *
    go_enter Tryd.func16, Tryd.ntmps16
    go_wp2_with (first
      | (go_at_call 45; (with_reducible refine (V1.out _ b0).mono ?_); rintro e w1 ⟨rfl, rfl⟩))
    go_ret
    exact ⟨ret_bool E.out.symm, b0⟩
  | true =>
    rw [h1] at V1
    cases h2 : validB ys with
    | false =>
      have E := hide (validQ_b (s := s) (xs := xs) h2)
      rw [h2] at V2
      clear h1 h2 hx hy lx ly
      generalize xs.length = n at *
      generalize ys.length = m at *
      go_enter Tryd.func16, Tryd.ntmps16
      go_wp2_with (first
        | (go_at_call 45; (with_reducible refine (V1.out _ b0).mono ?_); rintro e w1 ⟨rfl, rfl⟩)
        | (go_at_call 45; (with_reducible refine (V2.out _ b0).mono ?_); rintro e w2 ⟨rfl, rfl⟩))
      go_ret
      exact ⟨ret_bool E.out.symm, b0⟩
    | true =>
      rw [h2] at V2
      by_cases h3 : ys.length = 0
      · have E := hide (validQ_c (s := s) (xs := xs) h3)
        clear h1 h2 hx hy lx ly
        generalize xs.length = n at *
        generalize ys.length = m at *
        subst h3
        go_enter Tryd.func16, Tryd.ntmps16
        go_wp2_with (first
          | (go_at_call 45; (with_reducible refine (V1.out _ b0).mono ?_); rintro e w1 ⟨rfl, rfl⟩)
          | (go_at_call 45; (with_reducible refine (V2.out _ b0).mono ?_); rintro e w2 ⟨rfl, rfl⟩))
        go_ret
        exact ⟨ret_bool E.out.symm, b0⟩
      · have hp : 0 < ys.length := by omega
        by_cases h4 : s = true ∧ xs.length = 0
        · have E := hide (show validQ s xs ys = false from validQ_a (by unfold validI; rw [h4.1, h4.2]; simp))
          obtain ⟨rfl, h4⟩ := h4
          clear h1 h2 hx hy lx ly h3
          generalize xs.length = n at *
          generalize ys.length = m at *
          subst h4
          have hc : binOp .gtr 3 (.int .i64 (m : Int)) (.int .i64 0) = pure (.bool true) := gt_z _ (by omega)
          go_enter Tryd.func16, Tryd.ntmps16
          go_wp2_with (first
            | (go_at_call 45; (with_reducible refine (V1.out _ b0).mono ?_); rintro e w1 ⟨rfl, rfl⟩)
            | (go_at_call 45; (with_reducible refine (V2.out _ b0).mono ?_); rintro e w2 ⟨rfl, rfl⟩))
          go_ret
          exact ⟨ret_bool E.out.symm, b0⟩
        · have h1' : validI s xs = true := by
            unfold validI; rw [h1]
            cases s
            · rfl
            · simp only [true_and] at h4; simp; omega
          have E := hide (validQ_d h1' h2 hp)
          have n1 := digs_val_norm lx (validB_iff.1 h1).2
          have n2 := digs_val_norm ly (validB_iff.1 h2).2
          have k1 := (validB_iff.1 h1).1
          have k2 := (validB_iff.1 h2).1
          obtain ⟨x, hxe⟩ : ∃ x, x = val xs := ⟨_, rfl⟩
          obtain ⟨y, hye⟩ : ∃ y, y = val ys := ⟨_, rfl⟩
          rw [← hxe] at n1 E
          rw [← hye] at n2 E
          obtain ⟨g, hg⟩ : ∃ g, Nat.gcd x y = g := ⟨_, rfl⟩
          rw [hg] at E
          have e1 : ln x = xs.length := by unfold ln; rw [n1]
          have e2 : ln y = ys.length := by unfold ln; rw [n2]
          have G := hide (fun W (b : Below w.heap.size w W) => rgcd_z A B c d x y g W (by rw [n1]; exact kp' b hx) (by rw [n2]; exact kp' b hy) (by omega) (by omega) hg)
          rw [e1, e2] at G
          have gl : ln g ≤ 64 := by
            rw [← hg]
            exact Nat.le_trans (ln_mono (Nat.gcd_le_right _ (by
              rcases Nat.eq_zero_or_pos y with h | h
              · rw [h, digs_zero] at n2; rw [← n2] at hp; exact absurd hp (by decide)
              · exact h))) (by omega)
          obtain ⟨k, hk⟩ : ∃ k, cmpN g 1 = k := ⟨_, rfl⟩
          have hk0 : (k == 0) = (g == 1) := by
            rw [← hk]; unfold cmpN
            rcases (show g < 1 ∨ g = 1 ∨ 1 < g by omega) with h | h | h
            · rw [if_pos h, show (g == 1) = false from beq_eq_false_iff_ne.2 (by omega)]; rfl
            · subst h; rfl
            · rw [if_neg (by omega), if_pos h, show (g == 1) = false from beq_eq_false_iff_ne.2 (by omega)]; rfl
          rw [← hk0] at E
          have CM := hide (fun A B c d W (s : Sl W A (digs g)) (t : Sl W B (digs 1)) => rcmp_z A B c d g 1 k W s t (by omega) (by rw [ln_one]; decide) hk)
          rw [ln_one] at CM
          obtain ⟨r, hr⟩ : ∃ r, (k == 0) = r := ⟨_, rfl⟩
          rw [hr] at E
          have oe : binOp .eql 3 (.int .i64 k) (.int .i64 0) = pure (.bool r) := by
            show pure (Value.bool (k == 0)) = _
            rw [hr]
          have hc : binOp .gtr 3 (.int .i64 (ys.length : Int)) (.int .i64 0) = pure (.bool true) := gt_z _ (by omega)
          have hd : s = true → binOp .gtr 3 (.int .i64 (xs.length : Int)) (.int .i64 0) = pure (.bool true) := fun e => gt_z _ (by simp only [e, true_and] at h4; omega)
          clear h1 h1' h2 hx hy lx ly n1 n2 k1 k2 hxe hye hg e1 e2 hr hk hk0 gl h3 hp h4
          generalize xs.length = n at *
          generalize ys.length = m at *
          cases s with
          | false =>
            clear hd
            go_enter Tryd.func16, Tryd.ntmps16
            go_wp2_with (first
              | (go_at_call 45; (with_reducible refine (V1.out _ b0).mono ?_); rintro e w1 ⟨rfl, rfl⟩)
              | (go_at_call 45; (with_reducible refine (V2.out _ b0).mono ?_); rintro e w2 ⟨rfl, rfl⟩)
              | (go_at_call 47; (with_reducible refine (G.out _ b0).mono ?_); rintro e w3 ⟨A3, c3, rfl, s3, hb⟩; have b1 := bl_trans b0 hb; clear hb)
              | (go_at_call 39; (with_reducible refine (rone_z _).mono ?_); rintro e w4 ⟨A4, c4, he, s4, hb⟩; rw [ln_one] at he; subst he; have s3 := kp' hb s3; have b2 := bl_trans b1 hb; clear hb)
              | (go_at_call 46; (with_reducible refine (CM.out A3 A4 c3 c4 _ s3 s4).mono ?_); rintro e w5 ⟨rfl, hb⟩; have b3 := bl_trans b2 hb; clear hb))
            go_ret
            exact ⟨ret_bool E.out.symm, b3⟩
          | true =>
            have hd := hd rfl
            go_enter Tryd.func16, Tryd.ntmps16
            go_wp2_with (first
              | (go_at_call 45; (with_reducible refine (V1.out _ b0).mono ?_); rintro e w1 ⟨rfl, rfl⟩)
              | (go_at_call 45; (with_reducible refine (V2.out _ b0).mono ?_); rintro e w2 ⟨rfl, rfl⟩)
              | (go_at_call 47; (with_reducible refine (G.out _ b0).mono ?_); rintro e w3 ⟨A3, c3, rfl, s3, hb⟩; have b1 := bl_trans b0 hb; clear hb)
              | (go_at_call 39; (with_reducible refine (rone_z _).mono ?_); rintro e w4 ⟨A4, c4, he, s4, hb⟩; rw [ln_one] at he; subst he; have s3 := kp' hb s3; have b2 := bl_trans b1 hb; clear hb)
              | (go_at_call 46; (with_reducible refine (CM.out A3 A4 c3 c4 _ s3 s4).mono ?_); rintro e w5 ⟨rfl, hb⟩; have b3 := bl_trans b2 hb; clear hb))
            go_ret
            exact ⟨ret_bool E.out.symm, b3⟩

set_option maxRecDepth 100000 in
set_option maxHeartbeats 4000000 in
theorem rmade_q (s : Bool) (A B : Option Addr) (c d x y : Nat) (q : Rat) (w : World) (sx : Sl w A (digs x)) (sy : Sl w B (digs y)) (hx : ln x ≤ 1000) (hy : ln y ≤ 1000) (hp : 0 < y) (hq : qmk s x y = q) :
    Calls Tryd.prog 37 #[.bool s, .slice A (ln x) c, .slice B (ln y) d] w (RQ w q) := by
  obtain ⟨g, hg⟩ : ∃ g, Nat.gcd x y = g := ⟨_, rfl⟩
  have gp : 0 < g := by rw [← hg]; exact Nat.gcd_pos_of_pos_right _ hp
  have gl : ln g ≤ 1000 := by rw [← hg]; exact Nat.le_trans (ln_mono (Nat.gcd_le_right _ hp)) hy
  obtain ⟨u, hu⟩ : ∃ u, x / g = u := ⟨_, rfl⟩
  obtain ⟨v, hv⟩ : ∃ v, y / g = v := ⟨_, rfl⟩
  have ul : ln u ≤ 1000 := by rw [← hu]; exact Nat.le_trans (ln_div _ _) hx
  have vl : ln v ≤ 1000 := by rw [← hv]; exact Nat.le_trans (ln_div _ _) hy
  have E1 := hide (show qs q = (s && decide (0 < ln u)) by rw [← hq, qs_mk s x (Nat.ne_of_gt hp), hg, hu, dec_ln])
  have E2 := hide (show qn q = u by rw [← hq, qn_mk s x (Nat.ne_of_gt hp), hg, hu])
  have E3 := hide (show qd q = v by rw [← hq, qd_mk s x (Nat.ne_of_gt hp), hg, hv])
  have G := hide (fun W (k : Below w.heap.size w W) => rgcd_z A B c d x y g W (kp' k sx) (kp' k sy) hx hy hg)
  have D1 := hide (fun X e W (k : Below w.heap.size w W) s3 => rdivmod_cap A X c e x g (ln x) (ln g) W rfl rfl (kp' k sx) s3 hx gl gp)
  have D2 := hide (fun X e W (k : Below w.heap.size w W) s3 => rdivmod_cap B X d e y g (ln y) (ln g) W rfl rfl (kp' k sy) s3 hy gl gp)
  rw [hu] at D1
  rw [hv] at D2
  obtain ⟨m1, hm1⟩ : ∃ m, x % g = m := ⟨_, rfl⟩
  obtain ⟨m2, hm2⟩ : ∃ m, y % g = m := ⟨_, rfl⟩
  rw [hm1] at D1
  rw [hm2] at D2
  have T1 := hide (fun X e W s3 h => rtrim_z X e u W s3 (by omega) h)
  have T2 := hide (fun X e W s3 h => rtrim_z X e v W s3 (by omega) h)
  obtain ⟨i, hi⟩ : ∃ i, i = ln u := ⟨_, rfl⟩
  have D1 : Hid (∀ X e W, Below w.heap.size w W → Sl W X (digs g) → Calls Tryd.prog 67 #[.slice A (ln x) c, .slice X (ln g) e] W fun e w' => ∃ A c B d, e = .returned (.tuple #[.slice A i c, .slice B (ln m1) d]) ∧ Sl w' A (digs u) ∧ Sl w' B (digs m1) ∧ i ≤ c ∧ Below W.heap.size W w') := by rw [hi]; exact D1
  have T1 : Hid (∀ X e W, Sl W X (digs u) → i ≤ e → Calls Tryd.prog 56 #[.slice X i e] W fun e w' => ∃ A c, e = .returned (.slice A i c) ∧ Sl w' A (digs u) ∧ Below W.heap.size W w') := by rw [hi]; exact T1
  obtain ⟨j, hj⟩ : ∃ j, j = ln v := ⟨_, rfl⟩
  have D2 : Hid (∀ X e W, Below w.heap.size w W → Sl W X (digs g) → Calls Tryd.prog 67 #[.slice B (ln y) d, .slice X (ln g) e] W fun e w' => ∃ A c B d, e = .returned (.tuple #[.slice A j c, .slice B (ln m2) d]) ∧ Sl w' A (digs v) ∧ Sl w' B (digs m2) ∧ j ≤ c ∧ Below W.heap.size W w') := by rw [hj]; exact D2
  have T2 : Hid (∀ X e W, Sl W X (digs v) → j ≤ e → Calls Tryd.prog 56 #[.slice X j e] W fun e w' => ∃ A c, e = .returned (.slice A j c) ∧ Sl w' A (digs v) ∧ Below W.heap.size W w') := by rw [hj]; exact T2
  rw [← hi] at E1
  have MK := hide (fun (A B : Option Addr) (c d : Nat) (W : World) (sa : Sl W A (digs u)) (sb : Sl W B (digs v)) (b : Below w.heap.size w W) => (RQ.mk E1.out E2.out E3.out sa sb b : RQ w q (.returned (.agg #[.bool (s && decide (0 < i)), .slice A (ln u) c, .slice B (ln v) d])) W))
  rw [← hi, ← hj] at MK
  have i0 : i ≤ 1000 := by omega
  clear sx sy hx hy hp hq hg gp gl hu hv ul vl E1 E2 E3 hm1 hm2 hi hj
  generalize ln x = n at *
  generalize ln y = m at *
  have X := hide (Q3.new (.bool false) (.slice none 0 0) (.slice none 0 0) w)
  have b0 : Below w.heap.size w (w.alloc (.cells #[.bool false, .slice none 0 0, .slice none 0 0] 24)) := bl_al (.refl _ _) _
  obtain ⟨z, hz⟩ : ∃ z, (s && decide (0 < i)) = z := ⟨_, rfl⟩
  rw [hz] at MK
  cases s with
  | false =>
    obtain rfl : z = false := by rw [← hz]; rfl
    clear hz
    go_enter Tryd.func37, Tryd.ntmps37
    go_wp2_with (first
      | (go_at_call 47; (with_reducible refine (G.out _ b0).mono ?_); rintro e w1 ⟨A1, c1, rfl, s1, hb⟩; have X := hide (X.out.next hb); (try clear x1 x2 x3 x4 x5 x6); obtain ⟨x1, x2, x3, x4, x5, x6⟩ := X.out; have b1 := bl_trans b0 hb; clear hb)
      | (go_at_call 67; (with_reducible refine (D1.out A1 c1 _ b1 s1).mono ?_); rintro e w2 ⟨A2, c2, B2, d2, rfl, s2, _, h2, hb⟩; have X := hide (X.out.next hb); (try clear x1 x2 x3 x4 x5 x6); obtain ⟨x1, x2, x3, x4, x5, x6⟩ := X.out; have b2 := bl_trans b1 hb; have s1 := kp' hb s1; clear hb)
      | (go_at_call 67; (with_reducible refine (D2.out A1 c1 _ b2 s1).mono ?_); rintro e w3 ⟨A3, c3, B3, d3, rfl, s3, _, h3, hb⟩; have X := hide (X.out.next hb); (try clear x1 x2 x3 x4 x5 x6); obtain ⟨x1, x2, x3, x4, x5, x6⟩ := X.out; have b3 := bl_trans b2 hb; have s2 := kp' hb s2; clear hb)
      | (go_at_call 56; (with_reducible refine (T1.out A2 c2 _ s2 h2).mono ?_); rintro e w4 ⟨A4, c4, rfl, s4, hb⟩; have X := hide (X.out.next hb); (try clear x1 x2 x3 x4 x5 x6); obtain ⟨x1, x2, x3, x4, x5, x6⟩ := X.out; have b4 := bl_trans b3 hb; have s3 := kp' hb s3; clear hb)
      | (go_at_call 56; (with_reducible refine (T2.out A3 c3 _ s3 h3).mono ?_); rintro e w5 ⟨A5, c5, rfl, s5, hb⟩; have X := hide (X.out.next hb); (try clear x1 x2 x3 x4 x5 x6); obtain ⟨x1, x2, x3, x4, x5, x6⟩ := X.out; have b5 := bl_trans b4 hb; have s4 := kp' hb s4; clear hb))
    refine bodyPost_ret (v := .agg #[.bool false, .slice A4 i c4, .slice A5 j c5]) (by simp [results, Tryd.results37, go_sem, x1, x2, x3]) rfl (MK.out A4 A5 c4 c5 _ (s4.over3 X.out _ _ _) (s5.over3 X.out _ _ _) (Below.over3 b5 (Nat.le_refl _) _ _ _))
  | true =>
    have hz' : decide (0 < i) = z := by rw [← hz]; rfl
    have oz : binOp .gtr 3 (.int .i64 (i : Int)) (.int .i64 0) = pure (.bool z) := by
      show pure (Value.bool (decide ((i : Int) > 0))) = _
      rw [← hz']; congr 2; exact decide_eq_decide.2 (by omega)
    clear hz hz'
    go_enter Tryd.func37, Tryd.ntmps37
    go_wp2_with (first
      | (go_at_call 47; (with_reducible refine (G.out _ b0).mono ?_); rintro e w1 ⟨A1, c1, rfl, s1, hb⟩; have X := hide (X.out.next hb); (try clear x1 x2 x3 x4 x5 x6); obtain ⟨x1, x2, x3, x4, x5, x6⟩ := X.out; have b1 := bl_trans b0 hb; clear hb)
      | (go_at_call 67; (with_reducible refine (D1.out A1 c1 _ b1 s1).mono ?_); rintro e w2 ⟨A2, c2, B2, d2, rfl, s2, _, h2, hb⟩; have X := hide (X.out.next hb); (try clear x1 x2 x3 x4 x5 x6); obtain ⟨x1, x2, x3, x4, x5, x6⟩ := X.out; have b2 := bl_trans b1 hb; have s1 := kp' hb s1; clear hb)
      | (go_at_call 67; (with_reducible refine (D2.out A1 c1 _ b2 s1).mono ?_); rintro e w3 ⟨A3, c3, B3, d3, rfl, s3, _, h3, hb⟩; have X := hide (X.out.next hb); (try clear x1 x2 x3 x4 x5 x6); obtain ⟨x1, x2, x3, x4, x5, x6⟩ := X.out; have b3 := bl_trans b2 hb; have s2 := kp' hb s2; clear hb)
      | (go_at_call 56; (with_reducible refine (T1.out A2 c2 _ s2 h2).mono ?_); rintro e w4 ⟨A4, c4, rfl, s4, hb⟩; have X := hide (X.out.next hb); (try clear x1 x2 x3 x4 x5 x6); obtain ⟨x1, x2, x3, x4, x5, x6⟩ := X.out; have b4 := bl_trans b3 hb; have s3 := kp' hb s3; clear hb)
      | (go_at_call 56; (with_reducible refine (T2.out A3 c3 _ s3 h3).mono ?_); rintro e w5 ⟨A5, c5, rfl, s5, hb⟩; have X := hide (X.out.next hb); (try clear x1 x2 x3 x4 x5 x6); obtain ⟨x1, x2, x3, x4, x5, x6⟩ := X.out; have b5 := bl_trans b4 hb; have s4 := kp' hb s4; clear hb))
    refine bodyPost_ret (v := .agg #[.bool z, .slice A4 i c4, .slice A5 j c5]) (by simp [results, Tryd.results37, go_sem, x1, x2, x3]) rfl (MK.out A4 A5 c4 c5 _ (s4.over3 X.out _ _ _) (s5.over3 X.out _ _ _) (Below.over3 b5 (Nat.le_refl _) _ _ _))
end Nt

end Go.Proofs.YtgmjdaallinicaaDoor

namespace Go.Proofs.YtgmjdaallinicaaDoor

open Go.RowKit

namespace Nt

theorem rvalid_q (q : Rat) (A B : Option Addr) (c d : Nat) (w : World) (sx : Sl w A (digs (qn q))) (sy : Sl w B (digs (qd q))) (f : fitq q) :
    Calls Tryd.prog 16 #[.agg #[.bool (qs q), .slice A (ln (qn q)) c, .slice B (ln (qd q)) d]] w fun e w' => e = .returned (.bool true) ∧ Below w.heap.size w w' :=
  rvalidQ_any (qs q) A B c d _ _ w sx sy (limbs_digs _) (limbs_digs _) (Nat.le_trans f.1 (by decide)) (Nat.le_trans f.2 (by decide)) true (validQ_q q f.1 f.2)
theorem cmpSg_q (q r : Rat) : cmpSg (qs q && decide (0 < ln (qn q * qd r))) (qn q * qd r) (qs r && decide (0 < ln (qn r * qd q))) (qn r * qd q) = cmpQ q r := by
  rw [← dec_ln, ← dec_ln]
  have p1 : qs q = true → 0 < qn q * qd r := fun h => Nat.mul_pos (qn_pos_of_neg h) (qd_pos r)
  have p2 : qs r = true → 0 < qn r * qd q := fun h => Nat.mul_pos (qn_pos_of_neg h) (qd_pos q)
  cases h1 : qs q <;> cases h2 : qs r
  · rw [cmpQ_pp h1 h2]; rfl
  · rw [cmpQ_pn h1 h2, decide_eq_true (p2 h2)]; rfl
  · rw [cmpQ_np h1 h2, decide_eq_true (p1 h1)]; rfl
  · rw [cmpQ_nn h1 h2, decide_eq_true (p1 h1), decide_eq_true (p2 h2), cmpN_neg]; rfl
theorem ln_mul2 {x y : Nat} (hx : ln x ≤ 64) (hy : ln y ≤ 64) : ln (x * y) ≤ 128 := ln_le (lt_pow_mul (lt_of_ln hx) (lt_of_ln hy))
theorem k6' {c1 c2 c3 c4 c5 c6 k : Prop} (h : c1 ∧ c2 ∧ c3 ∧ c4 ∧ c5 ∧ c6 ∧ k) : k := h.2.2.2.2.2.2
theorem S6b_next {w w' : World} (hb : Below w.heap.size w w') {p1 p2 p3 p4 p5 p6 : Addr} {v1 v2 v3 v4 v5 v6 : Value} {w0 : World}
    (h : w.cell? p1 = some v1 ∧ w.cell? p2 = some v2 ∧ w.cell? p3 = some v3 ∧ w.cell? p4 = some v4 ∧ w.cell? p5 = some v5 ∧ w.cell? p6 = some v6 ∧ Below w0.heap.size w0 w) :
    w'.cell? p1 = some v1 ∧ w'.cell? p2 = some v2 ∧ w'.cell? p3 = some v3 ∧ w'.cell? p4 = some v4 ∧ w'.cell? p5 = some v5 ∧ w'.cell? p6 = some v6 ∧ Below w0.heap.size w0 w' := by
  obtain ⟨h1, h2, h3, h4, h5, h6, h7⟩ := h
  exact ⟨cell_next hb h1, cell_next hb h2, cell_next hb h3, cell_next hb h4, cell_next hb h5, cell_next hb h6, bl_trans h7 hb⟩

set_option maxRecDepth 100000 in
set_option maxHeartbeats 4000000 in
theorem rcmpRat_q (q r : Rat) (A B C D : Option Addr) (a b c d : Nat) (w : World) (sA : Sl w A (digs (qn q))) (sB : Sl w B (digs (qd q))) (sC : Sl w C (digs (qn r))) (sD : Sl w D (digs (qd r))) (f1 : fitq q) (f2 : fitq r) (k : Int) (hk : cmpQ q r = k) :
    Calls Tryd.prog 52 #[.agg #[.bool (qs q), .slice A (ln (qn q)) a, .slice B (ln (qd q)) b], .agg #[.bool (qs r), .slice C (ln (qn r)) c, .slice D (ln (qd r)) d]] w fun e w' => e = .returned (.int .i64 k) ∧ Below w.heap.size w w' := by
  have hk' := cmpSg_q q r
  rw [hk] at hk'
  obtain ⟨u, hu⟩ : ∃ u, qn q * qd r = u := ⟨_, rfl⟩
  obtain ⟨v, hv⟩ : ∃ v, qn r * qd q = v := ⟨_, rfl⟩
  have ul : ln u ≤ 128 := by rw [← hu]; exact ln_mul2 f1.1 f2.2
  have vl : ln v ≤ 128 := by rw [← hv]; exact ln_mul2 f2.1 f1.2
  have M1 := hide (fun W (h : Below w.heap.size w W) => rmul_z A D a d (qn q) (qd r) u W (kp' h sA) (kp' h sD) (Nat.le_trans f1.1 (by decide)) (Nat.le_trans f2.2 (by decide)) hu)
  have M2 := hide (fun W (h : Below w.heap.size w W) => rmul_z C B c b (qn r) (qd q) v W (kp' h sC) (kp' h sB) (Nat.le_trans f2.1 (by decide)) (Nat.le_trans f1.2 (by decide)) hv)
  rw [hu, hv] at hk'
  have W1 := hide (fun X e W => rwhole_any (qs q) X (ln u) e W (by omega))
  have W2 := hide (fun X e W => rwhole_any (qs r) X (ln v) e W (by omega))
  obtain ⟨s2, hs2⟩ : ∃ x, (qs q && decide (0 < ln u)) = x := ⟨_, rfl⟩
  obtain ⟨t2, ht2⟩ : ∃ x, (qs r && decide (0 < ln v)) = x := ⟨_, rfl⟩
  rw [hs2] at W1 hk'
  rw [ht2] at W2 hk'
  have CI := hide (fun X Y e f W (sx : Sl W X (digs u)) (sy : Sl W Y (digs v)) => rcmpS_any s2 t2 X Y e f (digs u) (digs v) W sx sy (limbs_digs u) (limbs_digs v) (norm_digs u) (norm_digs v) (Nat.le_trans ul (by decide)) (Nat.le_trans vl (by decide)))
  rw [val_digs, val_digs, hk'] at CI
  have CI : Hid (∀ X Y e f W, Sl W X (digs u) → Sl W Y (digs v) → Calls Tryd.prog 76 #[.agg #[.bool s2, .slice X (ln u) e], .agg #[.bool t2, .slice Y (ln v) f]] W fun e w' => e = .returned (.int .i64 k) ∧ Below W.heap.size W w') := CI
  clear sA sB sC sD f1 f2 hk hk' hu hv ul vl hs2 ht2
  generalize qs q = s at *
  generalize qs r = t at *
  generalize ln (qn q) = i1 at *
  generalize ln (qd q) = i2 at *
  generalize ln (qn r) = i3 at *
  generalize ln (qd r) = i4 at *
  have X1 := hide ((Q3.new (.bool s) (.slice A i1 a) (.slice B i2 b) w).al (.cells #[.bool t, .slice C i3 c, .slice D i4 d] 24))
  have X2 := hide (Q3.new1 (.bool t) (.slice C i3 c) (.slice D i4 d) w (.cells #[.bool s, .slice A i1 a, .slice B i2 b] 24))
  have b0 : Below w.heap.size w ((w.alloc (.cells #[.bool s, .slice A i1 a, .slice B i2 b] 24)).alloc (.cells #[.bool t, .slice C i3 c, .slice D i4 d] 24)) := bl_al (bl_al (.refl _ _) _) _
  obtain ⟨x1, x2, x3, x4, x5, x6⟩ := X1.out
  obtain ⟨y1, y2, y3, y4, y5, y6⟩ := X2.out
  have bd := hide b0.drew
  go_enter Tryd.func52, Tryd.ntmps52
  go_wp2
  go_region_held3 (fun W => W.cell? ⟨w.heap.size, 0, none⟩ = some (.bool s) ∧ W.cell? ⟨w.heap.size, 1, none⟩ = some (.slice A i1 a) ∧ W.cell? ⟨w.heap.size, 2, none⟩ = some (.slice B i2 b) ∧ W.cell? ⟨w.heap.size + 1, 0, none⟩ = some (.bool t) ∧ W.cell? ⟨w.heap.size + 1, 1, none⟩ = some (.slice C i3 c) ∧ W.cell? ⟨w.heap.size + 1, 2, none⟩ = some (.slice D i4 d) ∧ Below w.heap.size w W)
    (first | exact ⟨x1, x2, x3, y1, y2, y3, b0⟩ | exact ⟨x1, x2, x3, y1, y2, y3, bd.out⟩ | with_reducible exact S6b_next hb (by assumption) | with_reducible assumption)
    (first
      | (go_at_call 78; (with_reducible refine (M1.out _ (k6' (by assumption))).mono ?_); rintro e v1 ⟨P1, p1, rfl, z1, hb⟩; (try have z2 := kp' hb z2))
      | (go_at_call 78; (with_reducible refine (M2.out _ (k6' (by assumption))).mono ?_); rintro e v2 ⟨P2, p2, rfl, z2, hb⟩; (try have z1 := kp' hb z1))
      | (go_at_call 77; (with_reducible refine (W1.out P1 p1 _).mono ?_); rintro e v3 ⟨rfl, hb⟩; have z1 := kp' hb z1; (try have z2 := kp' hb z2))
      | (go_at_call 77; (with_reducible refine (W2.out P2 p2 _).mono ?_); rintro e v4 ⟨rfl, hb⟩; have z2 := kp' hb z2; (try have z1 := kp' hb z1))
      | (go_at_call 76; (with_reducible refine (CI.out P1 P2 p1 p2 _ z1 z2).mono ?_); rintro e v5 ⟨rfl, hb⟩))
  all_goals
    go_wp2
    go_ret
    exact ⟨rfl, (k6' (by assumption))⟩

set_option maxRecDepth 100000 in
set_option maxHeartbeats 4000000 in
theorem rcmp_q (q r : Rat) (A B C D : Option Addr) (a b c d : Nat) (w : World) (sA : Sl w A (digs (qn q))) (sB : Sl w B (digs (qd q))) (sC : Sl w C (digs (qn r))) (sD : Sl w D (digs (qd r))) (f1 : fitq q) (f2 : fitq r) (k : Int) (hk : cmpQ q r = k) :
    Calls Tryd.prog 20 #[.agg #[.bool (qs q), .slice A (ln (qn q)) a, .slice B (ln (qd q)) b], .agg #[.bool (qs r), .slice C (ln (qn r)) c, .slice D (ln (qd r)) d]] w fun e w' => e = .returned (.int .i64 k) ∧ Below w.heap.size w w' := by
  have V1 := hide (fun W (k : Below w.heap.size w W) => rvalid_q q A B a b W (kp' k sA) (kp' k sB) f1)
  have V2 := hide (fun W (k : Below w.heap.size w W) => rvalid_q r C D c d W (kp' k sC) (kp' k sD) f2)
  have OP := hide (fun W (k' : Below w.heap.size w W) => rcmpRat_q q r A B C D a b c d W (kp' k' sA) (kp' k' sB) (kp' k' sC) (kp' k' sD) f1 f2 k hk)
  clear sA sB sC sD f1 f2 hk
  generalize qs q = s at *
  generalize qs r = t at *
  generalize ln (qn q) = i1 at *
  generalize ln (qd q) = i2 at *
  generalize ln (qn r) = i3 at *
  generalize ln (qd r) = i4 at *
  have X1 := hide ((Q3.new (.bool s) (.slice A i1 a) (.slice B i2 b) w).al (.cells #[.bool t, .slice C i3 c, .slice D i4 d] 24))
  have X2 := hide (Q3.new1 (.bool t) (.slice C i3 c) (.slice D i4 d) w (.cells #[.bool s, .slice A i1 a, .slice B i2 b] 24))
  have b0 : Below w.heap.size w ((w.alloc (.cells #[.bool s, .slice A i1 a, .slice B i2 b] 24)).alloc (.cells #[.bool t, .slice C i3 c, .slice D i4 d] 24)) := bl_al (bl_al (.refl _ _) _) _
  go_enter Tryd.func20, Tryd.ntmps20
  go_wp2_with (first
    | (go_at_call 16; (with_reducible refine (V1.out _ b0).mono ?_); rintro e w1 ⟨rfl, hb⟩; have X1 := hide (X1.out.next hb); have X2 := hide (X2.out.next hb); (try clear x1 x2 x3 x4 x5 x6 y1 y2 y3 y4 y5 y6); obtain ⟨x1, x2, x3, x4, x5, x6⟩ := X1.out; obtain ⟨y1, y2, y3, y4, y5, y6⟩ := X2.out; have b1 := bl_trans b0 hb; clear hb)
    | (go_at_call 16; (with_reducible refine (V2.out _ b1).mono ?_); rintro e w2 ⟨rfl, hb⟩; have X1 := hide (X1.out.next hb); have X2 := hide (X2.out.next hb); (try clear x1 x2 x3 x4 x5 x6 y1 y2 y3 y4 y5 y6); obtain ⟨x1, x2, x3, x4, x5, x6⟩ := X1.out; obtain ⟨y1, y2, y3, y4, y5, y6⟩ := X2.out; have b2 := bl_trans b1 hb; clear hb)
    | (go_at_call 52; (with_reducible refine (OP.out _ b2).mono ?_); rintro e w3 ⟨rfl, hb⟩; have b3 := bl_trans b2 hb; clear hb))
  go_ret
  exact ⟨rfl, b3⟩
end Nt

end Go.Proofs.YtgmjdaallinicaaDoor

namespace Go.Proofs.YtgmjdaallinicaaDoor

open Go.RowKit

namespace Nt

theorem qn_pos0 {r : Rat} (h : r ≠ 0) : 0 < qn r := Int.natAbs_pos.2 (fun e => h (Rat.num_eq_zero.1 e))
theorem quo_qmk (q r : Rat) (h : r ≠ 0) : qmk (qs q != qs r) (qn q * qd r) (qd q * qn r) = q / r := by
  rw [Rat.div_def, mul_qmk, qs_inv h, qn_inv h, qd_inv h]
theorem T6c_next {w w' : World} (hb : Below w.heap.size w w') {p1 p2 p3 p4 p5 p6 : Addr} {v1 v2 v3 v4 v5 v6 : Value}
    (h : w.cell? p1 = some v1 ∧ w.cell? p2 = some v2 ∧ w.cell? p3 = some v3 ∧ w.cell? p4 = some v4 ∧ w.cell? p5 = some v5 ∧ w.cell? p6 = some v6) :
    w'.cell? p1 = some v1 ∧ w'.cell? p2 = some v2 ∧ w'.cell? p3 = some v3 ∧ w'.cell? p4 = some v4 ∧ w'.cell? p5 = some v5 ∧ w'.cell? p6 = some v6 := by
  obtain ⟨h1, h2, h3, h4, h5, h6⟩ := h
  exact ⟨cell_next hb h1, cell_next hb h2, cell_next hb h3, cell_next hb h4, cell_next hb h5, cell_next hb h6⟩
theorem T6c_over {w : World} {g h k : Nat} {v1 v2 v3 v4 v5 v6 a b c : Value} (n1 : h ≠ g) (n2 : k ≠ g)
    (x : w.cell? ⟨h, 0, none⟩ = some v1 ∧ w.cell? ⟨h, 1, none⟩ = some v2 ∧ w.cell? ⟨h, 2, none⟩ = some v3 ∧ w.cell? ⟨k, 0, none⟩ = some v4 ∧ w.cell? ⟨k, 1, none⟩ = some v5 ∧ w.cell? ⟨k, 2, none⟩ = some v6) :
    let W := (((w.setCell ⟨g, 0, none⟩ a).setCell ⟨g, 1, none⟩ b).setCell ⟨g, 2, none⟩ c)
    W.cell? ⟨h, 0, none⟩ = some v1 ∧ W.cell? ⟨h, 1, none⟩ = some v2 ∧ W.cell? ⟨h, 2, none⟩ = some v3 ∧ W.cell? ⟨k, 0, none⟩ = some v4 ∧ W.cell? ⟨k, 1, none⟩ = some v5 ∧ W.cell? ⟨k, 2, none⟩ = some v6 :=
  ⟨cell_over3 x.1 n1 a b c, cell_over3 x.2.1 n1 a b c, cell_over3 x.2.2.1 n1 a b c, cell_over3 x.2.2.2.1 n2 a b c, cell_over3 x.2.2.2.2.1 n2 a b c, cell_over3 x.2.2.2.2.2 n2 a b c⟩
theorem leI (t : TypeId) {x y : Int} (h : x ≤ y) : binOp .gtr t (.int .i64 x) (.int .i64 y) = pure (.bool false) := by
  show pure (Value.bool (decide (x > y))) = _
  rw [decide_eq_false (by omega)]
set_option maxRecDepth 100000 in
set_option maxHeartbeats 1000000 in
theorem rfits_q (q : Rat) (A B : Option Addr) (a b : Nat) (w : World) (sA : Sl w A (digs (qn q))) (sB : Sl w B (digs (qd q))) (f : fitq q) :
    Calls Tryd.prog 54 #[.agg #[.bool (qs q), .slice A (ln (qn q)) a, .slice B (ln (qd q)) b]] w (RQE w q) := by
  have e1 := leI 3 (show (ln (qn q) : Int) ≤ 64 by have := f.1; omega)
  have e2 := leI 3 (show (ln (qd q) : Int) ≤ 64 by have := f.2; omega)
  have X := hide (Q3.new1 (.bool false) (.slice none 0 0) (.slice none 0 0) w (.cells #[.bool (qs q), .slice A (ln (qn q)) a, .slice B (ln (qd q)) b] 24))
  have b0 : Below w.heap.size w ((w.alloc (.cells #[.bool (qs q), .slice A (ln (qn q)) a, .slice B (ln (qd q)) b] 24)).alloc (.cells #[.bool false, .slice none 0 0, .slice none 0 0] 24)) := bl_al (bl_al (.refl _ _) _) _
  have R := hide (fun (W : World) (k : Below w.heap.size w W) => (RQE.mk rfl rfl rfl (kp' k sA) (kp' k sB) k : RQE w q (.returned (.tuple #[.agg #[.bool (qs q), .slice A (ln (qn q)) a, .slice B (ln (qd q)) b], .int .i64 0])) W))
  clear sA sB f
  generalize qs q = s at *
  generalize ln (qn q) = i1 at *
  generalize ln (qd q) = i2 at *
  have X1 := hide ((Q3.new (.bool s) (.slice A i1 a) (.slice B i2 b) w).al (.cells #[.bool false, .slice none 0 0, .slice none 0 0] 24))
  obtain ⟨x1, x2, x3, x4, x5, x6⟩ := X.out
  obtain ⟨y1, y2, y3, y4, y5, y6⟩ := X1.out
  go_enter Tryd.func54, Tryd.ntmps54
  go_wp2
  exact bodyPost_ret (v := .tuple #[.agg #[.bool s, .slice A i1 a, .slice B i2 b], .int .i64 0]) (by simp [results, Tryd.results54, go_sem]) rfl (R.out _ (bl_al (bl_al (.refl _ _) _) _))

end Nt

end Go.Proofs.YtgmjdaallinicaaDoor

namespace Go.Proofs.YtgmjdaallinicaaDoor

open Go.RowKit

namespace Nt

set_option maxRecDepth 100000 in
set_option maxHeartbeats 4000000 in
theorem radd_no (s t : Bool) (A B C D : Option Addr) (a b c d : Nat) (xs ys us vs : List Nat) (w : World) (sA : Sl w A xs) (sB : Sl w B ys) (sC : Sl w C us) (sD : Sl w D vs) (lx : Limbs xs) (ly : Limbs ys) (lu : Limbs us) (lv : Limbs vs) (m1 : xs.length ≤ 1000000) (m2 : ys.length ≤ 1000000) (m3 : us.length ≤ 1000000) (m4 : vs.length ≤ 1000000) (h : validQ s xs ys = false ∨ validQ t us vs = false) :
    Calls Tryd.prog 25 #[.agg #[.bool s, .slice A xs.length a, .slice B ys.length b], .agg #[.bool t, .slice C us.length c, .slice D vs.length d]] w (RNo 1 w) := by
  obtain ⟨r1, h1⟩ : ∃ r, validQ s xs ys = r := ⟨_, rfl⟩
  obtain ⟨r2, h2⟩ : ∃ r, validQ t us vs = r := ⟨_, rfl⟩
  rw [h1, h2] at h
  have V1 := hide (fun W (k : Below w.heap.size w W) => rvalidQ_any s A B a b xs ys W (kp' k sA) (kp' k sB) lx ly m1 m2 r1 h1)
  have V2 := hide (fun W (k : Below w.heap.size w W) => rvalidQ_any t C D c d us vs W (kp' k sC) (kp' k sD) lu lv m3 m4 r2 h2)
  clear sA sB sC sD lx ly lu lv m1 m2 m3 m4 h1 h2
  generalize xs.length = i1 at *
  generalize ys.length = i2 at *
  generalize us.length = i3 at *
  generalize vs.length = i4 at *
  have X1 := hide (((Q3.new (.bool s) (.slice A i1 a) (.slice B i2 b) w).al (.cells #[.bool t, .slice C i3 c, .slice D i4 d] 24)).al (.cells #[.bool false, .slice none 0 0, .slice none 0 0] 24))
  have X2 := hide ((Q3.new1 (.bool t) (.slice C i3 c) (.slice D i4 d) w (.cells #[.bool s, .slice A i1 a, .slice B i2 b] 24)).al (.cells #[.bool false, .slice none 0 0, .slice none 0 0] 24))
  have X3 := hide (Q3.new2 (.bool false) (.slice none 0 0) (.slice none 0 0) w (.cells #[.bool s, .slice A i1 a, .slice B i2 b] 24) (.cells #[.bool t, .slice C i3 c, .slice D i4 d] 24))
  have b0 : Below w.heap.size w (((w.alloc (.cells #[.bool s, .slice A i1 a, .slice B i2 b] 24)).alloc (.cells #[.bool t, .slice C i3 c, .slice D i4 d] 24)).alloc (.cells #[.bool false, .slice none 0 0, .slice none 0 0] 24)) := bl_al (bl_al (bl_al (.refl _ _) _) _) _
  cases r1 with
  | false =>
    go_enter Tryd.func25, Tryd.ntmps25
    go_wp2_with (first
      | (go_at_call 16; (with_reducible refine (V1.out _ b0).mono ?_); rintro e w1 ⟨rfl, hb⟩; have X1 := hide (X1.out.next hb); have X2 := hide (X2.out.next hb); have X3 := hide (X3.out.next hb); (try clear x1 x2 x3 x4 x5 x6 y1 y2 y3 y4 y5 y6 z1 z2 z3 z4 z5 z6); obtain ⟨x1, x2, x3, x4, x5, x6⟩ := X1.out; obtain ⟨y1, y2, y3, y4, y5, y6⟩ := X2.out; obtain ⟨z1, z2, z3, z4, z5, z6⟩ := X3.out; have b1 := bl_trans b0 hb; clear hb))
    exact bodyPost_ret (v := .tuple #[.agg #[.bool false, .slice none 0 0, .slice none 0 0], .int .i64 1]) (by simp [results, Tryd.results25, go_sem, z1, z2, z3]) rfl ⟨rfl, Below.over3 b1 (by omega) _ _ _⟩
  | true =>
    obtain rfl : r2 = false := by rcases h with h | h; exact absurd h (by decide); exact h
    go_enter Tryd.func25, Tryd.ntmps25
    go_wp2_with (first
      | (go_at_call 16; (with_reducible refine (V1.out _ b0).mono ?_); rintro e w1 ⟨rfl, hb⟩; have X1 := hide (X1.out.next hb); have X2 := hide (X2.out.next hb); have X3 := hide (X3.out.next hb); (try clear x1 x2 x3 x4 x5 x6 y1 y2 y3 y4 y5 y6 z1 z2 z3 z4 z5 z6); obtain ⟨x1, x2, x3, x4, x5, x6⟩ := X1.out; obtain ⟨y1, y2, y3, y4, y5, y6⟩ := X2.out; obtain ⟨z1, z2, z3, z4, z5, z6⟩ := X3.out; have b1 := bl_trans b0 hb; clear hb)
      | (go_at_call 16; (with_reducible refine (V2.out _ b1).mono ?_); rintro e w2 ⟨rfl, hb⟩; have X1 := hide (X1.out.next hb); have X2 := hide (X2.out.next hb); have X3 := hide (X3.out.next hb); (try clear x1 x2 x3 x4 x5 x6 y1 y2 y3 y4 y5 y6 z1 z2 z3 z4 z5 z6); obtain ⟨x1, x2, x3, x4, x5, x6⟩ := X1.out; obtain ⟨y1, y2, y3, y4, y5, y6⟩ := X2.out; obtain ⟨z1, z2, z3, z4, z5, z6⟩ := X3.out; have b2 := bl_trans b1 hb; clear hb))
    exact bodyPost_ret (v := .tuple #[.agg #[.bool false, .slice none 0 0, .slice none 0 0], .int .i64 1]) (by simp [results, Tryd.results25, go_sem, z1, z2, z3]) rfl ⟨rfl, Below.over3 b2 (by omega) _ _ _⟩

set_option maxRecDepth 100000 in
set_option maxHeartbeats 4000000 in
theorem rcmp_no (s t : Bool) (A B C D : Option Addr) (a b c d : Nat) (xs ys us vs : List Nat) (w : World) (sA : Sl w A xs) (sB : Sl w B ys) (sC : Sl w C us) (sD : Sl w D vs) (lx : Limbs xs) (ly : Limbs ys) (lu : Limbs us) (lv : Limbs vs) (m1 : xs.length ≤ 1000000) (m2 : ys.length ≤ 1000000) (m3 : us.length ≤ 1000000) (m4 : vs.length ≤ 1000000) (h : validQ s xs ys = false ∨ validQ t us vs = false) :
    Calls Tryd.prog 20 #[.agg #[.bool s, .slice A xs.length a, .slice B ys.length b], .agg #[.bool t, .slice C us.length c, .slice D vs.length d]] w fun e w' => e = .returned (.int .i64 0) ∧ Below w.heap.size w w' := by
  obtain ⟨r1, h1⟩ : ∃ r, validQ s xs ys = r := ⟨_, rfl⟩
  obtain ⟨r2, h2⟩ : ∃ r, validQ t us vs = r := ⟨_, rfl⟩
  rw [h1, h2] at h
  have V1 := hide (fun W (k : Below w.heap.size w W) => rvalidQ_any s A B a b xs ys W (kp' k sA) (kp' k sB) lx ly m1 m2 r1 h1)
  have V2 := hide (fun W (k : Below w.heap.size w W) => rvalidQ_any t C D c d us vs W (kp' k sC) (kp' k sD) lu lv m3 m4 r2 h2)
  clear sA sB sC sD lx ly lu lv m1 m2 m3 m4 h1 h2
  generalize xs.length = i1 at *
  generalize ys.length = i2 at *
  generalize us.length = i3 at *
  generalize vs.length = i4 at *
  have X1 := hide ((Q3.new (.bool s) (.slice A i1 a) (.slice B i2 b) w).al (.cells #[.bool t, .slice C i3 c, .slice D i4 d] 24))
  have X2 := hide (Q3.new1 (.bool t) (.slice C i3 c) (.slice D i4 d) w (.cells #[.bool s, .slice A i1 a, .slice B i2 b] 24))
  have b0 : Below w.heap.size w ((w.alloc (.cells #[.bool s, .slice A i1 a, .slice B i2 b] 24)).alloc (.cells #[.bool t, .slice C i3 c, .slice D i4 d] 24)) := bl_al (bl_al (.refl _ _) _) _
  cases r1 with
  | false =>
    go_enter Tryd.func20, Tryd.ntmps20
    go_wp2_with (first
      | (go_at_call 16; (with_reducible refine (V1.out _ b0).mono ?_); rintro e w1 ⟨rfl, hb⟩; have X1 := hide (X1.out.next hb); have X2 := hide (X2.out.next hb); (try clear x1 x2 x3 x4 x5 x6 y1 y2 y3 y4 y5 y6); obtain ⟨x1, x2, x3, x4, x5, x6⟩ := X1.out; obtain ⟨y1, y2, y3, y4, y5, y6⟩ := X2.out; have b1 := bl_trans b0 hb; clear hb))
    go_ret
    exact ⟨rfl, b1⟩
  | true =>
    obtain rfl : r2 = false := by rcases h with h | h; exact absurd h (by decide); exact h
    go_enter Tryd.func20, Tryd.ntmps20
    go_wp2_with (first
      | (go_at_call 16; (with_reducible refine (V1.out _ b0).mono ?_); rintro e w1 ⟨rfl, hb⟩; have X1 := hide (X1.out.next hb); have X2 := hide (X2.out.next hb); (try clear x1 x2 x3 x4 x5 x6 y1 y2 y3 y4 y5 y6); obtain ⟨x1, x2, x3, x4, x5, x6⟩ := X1.out; obtain ⟨y1, y2, y3, y4, y5, y6⟩ := X2.out; have b1 := bl_trans b0 hb; clear hb)
      | (go_at_call 16; (with_reducible refine (V2.out _ b1).mono ?_); rintro e w2 ⟨rfl, hb⟩; have X1 := hide (X1.out.next hb); have X2 := hide (X2.out.next hb); (try clear x1 x2 x3 x4 x5 x6 y1 y2 y3 y4 y5 y6); obtain ⟨x1, x2, x3, x4, x5, x6⟩ := X1.out; obtain ⟨y1, y2, y3, y4, y5, y6⟩ := X2.out; have b2 := bl_trans b1 hb; clear hb))
    go_ret
    exact ⟨rfl, b2⟩

set_option maxRecDepth 100000 in
set_option maxHeartbeats 4000000 in
theorem rneg_no (s : Bool) (A B : Option Addr) (a b : Nat) (xs ys : List Nat) (w : World) (sA : Sl w A xs) (sB : Sl w B ys) (lx : Limbs xs) (ly : Limbs ys) (m1 : xs.length ≤ 1000000) (m2 : ys.length ≤ 1000000) (h : validQ s xs ys = false) :
    Calls Tryd.prog 27 #[.agg #[.bool s, .slice A xs.length a, .slice B ys.length b]] w fun e w' => e = .returned (.agg #[.bool false, .slice none 0 0, .slice none 0 0]) ∧ Below w.heap.size w w' := by
  have V1 := hide (fun W (k : Below w.heap.size w W) => rvalidQ_any s A B a b xs ys W (kp' k sA) (kp' k sB) lx ly m1 m2 false h)
  clear sA sB lx ly m1 m2 h
  generalize xs.length = i1 at *
  generalize ys.length = i2 at *
  have X1 := hide ((Q3.new (.bool s) (.slice A i1 a) (.slice B i2 b) w).al (.cells #[.bool false, .slice none 0 0, .slice none 0 0] 24))
  have X3 := hide (Q3.new1 (.bool false) (.slice none 0 0) (.slice none 0 0) w (.cells #[.bool s, .slice A i1 a, .slice B i2 b] 24))
  have b0 : Below w.heap.size w ((w.alloc (.cells #[.bool s, .slice A i1 a, .slice B i2 b] 24)).alloc (.cells #[.bool false, .slice none 0 0, .slice none 0 0] 24)) := bl_al (bl_al (.refl _ _) _) _
  go_enter Tryd.func27, Tryd.ntmps27
  go_wp2_with (first
    | (go_at_call 16; (with_reducible refine (V1.out _ b0).mono ?_); rintro e w1 ⟨rfl, hb⟩; have X1 := hide (X1.out.next hb); have X3 := hide (X3.out.next hb); obtain ⟨x1, x2, x3, x4, x5, x6⟩ := X1.out; obtain ⟨z1, z2, z3, z4, z5, z6⟩ := X3.out; have b1 := bl_trans b0 hb; clear hb))
  exact bodyPost_ret (v := .agg #[.bool false, .slice none 0 0, .slice none 0 0]) (by simp [results, Tryd.results27, go_sem, z1, z2, z3]) rfl ⟨rfl, Below.over3 b1 (by omega) _ _ _⟩

end Nt

end Go.Proofs.YtgmjdaallinicaaDoor

namespace Go.Proofs.YtgmjdaallinicaaDoor

open Go.RowKit

namespace Nt

set_option maxRecDepth 100000 in
set_option maxHeartbeats 4000000 in
theorem rnew_q (x y : Int) (A B : Option Addr) (c d : Nat) (q : Rat) (w : World) (sx : Sl w A (digs x.natAbs)) (sy : Sl w B (digs y.natAbs)) (hx : ln x.natAbs ≤ 64) (hy : ln y.natAbs ≤ 64) (h0 : y ≠ 0) (hq : qmk (isg x != isg y) x.natAbs y.natAbs = q) :
    Calls Tryd.prog 57 #[.agg #[.bool (isg x), .slice A (ln x.natAbs) c], .agg #[.bool (isg y), .slice B (ln y.natAbs) d]] w (RQE w q) := by
  have yp : 0 < y.natAbs := Int.natAbs_pos.2 h0
  have V1 := hide (fun W (k : Below w.heap.size w W) => rvalidI_any (isg x) A c (digs x.natAbs) W (kp' k sx) (Nat.le_trans hx (by decide)))
  have V2 := hide (fun W (k : Below w.heap.size w W) => rvalidI_any (isg y) B d (digs y.natAbs) W (kp' k sy) (Nat.le_trans hy (by decide)))
  rw [show validI (isg x) (digs x.natAbs) = true from validI_num (lt_of_ln hx)] at V1
  rw [show validI (isg y) (digs y.natAbs) = true from validI_num (lt_of_ln hy)] at V2
  obtain ⟨n, hn⟩ : ∃ n, ln x.natAbs = n := ⟨_, rfl⟩
  obtain ⟨m, hm⟩ : ∃ n, ln y.natAbs = n := ⟨_, rfl⟩
  have V1 : Hid (∀ W, Below w.heap.size w W → Calls Tryd.prog 80 #[.agg #[.bool (isg x), .slice A n c]] W fun e w' => e = .returned (.bool true) ∧ Below W.heap.size W w') := by rw [← hn]; exact V1
  have V2 : Hid (∀ W, Below w.heap.size w W → Calls Tryd.prog 80 #[.agg #[.bool (isg y), .slice B m d]] W fun e w' => e = .returned (.bool true) ∧ Below W.heap.size W w') := by rw [← hm]; exact V2
  obtain ⟨s2, hs2⟩ : ∃ z, (isg x != isg y) = z := ⟨_, rfl⟩
  rw [hs2] at hq
  have MD := hide (fun W (k : Below w.heap.size w W) => rmade_q s2 A B c d x.natAbs y.natAbs q W (kp' k sx) (kp' k sy) (Nat.le_trans hx (by decide)) (Nat.le_trans hy (by decide)) yp hq)
  rw [hn, hm] at MD
  rw [hn, hm]
  have hj : ((m : Int) == 0) = false := beq_eq_false_iff_ne.2 (by rw [← hm]; have := ln_pos.2 yp; omega)
  have on : ∀ W : World, (binOp .neq 4 (.bool (isg x)) (.bool (isg y))).run Tryd.prog W = .ok (.bool s2) W := fun W => by
    rw [← hs2]
    cases isg x <;> cases isg y <;> kernel_rfl
  clear sx sy hx hy h0 hq yp hs2 hn hm
  generalize isg x = s at *
  generalize isg y = t at *
  have X1 := hide (((Q2.new (.bool s) (.slice A n c) w).al (.cells #[.bool t, .slice B m d] 77)).al (.cells #[.bool false, .slice none 0 0, .slice none 0 0] 24))
  have X2 := hide ((Q2.new1 (.bool t) (.slice B m d) w (.cells #[.bool s, .slice A n c] 77)).al (.cells #[.bool false, .slice none 0 0, .slice none 0 0] 24))
  have X3 := hide (Q3.new2 (.bool false) (.slice none 0 0) (.slice none 0 0) w (.cells #[.bool s, .slice A n c] 77) (.cells #[.bool t, .slice B m d] 77))
  have b0 : Below w.heap.size w (((w.alloc (.cells #[.bool s, .slice A n c] 77)).alloc (.cells #[.bool t, .slice B m d] 77)).alloc (.cells #[.bool false, .slice none 0 0, .slice none 0 0] 24)) := bl_al (bl_al (bl_al (.refl _ _) _) _) _
  go_enter Tryd.func57, Tryd.ntmps57
  go_wp2_with (first
    | (go_at_call 80; (with_reducible refine (V1.out _ b0).mono ?_); rintro e w1 ⟨rfl, hb⟩; have X1 := hide (X1.out.next hb); have X2 := hide (X2.out.next hb); have X3 := hide (X3.out.next hb); (try clear x1 x2 x3 x4 y1 y2 y3 y4 u1 u2 u3 u4 u5 u6); obtain ⟨x1, x2, x3, x4⟩ := X1.out; obtain ⟨y1, y2, y3, y4⟩ := X2.out; obtain ⟨u1, u2, u3, u4, u5, u6⟩ := X3.out; have b1 := bl_trans b0 hb; clear hb)
    | (go_at_call 80; (with_reducible refine (V2.out _ b1).mono ?_); rintro e w2 ⟨rfl, hb⟩; have X1 := hide (X1.out.next hb); have X2 := hide (X2.out.next hb); have X3 := hide (X3.out.next hb); (try clear x1 x2 x3 x4 y1 y2 y3 y4 u1 u2 u3 u4 u5 u6); obtain ⟨x1, x2, x3, x4⟩ := X1.out; obtain ⟨y1, y2, y3, y4⟩ := X2.out; obtain ⟨u1, u2, u3, u4, u5, u6⟩ := X3.out; have b2 := bl_trans b1 hb; clear hb)
    | (go_at_call 37; (with_reducible refine (MD.out _ b2).mono ?_); rintro e w3 ⟨A3, c3, B3, d3, rfl, s3, t3, hb⟩; have X1 := hide (X1.out.next hb); have X2 := hide (X2.out.next hb); have X3 := hide (X3.out.next hb); (try clear x1 x2 x3 x4 y1 y2 y3 y4 u1 u2 u3 u4 u5 u6); obtain ⟨x1, x2, x3, x4⟩ := X1.out; obtain ⟨y1, y2, y3, y4⟩ := X2.out; obtain ⟨u1, u2, u3, u4, u5, u6⟩ := X3.out; have b3 := bl_trans b2 hb; clear hb))
  exact bodyPost_ret (v := .tuple #[.agg #[.bool (qs q), .slice A3 (ln (qn q)) c3, .slice B3 (ln (qd q)) d3], .int .i64 0]) (by simp [results, Tryd.results57, go_sem, u1, u2, u3]) rfl (RQE.mk rfl rfl rfl (s3.over3 X3.out _ _ _) (t3.over3 X3.out _ _ _) (Below.over3 b3 (by omega) _ _ _))

/-- Behind New in Of: all that was there, an empty fraction's cells for the answer, block g with the number. -/
def UO (w : World) (u v x : Value) (A B : Option Addr) (n m : Nat) (g : Nat) (V : World) : Prop := Below w.heap.size w V ∧ Q3 w.heap.size (.bool false) (.slice none 0 0) (.slice none 0 0) V ∧ Sl V A (digs n) ∧ Sl V B (digs m) ∧ Q3 g u v x V
theorem q3_frozen3 {g h k : Nat} {w : World} (f : w.frozen? ⟨h, k, none⟩ = false) (a b c : Value) : (((w.setCell ⟨g, 0, none⟩ a).setCell ⟨g, 1, none⟩ b).setCell ⟨g, 2, none⟩ c).frozen? ⟨h, k, none⟩ = false := by
  rw [World.frozen?_setCell, World.frozen?_setCell, World.frozen?_setCell]; exact f
theorem q3_apart {g h : Nat} {u v x : Value} {w : World} (k : Q3 h u v x w) (hne : h ≠ g) (a b c : Value) : Q3 h u v x (((w.setCell ⟨g, 0, none⟩ a).setCell ⟨g, 1, none⟩ b).setCell ⟨g, 2, none⟩ c) :=
  ⟨cell_over3 k.1 hne a b c, cell_over3 k.2.1 hne a b c, cell_over3 k.2.2.1 hne a b c, q3_frozen3 k.2.2.2.1 a b c, q3_frozen3 k.2.2.2.2.1 a b c, q3_frozen3 k.2.2.2.2.2 a b c⟩
theorem q3_put {g : Nat} {u v x : Value} {w : World} (k : Q3 g u v x w) (a b c : Value) : Q3 g a b c (((w.setCell ⟨g, 0, none⟩ a).setCell ⟨g, 1, none⟩ b).setCell ⟨g, 2, none⟩ c) := by
  have ne : ∀ {i j : Nat}, i ≠ j → (⟨g, i, none⟩ : Addr) ≠ ⟨g, j, none⟩ := by
    intro i j hh e
    injection e with _ e2 _
    exact hh e2
  refine ⟨?_, ?_, ?_, q3_frozen3 k.2.2.2.1 a b c, q3_frozen3 k.2.2.2.2.1 a b c, q3_frozen3 k.2.2.2.2.2 a b c⟩
  · rw [World.cell?_setCell_other _ _ _ _ (ne (by decide)), World.cell?_setCell_other _ _ _ _ (ne (by decide))]
    exact World.cell?_setCell_same _ _ _ k.1
  · rw [World.cell?_setCell_other _ _ _ _ (ne (by decide))]
    exact World.cell?_setCell_same _ _ _ (by rw [World.cell?_setCell_other _ _ _ _ (ne (by decide))]; exact k.2.1)
  · exact World.cell?_setCell_same _ _ _ (by rw [World.cell?_setCell_other _ _ _ _ (ne (by decide)), World.cell?_setCell_other _ _ _ _ (ne (by decide))]; exact k.2.2.1)
theorem fo_new {w V : World} {u v x : Value} {A B : Option Addr} {n m : Nat} (b : Below w.heap.size w V) (r : Q3 w.heap.size (.bool false) (.slice none 0 0) (.slice none 0 0) V) (s : Sl V A (digs n)) (t : Sl V B (digs m)) :
    UO w u v x A B n m V.heap.size (V.alloc (.cells #[u, v, x] 24)) := ⟨bl_al b _, r.al _, s.alloc _, t.alloc _, Q3.new _ _ _ _⟩
theorem fo_set {w V : World} {g : Nat} {u v x : Value} {A B : Option Addr} {n m : Nat} (b : Below w.heap.size w V) (r : Q3 w.heap.size (.bool false) (.slice none 0 0) (.slice none 0 0) V) (s : Sl V A (digs n)) (t : Sl V B (digs m)) (h : Q3 g (.bool false) (.slice none 0 0) (.slice none 0 0) V) (hg : w.heap.size < g) :
    UO w u v x A B n m g (((V.setCell ⟨g, 0, none⟩ u).setCell ⟨g, 1, none⟩ v).setCell ⟨g, 2, none⟩ x) := ⟨Below.over3 b (by omega) _ _ _, q3_apart r (by omega) _ _ _, s.over3 h _ _ _, t.over3 h _ _ _, q3_put h _ _ _⟩

set_option maxRecDepth 100000 in
set_option maxHeartbeats 4000000 in
theorem rof0_q (q : Rat) (hq : q = 0) (w : World) : Calls Tryd.prog 28 #[.int .i64 0, .int .i64 1] w (RQ w q) := by
  have hq' : qmk (isg 0 != isg 1) (0 : Int).natAbs (1 : Int).natAbs = q := by rw [hq]; decide
  have R0 := hide (fun W (_ : Below w.heap.size w W) => rof_z 0 W (by decide) (by decide))
  have R1 := hide (fun W (_ : Below w.heap.size w W) => rof_z 1 W (by decide) (by decide))
  have NW := hide (fun X Y e g W (_ : Below w.heap.size w W) s1 s2 => rnew_q 0 1 X Y e g q W s1 s2 (by rw [show (0 : Int).natAbs = 0 from rfl, ln_zero]; decide) (by rw [show (1 : Int).natAbs = 1 from rfl, ln_one]; decide) (by decide) hq')
  clear hq hq'
  generalize isg 0 = s0 at *
  generalize isg 1 = s1 at *
  generalize (0 : Int).natAbs = k0 at *
  generalize (1 : Int).natAbs = k1 at *
  have X3 := hide (Q3.new (.bool false) (.slice none 0 0) (.slice none 0 0) w)
  have kb := hide (bl_al (.refl w.heap.size w) (.cells #[.bool false, .slice none 0 0, .slice none 0 0] 24))
  have oe : binOp .eql 3 (.int .i64 1) (.int .i64 0) = pure (.bool false) := rfl
  go_enter Tryd.func28, Tryd.ntmps28
  go_wp2_with (first
    | (go_at_call 58; (with_reducible refine (R0.out _ kb.out).mono ?_); rintro e v1 ⟨P1, p1, rfl, z1, hb⟩; have X3 := hide (X3.out.next hb); have kb := hide (bl_trans kb.out hb))
    | (go_at_call 58; (with_reducible refine (R1.out _ kb.out).mono ?_); rintro e v2 ⟨P2, p2, rfl, z2, hb⟩; have X3 := hide (X3.out.next hb); have kb := hide (bl_trans kb.out hb); have z1 := kp' hb z1)
    | (go_at_call 57; (with_reducible refine (NW.out P1 P2 p1 p2 _ kb.out z1 z2).mono ?_); rintro e w3 ⟨A3, c3, B3, d3, rfl, s3, t3, hb⟩; have X3 := hide (X3.out.next hb); have kb := hide (bl_trans kb.out hb); obtain ⟨u1, u2, u3, u4, u5, u6⟩ := X3.out.al (.cells #[.bool (qs q), .slice A3 (ln (qn q)) c3, .slice B3 (ln (qd q)) d3] 24); obtain ⟨y1, y2, y3, y4, y5, y6⟩ := Q3.new (.bool (qs q)) (.slice A3 (ln (qn q)) c3) (.slice B3 (ln (qd q)) d3) w3; have lx := X3.out.lt; have XA := X3; have ne1 : (⟨w.heap.size, 0, none⟩ : Addr) ≠ ⟨w.heap.size, 1, none⟩ := (by intro e; injection e with _ e2 _; exact absurd e2 (by decide)); have ne2 : (⟨w.heap.size, 0, none⟩ : Addr) ≠ ⟨w.heap.size, 2, none⟩ := (by intro e; injection e with _ e2 _; exact absurd e2 (by decide)); have ne3 : (⟨w.heap.size, 1, none⟩ : Addr) ≠ ⟨w.heap.size, 2, none⟩ := (by intro e; injection e with _ e2 _; exact absurd e2 (by decide)); have h1 : (w3.setCell ⟨w.heap.size, 0, none⟩ (.bool (qs q))).cell? ⟨w.heap.size, 1, none⟩ = some (.slice none 0 0) := (by rw [World.cell?_setCell_other _ _ _ _ ne1]; exact XA.out.2.1); have h2 : ((w3.setCell ⟨w.heap.size, 0, none⟩ (.bool (qs q))).setCell ⟨w.heap.size, 1, none⟩ (.slice A3 (ln (qn q)) c3)).cell? ⟨w.heap.size, 2, none⟩ = some (.slice none 0 0) := (by rw [World.cell?_setCell_other _ _ _ _ ne3, World.cell?_setCell_other _ _ _ _ ne2]; exact XA.out.2.2.1); have i1 := cell_next (bl_al (.refl _ _) (.cells #[.bool (qs q), .slice A3 (ln (qn q)) c3, .slice B3 (ln (qd q)) d3] 24)) h1; have i2 := cell_next (bl_al (.refl _ _) (.cells #[.bool (qs q), .slice A3 (ln (qn q)) c3, .slice B3 (ln (qd q)) d3] 24)) h2; have i3 := frozen_next (bl_al (.refl _ _) (.cells #[.bool (qs q), .slice A3 (ln (qn q)) c3, .slice B3 (ln (qd q)) d3] 24)) h1 (by rw [World.frozen?_setCell]; exact XA.out.2.2.2.2.1); have i4 := frozen_next (bl_al (.refl _ _) (.cells #[.bool (qs q), .slice A3 (ln (qn q)) c3, .slice B3 (ln (qd q)) d3] 24)) h2 (by rw [World.frozen?_setCell, World.frozen?_setCell]; exact XA.out.2.2.2.2.2); obtain ⟨r1, r2, r3, r4, r5, r6⟩ := (q3_put XA.out (.bool (qs q)) (.slice A3 (ln (qn q)) c3) (.slice B3 (ln (qd q)) d3)).al (.cells #[.bool (qs q), .slice A3 (ln (qn q)) c3, .slice B3 (ln (qd q)) d3] 24); clear h1 h2 ne1 ne2 ne3))
  refine bodyPost_ret (v := .agg #[.bool (qs q), .slice A3 (ln (qn q)) c3, .slice B3 (ln (qd q)) d3]) (by simp [results, Tryd.results28, go_sem, r1, r2, r3]) rfl (RQ.mk rfl rfl rfl ((s3.over3 XA.out (.bool (qs q)) (.slice A3 (ln (qn q)) c3) (.slice B3 (ln (qd q)) d3)).alloc (.cells #[.bool (qs q), .slice A3 (ln (qn q)) c3, .slice B3 (ln (qd q)) d3] 24)) ((t3.over3 XA.out (.bool (qs q)) (.slice A3 (ln (qn q)) c3) (.slice B3 (ln (qd q)) d3)).alloc (.cells #[.bool (qs q), .slice A3 (ln (qn q)) c3, .slice B3 (ln (qd q)) d3] 24)) (bl_al (Below.over3 kb.out (Nat.le_refl _) (.bool (qs q)) (.slice A3 (ln (qn q)) c3) (.slice B3 (ln (qd q)) d3)) (.cells #[.bool (qs q), .slice A3 (ln (qn q)) c3, .slice B3 (ln (qd q)) d3] 24)))

theorem sign_cmpQ0 (z : Rat) : cmpZ z.num 0 = cmpQ z 0 := by
  rw [cmpQ_Z, show qd 0 = 1 from rfl, show (0 : Rat).num = 0 from rfl, Int.zero_mul, show ((1 : Nat) : Int) = 1 from rfl, Int.mul_one]
theorem S3b_next {w w' : World} (hb : Below w.heap.size w w') {p1 p2 p3 : Addr} {v1 v2 v3 : Value} {w0 : World} (h : w.cell? p1 = some v1 ∧ w.cell? p2 = some v2 ∧ w.cell? p3 = some v3 ∧ Below w0.heap.size w0 w) :
    w'.cell? p1 = some v1 ∧ w'.cell? p2 = some v2 ∧ w'.cell? p3 = some v3 ∧ Below w0.heap.size w0 w' := ⟨cell_next hb h.1, cell_next hb h.2.1, cell_next hb h.2.2.1, bl_trans h.2.2.2 hb⟩
theorem k3' {c1 c2 c3 k : Prop} (h : c1 ∧ c2 ∧ c3 ∧ k) : k := h.2.2.2

end Nt

end Go.Proofs.YtgmjdaallinicaaDoor
