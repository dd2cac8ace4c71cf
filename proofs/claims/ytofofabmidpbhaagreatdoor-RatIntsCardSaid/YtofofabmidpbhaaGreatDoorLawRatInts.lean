
/-
  The law RatInts.
-/
import Derived.Test.YtofofabmidpbhaaGreatDoorAwake3

namespace Go.Proofs.YtofofabmidpbhaaGreatDoor

open Go.RowKit

namespace Nt

theorem int_rng {n : Int} (h : (Lit.int .i64 n).wf = true) : -9223372036854775808 ≤ n ∧ n ≤ 9223372036854775807 := by
  simp only [Lit.wf, Bool.and_eq_true, decide_eq_true_eq] at h
  exact h
theorem je3 (t : TypeId) (x : Int) : binOp .eql t (.int .i64 x) (.int .i64 x) = pure (.bool true) := by
  show pure (Value.bool (x == x)) = _
  rw [beq_self_eq_true]
theorem lnI {x : Int} (h1 : -9223372036854775808 ≤ x) (h2 : x ≤ 9223372036854775807) : ln x.natAbs ≤ 64 := ln_le (i64_lt h1 h2)
theorem fit_mk {n d : Int} (h : d ≠ 0) (hn : ln n.natAbs ≤ 64) (hd : ln d.natAbs ≤ 64) : fitq (Rat.divInt n d) := by
  have e := qmk_divInt n d h
  have hd0 : d.natAbs ≠ 0 := by omega
  refine ⟨?_, ?_⟩
  · rw [← e, qn_mk _ _ hd0]; exact Nat.le_trans (ln_div _ _) hn
  · rw [← e, qd_mk _ _ hd0]; exact Nat.le_trans (ln_div _ _) hd
theorem one_ln : ln (1 : Int).natAbs ≤ 64 := by rw [show (1 : Int).natAbs = 1 from rfl, ln_one]; decide
theorem rof_zero (w : World) : Calls Tryz.prog 37 #[.int .i64 0] w fun e w' => ∃ A c, e = .returned (.agg #[.bool false, .slice A 0 c]) ∧ Below w.heap.size w w' :=
  (rof_z 0 w (by decide) (by decide)).mono fun e w' ⟨A, c, he, _, hb⟩ => ⟨A, c, by rw [he, show (0 : Int).natAbs = 0 from rfl, ln_zero]; rfl, hb⟩

set_option maxRecDepth 100000 in
set_option maxHeartbeats 8000000 in
theorem ratints_law (n d : Int) (w : World) (h1 : -9223372036854775808 ≤ n) (h2 : n ≤ 9223372036854775807) (h3 : -9223372036854775808 ≤ d) (h4 : d ≤ 9223372036854775807) (ht : Pow10 w) :
    Calls Tryz.prog 8 #[.int .i64 n, .int .i64 d] w fun e w' => e = .returned (.bool true) ∧ Below w.heap.size w w' := by
  have AW := hide (fun W (k : Below w.heap.size w W) => awake3_any W (pow_below ht k))
  clear ht
  by_cases hd : d = 0
  · subst hd
    have O := hide (fun W (_ : Below w.heap.size w W) => of_zero n W)
    have f0 : fitq 0 := fit_small (by decide) (by decide)
    have V := hide (fun X Y e f W (_ : Below w.heap.size w W) s1 s2 => valid_q 0 X Y e f W s1 s2 f0.1 f0.2)
    have S := hide (fun X Y e f W (_ : Below w.heap.size w W) s1 s2 => sign_q 0 X Y e f W s1 s2 f0 0 rfl)
    have e0 := je3 3 0
    clear h1 h2 h3 h4 f0
    go_enter Tryz.func8, Tryz.ntmps8
    go_wp2_with (first
      | (go_at_call 33; (with_reducible refine (O.out _ (.refl _ _)).mono ?_); rintro e w1 ⟨A1, c1, B1, d1, rfl, s1, t1, hb⟩; have g := hb; have b1 := g; clear hb g)
      | (go_at_call 30; (with_reducible refine (V.out A1 B1 c1 d1 _ (bl_al b1 _) (s1.alloc _) (t1.alloc _)).mono ?_); rintro e w2 ⟨rfl, hb⟩; have g := (bl_one hb); have X1 := hide ((Q3.new (.bool (qs 0)) (.slice A1 (ln (qn 0)) c1) (.slice B1 (ln (qd 0)) d1) w1).next hb); have s1 := kp' g s1; have t1 := kp' g t1; have b2 := bl_trans b1 g; obtain ⟨x1c1, x1c2, x1c3, x1c4, x1c5, x1c6⟩ := X1.out; clear hb g)
      | (go_at_call 26; (with_reducible refine (S.out A1 B1 c1 d1 _ b2 s1 t1).mono ?_); rintro e w3 ⟨rfl, hb⟩; have g := hb; have s1 := kp' g s1; have t1 := kp' g t1; have X1 := hide (X1.out.next g); have b3 := bl_trans b2 g; (try clear x1c1 x1c2 x1c3 x1c4 x1c5 x1c6); obtain ⟨x1c1, x1c2, x1c3, x1c4, x1c5, x1c6⟩ := X1.out; clear hb g)
      | (go_at_call 14; (with_reducible refine (AW.out _ b3).mono ?_); rintro e w4 ⟨rfl, hb⟩; have g := hb; have s1 := kp' g s1; have t1 := kp' g t1; have X1 := hide (X1.out.next g); have b4 := bl_trans b3 g; (try clear x1c1 x1c2 x1c3 x1c4 x1c5 x1c6); obtain ⟨x1c1, x1c2, x1c3, x1c4, x1c5, x1c6⟩ := X1.out; clear hb g))
    go_ret
    exact ⟨rfl, b4⟩
  · obtain ⟨q, hq⟩ : ∃ q, q = Rat.divInt n d := ⟨_, rfl⟩
    obtain ⟨x, hx⟩ : ∃ q, q = Rat.divInt d 1 := ⟨_, rfl⟩
    obtain ⟨p, hp⟩ : ∃ q, q = Rat.divInt n 1 := ⟨_, rfl⟩
    have ln1 := lnI h1 h2
    have ln2 := lnI h3 h4
    have fq : fitq q := by rw [hq]; exact fit_mk hd ln1 ln2
    have fx : fitq x := by rw [hx]; exact fit_mk (by decide) ln2 one_ln
    have fp : fitq p := by rw [hp]; exact fit_mk (by decide) ln1 one_ln
    have hm : q * x = p := by
      rw [hq, hx, hp, Rat.divInt_mul_divInt, Rat.divInt_eq_divInt_iff (by simpa using hd) (by decide)]
      simp
    have O := hide (fun W (_ : Below w.heap.size w W) => of_pos n d q W h1 h2 h3 h4 hd (by rw [hq]; exact qmk_divInt n d hd))
    have V := hide (fun X Y e f W (_ : Below w.heap.size w W) s1 s2 => valid_q q X Y e f W s1 s2 fq.1 fq.2)
    have R1 := hide (fun W (_ : Below w.heap.size w W) => rof_z 1 W (by decide) (by decide))
    have Rd := hide (fun W (_ : Below w.heap.size w W) => rof_z d W h3 h4)
    have Rn := hide (fun W (_ : Below w.heap.size w W) => rof_z n W h1 h2)
    have R0 := hide (fun W (_ : Below w.heap.size w W) => rof_zero W)
    have Nd := hide (fun X Y e f W (_ : Below w.heap.size w W) s1 s2 => new_q d 1 X Y e f x W s1 s2 ln2 one_ln (by decide) (by rw [hx]; exact qmk_divInt d 1 (by decide)))
    have Nn := hide (fun X Y e f W (_ : Below w.heap.size w W) s1 s2 => new_q n 1 X Y e f p W s1 s2 ln1 one_ln (by decide) (by rw [hp]; exact qmk_divInt n 1 (by decide)))
    have N0 := hide (fun X Y e f W (_ : Below w.heap.size w W) s1 => new_no n X Y e f W s1 ln1)
    have MU := hide (fun X Y U V e f g h W (_ : Below w.heap.size w W) s1 s2 s3 s4 => mul_q q x p hm X Y U V e f g h W s1 s2 s3 s4 fq fx fp)
    have SM := hide (fun X Y U V e f g h W (_ : Below w.heap.size w W) s1 s2 s3 s4 => same3_q p p X Y U V e f g h W s1 s2 s3 s4 fp fp true (decide_eq_true rfl))
    have e0 : binOp .eql 27 (.int .i64 0) (.int .i64 0) = pure (.bool true) := rfl
    have e1 : binOp .eql 27 (.int .i64 1) (.int .i64 1) = pure (.bool true) := rfl
    have hd' : (d == 0) = false := beq_eq_false_iff_ne.2 hd
    clear h1 h2 h3 h4 hq hx hp hm fq fx fp ln1 ln2 hd
    generalize isg d = sd at *
    generalize isg n = sn at *
    generalize isg 1 = s1' at *
    generalize (1 : Int).natAbs = k1 at *
    generalize n.natAbs = kn at *
    generalize d.natAbs = kd at *
    go_enter Tryz.func8, Tryz.ntmps8
    go_wp2_with (first
      | (go_at_call 33; (with_reducible refine (O.out _ (.refl _ _)).mono ?_); rintro e w1 ⟨A1, c1, B1, d1, rfl, s1, t1, hb⟩; have g := hb; have b1 := g; clear hb g)
      | (go_at_call 30; (with_reducible refine (V.out A1 B1 c1 d1 _ (bl_al b1 _) (s1.alloc _) (t1.alloc _)).mono ?_); rintro e w2 ⟨rfl, hb⟩; have g := (bl_one hb); have X1 := hide ((Q3.new (.bool (qs q)) (.slice A1 (ln (qn q)) c1) (.slice B1 (ln (qd q)) d1) w1).next hb); have s1 := kp' g s1; have t1 := kp' g t1; have b2 := bl_trans b1 g; obtain ⟨x1c1, x1c2, x1c3, x1c4, x1c5, x1c6⟩ := X1.out; clear hb g)
      | (go_at_call 37; (with_reducible refine (Rd.out _ b2).mono ?_); rintro e w3 ⟨A3, c3, rfl, s3, hb⟩; have g := hb; have s1 := kp' g s1; have t1 := kp' g t1; have X1 := hide (X1.out.next g); have b3 := bl_trans b2 g; (try clear x1c1 x1c2 x1c3 x1c4 x1c5 x1c6); obtain ⟨x1c1, x1c2, x1c3, x1c4, x1c5, x1c6⟩ := X1.out; clear hb g)
      | (go_at_call 37; (with_reducible refine (R1.out _ b3).mono ?_); rintro e w4 ⟨A4, c4, rfl, s4, hb⟩; have g := hb; have s1 := kp' g s1; have t1 := kp' g t1; have s3 := kp' g s3; have X1 := hide (X1.out.next g); have b4 := bl_trans b3 g; (try clear x1c1 x1c2 x1c3 x1c4 x1c5 x1c6); obtain ⟨x1c1, x1c2, x1c3, x1c4, x1c5, x1c6⟩ := X1.out; clear hb g)
      | (go_at_call 36; (with_reducible refine (Nd.out A3 A4 c3 c4 _ b4 s3 s4).mono ?_); rintro e w5 ⟨A5, c5, B5, d5, rfl, s5, t5, hb⟩; have g := hb; have s1 := kp' g s1; have t1 := kp' g t1; have s3 := kp' g s3; have s4 := kp' g s4; have X1 := hide (X1.out.next g); have b5 := bl_trans b4 g; (try clear x1c1 x1c2 x1c3 x1c4 x1c5 x1c6); obtain ⟨x1c1, x1c2, x1c3, x1c4, x1c5, x1c6⟩ := X1.out; have x1d1 := fun X => (X1.out.al X).1; have x1d2 := fun X => (X1.out.al X).2.1; have x1d3 := fun X => (X1.out.al X).2.2.1; clear hb g)
      | (go_at_call 19; (with_reducible refine (MU.out A1 B1 A5 B5 c1 d1 c5 d5 _ (bl_al b5 _) (s1.alloc _) (t1.alloc _) (s5.alloc _) (t5.alloc _)).mono ?_); rintro e w6 ⟨A6, c6, B6, d6, rfl, s6, t6, hb⟩; have g := (bl_one hb); have X2 := hide ((Q3.new (.bool (qs x)) (.slice A5 (ln (qn x)) c5) (.slice B5 (ln (qd x)) d5) w5).next hb); have s1 := kp' g s1; have t1 := kp' g t1; have s5 := kp' g s5; have t5 := kp' g t5; have X1 := hide (X1.out.next g); have b6 := bl_trans b5 g; clear x1d1 x1d2 x1d3; (try clear x1c1 x1c2 x1c3 x1c4 x1c5 x1c6); obtain ⟨x1c1, x1c2, x1c3, x1c4, x1c5, x1c6⟩ := X1.out; obtain ⟨x2c1, x2c2, x2c3, x2c4, x2c5, x2c6⟩ := X2.out; have x1d1 := fun X => (X1.out.al X).1; have x1d2 := fun X => (X1.out.al X).2.1; have x1d3 := fun X => (X1.out.al X).2.2.1; have x2d1 := fun X => (X2.out.al X).1; have x2d2 := fun X => (X2.out.al X).2.1; have x2d3 := fun X => (X2.out.al X).2.2.1; clear hb g)
      | (go_at_call 37; (with_reducible refine (Rn.out _ (bl_al b6 _)).mono ?_); rintro e w7 ⟨A7, c7, rfl, s7, hb⟩; have g := (bl_one hb); have X3 := hide ((Q3.new (.bool (qs p)) (.slice A6 (ln (qn p)) c6) (.slice B6 (ln (qd p)) d6) w6).next hb); have s6 := kp' g s6; have t6 := kp' g t6; have X1 := hide (X1.out.next g); have X2 := hide (X2.out.next g); have b7 := bl_trans b6 g; clear x1d1 x1d2 x1d3 x2d1 x2d2 x2d3; (try clear x1c1 x1c2 x1c3 x1c4 x1c5 x1c6); (try clear x2c1 x2c2 x2c3 x2c4 x2c5 x2c6); obtain ⟨x1c1, x1c2, x1c3, x1c4, x1c5, x1c6⟩ := X1.out; obtain ⟨x2c1, x2c2, x2c3, x2c4, x2c5, x2c6⟩ := X2.out; obtain ⟨x3c1, x3c2, x3c3, x3c4, x3c5, x3c6⟩ := X3.out; clear hb g)
      | (go_at_call 37; (with_reducible refine (R1.out _ b7).mono ?_); rintro e w8 ⟨A8, c8, rfl, s8, hb⟩; have g := hb; have s6 := kp' g s6; have t6 := kp' g t6; have s7 := kp' g s7; have X1 := hide (X1.out.next g); have X2 := hide (X2.out.next g); have X3 := hide (X3.out.next g); have b8 := bl_trans b7 g; (try clear x1c1 x1c2 x1c3 x1c4 x1c5 x1c6); (try clear x2c1 x2c2 x2c3 x2c4 x2c5 x2c6); (try clear x3c1 x3c2 x3c3 x3c4 x3c5 x3c6); obtain ⟨x1c1, x1c2, x1c3, x1c4, x1c5, x1c6⟩ := X1.out; obtain ⟨x2c1, x2c2, x2c3, x2c4, x2c5, x2c6⟩ := X2.out; obtain ⟨x3c1, x3c2, x3c3, x3c4, x3c5, x3c6⟩ := X3.out; clear hb g)
      | (go_at_call 36; (with_reducible refine (Nn.out A7 A8 c7 c8 _ b8 s7 s8).mono ?_); rintro e w9 ⟨A9, c9, B9, d9, rfl, s9, t9, hb⟩; have g := hb; have s6 := kp' g s6; have t6 := kp' g t6; have s7 := kp' g s7; have s8 := kp' g s8; have X1 := hide (X1.out.next g); have X2 := hide (X2.out.next g); have X3 := hide (X3.out.next g); have b9 := bl_trans b8 g; (try clear x1c1 x1c2 x1c3 x1c4 x1c5 x1c6); (try clear x2c1 x2c2 x2c3 x2c4 x2c5 x2c6); (try clear x3c1 x3c2 x3c3 x3c4 x3c5 x3c6); obtain ⟨x1c1, x1c2, x1c3, x1c4, x1c5, x1c6⟩ := X1.out; obtain ⟨x2c1, x2c2, x2c3, x2c4, x2c5, x2c6⟩ := X2.out; obtain ⟨x3c1, x3c2, x3c3, x3c4, x3c5, x3c6⟩ := X3.out; have x1d1 := fun X => (X1.out.al X).1; have x1d2 := fun X => (X1.out.al X).2.1; have x1d3 := fun X => (X1.out.al X).2.2.1; have x2d1 := fun X => (X2.out.al X).1; have x2d2 := fun X => (X2.out.al X).2.1; have x2d3 := fun X => (X2.out.al X).2.2.1; have x3d1 := fun X => (X3.out.al X).1; have x3d2 := fun X => (X3.out.al X).2.1; have x3d3 := fun X => (X3.out.al X).2.2.1; clear hb g)
      | (go_at_call 37; (with_reducible refine (Rn.out _ (bl_al b9 _)).mono ?_); rintro e w10 ⟨A10, c10, rfl, s10, hb⟩; have g := (bl_one hb); have X4 := hide ((Q3.new (.bool (qs p)) (.slice A9 (ln (qn p)) c9) (.slice B9 (ln (qd p)) d9) w9).next hb); have s6 := kp' g s6; have t6 := kp' g t6; have s9 := kp' g s9; have t9 := kp' g t9; have X1 := hide (X1.out.next g); have X2 := hide (X2.out.next g); have X3 := hide (X3.out.next g); have b10 := bl_trans b9 g; clear x1d1 x1d2 x1d3 x2d1 x2d2 x2d3 x3d1 x3d2 x3d3; (try clear x1c1 x1c2 x1c3 x1c4 x1c5 x1c6); (try clear x2c1 x2c2 x2c3 x2c4 x2c5 x2c6); (try clear x3c1 x3c2 x3c3 x3c4 x3c5 x3c6); obtain ⟨x1c1, x1c2, x1c3, x1c4, x1c5, x1c6⟩ := X1.out; obtain ⟨x2c1, x2c2, x2c3, x2c4, x2c5, x2c6⟩ := X2.out; obtain ⟨x3c1, x3c2, x3c3, x3c4, x3c5, x3c6⟩ := X3.out; obtain ⟨x4c1, x4c2, x4c3, x4c4, x4c5, x4c6⟩ := X4.out; clear hb g)
      | (go_at_call 37; (with_reducible refine (R0.out _ b10).mono ?_); rintro e w11 ⟨A11, c11, rfl, hb⟩; have g := hb; have s6 := kp' g s6; have t6 := kp' g t6; have s9 := kp' g s9; have t9 := kp' g t9; have s10 := kp' g s10; have X1 := hide (X1.out.next g); have X2 := hide (X2.out.next g); have X3 := hide (X3.out.next g); have X4 := hide (X4.out.next g); have b11 := bl_trans b10 g; (try clear x1c1 x1c2 x1c3 x1c4 x1c5 x1c6); (try clear x2c1 x2c2 x2c3 x2c4 x2c5 x2c6); (try clear x3c1 x3c2 x3c3 x3c4 x3c5 x3c6); (try clear x4c1 x4c2 x4c3 x4c4 x4c5 x4c6); obtain ⟨x1c1, x1c2, x1c3, x1c4, x1c5, x1c6⟩ := X1.out; obtain ⟨x2c1, x2c2, x2c3, x2c4, x2c5, x2c6⟩ := X2.out; obtain ⟨x3c1, x3c2, x3c3, x3c4, x3c5, x3c6⟩ := X3.out; obtain ⟨x4c1, x4c2, x4c3, x4c4, x4c5, x4c6⟩ := X4.out; clear hb g)
      | (go_at_call 36; (with_reducible refine (N0.out A10 A11 c10 c11 _ b11 s10).mono ?_); rintro e w12 ⟨rfl, hb⟩; have g := hb; have s6 := kp' g s6; have t6 := kp' g t6; have s9 := kp' g s9; have t9 := kp' g t9; have s10 := kp' g s10; have X1 := hide (X1.out.next g); have X2 := hide (X2.out.next g); have X3 := hide (X3.out.next g); have X4 := hide (X4.out.next g); have b12 := bl_trans b11 g; (try clear x1c1 x1c2 x1c3 x1c4 x1c5 x1c6); (try clear x2c1 x2c2 x2c3 x2c4 x2c5 x2c6); (try clear x3c1 x3c2 x3c3 x3c4 x3c5 x3c6); (try clear x4c1 x4c2 x4c3 x4c4 x4c5 x4c6); obtain ⟨x1c1, x1c2, x1c3, x1c4, x1c5, x1c6⟩ := X1.out; obtain ⟨x2c1, x2c2, x2c3, x2c4, x2c5, x2c6⟩ := X2.out; obtain ⟨x3c1, x3c2, x3c3, x3c4, x3c5, x3c6⟩ := X3.out; obtain ⟨x4c1, x4c2, x4c3, x4c4, x4c5, x4c6⟩ := X4.out; have x1d1 := fun X => (X1.out.al X).1; have x1d2 := fun X => (X1.out.al X).2.1; have x1d3 := fun X => (X1.out.al X).2.2.1; have x2d1 := fun X => (X2.out.al X).1; have x2d2 := fun X => (X2.out.al X).2.1; have x2d3 := fun X => (X2.out.al X).2.2.1; have x3d1 := fun X => (X3.out.al X).1; have x3d2 := fun X => (X3.out.al X).2.1; have x3d3 := fun X => (X3.out.al X).2.2.1; have x4d1 := fun X => (X4.out.al X).1; have x4d2 := fun X => (X4.out.al X).2.1; have x4d3 := fun X => (X4.out.al X).2.2.1; clear hb g)
      | (go_at_call 23; (with_reducible refine (SM.out A6 B6 A9 B9 c6 d6 c9 d9 _ (bl_al b12 _) (s6.alloc _) (t6.alloc _) (s9.alloc _) (t9.alloc _)).mono ?_); rintro e w13 ⟨rfl, hb⟩; have g := (bl_one hb); have s6 := kp' g s6; have t6 := kp' g t6; have s9 := kp' g s9; have t9 := kp' g t9; have X1 := hide (X1.out.next g); have X2 := hide (X2.out.next g); have X3 := hide (X3.out.next g); have X4 := hide (X4.out.next g); have b13 := bl_trans b12 g; clear x1d1 x1d2 x1d3 x2d1 x2d2 x2d3 x3d1 x3d2 x3d3 x4d1 x4d2 x4d3; (try clear x1c1 x1c2 x1c3 x1c4 x1c5 x1c6); (try clear x2c1 x2c2 x2c3 x2c4 x2c5 x2c6); (try clear x3c1 x3c2 x3c3 x3c4 x3c5 x3c6); (try clear x4c1 x4c2 x4c3 x4c4 x4c5 x4c6); obtain ⟨x1c1, x1c2, x1c3, x1c4, x1c5, x1c6⟩ := X1.out; obtain ⟨x2c1, x2c2, x2c3, x2c4, x2c5, x2c6⟩ := X2.out; obtain ⟨x3c1, x3c2, x3c3, x3c4, x3c5, x3c6⟩ := X3.out; obtain ⟨x4c1, x4c2, x4c3, x4c4, x4c5, x4c6⟩ := X4.out; clear hb g)
      | (go_at_call 14; (with_reducible refine (AW.out _ b13).mono ?_); rintro e w14 ⟨rfl, hb⟩; have g := hb; have X1 := hide (X1.out.next g); have X2 := hide (X2.out.next g); have X3 := hide (X3.out.next g); have X4 := hide (X4.out.next g); have b14 := bl_trans b13 g; (try clear x1c1 x1c2 x1c3 x1c4 x1c5 x1c6); (try clear x2c1 x2c2 x2c3 x2c4 x2c5 x2c6); (try clear x3c1 x3c2 x3c3 x3c4 x3c5 x3c6); (try clear x4c1 x4c2 x4c3 x4c4 x4c5 x4c6); obtain ⟨x1c1, x1c2, x1c3, x1c4, x1c5, x1c6⟩ := X1.out; obtain ⟨x2c1, x2c2, x2c3, x2c4, x2c5, x2c6⟩ := X2.out; obtain ⟨x3c1, x3c2, x3c3, x3c4, x3c5, x3c6⟩ := X3.out; obtain ⟨x4c1, x4c2, x4c3, x4c4, x4c5, x4c6⟩ := X4.out; clear hb g))
    go_ret
    exact ⟨rfl, b14⟩
end Nt

end Go.Proofs.YtofofabmidpbhaaGreatDoor
