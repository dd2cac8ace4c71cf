
/-
  The law RatFloors.
-/
import Derived.Test.YtofofabmidpbhaaGreatDoorAwake3

namespace Go.Proofs.YtofofabmidpbhaaGreatDoor

open Go.RowKit

namespace Nt

theorem vQ (s : Bool) (xs ys : List Nat) : validQ s xs ys = true ∨ validQ s xs ys = false := by cases validQ s xs ys <;> simp
theorem floor_abs {q : Rat} {k : Nat} (h : ln (qn q) ≤ k) (hk : 0 < k) : ln q.floor.natAbs ≤ k + 1 := by
  refine Nat.le_trans (ln_mono (n := qn q + 1) ?_) (ln_add _ _ k h (by rw [ln_one]; exact hk))
  rw [Rat.floor_def]
  have hd := q.den_pos
  show (q.num / (q.den : Int)).natAbs ≤ q.num.natAbs + 1
  rcases (show q.num < 0 ∨ 0 ≤ q.num by omega) with h | h
  · have h1 : q.num / (q.den : Int) ≤ 0 := Int.le_of_lt (Int.ediv_neg_of_neg_of_pos h (by omega))
    have h2 : q.num ≤ q.num / (q.den : Int) := by
      have := Int.le_ediv_of_mul_le (a := q.num) (b := q.num) (c := (q.den : Int)) (by omega) (by
        have : q.num * (q.den : Int) ≤ q.num * 1 := Int.mul_le_mul_of_nonpos_left (by omega) (by omega)
        omega)
      exact this
    omega
  · have h1 : 0 ≤ q.num / (q.den : Int) := Int.ediv_nonneg h (by omega)
    have h2 : q.num / (q.den : Int) ≤ q.num := Int.ediv_le_self _ h
    omega
theorem floor_rest (q : Rat) : 0 ≤ q - (q.floor : Rat) ∧ q - (q.floor : Rat) < 1 := by
  constructor
  · rw [← Rat.le_iff_sub_nonneg]; exact Rat.floor_le q
  · have h := Rat.lt_floor_add_one q
    rw [Rat.sub_lt_iff]
    rwa [Rat.intCast_add, Rat.add_comm] at h
theorem sgn_pos {q : Rat} (h : 0 ≤ q) : cmpZ q.num 0 = if q = 0 then 0 else 1 := by
  have h0 := Rat.num_nonneg.2 h
  unfold cmpZ
  rw [if_neg (by omega)]
  by_cases e : q = 0
  · rw [if_pos e, if_neg]
    subst e; decide
  · have h1 : q.num ≠ 0 := fun h => e (Rat.num_eq_zero.1 h)
    rw [if_neg e, if_pos (by omega)]
theorem rest_zero (q : Rat) : q - (q.floor : Rat) = 0 ↔ qd q = 1 := by
  constructor
  · intro h
    have e : q = (q.floor : Rat) := by
      have := congrArg (· + (q.floor : Rat)) h
      simpa [Rat.sub_add_cancel, Rat.zero_add] using this
    rw [e]; rfl
  · intro h
    have e := int_of_qd h
    have e2 : q.floor = q.num := by
      conv => lhs; rw [e]
      exact Rat.floor_intCast _
    rw [e2, ← e, Rat.sub_self]
theorem S6k_next {w w' : World} (hb : Below w.heap.size w w') {p1 p2 p3 p4 p5 p6 : Addr} {v1 v2 v3 v4 v5 v6 : Value} {w0 : World} {l : List (Option Addr × Nat)}
    (h : w.cell? p1 = some v1 ∧ w.cell? p2 = some v2 ∧ w.cell? p3 = some v3 ∧ w.cell? p4 = some v4 ∧ w.cell? p5 = some v5 ∧ w.cell? p6 = some v6 ∧ K5 w0 l w) :
    w'.cell? p1 = some v1 ∧ w'.cell? p2 = some v2 ∧ w'.cell? p3 = some v3 ∧ w'.cell? p4 = some v4 ∧ w'.cell? p5 = some v5 ∧ w'.cell? p6 = some v6 ∧ K5 w0 l w' := by
  obtain ⟨h1, h2, h3, h4, h5, h6, h7⟩ := h
  exact ⟨cell_next hb h1, cell_next hb h2, cell_next hb h3, cell_next hb h4, cell_next hb h5, cell_next hb h6, h7.next hb⟩
theorem geq_z (t : TypeId) {x y : Int} (h : y ≤ x) : binOp .geq t (.int .i64 x) (.int .i64 y) = pure (.bool true) := by
  show pure (Value.bool (decide (x ≥ y))) = _
  rw [decide_eq_true h]

set_option maxRecDepth 100000 in
set_option maxHeartbeats 8000000 in
theorem floors_in (q : Rat) (A B : Option Addr) (a b : Nat) (w : World) (sA : Sl w A (digs (qn q))) (sB : Sl w B (digs (qd q))) (l1 : ln (qn q) ≤ 10) (l2 : ln (qd q) ≤ 10) (ht : Pow10 w) :
    Calls Tryz.prog 7 #[.agg #[.bool (qs q), .slice A (ln (qn q)) a, .slice B (ln (qd q)) b]] w fun e w' => e = .returned (.bool true) ∧ Below w.heap.size w w' := by
  have AW := hide (fun W (k : Below w.heap.size w W) => awake3_any W (pow_below ht k))
  have fq : fitq q := ⟨by omega, by omega⟩
  obtain ⟨z, hz⟩ : ∃ z, q.floor = z := ⟨_, rfl⟩
  have zl : ln z.natAbs ≤ 11 := by rw [← hz]; exact floor_abs l1 (by decide)
  obtain ⟨f, hf⟩ : ∃ f, f = Rat.divInt z 1 := ⟨_, rfl⟩
  have hf' : f = (z : Rat) := by rw [hf, Rat.divInt_eq_div, show ((1 : Int) : Rat) = 1 from rfl, Rat.div_def, show (1 : Rat)⁻¹ = 1 from Rat.inv_eq_of_mul_eq_one (Rat.one_mul 1), Rat.mul_one]
  have ff : fitq f := by rw [hf']; exact ⟨by rw [qn_int]; omega, by rw [qd_int, ln_one]; decide⟩
  obtain ⟨D, hD⟩ : ∃ D, q - f = D := ⟨_, rfl⟩
  have hDf : q - (q.floor : Rat) = D := by rw [hz, ← hf']; exact hD
  have fD : fitq D := by
    rw [← hD, Rat.sub_eq_add_neg]
    refine fitq_bnd (bnd_add (j := 11) (k := 11) ⟨lt_of_ln (by omega), lt_of_ln (by omega)⟩ (bnd_neg ⟨lt_of_ln ?_, lt_of_ln ?_⟩)) (by decide)
    · rw [hf', qn_int]; exact zl
    · rw [hf', qd_int, ln_one]; decide
  have hr := floor_rest q
  rw [hDf] at hr
  obtain ⟨k, hk⟩ : ∃ k, cmpZ D.num 0 = k := ⟨_, rfl⟩
  have hk' := sgn_pos hr.1
  rw [hk] at hk'
  have hkD : D = 0 ↔ qd q = 1 := by rw [← hDf]; exact rest_zero q
  have k0 : 0 ≤ k := by rw [hk']; split <;> decide
  obtain ⟨r1, hr1⟩ : ∃ r, (k == 0) = r := ⟨_, rfl⟩
  have hr2 : decide (digs (qd q) = [1]) = r1 := by
    rw [← hr1, hk']
    have e1 : [1] = digs 1 := (digs1 (by decide) (by decide)).symm
    by_cases e : qd q = 1
    · rw [if_pos (hkD.2 e), e, e1, decide_eq_true rfl]; rfl
    · rw [if_neg (fun h => e (hkD.1 h)), decide_eq_false (fun h => e (by rw [← val_digs (qd q), h, val_one]))]; rfl
  have FW := hide (fun W (k : Below w.heap.size w W) => few_any (qs q) (qs q) A B A B a b a b (ln (qn q)) (ln (qd q)) (ln (qn q)) (ln (qd q)) W true (decide_eq_true ⟨l1, l2, l1, l2⟩))
  have V := hide (fun W (k : Below w.heap.size w W) => valid_q q A B a b W (kp' k sA) (kp' k sB) fq.1 fq.2)
  have FL := hide (fun W (k : Below w.heap.size w W) => floor_q q A B a b W (kp' k sA) (kp' k sB) fq z hz)
  have R1 := hide (fun W (_ : Below w.heap.size w W) => rof_z 1 W (by decide) (by decide))
  have NW := hide (fun X Y e g W (_ : Below w.heap.size w W) s1 s2 => new_q z 1 X Y e g f W s1 s2 (by omega) (by rw [show (1 : Int).natAbs = 1 from rfl, ln_one]; decide) (by decide) (by rw [hf]; exact qmk_divInt z 1 (by decide)))
  have SB := hide (fun X Y e g W (k : Below w.heap.size w W) s3 s4 => sub_q q f D hD A B X Y a b e g W (kp' k sA) (kp' k sB) s3 s4 fq ff fD)
  have SN := hide (fun X Y e g l W (kk : K5 w l W) (m1 : (X, qn D) ∈ l) (m2 : (Y, qd D) ∈ l) => sign_q D X Y e g W (kk.sl m1) (kk.sl m2) fD k hk)
  have f1 : fitq (Rat.divInt 1 1) := fit_small (by decide) (by decide)
  have O1 := hide (fun W (_ : Below w.heap.size w W) => of_pos 1 1 (Rat.divInt 1 1) W (by decide) (by decide) (by decide) (by decide) (by decide) (qmk_divInt 1 1 (by decide)))
  have CM := hide (fun X Y U V e g h' i l W (kk : K5 w l W) (m1 : (X, qn D) ∈ l) (m2 : (Y, qd D) ∈ l) s3 s4 => cmp_q D (Rat.divInt 1 1) X Y U V e g h' i W (kk.sl m1) (kk.sl m2) s3 s4 fD f1 (-1) (cmpQ_lt (by rw [show Rat.divInt 1 1 = 1 from by decide]; exact hr.2)))
  have SL := hide (fun X e W (kk : Below w.heap.size w W) (s : Sl W X [1]) => lsame_z B X b e (ln (qd q)) 1 (digs (qd q)) [1] W (kp' kk sB) s rfl rfl (by omega) (by decide) r1 hr2)
  have e0 : binOp .eql 27 (.int .i64 0) (.int .i64 0) = pure (.bool true) := rfl
  have og := geq_z 3 k0
  have ok : binOp .eql 3 (.int .i64 k) (.int .i64 0) = pure (.bool r1) := by
    show pure (Value.bool (k == 0)) = _
    rw [hr1]
  have ob := op_beq r1 r1 true (beq_self_eq_true r1)
  clear hr2 hr1 k0 hkD hk' hk hr fD hDf hD ff hf' hf zl hz fq sA sB l1 l2 ht f1
  generalize hq1 : Rat.divInt 1 1 = u1 at *
  clear hq1
  generalize isg z = sz at *
  generalize isg 1 = s1' at *
  generalize (1 : Int).natAbs = k1 at *
  generalize z.natAbs = kz at *
  generalize qs q = s at *
  generalize ln (qn q) = i1 at *
  generalize ln (qd q) = i2 at *
  have X0 := hide (Q3.new (.bool s) (.slice A i1 a) (.slice B i2 b) w)
  have b0 : Below w.heap.size w (w.alloc (.cells #[.bool s, .slice A i1 a, .slice B i2 b] 24)) := bl_al (.refl _ _) _
  go_enter Tryz.func7, Tryz.ntmps7
  go_wp2_with (first
    | (go_at_call 13; (with_reducible refine (FW.out _ b0).mono ?_); rintro e w1 ⟨rfl, hb⟩; have g := hb; have X0 := hide (X0.out.next g); have b1 := bl_trans b0 g; obtain ⟨x0c1, x0c2, x0c3, x0c4, x0c5, x0c6⟩ := X0.out; clear hb g)
    | (go_at_call 30; (with_reducible refine (V.out _ b1).mono ?_); rintro e w2 ⟨rfl, hb⟩; have g := hb; have X0 := hide (X0.out.next g); have b2 := bl_trans b1 g; (try clear x0c1 x0c2 x0c3 x0c4 x0c5 x0c6); obtain ⟨x0c1, x0c2, x0c3, x0c4, x0c5, x0c6⟩ := X0.out; clear hb g)
    | (go_at_call 35; (with_reducible refine (FL.out _ b2).mono ?_); rintro e w3 ⟨A3, c3, rfl, s3, hb⟩; have g := hb; have X0 := hide (X0.out.next g); have b3 := bl_trans b2 g; (try clear x0c1 x0c2 x0c3 x0c4 x0c5 x0c6); obtain ⟨x0c1, x0c2, x0c3, x0c4, x0c5, x0c6⟩ := X0.out; clear hb g)
    | (go_at_call 37; (with_reducible refine (R1.out _ b3).mono ?_); rintro e w4 ⟨A4, c4, rfl, s4, hb⟩; have g := hb; have s3 := kp' g s3; have X0 := hide (X0.out.next g); have b4 := bl_trans b3 g; (try clear x0c1 x0c2 x0c3 x0c4 x0c5 x0c6); obtain ⟨x0c1, x0c2, x0c3, x0c4, x0c5, x0c6⟩ := X0.out; clear hb g)
    | (go_at_call 36; (with_reducible refine (NW.out A3 A4 c3 c4 _ b4 s3 s4).mono ?_); rintro e w5 ⟨A5, c5, B5, d5, rfl, s5, t5, hb⟩; have g := hb; have s3 := kp' g s3; have s4 := kp' g s4; have X0 := hide (X0.out.next g); have b5 := bl_trans b4 g; (try clear x0c1 x0c2 x0c3 x0c4 x0c5 x0c6); obtain ⟨x0c1, x0c2, x0c3, x0c4, x0c5, x0c6⟩ := X0.out; have x0d1 := fun X => (X0.out.al X).1; have x0d2 := fun X => (X0.out.al X).2.1; have x0d3 := fun X => (X0.out.al X).2.2.1; clear hb g)
    | (go_at_call 17; (with_reducible refine (SB.out A5 B5 c5 d5 _ (bl_al b5 _) (s5.alloc _) (t5.alloc _)).mono ?_); rintro e w6 ⟨A6, c6, B6, d6, rfl, s6, t6, hb⟩; have g := (bl_one hb); have X1 := hide ((Q3.new (.bool (qs f)) (.slice A5 (ln (qn f)) c5) (.slice B5 (ln (qd f)) d5) w5).next hb); have s5 := kp' g s5; have t5 := kp' g t5; have X0 := hide (X0.out.next g); have b6 := bl_trans b5 g; clear x0d1 x0d2 x0d3; (try clear x0c1 x0c2 x0c3 x0c4 x0c5 x0c6); obtain ⟨x0c1, x0c2, x0c3, x0c4, x0c5, x0c6⟩ := X0.out; obtain ⟨x1c1, x1c2, x1c3, x1c4, x1c5, x1c6⟩ := X1.out; clear hb g))
  have kz := hide (((K5.nil (bl_al b6 (.cells #[.bool (qs D), .slice A6 (ln (qn D)) c6, .slice B6 (ln (qd D)) d6] 24))).cons (t6.alloc (.cells #[.bool (qs D), .slice A6 (ln (qn D)) c6, .slice B6 (ln (qd D)) d6] 24))).cons (s6.alloc (.cells #[.bool (qs D), .slice A6 (ln (qn D)) c6, .slice B6 (ln (qd D)) d6] 24))).drew
  have Y0 := hide (X0.out.al (.cells #[.bool (qs D), .slice A6 (ln (qn D)) c6, .slice B6 (ln (qd D)) d6] 24))
  have Y1 := hide (Q3.new (.bool (qs D)) (.slice A6 (ln (qn D)) c6) (.slice B6 (ln (qd D)) d6) w6)
  go_region_held3 (fun W => W.cell? ⟨w.heap.size, 0, none⟩ = some (.bool s) ∧ W.cell? ⟨w.heap.size, 1, none⟩ = some (.slice A i1 a) ∧ W.cell? ⟨w.heap.size, 2, none⟩ = some (.slice B i2 b) ∧ W.cell? ⟨w6.heap.size, 0, none⟩ = some (.bool (qs D)) ∧ W.cell? ⟨w6.heap.size, 1, none⟩ = some (.slice A6 (ln (qn D)) c6) ∧ W.cell? ⟨w6.heap.size, 2, none⟩ = some (.slice B6 (ln (qd D)) d6) ∧ K5 w [(A6, qn D), (B6, qd D)] W)
    (first | exact ⟨Y0.out.1, Y0.out.2.1, Y0.out.2.2.1, Y1.out.1, Y1.out.2.1, Y1.out.2.2.1, kz.out⟩ | with_reducible exact S6k_next hb (by assumption) | with_reducible exact S6k_next (bl_al (.refl _ _) _) (by assumption) | with_reducible assumption | exact S6k_next (bl_al (.refl _ _) _) (by assumption))
    (first
      | (go_at_call 26; (with_reducible refine (SN.out A6 B6 c6 d6 _ _ (k6 (by assumption)) mem1 mem2).mono ?_); rintro e v1 ⟨rfl, hb⟩; (try have rX := kp' hb (lit1 _ rfl)))
      | (go_at_call 33; (with_reducible refine (O1.out _ (K5.b (k6 (by assumption)))).mono ?_); rintro e v2 ⟨P2, p2, Q2', g2, rfl, y2, z2, hb⟩)
      | (go_at_call 24; (with_reducible refine (CM.out A6 B6 P2 Q2' c6 d6 p2 g2 _ _ (k6 (by assumption)) mem1 mem2 y2 z2).mono ?_); rintro e v3 ⟨rfl, hb⟩)
      | (go_at_call 34; (with_reducible refine (SL.out _ _ _ (K5.b (k6 (by assumption))) rX).mono ?_); rintro e v4 ⟨rfl, hb⟩)
      | (go_at_call 34; (with_reducible refine (SL.out _ _ _ (K5.b (k6 (by assumption))) (lit1 _ rfl)).mono ?_); rintro e v4 ⟨rfl, hb⟩)
      | (go_at_call 14; (with_reducible refine (AW.out _ (K5.b (k6 (by assumption)))).mono ?_); rintro e v5 ⟨rfl, hb⟩))
  all_goals
    go_wp2
    go_ret
    exact ⟨rfl, K5.b (k6 (by assumption))⟩

set_option maxRecDepth 100000 in
set_option maxHeartbeats 4000000 in
theorem floors_law (s : Bool) (A B : Option Addr) (a b : Nat) (xs ys : List Nat) (w : World) (sA : Sl w A xs) (sB : Sl w B ys) (lx : Limbs xs) (ly : Limbs ys) (_mx : xs.length ≤ maxLen) (_my : ys.length ≤ maxLen) (ht : Pow10 w) :
    Calls Tryz.prog 7 #[.agg #[.bool s, .slice A xs.length a, .slice B ys.length b]] w fun e w' => e = .returned (.bool true) ∧ Below w.heap.size w w' := by
  obtain ⟨r, hr⟩ : ∃ r, decide (xs.length ≤ 10 ∧ ys.length ≤ 10 ∧ xs.length ≤ 10 ∧ ys.length ≤ 10) = r := ⟨_, rfl⟩
  have AW := hide (fun W (k : Below w.heap.size w W) => awake3_any W (pow_below ht k))
  have FW := hide (fun W (_ : Below w.heap.size w W) => few_any s s A B A B a b a b xs.length ys.length xs.length ys.length W r hr)
  cases r with
  | false =>
    clear hr sA sB lx ly ht
    generalize xs.length = i1 at *
    generalize ys.length = i2 at *
    have X0 := hide (Q3.new (.bool s) (.slice A i1 a) (.slice B i2 b) w)
    have b0 : Below w.heap.size w (w.alloc (.cells #[.bool s, .slice A i1 a, .slice B i2 b] 24)) := bl_al (.refl _ _) _
    go_enter Tryz.func7, Tryz.ntmps7
    go_wp2_with (first
      | (go_at_call 13; (with_reducible refine (FW.out _ b0).mono ?_); rintro e w1 ⟨rfl, hb⟩; have g := hb; have X0 := hide (X0.out.next g); have b1 := bl_trans b0 g; obtain ⟨x0c1, x0c2, x0c3, x0c4, x0c5, x0c6⟩ := X0.out; clear hb g)
      | (go_at_call 14; (with_reducible refine (AW.out _ b1).mono ?_); rintro e w2 ⟨rfl, hb⟩; have g := hb; have X0 := hide (X0.out.next g); have b2 := bl_trans b1 g; (try clear x0c1 x0c2 x0c3 x0c4 x0c5 x0c6); obtain ⟨x0c1, x0c2, x0c3, x0c4, x0c5, x0c6⟩ := X0.out; clear hb g))
    go_ret
    exact ⟨rfl, b2⟩
  | true =>
    have hl := of_decide_eq_true hr
    rcases vQ s xs ys with v | v
    · obtain ⟨q, rfl, rfl, rfl⟩ := as_rat lx ly v
      exact floors_in q A B a b w sA sB hl.1 hl.2.1 ht
    · have V := hide (fun W (k : Below w.heap.size w W) => validQ_any s A B a b xs ys W (kp' k sA) (kp' k sB) lx ly (by omega) (by omega) false v)
      clear hr sA sB lx ly ht hl v
      generalize xs.length = i1 at *
      generalize ys.length = i2 at *
      have X0 := hide (Q3.new (.bool s) (.slice A i1 a) (.slice B i2 b) w)
      have b0 : Below w.heap.size w (w.alloc (.cells #[.bool s, .slice A i1 a, .slice B i2 b] 24)) := bl_al (.refl _ _) _
      go_enter Tryz.func7, Tryz.ntmps7
      go_wp2_with (first
        | (go_at_call 13; (with_reducible refine (FW.out _ b0).mono ?_); rintro e w1 ⟨rfl, hb⟩; have g := hb; have X0 := hide (X0.out.next g); have b1 := bl_trans b0 g; obtain ⟨x0c1, x0c2, x0c3, x0c4, x0c5, x0c6⟩ := X0.out; clear hb g)
        | (go_at_call 30; (with_reducible refine (V.out _ b1).mono ?_); rintro e w2 ⟨rfl, hb⟩; have g := hb; have X0 := hide (X0.out.next g); have b2 := bl_trans b1 g; (try clear x0c1 x0c2 x0c3 x0c4 x0c5 x0c6); obtain ⟨x0c1, x0c2, x0c3, x0c4, x0c5, x0c6⟩ := X0.out; clear hb g)
        | (go_at_call 14; (with_reducible refine (AW.out _ b2).mono ?_); rintro e w3 ⟨rfl, hb⟩; have g := hb; have X0 := hide (X0.out.next g); have b3 := bl_trans b2 g; (try clear x0c1 x0c2 x0c3 x0c4 x0c5 x0c6); obtain ⟨x0c1, x0c2, x0c3, x0c4, x0c5, x0c6⟩ := X0.out; clear hb g))
      go_ret
      exact ⟨rfl, b3⟩
end Nt

end Go.Proofs.YtofofabmidpbhaaGreatDoor
