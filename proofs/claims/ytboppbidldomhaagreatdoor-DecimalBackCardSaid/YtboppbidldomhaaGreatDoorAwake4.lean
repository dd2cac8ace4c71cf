
/-
  The reference's Of; decimals are told by their numbers alone; the awake of the laws on decimals.
-/
import Derived.Test.YtboppbidldomhaaGreatDoorDec

import Derived.Test.YtboppbidldomhaaGreatDoorRefQ

namespace Go.Proofs.YtboppbidldomhaaGreatDoor

open Go.RowKit

namespace Nt

/-- What stays to the end: all that was there, and rows. -/
def K6 (w : World) (l : List (Option Addr × List Nat)) (W : World) : Prop := Below w.heap.size w W ∧ ∀ p, p ∈ l → Sl W p.1 p.2
theorem K6.next {w W W' : World} {l : List (Option Addr × List Nat)} (k : K6 w l W) (hb : Below W.heap.size W W') : K6 w l W' := ⟨bl_trans k.1 hb, fun p hp => kp' hb (k.2 p hp)⟩
theorem K6.drew {w W : World} {l : List (Option Addr × List Nat)} (k : K6 w l W) : K6 w l W.drew := ⟨k.1.drew, k.2⟩
theorem K6.b {w W : World} {l : List (Option Addr × List Nat)} (k : K6 w l W) : Below w.heap.size w W := k.1
theorem K6.sl {w W : World} {l : List (Option Addr × List Nat)} (k : K6 w l W) {A : Option Addr} {x : List Nat} (h : (A, x) ∈ l) : Sl W A x := k.2 _ h
theorem K6.nil {w W : World} (b : Below w.heap.size w W) : K6 w [] W := ⟨b, fun p hp => by cases hp⟩
theorem K6.cons {w W : World} {l : List (Option Addr × List Nat)} (k : K6 w l W) {A : Option Addr} {x : List Nat} (s : Sl W A x) : K6 w ((A, x) :: l) W := ⟨k.1, fun p hp => by
  rcases List.mem_cons.1 hp with e | e
  · rw [e]; exact s
  · exact k.2 p e⟩
theorem nem1 {T : Type} {p : T} {l : List T} : p ∈ p :: l := .head _
theorem nem2 {T : Type} {p x1 : T} {l : List T} : p ∈ x1 :: p :: l := .tail _ nem1
theorem nem3 {T : Type} {p x1 x2 : T} {l : List T} : p ∈ x1 :: x2 :: p :: l := .tail _ nem2
theorem nem4 {T : Type} {p x1 x2 x3 : T} {l : List T} : p ∈ x1 :: x2 :: x3 :: p :: l := .tail _ nem3
theorem k3k {c1 c2 c3 k : Prop} (h : c1 ∧ c2 ∧ c3 ∧ k) : k := h.2.2.2
theorem S3k_next {w w' : World} (hb : Below w.heap.size w w') {p1 p2 p3 : Addr} {v1 v2 v3 : Value} {w0 : World} {l : List (Option Addr × List Nat)}
    (h : w.cell? p1 = some v1 ∧ w.cell? p2 = some v2 ∧ w.cell? p3 = some v3 ∧ K6 w0 l w) : w'.cell? p1 = some v1 ∧ w'.cell? p2 = some v2 ∧ w'.cell? p3 = some v3 ∧ K6 w0 l w' := ⟨cell_next hb h.1, cell_next hb h.2.1, cell_next hb h.2.2.1, h.2.2.2.next hb⟩

/-! ### A decimal is told by its number alone -/
theorem decV_inj (n : Nat) : ∀ P Q : List UInt8, P.length = n → Q.length = n → P.all isD = true → Q.all isD = true → decV P = decV Q → P = Q := by
  induction n with
  | zero =>
    intro P Q h1 h2 _ _ _
    rw [List.eq_nil_of_length_eq_zero h1, List.eq_nil_of_length_eq_zero h2]
  | succ n ih =>
    intro P Q h1 h2 a1 a2 hv
    obtain ⟨P', c, rfl⟩ : ∃ P' c, P = P' ++ [c] := ⟨P.dropLast, P.getLast (by intro e; rw [e] at h1; simp at h1), (List.dropLast_concat_getLast _).symm⟩
    obtain ⟨Q', d, rfl⟩ : ∃ Q' d, Q = Q' ++ [d] := ⟨Q.dropLast, Q.getLast (by intro e; rw [e] at h2; simp at h2), (List.dropLast_concat_getLast _).symm⟩
    simp only [List.length_append, List.length_cons, List.length_nil] at h1 h2
    rw [List.all_append, Bool.and_eq_true] at a1 a2
    rw [decV_snoc, decV_snoc] at hv
    have c1 : isD c = true := by simpa using a1.2
    have d1 : isD d = true := by simpa using a2.2
    unfold isD at c1 d1
    simp only [decide_eq_true_eq] at c1 d1
    have hc : digD c < 10 ∧ digD c + 48 = c.toNat := by unfold digD; omega
    have hd : digD d < 10 ∧ digD d + 48 = d.toNat := by unfold digD; omega
    have e1 : digD c = digD d := by omega
    have e2 : c = d := UInt8.toNat_inj.1 (by omega)
    rw [ih P' Q' (by omega) (by omega) a1.1 a2.1 (by omega), e2]
theorem dec_le {P Q : List UInt8} {x y : Nat} (yp : 0 < y) (hl : P.length ≤ Q.length) (p0 : P ≠ []) (aP : P.all isD = true) (aQ : Q.all isD = true) (hP : decV P * y = x * 10 ^ P.length) (hQ : decV Q * y = x * 10 ^ Q.length) (lQ : Q = [48] ∨ Q.getLast? ≠ some 48) : P = Q := by
  obtain ⟨k, hk⟩ : ∃ k, Q.length = P.length + k := ⟨Q.length - P.length, by omega⟩
  have e1 : decV Q = decV (P ++ List.replicate k 48) := by
    rw [decV_zeros']
    apply Nat.eq_of_mul_eq_mul_right yp
    rw [hQ, Nat.mul_right_comm, hP, hk, Nat.pow_add, Nat.mul_assoc]
  have aR : (P ++ List.replicate k 48).all isD = true := by
    rw [List.all_append, aP, Bool.true_and, List.all_eq_true]
    intro z hz
    rw [List.eq_of_mem_replicate hz]; decide
  have e2 : Q = P ++ List.replicate k 48 := decV_inj Q.length _ _ rfl (by rw [List.length_append, List.length_replicate, hk]) aQ aR e1
  cases k with
  | zero => rw [e2]; simp
  | succ k =>
    rcases lQ with h | h
    · have hp : 0 < P.length := List.length_pos_iff.2 p0
      rw [h] at hk
      simp at hk
      omega
    · exfalso
      apply h
      rw [e2, List.replicate_succ', ← List.append_assoc, List.getLast?_concat]
theorem exact_unique {q : Rat} {s t : List UInt8} (hs : ExactOf q s) (ht : ExactOf q t) : s = t := by
  obtain ⟨P, rfl, a1, a2, a3, a4, _⟩ := hs
  obtain ⟨Q, rfl, b1, b2, b3, b4, _⟩ := ht
  have : P = Q := by
    rcases Nat.le_total P.length Q.length with h | h
    · exact dec_le (qd_pos q) h a2 a1 b1 a4 b4 b3
    · exact (dec_le (qd_pos q) h b2 b1 a1 b4 a4 a3).symm
  rw [this]
theorem int_ln {n : Int} (h1 : -9223372036854775808 ≤ n) (h2 : n ≤ 9223372036854775807) : ln n.natAbs ≤ 64 := Nat.le_trans (ln_le (k := 1) (by rw [Nat.pow_one, LB_eq]; omega)) (by decide)
set_option maxRecDepth 100000 in
set_option maxHeartbeats 4000000 in
theorem rof_q (n d : Int) (q : Rat) (w : World) (n1 : -9223372036854775808 ≤ n) (n2 : n ≤ 9223372036854775807) (d1 : -9223372036854775808 ≤ d) (d2 : d ≤ 9223372036854775807) (d0 : d ≠ 0) (hq' : qmk (isg n != isg d) n.natAbs d.natAbs = q) : Calls Tryz.prog 35 #[.int .i64 n, .int .i64 d] w (RQ w q) := by
  have R0 := hide (fun W (_ : Below w.heap.size w W) => rof_z n W n1 n2)
  have R1 := hide (fun W (_ : Below w.heap.size w W) => rof_z d W d1 d2)
  have NW := hide (fun X Y e g W (_ : Below w.heap.size w W) s1 s2 => rnew_q n d X Y e g q W s1 s2 (int_ln n1 n2) (int_ln d1 d2) d0 hq')
  clear hq' n1 n2 d1 d2
  generalize isg n = s0 at *
  generalize isg d = s1 at *
  generalize n.natAbs = k0 at *
  generalize d.natAbs = k1 at *
  have X3 := hide (Q3.new (.bool false) (.slice none 0 0) (.slice none 0 0) w)
  have kb := hide (bl_al (.refl w.heap.size w) (.cells #[.bool false, .slice none 0 0, .slice none 0 0] 24))
  have oe : binOp .eql 3 (.int .i64 d) (.int .i64 0) = pure (.bool false) := by
    show pure (Value.bool (d == 0)) = _
    rw [beq_eq_false_iff_ne.2 d0]
  have oe' : (d == 0) = false := beq_eq_false_iff_ne.2 d0
  clear d0
  go_enter Tryz.func35, Tryz.ntmps35
  go_wp2_with (first
    | (go_at_call 39; (with_reducible refine (R0.out _ kb.out).mono ?_); rintro e v1 ⟨P1, p1, rfl, z1, hb⟩; have X3 := hide (X3.out.next hb); have kb := hide (bl_trans kb.out hb))
    | (go_at_call 39; (with_reducible refine (R1.out _ kb.out).mono ?_); rintro e v2 ⟨P2, p2, rfl, z2, hb⟩; have X3 := hide (X3.out.next hb); have kb := hide (bl_trans kb.out hb); have z1 := kp' hb z1)
    | (go_at_call 88; (with_reducible refine (NW.out P1 P2 p1 p2 _ kb.out z1 z2).mono ?_); rintro e w3 ⟨A3, c3, B3, d3, rfl, s3, t3, hb⟩; have X3 := hide (X3.out.next hb); have kb := hide (bl_trans kb.out hb); obtain ⟨u1, u2, u3, u4, u5, u6⟩ := X3.out.al (.cells #[.bool (qs q), .slice A3 (ln (qn q)) c3, .slice B3 (ln (qd q)) d3] 24); obtain ⟨y1, y2, y3, y4, y5, y6⟩ := Q3.new (.bool (qs q)) (.slice A3 (ln (qn q)) c3) (.slice B3 (ln (qd q)) d3) w3; have lx := X3.out.lt; have XA := X3; have ne1 : (⟨w.heap.size, 0, none⟩ : Addr) ≠ ⟨w.heap.size, 1, none⟩ := (by intro e; injection e with _ e2 _; exact absurd e2 (by decide)); have ne2 : (⟨w.heap.size, 0, none⟩ : Addr) ≠ ⟨w.heap.size, 2, none⟩ := (by intro e; injection e with _ e2 _; exact absurd e2 (by decide)); have ne3 : (⟨w.heap.size, 1, none⟩ : Addr) ≠ ⟨w.heap.size, 2, none⟩ := (by intro e; injection e with _ e2 _; exact absurd e2 (by decide)); have h1 : (w3.setCell ⟨w.heap.size, 0, none⟩ (.bool (qs q))).cell? ⟨w.heap.size, 1, none⟩ = some (.slice none 0 0) := (by rw [World.cell?_setCell_other _ _ _ _ ne1]; exact XA.out.2.1); have h2 : ((w3.setCell ⟨w.heap.size, 0, none⟩ (.bool (qs q))).setCell ⟨w.heap.size, 1, none⟩ (.slice A3 (ln (qn q)) c3)).cell? ⟨w.heap.size, 2, none⟩ = some (.slice none 0 0) := (by rw [World.cell?_setCell_other _ _ _ _ ne3, World.cell?_setCell_other _ _ _ _ ne2]; exact XA.out.2.2.1); have i1 := cell_next (bl_al (.refl _ _) (.cells #[.bool (qs q), .slice A3 (ln (qn q)) c3, .slice B3 (ln (qd q)) d3] 24)) h1; have i2 := cell_next (bl_al (.refl _ _) (.cells #[.bool (qs q), .slice A3 (ln (qn q)) c3, .slice B3 (ln (qd q)) d3] 24)) h2; have i3 := frozen_next (bl_al (.refl _ _) (.cells #[.bool (qs q), .slice A3 (ln (qn q)) c3, .slice B3 (ln (qd q)) d3] 24)) h1 (by rw [World.frozen?_setCell]; exact XA.out.2.2.2.2.1); have i4 := frozen_next (bl_al (.refl _ _) (.cells #[.bool (qs q), .slice A3 (ln (qn q)) c3, .slice B3 (ln (qd q)) d3] 24)) h2 (by rw [World.frozen?_setCell, World.frozen?_setCell]; exact XA.out.2.2.2.2.2); obtain ⟨r1, r2, r3, r4, r5, r6⟩ := (q3_put XA.out (.bool (qs q)) (.slice A3 (ln (qn q)) c3) (.slice B3 (ln (qd q)) d3)).al (.cells #[.bool (qs q), .slice A3 (ln (qn q)) c3, .slice B3 (ln (qd q)) d3] 24); clear h1 h2 ne1 ne2 ne3))
  refine bodyPost_ret (v := .agg #[.bool (qs q), .slice A3 (ln (qn q)) c3, .slice B3 (ln (qd q)) d3]) (by simp [results, Tryz.results35, go_sem, r1, r2, r3]) rfl (RQ.mk rfl rfl rfl ((s3.over3 XA.out (.bool (qs q)) (.slice A3 (ln (qn q)) c3) (.slice B3 (ln (qd q)) d3)).alloc (.cells #[.bool (qs q), .slice A3 (ln (qn q)) c3, .slice B3 (ln (qd q)) d3] 24)) ((t3.over3 XA.out (.bool (qs q)) (.slice A3 (ln (qn q)) c3) (.slice B3 (ln (qd q)) d3)).alloc (.cells #[.bool (qs q), .slice A3 (ln (qn q)) c3, .slice B3 (ln (qd q)) d3] 24)) (bl_al (Below.over3 kb.out (Nat.le_refl _) (.bool (qs q)) (.slice A3 (ln (qn q)) c3) (.slice B3 (ln (qd q)) d3)) (.cells #[.bool (qs q), .slice A3 (ln (qn q)) c3, .slice B3 (ln (qd q)) d3] 24)))

theorem aw4_no1 : decSp [48, 49] = none := by decide
theorem aw4_no2 : decSp [49, 46] = none := by decide
theorem aw4_ok : decSp [48, 46, 49, 50, 53] = some (qmk false 125 1000) := rfl
theorem aw4_e1 : ExactOf (Rat.divInt 1 8) [48, 46, 49, 50, 53] := ⟨[49, 50, 53], by
  rw [show qn (Rat.divInt 1 8) / qd (Rat.divInt 1 8) = 0 by decide, dec_small (by decide)]; rfl, by decide, by decide, .inr (by decide), by decide, by decide⟩
theorem aw4_t3 : ¬ TenDiv (qd (Rat.divInt 1 3)) := by
  rw [show qd (Rat.divInt 1 3) = 3 by decide, tenDiv_end (by decide)]
  decide
theorem aw4_s3 : showT (Rat.divInt (-1) 3) = [40, 45, 32, 40, 47, 32, 49, 46, 48, 32, 51, 46, 48, 41, 41] := by
  unfold showT sizeT
  rw [show qs (Rat.divInt (-1) 3) = true by decide, show qd (Rat.divInt (-1) 3) = 3 by decide, show qn (Rat.divInt (-1) 3) = 1 by decide, dec_small (by decide), dec_small (by decide)]
  rfl
theorem aw4_s5 : showT (Rat.divInt 5 1) = [53, 46, 48] := by
  unfold showT sizeT
  rw [show qs (Rat.divInt 5 1) = false by decide, show qd (Rat.divInt 5 1) = 1 by decide, show qn (Rat.divInt 5 1) = 5 by decide, dec_small (by decide)]
  rfl
theorem fit4 {q : Rat} (h1 : qn q < LB) (h2 : qd q < LB) : fitq q := ⟨Nat.le_trans (ln_le (k := 1) (by rw [Nat.pow_one]; exact h1)) (by decide), Nat.le_trans (ln_le (k := 1) (by rw [Nat.pow_one]; exact h2)) (by decide)⟩
set_option maxRecDepth 100000 in
set_option maxHeartbeats 16000000 in
theorem awake4_any (w : World) (ht : Pow10 w) :
    Calls Tryz.prog 27 #[] w fun e w' => e = .returned (.bool true) ∧ Below w.heap.size w w' := by
  obtain ⟨q1, hq1⟩ : ∃ q, q = Rat.divInt 1 8 := ⟨_, rfl⟩
  obtain ⟨q2, hq2⟩ : ∃ q, q = Rat.divInt 1 3 := ⟨_, rfl⟩
  obtain ⟨q3, hq3⟩ : ∃ q, q = Rat.divInt (-1) 3 := ⟨_, rfl⟩
  obtain ⟨q4, hq4⟩ : ∃ q, q = Rat.divInt 5 1 := ⟨_, rfl⟩
  have f1 : fitq q1 := by rw [hq1]; exact fit4 (by decide) (by decide)
  have f2 : fitq q2 := by rw [hq2]; exact fit4 (by decide) (by decide)
  have f3 : fitq q3 := by rw [hq3]; exact fit4 (by decide) (by decide)
  have f4 : fitq q4 := by rw [hq4]; exact fit4 (by decide) (by decide)
  have P1 := hide (fun W => (dparse_all ⟨#[48, 46, 49, 50, 53]⟩ W (by decide)).2 q1 (aw4_ok.trans (congrArg some (by rw [hq1]; decide))))
  have P2 := hide (fun W => (dparse_all ⟨#[48, 49]⟩ W (by decide)).1 aw4_no1)
  have P3 := hide (fun W => (dparse_all ⟨#[49, 46]⟩ W (by decide)).1 aw4_no2)
  have O1 := hide (fun W => rof_q 1 8 q1 W (by decide) (by decide) (by decide) (by decide) (by decide) (by rw [hq1]; decide))
  have O2 := hide (fun W => rof_q 1 3 q2 W (by decide) (by decide) (by decide) (by decide) (by decide) (by rw [hq2]; decide))
  have O3 := hide (fun W => rof_q (-1) 3 q3 W (by decide) (by decide) (by decide) (by decide) (by decide) (by rw [hq3]; decide))
  have O4 := hide (fun W => rof_q 5 1 q4 W (by decide) (by decide) (by decide) (by decide) (by decide) (by rw [hq4]; decide))
  have X1 : Hid (∀ X Y e f W, Below w.heap.size w W → Sl W X (digs (qn q1)) → Sl W Y (digs (qd q1)) → Calls Tryz.prog 30 #[.agg #[.bool (qs q1), .slice X (ln (qn q1)) e, .slice Y (ln (qd q1)) f]] W fun e w' => e = .returned (.tuple #[.string ⟨#[48, 46, 49, 50, 53]⟩, .bool true]) ∧ Below W.heap.size W w') := fun X Y e f W k s1 s2 =>
    (exact_ok q1 X Y e f W s1 s2 f1 (by rw [hq1]; decide) (by rw [hq1]; exact ⟨3, by decide⟩) (pow_below ht k)).mono fun e w' ⟨D, he, hD, hb⟩ => ⟨by
      have := exact_unique hD (by rw [hq1]; exact aw4_e1)
      rw [he, show D = ⟨#[48, 46, 49, 50, 53]⟩ by cases D with | mk d => simp at this; rw [← this]], hb⟩
  have X2 := hide (fun X Y e f W s1 s2 => exact_neg q2 X Y e f W s1 s2 f2 (.inr (by rw [hq2]; exact aw4_t3)))
  have T3 := hide (fun X Y e f W (k : Below w.heap.size w W) s1 s2 => show_q q3 X Y e f W s1 s2 f3 (pow_below ht k))
  have T4 := hide (fun X Y e f W (k : Below w.heap.size w W) s1 s2 => show_q q4 X Y e f W s1 s2 f4 (pow_below ht k))
  have t3 : showT q3 = [40, 45, 32, 40, 47, 32, 49, 46, 48, 32, 51, 46, 48, 41, 41] := by rw [hq3]; exact aw4_s3
  have t4 : showT q4 = [53, 46, 48] := by rw [hq4]; exact aw4_s5
  rw [t3] at T3
  rw [t4] at T4
  clear t3 t4
  have SM := hide (fun X Y Z T e f g h W s1 s2 s3 s4 => same_q q1 q1 X Y Z T e f g h W s1 s2 s3 s4 f1 f1 true (decide_eq_true rfl))
  have e0 : binOp .eql 27 (.int .i64 0) (.int .i64 0) = pure (.bool true) := rfl
  have e2 : binOp .eql 27 (.int .i64 2) (.int .i64 2) = pure (.bool true) := rfl
  have j1 := eq_s 9 (show (⟨#[48, 46, 49, 50, 53]⟩ : ByteArray) = ⟨#[48, 46, 49, 50, 53]⟩ from rfl)
  have j2 := eq_s 9 (show (⟨[40, 45, 32, 40, 47, 32, 49, 46, 48, 32, 51, 46, 48, 41, 41].toArray⟩ : ByteArray) = ⟨#[40, 45, 32, 40, 47, 32, 49, 46, 48, 32, 51, 46, 48, 41, 41]⟩ from rfl)
  have j3 := eq_s 9 (show (⟨[53, 46, 48].toArray⟩ : ByteArray) = ⟨#[53, 46, 48]⟩ from rfl)
  clear hq1 hq2 hq3 hq4 f1 f2 f3 f4 ht
  go_enter Tryz.func27, Tryz.ntmps27
  go_wp2_with (first
    | (go_at_call 28; (with_reducible refine (P1.out _).mono ?_); rintro e w1 ⟨A1, c1, B1, d1, rfl, s1, t1, hb⟩; have g := hb; have b1 := g; clear hb g)
    | (go_at_call 28; (with_reducible refine (P2.out _).mono ?_); rintro e w2 ⟨rfl, hb⟩; have g := (bl_one hb); have Y1 := hide ((Q3.new (.bool (qs q1)) (.slice A1 (ln (qn q1)) c1) (.slice B1 (ln (qd q1)) d1) w1).next hb); have s1 := kp' g s1; have t1 := kp' g t1; have b2 := bl_trans b1 g; clear hb g)
    | (go_at_call 28; (with_reducible refine (P3.out _).mono ?_); rintro e w3 ⟨rfl, hb⟩; have g := (bl_one hb); have s1 := kp' g s1; have t1 := kp' g t1; have Y1 := hide (Y1.out.next g); have b3 := bl_trans b2 g; clear hb g)
    | (go_at_call 35; (with_reducible refine (O1.out _).mono ?_); rintro e w4 ⟨A4, c4, B4, d4, rfl, s4, t4, hb⟩; have g := (bl_one hb); have s1 := kp' g s1; have t1 := kp' g t1; have Y1 := hide (Y1.out.next g); have b4 := bl_trans b3 g; clear hb g)
    | (go_at_call 30; (with_reducible refine (X1.out A4 B4 c4 d4 _ b4 s4 t4).mono ?_); rintro e w5 ⟨rfl, hb⟩; have g := hb; have s1 := kp' g s1; have t1 := kp' g t1; have Y1 := hide (Y1.out.next g); have b5 := bl_trans b4 g; clear hb g)
    | (go_at_call 35; (with_reducible refine (O2.out _).mono ?_); rintro e w6 ⟨A6, c6, B6, d6, rfl, s6, t6, hb⟩; have g := hb; have s1 := kp' g s1; have t1 := kp' g t1; have Y1 := hide (Y1.out.next g); have b6 := bl_trans b5 g; clear hb g)
    | (go_at_call 30; (with_reducible refine (X2.out A6 B6 c6 d6 _ s6 t6).mono ?_); rintro e w7 ⟨rfl, hb⟩; have g := hb; have s1 := kp' g s1; have t1 := kp' g t1; have Y1 := hide (Y1.out.next g); have b7 := bl_trans b6 g; clear hb g))
  have kz : Hid (K6 w [(A1, digs (qn q1)), (B1, digs (qd q1))] w7) := hide (K6.cons (K6.cons (K6.nil b7) t1) s1)
  have kd := hide kz.out.drew
  clear b1 b2 b3 b4 b5 b6 b7 s1 t1
  go_region_held3 (fun W => W.cell? ⟨w1.heap.size, 0, none⟩ = some (.bool (qs q1)) ∧ W.cell? ⟨w1.heap.size, 1, none⟩ = some (.slice A1 (ln (qn q1)) c1) ∧ W.cell? ⟨w1.heap.size, 2, none⟩ = some (.slice B1 (ln (qd q1)) d1) ∧ K6 w [(A1, digs (qn q1)), (B1, digs (qd q1))] W)
    (first | exact ⟨Y1.out.1, Y1.out.2.1, Y1.out.2.2.1, kd.out⟩ | with_reducible exact S3k_next hb (by assumption) | with_reducible assumption)
    (first
      | (go_at_call 35; (with_reducible refine (O1.out _).mono ?_); rintro e v1 ⟨P1, p1, R1, r1, rfl, y1, y2, hb⟩)
      | (go_at_call 32; (with_reducible refine (SM.out A1 B1 P1 R1 c1 d1 p1 r1 _ (K6.sl (k3k (by assumption)) nem1) (K6.sl (k3k (by assumption)) nem2) y1 y2).mono ?_); rintro e v2 ⟨rfl, hb⟩)
      | (go_at_call 35; (with_reducible refine (O3.out _).mono ?_); rintro e v3 ⟨P3, p3, R3, r3, rfl, y3, y4, hb⟩)
      | (go_at_call 33; (with_reducible refine (T3.out P3 R3 p3 r3 _ (K6.b (k3k (by assumption))) y3 y4).mono ?_); rintro e v4 ⟨rfl, hb⟩)
      | (go_at_call 35; (with_reducible refine (O4.out _).mono ?_); rintro e v5 ⟨P5, p5, R5, r5, rfl, y5, y6, hb⟩)
      | (go_at_call 33; (with_reducible refine (T4.out P5 R5 p5 r5 _ (K6.b (k3k (by assumption))) y5 y6).mono ?_); rintro e v6 ⟨rfl, hb⟩))
  all_goals
    go_wp2
    go_ret
    exact ⟨rfl, K6.b (k3k (by assumption))⟩
end Nt

end Go.Proofs.YtboppbidldomhaaGreatDoor
