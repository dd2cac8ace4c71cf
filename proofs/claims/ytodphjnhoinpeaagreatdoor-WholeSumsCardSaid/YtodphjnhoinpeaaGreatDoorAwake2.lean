/-
  The second law's awake.
-/
import Derived.Test.YtodphjnhoinpeaaGreatDoorWholeC
import Derived.Test.YtodphjnhoinpeaaGreatDoorWhole6
namespace Go.Proofs.YtodphjnhoinpeaaGreatDoor
open Go.RowKit
namespace Nt

/-- A whole number's cells. -/
def Ic (g : Nat) (s : Bool) (A : Option Addr) (n c : Nat) (w : World) : Prop := w.cell? ⟨g, 0, none⟩ = some (.bool s) ∧ w.cell? ⟨g, 1, none⟩ = some (.slice A n c)
theorem Ic.next {g : Nat} {s : Bool} {A : Option Addr} {n c : Nat} {w w' : World} (x : Ic g s A n c w) (hb : Below w.heap.size w w') : Ic g s A n c w' := ⟨cell_next hb x.1, cell_next hb x.2⟩
theorem Ic.new (s : Bool) (A : Option Addr) (n c : Nat) (w : World) : Ic w.heap.size s A n c (w.alloc (.cells #[.bool s, .slice A n c] 41)) := ⟨cell_new _ _ _ 0, cell_new _ _ _ 1⟩
theorem Ic.al {g : Nat} {s : Bool} {A : Option Addr} {n c : Nat} {w : World} (x : Ic g s A n c w) (y : Obj) : Ic g s A n c (w.alloc y) := x.next (bl_al (.refl _ _) y)
theorem Ic.new2 (s : Bool) (A : Option Addr) (n c : Nat) (w : World) (y : Obj) : Ic (w.heap.size + 1) s A n c ((w.alloc y).alloc (.cells #[.bool s, .slice A n c] 41)) := by
  have := Ic.new s A n c (w.alloc y)
  rwa [size1] at this

theorem of_at (z : Int) (s : Bool) (xs : List Nat) (n : Nat) (w : World) (h : mkI z = (s, xs)) (hn : xs.length = n) (h1 : -9223372036854775808 ≤ z) (h2 : z ≤ 9223372036854775807) :
    Calls Tryz.prog 38 #[.int .i64 z] w fun e w' => ∃ A c, e = .returned (.agg #[.bool s, .slice A n c]) ∧ Sl w' A xs ∧ Below w.heap.size w w' := by
  subst hn
  have := ofI_any z w h1 h2
  rw [h] at this
  exact this
theorem mkI_neg (n : Nat) (h0 : 0 < n) (h : n < 18446744073709551616) (z : Int) (hz : z = -(n : Int)) : mkI z = (true, [n]) := by
  subst hz
  unfold mkI
  rw [idg_one (by omega) (by rw [LB_eq]; omega), Int.natAbs_neg, Int.natAbs_natCast]
  unfold isg
  rw [decide_eq_true (by omega)]
theorem mkI_pos (n : Nat) (h0 : 0 < n) (h : n < 18446744073709551616) (z : Int) (hz : z = (n : Int)) : mkI z = (false, [n]) := by
  subst hz
  unfold mkI
  rw [idg_one (by omega) (by rw [LB_eq]; omega), Int.natAbs_natCast]
  unfold isg
  rw [decide_eq_false (by omega)]
theorem mkI_0 : mkI 0 = (false, []) := by unfold mkI isg idg; rw [show (0 : Int).natAbs = 0 from rfl, digs_zero]; rfl
theorem validI_1 (s : Bool) {x : Nat} (h : x ≠ 0) : validI s [x] = true := validI_iff.2 ⟨valid1 h, fun _ => Nat.zero_lt_one⟩
theorem div_l1 : divISp true [7] false [2] = ((true, [4]), (false, [1]), 0) := by
  have e1 : downQ (true != false) (val [7]) (val [2]) = 4 := by rw [val_one, val_one]; decide
  have e2 : downR (true != false) (val [7]) (val [2]) = 1 := by rw [val_one, val_one]; decide
  rw [divI_ok ⟨validI_1 _ (by decide), validI_1 _ (by decide), Nat.zero_lt_one⟩, e1, e2, digs1 (by decide) (by decide), digs1 (by decide) (by decide)]
  rfl
theorem div_l2 : divISp false [1] false [] = ((false, []), (false, []), 1) := divI_no (by rintro ⟨_, _, h⟩; exact absurd h (by decide))
theorem parse_l : parseISp [45, 48] = (false, [], 0) := by
  have h1 : cutD [45, 48] = [48] := by decide
  have h2 : parseSp [48] = ([], 0) := by
    unfold parseSp
    have hd : digitsB [48] = true := by decide
    have hv : decV [48] = 0 := by decide
    rw [hd, hv, if_pos rfl, if_pos (LB_pow_pos 64), digs_zero]
  unfold parseISp
  rw [h1, h2]
  simp
theorem value_l1 : valSp true [9223372036854775808] = (-9223372036854775808, true) := by
  have e : ival true [9223372036854775808] = -9223372036854775808 := by unfold ival; rw [val_one]; rfl
  rw [valSp_is (validI_1 _ (by decide)) (by rw [e]; decide) (by rw [e]; decide), e]
theorem value_l2 : valSp false [9223372036854775808] = (0, false) := by
  have e : ival false [9223372036854775808] = 9223372036854775808 := by unfold ival; rw [val_one]; rfl
  exact valSp_far (by rw [e]; decide)
theorem add_l : addISp false [4611686018427387904] false [4611686018427387904] = (false, [9223372036854775808], 0) := by
  have ha : addSp [4611686018427387904] [4611686018427387904] = ([9223372036854775808], 0) := by
    rw [addSp_ok (valid1 (by decide)) (valid1 (by decide)), val_one, show 4611686018427387904 + 4611686018427387904 = 9223372036854775808 by decide, digs1 (by decide) (by decide), if_pos (by decide)]
  rw [addI_one (validI_1 _ (by decide)) (validI_1 _ (by decide)), ha]
  rfl
theorem neg_l : negISp false [9223372036854775808] = (true, [9223372036854775808]) := by rw [negI_eq (limbs1 (by decide)) (validI_1 _ (by decide))]; rfl
theorem sign_l : sgnISp true [9223372036854775808] = -1 := by unfold sgnISp cmpZ; rw [validI_1 _ (by decide), if_pos rfl]; unfold ival; rw [val_one]; decide
theorem cmp_l : cmpISp true [3] false [2] = -1 := cmpI_np (limbs1 (by decide)) (validI_1 _ (by decide)) (validI_1 _ (by decide))
theorem text_l : textISp false [9223372036854775808] = [57, 50, 50, 51, 51, 55, 50, 48, 51, 54, 56, 53, 52, 55, 55, 53, 56, 48, 56] := by
  unfold textISp textSp
  rw [validI_1 _ (by decide), if_pos rfl, valid1 (by decide), val_one]
  simp [Lib.decDigits]
theorem valid_l : validI true [] = false := by decide

theorem ITwo.getn {w : World} {s : Bool} {xs : List Nat} {n k : Nat} {e : Ending} {w' : World} {r : Bool × List Nat × Nat} (h : ITwo w r e w') (hr : r = (s, xs, k)) (hn : xs.length = n) : ∃ A c, e = .returned (.tuple #[.agg #[.bool s, .slice A n c], .int .i64 (k : Int)]) ∧ Sl w' A xs ∧ Below w.heap.size w w' := by
  subst hr; subst hn; exact h
theorem IOne.getn {w : World} {s : Bool} {xs : List Nat} {n : Nat} {e : Ending} {w' : World} {r : Bool × List Nat} (h : IOne w r e w') (hr : r = (s, xs)) (hn : xs.length = n) : ∃ A c, e = .returned (.agg #[.bool s, .slice A n c]) ∧ Sl w' A xs ∧ Below w.heap.size w w' := by
  subst hr; subst hn; exact h
theorem IThree.getn {w : World} {s t : Bool} {xs ys : List Nat} {n m k : Nat} {e : Ending} {w' : World} {r : (Bool × List Nat) × (Bool × List Nat) × Nat} (h : IThree w r e w') (hr : r = ((s, xs), (t, ys), k)) (hn : xs.length = n) (hm : ys.length = m) :
    ∃ A c B d, e = .returned (.tuple #[.agg #[.bool s, .slice A n c], .agg #[.bool t, .slice B m d], .int .i64 (k : Int)]) ∧ Sl w' A xs ∧ Sl w' B ys ∧ Below w.heap.size w w' := by
  subst hr; subst hn; subst hm; exact h
theorem aw_div1 (A B : Option Addr) (c d : Nat) (w : World) (hx : Sl w A [7]) (hy : Sl w B [2]) : Calls Tryz.prog 57 #[.agg #[.bool true, .slice A 1 c], .agg #[.bool false, .slice B 1 d]] w fun e w' => ∃ A c B d, e = .returned (.tuple #[.agg #[.bool true, .slice A 1 c], .agg #[.bool false, .slice B 1 d], .int .i64 0]) ∧ Sl w' A [4] ∧ Sl w' B [1] ∧ Below w.heap.size w w' :=
  (divI_any true false A B c d [7] [2] w hx hy (limbs1 (by decide)) (limbs1 (by decide)) (by decide) (by decide)).mono fun _ _ h => h.getn div_l1 rfl rfl
theorem aw_div2 (A B : Option Addr) (c d : Nat) (w : World) (hx : Sl w A [1]) (hy : Sl w B []) : Calls Tryz.prog 57 #[.agg #[.bool false, .slice A 1 c], .agg #[.bool false, .slice B 0 d]] w fun e w' => ∃ A c B d, e = .returned (.tuple #[.agg #[.bool false, .slice A 0 c], .agg #[.bool false, .slice B 0 d], .int .i64 1]) ∧ Sl w' A [] ∧ Sl w' B [] ∧ Below w.heap.size w w' :=
  (divI_any false false A B c d [1] [] w hx hy (limbs1 (by decide)) .nil (by decide) (by decide)).mono fun _ _ h => h.getn div_l2 rfl rfl
theorem aw_parse (w : World) : Calls Tryz.prog 58 #[.string { data := #[45, 48] }] w fun e w' => ∃ A c, e = .returned (.tuple #[.agg #[.bool false, .slice A 0 c], .int .i64 0]) ∧ Sl w' A [] ∧ Below w.heap.size w w' :=
  (parseI_any { data := #[45, 48] } w (by decide)).mono fun _ _ h => h.getn parse_l rfl
theorem aw_value1 (A : Option Addr) (c : Nat) (w : World) (hx : Sl w A [9223372036854775808]) : Calls Tryz.prog 27 #[.agg #[.bool true, .slice A 1 c]] w fun e w' => e = .returned (.tuple #[.int .i64 (-9223372036854775808), .bool true]) ∧ Below w.heap.size w w' := by
  have := valueI_any true A c [9223372036854775808] w hx (limbs1 (by decide)) (by decide)
  rw [value_l1] at this
  exact this
theorem aw_value2 (A : Option Addr) (c : Nat) (w : World) (hx : Sl w A [9223372036854775808]) : Calls Tryz.prog 27 #[.agg #[.bool false, .slice A 1 c]] w fun e w' => e = .returned (.tuple #[.int .i64 0, .bool false]) ∧ Below w.heap.size w w' := by
  have := valueI_any false A c [9223372036854775808] w hx (limbs1 (by decide)) (by decide)
  rw [value_l2] at this
  exact this
theorem aw_add (A B : Option Addr) (c d : Nat) (w : World) (hx : Sl w A [4611686018427387904]) (hy : Sl w B [4611686018427387904]) : Calls Tryz.prog 21 #[.agg #[.bool false, .slice A 1 c], .agg #[.bool false, .slice B 1 d]] w fun e w' => ∃ A c, e = .returned (.tuple #[.agg #[.bool false, .slice A 1 c], .int .i64 0]) ∧ Sl w' A [9223372036854775808] ∧ Below w.heap.size w w' :=
  (addI_any false false A B c d [4611686018427387904] [4611686018427387904] w hx hy (limbs1 (by decide)) (limbs1 (by decide)) (by decide) (by decide)).mono fun _ _ h => h.getn add_l rfl
theorem aw_neg (A : Option Addr) (c : Nat) (w : World) (hx : Sl w A [9223372036854775808]) : Calls Tryz.prog 34 #[.agg #[.bool false, .slice A 1 c]] w fun e w' => ∃ A c, e = .returned (.agg #[.bool true, .slice A 1 c]) ∧ Sl w' A [9223372036854775808] ∧ Below w.heap.size w w' :=
  (negI_any false A c [9223372036854775808] w hx (limbs1 (by decide)) (by decide)).mono fun _ _ h => h.getn neg_l rfl
theorem aw_sign (A : Option Addr) (c : Nat) (w : World) (hx : Sl w A [9223372036854775808]) : Calls Tryz.prog 33 #[.agg #[.bool true, .slice A 1 c]] w fun e w' => e = .returned (.int .i64 (-1)) ∧ Below w.heap.size w w' := by
  have := signI_any true A c [9223372036854775808] w hx (limbs1 (by decide)) (by decide)
  rw [sign_l] at this
  exact this
theorem aw_text (A : Option Addr) (c : Nat) (w : World) (hx : Sl w A [9223372036854775808]) (ht : Pow10 w) : Calls Tryz.prog 59 #[.agg #[.bool false, .slice A 1 c]] w fun e w' => e = .returned (.string { data := #[57, 50, 50, 51, 51, 55, 50, 48, 51, 54, 56, 53, 52, 55, 55, 53, 56, 48, 56] }) ∧ Below w.heap.size w w' := by
  have := textI_any false A c [9223372036854775808] w hx (limbs1 (by decide)) (by decide) ht
  rw [text_l] at this
  exact this
theorem aw_cmp (A B : Option Addr) (c d : Nat) (w : World) (hx : Sl w A [3]) (hy : Sl w B [2]) : Calls Tryz.prog 31 #[.agg #[.bool true, .slice A 1 c], .agg #[.bool false, .slice B 1 d]] w fun e w' => e = .returned (.int .i64 (-1)) ∧ Below w.heap.size w w' := by
  have := cmpI_any true false A B c d [3] [2] w hx hy (limbs1 (by decide)) (limbs1 (by decide)) (by decide) (by decide)
  rw [cmp_l] at this
  exact this
theorem aw_valid (w : World) : Calls Tryz.prog 36 #[.agg #[.bool true, .slice none 0 0]] w fun e w' => e = .returned (.bool false) ∧ Below w.heap.size w w' := by
  have := validI_any true none 0 [] w .nil (by decide)
  rw [valid_l] at this
  exact this
/-- What stays to the end. -/
def Kz (w : World) (A3 B3 A7 A12 : Option Addr) (W : World) : Prop := Below w.heap.size w W ∧ Sl W A3 [4] ∧ Sl W B3 [1] ∧ Sl W A7 [] ∧ Sl W A12 [9223372036854775808]
theorem Kz.drew {w : World} {A3 B3 A7 A12 : Option Addr} {W : World} (k : Kz w A3 B3 A7 A12 W) : Kz w A3 B3 A7 A12 W.drew := ⟨k.1.drew, k.2⟩
theorem Kz.next {w : World} {A3 B3 A7 A12 : Option Addr} {W W' : World} (k : Kz w A3 B3 A7 A12 W) (hb : Below W.heap.size W W') : Kz w A3 B3 A7 A12 W' := ⟨bl_trans k.1 hb, bl_keeps hb _ _ k.2.1, bl_keeps hb _ _ k.2.2.1, bl_keeps hb _ _ k.2.2.2.1, bl_keeps hb _ _ k.2.2.2.2⟩
theorem S8_next {w w' : World} (hb : Below w.heap.size w w') {p1 p2 p3 p4 p5 p6 p7 p8 : Addr} {v1 v2 v3 v4 v5 v6 v7 v8 : Value} {w0 : World} {A3 B3 A7 A12 : Option Addr}
    (h : w.cell? p1 = some v1 ∧ w.cell? p2 = some v2 ∧ w.cell? p3 = some v3 ∧ w.cell? p4 = some v4 ∧ w.cell? p5 = some v5 ∧ w.cell? p6 = some v6 ∧ w.cell? p7 = some v7 ∧ w.cell? p8 = some v8 ∧ Kz w0 A3 B3 A7 A12 w) :
    w'.cell? p1 = some v1 ∧ w'.cell? p2 = some v2 ∧ w'.cell? p3 = some v3 ∧ w'.cell? p4 = some v4 ∧ w'.cell? p5 = some v5 ∧ w'.cell? p6 = some v6 ∧ w'.cell? p7 = some v7 ∧ w'.cell? p8 = some v8 ∧ Kz w0 A3 B3 A7 A12 w' := by
  obtain ⟨h1, h2, h3, h4, h5, h6, h7, h8, h9⟩ := h
  exact ⟨cell_next hb h1, cell_next hb h2, cell_next hb h3, cell_next hb h4, cell_next hb h5, cell_next hb h6, cell_next hb h7, cell_next hb h8, h9.next hb⟩
theorem kz_of {c1 c2 c3 c4 c5 c6 c7 c8 k : Prop} (h : c1 ∧ c2 ∧ c3 ∧ c4 ∧ c5 ∧ c6 ∧ c7 ∧ c8 ∧ k) : k := h.2.2.2.2.2.2.2.2

theorem Kz.q0 {w : World} {A3 B3 A7 A12 : Option Addr} {W : World} (k : Kz w A3 B3 A7 A12 W) : Below w.heap.size w W := k.1
theorem Kz.q1 {w : World} {A3 B3 A7 A12 : Option Addr} {W : World} (k : Kz w A3 B3 A7 A12 W) : Sl W A3 [4] := k.2.1
theorem Kz.q2 {w : World} {A3 B3 A7 A12 : Option Addr} {W : World} (k : Kz w A3 B3 A7 A12 W) : Sl W B3 [1] := k.2.2.1
theorem Kz.q3 {w : World} {A3 B3 A7 A12 : Option Addr} {W : World} (k : Kz w A3 B3 A7 A12 W) : Sl W A7 [] := k.2.2.2.1
theorem Kz.q4 {w : World} {A3 B3 A7 A12 : Option Addr} {W : World} (k : Kz w A3 B3 A7 A12 W) : Sl W A12 [9223372036854775808] := k.2.2.2.2

set_option maxRecDepth 100000 in
set_option maxHeartbeats 4000000 in
theorem awake2_any (w : World) (ht : Pow10 w) :
    Calls Tryz.prog 20 #[] w fun e w' => e = .returned (.bool true) ∧ Below w.heap.size w w' := by
  go_enter Tryz.func20, Tryz.ntmps20
  go_wp2_with (first
    | (go_at_call 38; (with_reducible refine (of_at (-7) true [7] 1 _ (mkI_neg 7 (by decide) (by decide) _ rfl) rfl (by decide) (by decide)).mono ?_); rintro e w1 ⟨A1, c1, rfl, s1, hb⟩; have g := hb; have b1 := g; clear hb g)
    | (go_at_call 38; (with_reducible refine (of_at (2) false [2] 1 _ (mkI_pos 2 (by decide) (by decide) _ rfl) rfl (by decide) (by decide)).mono ?_); rintro e w2 ⟨A2, c2, rfl, s2, hb⟩; have g := hb; have s1 := bl_keeps g _ _ s1; have b2 := bl_trans b1 g; clear hb g)
    | (go_at_call 57; (with_reducible refine (aw_div1 A1 A2 _ _ _ s1 s2).mono ?_); rintro e w3 ⟨A3, c3, B3, d3, rfl, s3, t3, hb⟩; have g := hb; have s1 := bl_keeps g _ _ s1; have s2 := bl_keeps g _ _ s2; have b3 := bl_trans b2 g; clear hb g)
    | (go_at_call 38; (with_reducible refine (of_at (1) false [1] 1 _ (mkI_pos 1 (by decide) (by decide) _ rfl) rfl (by decide) (by decide)).mono ?_); rintro e w4 ⟨A4, c4, rfl, s4, hb⟩; have g := (bl_two hb); have q1 := hide (((Ic.new true A3 1 c3 w3).al _).next hb); have q2 := hide ((Ic.new2 false B3 1 d3 w3 _).next hb); have s3 := bl_keeps g _ _ s3; have t3 := bl_keeps g _ _ t3; have b4 := bl_trans b3 g; clear hb g)
    | (go_at_call 38; (with_reducible refine (of_at (0) false [] 0 _ (mkI_0) rfl (by decide) (by decide)).mono ?_); rintro e w5 ⟨A5, c5, rfl, s5, hb⟩; have g := hb; have s3 := bl_keeps g _ _ s3; have t3 := bl_keeps g _ _ t3; have s4 := bl_keeps g _ _ s4; have q1 := hide (q1.out.next g); have q2 := hide (q2.out.next g); have b5 := bl_trans b4 g; clear hb g)
    | (go_at_call 57; (with_reducible refine (aw_div2 A4 A5 _ _ _ s4 s5).mono ?_); rintro e w6 ⟨A6, c6, B6, d6, rfl, s6, t6, hb⟩; have g := hb; have s3 := bl_keeps g _ _ s3; have t3 := bl_keeps g _ _ t3; have s4 := bl_keeps g _ _ s4; have s5 := bl_keeps g _ _ s5; have q1 := hide (q1.out.next g); have q2 := hide (q2.out.next g); have b6 := bl_trans b5 g; clear hb g)
    | (go_at_call 58; (with_reducible refine (aw_parse _).mono ?_); rintro e w7 ⟨A7, c7, rfl, s7, hb⟩; have g := (bl_two hb); have s3 := bl_keeps g _ _ s3; have t3 := bl_keeps g _ _ t3; have q1 := hide (q1.out.next g); have q2 := hide (q2.out.next g); have b7 := bl_trans b6 g; clear hb g)
    | (go_at_call 38; (with_reducible refine (of_at (-9223372036854775808) true [9223372036854775808] 1 _ (mkI_neg 9223372036854775808 (by decide) (by decide) _ rfl) rfl (by decide) (by decide)).mono ?_); rintro e w8 ⟨A8, c8, rfl, s8, hb⟩; have g := (bl_one hb); have q3 := hide ((Ic.new false A7 0 c7 w7).next hb); have s3 := bl_keeps g _ _ s3; have t3 := bl_keeps g _ _ t3; have s7 := bl_keeps g _ _ s7; have q1 := hide (q1.out.next g); have q2 := hide (q2.out.next g); have b8 := bl_trans b7 g; clear hb g)
    | (go_at_call 27; (with_reducible refine (aw_value1 A8 _ _ s8).mono ?_); rintro e w9 ⟨rfl, hb⟩; have g := hb; have s3 := bl_keeps g _ _ s3; have t3 := bl_keeps g _ _ t3; have s7 := bl_keeps g _ _ s7; have s8 := bl_keeps g _ _ s8; have q1 := hide (q1.out.next g); have q2 := hide (q2.out.next g); have q3 := hide (q3.out.next g); have b9 := bl_trans b8 g; clear hb g)
    | (go_at_call 38; (with_reducible refine (of_at (4611686018427387904) false [4611686018427387904] 1 _ (mkI_pos 4611686018427387904 (by decide) (by decide) _ rfl) rfl (by decide) (by decide)).mono ?_); rintro e w10 ⟨A10, c10, rfl, s10, hb⟩; have g := hb; have s3 := bl_keeps g _ _ s3; have t3 := bl_keeps g _ _ t3; have s7 := bl_keeps g _ _ s7; have q1 := hide (q1.out.next g); have q2 := hide (q2.out.next g); have q3 := hide (q3.out.next g); have b10 := bl_trans b9 g; clear hb g)
    | (go_at_call 38; (with_reducible refine (of_at (4611686018427387904) false [4611686018427387904] 1 _ (mkI_pos 4611686018427387904 (by decide) (by decide) _ rfl) rfl (by decide) (by decide)).mono ?_); rintro e w11 ⟨A11, c11, rfl, s11, hb⟩; have g := hb; have s3 := bl_keeps g _ _ s3; have t3 := bl_keeps g _ _ t3; have s7 := bl_keeps g _ _ s7; have s10 := bl_keeps g _ _ s10; have q1 := hide (q1.out.next g); have q2 := hide (q2.out.next g); have q3 := hide (q3.out.next g); have b11 := bl_trans b10 g; clear hb g)
    | (go_at_call 21; (with_reducible refine (aw_add A10 A11 _ _ _ s10 s11).mono ?_); rintro e w12 ⟨A12, c12, rfl, s12, hb⟩; have g := hb; have s3 := bl_keeps g _ _ s3; have t3 := bl_keeps g _ _ t3; have s7 := bl_keeps g _ _ s7; have s10 := bl_keeps g _ _ s10; have s11 := bl_keeps g _ _ s11; have q1 := hide (q1.out.next g); have q2 := hide (q2.out.next g); have q3 := hide (q3.out.next g); have b12 := bl_trans b11 g; clear hb g)
    | (go_at_call 27; (with_reducible refine (aw_value2 A12 _ _ (s12.alloc _)).mono ?_); rintro e w13 ⟨rfl, hb⟩; have g := (bl_one hb); have q4 := hide ((Ic.new false A12 1 c12 w12).next hb); have s3 := bl_keeps g _ _ s3; have t3 := bl_keeps g _ _ t3; have s7 := bl_keeps g _ _ s7; have s12 := bl_keeps g _ _ s12; have q1 := hide (q1.out.next g); have q2 := hide (q2.out.next g); have q3 := hide (q3.out.next g); have b13 := bl_trans b12 g; clear hb g))
  have kz := hide (show Kz w A3 B3 A7 A12 w13 from ⟨b13, s3, t3, s7, s12⟩)
  obtain ⟨x1, x2⟩ := q1.out
  obtain ⟨x3, x4⟩ := q2.out
  obtain ⟨x5, x6⟩ := q3.out
  obtain ⟨x7, x8⟩ := q4.out
  clear q1 q2 q3 q4 s3 t3 s7 s12 b1 b2 b3 b4 b5 b6 b7 b8 b9 b10 b11 b12 b13
  go_region_held3 (fun W => W.cell? ⟨w3.heap.size, 0, none⟩ = some (.bool true) ∧ W.cell? ⟨w3.heap.size, 1, none⟩ = some (.slice A3 1 c3) ∧ W.cell? ⟨w3.heap.size + 1, 0, none⟩ = some (.bool false) ∧ W.cell? ⟨w3.heap.size + 1, 1, none⟩ = some (.slice B3 1 d3) ∧ W.cell? ⟨w7.heap.size, 0, none⟩ = some (.bool false) ∧ W.cell? ⟨w7.heap.size, 1, none⟩ = some (.slice A7 0 c7) ∧ W.cell? ⟨w12.heap.size, 0, none⟩ = some (.bool false) ∧ W.cell? ⟨w12.heap.size, 1, none⟩ = some (.slice A12 1 c12) ∧ Kz w A3 B3 A7 A12 W)
    (first | exact ⟨x1, x2, x3, x4, x5, x6, x7, x8, kz.out.drew⟩ | exact ⟨x1, x2, x3, x4, x5, x6, x7, x8, kz.out⟩ | exact S8_next hb (by assumption) | assumption)
    (first
      | (go_at_call 38; (with_reducible refine (of_at (-4) true [4] 1 _ (mkI_neg 4 (by decide) (by decide) _ rfl) rfl (by decide) (by decide)).mono ?_); rintro e v21 ⟨A21, c21, rfl, s21, hb⟩)
      | (go_at_call 30; (with_reducible refine (same2_t true true A3 A21 _ _ 1 1 [4] [4] _ rfl rfl (Kz.q1 (kz_of (by assumption))) s21 (by decide) (by decide) rfl rfl).mono ?_); rintro e v22 ⟨rfl, hb⟩)
      | (go_at_call 38; (with_reducible refine (of_at (1) false [1] 1 _ (mkI_pos 1 (by decide) (by decide) _ rfl) rfl (by decide) (by decide)).mono ?_); rintro e v23 ⟨A23, c23, rfl, s23, hb⟩)
      | (go_at_call 30; (with_reducible refine (same2_t false false B3 A23 _ _ 1 1 [1] [1] _ rfl rfl (Kz.q2 (kz_of (by assumption))) s23 (by decide) (by decide) rfl rfl).mono ?_); rintro e v24 ⟨rfl, hb⟩)
      | (go_at_call 38; (with_reducible refine (of_at (0) false [] 0 _ (mkI_0) rfl (by decide) (by decide)).mono ?_); rintro e v25 ⟨A25, c25, rfl, s25, hb⟩)
      | (go_at_call 30; (with_reducible refine (same2_t false false A7 A25 _ _ 0 0 [] [] _ rfl rfl (Kz.q3 (kz_of (by assumption))) s25 (by decide) (by decide) rfl rfl).mono ?_); rintro e v26 ⟨rfl, hb⟩)
      | (go_at_call 59; (with_reducible refine (aw_text A12 _ _ (Kz.q4 (kz_of (by assumption))) (pow_below ht (Kz.q0 (kz_of (by assumption))))).mono ?_); rintro e v27 ⟨rfl, hb⟩)
      | (go_at_call 34; (with_reducible refine (aw_neg A12 _ _ (Kz.q4 (kz_of (by assumption)))).mono ?_); rintro e v28 ⟨A28, c28, rfl, s28, hb⟩)
      | (go_at_call 33; (with_reducible refine (aw_sign A28 _ _ s28).mono ?_); rintro e v29 ⟨rfl, hb⟩)
      | (go_at_call 38; (with_reducible refine (of_at (-3) true [3] 1 _ (mkI_neg 3 (by decide) (by decide) _ rfl) rfl (by decide) (by decide)).mono ?_); rintro e v31 ⟨A31, c31, rfl, s31, hb⟩; (try have s32 := bl_keeps hb _ _ s32))
      | (go_at_call 38; (with_reducible refine (of_at (2) false [2] 1 _ (mkI_pos 2 (by decide) (by decide) _ rfl) rfl (by decide) (by decide)).mono ?_); rintro e v32 ⟨A32, c32, rfl, s32, hb⟩; (try have s31 := bl_keeps hb _ _ s31))
      | (go_at_call 31; (with_reducible refine (aw_cmp A31 A32 _ _ _ s31 s32).mono ?_); rintro e v33 ⟨rfl, hb⟩)
      | (go_at_call 36; (with_reducible refine (aw_valid _).mono ?_); rintro e v34 ⟨rfl, hb⟩))
  all_goals
    go_wp2
    go_ret
    exact ⟨rfl, Kz.q0 (kz_of (by assumption))⟩
end Nt
end Go.Proofs.YtodphjnhoinpeaaGreatDoor
