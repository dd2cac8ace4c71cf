
/-
  The law WholeInts.
-/
import Derived.Test.YtgmjdaallinicaaGreatDoorRatS

import Derived.Test.YtgmjdaallinicaaGreatDoorWholeZ

namespace Go.Proofs.YtgmjdaallinicaaGreatDoor

open Go.RowKit

namespace Nt

theorem ki {w w' : World} {A : Option Addr} {xs : List Nat} (b : Below w.heap.size w w') (h : Sl w A xs) : Sl w' A xs := bl_keeps b _ _ h
theorem ic3 (s : Bool) (A : Option Addr) (n a : Nat) (t : Bool) (B : Option Addr) (m b : Nat) (w : World) :
    Ic w.heap.size s A n a ((w.alloc (.cells #[.bool s, .slice A n a] 41)).alloc (.cells #[.bool t, .slice B m b] 41)) ∧
    Ic (w.heap.size + 1) t B m b ((w.alloc (.cells #[.bool s, .slice A n a] 41)).alloc (.cells #[.bool t, .slice B m b] 41)) :=
  ⟨(Ic.new s A n a w).al _, Ic.new2 t B m b w _⟩
theorem Ic.l3 {g : Nat} {s : Bool} {A : Option Addr} {n c : Nat} {w : World} (x : Ic g s A n c w) : g < w.heap.size := by
  have h := x.1
  unfold World.cell? at h
  cases hh : w.heap[g]? with
  | none => rw [hh] at h; cases h
  | some y => exact (Array.getElem?_eq_some_iff.1 hh).1
theorem jl_t (t : TypeId) {x y : Int} (h : x < y) : binOp .lss t (.int .i64 x) (.int .i64 y) = pure (.bool true) := by
  show pure (Value.bool (decide (x < y))) = _
  rw [decide_eq_true h]
theorem jl_f (t : TypeId) {x y : Int} (h : y ≤ x) : binOp .lss t (.int .i64 x) (.int .i64 y) = pure (.bool false) := by
  show pure (Value.bool (decide (x < y))) = _
  rw [decide_eq_false (by omega)]
theorem jg_t (t : TypeId) {x y : Int} (h : y < x) : binOp .gtr t (.int .i64 x) (.int .i64 y) = pure (.bool true) := by
  show pure (Value.bool (decide (y < x))) = _
  rw [decide_eq_true h]
theorem jg_f (t : TypeId) {x y : Int} (h : x ≤ y) : binOp .gtr t (.int .i64 x) (.int .i64 y) = pure (.bool false) := by
  show pure (Value.bool (decide (y < x))) = _
  rw [decide_eq_false (by omega)]
theorem je_t (t : TypeId) (x : Int) : binOp .eql t (.int .i64 x) (.int .i64 x) = pure (.bool true) := by
  show pure (Value.bool (x == x)) = _
  rw [beq_self_eq_true]
theorem jn_f (t : TypeId) (x : Int) : binOp .neq t (.int .i64 x) (.int .i64 x) = pure (.bool false) := by
  show pure (Value.bool (x != x)) = _
  rw [bne_self_eq_false]
theorem ja (t : TypeId) {x y z : Int} (h : x + y = z) (h1 : -9223372036854775808 ≤ z) (h2 : z ≤ 9223372036854775807) : binOp .add t (.int .i64 x) (.int .i64 y) = pure (.int .i64 z) := by
  show pure (Value.int .i64 (IntKind.i64.wrap (x + y))) = _
  rw [h, IntKind.wrap_i64]; congr 2; omega
theorem js (t : TypeId) {x y z : Int} (h : x - y = z) (h1 : -9223372036854775808 ≤ z) (h2 : z ≤ 9223372036854775807) : binOp .sub t (.int .i64 x) (.int .i64 y) = pure (.int .i64 z) := by
  show pure (Value.int .i64 (IntKind.i64.wrap (x - y))) = _
  rw [h, IntKind.wrap_i64]; congr 2; omega
theorem jm (t : TypeId) {x y z : Int} (h : x * y = z) (h1 : -9223372036854775808 ≤ z) (h2 : z ≤ 9223372036854775807) : binOp .mul t (.int .i64 x) (.int .i64 y) = pure (.int .i64 z) := by
  show pure (Value.int .i64 (IntKind.i64.wrap (x * y))) = _
  rw [h, IntKind.wrap_i64]; congr 2; omega
theorem mul_room {a b : Int} (h1 : -2147483648 ≤ a) (h2 : a ≤ 2147483648) (h3 : -2147483648 ≤ b) (h4 : b ≤ 2147483648) : -9223372036854775808 ≤ a * b ∧ a * b ≤ 9223372036854775807 := by
  have h : (a * b).natAbs ≤ 2147483648 * 2147483648 := by
    rw [Int.natAbs_mul]
    exact Nat.mul_le_mul (by omega) (by omega)
  omega
theorem int_lt {x : Int} (h1 : -9223372036854775808 ≤ x) (h2 : x ≤ 9223372036854775807) : x.natAbs < LB ^ 64 := by
  have h : LB ^ 1 ≤ LB ^ 64 := Nat.pow_le_pow_right LB_pos (by decide)
  rw [Nat.pow_one] at h
  rw [LB_eq] at h
  have h' : x.natAbs < 18446744073709551616 := by omega
  exact Nat.lt_of_lt_of_le h' h
section

variable (A : Option Addr) (n c : Nat) (x : Int) (w : World) (hn : (idg x).length = n) (sx : Sl w A (idg x)) (h1 : -9223372036854775808 ≤ x) (h2 : x ≤ 9223372036854775807)

include hn sx h1 h2
theorem valueI_num : Calls Tryz.prog 28 #[.agg #[.bool (isg x), .slice A n c]] w fun e w' => e = .returned (.tuple #[.int .i64 x, .bool true]) ∧ Below w.heap.size w w' := by
  subst hn
  have := valueI_any (isg x) A c (idg x) w sx (limbs_idg x) (Nat.le_trans (idg_len (int_lt h1 h2)) (by decide))
  rwa [valSp_is (validI_num (int_lt h1 h2)) (by rw [ival_mk]; exact h1) (by rw [ival_mk]; exact h2), ival_mk] at this
theorem vI_num : Calls Tryz.prog 37 #[.agg #[.bool (isg x), .slice A n c]] w fun e w' => e = .returned (.bool true) ∧ Below w.heap.size w w' := by
  subst hn
  have := validI_any (isg x) A c (idg x) w sx (Nat.le_trans (idg_len (int_lt h1 h2)) (by decide))
  rwa [validI_num (int_lt h1 h2)] at this
end
theorem rcmpI_num (A B : Option Addr) (n m c d : Nat) (x y : Int) (w : World) (hn : (idg x).length = n) (hm : (idg y).length = m) (sx : Sl w A (idg x)) (sy : Sl w B (idg y)) (hx : x.natAbs < LB ^ 64) (hy : y.natAbs < LB ^ 64) (k : Int) (hk : cmpZ x y = k) :
    Calls Tryz.prog 33 #[.agg #[.bool (isg x), .slice A n c], .agg #[.bool (isg y), .slice B m d]] w fun e w' => e = .returned (.int .i64 k) ∧ Below w.heap.size w w' := by
  subst hn hm hk
  have := rcmpI_any (isg x) (isg y) A B c d (idg x) (idg y) w sx sy (limbs_idg x) (limbs_idg y) (Nat.le_trans (idg_len hx) (by decide)) (Nat.le_trans (idg_len hy) (by decide))
  rwa [cmpISp_num hx hy] at this
section

variable (A B : Option Addr) (n m c d : Nat) (x y z : Int) (w : World) (hn : (idg x).length = n) (hm : (idg y).length = m) (sx : Sl w A (idg x)) (sy : Sl w B (idg y)) (hx : x.natAbs < LB ^ 64) (hy : y.natAbs < LB ^ 64)

include hn hm sx sy hx hy
theorem addI_z (hz : x + y = z) (h : z.natAbs < LB ^ 64) : Calls Tryz.prog 22 #[.agg #[.bool (isg x), .slice A n c], .agg #[.bool (isg y), .slice B m d]] w (ITwo w (isg z, idg z, 0)) := by
  subst hz
  exact addI_num A B n m c d x y w hn hm sx sy hx hy h
theorem subI_z (hz : x - y = z) (h : z.natAbs < LB ^ 64) : Calls Tryz.prog 24 #[.agg #[.bool (isg x), .slice A n c], .agg #[.bool (isg y), .slice B m d]] w (ITwo w (isg z, idg z, 0)) := by
  subst hz
  exact subI_num A B n m c d x y w hn hm sx sy hx hy h
theorem mulI_z (hz : x * y = z) (h : z.natAbs < LB ^ 64) : Calls Tryz.prog 26 #[.agg #[.bool (isg x), .slice A n c], .agg #[.bool (isg y), .slice B m d]] w (ITwo w (isg z, idg z, 0)) := by
  subst hz
  exact mulI_num A B n m c d x y w hn hm sx sy hx hy h
end

theorem int_range {n : Int} (h : (Lit.int .i64 n).wf = true) : -9223372036854775808 ≤ n ∧ n ≤ 9223372036854775807 := by
  simp only [Lit.wf, Bool.and_eq_true, decide_eq_true_eq] at h
  exact h

set_option maxRecDepth 100000 in
set_option maxHeartbeats 8000000 in
theorem ints_law (a b : Int) (w : World) (ha1 : -9223372036854775808 ≤ a) (ha2 : a ≤ 9223372036854775807) (hb1 : -9223372036854775808 ≤ b) (hb2 : b ≤ 9223372036854775807) (ht : Pow10 w) :
    Calls Tryz.prog 6 #[.int .i64 a, .int .i64 b] w fun e w' => e = .returned (.bool true) ∧ Below w.heap.size w w' := by
  have O1 : Hid (∀ W, Calls Tryz.prog 39 #[.int .i64 a] W (IOne W (isg a, idg a))) := fun W => ofI_any a W ha1 ha2
  have O2 : Hid (∀ W, Calls Tryz.prog 39 #[.int .i64 b] W (IOne W (isg b, idg b))) := fun W => ofI_any b W hb1 hb2
  have R1 : Hid (∀ W, Calls Tryz.prog 30 #[.int .i64 a] W (IOne W (isg a, idg a))) := fun W => rofI_any a W ha1 ha2
  have R2 : Hid (∀ W, Calls Tryz.prog 30 #[.int .i64 0] W (IOne W (isg 0, idg 0))) := fun W => rofI_any 0 W (by decide) (by decide)
  have HA := hide (int_lt ha1 ha2)
  have HB := hide (int_lt hb1 hb2)
  have H0 : Hid ((0 : Int).natAbs < LB ^ 64) := int_lt (by decide) (by decide)
  obtain ⟨k0, hk0⟩ : ∃ k0, cmpZ a 0 = k0 := ⟨_, rfl⟩
  have K0 := hide hk0
  have a1 := hide ha1
  have a2 := hide ha2
  have nn := fun z => jn_f 3 z
  clear hk0
  by_cases q1 : a ≤ 2147483648
  · have o1 := jg_f 3 q1
    by_cases q2 : -2147483648 ≤ a
    · have o2 := jl_f 3 q2
      by_cases q3 : b ≤ 2147483648
      · have o3 := jg_f 3 q3
        by_cases q4 : -2147483648 ≤ b
        · have o8 := jl_f 3 q4
          rcases Int.lt_trichotomy a b with hc | hc | hc
          · have t1 := jl_t 3 hc
            have t2 := jg_f 3 (show a ≤ b by omega)
            obtain ⟨sm, hsm⟩ : ∃ z, a + b = z := ⟨_, rfl⟩
            obtain ⟨df, hdf⟩ : ∃ z, a - b = z := ⟨_, rfl⟩
            obtain ⟨pr, hpr⟩ : ∃ z, a * b = z := ⟨_, rfl⟩
            obtain ⟨p1, p2⟩ := mul_room q2 q1 q4 q3
            rw [hpr] at p1 p2
            have o5 := ja 3 hsm (by omega) (by omega)
            have o6 := js 3 hdf (by omega) (by omega)
            have o7 := jm 3 hpr p1 p2
            have SM := hide hsm
            have DF := hide hdf
            have PR := hide hpr
            have m1 := hide (show -9223372036854775808 ≤ sm by omega)
            have m2 := hide (show sm ≤ 9223372036854775807 by omega)
            have f1 := hide (show -9223372036854775808 ≤ df by omega)
            have f2 := hide (show df ≤ 9223372036854775807 by omega)
            have p1 := hide p1
            have p2 := hide p2
            have HS := hide (int_lt m1.out m2.out)
            have HD := hide (int_lt f1.out f2.out)
            have HP := hide (int_lt p1.out p2.out)
            have ee := fun z => je_t 3 z
            have e0 : binOp .eql 24 (.int .i64 0) (.int .i64 0) = pure (.bool true) := rfl
            have o4 : IntKind.i64.wrap (-1) = -1 := rfl
            obtain ⟨kc, hkc⟩ : ∃ k, k = (-1 : Int) := ⟨_, rfl⟩
            have KC := hide (show cmpZ a b = -1 by unfold cmpZ; (repeat split) <;> omega)
            clear hc
            clear ha1 ha2 hb1 hb2 hsm hdf hpr q1 q2 q3 q4 hkc kc
            go_enter Tryz.func6, Tryz.ntmps6
            go_wp2_with (first
              | (go_at_call 39; (with_reducible refine (O1.out _).mono ?_); rintro e v1 ⟨A1, c1, rfl, s1, hb1⟩)
              | (go_at_call 39; (with_reducible refine (O2.out _).mono ?_); rintro e v2 ⟨B1, d1, rfl, t1, hb2⟩; have SX := hide (ki hb2 s1); have SY := hide t1; obtain ⟨X1, X2⟩ := ic3 (isg a) A1 (idg a).length c1 (isg b) B1 (idg b).length d1 v2; have X1 := hide X1; have X2 := hide X2; obtain ⟨y1, y2⟩ := X1.out; obtain ⟨y3, y4⟩ := X2.out; have B0 := hide (bl_trans hb1 hb2); have k : Below v2.heap.size v2 ((v2.alloc (.cells #[.bool (isg a), .slice A1 (idg a).length c1] 41)).alloc (.cells #[.bool (isg b), .slice B1 (idg b).length d1] 41)) := bl_al (bl_al (.refl _ _) _) _; clear s1 t1 hb1 hb2)
              | (go_at_call 28; (with_reducible refine (valueI_num A1 _ c1 a _ rfl (ki k SX.out) a1.out a2.out).mono ?_); rintro e v3 ⟨rfl, hb⟩; have g := hb; have X1 := hide (X1.out.next g); have X2 := hide (X2.out.next g); (try clear y1 y2 y3 y4); obtain ⟨y1, y2⟩ := X1.out; obtain ⟨y3, y4⟩ := X2.out; (try clear z1 z2); have z1 := X1.out.l3; have z2 := X2.out.l3; have k := bl_trans k g; clear hb g)
              | (go_at_call 37; (with_reducible refine (vI_num A1 _ c1 a _ rfl (ki k SX.out) a1.out a2.out).mono ?_); rintro e v4 ⟨rfl, hb⟩; have g := hb; have X1 := hide (X1.out.next g); have X2 := hide (X2.out.next g); (try clear y1 y2 y3 y4); obtain ⟨y1, y2⟩ := X1.out; obtain ⟨y3, y4⟩ := X2.out; (try clear z1 z2); have z1 := X1.out.l3; have z2 := X2.out.l3; have k := bl_trans k g; clear hb g)
              | (go_at_call 34; (with_reducible refine (signI_num A1 _ c1 a _ rfl (ki k SX.out) HA.out k0 K0.out).mono ?_); rintro e v5 ⟨rfl, hb⟩; have g := hb; have X1 := hide (X1.out.next g); have X2 := hide (X2.out.next g); (try clear y1 y2 y3 y4); obtain ⟨y1, y2⟩ := X1.out; obtain ⟨y3, y4⟩ := X2.out; (try clear z1 z2); have z1 := X1.out.l3; have z2 := X2.out.l3; have k := bl_trans k g; clear hb g)
              | (go_at_call 30; (with_reducible refine (R1.out _).mono ?_); rintro e v6 ⟨A6, c6, rfl, s6, hb⟩; have g := hb; have X1 := hide (X1.out.next g); have X2 := hide (X2.out.next g); (try clear y1 y2 y3 y4); obtain ⟨y1, y2⟩ := X1.out; obtain ⟨y3, y4⟩ := X2.out; (try clear z1 z2); have z1 := X1.out.l3; have z2 := X2.out.l3; have k := bl_trans k g; clear hb g)
              | (go_at_call 30; (with_reducible refine (R2.out _).mono ?_); rintro e v7 ⟨A7, c7, rfl, s7, hb⟩; have g := hb; have X1 := hide (X1.out.next g); have X2 := hide (X2.out.next g); (try clear y1 y2 y3 y4); obtain ⟨y1, y2⟩ := X1.out; obtain ⟨y3, y4⟩ := X2.out; (try clear z1 z2); have z1 := X1.out.l3; have z2 := X2.out.l3; have k := bl_trans k g; have s6 := ki g s6; clear hb g)
              | (go_at_call 33; (with_reducible refine (rcmpI_num A6 A7 _ _ c6 c7 a 0 _ rfl rfl s6 s7 HA.out H0.out k0 K0.out).mono ?_); rintro e v8 ⟨rfl, hb⟩; have g := hb; have X1 := hide (X1.out.next g); have X2 := hide (X2.out.next g); (try clear y1 y2 y3 y4); obtain ⟨y1, y2⟩ := X1.out; obtain ⟨y3, y4⟩ := X2.out; (try clear z1 z2); have z1 := X1.out.l3; have z2 := X2.out.l3; have k := bl_trans k g; clear s6 s7; clear hb g)
              | (go_at_call 22; (with_reducible refine (addI_z A1 B1 _ _ c1 d1 a b sm _ rfl rfl (ki k SX.out) (ki k SY.out) HA.out HB.out SM.out HS.out).mono ?_); rintro e v9 ⟨A9, c9, rfl, s9, hb⟩; have g := hb; have X1 := hide (X1.out.next g); have X2 := hide (X2.out.next g); (try clear y1 y2 y3 y4); obtain ⟨y1, y2⟩ := X1.out; obtain ⟨y3, y4⟩ := X2.out; (try clear z1 z2); have z1 := X1.out.l3; have z2 := X2.out.l3; have k := bl_trans k g; clear hb g)
              | (go_at_call 24; (with_reducible refine (subI_z A1 B1 _ _ c1 d1 a b df _ rfl rfl (ki (bl_al k _) SX.out) (ki (bl_al k _) SY.out) HA.out HB.out DF.out HD.out).mono ?_); rintro e v10 ⟨A10, c10, rfl, s10, hb⟩; have g := bl_one hb; have Y1 := hide ((Ic.new _ A9 _ c9 v9).next hb); have X1 := hide (X1.out.next g); have X2 := hide (X2.out.next g); (try clear y1 y2 y3 y4); obtain ⟨y1, y2⟩ := X1.out; obtain ⟨y3, y4⟩ := X2.out; (try clear z1 z2); have z1 := X1.out.l3; have z2 := X2.out.l3; have k := bl_trans k g; obtain ⟨y5, y6⟩ := Y1.out; have z3 := Y1.out.l3; have s9 := ki g s9; clear hb g)
              | (go_at_call 26; (with_reducible refine (mulI_z A1 B1 _ _ c1 d1 a b pr _ rfl rfl (ki (bl_al k _) SX.out) (ki (bl_al k _) SY.out) HA.out HB.out PR.out HP.out).mono ?_); rintro e v11 ⟨A11, c11, rfl, s11, hb⟩; have g := bl_one hb; have Y1 := hide (Y1.out.next g); have Y2 := hide ((Ic.new _ A10 _ c10 v10).next hb); have X1 := hide (X1.out.next g); have X2 := hide (X2.out.next g); (try clear y1 y2 y3 y4); obtain ⟨y1, y2⟩ := X1.out; obtain ⟨y3, y4⟩ := X2.out; (try clear z1 z2); have z1 := X1.out.l3; have z2 := X2.out.l3; have k := bl_trans k g; (try clear y5 y6); (try clear z3); (try clear y7 y8); (try clear z4); obtain ⟨y5, y6⟩ := Y1.out; have z3 := Y1.out.l3; obtain ⟨y7, y8⟩ := Y2.out; have z4 := Y2.out.l3; have s9 := ki g s9; have s10 := ki g s10; clear hb g)
              | (go_at_call 28; (with_reducible refine (valueI_num A9 _ c9 sm _ rfl (s9.alloc _) m1.out m2.out).mono ?_); rintro e v12 ⟨rfl, hb⟩; have g := bl_one hb; have Y1 := hide (Y1.out.next g); have Y2 := hide (Y2.out.next g); have Y3 := hide ((Ic.new _ A11 _ c11 v11).next hb); have X1 := hide (X1.out.next g); have X2 := hide (X2.out.next g); (try clear y1 y2 y3 y4); obtain ⟨y1, y2⟩ := X1.out; obtain ⟨y3, y4⟩ := X2.out; (try clear z1 z2); have z1 := X1.out.l3; have z2 := X2.out.l3; have k := bl_trans k g; (try clear y5 y6); (try clear z3); (try clear y7 y8); (try clear z4); (try clear y9 y10); (try clear z5); obtain ⟨y5, y6⟩ := Y1.out; have z3 := Y1.out.l3; obtain ⟨y7, y8⟩ := Y2.out; have z4 := Y2.out.l3; obtain ⟨y9, y10⟩ := Y3.out; have z5 := Y3.out.l3; have s10 := ki g s10; have s11 := ki g s11; clear s9; clear hb g)
              | (go_at_call 28; (with_reducible refine (valueI_num A10 _ c10 df _ rfl s10 f1.out f2.out).mono ?_); rintro e v13 ⟨rfl, hb⟩; have g := hb; have Y1 := hide (Y1.out.next g); have Y2 := hide (Y2.out.next g); have Y3 := hide (Y3.out.next g); have X1 := hide (X1.out.next g); have X2 := hide (X2.out.next g); (try clear y1 y2 y3 y4); obtain ⟨y1, y2⟩ := X1.out; obtain ⟨y3, y4⟩ := X2.out; (try clear z1 z2); have z1 := X1.out.l3; have z2 := X2.out.l3; have k := bl_trans k g; (try clear y5 y6); (try clear z3); (try clear y7 y8); (try clear z4); (try clear y9 y10); (try clear z5); obtain ⟨y5, y6⟩ := Y1.out; have z3 := Y1.out.l3; obtain ⟨y7, y8⟩ := Y2.out; have z4 := Y2.out.l3; obtain ⟨y9, y10⟩ := Y3.out; have z5 := Y3.out.l3; have s11 := ki g s11; clear s10; clear hb g)
              | (go_at_call 28; (with_reducible refine (valueI_num A11 _ c11 pr _ rfl s11 p1.out p2.out).mono ?_); rintro e v14 ⟨rfl, hb⟩; have g := hb; have Y1 := hide (Y1.out.next g); have Y2 := hide (Y2.out.next g); have Y3 := hide (Y3.out.next g); have X1 := hide (X1.out.next g); have X2 := hide (X2.out.next g); (try clear y1 y2 y3 y4); obtain ⟨y1, y2⟩ := X1.out; obtain ⟨y3, y4⟩ := X2.out; (try clear z1 z2); have z1 := X1.out.l3; have z2 := X2.out.l3; have k := bl_trans k g; (try clear y5 y6); (try clear z3); (try clear y7 y8); (try clear z4); (try clear y9 y10); (try clear z5); obtain ⟨y5, y6⟩ := Y1.out; have z3 := Y1.out.l3; obtain ⟨y7, y8⟩ := Y2.out; have z4 := Y2.out.l3; obtain ⟨y9, y10⟩ := Y3.out; have z5 := Y3.out.l3; clear s11; clear hb g)
              | (go_at_call 32; (with_reducible refine (cmpI_num A1 B1 _ _ c1 d1 a b _ rfl rfl (ki k SX.out) (ki k SY.out) HA.out HB.out (-1) KC.out).mono ?_); rintro e v15 ⟨rfl, hb⟩; have k := bl_trans k hb; clear hb)
              | (go_at_call 21; (with_reducible refine (awake2_any _ (pow_below ht (bl_trans B0.out k))).mono ?_); rintro e u1 ⟨rfl, hb⟩; have k := bl_trans k hb; clear hb))
            go_ret
            exact ⟨rfl, bl_trans B0.out k⟩
          · have t1 := jl_f 3 (show b ≤ a by omega)
            have t2 := jg_f 3 (show a ≤ b by omega)
            obtain ⟨sm, hsm⟩ : ∃ z, a + b = z := ⟨_, rfl⟩
            obtain ⟨df, hdf⟩ : ∃ z, a - b = z := ⟨_, rfl⟩
            obtain ⟨pr, hpr⟩ : ∃ z, a * b = z := ⟨_, rfl⟩
            obtain ⟨p1, p2⟩ := mul_room q2 q1 q4 q3
            rw [hpr] at p1 p2
            have o5 := ja 3 hsm (by omega) (by omega)
            have o6 := js 3 hdf (by omega) (by omega)
            have o7 := jm 3 hpr p1 p2
            have SM := hide hsm
            have DF := hide hdf
            have PR := hide hpr
            have m1 := hide (show -9223372036854775808 ≤ sm by omega)
            have m2 := hide (show sm ≤ 9223372036854775807 by omega)
            have f1 := hide (show -9223372036854775808 ≤ df by omega)
            have f2 := hide (show df ≤ 9223372036854775807 by omega)
            have p1 := hide p1
            have p2 := hide p2
            have HS := hide (int_lt m1.out m2.out)
            have HD := hide (int_lt f1.out f2.out)
            have HP := hide (int_lt p1.out p2.out)
            have ee := fun z => je_t 3 z
            have e0 : binOp .eql 24 (.int .i64 0) (.int .i64 0) = pure (.bool true) := rfl
            have o4 : IntKind.i64.wrap (-1) = -1 := rfl
            obtain ⟨kc, hkc⟩ : ∃ k, k = (0 : Int) := ⟨_, rfl⟩
            have KC := hide (show cmpZ a b = 0 by unfold cmpZ; (repeat split) <;> omega)
            clear hc
            clear ha1 ha2 hb1 hb2 hsm hdf hpr q1 q2 q3 q4 hkc kc
            go_enter Tryz.func6, Tryz.ntmps6
            go_wp2_with (first
              | (go_at_call 39; (with_reducible refine (O1.out _).mono ?_); rintro e v1 ⟨A1, c1, rfl, s1, hb1⟩)
              | (go_at_call 39; (with_reducible refine (O2.out _).mono ?_); rintro e v2 ⟨B1, d1, rfl, t1, hb2⟩; have SX := hide (ki hb2 s1); have SY := hide t1; obtain ⟨X1, X2⟩ := ic3 (isg a) A1 (idg a).length c1 (isg b) B1 (idg b).length d1 v2; have X1 := hide X1; have X2 := hide X2; obtain ⟨y1, y2⟩ := X1.out; obtain ⟨y3, y4⟩ := X2.out; have B0 := hide (bl_trans hb1 hb2); have k : Below v2.heap.size v2 ((v2.alloc (.cells #[.bool (isg a), .slice A1 (idg a).length c1] 41)).alloc (.cells #[.bool (isg b), .slice B1 (idg b).length d1] 41)) := bl_al (bl_al (.refl _ _) _) _; clear s1 t1 hb1 hb2)
              | (go_at_call 28; (with_reducible refine (valueI_num A1 _ c1 a _ rfl (ki k SX.out) a1.out a2.out).mono ?_); rintro e v3 ⟨rfl, hb⟩; have g := hb; have X1 := hide (X1.out.next g); have X2 := hide (X2.out.next g); (try clear y1 y2 y3 y4); obtain ⟨y1, y2⟩ := X1.out; obtain ⟨y3, y4⟩ := X2.out; (try clear z1 z2); have z1 := X1.out.l3; have z2 := X2.out.l3; have k := bl_trans k g; clear hb g)
              | (go_at_call 37; (with_reducible refine (vI_num A1 _ c1 a _ rfl (ki k SX.out) a1.out a2.out).mono ?_); rintro e v4 ⟨rfl, hb⟩; have g := hb; have X1 := hide (X1.out.next g); have X2 := hide (X2.out.next g); (try clear y1 y2 y3 y4); obtain ⟨y1, y2⟩ := X1.out; obtain ⟨y3, y4⟩ := X2.out; (try clear z1 z2); have z1 := X1.out.l3; have z2 := X2.out.l3; have k := bl_trans k g; clear hb g)
              | (go_at_call 34; (with_reducible refine (signI_num A1 _ c1 a _ rfl (ki k SX.out) HA.out k0 K0.out).mono ?_); rintro e v5 ⟨rfl, hb⟩; have g := hb; have X1 := hide (X1.out.next g); have X2 := hide (X2.out.next g); (try clear y1 y2 y3 y4); obtain ⟨y1, y2⟩ := X1.out; obtain ⟨y3, y4⟩ := X2.out; (try clear z1 z2); have z1 := X1.out.l3; have z2 := X2.out.l3; have k := bl_trans k g; clear hb g)
              | (go_at_call 30; (with_reducible refine (R1.out _).mono ?_); rintro e v6 ⟨A6, c6, rfl, s6, hb⟩; have g := hb; have X1 := hide (X1.out.next g); have X2 := hide (X2.out.next g); (try clear y1 y2 y3 y4); obtain ⟨y1, y2⟩ := X1.out; obtain ⟨y3, y4⟩ := X2.out; (try clear z1 z2); have z1 := X1.out.l3; have z2 := X2.out.l3; have k := bl_trans k g; clear hb g)
              | (go_at_call 30; (with_reducible refine (R2.out _).mono ?_); rintro e v7 ⟨A7, c7, rfl, s7, hb⟩; have g := hb; have X1 := hide (X1.out.next g); have X2 := hide (X2.out.next g); (try clear y1 y2 y3 y4); obtain ⟨y1, y2⟩ := X1.out; obtain ⟨y3, y4⟩ := X2.out; (try clear z1 z2); have z1 := X1.out.l3; have z2 := X2.out.l3; have k := bl_trans k g; have s6 := ki g s6; clear hb g)
              | (go_at_call 33; (with_reducible refine (rcmpI_num A6 A7 _ _ c6 c7 a 0 _ rfl rfl s6 s7 HA.out H0.out k0 K0.out).mono ?_); rintro e v8 ⟨rfl, hb⟩; have g := hb; have X1 := hide (X1.out.next g); have X2 := hide (X2.out.next g); (try clear y1 y2 y3 y4); obtain ⟨y1, y2⟩ := X1.out; obtain ⟨y3, y4⟩ := X2.out; (try clear z1 z2); have z1 := X1.out.l3; have z2 := X2.out.l3; have k := bl_trans k g; clear s6 s7; clear hb g)
              | (go_at_call 22; (with_reducible refine (addI_z A1 B1 _ _ c1 d1 a b sm _ rfl rfl (ki k SX.out) (ki k SY.out) HA.out HB.out SM.out HS.out).mono ?_); rintro e v9 ⟨A9, c9, rfl, s9, hb⟩; have g := hb; have X1 := hide (X1.out.next g); have X2 := hide (X2.out.next g); (try clear y1 y2 y3 y4); obtain ⟨y1, y2⟩ := X1.out; obtain ⟨y3, y4⟩ := X2.out; (try clear z1 z2); have z1 := X1.out.l3; have z2 := X2.out.l3; have k := bl_trans k g; clear hb g)
              | (go_at_call 24; (with_reducible refine (subI_z A1 B1 _ _ c1 d1 a b df _ rfl rfl (ki (bl_al k _) SX.out) (ki (bl_al k _) SY.out) HA.out HB.out DF.out HD.out).mono ?_); rintro e v10 ⟨A10, c10, rfl, s10, hb⟩; have g := bl_one hb; have Y1 := hide ((Ic.new _ A9 _ c9 v9).next hb); have X1 := hide (X1.out.next g); have X2 := hide (X2.out.next g); (try clear y1 y2 y3 y4); obtain ⟨y1, y2⟩ := X1.out; obtain ⟨y3, y4⟩ := X2.out; (try clear z1 z2); have z1 := X1.out.l3; have z2 := X2.out.l3; have k := bl_trans k g; obtain ⟨y5, y6⟩ := Y1.out; have z3 := Y1.out.l3; have s9 := ki g s9; clear hb g)
              | (go_at_call 26; (with_reducible refine (mulI_z A1 B1 _ _ c1 d1 a b pr _ rfl rfl (ki (bl_al k _) SX.out) (ki (bl_al k _) SY.out) HA.out HB.out PR.out HP.out).mono ?_); rintro e v11 ⟨A11, c11, rfl, s11, hb⟩; have g := bl_one hb; have Y1 := hide (Y1.out.next g); have Y2 := hide ((Ic.new _ A10 _ c10 v10).next hb); have X1 := hide (X1.out.next g); have X2 := hide (X2.out.next g); (try clear y1 y2 y3 y4); obtain ⟨y1, y2⟩ := X1.out; obtain ⟨y3, y4⟩ := X2.out; (try clear z1 z2); have z1 := X1.out.l3; have z2 := X2.out.l3; have k := bl_trans k g; (try clear y5 y6); (try clear z3); (try clear y7 y8); (try clear z4); obtain ⟨y5, y6⟩ := Y1.out; have z3 := Y1.out.l3; obtain ⟨y7, y8⟩ := Y2.out; have z4 := Y2.out.l3; have s9 := ki g s9; have s10 := ki g s10; clear hb g)
              | (go_at_call 28; (with_reducible refine (valueI_num A9 _ c9 sm _ rfl (s9.alloc _) m1.out m2.out).mono ?_); rintro e v12 ⟨rfl, hb⟩; have g := bl_one hb; have Y1 := hide (Y1.out.next g); have Y2 := hide (Y2.out.next g); have Y3 := hide ((Ic.new _ A11 _ c11 v11).next hb); have X1 := hide (X1.out.next g); have X2 := hide (X2.out.next g); (try clear y1 y2 y3 y4); obtain ⟨y1, y2⟩ := X1.out; obtain ⟨y3, y4⟩ := X2.out; (try clear z1 z2); have z1 := X1.out.l3; have z2 := X2.out.l3; have k := bl_trans k g; (try clear y5 y6); (try clear z3); (try clear y7 y8); (try clear z4); (try clear y9 y10); (try clear z5); obtain ⟨y5, y6⟩ := Y1.out; have z3 := Y1.out.l3; obtain ⟨y7, y8⟩ := Y2.out; have z4 := Y2.out.l3; obtain ⟨y9, y10⟩ := Y3.out; have z5 := Y3.out.l3; have s10 := ki g s10; have s11 := ki g s11; clear s9; clear hb g)
              | (go_at_call 28; (with_reducible refine (valueI_num A10 _ c10 df _ rfl s10 f1.out f2.out).mono ?_); rintro e v13 ⟨rfl, hb⟩; have g := hb; have Y1 := hide (Y1.out.next g); have Y2 := hide (Y2.out.next g); have Y3 := hide (Y3.out.next g); have X1 := hide (X1.out.next g); have X2 := hide (X2.out.next g); (try clear y1 y2 y3 y4); obtain ⟨y1, y2⟩ := X1.out; obtain ⟨y3, y4⟩ := X2.out; (try clear z1 z2); have z1 := X1.out.l3; have z2 := X2.out.l3; have k := bl_trans k g; (try clear y5 y6); (try clear z3); (try clear y7 y8); (try clear z4); (try clear y9 y10); (try clear z5); obtain ⟨y5, y6⟩ := Y1.out; have z3 := Y1.out.l3; obtain ⟨y7, y8⟩ := Y2.out; have z4 := Y2.out.l3; obtain ⟨y9, y10⟩ := Y3.out; have z5 := Y3.out.l3; have s11 := ki g s11; clear s10; clear hb g)
              | (go_at_call 28; (with_reducible refine (valueI_num A11 _ c11 pr _ rfl s11 p1.out p2.out).mono ?_); rintro e v14 ⟨rfl, hb⟩; have g := hb; have Y1 := hide (Y1.out.next g); have Y2 := hide (Y2.out.next g); have Y3 := hide (Y3.out.next g); have X1 := hide (X1.out.next g); have X2 := hide (X2.out.next g); (try clear y1 y2 y3 y4); obtain ⟨y1, y2⟩ := X1.out; obtain ⟨y3, y4⟩ := X2.out; (try clear z1 z2); have z1 := X1.out.l3; have z2 := X2.out.l3; have k := bl_trans k g; (try clear y5 y6); (try clear z3); (try clear y7 y8); (try clear z4); (try clear y9 y10); (try clear z5); obtain ⟨y5, y6⟩ := Y1.out; have z3 := Y1.out.l3; obtain ⟨y7, y8⟩ := Y2.out; have z4 := Y2.out.l3; obtain ⟨y9, y10⟩ := Y3.out; have z5 := Y3.out.l3; clear s11; clear hb g)
              | (go_at_call 32; (with_reducible refine (cmpI_num A1 B1 _ _ c1 d1 a b _ rfl rfl (ki k SX.out) (ki k SY.out) HA.out HB.out (0) KC.out).mono ?_); rintro e v15 ⟨rfl, hb⟩; have k := bl_trans k hb; clear hb)
              | (go_at_call 21; (with_reducible refine (awake2_any _ (pow_below ht (bl_trans B0.out k))).mono ?_); rintro e u1 ⟨rfl, hb⟩; have k := bl_trans k hb; clear hb))
            go_ret
            exact ⟨rfl, bl_trans B0.out k⟩
          · have t1 := jl_f 3 (show b ≤ a by omega)
            have t2 := jg_t 3 hc
            obtain ⟨sm, hsm⟩ : ∃ z, a + b = z := ⟨_, rfl⟩
            obtain ⟨df, hdf⟩ : ∃ z, a - b = z := ⟨_, rfl⟩
            obtain ⟨pr, hpr⟩ : ∃ z, a * b = z := ⟨_, rfl⟩
            obtain ⟨p1, p2⟩ := mul_room q2 q1 q4 q3
            rw [hpr] at p1 p2
            have o5 := ja 3 hsm (by omega) (by omega)
            have o6 := js 3 hdf (by omega) (by omega)
            have o7 := jm 3 hpr p1 p2
            have SM := hide hsm
            have DF := hide hdf
            have PR := hide hpr
            have m1 := hide (show -9223372036854775808 ≤ sm by omega)
            have m2 := hide (show sm ≤ 9223372036854775807 by omega)
            have f1 := hide (show -9223372036854775808 ≤ df by omega)
            have f2 := hide (show df ≤ 9223372036854775807 by omega)
            have p1 := hide p1
            have p2 := hide p2
            have HS := hide (int_lt m1.out m2.out)
            have HD := hide (int_lt f1.out f2.out)
            have HP := hide (int_lt p1.out p2.out)
            have ee := fun z => je_t 3 z
            have e0 : binOp .eql 24 (.int .i64 0) (.int .i64 0) = pure (.bool true) := rfl
            have o4 : IntKind.i64.wrap (-1) = -1 := rfl
            obtain ⟨kc, hkc⟩ : ∃ k, k = (1 : Int) := ⟨_, rfl⟩
            have KC := hide (show cmpZ a b = 1 by unfold cmpZ; (repeat split) <;> omega)
            clear hc
            clear ha1 ha2 hb1 hb2 hsm hdf hpr q1 q2 q3 q4 hkc kc
            go_enter Tryz.func6, Tryz.ntmps6
            go_wp2_with (first
              | (go_at_call 39; (with_reducible refine (O1.out _).mono ?_); rintro e v1 ⟨A1, c1, rfl, s1, hb1⟩)
              | (go_at_call 39; (with_reducible refine (O2.out _).mono ?_); rintro e v2 ⟨B1, d1, rfl, t1, hb2⟩; have SX := hide (ki hb2 s1); have SY := hide t1; obtain ⟨X1, X2⟩ := ic3 (isg a) A1 (idg a).length c1 (isg b) B1 (idg b).length d1 v2; have X1 := hide X1; have X2 := hide X2; obtain ⟨y1, y2⟩ := X1.out; obtain ⟨y3, y4⟩ := X2.out; have B0 := hide (bl_trans hb1 hb2); have k : Below v2.heap.size v2 ((v2.alloc (.cells #[.bool (isg a), .slice A1 (idg a).length c1] 41)).alloc (.cells #[.bool (isg b), .slice B1 (idg b).length d1] 41)) := bl_al (bl_al (.refl _ _) _) _; clear s1 t1 hb1 hb2)
              | (go_at_call 28; (with_reducible refine (valueI_num A1 _ c1 a _ rfl (ki k SX.out) a1.out a2.out).mono ?_); rintro e v3 ⟨rfl, hb⟩; have g := hb; have X1 := hide (X1.out.next g); have X2 := hide (X2.out.next g); (try clear y1 y2 y3 y4); obtain ⟨y1, y2⟩ := X1.out; obtain ⟨y3, y4⟩ := X2.out; (try clear z1 z2); have z1 := X1.out.l3; have z2 := X2.out.l3; have k := bl_trans k g; clear hb g)
              | (go_at_call 37; (with_reducible refine (vI_num A1 _ c1 a _ rfl (ki k SX.out) a1.out a2.out).mono ?_); rintro e v4 ⟨rfl, hb⟩; have g := hb; have X1 := hide (X1.out.next g); have X2 := hide (X2.out.next g); (try clear y1 y2 y3 y4); obtain ⟨y1, y2⟩ := X1.out; obtain ⟨y3, y4⟩ := X2.out; (try clear z1 z2); have z1 := X1.out.l3; have z2 := X2.out.l3; have k := bl_trans k g; clear hb g)
              | (go_at_call 34; (with_reducible refine (signI_num A1 _ c1 a _ rfl (ki k SX.out) HA.out k0 K0.out).mono ?_); rintro e v5 ⟨rfl, hb⟩; have g := hb; have X1 := hide (X1.out.next g); have X2 := hide (X2.out.next g); (try clear y1 y2 y3 y4); obtain ⟨y1, y2⟩ := X1.out; obtain ⟨y3, y4⟩ := X2.out; (try clear z1 z2); have z1 := X1.out.l3; have z2 := X2.out.l3; have k := bl_trans k g; clear hb g)
              | (go_at_call 30; (with_reducible refine (R1.out _).mono ?_); rintro e v6 ⟨A6, c6, rfl, s6, hb⟩; have g := hb; have X1 := hide (X1.out.next g); have X2 := hide (X2.out.next g); (try clear y1 y2 y3 y4); obtain ⟨y1, y2⟩ := X1.out; obtain ⟨y3, y4⟩ := X2.out; (try clear z1 z2); have z1 := X1.out.l3; have z2 := X2.out.l3; have k := bl_trans k g; clear hb g)
              | (go_at_call 30; (with_reducible refine (R2.out _).mono ?_); rintro e v7 ⟨A7, c7, rfl, s7, hb⟩; have g := hb; have X1 := hide (X1.out.next g); have X2 := hide (X2.out.next g); (try clear y1 y2 y3 y4); obtain ⟨y1, y2⟩ := X1.out; obtain ⟨y3, y4⟩ := X2.out; (try clear z1 z2); have z1 := X1.out.l3; have z2 := X2.out.l3; have k := bl_trans k g; have s6 := ki g s6; clear hb g)
              | (go_at_call 33; (with_reducible refine (rcmpI_num A6 A7 _ _ c6 c7 a 0 _ rfl rfl s6 s7 HA.out H0.out k0 K0.out).mono ?_); rintro e v8 ⟨rfl, hb⟩; have g := hb; have X1 := hide (X1.out.next g); have X2 := hide (X2.out.next g); (try clear y1 y2 y3 y4); obtain ⟨y1, y2⟩ := X1.out; obtain ⟨y3, y4⟩ := X2.out; (try clear z1 z2); have z1 := X1.out.l3; have z2 := X2.out.l3; have k := bl_trans k g; clear s6 s7; clear hb g)
              | (go_at_call 22; (with_reducible refine (addI_z A1 B1 _ _ c1 d1 a b sm _ rfl rfl (ki k SX.out) (ki k SY.out) HA.out HB.out SM.out HS.out).mono ?_); rintro e v9 ⟨A9, c9, rfl, s9, hb⟩; have g := hb; have X1 := hide (X1.out.next g); have X2 := hide (X2.out.next g); (try clear y1 y2 y3 y4); obtain ⟨y1, y2⟩ := X1.out; obtain ⟨y3, y4⟩ := X2.out; (try clear z1 z2); have z1 := X1.out.l3; have z2 := X2.out.l3; have k := bl_trans k g; clear hb g)
              | (go_at_call 24; (with_reducible refine (subI_z A1 B1 _ _ c1 d1 a b df _ rfl rfl (ki (bl_al k _) SX.out) (ki (bl_al k _) SY.out) HA.out HB.out DF.out HD.out).mono ?_); rintro e v10 ⟨A10, c10, rfl, s10, hb⟩; have g := bl_one hb; have Y1 := hide ((Ic.new _ A9 _ c9 v9).next hb); have X1 := hide (X1.out.next g); have X2 := hide (X2.out.next g); (try clear y1 y2 y3 y4); obtain ⟨y1, y2⟩ := X1.out; obtain ⟨y3, y4⟩ := X2.out; (try clear z1 z2); have z1 := X1.out.l3; have z2 := X2.out.l3; have k := bl_trans k g; obtain ⟨y5, y6⟩ := Y1.out; have z3 := Y1.out.l3; have s9 := ki g s9; clear hb g)
              | (go_at_call 26; (with_reducible refine (mulI_z A1 B1 _ _ c1 d1 a b pr _ rfl rfl (ki (bl_al k _) SX.out) (ki (bl_al k _) SY.out) HA.out HB.out PR.out HP.out).mono ?_); rintro e v11 ⟨A11, c11, rfl, s11, hb⟩; have g := bl_one hb; have Y1 := hide (Y1.out.next g); have Y2 := hide ((Ic.new _ A10 _ c10 v10).next hb); have X1 := hide (X1.out.next g); have X2 := hide (X2.out.next g); (try clear y1 y2 y3 y4); obtain ⟨y1, y2⟩ := X1.out; obtain ⟨y3, y4⟩ := X2.out; (try clear z1 z2); have z1 := X1.out.l3; have z2 := X2.out.l3; have k := bl_trans k g; (try clear y5 y6); (try clear z3); (try clear y7 y8); (try clear z4); obtain ⟨y5, y6⟩ := Y1.out; have z3 := Y1.out.l3; obtain ⟨y7, y8⟩ := Y2.out; have z4 := Y2.out.l3; have s9 := ki g s9; have s10 := ki g s10; clear hb g)
              | (go_at_call 28; (with_reducible refine (valueI_num A9 _ c9 sm _ rfl (s9.alloc _) m1.out m2.out).mono ?_); rintro e v12 ⟨rfl, hb⟩; have g := bl_one hb; have Y1 := hide (Y1.out.next g); have Y2 := hide (Y2.out.next g); have Y3 := hide ((Ic.new _ A11 _ c11 v11).next hb); have X1 := hide (X1.out.next g); have X2 := hide (X2.out.next g); (try clear y1 y2 y3 y4); obtain ⟨y1, y2⟩ := X1.out; obtain ⟨y3, y4⟩ := X2.out; (try clear z1 z2); have z1 := X1.out.l3; have z2 := X2.out.l3; have k := bl_trans k g; (try clear y5 y6); (try clear z3); (try clear y7 y8); (try clear z4); (try clear y9 y10); (try clear z5); obtain ⟨y5, y6⟩ := Y1.out; have z3 := Y1.out.l3; obtain ⟨y7, y8⟩ := Y2.out; have z4 := Y2.out.l3; obtain ⟨y9, y10⟩ := Y3.out; have z5 := Y3.out.l3; have s10 := ki g s10; have s11 := ki g s11; clear s9; clear hb g)
              | (go_at_call 28; (with_reducible refine (valueI_num A10 _ c10 df _ rfl s10 f1.out f2.out).mono ?_); rintro e v13 ⟨rfl, hb⟩; have g := hb; have Y1 := hide (Y1.out.next g); have Y2 := hide (Y2.out.next g); have Y3 := hide (Y3.out.next g); have X1 := hide (X1.out.next g); have X2 := hide (X2.out.next g); (try clear y1 y2 y3 y4); obtain ⟨y1, y2⟩ := X1.out; obtain ⟨y3, y4⟩ := X2.out; (try clear z1 z2); have z1 := X1.out.l3; have z2 := X2.out.l3; have k := bl_trans k g; (try clear y5 y6); (try clear z3); (try clear y7 y8); (try clear z4); (try clear y9 y10); (try clear z5); obtain ⟨y5, y6⟩ := Y1.out; have z3 := Y1.out.l3; obtain ⟨y7, y8⟩ := Y2.out; have z4 := Y2.out.l3; obtain ⟨y9, y10⟩ := Y3.out; have z5 := Y3.out.l3; have s11 := ki g s11; clear s10; clear hb g)
              | (go_at_call 28; (with_reducible refine (valueI_num A11 _ c11 pr _ rfl s11 p1.out p2.out).mono ?_); rintro e v14 ⟨rfl, hb⟩; have g := hb; have Y1 := hide (Y1.out.next g); have Y2 := hide (Y2.out.next g); have Y3 := hide (Y3.out.next g); have X1 := hide (X1.out.next g); have X2 := hide (X2.out.next g); (try clear y1 y2 y3 y4); obtain ⟨y1, y2⟩ := X1.out; obtain ⟨y3, y4⟩ := X2.out; (try clear z1 z2); have z1 := X1.out.l3; have z2 := X2.out.l3; have k := bl_trans k g; (try clear y5 y6); (try clear z3); (try clear y7 y8); (try clear z4); (try clear y9 y10); (try clear z5); obtain ⟨y5, y6⟩ := Y1.out; have z3 := Y1.out.l3; obtain ⟨y7, y8⟩ := Y2.out; have z4 := Y2.out.l3; obtain ⟨y9, y10⟩ := Y3.out; have z5 := Y3.out.l3; clear s11; clear hb g)
              | (go_at_call 32; (with_reducible refine (cmpI_num A1 B1 _ _ c1 d1 a b _ rfl rfl (ki k SX.out) (ki k SY.out) HA.out HB.out (1) KC.out).mono ?_); rintro e v15 ⟨rfl, hb⟩; have k := bl_trans k hb; clear hb)
              | (go_at_call 21; (with_reducible refine (awake2_any _ (pow_below ht (bl_trans B0.out k))).mono ?_); rintro e u1 ⟨rfl, hb⟩; have k := bl_trans k hb; clear hb))
            go_ret
            exact ⟨rfl, bl_trans B0.out k⟩
        · have o9 := jl_t 3 (show b < -2147483648 by omega)
          clear q1 q2 q3 q4 ha1 ha2 hb1 hb2
          go_enter Tryz.func6, Tryz.ntmps6
          go_wp2_with (first
            | (go_at_call 39; (with_reducible refine (O1.out _).mono ?_); rintro e v1 ⟨A1, c1, rfl, s1, hb1⟩)
            | (go_at_call 39; (with_reducible refine (O2.out _).mono ?_); rintro e v2 ⟨B1, d1, rfl, t1, hb2⟩; have SX := hide (ki hb2 s1); have SY := hide t1; obtain ⟨X1, X2⟩ := ic3 (isg a) A1 (idg a).length c1 (isg b) B1 (idg b).length d1 v2; have X1 := hide X1; have X2 := hide X2; obtain ⟨y1, y2⟩ := X1.out; obtain ⟨y3, y4⟩ := X2.out; have B0 := hide (bl_trans hb1 hb2); have k : Below v2.heap.size v2 ((v2.alloc (.cells #[.bool (isg a), .slice A1 (idg a).length c1] 41)).alloc (.cells #[.bool (isg b), .slice B1 (idg b).length d1] 41)) := bl_al (bl_al (.refl _ _) _) _; clear s1 t1 hb1 hb2)
            | (go_at_call 28; (with_reducible refine (valueI_num A1 _ c1 a _ rfl (ki k SX.out) a1.out a2.out).mono ?_); rintro e v3 ⟨rfl, hb⟩; have g := hb; have X1 := hide (X1.out.next g); have X2 := hide (X2.out.next g); (try clear y1 y2 y3 y4); obtain ⟨y1, y2⟩ := X1.out; obtain ⟨y3, y4⟩ := X2.out; (try clear z1 z2); have z1 := X1.out.l3; have z2 := X2.out.l3; have k := bl_trans k g; clear hb g)
            | (go_at_call 37; (with_reducible refine (vI_num A1 _ c1 a _ rfl (ki k SX.out) a1.out a2.out).mono ?_); rintro e v4 ⟨rfl, hb⟩; have g := hb; have X1 := hide (X1.out.next g); have X2 := hide (X2.out.next g); (try clear y1 y2 y3 y4); obtain ⟨y1, y2⟩ := X1.out; obtain ⟨y3, y4⟩ := X2.out; (try clear z1 z2); have z1 := X1.out.l3; have z2 := X2.out.l3; have k := bl_trans k g; clear hb g)
            | (go_at_call 34; (with_reducible refine (signI_num A1 _ c1 a _ rfl (ki k SX.out) HA.out k0 K0.out).mono ?_); rintro e v5 ⟨rfl, hb⟩; have g := hb; have X1 := hide (X1.out.next g); have X2 := hide (X2.out.next g); (try clear y1 y2 y3 y4); obtain ⟨y1, y2⟩ := X1.out; obtain ⟨y3, y4⟩ := X2.out; (try clear z1 z2); have z1 := X1.out.l3; have z2 := X2.out.l3; have k := bl_trans k g; clear hb g)
            | (go_at_call 30; (with_reducible refine (R1.out _).mono ?_); rintro e v6 ⟨A6, c6, rfl, s6, hb⟩; have g := hb; have X1 := hide (X1.out.next g); have X2 := hide (X2.out.next g); (try clear y1 y2 y3 y4); obtain ⟨y1, y2⟩ := X1.out; obtain ⟨y3, y4⟩ := X2.out; (try clear z1 z2); have z1 := X1.out.l3; have z2 := X2.out.l3; have k := bl_trans k g; clear hb g)
            | (go_at_call 30; (with_reducible refine (R2.out _).mono ?_); rintro e v7 ⟨A7, c7, rfl, s7, hb⟩; have g := hb; have X1 := hide (X1.out.next g); have X2 := hide (X2.out.next g); (try clear y1 y2 y3 y4); obtain ⟨y1, y2⟩ := X1.out; obtain ⟨y3, y4⟩ := X2.out; (try clear z1 z2); have z1 := X1.out.l3; have z2 := X2.out.l3; have k := bl_trans k g; have s6 := ki g s6; clear hb g)
            | (go_at_call 33; (with_reducible refine (rcmpI_num A6 A7 _ _ c6 c7 a 0 _ rfl rfl s6 s7 HA.out H0.out k0 K0.out).mono ?_); rintro e v8 ⟨rfl, hb⟩; have g := hb; have X1 := hide (X1.out.next g); have X2 := hide (X2.out.next g); (try clear y1 y2 y3 y4); obtain ⟨y1, y2⟩ := X1.out; obtain ⟨y3, y4⟩ := X2.out; (try clear z1 z2); have z1 := X1.out.l3; have z2 := X2.out.l3; have k := bl_trans k g; clear s6 s7; clear hb g)
            | (go_at_call 21; (with_reducible refine (awake2_any _ (pow_below ht (bl_trans B0.out k))).mono ?_); rintro e u1 ⟨rfl, hb⟩; have k := bl_trans k hb; clear hb))
          go_ret
          exact ⟨rfl, bl_trans B0.out k⟩
      · have o9 := jg_t 3 (show 2147483648 < b by omega)
        clear q1 q2 q3 ha1 ha2 hb1 hb2
        go_enter Tryz.func6, Tryz.ntmps6
        go_wp2_with (first
          | (go_at_call 39; (with_reducible refine (O1.out _).mono ?_); rintro e v1 ⟨A1, c1, rfl, s1, hb1⟩)
          | (go_at_call 39; (with_reducible refine (O2.out _).mono ?_); rintro e v2 ⟨B1, d1, rfl, t1, hb2⟩; have SX := hide (ki hb2 s1); have SY := hide t1; obtain ⟨X1, X2⟩ := ic3 (isg a) A1 (idg a).length c1 (isg b) B1 (idg b).length d1 v2; have X1 := hide X1; have X2 := hide X2; obtain ⟨y1, y2⟩ := X1.out; obtain ⟨y3, y4⟩ := X2.out; have B0 := hide (bl_trans hb1 hb2); have k : Below v2.heap.size v2 ((v2.alloc (.cells #[.bool (isg a), .slice A1 (idg a).length c1] 41)).alloc (.cells #[.bool (isg b), .slice B1 (idg b).length d1] 41)) := bl_al (bl_al (.refl _ _) _) _; clear s1 t1 hb1 hb2)
          | (go_at_call 28; (with_reducible refine (valueI_num A1 _ c1 a _ rfl (ki k SX.out) a1.out a2.out).mono ?_); rintro e v3 ⟨rfl, hb⟩; have g := hb; have X1 := hide (X1.out.next g); have X2 := hide (X2.out.next g); (try clear y1 y2 y3 y4); obtain ⟨y1, y2⟩ := X1.out; obtain ⟨y3, y4⟩ := X2.out; (try clear z1 z2); have z1 := X1.out.l3; have z2 := X2.out.l3; have k := bl_trans k g; clear hb g)
          | (go_at_call 37; (with_reducible refine (vI_num A1 _ c1 a _ rfl (ki k SX.out) a1.out a2.out).mono ?_); rintro e v4 ⟨rfl, hb⟩; have g := hb; have X1 := hide (X1.out.next g); have X2 := hide (X2.out.next g); (try clear y1 y2 y3 y4); obtain ⟨y1, y2⟩ := X1.out; obtain ⟨y3, y4⟩ := X2.out; (try clear z1 z2); have z1 := X1.out.l3; have z2 := X2.out.l3; have k := bl_trans k g; clear hb g)
          | (go_at_call 34; (with_reducible refine (signI_num A1 _ c1 a _ rfl (ki k SX.out) HA.out k0 K0.out).mono ?_); rintro e v5 ⟨rfl, hb⟩; have g := hb; have X1 := hide (X1.out.next g); have X2 := hide (X2.out.next g); (try clear y1 y2 y3 y4); obtain ⟨y1, y2⟩ := X1.out; obtain ⟨y3, y4⟩ := X2.out; (try clear z1 z2); have z1 := X1.out.l3; have z2 := X2.out.l3; have k := bl_trans k g; clear hb g)
          | (go_at_call 30; (with_reducible refine (R1.out _).mono ?_); rintro e v6 ⟨A6, c6, rfl, s6, hb⟩; have g := hb; have X1 := hide (X1.out.next g); have X2 := hide (X2.out.next g); (try clear y1 y2 y3 y4); obtain ⟨y1, y2⟩ := X1.out; obtain ⟨y3, y4⟩ := X2.out; (try clear z1 z2); have z1 := X1.out.l3; have z2 := X2.out.l3; have k := bl_trans k g; clear hb g)
          | (go_at_call 30; (with_reducible refine (R2.out _).mono ?_); rintro e v7 ⟨A7, c7, rfl, s7, hb⟩; have g := hb; have X1 := hide (X1.out.next g); have X2 := hide (X2.out.next g); (try clear y1 y2 y3 y4); obtain ⟨y1, y2⟩ := X1.out; obtain ⟨y3, y4⟩ := X2.out; (try clear z1 z2); have z1 := X1.out.l3; have z2 := X2.out.l3; have k := bl_trans k g; have s6 := ki g s6; clear hb g)
          | (go_at_call 33; (with_reducible refine (rcmpI_num A6 A7 _ _ c6 c7 a 0 _ rfl rfl s6 s7 HA.out H0.out k0 K0.out).mono ?_); rintro e v8 ⟨rfl, hb⟩; have g := hb; have X1 := hide (X1.out.next g); have X2 := hide (X2.out.next g); (try clear y1 y2 y3 y4); obtain ⟨y1, y2⟩ := X1.out; obtain ⟨y3, y4⟩ := X2.out; (try clear z1 z2); have z1 := X1.out.l3; have z2 := X2.out.l3; have k := bl_trans k g; clear s6 s7; clear hb g)
          | (go_at_call 21; (with_reducible refine (awake2_any _ (pow_below ht (bl_trans B0.out k))).mono ?_); rintro e u1 ⟨rfl, hb⟩; have k := bl_trans k hb; clear hb))
        go_ret
        exact ⟨rfl, bl_trans B0.out k⟩
    · have o9 := jl_t 3 (show a < -2147483648 by omega)
      clear q1 q2 ha1 ha2 hb1 hb2
      go_enter Tryz.func6, Tryz.ntmps6
      go_wp2_with (first
        | (go_at_call 39; (with_reducible refine (O1.out _).mono ?_); rintro e v1 ⟨A1, c1, rfl, s1, hb1⟩)
        | (go_at_call 39; (with_reducible refine (O2.out _).mono ?_); rintro e v2 ⟨B1, d1, rfl, t1, hb2⟩; have SX := hide (ki hb2 s1); have SY := hide t1; obtain ⟨X1, X2⟩ := ic3 (isg a) A1 (idg a).length c1 (isg b) B1 (idg b).length d1 v2; have X1 := hide X1; have X2 := hide X2; obtain ⟨y1, y2⟩ := X1.out; obtain ⟨y3, y4⟩ := X2.out; have B0 := hide (bl_trans hb1 hb2); have k : Below v2.heap.size v2 ((v2.alloc (.cells #[.bool (isg a), .slice A1 (idg a).length c1] 41)).alloc (.cells #[.bool (isg b), .slice B1 (idg b).length d1] 41)) := bl_al (bl_al (.refl _ _) _) _; clear s1 t1 hb1 hb2)
        | (go_at_call 28; (with_reducible refine (valueI_num A1 _ c1 a _ rfl (ki k SX.out) a1.out a2.out).mono ?_); rintro e v3 ⟨rfl, hb⟩; have g := hb; have X1 := hide (X1.out.next g); have X2 := hide (X2.out.next g); (try clear y1 y2 y3 y4); obtain ⟨y1, y2⟩ := X1.out; obtain ⟨y3, y4⟩ := X2.out; (try clear z1 z2); have z1 := X1.out.l3; have z2 := X2.out.l3; have k := bl_trans k g; clear hb g)
        | (go_at_call 37; (with_reducible refine (vI_num A1 _ c1 a _ rfl (ki k SX.out) a1.out a2.out).mono ?_); rintro e v4 ⟨rfl, hb⟩; have g := hb; have X1 := hide (X1.out.next g); have X2 := hide (X2.out.next g); (try clear y1 y2 y3 y4); obtain ⟨y1, y2⟩ := X1.out; obtain ⟨y3, y4⟩ := X2.out; (try clear z1 z2); have z1 := X1.out.l3; have z2 := X2.out.l3; have k := bl_trans k g; clear hb g)
        | (go_at_call 34; (with_reducible refine (signI_num A1 _ c1 a _ rfl (ki k SX.out) HA.out k0 K0.out).mono ?_); rintro e v5 ⟨rfl, hb⟩; have g := hb; have X1 := hide (X1.out.next g); have X2 := hide (X2.out.next g); (try clear y1 y2 y3 y4); obtain ⟨y1, y2⟩ := X1.out; obtain ⟨y3, y4⟩ := X2.out; (try clear z1 z2); have z1 := X1.out.l3; have z2 := X2.out.l3; have k := bl_trans k g; clear hb g)
        | (go_at_call 30; (with_reducible refine (R1.out _).mono ?_); rintro e v6 ⟨A6, c6, rfl, s6, hb⟩; have g := hb; have X1 := hide (X1.out.next g); have X2 := hide (X2.out.next g); (try clear y1 y2 y3 y4); obtain ⟨y1, y2⟩ := X1.out; obtain ⟨y3, y4⟩ := X2.out; (try clear z1 z2); have z1 := X1.out.l3; have z2 := X2.out.l3; have k := bl_trans k g; clear hb g)
        | (go_at_call 30; (with_reducible refine (R2.out _).mono ?_); rintro e v7 ⟨A7, c7, rfl, s7, hb⟩; have g := hb; have X1 := hide (X1.out.next g); have X2 := hide (X2.out.next g); (try clear y1 y2 y3 y4); obtain ⟨y1, y2⟩ := X1.out; obtain ⟨y3, y4⟩ := X2.out; (try clear z1 z2); have z1 := X1.out.l3; have z2 := X2.out.l3; have k := bl_trans k g; have s6 := ki g s6; clear hb g)
        | (go_at_call 33; (with_reducible refine (rcmpI_num A6 A7 _ _ c6 c7 a 0 _ rfl rfl s6 s7 HA.out H0.out k0 K0.out).mono ?_); rintro e v8 ⟨rfl, hb⟩; have g := hb; have X1 := hide (X1.out.next g); have X2 := hide (X2.out.next g); (try clear y1 y2 y3 y4); obtain ⟨y1, y2⟩ := X1.out; obtain ⟨y3, y4⟩ := X2.out; (try clear z1 z2); have z1 := X1.out.l3; have z2 := X2.out.l3; have k := bl_trans k g; clear s6 s7; clear hb g)
        | (go_at_call 21; (with_reducible refine (awake2_any _ (pow_below ht (bl_trans B0.out k))).mono ?_); rintro e u1 ⟨rfl, hb⟩; have k := bl_trans k hb; clear hb))
      go_ret
      exact ⟨rfl, bl_trans B0.out k⟩
  · have o9 := jg_t 3 (show 2147483648 < a by omega)
    clear q1 ha1 ha2 hb1 hb2
    go_enter Tryz.func6, Tryz.ntmps6
    go_wp2_with (first
      | (go_at_call 39; (with_reducible refine (O1.out _).mono ?_); rintro e v1 ⟨A1, c1, rfl, s1, hb1⟩)
      | (go_at_call 39; (with_reducible refine (O2.out _).mono ?_); rintro e v2 ⟨B1, d1, rfl, t1, hb2⟩; have SX := hide (ki hb2 s1); have SY := hide t1; obtain ⟨X1, X2⟩ := ic3 (isg a) A1 (idg a).length c1 (isg b) B1 (idg b).length d1 v2; have X1 := hide X1; have X2 := hide X2; obtain ⟨y1, y2⟩ := X1.out; obtain ⟨y3, y4⟩ := X2.out; have B0 := hide (bl_trans hb1 hb2); have k : Below v2.heap.size v2 ((v2.alloc (.cells #[.bool (isg a), .slice A1 (idg a).length c1] 41)).alloc (.cells #[.bool (isg b), .slice B1 (idg b).length d1] 41)) := bl_al (bl_al (.refl _ _) _) _; clear s1 t1 hb1 hb2)
      | (go_at_call 28; (with_reducible refine (valueI_num A1 _ c1 a _ rfl (ki k SX.out) a1.out a2.out).mono ?_); rintro e v3 ⟨rfl, hb⟩; have g := hb; have X1 := hide (X1.out.next g); have X2 := hide (X2.out.next g); (try clear y1 y2 y3 y4); obtain ⟨y1, y2⟩ := X1.out; obtain ⟨y3, y4⟩ := X2.out; (try clear z1 z2); have z1 := X1.out.l3; have z2 := X2.out.l3; have k := bl_trans k g; clear hb g)
      | (go_at_call 37; (with_reducible refine (vI_num A1 _ c1 a _ rfl (ki k SX.out) a1.out a2.out).mono ?_); rintro e v4 ⟨rfl, hb⟩; have g := hb; have X1 := hide (X1.out.next g); have X2 := hide (X2.out.next g); (try clear y1 y2 y3 y4); obtain ⟨y1, y2⟩ := X1.out; obtain ⟨y3, y4⟩ := X2.out; (try clear z1 z2); have z1 := X1.out.l3; have z2 := X2.out.l3; have k := bl_trans k g; clear hb g)
      | (go_at_call 34; (with_reducible refine (signI_num A1 _ c1 a _ rfl (ki k SX.out) HA.out k0 K0.out).mono ?_); rintro e v5 ⟨rfl, hb⟩; have g := hb; have X1 := hide (X1.out.next g); have X2 := hide (X2.out.next g); (try clear y1 y2 y3 y4); obtain ⟨y1, y2⟩ := X1.out; obtain ⟨y3, y4⟩ := X2.out; (try clear z1 z2); have z1 := X1.out.l3; have z2 := X2.out.l3; have k := bl_trans k g; clear hb g)
      | (go_at_call 30; (with_reducible refine (R1.out _).mono ?_); rintro e v6 ⟨A6, c6, rfl, s6, hb⟩; have g := hb; have X1 := hide (X1.out.next g); have X2 := hide (X2.out.next g); (try clear y1 y2 y3 y4); obtain ⟨y1, y2⟩ := X1.out; obtain ⟨y3, y4⟩ := X2.out; (try clear z1 z2); have z1 := X1.out.l3; have z2 := X2.out.l3; have k := bl_trans k g; clear hb g)
      | (go_at_call 30; (with_reducible refine (R2.out _).mono ?_); rintro e v7 ⟨A7, c7, rfl, s7, hb⟩; have g := hb; have X1 := hide (X1.out.next g); have X2 := hide (X2.out.next g); (try clear y1 y2 y3 y4); obtain ⟨y1, y2⟩ := X1.out; obtain ⟨y3, y4⟩ := X2.out; (try clear z1 z2); have z1 := X1.out.l3; have z2 := X2.out.l3; have k := bl_trans k g; have s6 := ki g s6; clear hb g)
      | (go_at_call 33; (with_reducible refine (rcmpI_num A6 A7 _ _ c6 c7 a 0 _ rfl rfl s6 s7 HA.out H0.out k0 K0.out).mono ?_); rintro e v8 ⟨rfl, hb⟩; have g := hb; have X1 := hide (X1.out.next g); have X2 := hide (X2.out.next g); (try clear y1 y2 y3 y4); obtain ⟨y1, y2⟩ := X1.out; obtain ⟨y3, y4⟩ := X2.out; (try clear z1 z2); have z1 := X1.out.l3; have z2 := X2.out.l3; have k := bl_trans k g; clear s6 s7; clear hb g)
      | (go_at_call 21; (with_reducible refine (awake2_any _ (pow_below ht (bl_trans B0.out k))).mono ?_); rintro e u1 ⟨rfl, hb⟩; have k := bl_trans k hb; clear hb))
    go_ret
    exact ⟨rfl, bl_trans B0.out k⟩
end Nt

end Go.Proofs.YtgmjdaallinicaaGreatDoor
