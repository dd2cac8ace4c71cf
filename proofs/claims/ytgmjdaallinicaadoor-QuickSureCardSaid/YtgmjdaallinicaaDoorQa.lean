/-
  Package math: normalize, frexp, Frexp, ldexp, Ldexp.
  math/bits.TrailingZeros64: the library's table in its variable.
  Quick: the mathematics of 'sizes' and 'under', and of the number that a float is.
  Quick: the fraction that a float is, in lowest terms.
  Package quick: finite, shifted, sizes, Of.
  Package quick: sizes, Of.
  Package quick: Of, Exact, Less.
-/
import Derived.Test.YtgmjdaallinicaaDoorFlo
import Derived.Laws.BitsLemmas
import Derived.Test.YtgmjdaallinicaaDoorProg
import Derived.Test.YtgmjdaallinicaaDoorMem
import Derived.Shelf.Spec.TrailingZeros
import Derived.Test.YtgmjdaallinicaaDoorMathB
import Derived.Test.YtgmjdaallinicaaDoorRatP
import Derived.Test.YtgmjdaallinicaaDoorNum
namespace Go.Proofs.YtgmjdaallinicaaDoor
open Go.RowKit
namespace Nt

theorem i64_and_nat (a b : Nat) (ha : a < 2 ^ 62) (hb : b < 2 ^ 62) : bits .and .i64 (a : Int) (b : Int) = ((a &&& b : Nat) : Int) :=
  (bits_nat .i64 62 (by decide) (fun n h0 h1 => by rw [IntKind.wrap_i64]; omega) a b ha hb).1
theorem ii_and (t : TypeId) (a b c : Nat) (ha : a < 2 ^ 62) (hb : b < 2 ^ 62) (h : a &&& b = c) : binOp .and t (.int .i64 (a : Int)) (.int .i64 (b : Int)) = pure (.int .i64 (c : Int)) := by
  rw [binOp_and, intBits_and, i64_and_nat _ _ ha hb, h]
theorem fl_mul (x y z : Nat) (h : Ieee.double.mul x y = some z) : floatBits .mul .f64 x y = some z := h
theorem mul_exact' (s : Bool) (n c y z : Nat) (hn : n = 1075) (hc : 0 < c) (hc2 : c < 2047) (hy : y < 2047 * 2 ^ 52) (hz : z < 2047 * 2 ^ 52) (h0 : 0 < y) (h : U y * 2 ^ (52 + c) = U z * 2 ^ n) :
    Ieee.double.mul (Ieee.double.word s y) (Ieee.double.word false (c * 2 ^ 52)) = some (Ieee.double.word s z)
    ∧ Ieee.double.mul (Ieee.double.word false (c * 2 ^ 52)) (Ieee.double.word s y) = some (Ieee.double.word s z) := by
  subst hn
  exact mul_exact s c y z hc hc2 hy hz h0 h
theorem mul_lift (s : Bool) (y z : Nat) (hy : y < 2047 * 2 ^ 52) (hz : z < 2047 * 2 ^ 52) (h0 : 0 < y) (h : U z = U y * 2 ^ 52) :
    Ieee.double.mul (Ieee.double.word s y) 4841369599423283200 = some (Ieee.double.word s z) ∧ Ieee.double.mul 4841369599423283200 (Ieee.double.word s y) = some (Ieee.double.word s z) := by
  obtain ⟨c, hc⟩ : ∃ c, c = 1075 := ⟨_, rfl⟩
  have e : Ieee.double.word false (c * 2 ^ 52) = 4841369599423283200 := by rw [word_f]; omega
  rw [← e]
  refine mul_exact' s c c y z hc (by omega) (by omega) hy hz h0 ?_
  rw [h, Nat.mul_assoc, ← Nat.pow_add]
theorem mul_same (s : Bool) (y : Nat) (hy : y < 2047 * 2 ^ 52) (h0 : 0 < y) : Ieee.double.mul 4607182418800017408 (Ieee.double.word s y) = some (Ieee.double.word s y) := by
  obtain ⟨c, hc⟩ : ∃ c, c = 1023 := ⟨_, rfl⟩
  have e : Ieee.double.word false (c * 2 ^ 52) = 4607182418800017408 := by rw [word_f]; omega
  rw [← e]
  exact (mul_exact' s (52 + c) c y y (by omega) (by omega) (by omega) hy hy h0 rfl).2
theorem mul_drop (s : Bool) (y z : Nat) (hy : y < 2047 * 2 ^ 52) (hz : z < 2047 * 2 ^ 52) (h0 : 0 < y) (h : U y = U z * 2 ^ 53) : Ieee.double.mul 4368491638549381120 (Ieee.double.word s y) = some (Ieee.double.word s z) := by
  obtain ⟨c, hc⟩ : ∃ c, c = 970 := ⟨_, rfl⟩
  have e : Ieee.double.word false (c * 2 ^ 52) = 4368491638549381120 := by rw [word_f]; omega
  rw [← e]
  refine (mul_exact' s (53 + (52 + c)) c y z (by omega) (by omega) (by omega) hy hz h0 ?_).2
  rw [h, Nat.mul_assoc, ← Nat.pow_add]
theorem w64 {n m : Int} (h : n = m) (h1 : -1000000000 ≤ m) (h2 : m ≤ 1000000000) : wrap64 n = m := by rw [h]; exact IntWalk.wrap64_in _ ⟨by omega, by omega⟩
/-- A rung's power, as the walk spells it. -/
theorem w_exp_u (s : Bool) (y e f : Nat) (hy : y = 2 ^ 52 * (e + 1) + f) (hf : f < 2 ^ 52) (he : e < 2046) : bits .and .u64 (((Ieee.double.word s y : Nat) : Int) / 4503599627370496) 2047 = (e : Int) + 1 := by
  have h := w_lt s y (by omega)
  have h2 := w_exp s y (by omega)
  have e1 : ((Ieee.double.word s y : Nat) : Int) / 4503599627370496 = ((Ieee.double.word s y / 2 ^ 52 : Nat) : Int) := (Int.natCast_ediv _ 4503599627370496).symm
  rw [e1]
  refine (u64_and_nat _ 2047 (by omega) (by decide)).trans ?_
  rw [h2]
  omega
theorem w_exp_i (s : Bool) (y e f : Nat) (hy : y = 2 ^ 52 * (e + 1) + f) (hf : f < 2 ^ 52) (he : e < 2046) : bits .and .i64 (((Ieee.double.word s y : Nat) : Int) / 4503599627370496) 2047 = (e : Int) + 1 := by
  have h := w_lt s y (by omega)
  have h2 := w_exp s y (by omega)
  have e1 : ((Ieee.double.word s y : Nat) : Int) / 4503599627370496 = ((Ieee.double.word s y / 2 ^ 52 : Nat) : Int) := (Int.natCast_ediv _ 4503599627370496).symm
  rw [e1]
  refine (i64_and_nat _ 2047 (by omega) (by decide)).trans ?_
  rw [h2]
  omega
theorem w_or_walk (s : Bool) (K f : Nat) (hK : K < 2048) (hf : f < 2 ^ 52) : bits .or .u64 ((Ieee.double.word s f : Nat) : Int) (IntKind.u64.wrap ((K : Int) * 4503599627370496)) = ((Ieee.double.word s (K * 2 ^ 52 + f) : Nat) : Int) := by
  have e : IntKind.u64.wrap ((K : Int) * 4503599627370496) = ((K * 2 ^ 52 : Nat) : Int) := by rw [IntKind.wrap_u64]; omega
  rw [e, u64_or_nat _ _ (w_lt s f (by omega)) (by omega), w_or s K f hK hf]
theorem norm_low (s : Bool) (r y : Nat) (h0 : 0 < r) (hr : r < 2 ^ 52) (hy : y < 2047 * 2 ^ 52) (hU : U y = U r * 2 ^ 52) (w : World) :
    Calls Tryd.prog 81 #[.float .f64 (Ieee.double.word s r)] w fun e w' => e = .returned (.tuple #[.float .f64 (Ieee.double.word s y), .int .i64 (-52)]) ∧ w = w' := by
  have M := hide (mabs s r (by omega))
  have o : binOp .lss 25 (.float .f64 r) (.float .f64 4503599627370496) = pure (.bool true) :=
    fl_lss _ r 4503599627370496 true ((wo_lt false false r 4503599627370496 (by omega) (by decide)).trans (decide_eq_true (by have := U_lt (show r < 4503599627370496 by omega); rw [I_f, I_f]; omega)))
  have m : Ieee.double.mul (Ieee.double.word s r) 4841369599423283200 = some (Ieee.double.word s y) := (mul_lift s r y (by omega) hy h0 hU).1
  have o2 : ∀ W : World, (binOp .mul 25 (.float .f64 (Ieee.double.word s r)) (.float .f64 4841369599423283200)).run Tryd.prog W = .ok (.float .f64 (Ieee.double.word s y)) W := fun W => fl_op _ _ W (fl_mul _ _ _ m)
  clear m h0 hr hy hU
  generalize Ieee.double.word s r = x at *
  generalize Ieee.double.word s y = v at *
  go_enter Tryd.func81, Tryd.ntmps81
  go_wp2_with (go_at_call 23; (with_reducible refine (M.out _).mono ?_); rintro e w1 ⟨rfl, rfl⟩)
  go_ret2
  exact ⟨rfl, rfl⟩
theorem norm_high (s : Bool) (r : Nat) (h0 : 2 ^ 52 ≤ r) (hr : r < 2047 * 2 ^ 52) (w : World) :
    Calls Tryd.prog 81 #[.float .f64 (Ieee.double.word s r)] w fun e w' => e = .returned (.tuple #[.float .f64 (Ieee.double.word s r), .int .i64 0]) ∧ w = w' := by
  have M := hide (mabs s r (by omega))
  have o : binOp .lss 25 (.float .f64 r) (.float .f64 4503599627370496) = pure (.bool false) :=
    fl_lss _ r 4503599627370496 false ((wo_lt false false r 4503599627370496 (by omega) (by decide)).trans (decide_eq_false (by have := U_le_iff.2 (show 4503599627370496 ≤ r by omega); rw [I_f, I_f]; omega)))
  clear h0 hr
  generalize Ieee.double.word s r = x at *
  go_enter Tryd.func81, Tryd.ntmps81
  go_wp2_with (go_at_call 23; (with_reducible refine (M.out _).mono ?_); rintro e w1 ⟨rfl, rfl⟩)
  go_ret2
  exact ⟨rfl, rfl⟩
/-- A rung and the one that has all its digits, and by how many it is lifted. -/
def Lifts (r y k : Nat) : Prop := (r < 2 ^ 52 ∧ 0 < r ∧ k = 52 ∧ U y = U r * 2 ^ 52 ∧ 2 ^ 52 ≤ y ∧ y < 2047 * 2 ^ 52) ∨ (2 ^ 52 ≤ r ∧ r < 2047 * 2 ^ 52 ∧ k = 0 ∧ y = r)
theorem lifts_any {r : Nat} (h0 : 0 < r) (hr : r < 2047 * 2 ^ 52) : ∃ y k, Lifts r y k := by
  by_cases h : r < 2 ^ 52
  · obtain ⟨y, h1, h2, h3⟩ := lift_sub h0 h
    exact ⟨y, 52, .inl ⟨h, h0, rfl, h3, h1, by omega⟩⟩
  · exact ⟨r, 0, .inr ⟨by omega, hr, rfl, rfl⟩⟩
theorem Lifts.facts {r y k : Nat} (h : Lifts r y k) : 0 < r ∧ r < 2047 * 2 ^ 52 ∧ 2 ^ 52 ≤ y ∧ y < 2047 * 2 ^ 52 ∧ k ≤ 52 ∧ U y = U r * 2 ^ k := by
  rcases h with ⟨h1, h2, rfl, h3, h4, h5⟩ | ⟨h1, h2, rfl, rfl⟩
  · exact ⟨h2, by omega, h4, h5, by decide, h3⟩
  · exact ⟨by omega, h2, h1, h2, by decide, by rw [Nat.pow_zero, Nat.mul_one]⟩
theorem norm_any (s : Bool) (r y k : Nat) (h : Lifts r y k) (m : Int) (hm : -(k : Int) = m) (w : World) :
    Calls Tryd.prog 81 #[.float .f64 (Ieee.double.word s r)] w fun e w' => e = .returned (.tuple #[.float .f64 (Ieee.double.word s y), .int .i64 m]) ∧ w = w' := by
  subst hm
  rcases h with ⟨h1, h2, rfl, h3, h4, h5⟩ | ⟨h1, h2, rfl, rfl⟩
  · exact norm_low s r y h2 h1 h5 h3 w
  · exact norm_high s y h1 h2 w
theorem w_nonzero (s : Bool) (r : Nat) (h0 : 0 < r) (hr : r ≤ 2047 * 2 ^ 52) : binOp .eql 25 (.float .f64 (Ieee.double.word s r)) (.float .f64 0) = pure (.bool false) := w_zero_eq s r hr false (decide_eq_false (by omega))
theorem w_iszero (s : Bool) : binOp .eql 25 (.float .f64 (Ieee.double.word s 0)) (.float .f64 0) = pure (.bool true) := w_zero_eq s 0 (by decide) true rfl
theorem run_conv_ui (n : Nat) (h : n < 2 ^ 62) (W : World) : (convert 54 3 (.int .u64 (n : Int))).run Tryd.prog W = .ok (.int .i64 (n : Int)) W := by
  have e : IntKind.i64.wrap (n : Int) = n := IntWalk.i64_in _ ⟨by omega, by omega⟩
  have : (convert 54 3 (.int .u64 (n : Int))).run Tryd.prog W = .ok (.int .i64 (IntKind.i64.wrap (n : Int))) W := by kernel_rfl
  rw [this, e]
theorem run_conv_iu (n : Nat) (h : n < 2 ^ 62) (W : World) : (convert 3 54 (.int .i64 (n : Int))).run Tryd.prog W = .ok (.int .u64 (n : Int)) W := by
  have e : IntKind.u64.wrap (n : Int) = n := by rw [IntKind.wrap_u64]; omega
  have : (convert 3 54 (.int .i64 (n : Int))).run Tryd.prog W = .ok (.int .u64 (IntKind.u64.wrap (n : Int))) W := by kernel_rfl
  rw [this, e]
/-- What 'frexp' tells: the digits f of y, and its power. -/
theorem frexp_any (s : Bool) (r y k f e : Nat) (h : Lifts r y k) (hy : y = 2 ^ 52 * (e + 1) + f) (hf : f < 2 ^ 52) (p : Int) (hp : (e : Int) - k - 1021 = p) (w : World) :
    Calls Tryd.prog 64 #[.float .f64 (Ieee.double.word s r)] w fun z w' => z = .returned (.tuple #[.float .f64 (Ieee.double.word s (1022 * 2 ^ 52 + f)), .int .i64 p]) ∧ w = w' := by
  obtain ⟨h0, hr, hy0, hy1, hk, -⟩ := h.facts
  have o1 := w_nonzero s r h0 (by omega)
  have I0 := hide (isinf0 s r (by omega) false (decide_eq_false (by omega)))
  have N0 := hide (isnan_f s r (by omega))
  have M := hide (norm_any s r y k h _ rfl)
  have he : e < 2046 := by omega
  have wl := w_lt s y (by omega)
  have o3 := w_exp_u s y e f hy hf he
  have o4 : binOp .andNot 54 (.int .u64 ((Ieee.double.word s y : Nat) : Int)) (.int .u64 9218868437227405312) = pure (.int .u64 ((Ieee.double.word s f : Nat) : Int)) := bi_andn _ _ 9218868437227405312 _ wl (by decide) ((w_frac s y (by omega)).trans (by congr 1; omega))
  have o5 : binOp .or 54 (.int .u64 ((Ieee.double.word s f : Nat) : Int)) (.int .u64 4602678819172646912) = pure (.int .u64 ((Ieee.double.word s (1022 * 2 ^ 52 + f) : Nat) : Int)) := bi_or _ _ 4602678819172646912 _ (w_lt s f (by omega)) (by decide) (w_or s 1022 f (by decide) hf)
  have s0 : wrap64 ((e : Int) + 1) = (e : Int) + 1 := w64 rfl (by omega) (by omega)
  have s1 : wrap64 ((e : Int) + 1 - 1023) = (e : Int) - 1022 := w64 (by omega) (by omega) (by omega)
  have s2 : wrap64 ((e : Int) - 1022 + 1) = (e : Int) - 1021 := w64 (by omega) (by omega) (by omega)
  have s3 : wrap64 (-(k : Int) + ((e : Int) - 1021)) = p := w64 (by omega) (by omega) (by omega)
  clear wl h hy hf hp h0 hr hy0 hy1 hk he
  generalize Ieee.double.word s r = x at *
  generalize Ieee.double.word s y = x1 at *
  generalize Ieee.double.word s f = x3 at *
  generalize Ieee.double.word s (1022 * 2 ^ 52 + f) = x4 at *
  generalize (e : Int) - 1022 = i1 at *
  generalize (e : Int) - 1021 = i2 at *
  generalize -(k : Int) = i3 at *
  generalize (e : Int) + 1 = i4 at *
  go_enter Tryd.func64, Tryd.ntmps64
  go_wp2_with (first
    | (go_at_call 36; (with_reducible refine (I0.out _).mono ?_); rintro e w1 ⟨rfl, rfl⟩)
    | (go_at_call 35; (with_reducible refine (N0.out _).mono ?_); rintro e w1 ⟨rfl, rfl⟩)
    | (go_at_call 81; (with_reducible refine (M.out _).mono ?_); rintro e w1 ⟨rfl, rfl⟩)
    | simp only [f64bits, f64from])
  go_ret2
  exact ⟨rfl, rfl⟩
theorem frexp2_any (s : Bool) (r y k f e : Nat) (h : Lifts r y k) (hy : y = 2 ^ 52 * (e + 1) + f) (hf : f < 2 ^ 52) (p : Int) (hp : (e : Int) - k - 1021 = p) (w : World) :
    Calls Tryd.prog 32 #[.float .f64 (Ieee.double.word s r)] w fun z w' => z = .returned (.tuple #[.float .f64 (Ieee.double.word s (1022 * 2 ^ 52 + f)), .int .i64 p]) ∧ w = w' := by
  have F := hide (frexp_any s r y k f e h hy hf p hp)
  clear h hy hf hp
  generalize Ieee.double.word s r = x at *
  generalize Ieee.double.word s (1022 * 2 ^ 52 + f) = x1 at *
  go_enter Tryd.func32, Tryd.ntmps32
  go_wp2_with (go_at_call 64; (with_reducible refine (F.out _).mono ?_); rintro e w1 ⟨rfl, rfl⟩)
  go_ret2
  exact ⟨rfl, rfl⟩
theorem w_below0 (s : Bool) (y : Nat) (h0 : 0 < y) (hy : y ≤ 2047 * 2 ^ 52) : binOp .lss 25 (.float .f64 (Ieee.double.word s y)) (.float .f64 0) = pure (.bool s) := by
  refine fl_lss _ _ 0 s ((wo_lt s false y 0 hy (by decide)).trans ?_)
  have := U_pos h0
  rw [I_zero]
  cases s
  · rw [I_f]; exact decide_eq_false (by omega)
  · rw [I_t]; exact decide_eq_true (by omega)
/-- 'ldexp' of 0. -/
theorem ldexp_zero (s : Bool) (n : Int) (w : World) :
    Calls Tryd.prog 60 #[.float .f64 (Ieee.double.word s 0), .int .i64 n] w fun e w' => e = .returned (.float .f64 (Ieee.double.word s 0)) ∧ w = w' := by
  have o1 := w_iszero s
  generalize Ieee.double.word s 0 = x at *
  go_enter Tryd.func60, Tryd.ntmps60
  go_wp2
  go_ret
  exact ⟨rfl, rfl⟩
set_option maxRecDepth 100000 in
set_option maxHeartbeats 1000000 in
theorem ldexp_pos (s : Bool) (r z a b : Nat) (n : Int) (h0 : 0 < r) (hr : r < 2047 * 2 ^ 52) (hab : (b : Int) - a = n) (h : U z * 2 ^ a = U r * 2 ^ b) (hn1 : -1000000 ≤ n) (hn2 : n ≤ 1000000) (w : World) :
    Calls Tryd.prog 60 #[.float .f64 (Ieee.double.word s r), .int .i64 n] w fun e w' => e = .returned (.float .f64 (Ieee.double.word s (min z (2047 * 2 ^ 52)))) ∧ w = w' := by
  obtain ⟨y, k, hL⟩ := lifts_any h0 hr
  obtain ⟨-, -, hy0, hy1, hk, hU⟩ := hL.facts
  obtain ⟨e, f, hf, hy⟩ := rung_split y (by omega)
  have he : e < 2046 := by omega
  obtain ⟨l1, l2, l3, l4, l5⟩ := ld_math y f e (n - k) z (a + k) b hf hy (by omega) (by rw [hU, Nat.pow_add, ← Nat.mul_assoc, h, Nat.mul_right_comm])
  have o1 := w_nonzero s r h0 (by omega)
  have I0 := hide (isinf0 s r (by omega) false (decide_eq_false (by omega)))
  have N0 := hide (isnan_f s r (by omega))
  have M := hide (norm_any s r y k hL _ rfl)
  have s0 : wrap64 (n + -(k : Int)) = n - k := w64 (by omega) (by omega) (by omega)
  have wl := w_lt s y (by omega)
  have o3 := w_exp_i s y e f hy hf he
  have cv : wrap64 (((Ieee.double.word s y : Nat) : Int) / 4503599627370496) = ((Ieee.double.word s y : Nat) : Int) / 4503599627370496 := IntWalk.wrap64_in _ ⟨by omega, by omega⟩
  have s1 : wrap64 ((e : Int) + 1 - 1023) = (e : Int) - 1022 := w64 (by omega) (by omega) (by omega)
  have s2 : wrap64 (n - k + ((e : Int) - 1022)) = (e : Int) + (n - k) - 1022 := w64 (by omega) (by omega) (by omega)
  have c1 := ii_lss 3 ((e : Int) + (n - k) - 1022) (-1075) false (decide_eq_false (by omega))
  have o4 : binOp .andNot 54 (.int .u64 ((Ieee.double.word s y : Nat) : Int)) (.int .u64 9218868437227405312) = pure (.int .u64 ((Ieee.double.word s f : Nat) : Int)) := bi_andn _ _ 9218868437227405312 _ wl (by decide) ((w_frac s y (by omega)).trans (by congr 1; omega))
  have wf := w_lt s f (by omega)
  by_cases g1 : 2046 ≤ (e : Int) + (n - k)
  · have hz := l1 g1
    rw [Nat.min_eq_right hz]
    have c2 := ii_gtr 3 ((e : Int) + (n - k) - 1022) 1023 true (decide_eq_true (by omega))
    have c3 := w_below0 s y (by omega) (by omega)
    have J1 := hide minf1
    have J2 := hide minfN
    clear l1 l2 l3 l4 l5 hz g1 wl wf h hab hU hL hy hf he hy0 hy1 hk h0 hr hn1 hn2
    generalize Ieee.double.word s r = x at *
    generalize Ieee.double.word s y = x1 at *
    generalize Ieee.double.word s f = x3 at *
    generalize (e : Int) + (n - k) - 1022 = i1 at *
    generalize (e : Int) - 1022 = i2 at *
    generalize n - k = i3 at *
    generalize -(k : Int) = i4 at *
    generalize (e : Int) + 1 = i5 at *
    cases s
    all_goals
      go_enter Tryd.func60, Tryd.ntmps60
      go_wp2_with (first
        | (go_at_call 36; (with_reducible refine (I0.out _).mono ?_); rintro e w1 ⟨rfl, rfl⟩)
        | (go_at_call 35; (with_reducible refine (N0.out _).mono ?_); rintro e w1 ⟨rfl, rfl⟩)
        | (go_at_call 81; (with_reducible refine (M.out _).mono ?_); rintro e w1 ⟨rfl, rfl⟩)
        | (go_at_call 19; (with_reducible refine (J1.out _).mono ?_); rintro e w1 ⟨rfl, rfl⟩)
        | (go_at_call 19; (with_reducible refine (J2.out _).mono ?_); rintro e w1 ⟨rfl, rfl⟩)
        | simp only [f64bits])
      go_ret
      exact ⟨rfl, rfl⟩
  · have hz := l2 (by omega)
    rw [Nat.min_eq_left (by omega)]
    have c2 := ii_gtr 3 ((e : Int) + (n - k) - 1022) 1023 false (decide_eq_false (by omega))
    have h0z : 0 < U z := Nat.pos_of_ne_zero fun e0 => by
      rw [e0, Nat.zero_mul] at h
      exact absurd h.symm (Nat.mul_ne_zero (Nat.ne_of_gt (U_pos h0)) (Nat.ne_of_gt (Nat.two_pow_pos _)))
    have hz0 : 0 < z := Nat.pos_of_ne_zero fun e0 => by rw [e0, U_zero] at h0z; exact absurd h0z (by decide)
    by_cases g2 : (e : Int) + (n - k) < 0
    · have c3 := ii_lss 3 ((e : Int) + (n - k) - 1022) (-1022) true (decide_eq_true (by omega))
      obtain ⟨K, hK⟩ : ∃ K : Nat, K = ((e : Int) + (n - k) + 53).toNat + 1 := ⟨_, rfl⟩
      rw [← hK] at l5
      have hK2 : K < 2047 := by omega
      have s3 : wrap64 ((e : Int) + (n - k) - 1022 + 53) = (K : Int) - 1023 := w64 (by omega) (by omega) (by omega)
      have s4 : wrap64 ((K : Int) - 1023 + 1023) = (K : Int) := w64 (by omega) (by omega) (by omega)
      have cv2 := run_conv_iu K (by omega)
      have o6 := w_or_walk s K f (by omega) hf
      have m := mul_drop s (K * 2 ^ 52 + f) z (by omega) hz (by omega) l5
      have o7 : ∀ W : World, (binOp .mul 25 (.float .f64 4368491638549381120) (.float .f64 (Ieee.double.word s (K * 2 ^ 52 + f)))).run Tryd.prog W = .ok (.float .f64 (Ieee.double.word s z)) W := fun W => fl_op _ _ W (fl_mul _ _ _ m)
      clear l1 l2 l3 l4 l5 hz g1 g2 wl wf h hab hU hL hy hf he hy0 hy1 hk h0 hr hn1 hn2 m hK2 hK h0z hz0
      generalize Ieee.double.word s r = x at *
      generalize Ieee.double.word s y = x1 at *
      generalize Ieee.double.word s f = x3 at *
      generalize Ieee.double.word s z = x4 at *
      generalize Ieee.double.word s (K * 2 ^ 52 + f) = x5 at *
      generalize (K : Int) - 1023 = i0 at *
      generalize (e : Int) + (n - k) - 1022 = i1 at *
      generalize (e : Int) - 1022 = i2 at *
      generalize n - k = i3 at *
      generalize -(k : Int) = i4 at *
      generalize (e : Int) + 1 = i5 at *
      go_enter Tryd.func60, Tryd.ntmps60
      go_wp2_with (first
        | (go_at_call 36; (with_reducible refine (I0.out _).mono ?_); rintro e w1 ⟨rfl, rfl⟩)
        | (go_at_call 35; (with_reducible refine (N0.out _).mono ?_); rintro e w1 ⟨rfl, rfl⟩)
        | (go_at_call 81; (with_reducible refine (M.out _).mono ?_); rintro e w1 ⟨rfl, rfl⟩)
        | simp only [f64bits, f64from])
      go_ret
      exact ⟨rfl, rfl⟩
    · have c3 := ii_lss 3 ((e : Int) + (n - k) - 1022) (-1022) false (decide_eq_false (by omega))
      obtain ⟨K, hK⟩ : ∃ K : Nat, K = ((e : Int) + (n - k)).toNat + 1 := ⟨_, rfl⟩
      have hzK := l4 (by omega)
      rw [← hK] at hzK
      have hK2 : K < 2047 := by omega
      have i0e : ((e : Int) + (n - k) - 1022) = (K : Int) - 1023 := by omega
      rw [i0e] at s2 c1 c2 c3
      have s4 : wrap64 ((K : Int) - 1023 + 1023) = (K : Int) := w64 (by omega) (by omega) (by omega)
      have cv2 := run_conv_iu K (by omega)
      have o6 := w_or_walk s K f (by omega) hf
      rw [← hzK] at o6
      have m := mul_same s z hz hz0
      have o7 : ∀ W : World, (binOp .mul 25 (.float .f64 4607182418800017408) (.float .f64 (Ieee.double.word s z))).run Tryd.prog W = .ok (.float .f64 (Ieee.double.word s z)) W := fun W => fl_op _ _ W (fl_mul _ _ _ m)
      clear l1 l2 l3 l4 l5 hz g1 g2 wl wf h hab hU hL hy hf he hy0 hy1 hk h0 hr hn1 hn2 m hK2 hK h0z hz0 hzK i0e
      generalize Ieee.double.word s r = x at *
      generalize Ieee.double.word s y = x1 at *
      generalize Ieee.double.word s f = x3 at *
      generalize Ieee.double.word s z = x4 at *
      generalize (K : Int) - 1023 = i0 at *
      generalize (e : Int) - 1022 = i2 at *
      generalize n - k = i3 at *
      generalize -(k : Int) = i4 at *
      generalize (e : Int) + 1 = i5 at *
      go_enter Tryd.func60, Tryd.ntmps60
      go_wp2_with (first
        | (go_at_call 36; (with_reducible refine (I0.out _).mono ?_); rintro e w1 ⟨rfl, rfl⟩)
        | (go_at_call 35; (with_reducible refine (N0.out _).mono ?_); rintro e w1 ⟨rfl, rfl⟩)
        | (go_at_call 81; (with_reducible refine (M.out _).mono ?_); rintro e w1 ⟨rfl, rfl⟩)
        | simp only [f64bits, f64from])
      go_ret
      exact ⟨rfl, rfl⟩
/-- What Ldexp comes to. -/
theorem ldexp_any (s : Bool) (r z a b : Nat) (n : Int) (hr : r < 2047 * 2 ^ 52) (hab : (b : Int) - a = n) (h : U z * 2 ^ a = U r * 2 ^ b) (hn1 : -1000000 ≤ n) (hn2 : n ≤ 1000000) (w : World) :
    Calls Tryd.prog 29 #[.float .f64 (Ieee.double.word s r), .int .i64 n] w fun e w' => e = .returned (.float .f64 (Ieee.double.word s (min z (2047 * 2 ^ 52)))) ∧ w = w' := by
  have L : Hid (∀ w : World, Calls Tryd.prog 60 #[.float .f64 (Ieee.double.word s r), .int .i64 n] w fun e w' => e = .returned (.float .f64 (Ieee.double.word s (min z (2047 * 2 ^ 52)))) ∧ w = w') := by
    by_cases h0 : r = 0
    · subst h0
      have hz : z = 0 := by
        refine Nat.le_antisymm (Nat.le_of_not_lt fun h1 => ?_) (Nat.zero_le _)
        rw [U_zero, Nat.zero_mul] at h
        exact absurd h (Nat.mul_ne_zero (Nat.ne_of_gt (U_pos h1)) (Nat.ne_of_gt (Nat.two_pow_pos _)))
      subst hz
      exact hide (ldexp_zero s n)
    · exact hide (ldexp_pos s r z a b n (by omega) hr hab h hn1 hn2)
  clear hr hab h hn1 hn2
  generalize Ieee.double.word s r = x at *
  generalize Ieee.double.word s (min z (2047 * 2 ^ 52)) = x1 at *
  go_enter Tryd.func29, Tryd.ntmps29
  go_wp2_with (go_at_call 60; (with_reducible refine (L.out _).mono ?_); rintro e w1 ⟨rfl, rfl⟩)
  go_ret
  exact ⟨rfl, rfl⟩
end Nt
end Go.Proofs.YtgmjdaallinicaaDoor
namespace Go.Proofs.YtgmjdaallinicaaDoor
open Go.RowKit Go.Shelf
namespace Nt

/-- The library's table. -/
def DeB (w : World) : Prop := TabAt 1 Lib.deBruijn64tab w
set_option maxHeartbeats 1000000 in
theorem tz_core (x k idx : Nat) (w : World) (hx0 : ((x : Int) == 0) = false)
    (key : IntKind.u64.wrap (bits BinOp.and IntKind.u64 (x : Int) (IntKind.u64.wrap (-(x : Int))) * 285870213051353865) / 288230376151711744 = (idx : Int))
    (hi : idx < 64) (hk : k < 64) (hcell : w.cell? ⟨1, idx, none⟩ = some (.int .u8 k)) :
    Calls Tryd.prog 33 #[.int .u64 x] w fun e w' => e = .returned (.int .i64 k) ∧ w = w' := by
  go_enter Tryd.func33, Tryd.ntmps33
  go_wp2_with (simp only [key])
  go_ret
  exact ⟨rfl, rfl⟩
theorem tz_any (x : Nat) (hx : x < 18446744073709551616) (hx0 : x ≠ 0) (w : World) (hT : DeB w) :
    Calls Tryd.prog 33 #[.int .u64 x] w fun e w' => e = .returned (.int .i64 (Lib.ctz 64 x)) ∧ w = w' := by
  obtain ⟨hlow, hk⟩ := Lib.lowest_bit 64 x hx0 hx
  obtain ⟨hi, htab⟩ := Lib.deBruijn64_at _ hk
  have hcell := hT _ hi
  rw [htab] at hcell
  exact tz_core x _ _ w (by simp; omega) (tz64_key x _ hx hx0 hlow) hi hk hcell
end Nt
end Go.Proofs.YtgmjdaallinicaaDoor
namespace Go.Proofs.YtgmjdaallinicaaDoor
namespace Nt

/-- How far a number is lifted to have 53 digits, or one more. -/
def lsh (bn bd : Nat) : Int := min (53 - (bn : Int) + bd) 1074
/-- What the quotient tells: its digits, the rung's power, and whether that is all. -/
structure Szs (n d q r : Nat) (sh : Int) (z sz t : Nat) (x : Bool) : Prop where
  hsz : sz = if q < 2 ^ 53 then q else q / 2
  hg : (1074 : Int) - t = if q < 2 ^ 53 then sh else sh - 1
  lt : sz < 2 ^ 53
  hz : z = t * 2 ^ 52 + sz
  fl : Fl n d z
  hu : U z = sz * 2 ^ t
  hx : x = decide (U z * d = n * KU)
  ex : x = (decide (r = 0) && (decide (q < 2 ^ 53) || decide (q % 2 = 0)))
  full : t = 0 ∨ 2 ^ 52 ≤ sz
  tle : t ≤ 6000
theorem size_math (n d bn bd : Nat) (hn : 2 ^ (bn - 1) ≤ n) (hn' : n < 2 ^ bn) (hd : 2 ^ (bd - 1) ≤ d) (hd' : d < 2 ^ bd) (h1 : 1 ≤ bn) (h2 : 1 ≤ bd) (h3 : bn ≤ 4096) (sh : Int) (hsh : lsh bn bd = sh) (a b q r : Nat) (ha : (-sh).toNat = a) (hb : sh.toNat = b)
    (hq : n * 2 ^ b / (d * 2 ^ a) = q) (hr : n * 2 ^ b % (d * 2 ^ a) = r) : q < 2 ^ 54 ∧ ∃ z sz t x, Szs n d q r sh z sz t x := by
  unfold lsh at hsh
  have hab : (b : Int) - a = sh := by omega
  have hD : 0 < d * 2 ^ a := Nat.mul_pos (Nat.lt_of_lt_of_le (Nat.two_pow_pos _) hd) (Nat.two_pow_pos _)
  have up : n * 2 ^ b < 2 ^ 54 * (d * 2 ^ a) := by
    have e1 : n * 2 ^ b < 2 ^ (bn + b) := by rw [Nat.pow_add]; exact Nat.mul_lt_mul_of_pos_right hn' (Nat.two_pow_pos _)
    have e2 : 2 ^ (54 + (bd - 1) + a) ≤ 2 ^ 54 * (d * 2 ^ a) := by rw [Nat.pow_add, Nat.pow_add, Nat.mul_assoc]; exact Nat.mul_le_mul_left _ (Nat.mul_le_mul_right _ hd)
    have e3 : 2 ^ (bn + b) ≤ 2 ^ (54 + (bd - 1) + a) := Nat.pow_le_pow_right (by decide) (by omega)
    omega
  have lo : sh < 1074 → 2 ^ 52 * (d * 2 ^ a) ≤ n * 2 ^ b := fun hs => by
    have e1 : 2 ^ (bn - 1 + b) ≤ n * 2 ^ b := by rw [Nat.pow_add]; exact Nat.mul_le_mul_right _ hn
    have e2 : 2 ^ 52 * (d * 2 ^ a) ≤ 2 ^ (52 + bd + a) := by rw [Nat.pow_add, Nat.pow_add, Nat.mul_assoc]; exact Nat.mul_le_mul_left _ (Nat.mul_le_mul_right _ (Nat.le_of_lt hd'))
    have e3 : 2 ^ (52 + bd + a) ≤ 2 ^ (bn - 1 + b) := Nat.pow_le_pow_right (by decide) (by omega)
    omega
  have dm := Nat.div_add_mod (n * 2 ^ b) (d * 2 ^ a)
  have ml := Nat.mod_lt (n * 2 ^ b) hD
  rw [hq, hr] at dm
  rw [hr] at ml
  have hq54 : q < 2 ^ 54 := by rw [← hq]; exact (Nat.div_lt_iff_lt_mul hD).2 up
  have hq52 : sh < 1074 → 2 ^ 52 ≤ q := fun hs => by rw [← hq]; exact (Nat.le_div_iff_mul_le hD).2 (lo hs)
  refine ⟨hq54, ?_⟩
  by_cases h : q < 2 ^ 53
  · obtain ⟨f1, f2, f3⟩ := fl_of n d q (1074 - sh).toNat h (by omega) sh a b (by omega) hab (by rw [Nat.mul_comm]; omega) (by rw [Nat.add_mul, Nat.one_mul, Nat.mul_comm q]; omega)
    refine ⟨_, q, (1074 - sh).toNat, _, { hsz := (if_pos h).symm, hg := by rw [if_pos h]; omega, lt := h, hz := rfl, fl := f1, hu := f2, hx := rfl, ex := ?_, full := by omega, tle := by omega }⟩
    rw [decide_eq_true h, Bool.true_or, Bool.and_true]
    refine decide_eq_decide.2 (f3.trans ?_)
    rw [Nat.mul_comm q]
    omega
  · have e2 : d * 2 ^ (a + 1) = 2 * (d * 2 ^ a) := by rw [Nat.pow_succ, ← Nat.mul_assoc, Nat.mul_comm]
    have dq := Nat.div_add_mod q 2
    have mq := Nat.mod_lt q (show 0 < 2 by decide)
    obtain ⟨D, hD'⟩ : ∃ D, d * 2 ^ a = D := ⟨_, rfl⟩
    obtain ⟨N, hN⟩ : ∃ N, n * 2 ^ b = N := ⟨_, rfl⟩
    rw [hD'] at dm ml hD e2
    rw [hN] at dm
    have m1 : q / 2 * (2 * D) = D * (2 * (q / 2)) := by rw [Nat.mul_comm, Nat.mul_comm 2 D, Nat.mul_assoc]
    have m2 : D * (2 * (q / 2)) + D * (q % 2) = D * q := by rw [← Nat.mul_add, dq]
    have m3 : D * (q % 2) ≤ D := by
      have : D * (q % 2) ≤ D * 1 := Nat.mul_le_mul_left _ (by omega)
      omega
    obtain ⟨f1, f2, f3⟩ := fl_of n d (q / 2) (1074 - (sh - 1)).toNat (by omega) (by omega) (sh - 1) (a + 1) b (by omega) (by omega) (by
      rw [e2, m1, hN]
      omega) (by rw [e2, Nat.add_mul, Nat.one_mul, m1, hN]; omega)
    refine ⟨_, q / 2, (1074 - (sh - 1)).toNat, _, { hsz := (if_neg h).symm, hg := by rw [if_neg h]; omega, lt := by omega, hz := rfl, fl := f1, hu := f2, hx := rfl, ex := ?_, full := by omega, tle := by omega }⟩
    rw [decide_eq_false h, Bool.false_or, ← Bool.decide_and]
    refine decide_eq_decide.2 (f3.trans ?_)
    rw [e2, m1, hN]
    constructor
    · intro he
      have hz : D * (q % 2) = 0 ∧ r = 0 := by omega
      refine ⟨hz.2, ?_⟩
      rcases Nat.mul_eq_zero.1 hz.1 with h0 | h0
      · omega
      · exact h0
    · rintro ⟨h1, h2⟩
      rw [h2, Nat.mul_zero] at m2
      omega
theorem fl_zero (d : Nat) (hd : 0 < d) : Fl 0 d 0 ∧ (true = decide (U 0 * d = 0 * KU)) := by
  refine ⟨⟨by rw [U_zero, Nat.zero_mul, Nat.zero_mul]; exact Nat.le_refl _, ?_⟩, ?_⟩
  · rw [U_one, Nat.zero_mul, Nat.one_mul]; exact hd
  · rw [U_zero, Nat.zero_mul, Nat.zero_mul]; rfl
/-- The rung of a number of 53 digits. -/
theorem rung_int (k : Nat) (h : k < 2 ^ 53) : ∃ y, y < 2047 * 2 ^ 52 ∧ U y = k * KU ∧ (k = 0 → y = 0) ∧ (0 < k → 0 < y) := by
  obtain ⟨y, hy⟩ := rep n74 k (by omega)
  rw [← KU_eq] at hy
  refine ⟨y, Nat.lt_of_not_le fun h1 => ?_, hy, fun h0 => ?_, fun h0 => ?_⟩
  · have h2 := U_le_iff.2 h1
    obtain ⟨c, hc⟩ : ∃ c, c = 2046 := ⟨_, rfl⟩
    rw [show 2047 * 2 ^ 52 = 2 ^ 52 * (c + 1) + 0 by omega, U_mk c 0 (by omega), hy] at h2
    have h3 : k * KU < 2 ^ 53 * 2 ^ n74 := by rw [KU_eq]; exact Nat.mul_lt_mul_of_pos_right h (Nat.two_pow_pos _)
    have h4 : 2 ^ 53 * 2 ^ n74 ≤ (2 ^ 52 + 0) * 2 ^ c := by
      rw [Nat.add_zero, ← Nat.pow_add, ← Nat.pow_add]
      exact Nat.pow_le_pow_right (by decide) (by have := n74_eq; omega)
    omega
  · refine Nat.le_antisymm (Nat.le_of_not_lt fun h1 => ?_) (Nat.zero_le _)
    have := U_pos h1
    rw [hy, h0, Nat.zero_mul] at this
    omega
  · refine Nat.pos_of_ne_zero fun h1 => ?_
    rw [h1, U_zero] at hy
    exact Nat.ne_of_gt (Nat.mul_pos h0 KU_pos) hy.symm
/-- By its digits and power. -/
theorem ld_units {z y sz t : Nat} (h1 : U z = sz * 2 ^ t) (h2 : U y = sz * KU) : U z * 2 ^ n74 = U y * 2 ^ t := by
  rw [h1, h2, KU_eq, Nat.mul_right_comm]
end Nt
end Go.Proofs.YtgmjdaallinicaaDoor
namespace Go.Proofs.YtgmjdaallinicaaDoor
namespace Nt

theorem rq_qmk (s : Bool) (r : Nat) : rq s r = qmk s (U r) KU := rfl
theorem sgz_mul_nat (s : Bool) (n m : Nat) : sgz s n * (m : Int) = sgz s (n * m) := by cases s <;> simp [sgz, Int.neg_mul]
theorem qmk_cross (s : Bool) {n d n' d' : Nat} (hd : 0 < d) (hd' : 0 < d') (h : n * d' = n' * d) : qmk s n d = qmk s n' d' := by
  unfold qmk
  rw [Rat.mkRat_eq_iff (Nat.ne_of_gt hd) (Nat.ne_of_gt hd'), sgz_mul_nat, sgz_mul_nat, h]
theorem rq_low (s : Bool) (r : Nat) {n d : Nat} (hd : 0 < d) (hc : Nat.gcd n d = 1) (h : U r * d = n * KU) : rq s r = qmk s n d ∧ qn (rq s r) = n ∧ qd (rq s r) = d ∧ qs (rq s r) = (s && decide (0 < n)) := by
  have e : rq s r = qmk s n d := (rq_qmk s r).trans (qmk_cross s KU_pos hd h)
  have h0 := Nat.ne_of_gt hd
  refine ⟨e, ?_, ?_, ?_⟩
  · rw [e, qn_mk s n h0, hc, Nat.div_one]
  · rw [e, qd_mk s n h0, hc, Nat.div_one]
  · rw [e, qs_mk s n h0, hc, Nat.div_one]
theorem odd_cop (o k : Nat) (h : o % 2 = 1) : Nat.gcd o (2 ^ k) = 1 := by
  refine Nat.Coprime.pow_right k ?_
  refine Nat.Coprime.symm ?_
  show Nat.gcd 2 o = 1
  rw [Nat.gcd_rec, h]
  decide
theorem odd_gcd (o : Nat) (p : Int) (h : o % 2 = 1) : Nat.gcd (o * 2 ^ p.toNat) (2 ^ (-p).toNat) = 1 := by
  by_cases hp : 0 ≤ p
  · rw [show (-p).toNat = 0 by omega, Nat.pow_zero, Nat.gcd_one_right]
  · rw [show p.toNat = 0 by omega, Nat.pow_zero, Nat.mul_one]
    exact odd_cop o _ h
theorem lifts_units {r y k e f : Nat} (h : Lifts r y k) (hy : y = 2 ^ 52 * (e + 1) + f) (hf : f < 2 ^ 52) : (2 ^ 52 + f) * 2 ^ e = U r * 2 ^ k := by
  rw [← h.facts.2.2.2.2.2, hy, U_mk e f hf]
/-- What a number above 0 is, by its digits 'm' and power 'p'. -/
theorem units_cross {r k e m o j : Nat} (h : m * 2 ^ e = U r * 2 ^ k) (hm : m = o * 2 ^ j) (p : Int) (hp : (e : Int) - k - 1074 + j = p) : U r * 2 ^ (-p).toNat = o * 2 ^ p.toNat * KU := by
  refine Nat.eq_of_mul_eq_mul_right (Nat.two_pow_pos k) ?_
  rw [Nat.mul_right_comm, ← h, hm, KU_eq, Nat.mul_assoc, Nat.mul_assoc, Nat.mul_assoc, Nat.mul_assoc, ← Nat.pow_add, ← Nat.pow_add, ← Nat.pow_add, ← Nat.pow_add]
  congr 2
  have := n74_eq
  omega
theorem back_math (s : Bool) {r y k e f : Nat} (h : Lifts r y k) (hy : y = 2 ^ 52 * (e + 1) + f) (hf : f < 2 ^ 52) : ∃ o, 2 ^ 52 + f = o * 2 ^ Lib.ctz 64 (2 ^ 52 + f) ∧ o % 2 = 1 ∧ Lib.ctz 64 (2 ^ 52 + f) < 64 ∧ 0 < o ∧ o < 2 ^ 53
    ∧ ∀ p : Int, (e : Int) - k - 1074 + (Lib.ctz 64 (2 ^ 52 + f) : Nat) = p → qn (rq s r) = o * 2 ^ p.toNat ∧ qd (rq s r) = 2 ^ (-p).toNat ∧ qs (rq s r) = s := by
  obtain ⟨m, hm, hk⟩ := Lib.ctzFrom_spec 64 (2 ^ 52 + f) (by omega) (by omega)
  have ec : Lib.ctz 64 (2 ^ 52 + f) = Lib.ctzFrom 64 (2 ^ 52 + f) := by
    unfold Lib.ctz
    rw [if_neg (by omega)]
  rw [ec]
  generalize Lib.ctzFrom 64 (2 ^ 52 + f) = j at *
  have h1 : 2 ^ 52 + f = (2 * m + 1) * 2 ^ j := by rw [hm, Nat.mul_comm]
  have h2 : 2 * m + 1 ≤ 2 ^ 52 + f := by rw [h1]; exact Nat.le_mul_of_pos_right _ (Nat.two_pow_pos _)
  refine ⟨2 * m + 1, h1, by omega, hk, by omega, by omega, fun p hp => ?_⟩
  have hc := units_cross (lifts_units h hy hf) h1 p hp
  obtain ⟨-, r1, r2, r3⟩ := rq_low s r (Nat.two_pow_pos _) (odd_gcd (2 * m + 1) p (by omega)) hc
  refine ⟨r1, r2, ?_⟩
  rw [r3, decide_eq_true (Nat.mul_pos (by omega) (Nat.two_pow_pos _)), Bool.and_true]
/-- The same by digits that are not cut: what the reference makes. -/
theorem back_ref (s : Bool) {r y k e f : Nat} (h : Lifts r y k) (hy : y = 2 ^ 52 * (e + 1) + f) (hf : f < 2 ^ 52) (p : Int) (hp : (e : Int) - k - 1074 = p) : qmk s ((2 ^ 52 + f) * 2 ^ p.toNat) (2 ^ (-p).toNat) = rq s r := by
  refine (qmk_cross s (Nat.two_pow_pos _) KU_pos ?_).trans (rq_qmk s r).symm
  exact (units_cross (lifts_units h hy hf) (o := 2 ^ 52 + f) (j := 0) (by rw [Nat.pow_zero, Nat.mul_one]) p (by omega)).symm
theorem rq_fit (s : Bool) {r : Nat} (hr : r < 2047 * 2 ^ 52) : fitq (rq s r) := by
  by_cases h0 : r = 0
  · subst h0
    rw [rq_zero]
    exact ⟨by rw [show qn 0 = 0 from rfl, ln_zero]; decide, by rw [show qd 0 = 1 from rfl, ln_one]; decide⟩
  obtain ⟨y, k, h⟩ := lifts_any (by omega) hr
  obtain ⟨-, -, h1, h2, h3, -⟩ := h.facts
  obtain ⟨e, f, hf, hy⟩ := rung_split y (by omega)
  obtain ⟨o, -, -, hj, -, ho, hh⟩ := back_math s h hy hf
  obtain ⟨e1, e2, -⟩ := hh _ rfl
  generalize Lib.ctz 64 (2 ^ 52 + f) = j at *
  have big : ∀ t : Nat, t ≤ 4000 → ∀ x : Nat, x < 2 ^ 53 → x * 2 ^ t < LB ^ 64 := fun t ht x hx => by
    have a1 : x * 2 ^ t < 2 ^ 53 * 2 ^ t := Nat.mul_lt_mul_of_pos_right hx (Nat.two_pow_pos _)
    rw [← Nat.pow_add] at a1
    obtain ⟨K, hK⟩ : ∃ K, K = 64 := ⟨_, rfl⟩
    have a2 : 2 ^ (53 + t) ≤ 2 ^ (64 * K) := Nat.pow_le_pow_right (by decide) (by omega)
    have a3 : LB ^ K = 2 ^ (64 * K) := by rw [LB_eq, show 18446744073709551616 = 2 ^ 64 by decide, ← Nat.pow_mul]
    have a4 : x * 2 ^ t < LB ^ K := by rw [a3]; exact Nat.lt_of_lt_of_le a1 a2
    rwa [hK] at a4
  refine ⟨ln_le (k := 64) ?_, ln_le (k := 64) ?_⟩
  · rw [e1]
    exact big _ (by omega) o ho
  · rw [e2]
    have := big (-((e : Int) - k - 1074 + j)).toNat (by omega) 1 (by decide)
    rwa [Nat.one_mul] at this
end Nt
end Go.Proofs.YtgmjdaallinicaaDoor
namespace Go.Proofs.YtgmjdaallinicaaDoor
open Go.RowKit
namespace Nt

theorem finite_w (s : Bool) (r : Nat) (hr : r ≤ 2047 * 2 ^ 52) (b : Bool) (hb : decide (r < 2047 * 2 ^ 52) = b) (w : World) :
    Calls Tryd.prog 30 #[.float .f64 (Ieee.double.word s r)] w fun e w' => e = .returned (.bool b) ∧ w = w' := by
  have N0 := hide (isnan_f s r hr)
  cases b with
  | true =>
    have I0 := hide (isinf0 s r hr false (decide_eq_false (by have := of_decide_eq_true hb; omega)))
    clear hb hr
    generalize Ieee.double.word s r = x at *
    go_enter Tryd.func30, Tryd.ntmps30
    go_wp2_with (first
      | (go_at_call 36; (with_reducible refine (I0.out _).mono ?_); rintro e w1 ⟨rfl, rfl⟩)
      | (go_at_call 35; (with_reducible refine (N0.out _).mono ?_); rintro e w1 ⟨rfl, rfl⟩))
    go_ret
    exact ⟨rfl, rfl⟩
  | false =>
    have I0 := hide (isinf0 s r hr true (decide_eq_true (by have := of_decide_eq_false hb; omega)))
    clear hb hr
    generalize Ieee.double.word s r = x at *
    go_enter Tryd.func30, Tryd.ntmps30
    go_wp2_with (first
      | (go_at_call 36; (with_reducible refine (I0.out _).mono ?_); rintro e w1 ⟨rfl, rfl⟩)
      | (go_at_call 35; (with_reducible refine (N0.out _).mono ?_); rintro e w1 ⟨rfl, rfl⟩))
    go_ret
    exact ⟨rfl, rfl⟩
theorem finite_nan (x : Nat) (h : (Ieee.double.order x x != some .eq) = true) (w : World) :
    Calls Tryd.prog 30 #[.float .f64 x] w fun e w' => e = .returned (.bool false) ∧ w = w' := by
  have N0 := hide (isnan_any x true h)
  clear h
  go_enter Tryd.func30, Tryd.ntmps30
  go_wp2_with (go_at_call 35; (with_reducible refine (N0.out _).mono ?_); rintro e w1 ⟨rfl, rfl⟩)
  go_ret
  exact ⟨rfl, rfl⟩
/-- 'shifted' of a trimmed row. -/
theorem shifted_z (A : Option Addr) (c x : Nat) (n : Int) (z : Nat) (hz : x * 2 ^ n.toNat = z) (w : World) (sx : Sl w A (digs x)) (hx : ln x ≤ 10000) (hn : n ≤ 10000) :
    Calls Tryd.prog 34 #[.slice A (ln x) c, .int .i64 n] w (Rd w z) := by
  by_cases h0 : n ≤ 0
  · have e : x = z := by rw [← hz, show n.toNat = 0 by omega, Nat.pow_zero, Nat.mul_one]
    have R := hide (Rd.mk' (c := c) e sx (.refl w.heap.size w))
    have o : binOp .leq 3 (.int .i64 n) (.int .i64 0) = pure (.bool true) := by
      show pure (Value.bool (decide (n ≤ 0))) = _
      rw [decide_eq_true h0]
    clear e sx hx hz h0 hn
    generalize ln x = m at *
    go_enter Tryd.func34, Tryd.ntmps34
    go_wp2
    go_ret
    exact R.out
  · have o : binOp .leq 3 (.int .i64 n) (.int .i64 0) = pure (.bool false) := by
      show pure (Value.bool (decide (n ≤ 0))) = _
      rw [decide_eq_false h0]
    obtain ⟨k, hk⟩ : ∃ k : Nat, n = k := ⟨n.toNat, by omega⟩
    have hkn : n.toNat = k := by omega
    rw [hkn] at hz
    have U0 := shiftUp_any A c k (digs x) w sx (limbs_digs _) (Nat.le_trans hx (by decide)) (by omega)
    rw [val_digs, hz, ← hk] at U0
    have U1 : Hid (Calls Tryd.prog 66 #[.slice A (ln x) c, .int .i64 n] w fun e w' => ∃ g N out, e = .returned (.slice (some ⟨g, 0, none⟩) N N) ∧ out.length = N ∧ N ≤ 300000 ∧ digs z = trimz out ∧ Limbs out ∧ Own w' w.heap.size g N out ∧ Below w.heap.size w w') := U0
    have T := hide (fun (g N : Nat) (out : List Nat) (W : World) (h1 : out.length = N) (h2 : N ≤ 300000) (h3 : digs z = trimz out) (h4 : Own W w.heap.size g N out) (h5 : Below w.heap.size w W) =>
      ((trim_n (some ⟨g, 0, none⟩) N N out W h1 h4.sl (Nat.le_refl _) (by omega)).mono fun e w' ⟨e1, e2⟩ => (by
        subst e2
        rw [e1, ← h3]
        exact Rd.mk (by rw [h3]; exact h4.trim.sl) h5 : Rd w z e w')))
    clear U0 sx hx hz h0 hn hk hkn
    generalize ln x = m at *
    go_enter Tryd.func34, Tryd.ntmps34
    go_wp2_with (first
      | (go_at_call 66; (with_reducible refine (U1.out).mono ?_); rintro e w1 ⟨g, N, out, rfl, h1, h2, h3, h4, h5, h6⟩; have TT := hide (T.out g N out w1 h1 h2 h3 h5 h6); clear h1 h2 h3 h4 h5 h6)
      | (go_at_call 65; (with_reducible refine (TT.out).mono ?_); rintro e w2 ⟨A2, c2, rfl, s2, b2⟩; have R := hide (Rd.mk (c := c2) s2 b2); clear s2 b2))
    go_ret
    exact R.out
end Nt
end Go.Proofs.YtgmjdaallinicaaDoor
namespace Go.Proofs.YtgmjdaallinicaaDoor
open Go.RowKit
namespace Nt

theorem ii_neg (x y : Int) (h : -x = y) (h1 : -9223372036854775808 ≤ y) (h2 : y ≤ 9223372036854775807) : Op.unary .neg (.int .i64 x) = pure (.int .i64 y) := by
  have e : IntKind.i64.wrap (0 - x) = y := by rw [← h, Int.zero_sub]; exact IntWalk.i64_in _ ⟨by omega, by omega⟩
  rw [← e]
  rfl
theorem loR_of {z : Nat} (h : z < 2047 * 2 ^ 52) : loR z = z := Nat.min_eq_left (by omega)
theorem loR_big {z : Nat} (h : 2047 * 2 ^ 52 ≤ z) : loR z = 2047 * 2 ^ 52 - 1 := Nat.min_eq_right (by omega)
theorem hiR_big {z : Nat} (x : Bool) (h : 2047 * 2 ^ 52 ≤ z) : hiR z x = 2047 * 2 ^ 52 := by
  unfold hiR
  refine Nat.min_eq_right ?_
  cases x
  · exact Nat.le_succ_of_le h
  · exact h
theorem hiR_t {z : Nat} (h : z ≤ 2047 * 2 ^ 52) : hiR z true = z := by unfold hiR; rw [if_pos rfl]; exact Nat.min_eq_left h
theorem hiR_f {z : Nat} (h : z < 2047 * 2 ^ 52) : hiR z false = z + 1 := by unfold hiR; rw [if_neg (by decide)]; exact Nat.min_eq_left h
theorem cap_le (z : Nat) : min z (2047 * 2 ^ 52) ≤ 2047 * 2 ^ 52 := Nat.min_le_right _ _
theorem cap_ov {z : Nat} : decide (min z (2047 * 2 ^ 52) = 2047 * 2 ^ 52) = decide (2047 * 2 ^ 52 ≤ z) := decide_eq_decide.2 ⟨fun h => h ▸ Nat.min_le_left _ _, fun h => Nat.min_eq_right h⟩
theorem top_val : 2047 * 2 ^ 52 - 1 = 9218868437227405311 := rfl
theorem w_top : Ieee.double.word false (2047 * 2 ^ 52 - 1) = 9218868437227405311 := rfl
theorem nx_up {z : Nat} (hz : z < 2047 * 2 ^ 52) : nx false z false (2047 * 2 ^ 52) = (false, z + 1) := by
  have h1 := U_lt hz
  unfold nx
  rw [I_f, I_f, if_neg (by omega)]
  by_cases h0 : z = 0
  · rw [if_pos h0, h0]
  · have := U_pos (Nat.pos_of_ne_zero h0)
    rw [if_neg h0, decide_eq_true (by omega), decide_eq_true (by omega)]
    rfl
theorem run_conv_uf (n : Nat) (y : Nat) (hy : y < 2047 * 2 ^ 52) (h : U y = n * KU) (W : World) : (convert 54 25 (.int .u64 (n : Int))).run Tryd.prog W = .ok (.float .f64 (Ieee.double.word false y)) W := by
  have e : floatOfInt .f64 (n : Int) = Ieee.double.word false y := by
    rw [float_of (n : Int) y hy (by rw [h]; rfl), decide_eq_false (by omega)]
  have : (convert 54 25 (.int .u64 (n : Int))).run Tryd.prog W = .ok (.float .f64 (floatOfInt .f64 (n : Int))) W := by kernel_rfl
  rw [this, e]
theorem digs_small {q : Nat} (h0 : 0 < q) (h : q < 2 ^ 54) : digs q = [q] := digs1 (by omega) (by omega)
theorem ln_small {q : Nat} (h0 : 0 < q) (h : q < 2 ^ 54) : ln q = 1 := by unfold ln; rw [digs_small h0 h]; rfl
/-- What 'sizes' goes through. -/
structure SzF (n d z : Nat) (x : Bool) (sh g : Int) (N D q r sz y : Nat) : Prop where
  hsh : lsh (blen n) (blen d) = sh
  hN : n * 2 ^ sh.toNat = N
  hD : d * 2 ^ (-sh).toNat = D
  dp : 0 < D
  hq : N / D = q
  hr : N % D = r
  q54 : q < 2 ^ 54
  hsz : sz = if q < 2 ^ 53 then q else q / 2
  hg : g = if q < 2 ^ 53 then sh else sh - 1
  hy : U y = sz * KU
  ylt : y < 2047 * 2 ^ 52
  hz : ∃ a b : Nat, (b : Int) - a = -g ∧ U z * 2 ^ a = U y * 2 ^ b
  ex : x = (decide (r = 0) && (decide (q < 2 ^ 53) || decide (q % 2 = 0)))
theorem blen_ln {n : Nat} (h : ln n ≤ 64) : blen n ≤ 4096 := by
  refine blen_le_iff.2 ?_
  have h1 := lt_of_ln h
  obtain ⟨K, hK⟩ : ∃ K, K = 64 := ⟨_, rfl⟩
  obtain ⟨M, hM⟩ : ∃ M, M = 4096 := ⟨_, rfl⟩
  have e : LB ^ K = 2 ^ M := by rw [LB_eq, show 18446744073709551616 = 2 ^ 64 by decide, ← Nat.pow_mul]; congr 1; omega
  rw [← hK, e] at h1
  rwa [← hM]
theorem ln_up (n k : Nat) (h : ln n ≤ 64) (hk : k ≤ 6000) : ln (n * 2 ^ k) ≤ 1000 := by
  obtain ⟨K, hK⟩ : ∃ K, K = 100 := ⟨_, rfl⟩
  have e : LB ^ K = 2 ^ (64 * K) := by rw [LB_eq, show 18446744073709551616 = 2 ^ 64 by decide, ← Nat.pow_mul]
  have h2 : ln (2 ^ k) ≤ K := ln_le (by rw [e]; exact Nat.pow_lt_pow_right (by decide) (by omega))
  have := ln_mul n (2 ^ k)
  omega
theorem szf_any (n d z : Nat) (x : Bool) (hn : ln n ≤ 64) (hd : ln d ≤ 64) (d0 : 0 < d) (hf : Fl n d z) (hx : x = decide (U z * d = n * KU)) : ∃ sh g N D q r sz y, SzF n d z x sh g N D q r sz y := by
  have b1 := blen_ln hn
  have b2 := blen_ln hd
  have bd := blen_lo (n := d) (by omega)
  by_cases h0 : n = 0
  · subst h0
    obtain ⟨f0, x0⟩ := fl_zero d d0
    obtain rfl := hf.one f0
    obtain rfl : x = true := by rw [hx, ← x0]
    have hD : 0 < d * 2 ^ (-lsh (blen 0) (blen d)).toNat := Nat.mul_pos d0 (Nat.two_pow_pos _)
    have hs : lsh (blen 0) (blen d) ≤ 1074 ∧ 0 ≤ lsh (blen 0) (blen d) := by unfold lsh; rw [blen_zero]; omega
    refine ⟨_, _, _, _, 0, 0, 0, 0, { hsh := rfl, hN := rfl, hD := rfl, dp := hD, hq := ?_, hr := ?_, q54 := by decide, hsz := rfl, hg := rfl, hy := by rw [U_zero, Nat.zero_mul], ylt := by decide, hz := ?_, ex := rfl }⟩
    · rw [Nat.zero_mul, Nat.zero_div]
    · rw [Nat.zero_mul, Nat.zero_mod]
    · rw [if_pos (by decide)]
      exact ⟨(lsh (blen 0) (blen d)).toNat, 0, by omega, by rw [U_zero, Nat.zero_mul, Nat.zero_mul]⟩
  · have bn := blen_lo (n := n) h0
    obtain ⟨q54, z', sz, t, x', S⟩ := size_math n d (blen n) (blen d) bn.2 (blen_hi n) bd.2 (blen_hi d) bn.1 bd.1 b1 _ rfl _ _ _ _ rfl rfl rfl rfl
    obtain rfl := hf.one S.fl
    obtain rfl : x = x' := by rw [hx, S.hx]
    obtain ⟨y, hy1, hy2, -, -⟩ := rung_int sz S.lt
    refine ⟨_, _, _, _, _, _, sz, y, { hsh := rfl, hN := rfl, hD := rfl, dp := Nat.mul_pos d0 (Nat.two_pow_pos _), hq := rfl, hr := rfl, q54 := q54, hsz := S.hsz, hg := rfl, hy := hy2, ylt := hy1, hz := ?_, ex := S.ex }⟩
    refine ⟨n74, t, ?_, ld_units S.hu hy2⟩
    have := S.hg
    have := n74_eq
    omega
set_option maxRecDepth 100000 in
set_option maxHeartbeats 1000000 in
theorem sizes_any (A B : Option Addr) (c m n d z : Nat) (x : Bool) (w : World) (sA : Sl w A (digs n)) (sB : Sl w B (digs d)) (hn : ln n ≤ 64) (hd : ln d ≤ 64) (d0 : 0 < d) (hf : Fl n d z) (hx : x = decide (U z * d = n * KU)) :
    Calls Tryd.prog 41 #[.slice A (ln n) c, .slice B (ln d) m] w fun e w' => e = .returned (.tuple #[.float .f64 (Ieee.double.word false (loR z)), .float .f64 (Ieee.double.word false (hiR z x))]) ∧ Below w.heap.size w w' := by
  obtain ⟨sh, g, N, D, q, r, sz, y, S⟩ := szf_any n d z x hn hd d0 hf hx
  have bl1 := blen_ln hn
  have bl2 := blen_ln hd
  have bd := blen_lo (n := d) (by omega)
  have hsh := S.hsh
  unfold lsh at hsh
  obtain ⟨b1, e1⟩ : ∃ b : Int, ((blen n : Nat) : Int) = b := ⟨_, rfl⟩
  obtain ⟨b2, e2⟩ : ∃ b : Int, ((blen d : Nat) : Int) = b := ⟨_, rfl⟩
  have B1 := hide (fun W (k : Below w.heap.size w W) => bits_num A (ln n) c n W rfl (kp' k sA) (lt_of_ln hn))
  have B2 := hide (fun W (k : Below w.heap.size w W) => bits_num B (ln d) m d W rfl (kp' k sB) (lt_of_ln hd))
  rw [e1] at B1 hsh
  rw [e2] at B2 hsh
  have r1 : -5000 ≤ b1 ∧ b1 ≤ 5000 := by omega
  have r2 : -5000 ≤ b2 ∧ b2 ≤ 5000 := by omega
  obtain ⟨i1, hi1⟩ : ∃ i : Int, 53 - b1 = i := ⟨_, rfl⟩
  obtain ⟨i2, hi2⟩ : ∃ i : Int, i1 + b2 = i := ⟨_, rfl⟩
  rw [hi1, hi2] at hsh
  have s1 := ii_sub 3 53 b1 i1 hi1 (by omega) (by omega)
  have s2 := ii_add 3 i1 b2 i2 hi2 (by omega) (by omega)
  have rs : -5000 ≤ sh ∧ sh ≤ 1074 := by omega
  have lN : ln N ≤ 1000 := by rw [← S.hN]; exact ln_up n _ hn (by omega)
  have lD : ln D ≤ 1000 := by rw [← S.hD]; exact ln_up d _ hd (by omega)
  have H1 := hide (fun W (k : Below w.heap.size w W) => shifted_z A c n sh N S.hN W (kp' k sA) (Nat.le_trans hn (by decide)) (by omega))
  have H2 := hide (fun W (k : Below w.heap.size w W) => shifted_z B m d (-sh) D S.hD W (kp' k sB) (Nat.le_trans hd (by decide)) (by omega))
  have DM := hide (fun X Y e f W (s : Sl W X (digs N)) (t : Sl W Y (digs D)) => ldiv_z X Y e f N D W s t (Nat.le_trans lN (by decide)) (Nat.le_trans lD (by decide)) S.dp q r S.hq S.hr)
  rw [← hsh] at H1
  obtain ⟨nh, hnh⟩ : ∃ i : Int, -sh = i := ⟨_, rfl⟩
  rw [hnh] at H2
  have s3 := ii_neg (min i2 1074) nh (by omega) (by omega) (by omega)
  obtain ⟨i6, hi6⟩ : ∃ i : Int, sh - 1 = i := ⟨_, rfl⟩
  have s4 := ii_sub 3 (min i2 1074) 1 i6 (by omega) (by omega) (by omega)
  have s5 := ii_neg i6 (nh + 1) (by omega) (by omega) (by omega)
  obtain ⟨za, zb, hz1, hz2⟩ := S.hz
  have q54 := S.q54
  obtain ⟨br, hbr⟩ : ∃ b, decide (r = 0) = b := ⟨_, rfl⟩
  have o0 : binOp .eql 3 (.int .i64 (ln r : Int)) (.int .i64 0) = pure (.bool br) := by
    show pure (Value.bool (decide ((ln r : Int) = 0))) = _
    rw [← hbr]; congr 2; refine decide_eq_decide.2 ?_; rw [← ln_eq_zero (n := r)]; omega
  have hex := S.ex
  rw [hbr] at hex
  obtain ⟨low, hlow⟩ : ∃ f, Ieee.double.word false (min z (2047 * 2 ^ 52)) = f := ⟨_, rfl⟩
  obtain ⟨ov, hov⟩ : ∃ b, decide (2047 * 2 ^ 52 ≤ z) = b := ⟨_, rfl⟩
  have II := hide (isinf0 false (min z (2047 * 2 ^ 52)) (cap_le z) ov (cap_ov.trans hov))
  have J1 := hide minf1
  rw [hlow] at II
  have cv := run_conv_uf sz y S.ylt S.hy
  have LD := hide (ldexp_any false y z za zb (-g) S.ylt hz1 hz2 (by have := S.hg; split at this <;> omega) (by have := S.hg; split at this <;> omega))
  rw [hlow] at LD
  obtain ⟨inf, hinf⟩ : ∃ f, Ieee.double.word false (2047 * 2 ^ 52) = f := ⟨_, rfl⟩
  rw [hinf] at J1
  have E1 : Hid (ov = true → Ieee.double.word false (loR z) = 9218868437227405311 ∧ Ieee.double.word false (hiR z x) = low) := hide fun h => by
    have h1 := of_decide_eq_true (hov.trans h)
    rw [loR_big h1, hiR_big x h1, ← hlow, Nat.min_eq_right h1]
    exact ⟨w_top, rfl⟩
  have E2 : Hid (ov = false → x = true → Ieee.double.word false (loR z) = low ∧ Ieee.double.word false (hiR z x) = low) := hide fun h k => by
    have h1 := Nat.lt_of_not_le (of_decide_eq_false (hov.trans h))
    rw [loR_of h1, k, hiR_t (Nat.le_of_lt h1), ← hlow, Nat.min_eq_left (Nat.le_of_lt h1)]
    exact ⟨rfl, rfl⟩
  have NX : Hid (ov = false → x = false → Ieee.double.word false (loR z) = low ∧ ∀ W, Calls Tryd.prog 18 #[.float .f64 low, .float .f64 inf] W fun e w' => e = .returned (.float .f64 (Ieee.double.word false (hiR z x))) ∧ W = w') := hide fun h k => by
    have h1 := Nat.lt_of_not_le (of_decide_eq_false (hov.trans h))
    rw [loR_of h1, k, hiR_f h1, ← hlow, Nat.min_eq_left (Nat.le_of_lt h1), ← hinf]
    exact ⟨rfl, fun W => nextafter_any false z false (2047 * 2 ^ 52) (Nat.le_of_lt h1) (Nat.le_refl _) false (z + 1) (nx_up h1) W⟩
  have hsz := S.hsz
  have hg := S.hg
  have b0 : Below w.heap.size w w := .refl _ _
  clear hf hx sA sB bl1 bl2 bd e1 e2 r1 r2 hi1 hi2 hn hd d0 lN lD S hz1 hz2 hbr hov hlow hinf
  generalize Ieee.double.word false y = y1 at *
  generalize Ieee.double.word false (loR z) = lo at *
  generalize Ieee.double.word false (hiR z x) = hi at *
  generalize ln n = n1 at *
  generalize ln d = n2 at *
  generalize ln r = n3 at *
  by_cases q0 : q = 0
  · subst q0
    rw [if_pos (by decide)] at hsz hg
    obtain rfl : sz = 0 := hsz
    obtain rfl : x = br := by rw [hex, decide_eq_true (show 0 < 2 ^ 53 by decide), Bool.true_or, Bool.and_true]
    rw [ln_zero] at DM
    rw [show -g = nh by omega] at LD
    have cv : ∀ W : World, (convert 54 25 (.int .u64 0)).run Tryd.prog W = .ok (.float .f64 y1) W := cv
    clear hex hg q54 hnh s4 s5 hi6 hsh rs
    cases ov with
    | true =>
      obtain ⟨rfl, rfl⟩ := E1.out rfl
      clear E1 E2 NX
      go_enter Tryd.func41, Tryd.ntmps41
      go_wp2_with (first
          | (go_at_call 73; (with_reducible refine (B1.out _ b0).mono ?_); rintro e w1 ⟨rfl, rfl⟩)
          | (go_at_call 73; (with_reducible refine (B2.out _ b0).mono ?_); rintro e w1 ⟨rfl, rfl⟩)
          | (go_at_call 34; (with_reducible refine (H1.out _ b0).mono ?_); rintro e w1 ⟨A1, c1, rfl, t1, m1⟩)
          | (go_at_call 34; (with_reducible refine (H2.out _ m1).mono ?_); rintro e w2 ⟨A2, c2, rfl, t2, hb⟩; have t1 := kp' hb t1; have m2 := bl_trans m1 hb; clear hb)
          | (go_at_call 74; (with_reducible refine (DM.out A1 A2 c1 c2 _ t1 t2).mono ?_); rintro e w3 ⟨A3, c3, B3, d3, rfl, t3, t4, hb⟩; have m3 := bl_trans m2 hb; clear hb t1 t2 t3 t4)
          | (go_at_call 29; (with_reducible refine (LD.out _).mono ?_); rintro e v1 ⟨rfl, rfl⟩)
          | (go_at_call 36; (with_reducible refine (II.out _).mono ?_); rintro e v1 ⟨rfl, rfl⟩)
          | (go_at_call 19; (with_reducible refine (J1.out _).mono ?_); rintro e v1 ⟨rfl, rfl⟩))
      go_ret2
      exact ⟨rfl, m3⟩
    | false =>
      cases x with
      | true =>
        obtain ⟨rfl, rfl⟩ := E2.out rfl rfl
        clear E1 E2 NX
        go_enter Tryd.func41, Tryd.ntmps41
        go_wp2_with (first
          | (go_at_call 73; (with_reducible refine (B1.out _ b0).mono ?_); rintro e w1 ⟨rfl, rfl⟩)
          | (go_at_call 73; (with_reducible refine (B2.out _ b0).mono ?_); rintro e w1 ⟨rfl, rfl⟩)
          | (go_at_call 34; (with_reducible refine (H1.out _ b0).mono ?_); rintro e w1 ⟨A1, c1, rfl, t1, m1⟩)
          | (go_at_call 34; (with_reducible refine (H2.out _ m1).mono ?_); rintro e w2 ⟨A2, c2, rfl, t2, hb⟩; have t1 := kp' hb t1; have m2 := bl_trans m1 hb; clear hb)
          | (go_at_call 74; (with_reducible refine (DM.out A1 A2 c1 c2 _ t1 t2).mono ?_); rintro e w3 ⟨A3, c3, B3, d3, rfl, t3, t4, hb⟩; have m3 := bl_trans m2 hb; clear hb t1 t2 t3 t4)
          | (go_at_call 29; (with_reducible refine (LD.out _).mono ?_); rintro e v1 ⟨rfl, rfl⟩)
          | (go_at_call 36; (with_reducible refine (II.out _).mono ?_); rintro e v1 ⟨rfl, rfl⟩)
          | (go_at_call 19; (with_reducible refine (J1.out _).mono ?_); rintro e v1 ⟨rfl, rfl⟩))
        go_ret2
        exact ⟨rfl, m3⟩
      | false =>
        obtain ⟨rfl, nx⟩ := NX.out rfl rfl
        have NX2 := hide nx
        clear E1 E2 NX nx
        go_enter Tryd.func41, Tryd.ntmps41
        go_wp2_with (first
          | (go_at_call 73; (with_reducible refine (B1.out _ b0).mono ?_); rintro e w1 ⟨rfl, rfl⟩)
          | (go_at_call 73; (with_reducible refine (B2.out _ b0).mono ?_); rintro e w1 ⟨rfl, rfl⟩)
          | (go_at_call 34; (with_reducible refine (H1.out _ b0).mono ?_); rintro e w1 ⟨A1, c1, rfl, t1, m1⟩)
          | (go_at_call 34; (with_reducible refine (H2.out _ m1).mono ?_); rintro e w2 ⟨A2, c2, rfl, t2, hb⟩; have t1 := kp' hb t1; have m2 := bl_trans m1 hb; clear hb)
          | (go_at_call 74; (with_reducible refine (DM.out A1 A2 c1 c2 _ t1 t2).mono ?_); rintro e w3 ⟨A3, c3, B3, d3, rfl, t3, t4, hb⟩; have m3 := bl_trans m2 hb; clear hb t1 t2 t3 t4)
          | (go_at_call 29; (with_reducible refine (LD.out _).mono ?_); rintro e v1 ⟨rfl, rfl⟩)
          | (go_at_call 36; (with_reducible refine (II.out _).mono ?_); rintro e v1 ⟨rfl, rfl⟩)
          | (go_at_call 19; (with_reducible refine (J1.out _).mono ?_); rintro e v1 ⟨rfl, rfl⟩)
          | (go_at_call 18; (with_reducible refine (NX2.out _).mono ?_); rintro e v1 ⟨rfl, rfl⟩))
        go_ret2
        exact ⟨rfl, m3⟩
  · rw [ln_small (by omega) q54, digs_small (by omega) q54] at DM
    have DM2 : Hid (∀ X Y e f W, Sl W X (digs N) → Sl W Y (digs D) → Calls Tryd.prog 74 #[.slice X (ln N) e, .slice Y (ln D) f] W fun e w' => ∃ b o c' B' d', e = .returned (.tuple #[.slice (some ⟨b, o, none⟩) 1 c', .slice B' n3 d']) ∧ w'.cell? ⟨b, o, none⟩ = some (.int .u64 (q : Int)) ∧ Below W.heap.size W w') :=
      hide (fun X Y e f W s t => (DM.out X Y e f W s t).mono fun e w' ⟨A', c', B', d', h1, h2, h3, h4⟩ => by
        obtain ⟨b, o, rfl, ha⟩ := h2.at_ (Nat.zero_lt_one)
        exact ⟨b, o, c', B', d', h1, ha.cell (j := 0) (Nat.zero_lt_one), h4⟩)
    clear DM
    by_cases h53 : q < 2 ^ 53
    · rw [if_pos h53] at hsz hg
      have os : binOp .shr 54 (.int .u64 (q : Int)) (.int .u64 53) = pure (.int .u64 0) := bi_shr _ .u64 q 53 0 (by decide) (by omega)
      subst hsz
      obtain rfl : x = br := by rw [hex, decide_eq_true h53, Bool.true_or, Bool.and_true]
      rw [show -g = nh by omega] at LD
      clear hex hg q54 hnh s4 s5 hi6 h53 q0 hsh rs
      cases ov with
      | true =>
        obtain ⟨rfl, rfl⟩ := E1.out rfl
        clear E1 E2 NX
        go_enter Tryd.func41, Tryd.ntmps41
        go_wp2_with (first
            | (go_at_call 73; (with_reducible refine (B1.out _ b0).mono ?_); rintro e w1 ⟨rfl, rfl⟩)
            | (go_at_call 73; (with_reducible refine (B2.out _ b0).mono ?_); rintro e w1 ⟨rfl, rfl⟩)
            | (go_at_call 34; (with_reducible refine (H1.out _ b0).mono ?_); rintro e w1 ⟨A1, c1, rfl, t1, m1⟩)
            | (go_at_call 34; (with_reducible refine (H2.out _ m1).mono ?_); rintro e w2 ⟨A2, c2, rfl, t2, hb⟩; have t1 := kp' hb t1; have m2 := bl_trans m1 hb; clear hb)
            | (go_at_call 74; (with_reducible refine (DM2.out A1 A2 c1 c2 _ t1 t2).mono ?_); rintro e w3 ⟨bb, oo, c3, B3, d3, rfl, hcell, hb⟩; have m3 := bl_trans m2 hb; clear hb t1 t2)
            | (go_at_call 29; (with_reducible refine (LD.out _).mono ?_); rintro e v1 ⟨rfl, rfl⟩)
            | (go_at_call 36; (with_reducible refine (II.out _).mono ?_); rintro e v1 ⟨rfl, rfl⟩)
            | (go_at_call 19; (with_reducible refine (J1.out _).mono ?_); rintro e v1 ⟨rfl, rfl⟩))
        go_ret2
        exact ⟨rfl, m3⟩
      | false =>
        cases x with
        | true =>
          obtain ⟨rfl, rfl⟩ := E2.out rfl rfl
          clear E1 E2 NX
          go_enter Tryd.func41, Tryd.ntmps41
          go_wp2_with (first
            | (go_at_call 73; (with_reducible refine (B1.out _ b0).mono ?_); rintro e w1 ⟨rfl, rfl⟩)
            | (go_at_call 73; (with_reducible refine (B2.out _ b0).mono ?_); rintro e w1 ⟨rfl, rfl⟩)
            | (go_at_call 34; (with_reducible refine (H1.out _ b0).mono ?_); rintro e w1 ⟨A1, c1, rfl, t1, m1⟩)
            | (go_at_call 34; (with_reducible refine (H2.out _ m1).mono ?_); rintro e w2 ⟨A2, c2, rfl, t2, hb⟩; have t1 := kp' hb t1; have m2 := bl_trans m1 hb; clear hb)
            | (go_at_call 74; (with_reducible refine (DM2.out A1 A2 c1 c2 _ t1 t2).mono ?_); rintro e w3 ⟨bb, oo, c3, B3, d3, rfl, hcell, hb⟩; have m3 := bl_trans m2 hb; clear hb t1 t2)
            | (go_at_call 29; (with_reducible refine (LD.out _).mono ?_); rintro e v1 ⟨rfl, rfl⟩)
            | (go_at_call 36; (with_reducible refine (II.out _).mono ?_); rintro e v1 ⟨rfl, rfl⟩)
            | (go_at_call 19; (with_reducible refine (J1.out _).mono ?_); rintro e v1 ⟨rfl, rfl⟩))
          go_ret2
          exact ⟨rfl, m3⟩
        | false =>
          obtain ⟨rfl, nx⟩ := NX.out rfl rfl
          have NX2 := hide nx
          clear E1 E2 NX nx
          go_enter Tryd.func41, Tryd.ntmps41
          go_wp2_with (first
            | (go_at_call 73; (with_reducible refine (B1.out _ b0).mono ?_); rintro e w1 ⟨rfl, rfl⟩)
            | (go_at_call 73; (with_reducible refine (B2.out _ b0).mono ?_); rintro e w1 ⟨rfl, rfl⟩)
            | (go_at_call 34; (with_reducible refine (H1.out _ b0).mono ?_); rintro e w1 ⟨A1, c1, rfl, t1, m1⟩)
            | (go_at_call 34; (with_reducible refine (H2.out _ m1).mono ?_); rintro e w2 ⟨A2, c2, rfl, t2, hb⟩; have t1 := kp' hb t1; have m2 := bl_trans m1 hb; clear hb)
            | (go_at_call 74; (with_reducible refine (DM2.out A1 A2 c1 c2 _ t1 t2).mono ?_); rintro e w3 ⟨bb, oo, c3, B3, d3, rfl, hcell, hb⟩; have m3 := bl_trans m2 hb; clear hb t1 t2)
            | (go_at_call 29; (with_reducible refine (LD.out _).mono ?_); rintro e v1 ⟨rfl, rfl⟩)
            | (go_at_call 36; (with_reducible refine (II.out _).mono ?_); rintro e v1 ⟨rfl, rfl⟩)
            | (go_at_call 19; (with_reducible refine (J1.out _).mono ?_); rintro e v1 ⟨rfl, rfl⟩)
            | (go_at_call 18; (with_reducible refine (NX2.out _).mono ?_); rintro e v1 ⟨rfl, rfl⟩))
          go_ret2
          exact ⟨rfl, m3⟩
    · rw [if_neg h53] at hsz hg
      have os : binOp .shr 54 (.int .u64 (q : Int)) (.int .u64 53) = pure (.int .u64 1) := bi_shr _ .u64 q 53 1 (by decide) (by omega)
      have os1 : binOp .shr 54 (.int .u64 (q : Int)) (.int .u64 1) = pure (.int .u64 (sz : Int)) := bi_shr _ .u64 q 1 sz (by decide) (by omega)
      rw [decide_eq_false h53, Bool.false_or] at hex
      rw [show -g = nh + 1 by omega] at LD
      cases br with
      | false =>
        obtain rfl : x = false := by rw [hex, Bool.false_and]
        clear hex hg q54 hnh hi6 h53 q0 hsh rs hsz
        cases ov with
        | true =>
          obtain ⟨rfl, rfl⟩ := E1.out rfl
          clear E1 E2 NX
          go_enter Tryd.func41, Tryd.ntmps41
          go_wp2_with (first
              | (go_at_call 73; (with_reducible refine (B1.out _ b0).mono ?_); rintro e w1 ⟨rfl, rfl⟩)
              | (go_at_call 73; (with_reducible refine (B2.out _ b0).mono ?_); rintro e w1 ⟨rfl, rfl⟩)
              | (go_at_call 34; (with_reducible refine (H1.out _ b0).mono ?_); rintro e w1 ⟨A1, c1, rfl, t1, m1⟩)
              | (go_at_call 34; (with_reducible refine (H2.out _ m1).mono ?_); rintro e w2 ⟨A2, c2, rfl, t2, hb⟩; have t1 := kp' hb t1; have m2 := bl_trans m1 hb; clear hb)
              | (go_at_call 74; (with_reducible refine (DM2.out A1 A2 c1 c2 _ t1 t2).mono ?_); rintro e w3 ⟨bb, oo, c3, B3, d3, rfl, hcell, hb⟩; have m3 := bl_trans m2 hb; clear hb t1 t2)
              | (go_at_call 29; (with_reducible refine (LD.out _).mono ?_); rintro e v1 ⟨rfl, rfl⟩)
              | (go_at_call 36; (with_reducible refine (II.out _).mono ?_); rintro e v1 ⟨rfl, rfl⟩)
              | (go_at_call 19; (with_reducible refine (J1.out _).mono ?_); rintro e v1 ⟨rfl, rfl⟩))
          go_ret2
          exact ⟨rfl, m3⟩
        | false =>
          obtain ⟨rfl, nx⟩ := NX.out rfl rfl
          have NX2 := hide nx
          clear E1 E2 NX nx
          go_enter Tryd.func41, Tryd.ntmps41
          go_wp2_with (first
            | (go_at_call 73; (with_reducible refine (B1.out _ b0).mono ?_); rintro e w1 ⟨rfl, rfl⟩)
            | (go_at_call 73; (with_reducible refine (B2.out _ b0).mono ?_); rintro e w1 ⟨rfl, rfl⟩)
            | (go_at_call 34; (with_reducible refine (H1.out _ b0).mono ?_); rintro e w1 ⟨A1, c1, rfl, t1, m1⟩)
            | (go_at_call 34; (with_reducible refine (H2.out _ m1).mono ?_); rintro e w2 ⟨A2, c2, rfl, t2, hb⟩; have t1 := kp' hb t1; have m2 := bl_trans m1 hb; clear hb)
            | (go_at_call 74; (with_reducible refine (DM2.out A1 A2 c1 c2 _ t1 t2).mono ?_); rintro e w3 ⟨bb, oo, c3, B3, d3, rfl, hcell, hb⟩; have m3 := bl_trans m2 hb; clear hb t1 t2)
            | (go_at_call 29; (with_reducible refine (LD.out _).mono ?_); rintro e v1 ⟨rfl, rfl⟩)
            | (go_at_call 36; (with_reducible refine (II.out _).mono ?_); rintro e v1 ⟨rfl, rfl⟩)
            | (go_at_call 19; (with_reducible refine (J1.out _).mono ?_); rintro e v1 ⟨rfl, rfl⟩)
            | (go_at_call 18; (with_reducible refine (NX2.out _).mono ?_); rintro e v1 ⟨rfl, rfl⟩))
          go_ret2
          exact ⟨rfl, m3⟩
      | true =>
        rw [Bool.true_and] at hex
        by_cases hp : q % 2 = 0
        · obtain rfl : x = true := by rw [hex, decide_eq_true hp]
          have oa : binOp .and 54 (.int .u64 (q : Int)) (.int .u64 1) = pure (.int .u64 0) := bi_and _ q 1 0 (by omega) (by decide) (by rw [Nat.and_one_is_mod, hp])
          clear hex hg q54 hnh hi6 h53 q0 hsh rs hsz hp
          cases ov with
          | true =>
            obtain ⟨rfl, rfl⟩ := E1.out rfl
            clear E1 E2 NX
            go_enter Tryd.func41, Tryd.ntmps41
            go_wp2_with (first
                | (go_at_call 73; (with_reducible refine (B1.out _ b0).mono ?_); rintro e w1 ⟨rfl, rfl⟩)
                | (go_at_call 73; (with_reducible refine (B2.out _ b0).mono ?_); rintro e w1 ⟨rfl, rfl⟩)
                | (go_at_call 34; (with_reducible refine (H1.out _ b0).mono ?_); rintro e w1 ⟨A1, c1, rfl, t1, m1⟩)
                | (go_at_call 34; (with_reducible refine (H2.out _ m1).mono ?_); rintro e w2 ⟨A2, c2, rfl, t2, hb⟩; have t1 := kp' hb t1; have m2 := bl_trans m1 hb; clear hb)
                | (go_at_call 74; (with_reducible refine (DM2.out A1 A2 c1 c2 _ t1 t2).mono ?_); rintro e w3 ⟨bb, oo, c3, B3, d3, rfl, hcell, hb⟩; have m3 := bl_trans m2 hb; clear hb t1 t2)
                | (go_at_call 29; (with_reducible refine (LD.out _).mono ?_); rintro e v1 ⟨rfl, rfl⟩)
                | (go_at_call 36; (with_reducible refine (II.out _).mono ?_); rintro e v1 ⟨rfl, rfl⟩)
                | (go_at_call 19; (with_reducible refine (J1.out _).mono ?_); rintro e v1 ⟨rfl, rfl⟩))
            go_ret2
            exact ⟨rfl, m3⟩
          | false =>
            obtain ⟨rfl, rfl⟩ := E2.out rfl rfl
            clear E1 E2 NX
            go_enter Tryd.func41, Tryd.ntmps41
            go_wp2_with (first
              | (go_at_call 73; (with_reducible refine (B1.out _ b0).mono ?_); rintro e w1 ⟨rfl, rfl⟩)
              | (go_at_call 73; (with_reducible refine (B2.out _ b0).mono ?_); rintro e w1 ⟨rfl, rfl⟩)
              | (go_at_call 34; (with_reducible refine (H1.out _ b0).mono ?_); rintro e w1 ⟨A1, c1, rfl, t1, m1⟩)
              | (go_at_call 34; (with_reducible refine (H2.out _ m1).mono ?_); rintro e w2 ⟨A2, c2, rfl, t2, hb⟩; have t1 := kp' hb t1; have m2 := bl_trans m1 hb; clear hb)
              | (go_at_call 74; (with_reducible refine (DM2.out A1 A2 c1 c2 _ t1 t2).mono ?_); rintro e w3 ⟨bb, oo, c3, B3, d3, rfl, hcell, hb⟩; have m3 := bl_trans m2 hb; clear hb t1 t2)
              | (go_at_call 29; (with_reducible refine (LD.out _).mono ?_); rintro e v1 ⟨rfl, rfl⟩)
              | (go_at_call 36; (with_reducible refine (II.out _).mono ?_); rintro e v1 ⟨rfl, rfl⟩)
              | (go_at_call 19; (with_reducible refine (J1.out _).mono ?_); rintro e v1 ⟨rfl, rfl⟩))
            go_ret2
            exact ⟨rfl, m3⟩
        · obtain rfl : x = false := by rw [hex, decide_eq_false hp]
          have oa : binOp .and 54 (.int .u64 (q : Int)) (.int .u64 1) = pure (.int .u64 1) := bi_and _ q 1 1 (by omega) (by decide) (by rw [Nat.and_one_is_mod]; omega)
          clear hex hg q54 hnh hi6 h53 q0 hsh rs hsz hp
          cases ov with
          | true =>
            obtain ⟨rfl, rfl⟩ := E1.out rfl
            clear E1 E2 NX
            go_enter Tryd.func41, Tryd.ntmps41
            go_wp2_with (first
                | (go_at_call 73; (with_reducible refine (B1.out _ b0).mono ?_); rintro e w1 ⟨rfl, rfl⟩)
                | (go_at_call 73; (with_reducible refine (B2.out _ b0).mono ?_); rintro e w1 ⟨rfl, rfl⟩)
                | (go_at_call 34; (with_reducible refine (H1.out _ b0).mono ?_); rintro e w1 ⟨A1, c1, rfl, t1, m1⟩)
                | (go_at_call 34; (with_reducible refine (H2.out _ m1).mono ?_); rintro e w2 ⟨A2, c2, rfl, t2, hb⟩; have t1 := kp' hb t1; have m2 := bl_trans m1 hb; clear hb)
                | (go_at_call 74; (with_reducible refine (DM2.out A1 A2 c1 c2 _ t1 t2).mono ?_); rintro e w3 ⟨bb, oo, c3, B3, d3, rfl, hcell, hb⟩; have m3 := bl_trans m2 hb; clear hb t1 t2)
                | (go_at_call 29; (with_reducible refine (LD.out _).mono ?_); rintro e v1 ⟨rfl, rfl⟩)
                | (go_at_call 36; (with_reducible refine (II.out _).mono ?_); rintro e v1 ⟨rfl, rfl⟩)
                | (go_at_call 19; (with_reducible refine (J1.out _).mono ?_); rintro e v1 ⟨rfl, rfl⟩))
            go_ret2
            exact ⟨rfl, m3⟩
          | false =>
            obtain ⟨rfl, nx⟩ := NX.out rfl rfl
            have NX2 := hide nx
            clear E1 E2 NX nx
            go_enter Tryd.func41, Tryd.ntmps41
            go_wp2_with (first
              | (go_at_call 73; (with_reducible refine (B1.out _ b0).mono ?_); rintro e w1 ⟨rfl, rfl⟩)
              | (go_at_call 73; (with_reducible refine (B2.out _ b0).mono ?_); rintro e w1 ⟨rfl, rfl⟩)
              | (go_at_call 34; (with_reducible refine (H1.out _ b0).mono ?_); rintro e w1 ⟨A1, c1, rfl, t1, m1⟩)
              | (go_at_call 34; (with_reducible refine (H2.out _ m1).mono ?_); rintro e w2 ⟨A2, c2, rfl, t2, hb⟩; have t1 := kp' hb t1; have m2 := bl_trans m1 hb; clear hb)
              | (go_at_call 74; (with_reducible refine (DM2.out A1 A2 c1 c2 _ t1 t2).mono ?_); rintro e w3 ⟨bb, oo, c3, B3, d3, rfl, hcell, hb⟩; have m3 := bl_trans m2 hb; clear hb t1 t2)
              | (go_at_call 29; (with_reducible refine (LD.out _).mono ?_); rintro e v1 ⟨rfl, rfl⟩)
              | (go_at_call 36; (with_reducible refine (II.out _).mono ?_); rintro e v1 ⟨rfl, rfl⟩)
              | (go_at_call 19; (with_reducible refine (J1.out _).mono ?_); rintro e v1 ⟨rfl, rfl⟩)
              | (go_at_call 18; (with_reducible refine (NX2.out _).mono ?_); rintro e v1 ⟨rfl, rfl⟩))
            go_ret2
            exact ⟨rfl, m3⟩
end Nt
end Go.Proofs.YtgmjdaallinicaaDoor
namespace Go.Proofs.YtgmjdaallinicaaDoor
open Go.RowKit
namespace Nt

theorem qb_any (s : Bool) (n d : Nat) (hn : ln n ≤ 64) (d0 : 0 < d) (hs : s = true → 0 < n) : ∃ rs r is i, Qb s n d rs r is i := by
  have : ∃ z, Fl n d z := by
    have b1 := blen_ln hn
    by_cases h0 : n = 0
    · subst h0; exact ⟨0, (fl_zero d d0).1⟩
    · have bn := blen_lo (n := n) h0
      have bd := blen_lo (n := d) (by omega)
      obtain ⟨_, z, _, _, _, S⟩ := size_math n d (blen n) (blen d) bn.2 (blen_hi n) bd.2 (blen_hi d) bn.1 bd.1 b1 _ rfl _ _ _ _ rfl rfl rfl rfl
      exact ⟨z, S.fl⟩
  obtain ⟨z, hz⟩ := this
  cases s with
  | false => exact ⟨false, _, false, _, ⟨z, _, hz, rfl, by rw [if_neg (by decide)]; exact ⟨rfl, rfl, rfl, rfl⟩⟩⟩
  | true => exact ⟨true, _, _, _, ⟨z, _, hz, rfl, by rw [if_pos rfl]; exact ⟨rfl, rfl, rfl, rfl⟩⟩⟩
theorem qb_rat (q : Rat) (f : fitq q) : ∃ rs r is i, Qb (qs q) (qn q) (qd q) rs r is i := qb_any _ _ _ f.1 (qd_pos q) (fun h => qn_pos_of_neg h)
theorem hiR_pos {n d z : Nat} {x : Bool} (hn : 0 < n) (hx : x = decide (U z * d = n * KU)) : 0 < hiR z x := by
  unfold hiR
  refine Nat.lt_min.2 ⟨?_, by decide⟩
  cases x with
  | false => exact Nat.succ_pos _
  | true =>
    rw [if_pos rfl]
    refine Nat.pos_of_ne_zero fun h0 => ?_
    have h := of_decide_eq_true hx.symm
    rw [h0, U_zero, Nat.zero_mul] at h
    exact absurd h.symm (Nat.ne_of_gt (Nat.mul_pos hn KU_pos))
theorem fl_sub (x y z : Nat) (h : Ieee.double.sub x y = some z) : floatBits .sub .f64 x y = some z := h
theorem zero_less (t : Bool) (b : Nat) (hb : b ≤ 2047 * 2 ^ 52) (u : Bool) (hu : (!t && decide (0 < b)) = u) (W : World) : (binOp .sub 25 (.float .f64 0) (.float .f64 (Ieee.double.word t b))).run Tryd.prog W = .ok (.float .f64 (Ieee.double.word u b)) W :=
  fl_op _ _ W (fl_sub _ _ _ (by rw [← hu]; exact zero_sub t b hb))
set_option maxHeartbeats 1000000 in
theorem qof_f (q : Rat) (A B : Option Addr) (a b : Nat) (rs : Bool) (r : Nat) (is : Bool) (i : Nat) (w : World) (sA : Sl w A (digs (qn q))) (sB : Sl w B (digs (qd q))) (f1 : fitq q) (h : Qb (qs q) (qn q) (qd q) rs r is i) :
    Calls Tryd.prog 13 #[.agg #[.bool (qs q), .slice A (ln (qn q)) a, .slice B (ln (qd q)) b]] w fun e w' => e = .returned (.complex .f64 (Ieee.double.word rs r) (Ieee.double.word is i)) ∧ Below w.heap.size w w' := by
  have V1 := hide (fun W (k : Below w.heap.size w W) => valid_q q A B a b W (kp' k sA) (kp' k sB) f1.1 f1.2)
  obtain ⟨z, x, hf, hx, hh⟩ := h
  have SZ := hide (fun W (k : Below w.heap.size w W) => sizes_any A B a b (qn q) (qd q) z x W (kp' k sA) (kp' k sB) f1.1 f1.2 (qd_pos q) hf hx)
  have neg : qs q = true → 0 < qn q := qn_pos_of_neg
  have X1 := hide (Q3.new (.bool (qs q)) (.slice A (ln (qn q)) a) (.slice B (ln (qd q)) b) w)
  have b0 : Below w.heap.size w (w.alloc (.cells #[.bool (qs q), .slice A (ln (qn q)) a, .slice B (ln (qd q)) b] 24)) := bl_al (.refl _ _) _
  obtain ⟨s, hs⟩ : ∃ s, qs q = s := ⟨_, rfl⟩
  rw [hs] at V1 X1 b0 hh neg ⊢
  cases s with
  | false =>
    rw [if_neg (by decide)] at hh
    obtain ⟨rfl, rfl, rfl, rfl⟩ := hh
    clear sA sB f1 hf hx hs neg
    generalize ln (qn q) = n1 at *
    generalize ln (qd q) = n2 at *
    generalize Ieee.double.word false (loR z) = lo at *
    generalize Ieee.double.word false (hiR z x) = hi at *
    go_enter Tryd.func13, Tryd.ntmps13
    go_wp2_with (first
      | (go_at_call 40; (with_reducible refine (V1.out _ b0).mono ?_); rintro e w1 ⟨rfl, hb⟩; have X1 := hide (X1.out.next hb); obtain ⟨x1, x2, x3, x4, x5, x6⟩ := X1.out; have b1 := bl_trans b0 hb; clear hb)
      | (go_at_call 41; (with_reducible refine (SZ.out _ b1).mono ?_); rintro e w2 ⟨rfl, hb⟩; have X1 := hide (X1.out.next hb); clear x1 x2 x3 x4 x5 x6; obtain ⟨x1, x2, x3, x4, x5, x6⟩ := X1.out; have b2 := bl_trans b1 hb; clear hb))
    go_ret
    exact ⟨rfl, b2⟩
  | true =>
    rw [if_pos rfl] at hh
    obtain ⟨rfl, rfl, rfl, rfl⟩ := hh
    have hp := hiR_pos (x := x) (neg rfl) hx
    have o1 := zero_less false (hiR z x) (hiR_le z x) true (by rw [decide_eq_true hp]; rfl)
    have o2 := zero_less false (loR z) (Nat.le_of_lt (loR_lt z)) (decide (0 < loR z)) rfl
    clear sA sB f1 hf hx hs neg hp
    generalize ln (qn q) = n1 at *
    generalize ln (qd q) = n2 at *
    generalize Ieee.double.word false (loR z) = lo at *
    generalize Ieee.double.word false (hiR z x) = hi at *
    generalize Ieee.double.word true (hiR z x) = lo1 at *
    generalize Ieee.double.word (decide (0 < loR z)) (loR z) = hi1 at *
    go_enter Tryd.func13, Tryd.ntmps13
    go_wp2_with (first
      | (go_at_call 40; (with_reducible refine (V1.out _ b0).mono ?_); rintro e w1 ⟨rfl, hb⟩; have X1 := hide (X1.out.next hb); obtain ⟨x1, x2, x3, x4, x5, x6⟩ := X1.out; have b1 := bl_trans b0 hb; clear hb)
      | (go_at_call 41; (with_reducible refine (SZ.out _ b1).mono ?_); rintro e w2 ⟨rfl, hb⟩; have X1 := hide (X1.out.next hb); clear x1 x2 x3 x4 x5 x6; obtain ⟨x1, x2, x3, x4, x5, x6⟩ := X1.out; have b2 := bl_trans b1 hb; clear hb))
    go_ret
    exact ⟨rfl, b2⟩
/-- Of what is no fraction: 0. -/
theorem qof_no (s : Bool) (A B : Option Addr) (a b : Nat) (xs ys : List Nat) (w : World) (sA : Sl w A xs) (sB : Sl w B ys) (lx : Limbs xs) (ly : Limbs ys) (m1 : xs.length ≤ 1000000) (m2 : ys.length ≤ 1000000) (h : validQ s xs ys = false) :
    Calls Tryd.prog 13 #[.agg #[.bool s, .slice A xs.length a, .slice B ys.length b]] w fun e w' => e = .returned (.complex .f64 0 0) ∧ Below w.heap.size w w' := by
  have V1 := hide (fun W (k : Below w.heap.size w W) => validQ_any s A B a b xs ys W (bl_keeps k _ _ sA) (bl_keeps k _ _ sB) lx ly m1 m2 false h)
  have b0 : Below w.heap.size w (w.alloc (.cells #[.bool s, .slice A xs.length a, .slice B ys.length b] 24)) := bl_al (.refl _ _) _
  clear sA sB lx ly m1 m2 h
  generalize xs.length = n1 at *
  generalize ys.length = n2 at *
  go_enter Tryd.func13, Tryd.ntmps13
  go_wp2_with (go_at_call 40; (with_reducible refine (V1.out _ b0).mono ?_); rintro e w1 ⟨rfl, hb⟩; have b1 := bl_trans b0 hb; clear hb)
  go_ret
  exact ⟨rfl, b1⟩
theorem exact_f (rs : Bool) (r : Nat) (is : Bool) (i : Nat) (hr : r ≤ 2047 * 2 ^ 52) (hi : i ≤ 2047 * 2 ^ 52) (x : Bool) (hx : (decide (I rs r = I is i) && decide (r < 2047 * 2 ^ 52)) = x) (w : World) :
    Calls Tryd.prog 21 #[.complex .f64 (Ieee.double.word rs r) (Ieee.double.word is i)] w fun e w' => e = .returned (.bool x) ∧ w = w' := by
  have o1 := fl_eql 25 _ _ _ (wo_eq rs is r i hr hi)
  have F := hide (finite_w rs r hr _ rfl)
  clear hr hi
  cases h : decide (I rs r = I is i) with
  | true =>
    rw [h, Bool.true_and] at hx
    rw [h] at o1
    rw [hx] at F
    clear h hx
    generalize Ieee.double.word rs r = u at *
    generalize Ieee.double.word is i = v at *
    go_enter Tryd.func21, Tryd.ntmps21
    go_wp2_with (go_at_call 30; (with_reducible refine (F.out _).mono ?_); rintro e w1 ⟨rfl, rfl⟩)
    go_ret
    exact ⟨rfl, rfl⟩
  | false =>
    rw [h, Bool.false_and] at hx
    rw [h] at o1
    subst hx
    clear h F
    generalize Ieee.double.word rs r = u at *
    generalize Ieee.double.word is i = v at *
    go_enter Tryd.func21, Tryd.ntmps21
    go_wp2
    go_ret
    exact ⟨rfl, rfl⟩
theorem fl_geq (t : TypeId) (x y : Nat) (b : Bool) (h : (Ieee.double.order x y == some .gt || Ieee.double.order x y == some .eq) = b) : binOp .geq t (.float .f64 x) (.float .f64 y) = pure (.bool b) := by rw [binOp_float_cmp_geq, ← h]; rfl
theorem wo_ge (s t : Bool) (a b : Nat) (ha : a ≤ 2047 * 2 ^ 52) (hb : b ≤ 2047 * 2 ^ 52) : (Ieee.double.order (Ieee.double.word s a) (Ieee.double.word t b) == some .gt || Ieee.double.order (Ieee.double.word s a) (Ieee.double.word t b) == some .eq) = decide (I t b ≤ I s a) := by
  rw [wo_gt s t a b ha hb, wo_eq s t a b ha hb, ← Bool.decide_or]
  exact decide_eq_decide.2 (by omega)
/-- What Less tells. -/
def lessT (b1 b2 : Bool) : Bool × Bool := if b1 then (true, true) else (false, b2)
theorem less_f (rs : Bool) (a : Nat) (bs : Bool) (b : Nat) (cs : Bool) (c : Nat) (ds : Bool) (d : Nat) (ha : a ≤ 2047 * 2 ^ 52) (hb : b ≤ 2047 * 2 ^ 52) (hc : c ≤ 2047 * 2 ^ 52) (hd : d ≤ 2047 * 2 ^ 52) (x y : Bool) (h : lessT (decide (I bs b < I cs c)) (decide (I ds d ≤ I rs a)) = (x, y)) (w : World) :
    Calls Tryd.prog 22 #[.complex .f64 (Ieee.double.word rs a) (Ieee.double.word bs b), .complex .f64 (Ieee.double.word cs c) (Ieee.double.word ds d)] w fun e w' => e = .returned (.tuple #[.bool x, .bool y]) ∧ w = w' := by
  have o1 := fl_lss 25 _ _ _ (wo_lt bs cs b c hb hc)
  have o2 := fl_geq 25 _ _ _ (wo_ge rs ds a d ha hd)
  clear ha hb hc hd
  generalize decide (I bs b < I cs c) = p1 at *
  generalize decide (I ds d ≤ I rs a) = p2 at *
  generalize Ieee.double.word rs a = u1 at *
  generalize Ieee.double.word bs b = u2 at *
  generalize Ieee.double.word cs c = u3 at *
  generalize Ieee.double.word ds d = u4 at *
  cases p1 <;> cases p2 <;> obtain ⟨rfl, rfl⟩ := Prod.mk.inj h
  all_goals
    clear h
    go_enter Tryd.func22, Tryd.ntmps22
    go_wp2
    go_ret2
    exact ⟨rfl, rfl⟩
theorem nx_dn {s : Bool} {r : Nat} (h0 : 1 ≤ r) (hr : r < 2047 * 2 ^ 52) : nx s r true (2047 * 2 ^ 52) = dn s r := by
  have h1 := U_lt hr
  have h2 := U_pos (show 0 < r by omega)
  unfold nx
  rw [I_t]
  cases s
  · rw [I_f, if_neg (by omega), if_neg (by omega), decide_eq_false (by omega), decide_eq_true (by omega), dn_f (by omega)]
    rfl
  · rw [I_t, if_neg (by omega), if_neg (by omega), decide_eq_false (by omega), decide_eq_false (by omega), dn_t]
    rfl
theorem fl_add (x y z : Nat) (h : Ieee.double.add x y = some z) : floatBits .add .f64 x y = some z := h
/-- What the walk of 'sumDown' wants of its two, the greater size ahead: all is told by 'P'. -/
def SumP (x y u : Nat) : Prop :=
  (∃ z, (∀ W : World, (binOp .add 25 (.float .f64 x) (.float .f64 y)).run Tryd.prog W = .ok (.float .f64 z) W) ∧ binOp .eql 25 (.float .f64 z) (.float .f64 0) = pure (.bool true) ∧ u = 0)
  ∨ ∃ z d inf lt, (∀ W : World, (binOp .add 25 (.float .f64 x) (.float .f64 y)).run Tryd.prog W = .ok (.float .f64 z) W) ∧ binOp .eql 25 (.float .f64 z) (.float .f64 0) = pure (.bool false)
    ∧ (∀ w, Calls Tryd.prog 30 #[.float .f64 x] w fun e w' => e = .returned (.bool true) ∧ w = w')
    ∧ (∀ w, Calls Tryd.prog 30 #[.float .f64 y] w fun e w' => e = .returned (.bool true) ∧ w = w')
    ∧ (∀ w, Calls Tryd.prog 36 #[.float .f64 z, .int .i64 (-1)] w fun e w' => e = .returned (.bool false) ∧ w = w')
    ∧ (∀ w, Calls Tryd.prog 36 #[.float .f64 z, .int .i64 1] w fun e w' => e = .returned (.bool false) ∧ w = w')
    ∧ (∀ W : World, (binOp .sub 25 (.float .f64 z) (.float .f64 x)).run Tryd.prog W = .ok (.float .f64 d) W)
    ∧ binOp .lss 25 (.float .f64 y) (.float .f64 d) = pure (.bool lt)
    ∧ (∀ w, Calls Tryd.prog 19 #[.int .i64 (-1)] w fun e w' => e = .returned (.float .f64 inf) ∧ w = w')
    ∧ (lt = true → ∀ w, Calls Tryd.prog 18 #[.float .f64 z, .float .f64 inf] w fun e w' => e = .returned (.float .f64 u) ∧ w = w')
    ∧ (lt = false → u = z)
theorem sum_p (s t : Bool) (x y : Nat) (hx : x < 2023 * 2 ^ 52) (hyx : y ≤ x) (v : Bool) (r : Nat) (h : Dn (I s x + I t y) v r) : SumP (Ieee.double.word s x) (Ieee.double.word t y) (Ieee.double.word v r) := by
  by_cases hT : I s x + I t y = 0
  · refine .inl ⟨_, fun W => fl_op _ _ W (fl_add _ _ _ (add_exact s t x y 0 (by omega) (by omega) (by decide) (by rw [hT, U_zero]; rfl))), w_iszero _, ?_⟩
    rcases h with ⟨-, rfl, rfl⟩ | ⟨h1, -⟩ | ⟨h1, -⟩
    · rfl
    · omega
    · omega
  · obtain ⟨ρ, ds, δ, h1, h2, h3, h4, h5, h6, h7, h8⟩ := sum_down s t x y hx hyx hT
    have h0 := U_pos (show 0 < ρ by omega)
    refine .inr ⟨_, _, _, _, fun W => fl_op _ _ W (fl_add _ _ _ h1), w_nonzero s ρ (by omega) (by omega), finite_w s x (by omega) true (decide_eq_true (by omega)), finite_w t y (by omega) true (decide_eq_true (by omega)),
      isinfN s ρ (by omega) false (by rw [decide_eq_false (by omega), Bool.and_false]), isinf1 s ρ (by omega) false (by rw [decide_eq_false (by omega), Bool.and_false]), fun W => fl_op _ _ W (fl_sub _ _ _ h4), fl_lss _ _ _ _ (wo_lt t ds y δ (by omega) (by omega)), minfN, fun hl => ?_, fun hl => ?_⟩
    · have hl := of_decide_eq_true hl
      obtain ⟨e1, e2⟩ := (h8 (by omega)).one h
      exact nextafter_any s ρ true (2047 * 2 ^ 52) (by omega) (Nat.le_refl _) v r ((nx_dn h2 (by omega)).trans (Prod.ext e1 e2))
    · have hl := of_decide_eq_false hl
      obtain ⟨e1, e2⟩ := (h7 (by omega)).one h
      rw [e1, e2]
theorem sumdown_p0 (x y u p q : Nat) (A1 : Hid (∀ w, Calls Tryd.prog 23 #[.float .f64 x] w fun e w' => e = .returned (.float .f64 p) ∧ w = w')) (A2 : Hid (∀ w, Calls Tryd.prog 23 #[.float .f64 y] w fun e w' => e = .returned (.float .f64 q) ∧ w = w'))
    (o : binOp .lss 25 (.float .f64 p) (.float .f64 q) = pure (.bool false)) (h : SumP x y u) (w : World) :
    Calls Tryd.prog 53 #[.float .f64 x, .float .f64 y] w fun e w' => e = .returned (.float .f64 u) ∧ w = w' := by
  rcases h with ⟨z, o1, o2, rfl⟩ | ⟨z, d, inf, l2, o1, o2, f1, f2, i1, i2, o3, o4, j2, c1, c2⟩
  · go_enter Tryd.func53, Tryd.ntmps53
    go_wp2_with (first
      | (go_at_call 23; (with_reducible refine (A1.out _).mono ?_); rintro e w1 ⟨rfl, rfl⟩)
      | (go_at_call 23; (with_reducible refine (A2.out _).mono ?_); rintro e w1 ⟨rfl, rfl⟩))
    go_ret
    exact ⟨rfl, rfl⟩
  · have F1 := hide f1
    have F2 := hide f2
    have IN := hide i1
    have IP := hide i2
    have J2 := hide j2
    clear f1 f2 i1 i2 j2
    cases l2
    · obtain rfl := c2 rfl
      clear c1 c2 J2
      go_enter Tryd.func53, Tryd.ntmps53
      go_wp2_with (first
        | (go_at_call 23; (with_reducible refine (A1.out _).mono ?_); rintro e w1 ⟨rfl, rfl⟩)
        | (go_at_call 23; (with_reducible refine (A2.out _).mono ?_); rintro e w1 ⟨rfl, rfl⟩)
        | (go_at_call 30; (with_reducible refine (F1.out _).mono ?_); rintro e w1 ⟨rfl, rfl⟩)
        | (go_at_call 30; (with_reducible refine (F2.out _).mono ?_); rintro e w1 ⟨rfl, rfl⟩)
        | (go_at_call 36; (with_reducible refine (IN.out _).mono ?_); rintro e w1 ⟨rfl, rfl⟩)
        | (go_at_call 36; (with_reducible refine (IP.out _).mono ?_); rintro e w1 ⟨rfl, rfl⟩))
      go_ret
      exact ⟨rfl, rfl⟩
    · have NX := hide (c1 rfl)
      clear c1 c2
      go_enter Tryd.func53, Tryd.ntmps53
      go_wp2_with (first
        | (go_at_call 23; (with_reducible refine (A1.out _).mono ?_); rintro e w1 ⟨rfl, rfl⟩)
        | (go_at_call 23; (with_reducible refine (A2.out _).mono ?_); rintro e w1 ⟨rfl, rfl⟩)
        | (go_at_call 30; (with_reducible refine (F1.out _).mono ?_); rintro e w1 ⟨rfl, rfl⟩)
        | (go_at_call 30; (with_reducible refine (F2.out _).mono ?_); rintro e w1 ⟨rfl, rfl⟩)
        | (go_at_call 36; (with_reducible refine (IN.out _).mono ?_); rintro e w1 ⟨rfl, rfl⟩)
        | (go_at_call 36; (with_reducible refine (IP.out _).mono ?_); rintro e w1 ⟨rfl, rfl⟩)
        | (go_at_call 19; (with_reducible refine (J2.out _).mono ?_); rintro e w1 ⟨rfl, rfl⟩)
        | (go_at_call 18; (with_reducible refine (NX.out _).mono ?_); rintro e w1 ⟨rfl, rfl⟩))
      go_ret
      exact ⟨rfl, rfl⟩
theorem sumdown_p1 (x y u p q : Nat) (A1 : Hid (∀ w, Calls Tryd.prog 23 #[.float .f64 x] w fun e w' => e = .returned (.float .f64 p) ∧ w = w')) (A2 : Hid (∀ w, Calls Tryd.prog 23 #[.float .f64 y] w fun e w' => e = .returned (.float .f64 q) ∧ w = w'))
    (o : binOp .lss 25 (.float .f64 p) (.float .f64 q) = pure (.bool true)) (h : SumP y x u) (w : World) :
    Calls Tryd.prog 53 #[.float .f64 x, .float .f64 y] w fun e w' => e = .returned (.float .f64 u) ∧ w = w' := by
  rcases h with ⟨z, o1, o2, rfl⟩ | ⟨z, d, inf, l2, o1, o2, f1, f2, i1, i2, o3, o4, j2, c1, c2⟩
  · go_enter Tryd.func53, Tryd.ntmps53
    go_wp2_with (first
      | (go_at_call 23; (with_reducible refine (A1.out _).mono ?_); rintro e w1 ⟨rfl, rfl⟩)
      | (go_at_call 23; (with_reducible refine (A2.out _).mono ?_); rintro e w1 ⟨rfl, rfl⟩))
    go_ret
    exact ⟨rfl, rfl⟩
  · have F1 := hide f1
    have F2 := hide f2
    have IN := hide i1
    have IP := hide i2
    have J2 := hide j2
    clear f1 f2 i1 i2 j2
    cases l2
    · obtain rfl := c2 rfl
      clear c1 c2 J2
      go_enter Tryd.func53, Tryd.ntmps53
      go_wp2_with (first
        | (go_at_call 23; (with_reducible refine (A1.out _).mono ?_); rintro e w1 ⟨rfl, rfl⟩)
        | (go_at_call 23; (with_reducible refine (A2.out _).mono ?_); rintro e w1 ⟨rfl, rfl⟩)
        | (go_at_call 30; (with_reducible refine (F1.out _).mono ?_); rintro e w1 ⟨rfl, rfl⟩)
        | (go_at_call 30; (with_reducible refine (F2.out _).mono ?_); rintro e w1 ⟨rfl, rfl⟩)
        | (go_at_call 36; (with_reducible refine (IN.out _).mono ?_); rintro e w1 ⟨rfl, rfl⟩)
        | (go_at_call 36; (with_reducible refine (IP.out _).mono ?_); rintro e w1 ⟨rfl, rfl⟩))
      go_ret
      exact ⟨rfl, rfl⟩
    · have NX := hide (c1 rfl)
      clear c1 c2
      go_enter Tryd.func53, Tryd.ntmps53
      go_wp2_with (first
        | (go_at_call 23; (with_reducible refine (A1.out _).mono ?_); rintro e w1 ⟨rfl, rfl⟩)
        | (go_at_call 23; (with_reducible refine (A2.out _).mono ?_); rintro e w1 ⟨rfl, rfl⟩)
        | (go_at_call 30; (with_reducible refine (F1.out _).mono ?_); rintro e w1 ⟨rfl, rfl⟩)
        | (go_at_call 30; (with_reducible refine (F2.out _).mono ?_); rintro e w1 ⟨rfl, rfl⟩)
        | (go_at_call 36; (with_reducible refine (IN.out _).mono ?_); rintro e w1 ⟨rfl, rfl⟩)
        | (go_at_call 36; (with_reducible refine (IP.out _).mono ?_); rintro e w1 ⟨rfl, rfl⟩)
        | (go_at_call 19; (with_reducible refine (J2.out _).mono ?_); rintro e w1 ⟨rfl, rfl⟩)
        | (go_at_call 18; (with_reducible refine (NX.out _).mono ?_); rintro e w1 ⟨rfl, rfl⟩))
      go_ret
      exact ⟨rfl, rfl⟩
theorem sumdown_f (s t : Bool) (x y : Nat) (hx : x < 2023 * 2 ^ 52) (hy : y < 2023 * 2 ^ 52) (v : Bool) (r : Nat) (h : Dn (I s x + I t y) v r) (w : World) :
    Calls Tryd.prog 53 #[.float .f64 (Ieee.double.word s x), .float .f64 (Ieee.double.word t y)] w fun e w' => e = .returned (.float .f64 (Ieee.double.word v r)) ∧ w = w' := by
  have o := fl_lss 25 x y _ (wo_lt false false x y (by omega) (by omega))
  by_cases hl : I false x < I false y
  · have := U_lt_iff.1 (show U x < U y by rw [I_f, I_f] at hl; omega)
    rw [decide_eq_true hl] at o
    exact sumdown_p1 _ _ _ x y (hide (mabs s x (by omega))) (hide (mabs t y (by omega))) o (sum_p t s y x hy (by omega) v r (by rw [Int.add_comm]; exact h)) w
  · have := U_le_iff.1 (show U y ≤ U x by rw [I_f, I_f] at hl; omega)
    rw [decide_eq_false hl] at o
    exact sumdown_p0 _ _ _ x y (hide (mabs s x (by omega))) (hide (mabs t y (by omega))) o (sum_p s t x y hx this v r h) w
theorem add_f (as1 : Bool) (a : Nat) (bs : Bool) (b : Nat) (cs : Bool) (c : Nat) (ds : Bool) (d : Nat) (ha : a < 2023 * 2 ^ 52) (hb : b < 2023 * 2 ^ 52) (hc : c < 2023 * 2 ^ 52) (hd : d < 2023 * 2 ^ 52)
    (u v : Bool) (r p : Nat) (h1 : Dn (I as1 a + I cs c) u r) (h2 : Dn (-(I bs b + I ds d)) v p) (hp : p ≤ 2047 * 2 ^ 52) (w : World) :
    Calls Tryd.prog 24 #[.complex .f64 (Ieee.double.word as1 a) (Ieee.double.word bs b), .complex .f64 (Ieee.double.word cs c) (Ieee.double.word ds d)] w fun e w' => e = .returned (.complex .f64 (Ieee.double.word u r) (Ieee.double.word (!v && decide (0 < p)) p)) ∧ w = w' := by
  have S1 := hide (sumdown_f as1 cs a c ha hc u r h1)
  have S2 := hide (sumdown_f (!bs) (!ds) b d hb hd v p (by rw [I_not, I_not, ← Int.neg_add]; exact h2))
  have n1 := un_neg _ _ (w_neg bs b (by omega))
  have n2 := un_neg _ _ (w_neg ds d (by omega))
  have o := zero_less v p hp _ rfl
  clear h1 h2 ha hb hc hd hp
  generalize Ieee.double.word as1 a = x1 at *
  generalize Ieee.double.word bs b = x2 at *
  generalize Ieee.double.word cs c = x3 at *
  generalize Ieee.double.word ds d = x4 at *
  generalize Ieee.double.word (!bs) b = x5 at *
  generalize Ieee.double.word (!ds) d = x6 at *
  generalize Ieee.double.word u r = x7 at *
  generalize Ieee.double.word (!v && decide (0 < p)) p = x8 at *
  generalize Ieee.double.word v p = x9 at *
  go_enter Tryd.func24, Tryd.ntmps24
  go_wp2_with (first
    | (go_at_call 53; (with_reducible refine (S1.out _).mono ?_); rintro e w1 ⟨rfl, rfl⟩)
    | (go_at_call 53; (with_reducible refine (S2.out _).mono ?_); rintro e w1 ⟨rfl, rfl⟩))
  go_ret
  exact ⟨rfl, rfl⟩
end Nt
end Go.Proofs.YtgmjdaallinicaaDoor
