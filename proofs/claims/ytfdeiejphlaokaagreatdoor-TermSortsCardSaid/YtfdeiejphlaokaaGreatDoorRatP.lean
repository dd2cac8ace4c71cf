
/-
  Plain mathematics: fractions by their sign and the sizes of both lines.
  Rows of any length in numbers: what package rat calls of package limbs; rat.times, rat.without, rat.signedSum, limbs.Lowest, limbs.IsOne.
  Package rat's small functions: signed, top, bounded, lowest, Valid, New, Of.
  Package rat: lowest, Valid, New, Of.
  Package rat: New, Of.
  Package rat: product, sum.
  Package rat: compare.
  Package rat: Cmp, Sign, Neg, Add, Sub, Mul, Quo.
  What the walk of rat.Floor wants.
-/
import Derived.Test.YtfdeiejphlaokaaGreatDoorWholeA

import Derived.Test.YtfdeiejphlaokaaGreatDoorGcdZ

import Derived.Test.YtfdeiejphlaokaaGreatDoorLongZ

import Derived.Test.YtfdeiejphlaokaaGreatDoorWholeZ

namespace Go.Proofs.YtfdeiejphlaokaaGreatDoor

open Go.RowKit

namespace Nt

/-- A fraction: its sign, the sizes of what stands above the line and below. -/
def qs (q : Rat) : Bool := isg q.num
def qn (q : Rat) : Nat := q.num.natAbs
def qd (q : Rat) : Nat := q.den
/-- A size with a sign. -/
def sgz (s : Bool) (n : Nat) : Int := if s then -(n : Int) else (n : Int)
theorem sgz_abs (s : Bool) (n : Nat) : (sgz s n).natAbs = n := by cases s <;> simp [sgz]
theorem sgz_isg (s : Bool) (n : Nat) : isg (sgz s n) = (s && decide (0 < n)) := by
  unfold isg sgz
  cases s
  · simp
  · simp
theorem sgz_mk (z : Int) : sgz (isg z) z.natAbs = z := by
  unfold sgz isg
  by_cases h : z < 0
  · simp [h]; omega
  · simp [h]; omega
theorem sgz_mul (s t : Bool) (n m : Nat) : sgz s n * sgz t m = sgz (s != t) (n * m) := by
  cases s <;> cases t <;> simp [sgz, Int.neg_mul, Int.mul_neg]
theorem num_sgz (q : Rat) : q.num = sgz (qs q) (qn q) := (sgz_mk _).symm
theorem qd_pos (q : Rat) : 0 < qd q := q.den_pos
theorem qs_pos (q : Rat) : qs q = (qs q && decide (0 < qn q)) := by
  rw [← sgz_isg, ← num_sgz]; rfl
theorem q_cop (q : Rat) : Nat.gcd (qn q) (qd q) = 1 := q.reduced
theorem q_ext {q r : Rat} (h1 : qs q = qs r) (h2 : qn q = qn r) (h3 : qd q = qd r) : q = r := by
  refine Rat.ext ?_ h3
  rw [num_sgz, num_sgz, h1, h2]
theorem q_ext_iff {q r : Rat} : (qs q = qs r ∧ qn q = qn r ∧ qd q = qd r) ↔ q = r := ⟨fun ⟨a, b, c⟩ => q_ext a b c, fun h => by subst h; exact ⟨rfl, rfl, rfl⟩⟩

/-- What 'lowest' makes. -/
def qmk (s : Bool) (n d : Nat) : Rat := mkRat (sgz s n) d
theorem qn_mk (s : Bool) (n : Nat) {d : Nat} (hd : d ≠ 0) : qn (qmk s n d) = n / Nat.gcd n d := by
  unfold qn qmk
  rw [Rat.num_mkRat, if_neg hd, sgz_abs, Nat.gcd_comm]
  unfold sgz
  cases s
  · simp only [Bool.false_eq_true, if_false]
    rw [← Int.natCast_ediv, Int.natAbs_natCast]
  · simp only [if_true]
    rw [Int.neg_ediv_of_dvd (Int.natCast_dvd_natCast.2 (Nat.gcd_dvd_left n d)), Int.natAbs_neg, ← Int.natCast_ediv, Int.natAbs_natCast]
theorem qd_mk (s : Bool) (n : Nat) {d : Nat} (hd : d ≠ 0) : qd (qmk s n d) = d / Nat.gcd n d := by
  unfold qd qmk
  rw [Rat.den_mkRat, if_neg hd, sgz_abs, Nat.gcd_comm]
theorem qs_mk (s : Bool) (n : Nat) {d : Nat} (hd : d ≠ 0) : qs (qmk s n d) = (s && decide (0 < n / Nat.gcd n d)) := by
  unfold qs qmk
  rw [Rat.num_mkRat, if_neg hd, sgz_abs, Nat.gcd_comm, ← sgz_isg]
  congr 1
  unfold sgz
  cases s
  · simp only [Bool.false_eq_true, if_false]
    rw [← Int.natCast_ediv]
  · simp only [if_true]
    rw [Int.neg_ediv_of_dvd (Int.natCast_dvd_natCast.2 (Nat.gcd_dvd_left n d)), ← Int.natCast_ediv]
/-- A fraction by its rows, if it may be one. -/
theorem q_of {s : Bool} {n d : Nat} (hd : 0 < d) (hc : Nat.gcd n d = 1) (hs : s = true → 0 < n) : ∃ q : Rat, qs q = s ∧ qn q = n ∧ qd q = d := by
  have h0 : d ≠ 0 := by omega
  refine ⟨qmk s n d, ?_, ?_, ?_⟩
  · rw [qs_mk s n h0, hc, Nat.div_one]
    cases s
    · rfl
    · simp [hs rfl]
  · rw [qn_mk s n h0, hc, Nat.div_one]
  · rw [qd_mk s n h0, hc, Nat.div_one]
theorem qmk_self (q : Rat) : qmk (qs q) (qn q) (qd q) = q := by
  unfold qmk
  rw [← num_sgz]; exact Rat.mkRat_self q

/-- A product, as the code makes it. -/
theorem qn_mul (q r : Rat) : qn (q * r) = (qn q / Nat.gcd (qn q) (qd r)) * (qn r / Nat.gcd (qn r) (qd q)) := by
  show (Rat.mul q r).num.natAbs = _
  delta Rat.mul
  simp only [Int.divExact_eq_tdiv, Int.natAbs_mul, Int.natAbs_tdiv, Int.natAbs_natCast]
  rfl
theorem qd_mul (q r : Rat) : qd (q * r) = (qd q / Nat.gcd (qn r) (qd q)) * (qd r / Nat.gcd (qn q) (qd r)) := by
  show (Rat.mul q r).den = _
  delta Rat.mul
  simp only [Nat.divExact_eq_div]
  rfl
theorem mul_qmk (q r : Rat) : q * r = qmk (qs q != qs r) (qn q * qn r) (qd q * qd r) := by
  unfold qmk
  rw [Rat.mul_def', ← sgz_mul, ← num_sgz, ← num_sgz]; rfl
theorem qs_mul (q r : Rat) : qs (q * r) = ((qs q != qs r) && decide (0 < qn (q * r))) := by
  have h : qd q * qd r ≠ 0 := Nat.ne_of_gt (Nat.mul_pos (qd_pos q) (qd_pos r))
  rw [mul_qmk, qs_mk _ _ h, qn_mk _ _ h]
/-- A sum of two sizes with signs. -/
def sgAdd (s : Bool) (x : Nat) (t : Bool) (y : Nat) : Bool × Nat := if s = t then (s, x + y) else if x < y then (t, y - x) else (s, x - y)
theorem sgAdd_sum (s : Bool) (x : Nat) (t : Bool) (y : Nat) : sgz (sgAdd s x t y).1 (sgAdd s x t y).2 = sgz s x + sgz t y := by
  unfold sgAdd
  by_cases h : s = t
  · subst h
    rw [if_pos rfl]
    cases s <;> simp [sgz] <;> omega
  · rw [if_neg h]
    by_cases hl : x < y
    · rw [if_pos hl]
      cases s <;> cases t <;> simp [sgz] at * <;> omega
    · rw [if_neg hl]
      cases s <;> cases t <;> simp [sgz] at * <;> omega
/-- The size of the sum above the line, what it has in common with both lines below. -/
def sumG (q r : Rat) : Nat := Nat.gcd (qd q) (qd r)
def sumN (q r : Rat) : Bool × Nat := sgAdd (qs q) (qn q * (qd r / sumG q r)) (qs r) (qn r * (qd q / sumG q r))
def sumB (q r : Rat) : Nat := Nat.gcd (sumN q r).2 (sumG q r)
theorem sumG_pos (q r : Rat) : 0 < sumG q r := Nat.gcd_pos_of_pos_left _ (qd_pos q)
theorem sumB_pos (q r : Rat) : 0 < sumB q r := Nat.gcd_pos_of_pos_right _ (sumG_pos q r)
theorem sumN_num (q r : Rat) : sgz (sumN q r).1 (sumN q r).2 = q.num * ((qd r / sumG q r : Nat) : Int) + r.num * ((qd q / sumG q r : Nat) : Int) := by
  unfold sumN
  rw [sgAdd_sum]
  have e : ∀ (s : Bool) (n m : Nat), sgz s (n * m) = sgz s n * (m : Int) := by
    intro s n m
    cases s <;> simp [sgz, Int.neg_mul]
  rw [e, e, ← num_sgz, ← num_sgz]
theorem sum_qmk (q r : Rat) : q + r = qmk (sumN q r).1 (sumN q r).2 ((qd q / sumG q r) * qd r) := by
  have hg := sumG_pos q r
  have hu : qd q / sumG q r * sumG q r = qd q := Nat.div_mul_cancel (Nat.gcd_dvd_left _ _)
  have hv : qd r / sumG q r * sumG q r = qd r := Nat.div_mul_cancel (Nat.gcd_dvd_right _ _)
  unfold qmk
  rw [sumN_num, Rat.add_def']
  have hup : 0 < qd q / sumG q r := Nat.div_gcd_pos_of_pos_left _ (qd_pos q)
  rw [Rat.mkRat_eq_iff (Nat.ne_of_gt (Nat.mul_pos q.den_pos r.den_pos)) (Nat.ne_of_gt (Nat.mul_pos hup (qd_pos r)))]
  show (q.num * (qd r : Int) + r.num * (qd q : Int)) * ((qd q / sumG q r * qd r : Nat) : Int) = (q.num * ((qd r / sumG q r : Nat) : Int) + r.num * ((qd q / sumG q r : Nat) : Int)) * ((qd q * qd r : Nat) : Int)
  generalize hx : qd q / sumG q r = u at *
  generalize hy : qd r / sumG q r = v at *
  rw [← hu, ← hv]
  generalize sumG q r = g
  push_cast
  generalize q.num = a
  generalize r.num = b
  grind
theorem sum_gcd (q r : Rat) : Nat.gcd (sumN q r).2 ((qd q / sumG q r) * qd r) = sumB q r := by
  have h := Rat.add.aux q r (g := sumG q r) (ad := qd q / sumG q r) (bd := qd r / sumG q r) rfl rfl rfl
  simp only [← sumN_num, sgz_abs] at h
  exact h.symm
theorem sum_den (q r : Rat) : (qd q / sumG q r) * qd r / sumB q r = (qd q / sumB q r) * (qd r / sumG q r) := by
  have hg := sumG_pos q r
  have hb := sumB_pos q r
  obtain ⟨u, hu⟩ : sumG q r ∣ qd q := Nat.gcd_dvd_left _ _
  obtain ⟨v, hv⟩ : sumG q r ∣ qd r := Nat.gcd_dvd_right _ _
  obtain ⟨k, hk⟩ : sumB q r ∣ sumG q r := Nat.gcd_dvd_right _ _
  generalize hG : sumG q r = g at *
  generalize hB : sumB q r = b at *
  have e1 : qd q / g = u := by rw [hu, Nat.mul_div_cancel_left _ hg]
  have e2 : qd r / g = v := by rw [hv, Nat.mul_div_cancel_left _ hg]
  have e3 : qd q / b = k * u := by rw [hu, hk, Nat.mul_assoc, Nat.mul_div_cancel_left _ hb]
  rw [e1, e2, e3, hv, hk, show u * (b * k * v) = b * (k * u * v) by grind, Nat.mul_div_cancel_left _ hb]
theorem sum_pos' (q r : Rat) : (qd q / sumG q r) * qd r ≠ 0 := Nat.ne_of_gt (Nat.mul_pos (Nat.div_gcd_pos_of_pos_left _ (qd_pos q)) (qd_pos r))
theorem qn_add (q r : Rat) : qn (q + r) = (sumN q r).2 / sumB q r := by rw [sum_qmk, qn_mk _ _ (sum_pos' q r), sum_gcd]
theorem qd_add (q r : Rat) : qd (q + r) = (qd q / sumB q r) * (qd r / sumG q r) := by rw [sum_qmk, qd_mk _ _ (sum_pos' q r), sum_gcd, sum_den]
theorem qs_add (q r : Rat) : qs (q + r) = ((sumN q r).1 && decide (0 < qn (q + r))) := by
  rw [qn_add]
  conv => lhs; rw [sum_qmk]
  rw [qs_mk _ _ (sum_pos' q r), sum_gcd]
theorem qs_neg (q : Rat) : qs (-q) = (!qs q && decide (0 < qn q)) := by
  unfold qs qn isg
  rw [Rat.neg_num]
  by_cases h : q.num < 0
  · simp [h]; omega
  · rw [decide_eq_false h, Bool.not_false, Bool.true_and, decide_eq_decide]; omega
theorem qn_neg (q : Rat) : qn (-q) = qn q := by unfold qn; rw [Rat.neg_num, Int.natAbs_neg]
theorem qd_neg (q : Rat) : qd (-q) = qd q := rfl

/-- How two compare. -/
def cmpQ (q r : Rat) : Int := if q < r then -1 else if r < q then 1 else 0
theorem cmpQ_Z (q r : Rat) : cmpQ q r = cmpZ (q.num * qd r) (r.num * qd q) := by
  unfold cmpQ cmpZ qd
  simp only [Rat.lt_iff]
theorem cmpQ_pp {q r : Rat} (hq : qs q = false) (hr : qs r = false) : cmpQ q r = cmpN (qn q * qd r) (qn r * qd q) := by
  rw [cmpQ_Z, num_sgz q, num_sgz r, hq, hr, ← cmpZ_pp]
  simp [sgz]
theorem cmpQ_nn {q r : Rat} (hq : qs q = true) (hr : qs r = true) : cmpQ q r = cmpN (qn r * qd q) (qn q * qd r) := by
  rw [cmpQ_Z, num_sgz q, num_sgz r, hq, hr, ← cmpZ_nn]
  simp [sgz, Int.neg_mul]
theorem qn_pos_of_neg {q : Rat} (hq : qs q = true) : 0 < qn q := by
  have := qs_pos q
  rw [hq] at this
  simpa using this
theorem cmpQ_np {q r : Rat} (hq : qs q = true) (hr : qs r = false) : cmpQ q r = -1 := by
  rw [cmpQ_Z, num_sgz q, num_sgz r, hq, hr]
  have h1 : 0 < qn q * qd r := Nat.mul_pos (qn_pos_of_neg hq) (qd_pos r)
  have h2 : (0 : Int) ≤ (qn r : Int) * (qd q : Int) := by rw [← Int.natCast_mul]; omega
  unfold cmpZ
  simp only [sgz, if_true, Bool.false_eq_true, if_false, Int.neg_mul]
  rw [← Int.natCast_mul] at *
  rw [if_pos (by omega)]
theorem cmpQ_anti (q r : Rat) : cmpQ r q = -cmpQ q r := by
  unfold cmpQ
  by_cases h1 : q < r
  · have h2 : ¬ r < q := Rat.not_lt.2 (Rat.le_of_lt h1)
    simp [h1, h2]
  · by_cases h2 : r < q
    · simp [h1, h2]
    · simp [h1, h2]
theorem cmpQ_pn {q r : Rat} (hq : qs q = false) (hr : qs r = true) : cmpQ q r = 1 := by
  rw [cmpQ_anti r q, cmpQ_np hr hq]; rfl

/-- So long is a fraction at most. -/
def bnd (k : Nat) (q : Rat) : Prop := qn q < LB ^ k ∧ qd q < LB ^ k
theorem qn_mul_le (q r : Rat) : qn (q * r) ≤ qn q * qn r := by
  rw [qn_mul]; exact Nat.mul_le_mul (Nat.div_le_self _ _) (Nat.div_le_self _ _)
theorem qd_mul_le (q r : Rat) : qd (q * r) ≤ qd q * qd r := by
  rw [qd_mul]; exact Nat.mul_le_mul (Nat.div_le_self _ _) (Nat.div_le_self _ _)
theorem sgAdd_le (s : Bool) (x : Nat) (t : Bool) (y : Nat) : (sgAdd s x t y).2 ≤ x + y := by
  unfold sgAdd
  split
  · exact Nat.le_refl _
  · split <;> simp <;> omega
theorem sumN_le (q r : Rat) : (sumN q r).2 ≤ qn q * qd r + qn r * qd q :=
  Nat.le_trans (sgAdd_le _ _ _ _) (Nat.add_le_add (Nat.mul_le_mul_left _ (Nat.div_le_self _ _)) (Nat.mul_le_mul_left _ (Nat.div_le_self _ _)))
theorem qn_add_le (q r : Rat) : qn (q + r) ≤ qn q * qd r + qn r * qd q := by
  rw [qn_add]; exact Nat.le_trans (Nat.div_le_self _ _) (sumN_le q r)
theorem qd_add_le (q r : Rat) : qd (q + r) ≤ qd q * qd r := by
  rw [qd_add]; exact Nat.mul_le_mul (Nat.div_le_self _ _) (Nat.div_le_self _ _)
theorem lt_pow_mul {x y j k : Nat} (hx : x < LB ^ j) (hy : y < LB ^ k) : x * y < LB ^ (j + k) := by
  rw [Nat.pow_add]
  exact Nat.mul_lt_mul_of_lt_of_le hx (Nat.le_of_lt hy) (LB_pow_pos _)
theorem bnd_mul {q r : Rat} {j k : Nat} (hq : bnd j q) (hr : bnd k r) : bnd (j + k) (q * r) :=
  ⟨Nat.lt_of_le_of_lt (qn_mul_le q r) (lt_pow_mul hq.1 hr.1), Nat.lt_of_le_of_lt (qd_mul_le q r) (lt_pow_mul hq.2 hr.2)⟩
theorem two_lt_pow {x y k : Nat} (hx : x < LB ^ k) (hy : y < LB ^ k) : x + y < LB ^ (k + 1) := by
  rw [Nat.pow_succ]
  have := LB_two
  have : LB ^ k * 2 ≤ LB ^ k * LB := Nat.mul_le_mul_left _ this
  omega
theorem bnd_add {q r : Rat} {j k : Nat} (hq : bnd j q) (hr : bnd k r) : bnd (j + k + 1) (q + r) := by
  refine ⟨Nat.lt_of_le_of_lt (qn_add_le q r) ?_, Nat.lt_of_le_of_lt (qd_add_le q r) ?_⟩
  · refine two_lt_pow (lt_pow_mul hq.1 hr.2) ?_
    rw [Nat.add_comm]; exact lt_pow_mul hr.1 hq.2
  · exact Nat.lt_of_lt_of_le (lt_pow_mul hq.2 hr.2) (Nat.pow_le_pow_right LB_pos (by omega))
theorem bnd_mono {q : Rat} {j k : Nat} (h : bnd j q) (hk : j ≤ k) : bnd k q :=
  ⟨Nat.lt_of_lt_of_le h.1 (Nat.pow_le_pow_right LB_pos hk), Nat.lt_of_lt_of_le h.2 (Nat.pow_le_pow_right LB_pos hk)⟩
theorem bnd_neg {q : Rat} {k : Nat} (h : bnd k q) : bnd k (-q) := ⟨by rw [qn_neg]; exact h.1, h.2⟩
theorem qs_inv {q : Rat} (h : q ≠ 0) : qs q⁻¹ = qs q := by
  have h0 : q.num ≠ 0 := fun e => h (Rat.num_eq_zero.1 e)
  unfold qs isg
  rw [Rat.num_inv, decide_eq_decide]
  have hd : (0 : Int) < (q.den : Int) := by have := q.den_pos; omega
  rcases Int.lt_or_gt_of_ne h0 with h1 | h1
  · rw [Int.sign_eq_neg_one_of_neg h1]; omega
  · rw [Int.sign_eq_one_of_pos h1]; omega
theorem qn_inv {q : Rat} (h : q ≠ 0) : qn q⁻¹ = qd q := by
  have h0 : q.num ≠ 0 := fun e => h (Rat.num_eq_zero.1 e)
  unfold qn qd
  rw [Rat.num_inv, Int.natAbs_mul, Int.natAbs_natCast]
  rcases Int.lt_or_gt_of_ne h0 with h1 | h1
  · rw [Int.sign_eq_neg_one_of_neg h1]; simp
  · rw [Int.sign_eq_one_of_pos h1]; simp
theorem qd_inv {q : Rat} (h : q ≠ 0) : qd q⁻¹ = qn q := by
  have h0 : q.num ≠ 0 := fun e => h (Rat.num_eq_zero.1 e)
  unfold qn qd
  rw [Rat.den_inv, if_neg h0]
theorem qn_zero_iff {q : Rat} : qn q = 0 ↔ q = 0 := by
  unfold qn
  rw [Int.natAbs_eq_zero, Rat.num_eq_zero]
theorem qn_pos_iff {q : Rat} : 0 < qn q ↔ q ≠ 0 := by
  rw [Nat.pos_iff_ne_zero, ne_eq, qn_zero_iff]
theorem bnd_inv {q : Rat} {k : Nat} (h0 : q ≠ 0) (h : bnd k q) : bnd k q⁻¹ := ⟨by rw [qn_inv h0]; exact h.2, by rw [qd_inv h0]; exact h.1⟩
/-- A fraction of ints. -/
def qof (n d : Int) : Rat := if d = 0 then 0 else Rat.divInt n d
theorem qmk_divInt (n d : Int) (_h : d ≠ 0) : qmk (isg n != isg d) n.natAbs d.natAbs = Rat.divInt n d := by
  unfold qmk
  by_cases hd : d < 0
  · have e1 : isg d = true := by unfold isg; exact decide_eq_true hd
    have e2 : sgz (isg n != true) n.natAbs = -n := by
      unfold sgz isg
      by_cases hn : n < 0
      · simp [hn]; omega
      · simp [hn]; omega
    rw [e1, e2, ← Rat.neg_divInt_neg n d, show (-d : Int) = ((d.natAbs : Nat) : Int) by omega, Rat.divInt_ofNat]
  · have e1 : isg d = false := by unfold isg; exact decide_eq_false hd
    have e2 : sgz (isg n != false) n.natAbs = n := by rw [Bool.bne_false]; exact sgz_mk n
    rw [e1, e2]
    conv => rhs; rw [show (d : Int) = ((d.natAbs : Nat) : Int) by omega, Rat.divInt_ofNat]
theorem qmk_of (n d : Int) : qmk (isg (if d = 0 then 0 else n) != isg (if d = 0 then 1 else d)) (if d = 0 then 0 else n).natAbs (if d = 0 then 1 else d).natAbs = qof n d := by
  unfold qof
  by_cases h : d = 0
  · rw [if_pos h, if_pos h, if_pos h, qmk_divInt 0 1 (by decide)]; simp
  · rw [if_neg h, if_neg h, if_neg h, qmk_divInt n d h]
/-- A whole number as a fraction. -/
theorem qn_int (z : Int) : qn (z : Rat) = z.natAbs := rfl
theorem qd_int (z : Int) : qd (z : Rat) = 1 := rfl
theorem qs_int (z : Int) : qs (z : Rat) = isg z := rfl
theorem qmk_one (s : Bool) (n : Nat) : qmk s n 1 = ((sgz s n : Int) : Rat) := by
  unfold qmk
  rw [← Rat.divInt_ofNat]
  show Rat.divInt (sgz s n) 1 = _
  rw [Rat.divInt_eq_div, show ((1 : Int) : Rat) = 1 from rfl, Rat.div_def, show (1 : Rat)⁻¹ = 1 from Rat.inv_eq_of_mul_eq_one (Rat.one_mul 1), Rat.mul_one]
theorem int_of_qd {q : Rat} (h : qd q = 1) : q = ((q.num : Int) : Rat) := Rat.ext rfl h
/-- The least size of a whole number above that of a fraction. -/
def nxt (q : Rat) : Nat := qn q / qd q + 1
def near (q r : Rat) : Rat := if q < 0 ∧ 0 < r then 0 else if q < 0 then ((-(nxt r : Int) : Int) : Rat) else (((nxt q : Nat) : Int) : Rat)
def mid (q r : Rat) : Rat := (q + r) * Rat.divInt 1 2
def btw (q r : Rat) : Rat := if q < near q r ∧ near q r < r then near q r else mid q r
theorem lt0_qs {q : Rat} : q < 0 ↔ qs q = true := by
  unfold qs isg
  rw [Rat.lt_iff, decide_eq_true_iff]
  simp
theorem floor_pos {q : Rat} (h : 0 ≤ q) : q.floor = ((qn q / qd q : Nat) : Int) := by
  have h0 := Rat.num_nonneg.2 h
  rw [Rat.floor_def, Int.natCast_ediv]
  unfold qn qd
  rw [Int.natAbs_of_nonneg h0]
theorem near_pos {q r : Rat} (h : 0 ≤ q) : near q r = ((q.floor + 1 : Int) : Rat) := by
  have h1 : ¬ q < 0 := Rat.not_lt.2 h
  unfold near
  rw [if_neg (fun e => h1 e.1), if_neg h1, floor_pos h]; rfl
theorem near_neg {q r : Rat} (h : q < 0) (hr : r ≤ 0) : near q r = ((-((-r).floor + 1) : Int) : Rat) := by
  have h1 : ¬ 0 < r := Rat.not_lt.2 hr
  have h2 : (0 : Rat) ≤ -r := by
    have := Rat.neg_le_neg hr
    rwa [Rat.neg_zero] at this
  unfold near
  rw [if_neg (fun e => h1 e.2), if_pos h, floor_pos h2, qn_neg, qd_neg]; rfl
theorem near_zero {q r : Rat} (h : q < 0) (hr : 0 < r) : near q r = 0 := by unfold near; rw [if_pos ⟨h, hr⟩]
theorem lt_trans' {a b c : Rat} (h : a < b) (k : b ≤ c) : a < c := Rat.not_le.1 fun e => Rat.not_le.2 h (Rat.le_trans k e)
theorem lt_trans'' {a b c : Rat} (h : a ≤ b) (k : b < c) : a < c := Rat.not_le.1 fun e => Rat.not_le.2 k (Rat.le_trans e h)
/-- If a whole number lies between, then the near one does; it is above the lower one anyway (below the upper one, where both are not above 0). -/
theorem near_of {q r : Rat} {z : Int} (h1 : q < (z : Rat)) (h2 : (z : Rat) < r) : q < near q r ∧ near q r < r := by
  by_cases hq : q < 0
  · by_cases hr : 0 < r
    · rw [near_zero hq hr]; exact ⟨hq, hr⟩
    · have hr' := Rat.not_lt.1 hr
      rw [near_neg hq hr']
      have e1 : (-r).floor + 1 ≤ -z := by
        have : (-r).floor < -z := Rat.floor_lt_iff.2 (by rw [Rat.intCast_neg]; exact Rat.neg_lt_neg h2)
        omega
      constructor
      · refine lt_trans' h1 (Rat.intCast_le_intCast.2 (by omega))
      · rw [Rat.intCast_neg]
        rw [Rat.neg_lt_iff]
        exact Rat.lt_floor_add_one (-r)
  · have hq' := Rat.not_lt.1 hq
    rw [near_pos hq']
    have e1 : q.floor + 1 ≤ z := by
      have : q.floor < z := Rat.floor_lt_iff.2 h1
      omega
    exact ⟨Rat.lt_floor_add_one q, lt_trans'' (Rat.intCast_le_intCast.2 e1) h2⟩
theorem half_pos : (0 : Rat) < Rat.divInt 1 2 := by decide
theorem two_half (x : Rat) : (x + x) * Rat.divInt 1 2 = x := by
  have e : (Rat.divInt 1 2 + Rat.divInt 1 2 : Rat) = 1 := by rw [Rat.divInt_add_divInt 1 1 (by decide) (by decide)]; exact Rat.divInt_self' (n := 4) (by decide)
  rw [Rat.add_mul, ← Rat.mul_add, e, Rat.mul_one]
theorem mid_lt {q r : Rat} (h : q < r) : q < mid q r ∧ mid q r < r := by
  unfold mid
  constructor
  · have h1 : q + q < q + r := Rat.add_lt_add_left.2 h
    have := (Rat.mul_lt_mul_right half_pos).2 h1
    rwa [two_half] at this
  · have h1 : q + r < r + r := Rat.add_lt_add_right.2 h
    have := (Rat.mul_lt_mul_right half_pos).2 h1
    rwa [two_half] at this
theorem btw_lt {q r : Rat} (h : q < r) : q < btw q r ∧ btw q r < r := by
  unfold btw
  split
  · rename_i k; exact k
  · exact mid_lt h
end Nt

end Go.Proofs.YtfdeiejphlaokaaGreatDoor

namespace Go.Proofs.YtfdeiejphlaokaaGreatDoor

open Go.RowKit

namespace Nt

/-- How many limbs a number has. -/
def ln (n : Nat) : Nat := (digs n).length
theorem ln_le {n k : Nat} (h : n < LB ^ k) : ln n ≤ k := length_digs_le.2 h
theorem lt_of_ln {n k : Nat} (h : ln n ≤ k) : n < LB ^ k := length_digs_le.1 h
theorem ln_mono {m n : Nat} (h : m ≤ n) : ln m ≤ ln n := ln_le (Nat.lt_of_le_of_lt h (lt_of_ln (Nat.le_refl _)))
theorem ln_pos {n : Nat} : 0 < ln n ↔ 0 < n := digs_len_pos
theorem dec_ln (n : Nat) : decide (0 < n) = decide (0 < ln n) := decide_eq_decide.2 ln_pos.symm
theorem ln_zero : ln 0 = 0 := by unfold ln; rw [digs_zero]; rfl
theorem ln_eq_zero {n : Nat} : ln n = 0 ↔ n = 0 := by
  have := @ln_pos n
  omega
theorem ln_one : ln 1 = 1 := by unfold ln; rw [digs_pos (by decide)]; rw [show 1 / LB = 0 by decide, digs_zero]; rfl
theorem ln_mul (x y : Nat) : ln (x * y) ≤ ln x + ln y := ln_le (lt_pow_mul (lt_of_ln (Nat.le_refl _)) (lt_of_ln (Nat.le_refl _)))
/-- What a call hands back that answers a number's row. -/
def Rd (w : World) (x : Nat) (e : Ending) (w' : World) : Prop := ∃ A c, e = .returned (.slice A (ln x) c) ∧ Sl w' A (digs x) ∧ Below w.heap.size w w'
theorem Rd.mk {w w' : World} {x : Nat} {A : Option Addr} {c : Nat} (s : Sl w' A (digs x)) (b : Below w.heap.size w w') : Rd w x (.returned (.slice A (ln x) c)) w' := ⟨A, c, rfl, s, b⟩
theorem Rd.mk' {w w' : World} {x y : Nat} {A : Option Addr} {c : Nat} (e : y = x) (s : Sl w' A (digs y)) (b : Below w.heap.size w w') : Rd w x (.returned (.slice A (ln y) c)) w' := by subst e; exact ⟨A, c, rfl, s, b⟩
theorem kp' {w w' : World} {A : Option Addr} {xs : List Nat} (b : Below w.heap.size w w') (h : Sl w A xs) : Sl w' A xs := bl_keeps b _ _ h
theorem Mk.rd {w w' : World} {x z : Nat} {e : Ending} (h : Mk w (digs x) e w') (hz : x = z) : Rd w z e w' := by
  subst hz
  obtain ⟨A, c, rfl, r, b⟩ := h
  exact ⟨A, c, rfl, r.sl, b⟩
theorem New.rd {w w' : World} {x z : Nat} {e : Ending} (h : New w (digs x) e w') (hz : x = z) : Rd w z e w' := by
  subst hz
  obtain ⟨g, c, rfl, r, b⟩ := h
  exact ⟨_, c, rfl, r.sl, b⟩

section

variable (A B : Option Addr) (c d x y z : Nat) (w : World) (sx : Sl w A (digs x)) (sy : Sl w B (digs y)) (hx : ln x ≤ 10000) (hy : ln y ≤ 10000)

include sx sy hx hy
theorem gcd_z (hz : Nat.gcd x y = z) : Calls Tryz.prog 71 #[.slice A (ln x) c, .slice B (ln y) d] w (Rd w z) := by
  have h := lgcd_any A B c d (digs x) (digs y) w sx sy (limbs_digs _) (limbs_digs _) (norm_digs _) (norm_digs _) hx hy
  rw [val_digs, val_digs] at h
  exact h.mono fun _ _ h => h.rd hz
theorem lcmp_z (k : Int) (hk : cmpN x y = k) : Calls Tryz.prog 77 #[.slice A (ln x) c, .slice B (ln y) d] w fun e w' => e = .returned (.int .i64 k) ∧ Below w.heap.size w w' := by
  have h := lcmp_any A B c d (digs x) (digs y) w sx sy (limbs_digs _) (limbs_digs _) (norm_digs _) (norm_digs _) (Nat.le_trans hx (by decide)) (Nat.le_trans hy (by decide))
  rw [val_digs, val_digs, hk] at h
  exact h.mono fun _ _ h => ⟨h.1, by obtain ⟨n, e⟩ := h.2; exact bl_q0 e⟩
theorem ldiv_z (h0 : 0 < y) (q r : Nat) (hq : x / y = q) (hr : x % y = r) : Calls Tryz.prog 80 #[.slice A (ln x) c, .slice B (ln y) d] w fun e w' => ∃ A' c' B' d', e = .returned (.tuple #[.slice A' (ln q) c', .slice B' (ln r) d']) ∧ Sl w' A' (digs q) ∧ Sl w' B' (digs r) ∧ Below w.heap.size w w' := by
  subst hq hr
  have h := divide_all A B c d (digs x) (digs y) w sx sy (limbs_digs _) (limbs_digs _) (norm_digs _) (norm_digs _) hx hy (digs_len_pos.2 h0)
  rw [val_digs, val_digs] at h
  refine h.mono fun _ _ h => ?_
  obtain ⟨A', n, c', B', m, d', e, r1, r2, b⟩ := h
  have e1 := r1.len
  have e2 := r2.len
  subst e1; subst e2
  exact ⟨A', c', B', d', e, r1.sl, r2.sl, b⟩
end

theorem isOne_any (A : Option Addr) (c x : Nat) (w : World) (sx : Sl w A (digs x)) (r : Bool) (hr : decide (x = 1) = r) :
    Calls Tryz.prog 70 #[.slice A (ln x) c] w fun e w' => e = .returned (.bool r) ∧ w = w' := by
  subst hr
  by_cases h1 : ln x = 1
  · obtain ⟨hp, hl, he⟩ := digs_one_len h1
    obtain ⟨b, o, rfl, ha⟩ := sx.at_ (by rw [show (digs x).length = 1 from h1]; decide)
    have hc := ha.cell (j := 0) (by rw [show (digs x).length = 1 from h1]; decide)
    rw [he, Nat.add_zero] at hc
    rw [h1]
    have hc' : w.cell? ⟨b, o, none⟩ = some (.int .u64 (x : Int)) := hc
    clear hc ha sx he h1
    by_cases hx : x = 1
    · subst hx
      go_enter Tryz.func70, Tryz.ntmps70
      go_wp2
      go_ret
      exact ⟨rfl, rfl⟩
    · have e : decide (x = 1) = false := decide_eq_false hx
      rw [e]
      have hn : ((x : Int) == 1) = false := beq_eq_false_iff_ne.2 (by omega)
      clear e hx
      go_enter Tryz.func70, Tryz.ntmps70
      go_wp2
      go_ret
      exact ⟨rfl, rfl⟩
  · have e : decide (x = 1) = false := decide_eq_false (fun e => h1 (by rw [e]; exact ln_one))
    rw [e]
    have hn : ((ln x : Int) == 1) = false := beq_eq_false_iff_ne.2 (by omega)
    clear e h1 sx
    generalize ln x = n at *
    go_enter Tryz.func70, Tryz.ntmps70
    go_wp2
    go_ret
    exact ⟨rfl, rfl⟩
end Nt

end Go.Proofs.YtfdeiejphlaokaaGreatDoor

namespace Go.Proofs.YtfdeiejphlaokaaGreatDoor

open Go.RowKit

namespace Nt

/-- Block g holds a fraction's three cells, which may be written. -/
def Q3 (g : Nat) (u v x : Value) (w : World) : Prop :=
  w.cell? ⟨g, 0, none⟩ = some u ∧ w.cell? ⟨g, 1, none⟩ = some v ∧ w.cell? ⟨g, 2, none⟩ = some x ∧ w.frozen? ⟨g, 0, none⟩ = false ∧ w.frozen? ⟨g, 1, none⟩ = false ∧ w.frozen? ⟨g, 2, none⟩ = false
/-- Block g holds a whole number's two cells, which may be written. -/
def Q2 (g : Nat) (u v : Value) (w : World) : Prop :=
  w.cell? ⟨g, 0, none⟩ = some u ∧ w.cell? ⟨g, 1, none⟩ = some v ∧ w.frozen? ⟨g, 0, none⟩ = false ∧ w.frozen? ⟨g, 1, none⟩ = false
section

variable {g : Nat} {u v x : Value} {w w' : World}
theorem Q3.next (h : Q3 g u v x w) (hb : Below w.heap.size w w') : Q3 g u v x w' :=
  ⟨cell_next hb h.1, cell_next hb h.2.1, cell_next hb h.2.2.1, frozen_next hb h.1 h.2.2.2.1, frozen_next hb h.2.1 h.2.2.2.2.1, frozen_next hb h.2.2.1 h.2.2.2.2.2⟩
theorem Q2.next (h : Q2 g u v w) (hb : Below w.heap.size w w') : Q2 g u v w' :=
  ⟨cell_next hb h.1, cell_next hb h.2.1, frozen_next hb h.1 h.2.2.1, frozen_next hb h.2.1 h.2.2.2⟩
theorem Q3.al (h : Q3 g u v x w) (o : Obj) : Q3 g u v x (w.alloc o) := h.next (bl_al (.refl _ _) o)
theorem Q2.al (h : Q2 g u v w) (o : Obj) : Q2 g u v (w.alloc o) := h.next (bl_al (.refl _ _) o)
theorem Q3.drewN (h : Q3 g u v x w) (k : Nat) : Q3 g u v x (w.drewN k) := h
theorem Q3.drew (h : Q3 g u v x w) : Q3 g u v x w.drew := h
theorem Q2.drewN (h : Q2 g u v w) (k : Nat) : Q2 g u v (w.drewN k) := h
theorem Q2.drew (h : Q2 g u v w) : Q2 g u v w.drew := h
theorem Q3.new (u v x : Value) (w : World) : Q3 w.heap.size u v x (w.alloc (.cells #[u, v, x] 36)) := by
  have hn := heap_alloc_new w (.cells #[u, v, x] 36)
  exact ⟨cell_new _ _ _ 0, cell_new _ _ _ 1, cell_new _ _ _ 2, by unfold World.frozen?; rw [hn]; rfl, by unfold World.frozen?; rw [hn]; rfl, by unfold World.frozen?; rw [hn]; rfl⟩
theorem Q2.new (u v : Value) (w : World) : Q2 w.heap.size u v (w.alloc (.cells #[u, v] 119)) := by
  have hn := heap_alloc_new w (.cells #[u, v] 119)
  exact ⟨cell_new _ _ _ 0, cell_new _ _ _ 1, by unfold World.frozen?; rw [hn]; rfl, by unfold World.frozen?; rw [hn]; rfl⟩
theorem Q3.new1 (u v x : Value) (w : World) (o : Obj) : Q3 (w.heap.size + 1) u v x ((w.alloc o).alloc (.cells #[u, v, x] 36)) := by
  have := Q3.new u v x (w.alloc o)
  rwa [size1] at this
theorem Q2.new1 (u v : Value) (w : World) (o : Obj) : Q2 (w.heap.size + 1) u v ((w.alloc o).alloc (.cells #[u, v] 119)) := by
  have := Q2.new u v (w.alloc o)
  rwa [size1] at this
theorem Q3.new2 (u v x : Value) (w : World) (o p : Obj) : Q3 (w.heap.size + 1 + 1) u v x (((w.alloc o).alloc p).alloc (.cells #[u, v, x] 36)) := by
  have := Q3.new1 u v x (w.alloc o) p
  rwa [size1] at this
theorem Q3.lt (h : Q3 g u v x w) : g < w.heap.size := by
  have h := h.1
  unfold World.cell? at h
  cases hh : w.heap[g]? with
  | none => rw [hh] at h; cases h
  | some y => exact (Array.getElem?_eq_some_iff.1 hh).1
theorem Q2.lt (h : Q2 g u v w) : g < w.heap.size := by
  have h := h.1
  unfold World.cell? at h
  cases hh : w.heap[g]? with
  | none => rw [hh] at h; cases h
  | some y => exact (Array.getElem?_eq_some_iff.1 hh).1
/-- An empty fraction's cells are stored over: rows stay. -/
theorem Sl.over3 {A : Option Addr} {xs : List Nat} (s : Sl w A xs) {e : Bool} {C D : Option Addr} {n c m d : Nat} (h : Q3 g (.bool e) (.slice C n c) (.slice D m d) w) (u v x : Value) : Sl (((w.setCell ⟨g, 0, none⟩ u).setCell ⟨g, 1, none⟩ v).setCell ⟨g, 2, none⟩ x) A xs := by
  have ne : ∀ {b k : Nat}, b ≠ k → (⟨g, b, none⟩ : Addr) ≠ ⟨g, k, none⟩ := by
    intro b k hh e
    injection e with _ e2 _
    exact hh e2
  refine (s.store2 h.1 h.2.1 u v).setCell_not (v := .slice D m d) ?_ (fun z => by intro k; cases k) x
  rw [World.cell?_setCell_other _ _ _ _ (ne (by decide)), World.cell?_setCell_other _ _ _ _ (ne (by decide))]
  exact h.2.2.1
theorem Below.over3 {w0 : World} (b : Below w0.heap.size w0 w) (hg : w0.heap.size ≤ g) (u v x : Value) : Below w0.heap.size w0 (((w.setCell ⟨g, 0, none⟩ u).setCell ⟨g, 1, none⟩ v).setCell ⟨g, 2, none⟩ x) := (Below.store2 b hg u v).setCell hg _
end

/-- What a call hands back that answers a fraction. -/
def RQ (w : World) (q : Rat) (e : Ending) (w' : World) : Prop := ∃ A c B d, e = .returned (.agg #[.bool (qs q), .slice A (ln (qn q)) c, .slice B (ln (qd q)) d]) ∧ Sl w' A (digs (qn q)) ∧ Sl w' B (digs (qd q)) ∧ Below w.heap.size w w'
/-- .. a fraction and an error. -/
def RQE (w : World) (q : Rat) (e : Ending) (w' : World) : Prop := ∃ A c B d, e = .returned (.tuple #[.agg #[.bool (qs q), .slice A (ln (qn q)) c, .slice B (ln (qd q)) d], .int .i64 0]) ∧ Sl w' A (digs (qn q)) ∧ Sl w' B (digs (qd q)) ∧ Below w.heap.size w w'
/-- .. an error alone. -/
def RNo (k : Nat) (w : World) (e : Ending) (w' : World) : Prop := e = .returned (.tuple #[.agg #[.bool false, .slice none 0 0, .slice none 0 0], .int .i64 (k : Int)]) ∧ Below w.heap.size w w'
theorem RQ.mk {w w' : World} {q : Rat} {A B : Option Addr} {c d n m : Nat} {s : Bool} (h1 : qs q = s) (h2 : qn q = n) (h3 : qd q = m) (sa : Sl w' A (digs n)) (sb : Sl w' B (digs m)) (b : Below w.heap.size w w') :
    RQ w q (.returned (.agg #[.bool s, .slice A (ln n) c, .slice B (ln m) d])) w' := by
  subst h1 h2 h3
  exact ⟨A, c, B, d, rfl, sa, sb, b⟩
theorem RQE.mk {w w' : World} {q : Rat} {A B : Option Addr} {c d n m : Nat} {s : Bool} (h1 : qs q = s) (h2 : qn q = n) (h3 : qd q = m) (sa : Sl w' A (digs n)) (sb : Sl w' B (digs m)) (b : Below w.heap.size w w') :
    RQE w q (.returned (.tuple #[.agg #[.bool s, .slice A (ln n) c, .slice B (ln m) d], .int .i64 0])) w' := by
  subst h1 h2 h3
  exact ⟨A, c, B, d, rfl, sa, sb, b⟩

set_option maxHeartbeats 400000 in
theorem top_q (s : Bool) (A B : Option Addr) (n c m d : Nat) (w : World) :
    Calls Tryz.prog 68 #[.agg #[.bool s, .slice A n c, .slice B m d]] w fun e w' => e = .returned (.agg #[.bool s, .slice A n c]) ∧ Below w.heap.size w w' := by
  have b0 : Below w.heap.size w ((w.alloc (.cells #[.bool s, .slice A n c, .slice B m d] 36)).alloc (.cells #[.bool s, .slice A n c] 119)) := bl_al (bl_al (.refl _ _) _) _
  go_enter Tryz.func68, Tryz.ntmps68
  go_wp2
  exact bodyPost_ret (v := .agg #[.bool s, .slice A n c]) (by simp [results, Tryz.results68, go_sem]) rfl ⟨rfl, b0⟩

end Nt

end Go.Proofs.YtfdeiejphlaokaaGreatDoor

namespace Go.Proofs.YtfdeiejphlaokaaGreatDoor

open Go.RowKit

namespace Nt

/-- May it be a fraction? -/
def validQ (s : Bool) (xs ys : List Nat) : Bool := validI s xs && validB ys && decide (0 < ys.length) && (Nat.gcd (val xs) (val ys) == 1)
theorem validQ_a {s : Bool} {xs ys : List Nat} (h : validI s xs = false) : validQ s xs ys = false := by unfold validQ; rw [h]; rfl
theorem validQ_b {s : Bool} {xs ys : List Nat} (h : validB ys = false) : validQ s xs ys = false := by unfold validQ; rw [h, Bool.and_false]; rfl
theorem validQ_c {s : Bool} {xs ys : List Nat} (h : ys.length = 0) : validQ s xs ys = false := by unfold validQ; rw [h]; simp
theorem validQ_d {s : Bool} {xs ys : List Nat} (h1 : validI s xs = true) (h2 : validB ys = true) (h3 : 0 < ys.length) : validQ s xs ys = (Nat.gcd (val xs) (val ys) == 1) := by unfold validQ; rw [h1, h2]; simp [h3]
theorem validQ_q (q : Rat) (h1 : ln (qn q) ≤ 64) (h2 : ln (qd q) ≤ 64) : validQ (qs q) (digs (qn q)) (digs (qd q)) = true := by
  have e1 : validI (qs q) (digs (qn q)) = true := validI_iff.2 ⟨valid_short h1 (norm_digs _), fun h => digs_len_pos.2 (qn_pos_of_neg h)⟩
  rw [validQ_d e1 (valid_short h2 (norm_digs _)) (digs_len_pos.2 (qd_pos q)), val_digs, val_digs]
  exact beq_iff_eq.2 (q_cop q)
/-- One that may be: the fraction. -/
theorem as_rat {s : Bool} {xs ys : List Nat} (lx : Limbs xs) (ly : Limbs ys) (h : validQ s xs ys = true) : ∃ q : Rat, s = qs q ∧ xs = digs (qn q) ∧ ys = digs (qd q) := by
  unfold validQ at h
  simp only [Bool.and_eq_true, decide_eq_true_eq, beq_iff_eq] at h
  obtain ⟨⟨⟨h1, h2⟩, h3⟩, h4⟩ := h
  obtain ⟨v1, hp⟩ := validI_iff.1 h1
  obtain ⟨q, e1, e2, e3⟩ := q_of (s := s) (val_pos ly h2 h3) h4 (fun e => val_pos lx v1 (hp e))
  exact ⟨q, e1.symm, by rw [e2]; exact (digs_val_norm lx (validB_iff.1 v1).2).symm, by rw [e3]; exact (digs_val_norm ly (validB_iff.1 h2).2).symm⟩

set_option maxRecDepth 100000 in
set_option maxHeartbeats 2000000 in
theorem validQ_any (s : Bool) (A B : Option Addr) (c d : Nat) (xs ys : List Nat) (w : World) (hx : Sl w A xs) (hy : Sl w B ys) (lx : Limbs xs) (ly : Limbs ys) (hl : xs.length ≤ 1000000) (hl' : ys.length ≤ 1000000) (r : Bool) (hr : validQ s xs ys = r) :
    Calls Tryz.prog 51 #[.agg #[.bool s, .slice A xs.length c, .slice B ys.length d]] w fun e w' => e = .returned (.bool r) ∧ Below w.heap.size w w' := by
  subst hr
  have V1 := hide (fun W (b : Below w.heap.size w W) => validI_any s A c xs W (kp' b hx) (by omega))
  have V2 := hide (fun W (b : Below w.heap.size w W) => valid_any B d ys W (kp' b hy) (by omega))
  have X := hide (Q3.new (.bool s) (.slice A xs.length c) (.slice B ys.length d) w)
  have b0 : Below w.heap.size w (w.alloc (.cells #[.bool s, .slice A xs.length c, .slice B ys.length d] 36)) := bl_al (.refl _ _) _
  have T := hide (fun W => top_q s A B xs.length c ys.length d W)
  cases h1 : validI s xs with
  | false =>
    have E := hide (validQ_a (ys := ys) h1)
    rw [h1] at V1
    clear h1 V2 hx hy lx ly
    generalize xs.length = n at *
    generalize ys.length = m at *
    go_enter Tryz.func51, Tryz.ntmps51
    go_wp2_with (first
      | (go_at_call 68; (with_reducible refine (T.out _).mono ?_); rintro e w1 ⟨rfl, hb⟩; have X := hide (X.out.next hb); obtain ⟨x1, x2, x3, x4, x5, x6⟩ := X.out; have b1 := bl_trans b0 hb; clear hb)
      | (go_at_call 67; (with_reducible refine (V1.out _ b1).mono ?_); rintro e w2 ⟨rfl, hb⟩; have X := hide (X.out.next hb); obtain ⟨x1, x2, x3, x4, x5, x6⟩ := X.out; have b2 := bl_trans b1 hb; clear hb))
    go_ret
    exact ⟨ret_bool E.out.symm, b2⟩
  | true =>
    rw [h1] at V1
    cases h2 : validB ys with
    | false =>
      have E := hide (validQ_b (s := s) (xs := xs) h2)
      rw [h2] at V2
      clear h1 h2 hx hy lx ly
      generalize xs.length = n at *
      generalize ys.length = m at *
      go_enter Tryz.func51, Tryz.ntmps51
      go_wp2_with (first
        | (go_at_call 68; (with_reducible refine (T.out _).mono ?_); rintro e w1 ⟨rfl, hb⟩; have X := hide (X.out.next hb); obtain ⟨x1, x2, x3, x4, x5, x6⟩ := X.out; have b1 := bl_trans b0 hb; clear hb)
        | (go_at_call 67; (with_reducible refine (V1.out _ b1).mono ?_); rintro e w2 ⟨rfl, hb⟩; have X := hide (X.out.next hb); obtain ⟨x1, x2, x3, x4, x5, x6⟩ := X.out; have b2 := bl_trans b1 hb; clear hb)
        | (go_at_call 69; (with_reducible refine (V2.out _ b2).mono ?_); rintro e w3 ⟨rfl, rfl⟩))
      go_ret
      exact ⟨ret_bool E.out.symm, b2⟩
    | true =>
      rw [h2] at V2
      by_cases h3 : ys.length = 0
      · have E := hide (validQ_c (s := s) (xs := xs) h3)
        clear h1 h2 hx hy lx ly
        generalize xs.length = n at *
        generalize ys.length = m at *
        subst h3
        go_enter Tryz.func51, Tryz.ntmps51
        go_wp2_with (first
          | (go_at_call 68; (with_reducible refine (T.out _).mono ?_); rintro e w1 ⟨rfl, hb⟩; have X := hide (X.out.next hb); obtain ⟨x1, x2, x3, x4, x5, x6⟩ := X.out; have b1 := bl_trans b0 hb; clear hb)
          | (go_at_call 67; (with_reducible refine (V1.out _ b1).mono ?_); rintro e w2 ⟨rfl, hb⟩; have X := hide (X.out.next hb); obtain ⟨x1, x2, x3, x4, x5, x6⟩ := X.out; have b2 := bl_trans b1 hb; clear hb)
          | (go_at_call 69; (with_reducible refine (V2.out _ b2).mono ?_); rintro e w3 ⟨rfl, rfl⟩))
        go_ret
        exact ⟨ret_bool E.out.symm, b2⟩
      · have hp : 0 < ys.length := by omega
        have E := hide (validQ_d h1 h2 hp)
        have n1 := digs_val_norm lx (validB_iff.1 (validI_B h1)).2
        have n2 := digs_val_norm ly (validB_iff.1 h2).2
        have k1 := (validB_iff.1 (validI_B h1)).1
        have k2 := (validB_iff.1 h2).1
        obtain ⟨x, hxe⟩ : ∃ x, x = val xs := ⟨_, rfl⟩
        obtain ⟨y, hye⟩ : ∃ y, y = val ys := ⟨_, rfl⟩
        rw [← hxe] at n1 E
        rw [← hye] at n2 E
        obtain ⟨g, hg⟩ : ∃ g, Nat.gcd x y = g := ⟨_, rfl⟩
        rw [hg] at E
        have e1 : ln x = xs.length := by unfold ln; rw [n1]
        have e2 : ln y = ys.length := by unfold ln; rw [n2]
        have G := hide (fun W (b : Below w.heap.size w W) => gcd_z A B c d x y g W (by rw [n1]; exact kp' b hx) (by rw [n2]; exact kp' b hy) (by omega) (by omega) hg)
        rw [e1, e2] at G
        obtain ⟨r, hr⟩ : ∃ r, (g == 1) = r := ⟨_, rfl⟩
        rw [hr] at E
        have I := hide (fun A c W (s : Sl W A (digs g)) => isOne_any A c g W s r (by rw [← hr]; cases h : (g == 1) <;> simp_all))
        clear h1 h2 hx hy lx ly n1 n2 k1 k2 hxe hye hg e1 e2 hr h3
        generalize xs.length = n at *
        generalize ys.length = m at *
        go_enter Tryz.func51, Tryz.ntmps51
        go_wp2_with (first
          | (go_at_call 68; (with_reducible refine (T.out _).mono ?_); rintro e w1 ⟨rfl, hb⟩; have X := hide (X.out.next hb); obtain ⟨x1, x2, x3, x4, x5, x6⟩ := X.out; have b1 := bl_trans b0 hb; clear hb)
          | (go_at_call 67; (with_reducible refine (V1.out _ b1).mono ?_); rintro e w2 ⟨rfl, hb⟩; have X := hide (X.out.next hb); obtain ⟨x1, x2, x3, x4, x5, x6⟩ := X.out; have b2 := bl_trans b1 hb; clear hb)
          | (go_at_call 69; (with_reducible refine (V2.out _ b2).mono ?_); rintro e w3 ⟨rfl, rfl⟩)
          | (go_at_call 71; (with_reducible refine (G.out _ b2).mono ?_); rintro e w4 ⟨A4, c4, rfl, s4, hb⟩; have X := hide (X.out.next hb); obtain ⟨x1, x2, x3, x4, x5, x6⟩ := X.out; have b4 := bl_trans b2 hb; clear hb)
          | (go_at_call 70; (with_reducible refine (I.out A4 c4 _ s4).mono ?_); rintro e w5 ⟨rfl, rfl⟩))
        go_ret
        exact ⟨ret_bool E.out.symm, b4⟩
/-- .. of a fraction. -/
theorem valid_q (q : Rat) (A B : Option Addr) (c d : Nat) (w : World) (sx : Sl w A (digs (qn q))) (sy : Sl w B (digs (qd q))) (h1 : ln (qn q) ≤ 64) (h2 : ln (qd q) ≤ 64) :
    Calls Tryz.prog 51 #[.agg #[.bool (qs q), .slice A (ln (qn q)) c, .slice B (ln (qd q)) d]] w fun e w' => e = .returned (.bool true) ∧ Below w.heap.size w w' :=
  validQ_any (qs q) A B c d _ _ w sx sy (limbs_digs _) (limbs_digs _) (Nat.le_trans h1 (by decide)) (Nat.le_trans h2 (by decide)) true (validQ_q q h1 h2)
end Nt

end Go.Proofs.YtfdeiejphlaokaaGreatDoor

namespace Go.Proofs.YtfdeiejphlaokaaGreatDoor

open Go.RowKit

namespace Nt

theorem op_bne (a b r : Bool) (h : (a != b) = r) (W : World) : (binOp .neq 4 (.bool a) (.bool b)).run Tryz.prog W = .ok (.bool r) W := by
  subst h
  cases a <;> cases b <;> kernel_rfl
theorem op_beq (a b r : Bool) (h : (a == b) = r) (W : World) : (binOp .eql 4 (.bool a) (.bool b)).run Tryz.prog W = .ok (.bool r) W := by
  subst h
  cases a <;> cases b <;> kernel_rfl
theorem i64_lt {x : Int} (h1 : -9223372036854775808 ≤ x) (h2 : x ≤ 9223372036854775807) : x.natAbs < LB ^ 64 := by
  have h : LB ^ 1 ≤ LB ^ 64 := Nat.pow_le_pow_right LB_pos (by decide)
  rw [Nat.pow_one] at h
  rw [LB_eq] at h
  have h' : x.natAbs < 18446744073709551616 := by omega
  exact Nat.lt_of_lt_of_le h' h
theorem validI_abs (x : Int) (s : Bool) (n : Nat) (A : Option Addr) (c : Nat) (w : World) (hn : x.natAbs = n) (hs : isg x = s) (sx : Sl w A (digs n)) (h : ln n ≤ 64) :
    Calls Tryz.prog 67 #[.agg #[.bool s, .slice A (ln n) c]] w fun e w' => e = .returned (.bool true) ∧ Below w.heap.size w w' := by
  subst hn hs
  have v := validI_any (isg x) A c (digs x.natAbs) w sx (Nat.le_trans h (by decide))
  have e : validI (isg x) (digs x.natAbs) = true := validI_num (lt_of_ln h)
  rwa [e] at v

end Nt

end Go.Proofs.YtfdeiejphlaokaaGreatDoor

namespace Go.Proofs.YtfdeiejphlaokaaGreatDoor

open Go.RowKit

namespace Nt

/-- What stays on the way: all that was there, an empty fraction's cells for the answer, rows that were made. -/
def Kl (w : World) (g : Nat) (l : List (Option Addr × Nat)) (W : World) : Prop := Below w.heap.size w W ∧ Q3 g (.bool false) (.slice none 0 0) (.slice none 0 0) W ∧ ∀ p, p ∈ l → Sl W p.1 (digs p.2)
section

variable {w W W' : World} {g : Nat} {l : List (Option Addr × Nat)}
theorem Kl.next (k : Kl w g l W) (hb : Below W.heap.size W W') : Kl w g l W' := ⟨bl_trans k.1 hb, k.2.1.next hb, fun p hp => kp' hb (k.2.2 p hp)⟩
theorem Kl.drew (k : Kl w g l W) : Kl w g l W.drew := ⟨k.1.drew, k.2.1.drew, k.2.2⟩
theorem Kl.sl (k : Kl w g l W) {A : Option Addr} {x : Nat} (h : (A, x) ∈ l) : Sl W A (digs x) := k.2.2 _ h
theorem Kl.more (k : Kl w g l W) {A : Option Addr} {x : Nat} (h : Sl W A (digs x)) : Kl w g ((A, x) :: l) W := ⟨k.1, k.2.1, fun p hp => by
  rcases List.mem_cons.1 hp with e | e
  · rw [e]; exact h
  · exact k.2.2 p e⟩
theorem Kl.start (b : Below w.heap.size w W) (q : Q3 g (.bool false) (.slice none 0 0) (.slice none 0 0) W) : Kl w g [] W := ⟨b, q, fun p hp => by cases hp⟩
theorem Kl.old (k : Kl w g l W) {A : Option Addr} {xs : List Nat} (s : Sl w A xs) : Sl W A xs := kp' k.1 s
end
theorem S6_next {w w' : World} (hb : Below w.heap.size w w') {p1 p2 p3 p4 p5 p6 : Addr} {v1 v2 v3 v4 v5 v6 : Value} {w0 : World} {g : Nat} {l : List (Option Addr × Nat)}
    (h : w.cell? p1 = some v1 ∧ w.cell? p2 = some v2 ∧ w.cell? p3 = some v3 ∧ w.cell? p4 = some v4 ∧ w.cell? p5 = some v5 ∧ w.cell? p6 = some v6 ∧ Kl w0 g l w) :
    w'.cell? p1 = some v1 ∧ w'.cell? p2 = some v2 ∧ w'.cell? p3 = some v3 ∧ w'.cell? p4 = some v4 ∧ w'.cell? p5 = some v5 ∧ w'.cell? p6 = some v6 ∧ Kl w0 g l w' := by
  obtain ⟨h1, h2, h3, h4, h5, h6, h7⟩ := h
  exact ⟨cell_next hb h1, cell_next hb h2, cell_next hb h3, cell_next hb h4, cell_next hb h5, cell_next hb h6, h7.next hb⟩
theorem S6_more {W : World} {p1 p2 p3 p4 p5 p6 : Addr} {v1 v2 v3 v4 v5 v6 : Value} {w0 : World} {g : Nat} {l : List (Option Addr × Nat)} {A : Option Addr} {x : Nat}
    (h : W.cell? p1 = some v1 ∧ W.cell? p2 = some v2 ∧ W.cell? p3 = some v3 ∧ W.cell? p4 = some v4 ∧ W.cell? p5 = some v5 ∧ W.cell? p6 = some v6 ∧ Kl w0 g l W) (s : Sl W A (digs x)) :
    W.cell? p1 = some v1 ∧ W.cell? p2 = some v2 ∧ W.cell? p3 = some v3 ∧ W.cell? p4 = some v4 ∧ W.cell? p5 = some v5 ∧ W.cell? p6 = some v6 ∧ Kl w0 g ((A, x) :: l) W :=
  ⟨h.1, h.2.1, h.2.2.1, h.2.2.2.1, h.2.2.2.2.1, h.2.2.2.2.2.1, h.2.2.2.2.2.2.more s⟩
theorem S6_drew {W : World} {p1 p2 p3 p4 p5 p6 : Addr} {v1 v2 v3 v4 v5 v6 : Value} {w0 : World} {g : Nat} {l : List (Option Addr × Nat)}
    (h : W.cell? p1 = some v1 ∧ W.cell? p2 = some v2 ∧ W.cell? p3 = some v3 ∧ W.cell? p4 = some v4 ∧ W.cell? p5 = some v5 ∧ W.cell? p6 = some v6 ∧ Kl w0 g l W) :
    W.drew.cell? p1 = some v1 ∧ W.drew.cell? p2 = some v2 ∧ W.drew.cell? p3 = some v3 ∧ W.drew.cell? p4 = some v4 ∧ W.drew.cell? p5 = some v5 ∧ W.drew.cell? p6 = some v6 ∧ Kl w0 g l W.drew := ⟨h.1, h.2.1, h.2.2.1, h.2.2.2.1, h.2.2.2.2.1, h.2.2.2.2.2.1, h.2.2.2.2.2.2.drew⟩
theorem mem1 {p : Option Addr × Nat} {l : List (Option Addr × Nat)} : p ∈ p :: l := .head _
theorem mem2 {p a : Option Addr × Nat} {l : List (Option Addr × Nat)} : p ∈ a :: p :: l := .tail _ (.head _)
theorem mem3 {p a b : Option Addr × Nat} {l : List (Option Addr × Nat)} : p ∈ a :: b :: p :: l := .tail _ (.tail _ (.head _))
theorem k6 {c1 c2 c3 c4 c5 c6 k : Prop} (h : c1 ∧ c2 ∧ c3 ∧ c4 ∧ c5 ∧ c6 ∧ k) : k := h.2.2.2.2.2.2
theorem ln_div (x y : Nat) : ln (x / y) ≤ ln x := ln_mono (Nat.div_le_self _ _)

theorem S6c_next {w w' : World} (hb : Below w.heap.size w w') {p1 p2 p3 p4 p5 p6 : Addr} {v1 v2 v3 v4 v5 v6 : Value}
    (h : w.cell? p1 = some v1 ∧ w.cell? p2 = some v2 ∧ w.cell? p3 = some v3 ∧ w.cell? p4 = some v4 ∧ w.cell? p5 = some v5 ∧ w.cell? p6 = some v6) :
    w'.cell? p1 = some v1 ∧ w'.cell? p2 = some v2 ∧ w'.cell? p3 = some v3 ∧ w'.cell? p4 = some v4 ∧ w'.cell? p5 = some v5 ∧ w'.cell? p6 = some v6 := by
  obtain ⟨h1, h2, h3, h4, h5, h6⟩ := h
  exact ⟨cell_next hb h1, cell_next hb h2, cell_next hb h3, cell_next hb h4, cell_next hb h5, cell_next hb h6⟩
theorem cell_over3 {w : World} {g h k : Nat} {v : Value} (hh : w.cell? ⟨h, k, none⟩ = some v) (hne : h ≠ g) (a b c : Value) : (((w.setCell ⟨g, 0, none⟩ a).setCell ⟨g, 1, none⟩ b).setCell ⟨g, 2, none⟩ c).cell? ⟨h, k, none⟩ = some v := by
  have ne : ∀ j : Nat, (⟨g, j, none⟩ : Addr) ≠ ⟨h, k, none⟩ := by
    intro j e
    injection e with e1 _ _
    exact hne e1.symm
  rw [World.cell?_setCell_other _ _ _ _ (ne 2), World.cell?_setCell_other _ _ _ _ (ne 1), World.cell?_setCell_other _ _ _ _ (ne 0)]
  exact hh
theorem S6c_over {w : World} {g h : Nat} {v1 v2 v3 v4 v5 v6 a b c : Value} (h1 : h ≠ g) (h2 : h + 1 ≠ g)
    (x : w.cell? ⟨h, 0, none⟩ = some v1 ∧ w.cell? ⟨h, 1, none⟩ = some v2 ∧ w.cell? ⟨h, 2, none⟩ = some v3 ∧ w.cell? ⟨h + 1, 0, none⟩ = some v4 ∧ w.cell? ⟨h + 1, 1, none⟩ = some v5 ∧ w.cell? ⟨h + 1, 2, none⟩ = some v6) :
    (((w.setCell ⟨g, 0, none⟩ a).setCell ⟨g, 1, none⟩ b).setCell ⟨g, 2, none⟩ c).cell? ⟨h, 0, none⟩ = some v1 ∧ (((w.setCell ⟨g, 0, none⟩ a).setCell ⟨g, 1, none⟩ b).setCell ⟨g, 2, none⟩ c).cell? ⟨h, 1, none⟩ = some v2 ∧ (((w.setCell ⟨g, 0, none⟩ a).setCell ⟨g, 1, none⟩ b).setCell ⟨g, 2, none⟩ c).cell? ⟨h, 2, none⟩ = some v3 ∧ (((w.setCell ⟨g, 0, none⟩ a).setCell ⟨g, 1, none⟩ b).setCell ⟨g, 2, none⟩ c).cell? ⟨h + 1, 0, none⟩ = some v4 ∧ (((w.setCell ⟨g, 0, none⟩ a).setCell ⟨g, 1, none⟩ b).setCell ⟨g, 2, none⟩ c).cell? ⟨h + 1, 1, none⟩ = some v5 ∧ (((w.setCell ⟨g, 0, none⟩ a).setCell ⟨g, 1, none⟩ b).setCell ⟨g, 2, none⟩ c).cell? ⟨h + 1, 2, none⟩ = some v6 :=
  ⟨cell_over3 x.1 h1 _ _ _, cell_over3 x.2.1 h1 _ _ _, cell_over3 x.2.2.1 h1 _ _ _, cell_over3 x.2.2.2.1 h2 _ _ _, cell_over3 x.2.2.2.2.1 h2 _ _ _, cell_over3 x.2.2.2.2.2 h2 _ _ _⟩
theorem ln_add (x y k : Nat) (hx : ln x ≤ k) (hy : ln y ≤ k) : ln (x + y) ≤ k + 1 := ln_le (two_lt_pow (lt_of_ln hx) (lt_of_ln hy))

end Nt

end Go.Proofs.YtfdeiejphlaokaaGreatDoor

namespace Go.Proofs.YtfdeiejphlaokaaGreatDoor

open Go.RowKit

namespace Nt

/-- 'All that was there still is': opaque. -/
def Kb (w W : World) : Prop := Below w.heap.size w W
theorem Kb.of {w W : World} (b : Below w.heap.size w W) : Kb w W := b
theorem S4_next {w w' : World} (hb : Below w.heap.size w w') {p1 p2 p3 p4 : Addr} {v1 v2 v3 v4 : Value} {w0 : World}
    (h : w.cell? p1 = some v1 ∧ w.cell? p2 = some v2 ∧ w.cell? p3 = some v3 ∧ w.cell? p4 = some v4 ∧ Kb w0 w) :
    w'.cell? p1 = some v1 ∧ w'.cell? p2 = some v2 ∧ w'.cell? p3 = some v3 ∧ w'.cell? p4 = some v4 ∧ Kb w0 w' := by
  obtain ⟨h1, h2, h3, h4, h5⟩ := h
  exact ⟨cell_next hb h1, cell_next hb h2, cell_next hb h3, cell_next hb h4, bl_trans h5 hb⟩
theorem k4 {c1 c2 c3 c4 : Prop} {w W : World} (h : c1 ∧ c2 ∧ c3 ∧ c4 ∧ Kb w W) : Below w.heap.size w W := h.2.2.2.2

end Nt

end Go.Proofs.YtfdeiejphlaokaaGreatDoor

namespace Go.Proofs.YtfdeiejphlaokaaGreatDoor

open Go.RowKit

namespace Nt

theorem Kl.b {w W : World} {g : Nat} {l : List (Option Addr × Nat)} (k : Kl w g l W) : Below w.heap.size w W := k.1
/-- Is a fraction short enough? -/
def fitq (q : Rat) : Prop := ln (qn q) ≤ 64 ∧ ln (qd q) ≤ 64
theorem fitq_bnd {q : Rat} {k : Nat} (h : bnd k q) (hk : k ≤ 64) : fitq q := ⟨Nat.le_trans (ln_le h.1) hk, Nat.le_trans (ln_le h.2) hk⟩
theorem fitq_neg {q : Rat} (h : fitq q) : fitq (-q) := ⟨by rw [qn_neg]; exact h.1, h.2⟩
theorem clone_z (A : Option Addr) (c x : Nat) (w : World) (sx : Sl w A (digs x)) (hx : ln x ≤ 100000) : Calls Tryz.prog 81 #[.slice A (ln x) c] w (Rd w x) := by
  refine (clone_any A (ln x) c (digs x) w rfl sx hx).mono fun e w' h => ?_
  obtain ⟨A', c', e, r, b⟩ := h
  exact ⟨A', c', e, r.sl, b⟩
theorem S3_next {w w' : World} (hb : Below w.heap.size w w') {p1 p2 p3 : Addr} {v1 v2 v3 : Value}
    (h : w.cell? p1 = some v1 ∧ w.cell? p2 = some v2 ∧ w.cell? p3 = some v3) : w'.cell? p1 = some v1 ∧ w'.cell? p2 = some v2 ∧ w'.cell? p3 = some v3 :=
  ⟨cell_next hb h.1, cell_next hb h.2.1, cell_next hb h.2.2⟩
theorem S3_over {w : World} {g h : Nat} {v1 v2 v3 a b c : Value} (h1 : h ≠ g) (x : w.cell? ⟨h, 0, none⟩ = some v1 ∧ w.cell? ⟨h, 1, none⟩ = some v2 ∧ w.cell? ⟨h, 2, none⟩ = some v3) :
    (((w.setCell ⟨g, 0, none⟩ a).setCell ⟨g, 1, none⟩ b).setCell ⟨g, 2, none⟩ c).cell? ⟨h, 0, none⟩ = some v1 ∧ (((w.setCell ⟨g, 0, none⟩ a).setCell ⟨g, 1, none⟩ b).setCell ⟨g, 2, none⟩ c).cell? ⟨h, 1, none⟩ = some v2 ∧ (((w.setCell ⟨g, 0, none⟩ a).setCell ⟨g, 1, none⟩ b).setCell ⟨g, 2, none⟩ c).cell? ⟨h, 2, none⟩ = some v3 :=
  ⟨cell_over3 x.1 h1 _ _ _, cell_over3 x.2.1 h1 _ _ _, cell_over3 x.2.2 h1 _ _ _⟩
theorem sum_len {q r : Rat} (f1 : fitq q) (f2 : fitq r) : ln (qn (q + r)) ≤ 9223372036854775807 ∧ ln (qd (q + r)) ≤ 9223372036854775807 := by
  have h := bnd_add (q := q) (r := r) (j := 64) (k := 64) ⟨lt_of_ln f1.1, lt_of_ln f1.2⟩ ⟨lt_of_ln f2.1, lt_of_ln f2.2⟩
  exact ⟨Nat.le_trans (ln_le h.1) (by decide), Nat.le_trans (ln_le h.2) (by decide)⟩
theorem mul_len' {q r : Rat} (f1 : fitq q) (f2 : fitq r) : ln (qn (q * r)) ≤ 9223372036854775807 ∧ ln (qd (q * r)) ≤ 9223372036854775807 := by
  have h := bnd_mul (q := q) (r := r) (j := 64) (k := 64) ⟨lt_of_ln f1.1, lt_of_ln f1.2⟩ ⟨lt_of_ln f2.1, lt_of_ln f2.2⟩
  exact ⟨Nat.le_trans (ln_le h.1) (by decide), Nat.le_trans (ln_le h.2) (by decide)⟩

end Nt

end Go.Proofs.YtfdeiejphlaokaaGreatDoor

namespace Go.Proofs.YtfdeiejphlaokaaGreatDoor

open Go.RowKit

namespace Nt

theorem q3_three {g : Nat} {u v x : Value} {w : World} (h : Q3 g u v x w) : w.cell? ⟨g, 0, none⟩ = some u ∧ w.cell? ⟨g, 1, none⟩ = some v ∧ w.cell? ⟨g, 2, none⟩ = some x := ⟨h.1, h.2.1, h.2.2.1⟩
theorem quoI_pos (x : Int) (y : Nat) (h : 0 < y) : quoI x (y : Int) = x / (y : Int) := by
  obtain ⟨h1, h2, h3⟩ := quo_rem x (y : Int) (by omega)
  generalize quoI x (y : Int) = k at *
  generalize remI x (y : Int) = r at *
  have hr : 0 ≤ r := by
    rcases h3 with h3 | h3
    · omega
    · unfold cmpZ at h3
      rw [if_neg (show ¬ (y : Int) < 0 by omega), if_pos (show (0 : Int) < y by omega)] at h3
      split at h3 <;> (try split at h3) <;> omega
  have hry : r < (y : Int) := by omega
  rw [← h1, Int.add_comm, Int.add_mul_ediv_right _ _ (by omega), Int.ediv_eq_zero_of_lt hr hry, Int.zero_add]
theorem quoI_floor (q : Rat) : quoI q.num ((qd q : Nat) : Int) = q.floor := by
  rw [quoI_pos _ _ (qd_pos q), Rat.floor_def]; rfl
theorem q2_next1 {g : Nat} {u v : Value} {w : World} (h : Q2 g u v w) (X : Obj) : Q2 g u v (w.alloc X) := h.al X
theorem fresh_after2 {g : Nat} {u v : Value} {w : World} (h : Q2 g u v w) (a b : Value) : Q2 w.heap.size (.bool false) (.slice none 0 0) (((w.alloc (.cells #[.bool false, .slice none 0 0] 119)).setCell ⟨g, 0, none⟩ a).setCell ⟨g, 1, none⟩ b) := by
  have hl := h.lt
  have n := Q2.new (.bool false) (.slice none 0 0) w
  have ne : ∀ j k : Nat, (⟨g, j, none⟩ : Addr) ≠ ⟨w.heap.size, k, none⟩ := by
    intro j k e
    injection e with e1 _ _
    omega
  refine ⟨?_, ?_, ?_, ?_⟩
  · rw [World.cell?_setCell_other _ _ _ _ (ne _ _), World.cell?_setCell_other _ _ _ _ (ne _ _)]; exact n.1
  · rw [World.cell?_setCell_other _ _ _ _ (ne _ _), World.cell?_setCell_other _ _ _ _ (ne _ _)]; exact n.2.1
  · rw [World.frozen?_setCell, World.frozen?_setCell]; exact n.2.2.1
  · rw [World.frozen?_setCell, World.frozen?_setCell]; exact n.2.2.2
theorem other_after2 {g k : Nat} {u v x y : Value} {w : World} (h : Q2 k x y w) (hne : g ≠ k) (a b : Value) (_ : Q2 g u v w) : Q2 k x y ((w.setCell ⟨g, 0, none⟩ a).setCell ⟨g, 1, none⟩ b) := by
  have ne : ∀ i j : Nat, (⟨g, i, none⟩ : Addr) ≠ ⟨k, j, none⟩ := by
    intro i j e
    injection e with e1 _ _
    exact hne e1
  refine ⟨?_, ?_, ?_, ?_⟩
  · rw [World.cell?_setCell_other _ _ _ _ (ne _ _), World.cell?_setCell_other _ _ _ _ (ne _ _)]; exact h.1
  · rw [World.cell?_setCell_other _ _ _ _ (ne _ _), World.cell?_setCell_other _ _ _ _ (ne _ _)]; exact h.2.1
  · rw [World.frozen?_setCell, World.frozen?_setCell]; exact h.2.2.1
  · rw [World.frozen?_setCell, World.frozen?_setCell]; exact h.2.2.2
theorem S3_set2 {w : World} {g h : Nat} {v1 v2 v3 a b : Value} (h1 : h ≠ g) (x : w.cell? ⟨h, 0, none⟩ = some v1 ∧ w.cell? ⟨h, 1, none⟩ = some v2 ∧ w.cell? ⟨h, 2, none⟩ = some v3) :
    ((w.setCell ⟨g, 0, none⟩ a).setCell ⟨g, 1, none⟩ b).cell? ⟨h, 0, none⟩ = some v1 ∧ ((w.setCell ⟨g, 0, none⟩ a).setCell ⟨g, 1, none⟩ b).cell? ⟨h, 1, none⟩ = some v2 ∧ ((w.setCell ⟨g, 0, none⟩ a).setCell ⟨g, 1, none⟩ b).cell? ⟨h, 2, none⟩ = some v3 := by
  have ne : ∀ j k : Nat, (⟨g, j, none⟩ : Addr) ≠ ⟨h, k, none⟩ := by
    intro j k e
    injection e with e1 _ _
    exact h1 e1.symm
  refine ⟨?_, ?_, ?_⟩ <;> rw [World.cell?_setCell_other _ _ _ _ (ne _ _), World.cell?_setCell_other _ _ _ _ (ne _ _)]
  · exact x.1
  · exact x.2.1
  · exact x.2.2

/-- Where the walk of Floor stands behind whole.Div, in whatever order the memory was made: all that was there, an empty number's cells for the answer, block g with the quotient. -/
def Fin (w : World) (bv : Bool) (A : Option Addr) (n c x : Nat) (g : Nat) (V : World) : Prop :=
  Below w.heap.size w V ∧ Q2 (w.heap.size + 1) (.bool false) (.slice none 0 0) V ∧ Q2 g (.bool bv) (.slice A n c) V ∧ Sl V A (digs x)
theorem then_fin {K : Act → World → Prop} {Q' : Exit → Act → World → Prop} {a : Act} {V : World} {Fn : World → Prop} (hF : Fn V) (h : ∀ v, Fn v → Exit.then K Q' .normal a v) : Exit.then K Q' .normal a V := h V hF
/-- .. before the quotient is laid. -/
def Fi0 (w : World) (A : Option Addr) (x : Nat) (V : World) : Prop := Below w.heap.size w V ∧ Q2 (w.heap.size + 1) (.bool false) (.slice none 0 0) V ∧ Sl V A (digs x)
theorem q2_set {g : Nat} {u v a b : Value} {w : World} (h : Q2 g u v w) : Q2 g a b ((w.setCell ⟨g, 0, none⟩ a).setCell ⟨g, 1, none⟩ b) := by
  have ne : (⟨g, 1, none⟩ : Addr) ≠ ⟨g, 0, none⟩ := by intro e; injection e with _ e _; cases e
  have ne' : (⟨g, 0, none⟩ : Addr) ≠ ⟨g, 1, none⟩ := by intro e; injection e with _ e _; cases e
  have h1 : (w.setCell ⟨g, 0, none⟩ a).cell? ⟨g, 1, none⟩ = some v := by rw [World.cell?_setCell_other _ _ _ _ ne']; exact h.2.1
  refine ⟨?_, ?_, ?_, ?_⟩
  · rw [World.cell?_setCell_other _ _ _ _ ne, World.cell?_setCell_same _ _ _ h.1]
  · rw [World.cell?_setCell_same _ _ _ h1]
  · rw [World.frozen?_setCell, World.frozen?_setCell]; exact h.2.2.1
  · rw [World.frozen?_setCell, World.frozen?_setCell]; exact h.2.2.2
section

variable {w V : World} {A : Option Addr} {x : Nat}
theorem Fi0.al (f : Fi0 w A x V) (o : Obj) : Fi0 w A x (V.alloc o) := ⟨bl_al f.1 o, f.2.1.al o, f.2.2.alloc o⟩
theorem Fi0.set {g : Nat} {e : Bool} {C : Option Addr} {n c : Nat} (f : Fi0 w A x V) (h : Q2 g (.bool e) (.slice C n c) V) (hg : w.heap.size + 1 < g) (a b : Value) : Fi0 w A x ((V.setCell ⟨g, 0, none⟩ a).setCell ⟨g, 1, none⟩ b) :=
  ⟨Below.store2 f.1 (by omega) a b, other_after2 f.2.1 (by omega) a b h, f.2.2.store2 h.1 h.2.1 a b⟩
theorem Fi0.fin {g : Nat} {bv : Bool} {n c : Nat} (f : Fi0 w A x V) (q : Q2 g (.bool bv) (.slice A n c) V) : Fin w bv A n c x g V := ⟨f.1, f.2.1, q, f.2.2⟩
end

section

variable {w V : World} {A B : Option Addr} {x n c m d : Nat} {bv t : Bool}
/-- Both made behind the call. -/
theorem fin_aa1 (f : Fi0 w A x V) : Fin w bv A n c x V.heap.size ((V.alloc (.cells #[.bool bv, .slice A n c] 119)).alloc (.cells #[.bool t, .slice B m d] 119)) :=
  ((f.al _).al _).fin ((Q2.new _ _ _).al _)
theorem fin_aa2 (f : Fi0 w A x V) : Fin w bv A n c x (V.heap.size + 1) ((V.alloc (.cells #[.bool t, .slice B m d] 119)).alloc (.cells #[.bool bv, .slice A n c] 119)) :=
  ((f.al _).al _).fin (Q2.new1 _ _ _ _)
/-- The quotient's block ahead of it, the rest's behind. -/
theorem fin_sa {k : Nat} (f : Fi0 w A x V) (h : Q2 k (.bool false) (.slice none 0 0) V) (hk : w.heap.size + 1 < k) : Fin w bv A n c x k (((((V.alloc (.cells #[.bool false, .slice none 0 0] 119)).setCell ⟨k, 0, none⟩ (.bool bv)).setCell ⟨k, 1, none⟩ (.slice A n c)).setCell ⟨V.heap.size, 0, none⟩ (.bool t)).setCell ⟨V.heap.size, 1, none⟩ (.slice B m d)) := by
  have hl := h.lt
  have f1 := (f.al (.cells #[.bool false, .slice none 0 0] 119)).set (h.al _) hk (.bool bv) (.slice A n c)
  have fr := fresh_after2 h (.bool bv) (.slice A n c)
  have q1 := q2_set (a := .bool bv) (b := .slice A n c) (h.al (.cells #[.bool false, .slice none 0 0] 119))
  exact (f1.set fr (by omega) _ _).fin (other_after2 q1 (by omega) _ _ fr)
/-- The rest's block ahead of it, the quotient's behind. -/
theorem fin_as {k : Nat} (f : Fi0 w A x V) (h : Q2 k (.bool false) (.slice none 0 0) V) (hk : w.heap.size + 1 < k) : Fin w bv A n c x V.heap.size (((V.alloc (.cells #[.bool bv, .slice A n c] 119)).setCell ⟨k, 0, none⟩ (.bool t)).setCell ⟨k, 1, none⟩ (.slice B m d)) := by
  have hl := h.lt
  exact ((f.al _).set (h.al _) hk _ _).fin (other_after2 (Q2.new _ _ _) (by omega) _ _ (h.al _))
/-- Both made ahead of it. -/
theorem fin_ss {k j : Nat} (f : Fi0 w A x V) (h : Q2 k (.bool false) (.slice none 0 0) V) (h' : Q2 j (.bool false) (.slice none 0 0) V) (hk : w.heap.size + 1 < k) (hj : w.heap.size + 1 < j) (hne : j ≠ k) : Fin w bv A n c x k ((((V.setCell ⟨k, 0, none⟩ (.bool bv)).setCell ⟨k, 1, none⟩ (.slice A n c)).setCell ⟨j, 0, none⟩ (.bool t)).setCell ⟨j, 1, none⟩ (.slice B m d)) := by
  have f1 := f.set h hk (.bool bv) (.slice A n c)
  have o := other_after2 h' (fun e => hne e.symm) (.bool bv) (.slice A n c) h
  have q1 := q2_set (a := .bool bv) (b := .slice A n c) h
  exact (f1.set o hj _ _).fin (other_after2 q1 hne _ _ o)
end

end Nt

end Go.Proofs.YtfdeiejphlaokaaGreatDoor
