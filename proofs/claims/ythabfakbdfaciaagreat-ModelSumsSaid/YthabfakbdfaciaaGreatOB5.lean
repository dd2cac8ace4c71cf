import Derived.Test.YthabfakbdfaciaaGreatOB2
import Derived.Test.YthabfakbdfaciaaGreatOB4
import Derived.Test.YthabfakbdfaciaaGreatOB3
namespace Go.Proofs.YthabfakbdfaciaaGreat
namespace Nt
set_option maxRecDepth 100000
set_option maxHeartbeats 16000000
section
open Go.RowKit
def qs (q : Rat) : Bool := isg q.num
def qn (q : Rat) : Nat := q.num.natAbs
def qd (q : Rat) : Nat := q.den
def sgz (s : Bool) (n : Nat) : Int := if s then -(n : Int) else (n : Int)
theorem sgz_abs (s : Bool) (n : Nat) : (sgz s n).natAbs = n := by cases s <;> simp [sgz]
theorem sgz_isg (s : Bool) (n : Nat) : isg (sgz s n) = (s && decide (0 < n)) := by
  unfold isg sgz
  cases s
  · simp
  · simp
theorem sgz_mk (z : Int) : sgz (isg z) z.natAbs = z := by
  unfold sgz isg
  by_cases h : z < 0
  · simp [h]; omega
  · simp [h]; omega
theorem sgz_mul (s t : Bool) (n m : Nat) : sgz s n * sgz t m = sgz (s != t) (n * m) := by
  cases s <;> cases t <;> simp [sgz, Int.neg_mul, Int.mul_neg]
theorem num_sgz (q : Rat) : q.num = sgz (qs q) (qn q) := (sgz_mk _).symm
theorem qd_pos (q : Rat) : 0 < qd q := q.den_pos
theorem qs_pos (q : Rat) : qs q = (qs q && decide (0 < qn q)) := by
  rw [← sgz_isg, ← num_sgz]; rfl
theorem q_cop (q : Rat) : Nat.gcd (qn q) (qd q) = 1 := q.reduced
def qmk (s : Bool) (n d : Nat) : Rat := mkRat (sgz s n) d
theorem qn_mk (s : Bool) (n : Nat) {d : Nat} (hd : d ≠ 0) : qn (qmk s n d) = n / Nat.gcd n d := by
  unfold qn qmk
  rw [Rat.num_mkRat, if_neg hd, sgz_abs, Nat.gcd_comm]
  unfold sgz
  cases s
  · simp only [Bool.false_eq_true, if_false]
    rw [← Int.natCast_ediv, Int.natAbs_natCast]
  · simp only [if_true]
    rw [Int.neg_ediv_of_dvd (Int.natCast_dvd_natCast.2 (Nat.gcd_dvd_left n d)), Int.natAbs_neg, ← Int.natCast_ediv, Int.natAbs_natCast]
theorem qd_mk (s : Bool) (n : Nat) {d : Nat} (hd : d ≠ 0) : qd (qmk s n d) = d / Nat.gcd n d := by
  unfold qd qmk
  rw [Rat.den_mkRat, if_neg hd, sgz_abs, Nat.gcd_comm]
theorem qs_mk (s : Bool) (n : Nat) {d : Nat} (hd : d ≠ 0) : qs (qmk s n d) = (s && decide (0 < n / Nat.gcd n d)) := by
  unfold qs qmk
  rw [Rat.num_mkRat, if_neg hd, sgz_abs, Nat.gcd_comm, ← sgz_isg]
  congr 1
  unfold sgz
  cases s
  · simp only [Bool.false_eq_true, if_false]
    rw [← Int.natCast_ediv]
  · simp only [if_true]
    rw [Int.neg_ediv_of_dvd (Int.natCast_dvd_natCast.2 (Nat.gcd_dvd_left n d)), ← Int.natCast_ediv]
theorem q_of {s : Bool} {n d : Nat} (hd : 0 < d) (hc : Nat.gcd n d = 1) (hs : s = true → 0 < n) : ∃ q : Rat, qs q = s ∧ qn q = n ∧ qd q = d := by
  have h0 : d ≠ 0 := by omega
  refine ⟨qmk s n d, ?_, ?_, ?_⟩
  · rw [qs_mk s n h0, hc, Nat.div_one]
    cases s
    · rfl
    · simp [hs rfl]
  · rw [qn_mk s n h0, hc, Nat.div_one]
  · rw [qd_mk s n h0, hc, Nat.div_one]
theorem qmk_self (q : Rat) : qmk (qs q) (qn q) (qd q) = q := by
  unfold qmk
  rw [← num_sgz]; exact Rat.mkRat_self q
theorem qn_mul (q r : Rat) : qn (q * r) = (qn q / Nat.gcd (qn q) (qd r)) * (qn r / Nat.gcd (qn r) (qd q)) := by
  show (Rat.mul q r).num.natAbs = _
  delta Rat.mul
  simp only [Int.divExact_eq_tdiv, Int.natAbs_mul, Int.natAbs_tdiv, Int.natAbs_natCast]
  rfl
theorem qd_mul (q r : Rat) : qd (q * r) = (qd q / Nat.gcd (qn r) (qd q)) * (qd r / Nat.gcd (qn q) (qd r)) := by
  show (Rat.mul q r).den = _
  delta Rat.mul
  simp only [Nat.divExact_eq_div]
  rfl
theorem mul_qmk (q r : Rat) : q * r = qmk (qs q != qs r) (qn q * qn r) (qd q * qd r) := by
  unfold qmk
  rw [Rat.mul_def', ← sgz_mul, ← num_sgz, ← num_sgz]; rfl
theorem qs_mul (q r : Rat) : qs (q * r) = ((qs q != qs r) && decide (0 < qn (q * r))) := by
  have h : qd q * qd r ≠ 0 := Nat.ne_of_gt (Nat.mul_pos (qd_pos q) (qd_pos r))
  rw [mul_qmk, qs_mk _ _ h, qn_mk _ _ h]
def sgAdd (s : Bool) (x : Nat) (t : Bool) (y : Nat) : Bool × Nat := if s = t then (s, x + y) else if x < y then (t, y - x) else (s, x - y)
theorem sgAdd_sum (s : Bool) (x : Nat) (t : Bool) (y : Nat) : sgz (sgAdd s x t y).1 (sgAdd s x t y).2 = sgz s x + sgz t y := by
  unfold sgAdd
  by_cases h : s = t
  · subst h
    rw [if_pos rfl]
    cases s <;> simp [sgz] <;> omega
  · rw [if_neg h]
    by_cases hl : x < y
    · rw [if_pos hl]
      cases s <;> cases t <;> simp [sgz] at * <;> omega
    · rw [if_neg hl]
      cases s <;> cases t <;> simp [sgz] at * <;> omega
def sumG (q r : Rat) : Nat := Nat.gcd (qd q) (qd r)
def sumN (q r : Rat) : Bool × Nat := sgAdd (qs q) (qn q * (qd r / sumG q r)) (qs r) (qn r * (qd q / sumG q r))
def sumB (q r : Rat) : Nat := Nat.gcd (sumN q r).2 (sumG q r)
theorem sumG_pos (q r : Rat) : 0 < sumG q r := Nat.gcd_pos_of_pos_left _ (qd_pos q)
theorem sumB_pos (q r : Rat) : 0 < sumB q r := Nat.gcd_pos_of_pos_right _ (sumG_pos q r)
theorem sumN_num (q r : Rat) : sgz (sumN q r).1 (sumN q r).2 = q.num * ((qd r / sumG q r : Nat) : Int) + r.num * ((qd q / sumG q r : Nat) : Int) := by
  unfold sumN
  rw [sgAdd_sum]
  have e : ∀ (s : Bool) (n m : Nat), sgz s (n * m) = sgz s n * (m : Int) := by
    intro s n m
    cases s <;> simp [sgz, Int.neg_mul]
  rw [e, e, ← num_sgz, ← num_sgz]
theorem sum_qmk (q r : Rat) : q + r = qmk (sumN q r).1 (sumN q r).2 ((qd q / sumG q r) * qd r) := by
  have hg := sumG_pos q r
  have hu : qd q / sumG q r * sumG q r = qd q := Nat.div_mul_cancel (Nat.gcd_dvd_left _ _)
  have hv : qd r / sumG q r * sumG q r = qd r := Nat.div_mul_cancel (Nat.gcd_dvd_right _ _)
  unfold qmk
  rw [sumN_num, Rat.add_def']
  have hup : 0 < qd q / sumG q r := Nat.div_gcd_pos_of_pos_left _ (qd_pos q)
  rw [Rat.mkRat_eq_iff (Nat.ne_of_gt (Nat.mul_pos q.den_pos r.den_pos)) (Nat.ne_of_gt (Nat.mul_pos hup (qd_pos r)))]
  show (q.num * (qd r : Int) + r.num * (qd q : Int)) * ((qd q / sumG q r * qd r : Nat) : Int) = (q.num * ((qd r / sumG q r : Nat) : Int) + r.num * ((qd q / sumG q r : Nat) : Int)) * ((qd q * qd r : Nat) : Int)
  generalize hx : qd q / sumG q r = u at *
  generalize hy : qd r / sumG q r = v at *
  rw [← hu, ← hv]
  generalize sumG q r = g
  push_cast
  generalize q.num = a
  generalize r.num = b
  grind
theorem sum_gcd (q r : Rat) : Nat.gcd (sumN q r).2 ((qd q / sumG q r) * qd r) = sumB q r := by
  have h := Rat.add.aux q r (g := sumG q r) (ad := qd q / sumG q r) (bd := qd r / sumG q r) rfl rfl rfl
  simp only [← sumN_num, sgz_abs] at h
  exact h.symm
theorem sum_den (q r : Rat) : (qd q / sumG q r) * qd r / sumB q r = (qd q / sumB q r) * (qd r / sumG q r) := by
  have hg := sumG_pos q r
  have hb := sumB_pos q r
  obtain ⟨u, hu⟩ : sumG q r ∣ qd q := Nat.gcd_dvd_left _ _
  obtain ⟨v, hv⟩ : sumG q r ∣ qd r := Nat.gcd_dvd_right _ _
  obtain ⟨k, hk⟩ : sumB q r ∣ sumG q r := Nat.gcd_dvd_right _ _
  generalize hG : sumG q r = g at *
  generalize hB : sumB q r = b at *
  have e1 : qd q / g = u := by rw [hu, Nat.mul_div_cancel_left _ hg]
  have e2 : qd r / g = v := by rw [hv, Nat.mul_div_cancel_left _ hg]
  have e3 : qd q / b = k * u := by rw [hu, hk, Nat.mul_assoc, Nat.mul_div_cancel_left _ hb]
  rw [e1, e2, e3, hv, hk, show u * (b * k * v) = b * (k * u * v) by grind, Nat.mul_div_cancel_left _ hb]
theorem sum_pos' (q r : Rat) : (qd q / sumG q r) * qd r ≠ 0 := Nat.ne_of_gt (Nat.mul_pos (Nat.div_gcd_pos_of_pos_left _ (qd_pos q)) (qd_pos r))
theorem qn_add (q r : Rat) : qn (q + r) = (sumN q r).2 / sumB q r := by rw [sum_qmk, qn_mk _ _ (sum_pos' q r), sum_gcd]
theorem qd_add (q r : Rat) : qd (q + r) = (qd q / sumB q r) * (qd r / sumG q r) := by rw [sum_qmk, qd_mk _ _ (sum_pos' q r), sum_gcd, sum_den]
theorem qs_add (q r : Rat) : qs (q + r) = ((sumN q r).1 && decide (0 < qn (q + r))) := by
  rw [qn_add]
  conv => lhs; rw [sum_qmk]
  rw [qs_mk _ _ (sum_pos' q r), sum_gcd]
theorem qs_neg (q : Rat) : qs (-q) = (!qs q && decide (0 < qn q)) := by
  unfold qs qn isg
  rw [Rat.neg_num]
  by_cases h : q.num < 0
  · simp [h]; omega
  · rw [decide_eq_false h, Bool.not_false, Bool.true_and, decide_eq_decide]; omega
theorem qn_neg (q : Rat) : qn (-q) = qn q := by unfold qn; rw [Rat.neg_num, Int.natAbs_neg]
theorem qd_neg (q : Rat) : qd (-q) = qd q := rfl
def cmpQ (q r : Rat) : Int := if q < r then -1 else if r < q then 1 else 0
theorem cmpQ_Z (q r : Rat) : cmpQ q r = cmpZ (q.num * qd r) (r.num * qd q) := by
  unfold cmpQ cmpZ qd
  simp only [Rat.lt_iff]
theorem cmpQ_pp {q r : Rat} (hq : qs q = false) (hr : qs r = false) : cmpQ q r = cmpN (qn q * qd r) (qn r * qd q) := by
  rw [cmpQ_Z, num_sgz q, num_sgz r, hq, hr, ← cmpZ_pp]
  simp [sgz]
theorem cmpQ_nn {q r : Rat} (hq : qs q = true) (hr : qs r = true) : cmpQ q r = cmpN (qn r * qd q) (qn q * qd r) := by
  rw [cmpQ_Z, num_sgz q, num_sgz r, hq, hr, ← cmpZ_nn]
  simp [sgz, Int.neg_mul]
theorem qn_pos_of_neg {q : Rat} (hq : qs q = true) : 0 < qn q := by
  have := qs_pos q
  rw [hq] at this
  simpa using this
theorem cmpQ_np {q r : Rat} (hq : qs q = true) (hr : qs r = false) : cmpQ q r = -1 := by
  rw [cmpQ_Z, num_sgz q, num_sgz r, hq, hr]
  have h1 : 0 < qn q * qd r := Nat.mul_pos (qn_pos_of_neg hq) (qd_pos r)
  have h2 : (0 : Int) ≤ (qn r : Int) * (qd q : Int) := by rw [← Int.natCast_mul]; omega
  unfold cmpZ
  simp only [sgz, if_true, Bool.false_eq_true, if_false, Int.neg_mul]
  rw [← Int.natCast_mul] at *
  rw [if_pos (by omega)]
theorem cmpQ_anti (q r : Rat) : cmpQ r q = -cmpQ q r := by
  unfold cmpQ
  by_cases h1 : q < r
  · have h2 : ¬ r < q := Rat.not_lt.2 (Rat.le_of_lt h1)
    simp [h1, h2]
  · by_cases h2 : r < q
    · simp [h1, h2]
    · simp [h1, h2]
theorem cmpQ_pn {q r : Rat} (hq : qs q = false) (hr : qs r = true) : cmpQ q r = 1 := by
  rw [cmpQ_anti r q, cmpQ_np hr hq]; rfl
theorem sgAdd_le (s : Bool) (x : Nat) (t : Bool) (y : Nat) : (sgAdd s x t y).2 ≤ x + y := by
  unfold sgAdd
  split
  · exact Nat.le_refl _
  · split <;> simp <;> omega
theorem lt_pow_mul {x y j k : Nat} (hx : x < LB ^ j) (hy : y < LB ^ k) : x * y < LB ^ (j + k) := by
  rw [Nat.pow_add]
  exact Nat.mul_lt_mul_of_lt_of_le hx (Nat.le_of_lt hy) (LB_pow_pos _)
theorem two_lt_pow {x y k : Nat} (hx : x < LB ^ k) (hy : y < LB ^ k) : x + y < LB ^ (k + 1) := by
  rw [Nat.pow_succ]
  have := LB_two
  have : LB ^ k * 2 ≤ LB ^ k * LB := Nat.mul_le_mul_left _ this
  omega
theorem qs_inv {q : Rat} (h : q ≠ 0) : qs q⁻¹ = qs q := by
  have h0 : q.num ≠ 0 := fun e => h (Rat.num_eq_zero.1 e)
  unfold qs isg
  rw [Rat.num_inv, decide_eq_decide]
  have hd : (0 : Int) < (q.den : Int) := by have := q.den_pos; omega
  rcases Int.lt_or_gt_of_ne h0 with h1 | h1
  · rw [Int.sign_eq_neg_one_of_neg h1]; omega
  · rw [Int.sign_eq_one_of_pos h1]; omega
theorem qn_inv {q : Rat} (h : q ≠ 0) : qn q⁻¹ = qd q := by
  have h0 : q.num ≠ 0 := fun e => h (Rat.num_eq_zero.1 e)
  unfold qn qd
  rw [Rat.num_inv, Int.natAbs_mul, Int.natAbs_natCast]
  rcases Int.lt_or_gt_of_ne h0 with h1 | h1
  · rw [Int.sign_eq_neg_one_of_neg h1]; simp
  · rw [Int.sign_eq_one_of_pos h1]; simp
theorem qd_inv {q : Rat} (h : q ≠ 0) : qd q⁻¹ = qn q := by
  have h0 : q.num ≠ 0 := fun e => h (Rat.num_eq_zero.1 e)
  unfold qn qd
  rw [Rat.den_inv, if_neg h0]
theorem qn_zero_iff {q : Rat} : qn q = 0 ↔ q = 0 := by
  unfold qn
  rw [Int.natAbs_eq_zero, Rat.num_eq_zero]
theorem qn_pos_iff {q : Rat} : 0 < qn q ↔ q ≠ 0 := by
  rw [Nat.pos_iff_ne_zero, ne_eq, qn_zero_iff]
theorem qmk_divInt (n d : Int) (_h : d ≠ 0) : qmk (isg n != isg d) n.natAbs d.natAbs = Rat.divInt n d := by
  unfold qmk
  by_cases hd : d < 0
  · have e1 : isg d = true := by unfold isg; exact decide_eq_true hd
    have e2 : sgz (isg n != true) n.natAbs = -n := by
      unfold sgz isg
      by_cases hn : n < 0
      · simp [hn]; omega
      · simp [hn]; omega
    rw [e1, e2, ← Rat.neg_divInt_neg n d, show (-d : Int) = ((d.natAbs : Nat) : Int) by omega, Rat.divInt_ofNat]
  · have e1 : isg d = false := by unfold isg; exact decide_eq_false hd
    have e2 : sgz (isg n != false) n.natAbs = n := by rw [Bool.bne_false]; exact sgz_mk n
    rw [e1, e2]
    conv => rhs; rw [show (d : Int) = ((d.natAbs : Nat) : Int) by omega, Rat.divInt_ofNat]
def ln (n : Nat) : Nat := (digs n).length
theorem ln_le {n k : Nat} (h : n < LB ^ k) : ln n ≤ k := length_digs_le.2 h
theorem lt_of_ln {n k : Nat} (h : ln n ≤ k) : n < LB ^ k := length_digs_le.1 h
theorem ln_mono {m n : Nat} (h : m ≤ n) : ln m ≤ ln n := ln_le (Nat.lt_of_le_of_lt h (lt_of_ln (Nat.le_refl _)))
theorem ln_pos {n : Nat} : 0 < ln n ↔ 0 < n := digs_len_pos
theorem dec_ln (n : Nat) : decide (0 < n) = decide (0 < ln n) := decide_eq_decide.2 ln_pos.symm
theorem ln_zero : ln 0 = 0 := by unfold ln; rw [digs_zero]; rfl
theorem ln_one : ln 1 = 1 := by unfold ln; rw [digs_pos (by decide)]; rw [show 1 / LB = 0 by decide, digs_zero]; rfl
theorem ln_mul (x y : Nat) : ln (x * y) ≤ ln x + ln y := ln_le (lt_pow_mul (lt_of_ln (Nat.le_refl _)) (lt_of_ln (Nat.le_refl _)))
def Rd (w : World) (x : Nat) (e : Ending) (w' : World) : Prop := ∃ A c, e = .returned (.slice A (ln x) c) ∧ Sl w' A (digs x) ∧ Below w.heap.size w w'
theorem Rd.mk {w w' : World} {x : Nat} {A : Option Addr} {c : Nat} (s : Sl w' A (digs x)) (b : Below w.heap.size w w') : Rd w x (.returned (.slice A (ln x) c)) w' := ⟨A, c, rfl, s, b⟩
theorem kp' {w w' : World} {A : Option Addr} {xs : List Nat} (b : Below w.heap.size w w') (h : Sl w A xs) : Sl w' A xs := bl_keeps b _ _ h
theorem Mk.rd {w w' : World} {x z : Nat} {e : Ending} (h : Mk w (digs x) e w') (hz : x = z) : Rd w z e w' := by
  subst hz
  obtain ⟨A, c, rfl, r, b⟩ := h
  exact ⟨A, c, rfl, r.sl, b⟩
theorem New.rd {w w' : World} {x z : Nat} {e : Ending} (h : New w (digs x) e w') (hz : x = z) : Rd w z e w' := by
  subst hz
  obtain ⟨g, c, rfl, r, b⟩ := h
  exact ⟨_, c, rfl, r.sl, b⟩
section
variable (A B : Option Addr) (c d x y z : Nat) (w : World) (sx : Sl w A (digs x)) (sy : Sl w B (digs y)) (hx : ln x ≤ 10000) (hy : ln y ≤ 10000)
include sx sy hx hy
theorem gcd_z (hz : Nat.gcd x y = z) : Calls Tryz.prog 100 #[.slice A (ln x) c, .slice B (ln y) d] w (Rd w z) := by
  have h := lgcd_any A B c d (digs x) (digs y) w sx sy (limbs_digs _) (limbs_digs _) (norm_digs _) (norm_digs _) hx hy
  rw [val_digs, val_digs] at h
  exact h.mono fun _ _ h => h.rd hz
theorem ladd_z (hz : x + y = z) : Calls Tryz.prog 178 #[.slice A (ln x) c, .slice B (ln y) d] w (Rd w z) := by
  have h := ladd_any A B c d (digs x) (digs y) w sx sy (limbs_digs _) (limbs_digs _) (norm_digs _) (norm_digs _) hx hy
  rw [val_digs, val_digs] at h
  exact h.mono fun _ _ h => h.rd hz
omit hy in
theorem lsub_z (hz : x - y = z) (hle : y ≤ x) : Calls Tryz.prog 179 #[.slice A (ln x) c, .slice B (ln y) d] w (Rd w z) := by
  have h := lsub_any A B c d (digs x) (digs y) w sx sy (limbs_digs _) (limbs_digs _) (norm_digs _) hx (by rw [val_digs, val_digs]; exact hle)
  rw [val_digs, val_digs] at h
  exact h.mono fun _ _ h => h.rd hz
theorem lcmp_z (k : Int) (hk : cmpN x y = k) : Calls Tryz.prog 123 #[.slice A (ln x) c, .slice B (ln y) d] w fun e w' => e = .returned (.int .i64 k) ∧ Below w.heap.size w w' := by
  have h := lcmp_any A B c d (digs x) (digs y) w sx sy (limbs_digs _) (limbs_digs _) (norm_digs _) (norm_digs _) (Nat.le_trans hx (by decide)) (Nat.le_trans hy (by decide))
  rw [val_digs, val_digs, hk] at h
  exact h.mono fun _ _ h => ⟨h.1, by obtain ⟨n, e⟩ := h.2; exact bl_q0 e⟩
theorem lmul_z (hz : x * y = z) (most : Nat) (hm : most = ln x + ln y) : Calls Tryz.prog 180 #[.slice A (ln x) c, .slice B (ln y) d, .int .i64 (most : Int)] w fun e w' => ∃ A' c', e = .returned (.tuple #[.slice A' (ln z) c', .bool true]) ∧ Sl w' A' (digs z) ∧ Below w.heap.size w w' := by
  subst hz
  have h := lmul_any A B c d most (digs x) (digs y) w sx sy (limbs_digs _) (limbs_digs _) hx hy (by omega) (by rw [hm]; exact Nat.le_add_right _ _) (norm_digs _) (norm_digs _)
  rw [val_digs, val_digs] at h
  refine h.mono fun _ _ h => ?_
  rcases h with ⟨_, g, cap, e, o, b⟩ | ⟨hb, _, _⟩
  · exact ⟨_, cap, e, o.sl, b⟩
  · exfalso
    have h1 : x * y < LB ^ most := by
      rw [hm]
      exact lt_pow_mul (lt_of_ln (Nat.le_refl _)) (lt_of_ln (Nat.le_refl _))
    omega
theorem ldiv_z (h0 : 0 < y) (q r : Nat) (hq : x / y = q) (hr : x % y = r) : Calls Tryz.prog 111 #[.slice A (ln x) c, .slice B (ln y) d] w fun e w' => ∃ A' c' B' d', e = .returned (.tuple #[.slice A' (ln q) c', .slice B' (ln r) d']) ∧ Sl w' A' (digs q) ∧ Sl w' B' (digs r) ∧ Below w.heap.size w w' := by
  subst hq hr
  have h := divide_all A B c d (digs x) (digs y) w sx sy (limbs_digs _) (limbs_digs _) (norm_digs _) (norm_digs _) hx hy (digs_len_pos.2 h0)
  rw [val_digs, val_digs] at h
  refine h.mono fun _ _ h => ?_
  obtain ⟨A', n, c', B', m, d', e, r1, r2, b⟩ := h
  have e1 := r1.len
  have e2 := r2.len
  subst e1; subst e2
  exact ⟨A', c', B', d', e, r1.sl, r2.sl, b⟩
end
theorem times_z (A B : Option Addr) (c d x y z : Nat) (w : World) (sx : Sl w A (digs x)) (sy : Sl w B (digs y)) (hx : ln x ≤ 10000) (hy : ln y ≤ 10000) (hz : x * y = z) :
    Calls Tryz.prog 170 #[.slice A (ln x) c, .slice B (ln y) d] w (Rd w z) := by
  obtain ⟨most, hm⟩ : ∃ most, most = ln x + ln y := ⟨_, rfl⟩
  have M := hide (lmul_z A B c d x y z w sx sy hx hy hz most hm)
  have o := i64_add 3 (ln x) (ln y) most hm.symm (by omega)
  clear hz sx sy hm
  generalize ln x = n at *
  generalize ln y = m at *
  go_enter Tryz.func170, Tryz.ntmps170
  go_wp2_with (go_at_call 180; (with_reducible refine (M.out).mono ?_); rintro e w1 ⟨A1, c1, rfl, s1, b1⟩)
  go_ret
  exact Rd.mk s1 b1
theorem without_z (A B : Option Addr) (c d x y z : Nat) (w : World) (sx : Sl w A (digs x)) (sy : Sl w B (digs y)) (hx : ln x ≤ 10000) (hy : ln y ≤ 10000) (h0 : 0 < y) (hz : x / y = z) :
    Calls Tryz.prog 168 #[.slice A (ln x) c, .slice B (ln y) d] w (Rd w z) := by
  have M := hide (ldiv_z A B c d x y w sx sy hx hy h0 z _ hz rfl)
  clear hz sx sy h0
  generalize ln x = n at *
  generalize ln y = m at *
  go_enter Tryz.func168, Tryz.ntmps168
  go_wp2_with (go_at_call 111; (with_reducible refine (M.out).mono ?_); rintro e w1 ⟨A1, c1, B1, d1, rfl, s1, t1, b1⟩)
  go_ret
  exact Rd.mk s1 b1
theorem isOne_any (A : Option Addr) (c x : Nat) (w : World) (sx : Sl w A (digs x)) (r : Bool) (hr : decide (x = 1) = r) :
    Calls Tryz.prog 99 #[.slice A (ln x) c] w fun e w' => e = .returned (.bool r) ∧ w = w' := by
  subst hr
  by_cases h1 : ln x = 1
  · obtain ⟨hp, hl, he⟩ := digs_one_len h1
    obtain ⟨b, o, rfl, ha⟩ := sx.at_ (by rw [show (digs x).length = 1 from h1]; decide)
    have hc := ha.cell (j := 0) (by rw [show (digs x).length = 1 from h1]; decide)
    rw [he, Nat.add_zero] at hc
    rw [h1]
    have hc' : w.cell? ⟨b, o, none⟩ = some (.int .u64 (x : Int)) := hc
    clear hc ha sx he h1
    by_cases hx : x = 1
    · subst hx
      go_enter Tryz.func99, Tryz.ntmps99
      go_wp2
      go_ret
      exact ⟨rfl, rfl⟩
    · have e : decide (x = 1) = false := decide_eq_false hx
      rw [e]
      have hn : ((x : Int) == 1) = false := beq_eq_false_iff_ne.2 (by omega)
      clear e hx
      go_enter Tryz.func99, Tryz.ntmps99
      go_wp2
      go_ret
      exact ⟨rfl, rfl⟩
  · have e : decide (x = 1) = false := decide_eq_false (fun e => h1 (by rw [e]; exact ln_one))
    rw [e]
    have hn : ((ln x : Int) == 1) = false := beq_eq_false_iff_ne.2 (by omega)
    clear e h1 sx
    generalize ln x = n at *
    go_enter Tryz.func99, Tryz.ntmps99
    go_wp2
    go_ret
    exact ⟨rfl, rfl⟩
theorem lowest_z (A B : Option Addr) (c d x y u v : Nat) (w : World) (sx : Sl w A (digs x)) (sy : Sl w B (digs y)) (hx : ln x ≤ 10000) (hy : ln y ≤ 10000) (h0 : 0 < y) (hu : x / Nat.gcd x y = u) (hv : y / Nat.gcd x y = v) :
    Calls Tryz.prog 90 #[.slice A (ln x) c, .slice B (ln y) d] w fun e w' => ∃ A' c' B' d', e = .returned (.tuple #[.slice A' (ln u) c', .slice B' (ln v) d']) ∧ Sl w' A' (digs u) ∧ Sl w' B' (digs v) ∧ Below w.heap.size w w' := by
  obtain ⟨g, hg⟩ : ∃ g, Nat.gcd x y = g := ⟨_, rfl⟩
  rw [hg] at hu hv
  have hgp : 0 < g := by rw [← hg]; exact Nat.gcd_pos_of_pos_right _ h0
  have hgl : ln g ≤ 10000 := Nat.le_trans (ln_mono (by rw [← hg]; exact Nat.gcd_le_right _ h0)) hy
  have G := hide (gcd_z A B c d x y g w sx sy hx hy hg)
  have D1 := hide (fun (W : World) (k : Below w.heap.size w W) A1 c1 (s1 : Sl W A1 (digs g)) => ldiv_z A A1 c c1 x g W (kp' k sx) s1 hx hgl hgp u _ hu rfl)
  have D2 := hide (fun (W : World) (k : Below w.heap.size w W) A1 c1 (s1 : Sl W A1 (digs g)) => ldiv_z B A1 d c1 y g W (kp' k sy) s1 hy hgl hgp v _ hv rfl)
  clear hu hv hg sx sy hgp h0 hgl
  generalize ln x = n at *
  generalize ln y = m at *
  go_enter Tryz.func90, Tryz.ntmps90
  go_wp2_with (first
    | (go_at_call 100; (with_reducible refine (G.out).mono ?_); rintro e w1 ⟨A1, c1, rfl, s1, b1⟩)
    | (go_at_call 111; (with_reducible refine (D1.out _ b1 A1 c1 s1).mono ?_); rintro e w2 ⟨A2, c2, B2, d2, rfl, s2, t2, hb⟩; have b2 := bl_trans b1 hb; have s1 := kp' hb s1; clear hb)
    | (go_at_call 111; (with_reducible refine (D2.out _ b2 A1 c1 s1).mono ?_); rintro e w3 ⟨A3, c3, B3, d3, rfl, s3, t3, hb⟩; have b3 := bl_trans b2 hb; have s2 := kp' hb s2; clear hb))
  go_ret2
  exact ⟨A2, c2, A3, c3, rfl, s2, s3, b3⟩
theorem signedSum_z (s t : Bool) (A B : Option Addr) (c d x y z : Nat) (r : Bool) (w : World) (sx : Sl w A (digs x)) (sy : Sl w B (digs y)) (hx : ln x ≤ 10000) (hy : ln y ≤ 10000) (hz : sgAdd s x t y = (r, z)) :
    Calls Tryz.prog 169 #[.bool s, .slice A (ln x) c, .bool t, .slice B (ln y) d] w fun e w' => ∃ A' c', e = .returned (.tuple #[.bool r, .slice A' (ln z) c']) ∧ Sl w' A' (digs z) ∧ Below w.heap.size w w' := by
  unfold sgAdd at hz
  by_cases hst : s = t
  · subst hst
    rw [if_pos rfl, Prod.mk.injEq] at hz
    obtain ⟨rfl, hz⟩ := hz
    have D := hide (ladd_z A B c d x y z w sx sy hx hy hz)
    clear hz sx sy
    generalize ln x = n at *
    generalize ln y = m at *
    cases s <;>
    · go_enter Tryz.func169, Tryz.ntmps169
      go_wp2_with (go_at_call 178; (with_reducible refine (D.out).mono ?_); rintro e w1 ⟨A1, c1, rfl, s1, b1⟩)
      go_ret2
      exact ⟨A1, c1, rfl, s1, b1⟩
  · rw [if_neg hst] at hz
    by_cases hl : x < y
    · rw [if_pos hl, Prod.mk.injEq] at hz
      obtain ⟨rfl, hz⟩ := hz
      have C := hide (lcmp_z A B c d x y w sx sy hx hy (-1) (cmpN_lt hl))
      have D := hide (fun (W : World) (k : Below w.heap.size w W) => lsub_z B A d c y x z W (kp' k sy) (kp' k sx) hy hz (Nat.le_of_lt hl))
      clear hz sx sy hl
      generalize ln x = n at *
      generalize ln y = m at *
      cases s <;> cases t <;> first
      | exact absurd rfl hst
      | (clear hst
         go_enter Tryz.func169, Tryz.ntmps169
         go_wp2_with (first
           | (go_at_call 123; (with_reducible refine (C.out).mono ?_); rintro e w1 ⟨rfl, b1⟩)
           | (go_at_call 179; (with_reducible refine (D.out _ b1).mono ?_); rintro e w2 ⟨A1, c1, rfl, s1, hb⟩; have b2 := bl_trans b1 hb; clear hb))
         go_ret2
         exact ⟨A1, c1, rfl, s1, b2⟩)
    · rw [if_neg hl, Prod.mk.injEq] at hz
      obtain ⟨rfl, hz⟩ := hz
      obtain ⟨k, hk⟩ : ∃ k, cmpN x y = k := ⟨_, rfl⟩
      have hk0 : 0 ≤ k := by
        rw [← hk]
        unfold cmpN
        rw [if_neg hl]
        split <;> omega
      have C := hide (lcmp_z A B c d x y w sx sy hx hy k hk)
      have D := hide (fun (W : World) (k : Below w.heap.size w W) => lsub_z A B c d x y z W (kp' k sx) (kp' k sy) hx hz (by omega))
      clear hz sx sy hl hk
      generalize ln x = n at *
      generalize ln y = m at *
      cases s <;> cases t <;> first
      | exact absurd rfl hst
      | (clear hst
         go_enter Tryz.func169, Tryz.ntmps169
         go_wp2_with (first
           | (go_at_call 123; (with_reducible refine (C.out).mono ?_); rintro e w1 ⟨rfl, b1⟩)
           | (go_at_call 179; (with_reducible refine (D.out _ b1).mono ?_); rintro e w2 ⟨A1, c1, rfl, s1, hb⟩; have b2 := bl_trans b1 hb; clear hb))
         go_ret2
         exact ⟨A1, c1, rfl, s1, b2⟩)
def Q3 (g : Nat) (u v x : Value) (w : World) : Prop :=
  w.cell? ⟨g, 0, none⟩ = some u ∧ w.cell? ⟨g, 1, none⟩ = some v ∧ w.cell? ⟨g, 2, none⟩ = some x ∧ w.frozen? ⟨g, 0, none⟩ = false ∧ w.frozen? ⟨g, 1, none⟩ = false ∧ w.frozen? ⟨g, 2, none⟩ = false
def Q2 (g : Nat) (u v : Value) (w : World) : Prop :=
  w.cell? ⟨g, 0, none⟩ = some u ∧ w.cell? ⟨g, 1, none⟩ = some v ∧ w.frozen? ⟨g, 0, none⟩ = false ∧ w.frozen? ⟨g, 1, none⟩ = false
section
variable {g : Nat} {u v x : Value} {w w' : World}
theorem Q3.next (h : Q3 g u v x w) (hb : Below w.heap.size w w') : Q3 g u v x w' :=
  ⟨cell_next hb h.1, cell_next hb h.2.1, cell_next hb h.2.2.1, frozen_next hb h.1 h.2.2.2.1, frozen_next hb h.2.1 h.2.2.2.2.1, frozen_next hb h.2.2.1 h.2.2.2.2.2⟩
theorem Q2.next (h : Q2 g u v w) (hb : Below w.heap.size w w') : Q2 g u v w' :=
  ⟨cell_next hb h.1, cell_next hb h.2.1, frozen_next hb h.1 h.2.2.1, frozen_next hb h.2.1 h.2.2.2⟩
theorem Q3.al (h : Q3 g u v x w) (o : Obj) : Q3 g u v x (w.alloc o) := h.next (bl_al (.refl _ _) o)
theorem Q2.al (h : Q2 g u v w) (o : Obj) : Q2 g u v (w.alloc o) := h.next (bl_al (.refl _ _) o)
theorem Q3.drew (h : Q3 g u v x w) : Q3 g u v x w.drew := h
theorem Q3.new (u v x : Value) (w : World) : Q3 w.heap.size u v x (w.alloc (.cells #[u, v, x] 28)) := by
  have hn := heap_alloc_new w (.cells #[u, v, x] 28)
  exact ⟨cell_new _ _ _ 0, cell_new _ _ _ 1, cell_new _ _ _ 2, by unfold World.frozen?; rw [hn]; rfl, by unfold World.frozen?; rw [hn]; rfl, by unfold World.frozen?; rw [hn]; rfl⟩
theorem Q2.new (u v : Value) (w : World) : Q2 w.heap.size u v (w.alloc (.cells #[u, v] 125)) := by
  have hn := heap_alloc_new w (.cells #[u, v] 125)
  exact ⟨cell_new _ _ _ 0, cell_new _ _ _ 1, by unfold World.frozen?; rw [hn]; rfl, by unfold World.frozen?; rw [hn]; rfl⟩
theorem Q3.new1 (u v x : Value) (w : World) (o : Obj) : Q3 (w.heap.size + 1) u v x ((w.alloc o).alloc (.cells #[u, v, x] 28)) := by
  have := Q3.new u v x (w.alloc o)
  rwa [size1] at this
theorem Q2.new1 (u v : Value) (w : World) (o : Obj) : Q2 (w.heap.size + 1) u v ((w.alloc o).alloc (.cells #[u, v] 125)) := by
  have := Q2.new u v (w.alloc o)
  rwa [size1] at this
theorem Q3.new2 (u v x : Value) (w : World) (o p : Obj) : Q3 (w.heap.size + 1 + 1) u v x (((w.alloc o).alloc p).alloc (.cells #[u, v, x] 28)) := by
  have := Q3.new1 u v x (w.alloc o) p
  rwa [size1] at this
theorem Q3.lt (h : Q3 g u v x w) : g < w.heap.size := by
  have h := h.1
  unfold World.cell? at h
  cases hh : w.heap[g]? with
  | none => rw [hh] at h; cases h
  | some y => exact (Array.getElem?_eq_some_iff.1 hh).1
theorem Sl.over3 {A : Option Addr} {xs : List Nat} (s : Sl w A xs) {e : Bool} {C D : Option Addr} {n c m d : Nat} (h : Q3 g (.bool e) (.slice C n c) (.slice D m d) w) (u v x : Value) : Sl (((w.setCell ⟨g, 0, none⟩ u).setCell ⟨g, 1, none⟩ v).setCell ⟨g, 2, none⟩ x) A xs := by
  have ne : ∀ {b k : Nat}, b ≠ k → (⟨g, b, none⟩ : Addr) ≠ ⟨g, k, none⟩ := by
    intro b k hh e
    injection e with _ e2 _
    exact hh e2
  refine (s.store2 h.1 h.2.1 u v).setCell_not (v := .slice D m d) ?_ (fun z => by intro k; cases k) x
  rw [World.cell?_setCell_other _ _ _ _ (ne (by decide)), World.cell?_setCell_other _ _ _ _ (ne (by decide))]
  exact h.2.2.1
theorem Below.over3 {w0 : World} (b : Below w0.heap.size w0 w) (hg : w0.heap.size ≤ g) (u v x : Value) : Below w0.heap.size w0 (((w.setCell ⟨g, 0, none⟩ u).setCell ⟨g, 1, none⟩ v).setCell ⟨g, 2, none⟩ x) := (Below.store2 b hg u v).setCell hg _
end
def RQ (w : World) (q : Rat) (e : Ending) (w' : World) : Prop := ∃ A c B d, e = .returned (.agg #[.bool (qs q), .slice A (ln (qn q)) c, .slice B (ln (qd q)) d]) ∧ Sl w' A (digs (qn q)) ∧ Sl w' B (digs (qd q)) ∧ Below w.heap.size w w'
def RQE (w : World) (q : Rat) (e : Ending) (w' : World) : Prop := ∃ A c B d, e = .returned (.tuple #[.agg #[.bool (qs q), .slice A (ln (qn q)) c, .slice B (ln (qd q)) d], .int .i64 0]) ∧ Sl w' A (digs (qn q)) ∧ Sl w' B (digs (qd q)) ∧ Below w.heap.size w w'
def RNo (k : Nat) (w : World) (e : Ending) (w' : World) : Prop := e = .returned (.tuple #[.agg #[.bool false, .slice none 0 0, .slice none 0 0], .int .i64 (k : Int)]) ∧ Below w.heap.size w w'
theorem RQ.mk {w w' : World} {q : Rat} {A B : Option Addr} {c d n m : Nat} {s : Bool} (h1 : qs q = s) (h2 : qn q = n) (h3 : qd q = m) (sa : Sl w' A (digs n)) (sb : Sl w' B (digs m)) (b : Below w.heap.size w w') :
    RQ w q (.returned (.agg #[.bool s, .slice A (ln n) c, .slice B (ln m) d])) w' := by
  subst h1 h2 h3
  exact ⟨A, c, B, d, rfl, sa, sb, b⟩
theorem RQE.mk {w w' : World} {q : Rat} {A B : Option Addr} {c d n m : Nat} {s : Bool} (h1 : qs q = s) (h2 : qn q = n) (h3 : qd q = m) (sa : Sl w' A (digs n)) (sb : Sl w' B (digs m)) (b : Below w.heap.size w w') :
    RQE w q (.returned (.tuple #[.agg #[.bool s, .slice A (ln n) c, .slice B (ln m) d], .int .i64 0])) w' := by
  subst h1 h2 h3
  exact ⟨A, c, B, d, rfl, sa, sb, b⟩
theorem signed_q (s : Bool) (A B : Option Addr) (n c m d : Nat) (w : World) (hn : n ≤ 9223372036854775807) :
    Calls Tryz.prog 91 #[.bool s, .slice A n c, .slice B m d] w fun e w' => e = .returned (.agg #[.bool (s && decide (0 < n)), .slice A n c, .slice B m d]) ∧ Below w.heap.size w w' := by
  cases s with
  | false =>
    go_enter Tryz.func91, Tryz.ntmps91
    go_wp2
    exact bodyPost_ret (v := .agg #[.bool false, .slice A n c, .slice B m d]) (by simp [results, Tryz.results91, go_sem]) rfl ⟨rfl, ((Below.refl _ _).alloc (Nat.le_refl _) _)⟩
  | true =>
    by_cases h0 : n = 0
    · subst h0
      go_enter Tryz.func91, Tryz.ntmps91
      go_wp2
      exact bodyPost_ret (v := .agg #[.bool false, .slice A 0 c, .slice B m d]) (by simp [results, Tryz.results91, go_sem]) rfl ⟨rfl, ((Below.refl _ _).alloc (Nat.le_refl _) _)⟩
    · have hp : 0 < n := by omega
      have E := hide (show (true && decide (0 < n)) = true by simp [hp])
      clear h0
      go_enter Tryz.func91, Tryz.ntmps91
      go_wp2
      exact bodyPost_ret (v := .agg #[.bool true, .slice A n c, .slice B m d]) (by simp [results, Tryz.results91, go_sem]) rfl ⟨by rw [E.out], ((Below.refl _ _).alloc (Nat.le_refl _) _)⟩
theorem top_q (s : Bool) (A B : Option Addr) (n c m d : Nat) (w : World) :
    Calls Tryz.prog 97 #[.agg #[.bool s, .slice A n c, .slice B m d]] w fun e w' => e = .returned (.agg #[.bool s, .slice A n c]) ∧ Below w.heap.size w w' := by
  have b0 : Below w.heap.size w ((w.alloc (.cells #[.bool s, .slice A n c, .slice B m d] 28)).alloc (.cells #[.bool s, .slice A n c] 125)) := bl_al (bl_al (.refl _ _) _) _
  go_enter Tryz.func97, Tryz.ntmps97
  go_wp2
  exact bodyPost_ret (v := .agg #[.bool s, .slice A n c]) (by simp [results, Tryz.results97, go_sem]) rfl ⟨rfl, b0⟩
theorem bounded_ok (s : Bool) (A B : Option Addr) (n c m d : Nat) (w : World) (hn : n ≤ 64) (hm : m ≤ 64) :
    Calls Tryz.prog 154 #[.agg #[.bool s, .slice A n c, .slice B m d]] w fun e w' => e = .returned (.tuple #[.agg #[.bool s, .slice A n c, .slice B m d], .int .i64 0]) ∧ Below w.heap.size w w' := by
  obtain ⟨k, hk⟩ : ∃ k, max n m = k := ⟨_, rfl⟩
  have hmx : ∀ ts t W, (Builtin.max_ ts t #[.int .i64 (n : Int), .int .i64 (m : Int)]).run Tryz.prog W = .ok (.int .i64 (k : Int)) W := fun ts t W => by
    rw [run_max_int2]
    congr 2
    split <;> omega
  have hk64 : k ≤ 64 := by omega
  have b0 : Below w.heap.size w ((w.alloc (.cells #[.bool s, .slice A n c, .slice B m d] 28)).alloc (.cells #[.bool s, .slice A n c, .slice B m d] 28)) := bl_al (bl_al (.refl _ _) _) _
  clear hk
  go_enter Tryz.func154, Tryz.ntmps154
  go_wp2
  exact bodyPost_ret (v := .tuple #[.agg #[.bool s, .slice A n c, .slice B m d], .int .i64 0]) (by simp [results, Tryz.results154, go_sem]) rfl ⟨rfl, b0⟩
theorem lowest_q (s : Bool) (A B : Option Addr) (c d x y : Nat) (q : Rat) (w : World) (sx : Sl w A (digs x)) (sy : Sl w B (digs y)) (hx : ln x ≤ 10000) (hy : ln y ≤ 10000) (h0 : 0 < y) (hq : qmk s x y = q) :
    Calls Tryz.prog 66 #[.bool s, .slice A (ln x) c, .slice B (ln y) d] w (RQ w q) := by
  subst hq
  have h0' : y ≠ 0 := by omega
  obtain ⟨u, hu⟩ : ∃ u, x / Nat.gcd x y = u := ⟨_, rfl⟩
  obtain ⟨v, hv⟩ : ∃ v, y / Nat.gcd x y = v := ⟨_, rfl⟩
  have E1 := hide ((qs_mk s x h0').trans (by rw [hu, dec_ln]))
  have E2 := hide ((qn_mk s x h0').trans hu)
  have E3 := hide ((qd_mk s x h0').trans hv)
  have hul : ln u ≤ 10000 := Nat.le_trans (ln_mono (by rw [← hu]; exact Nat.div_le_self _ _)) hx
  have G := hide (fun W (b : Below w.heap.size w W) => lowest_z A B c d x y u v W (kp' b sx) (kp' b sy) hx hy h0 hu hv)
  have X := hide (Q3.new (.bool false) (.slice none 0 0) (.slice none 0 0) w)
  have b0 : Below w.heap.size w (w.alloc (.cells #[.bool false, .slice none 0 0, .slice none 0 0] 28)) := bl_al (.refl _ _) _
  have S := hide (fun A B c d W => signed_q s A B (ln u) c (ln v) d W (by omega))
  clear hu hv sx sy h0 h0' hul
  generalize ln x = n at *
  generalize ln y = m at *
  go_enter Tryz.func66, Tryz.ntmps66
  go_wp2_with (first
    | (go_at_call 90; (with_reducible refine (G.out _ b0).mono ?_); rintro e w1 ⟨A1, c1, B1, d1, rfl, s1, t1, hb⟩; have X := hide (X.out.next hb); obtain ⟨x1, x2, x3, x4, x5, x6⟩ := X.out; have b1 := bl_trans b0 hb; clear hb)
    | (go_at_call 91; (with_reducible refine (S.out _ _ _ _ _).mono ?_); rintro e w2 ⟨rfl, hb⟩; have X := hide (X.out.next hb); obtain ⟨x1, x2, x3, x4, x5, x6⟩ := X.out; have b2 := bl_trans b1 hb; have s1 := kp' hb s1; have t1 := kp' hb t1; clear hb))
  refine bodyPost_ret (v := .agg #[.bool (s && decide (0 < ln u)), .slice A1 (ln u) c1, .slice B1 (ln v) d1]) (by simp [results, Tryz.results66, go_sem, x1, x2, x3]) rfl (RQ.mk E1.out E2.out E3.out (s1.over3 X.out _ _ _) (t1.over3 X.out _ _ _) (Below.over3 b2 (Nat.le_refl _) _ _ _))
def validQ (s : Bool) (xs ys : List Nat) : Bool := validI s xs && validB ys && decide (0 < ys.length) && (Nat.gcd (val xs) (val ys) == 1)
theorem validQ_a {s : Bool} {xs ys : List Nat} (h : validI s xs = false) : validQ s xs ys = false := by unfold validQ; rw [h]; rfl
theorem validQ_b {s : Bool} {xs ys : List Nat} (h : validB ys = false) : validQ s xs ys = false := by unfold validQ; rw [h, Bool.and_false]; rfl
theorem validQ_c {s : Bool} {xs ys : List Nat} (h : ys.length = 0) : validQ s xs ys = false := by unfold validQ; rw [h]; simp
theorem validQ_d {s : Bool} {xs ys : List Nat} (h1 : validI s xs = true) (h2 : validB ys = true) (h3 : 0 < ys.length) : validQ s xs ys = (Nat.gcd (val xs) (val ys) == 1) := by unfold validQ; rw [h1, h2]; simp [h3]
theorem validQ_q (q : Rat) (h1 : ln (qn q) ≤ 64) (h2 : ln (qd q) ≤ 64) : validQ (qs q) (digs (qn q)) (digs (qd q)) = true := by
  have e1 : validI (qs q) (digs (qn q)) = true := validI_iff.2 ⟨valid_short h1 (norm_digs _), fun h => digs_len_pos.2 (qn_pos_of_neg h)⟩
  rw [validQ_d e1 (valid_short h2 (norm_digs _)) (digs_len_pos.2 (qd_pos q)), val_digs, val_digs]
  exact beq_iff_eq.2 (q_cop q)
theorem validQ_any (s : Bool) (A B : Option Addr) (c d : Nat) (xs ys : List Nat) (w : World) (hx : Sl w A xs) (hy : Sl w B ys) (lx : Limbs xs) (ly : Limbs ys) (hl : xs.length ≤ 1000000) (hl' : ys.length ≤ 1000000) (r : Bool) (hr : validQ s xs ys = r) :
    Calls Tryz.prog 75 #[.agg #[.bool s, .slice A xs.length c, .slice B ys.length d]] w fun e w' => e = .returned (.bool r) ∧ Below w.heap.size w w' := by
  subst hr
  have V1 := hide (fun W (b : Below w.heap.size w W) => validI_any s A c xs W (kp' b hx) (by omega))
  have V2 := hide (fun W (b : Below w.heap.size w W) => valid_any B d ys W (kp' b hy) (by omega))
  have X := hide (Q3.new (.bool s) (.slice A xs.length c) (.slice B ys.length d) w)
  have b0 : Below w.heap.size w (w.alloc (.cells #[.bool s, .slice A xs.length c, .slice B ys.length d] 28)) := bl_al (.refl _ _) _
  have T := hide (fun W => top_q s A B xs.length c ys.length d W)
  cases h1 : validI s xs with
  | false =>
    have E := hide (validQ_a (ys := ys) h1)
    rw [h1] at V1
    clear h1 V2 hx hy lx ly
    generalize xs.length = n at *
    generalize ys.length = m at *
    go_enter Tryz.func75, Tryz.ntmps75
    go_wp2_with (first
      | (go_at_call 97; (with_reducible refine (T.out _).mono ?_); rintro e w1 ⟨rfl, hb⟩; have X := hide (X.out.next hb); obtain ⟨x1, x2, x3, x4, x5, x6⟩ := X.out; have b1 := bl_trans b0 hb; clear hb)
      | (go_at_call 96; (with_reducible refine (V1.out _ b1).mono ?_); rintro e w2 ⟨rfl, hb⟩; have X := hide (X.out.next hb); obtain ⟨x1, x2, x3, x4, x5, x6⟩ := X.out; have b2 := bl_trans b1 hb; clear hb))
    go_ret
    exact ⟨ret_bool E.out.symm, b2⟩
  | true =>
    rw [h1] at V1
    cases h2 : validB ys with
    | false =>
      have E := hide (validQ_b (s := s) (xs := xs) h2)
      rw [h2] at V2
      clear h1 h2 hx hy lx ly
      generalize xs.length = n at *
      generalize ys.length = m at *
      go_enter Tryz.func75, Tryz.ntmps75
      go_wp2_with (first
        | (go_at_call 97; (with_reducible refine (T.out _).mono ?_); rintro e w1 ⟨rfl, hb⟩; have X := hide (X.out.next hb); obtain ⟨x1, x2, x3, x4, x5, x6⟩ := X.out; have b1 := bl_trans b0 hb; clear hb)
        | (go_at_call 96; (with_reducible refine (V1.out _ b1).mono ?_); rintro e w2 ⟨rfl, hb⟩; have X := hide (X.out.next hb); obtain ⟨x1, x2, x3, x4, x5, x6⟩ := X.out; have b2 := bl_trans b1 hb; clear hb)
        | (go_at_call 98; (with_reducible refine (V2.out _ b2).mono ?_); rintro e w3 ⟨rfl, rfl⟩))
      go_ret
      exact ⟨ret_bool E.out.symm, b2⟩
    | true =>
      rw [h2] at V2
      by_cases h3 : ys.length = 0
      · have E := hide (validQ_c (s := s) (xs := xs) h3)
        clear h1 h2 hx hy lx ly
        generalize xs.length = n at *
        generalize ys.length = m at *
        subst h3
        go_enter Tryz.func75, Tryz.ntmps75
        go_wp2_with (first
          | (go_at_call 97; (with_reducible refine (T.out _).mono ?_); rintro e w1 ⟨rfl, hb⟩; have X := hide (X.out.next hb); obtain ⟨x1, x2, x3, x4, x5, x6⟩ := X.out; have b1 := bl_trans b0 hb; clear hb)
          | (go_at_call 96; (with_reducible refine (V1.out _ b1).mono ?_); rintro e w2 ⟨rfl, hb⟩; have X := hide (X.out.next hb); obtain ⟨x1, x2, x3, x4, x5, x6⟩ := X.out; have b2 := bl_trans b1 hb; clear hb)
          | (go_at_call 98; (with_reducible refine (V2.out _ b2).mono ?_); rintro e w3 ⟨rfl, rfl⟩))
        go_ret
        exact ⟨ret_bool E.out.symm, b2⟩
      · have hp : 0 < ys.length := by omega
        have E := hide (validQ_d h1 h2 hp)
        have n1 := digs_val_norm lx (validB_iff.1 (validI_B h1)).2
        have n2 := digs_val_norm ly (validB_iff.1 h2).2
        have k1 := (validB_iff.1 (validI_B h1)).1
        have k2 := (validB_iff.1 h2).1
        obtain ⟨x, hxe⟩ : ∃ x, x = val xs := ⟨_, rfl⟩
        obtain ⟨y, hye⟩ : ∃ y, y = val ys := ⟨_, rfl⟩
        rw [← hxe] at n1 E
        rw [← hye] at n2 E
        obtain ⟨g, hg⟩ : ∃ g, Nat.gcd x y = g := ⟨_, rfl⟩
        rw [hg] at E
        have e1 : ln x = xs.length := by unfold ln; rw [n1]
        have e2 : ln y = ys.length := by unfold ln; rw [n2]
        have G := hide (fun W (b : Below w.heap.size w W) => gcd_z A B c d x y g W (by rw [n1]; exact kp' b hx) (by rw [n2]; exact kp' b hy) (by omega) (by omega) hg)
        rw [e1, e2] at G
        obtain ⟨r, hr⟩ : ∃ r, (g == 1) = r := ⟨_, rfl⟩
        rw [hr] at E
        have I := hide (fun A c W (s : Sl W A (digs g)) => isOne_any A c g W s r (by rw [← hr]; cases h : (g == 1) <;> simp_all))
        clear h1 h2 hx hy lx ly n1 n2 k1 k2 hxe hye hg e1 e2 hr h3
        generalize xs.length = n at *
        generalize ys.length = m at *
        go_enter Tryz.func75, Tryz.ntmps75
        go_wp2_with (first
          | (go_at_call 97; (with_reducible refine (T.out _).mono ?_); rintro e w1 ⟨rfl, hb⟩; have X := hide (X.out.next hb); obtain ⟨x1, x2, x3, x4, x5, x6⟩ := X.out; have b1 := bl_trans b0 hb; clear hb)
          | (go_at_call 96; (with_reducible refine (V1.out _ b1).mono ?_); rintro e w2 ⟨rfl, hb⟩; have X := hide (X.out.next hb); obtain ⟨x1, x2, x3, x4, x5, x6⟩ := X.out; have b2 := bl_trans b1 hb; clear hb)
          | (go_at_call 98; (with_reducible refine (V2.out _ b2).mono ?_); rintro e w3 ⟨rfl, rfl⟩)
          | (go_at_call 100; (with_reducible refine (G.out _ b2).mono ?_); rintro e w4 ⟨A4, c4, rfl, s4, hb⟩; have X := hide (X.out.next hb); obtain ⟨x1, x2, x3, x4, x5, x6⟩ := X.out; have b4 := bl_trans b2 hb; clear hb)
          | (go_at_call 99; (with_reducible refine (I.out A4 c4 _ s4).mono ?_); rintro e w5 ⟨rfl, rfl⟩))
        go_ret
        exact ⟨ret_bool E.out.symm, b4⟩
theorem valid_q (q : Rat) (A B : Option Addr) (c d : Nat) (w : World) (sx : Sl w A (digs (qn q))) (sy : Sl w B (digs (qd q))) (h1 : ln (qn q) ≤ 64) (h2 : ln (qd q) ≤ 64) :
    Calls Tryz.prog 75 #[.agg #[.bool (qs q), .slice A (ln (qn q)) c, .slice B (ln (qd q)) d]] w fun e w' => e = .returned (.bool true) ∧ Below w.heap.size w w' :=
  validQ_any (qs q) A B c d _ _ w sx sy (limbs_digs _) (limbs_digs _) (Nat.le_trans h1 (by decide)) (Nat.le_trans h2 (by decide)) true (validQ_q q h1 h2)
theorem op_bne (a b r : Bool) (h : (a != b) = r) (W : World) : (binOp .neq 4 (.bool a) (.bool b)).run Tryz.prog W = .ok (.bool r) W := by
  subst h
  cases a <;> cases b <;> kernel_rfl
theorem op_beq (a b r : Bool) (h : (a == b) = r) (W : World) : (binOp .eql 4 (.bool a) (.bool b)).run Tryz.prog W = .ok (.bool r) W := by
  subst h
  cases a <;> cases b <;> kernel_rfl
theorem i64_lt {x : Int} (h1 : -9223372036854775808 ≤ x) (h2 : x ≤ 9223372036854775807) : x.natAbs < LB ^ 64 := by
  have h : LB ^ 1 ≤ LB ^ 64 := Nat.pow_le_pow_right LB_pos (by decide)
  rw [Nat.pow_one] at h
  rw [LB_eq] at h
  have h' : x.natAbs < 18446744073709551616 := by omega
  exact Nat.lt_of_lt_of_le h' h
theorem whole_of (a : Int) (n : Nat) (s : Bool) (w : World) (h1 : -9223372036854775808 ≤ a) (h2 : a ≤ 9223372036854775807) (hn : a.natAbs = n) (hs : isg a = s) :
    Calls Tryz.prog 65 #[.int .i64 a] w fun e w' => ∃ A c, e = .returned (.agg #[.bool s, .slice A (ln n) c]) ∧ Sl w' A (digs n) ∧ Below w.heap.size w w' := by
  subst hn hs
  exact (ofI_any a w h1 h2).mono fun _ _ ⟨A, c, e, s, b⟩ => ⟨A, c, e, s, b⟩
theorem of_pos (n d : Int) (q : Rat) (w : World) (h1 : -9223372036854775808 ≤ n) (h2 : n ≤ 9223372036854775807) (h3 : -9223372036854775808 ≤ d) (h4 : d ≤ 9223372036854775807) (h0 : d ≠ 0) (hq : qmk (isg n != isg d) n.natAbs d.natAbs = q) :
    Calls Tryz.prog 40 #[.int .i64 n, .int .i64 d] w (RQ w q) := by
  obtain ⟨s, hs⟩ : ∃ s, isg n = s := ⟨_, rfl⟩
  obtain ⟨t, ht⟩ : ∃ t, isg d = t := ⟨_, rfl⟩
  obtain ⟨x, hx⟩ : ∃ x, n.natAbs = x := ⟨_, rfl⟩
  obtain ⟨y, hy⟩ : ∃ y, d.natAbs = y := ⟨_, rfl⟩
  have O1 := hide (fun W => whole_of n x s W h1 h2 hx hs)
  have O2 := hide (fun W => whole_of d y t W h3 h4 hy ht)
  rw [hs, ht, hx, hy] at hq
  obtain ⟨r, hr⟩ : ∃ r, (s != t) = r := ⟨_, rfl⟩
  rw [hr] at hq
  have on := op_bne s t r hr
  have hxl : ln x ≤ 64 := ln_le (by rw [← hx]; exact i64_lt h1 h2)
  have hyl : ln y ≤ 64 := ln_le (by rw [← hy]; exact i64_lt h3 h4)
  have L := hide (fun A B c e W (sx : Sl W A (digs x)) (sy : Sl W B (digs y)) => lowest_q r A B c e x y q W sx sy (by omega) (by omega) (by omega) hq)
  have hd : (d == 0) = false := beq_eq_false_iff_ne.2 h0
  clear hs ht hx hy hq hr h0 h1 h2 h3 h4
  have X := hide (Q3.new (.bool false) (.slice none 0 0) (.slice none 0 0) w)
  have b0 : Below w.heap.size w (w.alloc (.cells #[.bool false, .slice none 0 0, .slice none 0 0] 28)) := bl_al (.refl _ _) _
  go_enter Tryz.func40, Tryz.ntmps40
  go_wp2_with (first
    | (go_at_call 65; (with_reducible refine (O1.out _).mono ?_); rintro e w1 ⟨A1, c1, rfl, s1, hb⟩; have X := hide (X.out.next hb); have b1 := bl_trans b0 hb; clear hb)
    | (go_at_call 65; (with_reducible refine (O2.out _).mono ?_); rintro e w2 ⟨A2, c2, rfl, s2, hb⟩; have X : Hid (Q3 w.heap.size (.bool false) (.slice none 0 0) (.slice none 0 0) ((w2.alloc (.cells #[.bool s, .slice A1 (ln x) c1] 125)).alloc (.cells #[.bool t, .slice A2 (ln y) c2] 125))) := hide (((X.out.next hb).al _).al _); have Y1 := hide ((Q2.new (.bool s) (.slice A1 (ln x) c1) w2).al (.cells #[.bool t, .slice A2 (ln y) c2] 125)); have Y2 := hide (Q2.new1 (.bool t) (.slice A2 (ln y) c2) w2 (.cells #[.bool s, .slice A1 (ln x) c1] 125)); have s1 := ((kp' hb s1).alloc (.cells #[.bool s, .slice A1 (ln x) c1] 125)).alloc (.cells #[.bool t, .slice A2 (ln y) c2] 125); have s2 := (s2.alloc (.cells #[.bool s, .slice A1 (ln x) c1] 125)).alloc (.cells #[.bool t, .slice A2 (ln y) c2] 125); have b2 : Below w.heap.size w ((w2.alloc (.cells #[.bool s, .slice A1 (ln x) c1] 125)).alloc (.cells #[.bool t, .slice A2 (ln y) c2] 125)) := bl_al (bl_al (bl_trans b1 hb) _) _; obtain ⟨y1, y2, y3, y4⟩ := Y1.out; obtain ⟨y5, y6, y7, y8⟩ := Y2.out; clear hb)
    | (go_at_call 66; (with_reducible refine (L.out A1 A2 c1 c2 _ s1 s2).mono ?_); rintro e w3 ⟨A3, c3, B3, d3, rfl, s3, t3, hb⟩; have X := hide (X.out.next hb); obtain ⟨z1, z2, z3, z4, z5, z6⟩ := X.out; have b3 := bl_trans b2 hb; clear hb))
  refine bodyPost_ret (v := .agg #[.bool (qs q), .slice A3 (ln (qn q)) c3, .slice B3 (ln (qd q)) d3]) (by simp [results, Tryz.results40, go_sem, z1, z2, z3]) rfl (RQ.mk rfl rfl rfl (s3.over3 X.out _ _ _) (t3.over3 X.out _ _ _) (Below.over3 b3 (Nat.le_refl _) _ _ _))
def Kl (w : World) (g : Nat) (l : List (Option Addr × Nat)) (W : World) : Prop := Below w.heap.size w W ∧ Q3 g (.bool false) (.slice none 0 0) (.slice none 0 0) W ∧ ∀ p, p ∈ l → Sl W p.1 (digs p.2)
section
variable {w W W' : World} {g : Nat} {l : List (Option Addr × Nat)}
theorem Kl.next (k : Kl w g l W) (hb : Below W.heap.size W W') : Kl w g l W' := ⟨bl_trans k.1 hb, k.2.1.next hb, fun p hp => kp' hb (k.2.2 p hp)⟩
theorem Kl.drew (k : Kl w g l W) : Kl w g l W.drew := ⟨k.1.drew, k.2.1.drew, k.2.2⟩
theorem Kl.sl (k : Kl w g l W) {A : Option Addr} {x : Nat} (h : (A, x) ∈ l) : Sl W A (digs x) := k.2.2 _ h
theorem Kl.more (k : Kl w g l W) {A : Option Addr} {x : Nat} (h : Sl W A (digs x)) : Kl w g ((A, x) :: l) W := ⟨k.1, k.2.1, fun p hp => by
  rcases List.mem_cons.1 hp with e | e
  · rw [e]; exact h
  · exact k.2.2 p e⟩
theorem Kl.start (b : Below w.heap.size w W) (q : Q3 g (.bool false) (.slice none 0 0) (.slice none 0 0) W) : Kl w g [] W := ⟨b, q, fun p hp => by cases hp⟩
theorem Kl.old (k : Kl w g l W) {A : Option Addr} {xs : List Nat} (s : Sl w A xs) : Sl W A xs := kp' k.1 s
end
theorem S6_next {w w' : World} (hb : Below w.heap.size w w') {p1 p2 p3 p4 p5 p6 : Addr} {v1 v2 v3 v4 v5 v6 : Value} {w0 : World} {g : Nat} {l : List (Option Addr × Nat)}
    (h : w.cell? p1 = some v1 ∧ w.cell? p2 = some v2 ∧ w.cell? p3 = some v3 ∧ w.cell? p4 = some v4 ∧ w.cell? p5 = some v5 ∧ w.cell? p6 = some v6 ∧ Kl w0 g l w) :
    w'.cell? p1 = some v1 ∧ w'.cell? p2 = some v2 ∧ w'.cell? p3 = some v3 ∧ w'.cell? p4 = some v4 ∧ w'.cell? p5 = some v5 ∧ w'.cell? p6 = some v6 ∧ Kl w0 g l w' := by
  obtain ⟨h1, h2, h3, h4, h5, h6, h7⟩ := h
  exact ⟨cell_next hb h1, cell_next hb h2, cell_next hb h3, cell_next hb h4, cell_next hb h5, cell_next hb h6, h7.next hb⟩
theorem S6_more {W : World} {p1 p2 p3 p4 p5 p6 : Addr} {v1 v2 v3 v4 v5 v6 : Value} {w0 : World} {g : Nat} {l : List (Option Addr × Nat)} {A : Option Addr} {x : Nat}
    (h : W.cell? p1 = some v1 ∧ W.cell? p2 = some v2 ∧ W.cell? p3 = some v3 ∧ W.cell? p4 = some v4 ∧ W.cell? p5 = some v5 ∧ W.cell? p6 = some v6 ∧ Kl w0 g l W) (s : Sl W A (digs x)) :
    W.cell? p1 = some v1 ∧ W.cell? p2 = some v2 ∧ W.cell? p3 = some v3 ∧ W.cell? p4 = some v4 ∧ W.cell? p5 = some v5 ∧ W.cell? p6 = some v6 ∧ Kl w0 g ((A, x) :: l) W :=
  ⟨h.1, h.2.1, h.2.2.1, h.2.2.2.1, h.2.2.2.2.1, h.2.2.2.2.2.1, h.2.2.2.2.2.2.more s⟩
theorem S6_drew {W : World} {p1 p2 p3 p4 p5 p6 : Addr} {v1 v2 v3 v4 v5 v6 : Value} {w0 : World} {g : Nat} {l : List (Option Addr × Nat)}
    (h : W.cell? p1 = some v1 ∧ W.cell? p2 = some v2 ∧ W.cell? p3 = some v3 ∧ W.cell? p4 = some v4 ∧ W.cell? p5 = some v5 ∧ W.cell? p6 = some v6 ∧ Kl w0 g l W) :
    W.drew.cell? p1 = some v1 ∧ W.drew.cell? p2 = some v2 ∧ W.drew.cell? p3 = some v3 ∧ W.drew.cell? p4 = some v4 ∧ W.drew.cell? p5 = some v5 ∧ W.drew.cell? p6 = some v6 ∧ Kl w0 g l W.drew := ⟨h.1, h.2.1, h.2.2.1, h.2.2.2.1, h.2.2.2.2.1, h.2.2.2.2.2.1, h.2.2.2.2.2.2.drew⟩
theorem mem1 {p : Option Addr × Nat} {l : List (Option Addr × Nat)} : p ∈ p :: l := .head _
theorem mem2 {p a : Option Addr × Nat} {l : List (Option Addr × Nat)} : p ∈ a :: p :: l := .tail _ (.head _)
theorem mem3 {p a b : Option Addr × Nat} {l : List (Option Addr × Nat)} : p ∈ a :: b :: p :: l := .tail _ (.tail _ (.head _))
theorem k6 {c1 c2 c3 c4 c5 c6 k : Prop} (h : c1 ∧ c2 ∧ c3 ∧ c4 ∧ c5 ∧ c6 ∧ k) : k := h.2.2.2.2.2.2
theorem ln_div (x y : Nat) : ln (x / y) ≤ ln x := ln_mono (Nat.div_le_self _ _)
theorem product_q (q r : Rat) (A B C D : Option Addr) (a b c d : Nat) (w : World) (sA : Sl w A (digs (qn q))) (sB : Sl w B (digs (qd q))) (sC : Sl w C (digs (qn r))) (sD : Sl w D (digs (qd r))) (h1 : ln (qn q) ≤ 2000) (h2 : ln (qd q) ≤ 2000) (h3 : ln (qn r) ≤ 2000) (h4 : ln (qd r) ≤ 2000) :
    Calls Tryz.prog 171 #[.agg #[.bool (qs q), .slice A (ln (qn q)) a, .slice B (ln (qd q)) b], .agg #[.bool (qs r), .slice C (ln (qn r)) c, .slice D (ln (qd r)) d]] w (RQ w (q * r)) := by
  have EN := qn_mul q r
  have ED := qd_mul q r
  have ES := qs_mul q r
  have p2 := qd_pos q
  have p4 := qd_pos r
  obtain ⟨s, hs⟩ : ∃ s, qs q = s := ⟨_, rfl⟩
  obtain ⟨t, ht⟩ : ∃ t, qs r = t := ⟨_, rfl⟩
  obtain ⟨n1, e1⟩ : ∃ n, qn q = n := ⟨_, rfl⟩
  obtain ⟨n2, e2⟩ : ∃ n, qd q = n := ⟨_, rfl⟩
  obtain ⟨n3, e3⟩ : ∃ n, qn r = n := ⟨_, rfl⟩
  obtain ⟨n4, e4⟩ : ∃ n, qd r = n := ⟨_, rfl⟩
  rw [e1, e2, e3, e4] at EN ED
  rw [hs, ht] at ES
  rw [e1] at sA h1; rw [e2] at sB h2 p2; rw [e3] at sC h3; rw [e4] at sD h4 p4
  rw [hs, ht, e1, e2, e3, e4]
  clear hs ht e1 e2 e3 e4
  obtain ⟨g1, f1⟩ : ∃ g, Nat.gcd n1 n4 = g := ⟨_, rfl⟩
  obtain ⟨g2, f2⟩ : ∃ g, Nat.gcd n3 n2 = g := ⟨_, rfl⟩
  rw [f1, f2] at EN ED
  have p5 : 0 < g1 := by rw [← f1]; exact Nat.gcd_pos_of_pos_right _ p4
  have p6 : 0 < g2 := by rw [← f2]; exact Nat.gcd_pos_of_pos_right _ p2
  have l5 : ln g1 ≤ 2000 := Nat.le_trans (ln_mono (by rw [← f1]; exact Nat.gcd_le_right _ p4)) h4
  have l6 : ln g2 ≤ 2000 := Nat.le_trans (ln_mono (by rw [← f2]; exact Nat.gcd_le_right _ p2)) h2
  obtain ⟨u1, f3⟩ : ∃ u, n1 / g1 = u := ⟨_, rfl⟩
  obtain ⟨u2, f4⟩ : ∃ u, n3 / g2 = u := ⟨_, rfl⟩
  obtain ⟨v1, f5⟩ : ∃ u, n2 / g2 = u := ⟨_, rfl⟩
  obtain ⟨v2, f6⟩ : ∃ u, n4 / g1 = u := ⟨_, rfl⟩
  have l7 : ln u1 ≤ 2000 := Nat.le_trans (by rw [← f3]; exact ln_div _ _) h1
  have l8 : ln u2 ≤ 2000 := Nat.le_trans (by rw [← f4]; exact ln_div _ _) h3
  have l9 : ln v1 ≤ 2000 := Nat.le_trans (by rw [← f5]; exact ln_div _ _) h2
  have l10 : ln v2 ≤ 2000 := Nat.le_trans (by rw [← f6]; exact ln_div _ _) h4
  rw [f3, f4] at EN
  rw [f5, f6] at ED
  obtain ⟨N, f7⟩ : ∃ n, u1 * u2 = n := ⟨_, rfl⟩
  obtain ⟨M, f8⟩ : ∃ n, v1 * v2 = n := ⟨_, rfl⟩
  rw [f7] at EN
  rw [f8] at ED
  have l11 : ln N ≤ 9223372036854775807 := by have := ln_mul u1 u2; rw [f7] at this; omega
  obtain ⟨z, hz⟩ : ∃ z, (s != t) = z := ⟨_, rfl⟩
  rw [hz, EN, dec_ln] at ES
  have on := op_bne s t z hz
  have ES := hide ES
  have EN := hide EN
  have ED := hide ED
  have G1 := hide (fun W (k : Kl w (w.heap.size + 1 + 1) [] W) => gcd_z A D a d n1 n4 g1 W (k.old sA) (k.old sD) (by omega) (by omega) f1)
  have G2 := hide (fun W (k : Kl w (w.heap.size + 1 + 1) [] W) => gcd_z C B c b n3 n2 g2 W (k.old sC) (k.old sB) (by omega) (by omega) f2)
  have U1 := hide (fun l G e W (k : Kl w (w.heap.size + 1 + 1) l W) (h : (G, g1) ∈ l) => without_z A G a e n1 g1 u1 W (k.old sA) (k.sl h) (by omega) (by omega) p5 f3)
  have U2 := hide (fun l G e W (k : Kl w (w.heap.size + 1 + 1) l W) (h : (G, g2) ∈ l) => without_z C G c e n3 g2 u2 W (k.old sC) (k.sl h) (by omega) (by omega) p6 f4)
  have U3 := hide (fun l G e W (k : Kl w (w.heap.size + 1 + 1) l W) (h : (G, g2) ∈ l) => without_z B G b e n2 g2 v1 W (k.old sB) (k.sl h) (by omega) (by omega) p6 f5)
  have U4 := hide (fun l G e W (k : Kl w (w.heap.size + 1 + 1) l W) (h : (G, g1) ∈ l) => without_z D G d e n4 g1 v2 W (k.old sD) (k.sl h) (by omega) (by omega) p5 f6)
  have T1 := hide (fun X Y e f W (sx : Sl W X (digs u1)) (sy : Sl W Y (digs u2)) => times_z X Y e f u1 u2 N W sx sy (by omega) (by omega) f7)
  have T2 := hide (fun X Y e f W (sx : Sl W X (digs v1)) (sy : Sl W Y (digs v2)) => times_z X Y e f v1 v2 M W sx sy (by omega) (by omega) f8)
  have SG := hide (fun X Y e f W => signed_q z X Y (ln N) e (ln M) f W l11)
  clear sA sB sC sD h1 h2 h3 h4 f1 f2 f3 f4 f5 f6 f7 f8 p2 p4 p5 p6 l5 l6 l7 l8 l9 l10 l11 hz
  generalize ln n1 = i1 at *
  generalize ln n2 = i2 at *
  generalize ln n3 = i3 at *
  generalize ln n4 = i4 at *
  have X1 := hide (((Q3.new (.bool s) (.slice A i1 a) (.slice B i2 b) w).al (.cells #[.bool t, .slice C i3 c, .slice D i4 d] 28)).al (.cells #[.bool false, .slice none 0 0, .slice none 0 0] 28))
  have X2 := hide ((Q3.new1 (.bool t) (.slice C i3 c) (.slice D i4 d) w (.cells #[.bool s, .slice A i1 a, .slice B i2 b] 28)).al (.cells #[.bool false, .slice none 0 0, .slice none 0 0] 28))
  have X3 := hide (Q3.new2 (.bool false) (.slice none 0 0) (.slice none 0 0) w (.cells #[.bool s, .slice A i1 a, .slice B i2 b] 28) (.cells #[.bool t, .slice C i3 c, .slice D i4 d] 28))
  have b0 : Below w.heap.size w (((w.alloc (.cells #[.bool s, .slice A i1 a, .slice B i2 b] 28)).alloc (.cells #[.bool t, .slice C i3 c, .slice D i4 d] 28)).alloc (.cells #[.bool false, .slice none 0 0, .slice none 0 0] 28)) := bl_al (bl_al (bl_al (.refl _ _) _) _) _
  go_enter Tryz.func171, Tryz.ntmps171
  go_wp2
  go_region_held3 (fun W => W.cell? ⟨w.heap.size, 0, none⟩ = some (.bool s) ∧ W.cell? ⟨w.heap.size, 1, none⟩ = some (.slice A i1 a) ∧ W.cell? ⟨w.heap.size, 2, none⟩ = some (.slice B i2 b) ∧ W.cell? ⟨w.heap.size + 1, 0, none⟩ = some (.bool t) ∧ W.cell? ⟨w.heap.size + 1, 1, none⟩ = some (.slice C i3 c) ∧ W.cell? ⟨w.heap.size + 1, 2, none⟩ = some (.slice D i4 d) ∧ Kl w (w.heap.size + 1 + 1) [] W)
    (first | exact S6_next hb (by assumption) | assumption | (refine ⟨X1.out.1, X1.out.2.1, X1.out.2.2.1, X2.out.1, X2.out.2.1, X2.out.2.2.1, ?_⟩; exact (Kl.start b0 X3.out).drew))
    (first
      | (go_at_call 100; (with_reducible refine (G1.out _ (k6 (by assumption))).mono ?_); rintro e w1 ⟨A1, c1, rfl, s1, hb⟩; (try have s2 := kp' hb s2))
      | (go_at_call 100; (with_reducible refine (G2.out _ (k6 (by assumption))).mono ?_); rintro e w2 ⟨A2, c2, rfl, s2, hb⟩; (try have s1 := kp' hb s1)))
  go_wp2
  go_region_held3 (fun W => W.cell? ⟨w.heap.size, 0, none⟩ = some (.bool s) ∧ W.cell? ⟨w.heap.size, 1, none⟩ = some (.slice A i1 a) ∧ W.cell? ⟨w.heap.size, 2, none⟩ = some (.slice B i2 b) ∧ W.cell? ⟨w.heap.size + 1, 0, none⟩ = some (.bool t) ∧ W.cell? ⟨w.heap.size + 1, 1, none⟩ = some (.slice C i3 c) ∧ W.cell? ⟨w.heap.size + 1, 2, none⟩ = some (.slice D i4 d) ∧ Kl w (w.heap.size + 1 + 1) [(A1, g1), (A2, g2)] W)
    (first | exact S6_next hb (by assumption) | assumption | exact S6_drew (S6_more (S6_more (by assumption) s2) s1))
    (first
      | (go_at_call 168; (with_reducible refine (U1.out _ A1 c1 _ (k6 (by assumption)) mem1).mono ?_); rintro e w3 ⟨A3, c3, rfl, s3, hb⟩)
      | (go_at_call 168; (with_reducible refine (U2.out _ A2 c2 _ (k6 (by assumption)) mem2).mono ?_); rintro e w4 ⟨A4, c4, rfl, s4, hb⟩; (try have s3 := kp' hb s3))
      | (go_at_call 170; (with_reducible refine (T1.out A3 A4 c3 c4 _ s3 s4).mono ?_); rintro e w7 ⟨A7, c7, rfl, s7, hb⟩))
  go_wp2
  go_region_held3 (fun W => W.cell? ⟨w.heap.size, 0, none⟩ = some (.bool s) ∧ W.cell? ⟨w.heap.size, 1, none⟩ = some (.slice A i1 a) ∧ W.cell? ⟨w.heap.size, 2, none⟩ = some (.slice B i2 b) ∧ W.cell? ⟨w.heap.size + 1, 0, none⟩ = some (.bool t) ∧ W.cell? ⟨w.heap.size + 1, 1, none⟩ = some (.slice C i3 c) ∧ W.cell? ⟨w.heap.size + 1, 2, none⟩ = some (.slice D i4 d) ∧ Kl w (w.heap.size + 1 + 1) [(A7, N), (A1, g1), (A2, g2)] W)
    (first | exact S6_next hb (by assumption) | assumption | exact S6_drew (S6_more (by assumption) s7))
    (first
      | (go_at_call 168; (with_reducible refine (U3.out _ A2 c2 _ (k6 (by assumption)) mem3).mono ?_); rintro e w5 ⟨A5, c5, rfl, s5, hb⟩)
      | (go_at_call 168; (with_reducible refine (U4.out _ A1 c1 _ (k6 (by assumption)) mem2).mono ?_); rintro e w6 ⟨A6, c6, rfl, s6, hb⟩; (try have s5 := kp' hb s5))
      | (go_at_call 170; (with_reducible refine (T2.out A5 A6 c5 c6 _ s5 s6).mono ?_); rintro e w8 ⟨A8, c8, rfl, s8, hb⟩))
  have h := S6_more (by assumption) s8
  obtain ⟨x1, x2, x3, x4, x5, x6, k⟩ := h
  obtain ⟨b1, X4, hl⟩ := k
  have X4 := hide X4
  have b1 := hide b1
  have s7 : Sl _ A7 (digs N) := hl _ (.tail _ (.head _))
  have s8 : Sl _ A8 (digs M) := hl _ (.head _)
  clear hl
  go_wp2_with (go_at_call 91; (with_reducible refine (SG.out A7 A8 c7 c8 _).mono ?_); rintro e w9 ⟨rfl, hb⟩; have X4 := hide (X4.out.next hb); obtain ⟨y1, y2, y3, y4, y5, y6⟩ := X4.out; have b9 := bl_trans b1.out hb; have s7 := kp' hb s7; have s8 := kp' hb s8; clear hb)
  refine bodyPost_ret (v := .agg #[.bool (z && decide (0 < ln N)), .slice A7 (ln N) c7, .slice A8 (ln M) c8]) (by simp [results, Tryz.results171, go_sem, y1, y2, y3]) rfl (RQ.mk ES.out EN.out ED.out (s7.over3 X4.out _ _ _) (s8.over3 X4.out _ _ _) (Below.over3 b9 (by omega) _ _ _))
theorem S6c_next {w w' : World} (hb : Below w.heap.size w w') {p1 p2 p3 p4 p5 p6 : Addr} {v1 v2 v3 v4 v5 v6 : Value}
    (h : w.cell? p1 = some v1 ∧ w.cell? p2 = some v2 ∧ w.cell? p3 = some v3 ∧ w.cell? p4 = some v4 ∧ w.cell? p5 = some v5 ∧ w.cell? p6 = some v6) :
    w'.cell? p1 = some v1 ∧ w'.cell? p2 = some v2 ∧ w'.cell? p3 = some v3 ∧ w'.cell? p4 = some v4 ∧ w'.cell? p5 = some v5 ∧ w'.cell? p6 = some v6 := by
  obtain ⟨h1, h2, h3, h4, h5, h6⟩ := h
  exact ⟨cell_next hb h1, cell_next hb h2, cell_next hb h3, cell_next hb h4, cell_next hb h5, cell_next hb h6⟩
theorem cell_over3 {w : World} {g h k : Nat} {v : Value} (hh : w.cell? ⟨h, k, none⟩ = some v) (hne : h ≠ g) (a b c : Value) : (((w.setCell ⟨g, 0, none⟩ a).setCell ⟨g, 1, none⟩ b).setCell ⟨g, 2, none⟩ c).cell? ⟨h, k, none⟩ = some v := by
  have ne : ∀ j : Nat, (⟨g, j, none⟩ : Addr) ≠ ⟨h, k, none⟩ := by
    intro j e
    injection e with e1 _ _
    exact hne e1.symm
  rw [World.cell?_setCell_other _ _ _ _ (ne 2), World.cell?_setCell_other _ _ _ _ (ne 1), World.cell?_setCell_other _ _ _ _ (ne 0)]
  exact hh
theorem S6c_over {w : World} {g h : Nat} {v1 v2 v3 v4 v5 v6 a b c : Value} (h1 : h ≠ g) (h2 : h + 1 ≠ g)
    (x : w.cell? ⟨h, 0, none⟩ = some v1 ∧ w.cell? ⟨h, 1, none⟩ = some v2 ∧ w.cell? ⟨h, 2, none⟩ = some v3 ∧ w.cell? ⟨h + 1, 0, none⟩ = some v4 ∧ w.cell? ⟨h + 1, 1, none⟩ = some v5 ∧ w.cell? ⟨h + 1, 2, none⟩ = some v6) :
    (((w.setCell ⟨g, 0, none⟩ a).setCell ⟨g, 1, none⟩ b).setCell ⟨g, 2, none⟩ c).cell? ⟨h, 0, none⟩ = some v1 ∧ (((w.setCell ⟨g, 0, none⟩ a).setCell ⟨g, 1, none⟩ b).setCell ⟨g, 2, none⟩ c).cell? ⟨h, 1, none⟩ = some v2 ∧ (((w.setCell ⟨g, 0, none⟩ a).setCell ⟨g, 1, none⟩ b).setCell ⟨g, 2, none⟩ c).cell? ⟨h, 2, none⟩ = some v3 ∧ (((w.setCell ⟨g, 0, none⟩ a).setCell ⟨g, 1, none⟩ b).setCell ⟨g, 2, none⟩ c).cell? ⟨h + 1, 0, none⟩ = some v4 ∧ (((w.setCell ⟨g, 0, none⟩ a).setCell ⟨g, 1, none⟩ b).setCell ⟨g, 2, none⟩ c).cell? ⟨h + 1, 1, none⟩ = some v5 ∧ (((w.setCell ⟨g, 0, none⟩ a).setCell ⟨g, 1, none⟩ b).setCell ⟨g, 2, none⟩ c).cell? ⟨h + 1, 2, none⟩ = some v6 :=
  ⟨cell_over3 x.1 h1 _ _ _, cell_over3 x.2.1 h1 _ _ _, cell_over3 x.2.2.1 h1 _ _ _, cell_over3 x.2.2.2.1 h2 _ _ _, cell_over3 x.2.2.2.2.1 h2 _ _ _, cell_over3 x.2.2.2.2.2 h2 _ _ _⟩
theorem ln_add (x y k : Nat) (hx : ln x ≤ k) (hy : ln y ≤ k) : ln (x + y) ≤ k + 1 := ln_le (two_lt_pow (lt_of_ln hx) (lt_of_ln hy))
theorem sum_q (q r : Rat) (A B C D : Option Addr) (a b c d : Nat) (w : World) (sA : Sl w A (digs (qn q))) (sB : Sl w B (digs (qd q))) (sC : Sl w C (digs (qn r))) (sD : Sl w D (digs (qd r))) (h1 : ln (qn q) ≤ 2000) (h2 : ln (qd q) ≤ 2000) (h3 : ln (qn r) ≤ 2000) (h4 : ln (qd r) ≤ 2000) :
    Calls Tryz.prog 155 #[.agg #[.bool (qs q), .slice A (ln (qn q)) a, .slice B (ln (qd q)) b], .agg #[.bool (qs r), .slice C (ln (qn r)) c, .slice D (ln (qd r)) d]] w (RQ w (q + r)) := by
  have EN := qn_add q r
  have ED := qd_add q r
  have ES := qs_add q r
  have p2 := qd_pos q
  have p4 := qd_pos r
  have p5 := sumG_pos q r
  have p6 := sumB_pos q r
  obtain ⟨s, hs⟩ : ∃ s, qs q = s := ⟨_, rfl⟩
  obtain ⟨t, ht⟩ : ∃ t, qs r = t := ⟨_, rfl⟩
  obtain ⟨n1, e1⟩ : ∃ n, qn q = n := ⟨_, rfl⟩
  obtain ⟨n2, e2⟩ : ∃ n, qd q = n := ⟨_, rfl⟩
  obtain ⟨n3, e3⟩ : ∃ n, qn r = n := ⟨_, rfl⟩
  obtain ⟨n4, e4⟩ : ∃ n, qd r = n := ⟨_, rfl⟩
  obtain ⟨g, f1⟩ : ∃ g, Nat.gcd n2 n4 = g := ⟨_, rfl⟩
  have hG : sumG q r = g := by unfold sumG; rw [e2, e4]; exact f1
  obtain ⟨oa, f2⟩ : ∃ u, n2 / g = u := ⟨_, rfl⟩
  obtain ⟨ob, f3⟩ : ∃ u, n4 / g = u := ⟨_, rfl⟩
  obtain ⟨t1, f4⟩ : ∃ u, n1 * ob = u := ⟨_, rfl⟩
  obtain ⟨t2, f5⟩ : ∃ u, n3 * oa = u := ⟨_, rfl⟩
  obtain ⟨⟨sg, N⟩, f6⟩ : ∃ p, sgAdd s t1 t t2 = p := ⟨_, rfl⟩
  have hN : sumN q r = (sg, N) := by unfold sumN; rw [hs, ht, e1, e2, e3, e4, hG, f2, f3, f4, f5, f6]
  obtain ⟨y, f7⟩ : ∃ y, Nat.gcd N g = y := ⟨_, rfl⟩
  have hB : sumB q r = y := by unfold sumB; rw [hN, hG]; exact f7
  rw [hN, hB] at EN
  rw [hG, hB, e2, e4, f3] at ED
  rw [hG] at p5
  rw [hB] at p6
  obtain ⟨P, f8⟩ : ∃ u, N / y = u := ⟨_, rfl⟩
  obtain ⟨z, f9⟩ : ∃ u, n2 / y = u := ⟨_, rfl⟩
  obtain ⟨M, f10⟩ : ∃ u, z * ob = u := ⟨_, rfl⟩
  rw [show ((sg, N).2 / y) = N / y from rfl, f8] at EN
  rw [f9, f10] at ED
  rw [hN, EN, dec_ln] at ES
  have ES := hide (show qs (q + r) = (sg && decide (0 < ln P)) from ES)
  have EN := hide EN
  have ED := hide ED
  rw [e1] at sA h1; rw [e2] at sB h2 p2; rw [e3] at sC h3; rw [e4] at sD h4 p4
  rw [hs, ht, e1, e2, e3, e4]
  have l1 : ln g ≤ 2000 := Nat.le_trans (ln_mono (by rw [← f1]; exact Nat.gcd_le_left _ p2)) h2
  have l2 : ln oa ≤ 2000 := Nat.le_trans (by rw [← f2]; exact ln_div _ _) h2
  have l3 : ln ob ≤ 2000 := Nat.le_trans (by rw [← f3]; exact ln_div _ _) h4
  have l4 : ln t1 ≤ 4000 := by have := ln_mul n1 ob; rw [f4] at this; omega
  have l5 : ln t2 ≤ 4000 := by have := ln_mul n3 oa; rw [f5] at this; omega
  have l6 : ln N ≤ 4001 := by
    have h := sgAdd_le s t1 t t2
    rw [f6] at h
    exact Nat.le_trans (ln_mono h) (ln_add t1 t2 4000 l4 l5)
  have l7 : ln y ≤ 2000 := Nat.le_trans (ln_mono (by rw [← f7]; exact Nat.gcd_le_right _ p5)) l1
  have l8 : ln P ≤ 4001 := Nat.le_trans (by rw [← f8]; exact ln_div _ _) l6
  have l9 : ln z ≤ 2000 := Nat.le_trans (by rw [← f9]; exact ln_div _ _) h2
  clear hs ht e1 e2 e3 e4 hG hN hB
  have G1 := hide (fun W (k : Below w.heap.size w W) => gcd_z B D b d n2 n4 g W (kp' k sB) (kp' k sD) (by omega) (by omega) f1)
  have U1 := hide (fun l G e W (k : Kl w (w.heap.size + 1 + 1) l W) (h : (G, g) ∈ l) => without_z B G b e n2 g oa W (k.old sB) (k.sl h) (by omega) (by omega) p5 f2)
  have U2 := hide (fun l G e W (k : Kl w (w.heap.size + 1 + 1) l W) (h : (G, g) ∈ l) => without_z D G d e n4 g ob W (k.old sD) (k.sl h) (by omega) (by omega) p5 f3)
  have T1 := hide (fun l G e W (k : Kl w (w.heap.size + 1 + 1) l W) (h : (G, ob) ∈ l) => times_z A G a e n1 ob t1 W (k.old sA) (k.sl h) (by omega) (by omega) f4)
  have T2 := hide (fun l G e W (k : Kl w (w.heap.size + 1 + 1) l W) (h : (G, oa) ∈ l) => times_z C G c e n3 oa t2 W (k.old sC) (k.sl h) (by omega) (by omega) f5)
  have SS := hide (fun X Y e f W (sx : Sl W X (digs t1)) (sy : Sl W Y (digs t2)) => signedSum_z s t X Y e f t1 t2 N sg W sx sy (by omega) (by omega) f6)
  have G2 := hide (fun X Y e f W (sx : Sl W X (digs N)) (sy : Sl W Y (digs g)) => gcd_z X Y e f N g y W sx sy (by omega) (by omega) f7)
  have U3 := hide (fun X Y e f W (sx : Sl W X (digs N)) (sy : Sl W Y (digs y)) => without_z X Y e f N y P W sx sy (by omega) (by omega) p6 f8)
  have U4 := hide (fun l G e W (k : Kl w (w.heap.size + 1 + 1) l W) (h : (G, y) ∈ l) => without_z B G b e n2 y z W (k.old sB) (k.sl h) (by omega) (by omega) p6 f9)
  have T3 := hide (fun X Y e f W (sx : Sl W X (digs z)) (sy : Sl W Y (digs ob)) => times_z X Y e f z ob M W sx sy (by omega) (by omega) f10)
  have SG := hide (fun X Y e f W => signed_q sg X Y (ln P) e (ln M) f W (by omega))
  clear sA sB sC sD h1 h2 h3 h4 f1 f2 f3 f4 f5 f6 f7 f8 f9 f10 p2 p4 p5 p6 l1 l2 l3 l4 l5 l6 l7 l8 l9
  generalize ln n1 = i1 at *
  generalize ln n2 = i2 at *
  generalize ln n3 = i3 at *
  generalize ln n4 = i4 at *
  have X1 := hide (((Q3.new (.bool s) (.slice A i1 a) (.slice B i2 b) w).al (.cells #[.bool t, .slice C i3 c, .slice D i4 d] 28)).al (.cells #[.bool false, .slice none 0 0, .slice none 0 0] 28))
  have X2 := hide ((Q3.new1 (.bool t) (.slice C i3 c) (.slice D i4 d) w (.cells #[.bool s, .slice A i1 a, .slice B i2 b] 28)).al (.cells #[.bool false, .slice none 0 0, .slice none 0 0] 28))
  have X3 := hide (Q3.new2 (.bool false) (.slice none 0 0) (.slice none 0 0) w (.cells #[.bool s, .slice A i1 a, .slice B i2 b] 28) (.cells #[.bool t, .slice C i3 c, .slice D i4 d] 28))
  have b0 : Below w.heap.size w (((w.alloc (.cells #[.bool s, .slice A i1 a, .slice B i2 b] 28)).alloc (.cells #[.bool t, .slice C i3 c, .slice D i4 d] 28)).alloc (.cells #[.bool false, .slice none 0 0, .slice none 0 0] 28)) := bl_al (bl_al (bl_al (.refl _ _) _) _) _
  go_enter Tryz.func155, Tryz.ntmps155
  go_wp2_with (go_at_call 100; (with_reducible refine (G1.out _ b0).mono ?_); rintro e w1 ⟨A1, c1, rfl, s1, hb⟩; have X1 := hide (X1.out.next hb); have X2 := hide (X2.out.next hb); have X3 := hide (X3.out.next hb); have b1 := bl_trans b0 hb; clear hb)
  have kk := hide ((Kl.start b1 X3.out).more s1)
  go_region_held3 (fun W => W.cell? ⟨w.heap.size, 0, none⟩ = some (.bool s) ∧ W.cell? ⟨w.heap.size, 1, none⟩ = some (.slice A i1 a) ∧ W.cell? ⟨w.heap.size, 2, none⟩ = some (.slice B i2 b) ∧ W.cell? ⟨w.heap.size + 1, 0, none⟩ = some (.bool t) ∧ W.cell? ⟨w.heap.size + 1, 1, none⟩ = some (.slice C i3 c) ∧ W.cell? ⟨w.heap.size + 1, 2, none⟩ = some (.slice D i4 d) ∧ Kl w (w.heap.size + 1 + 1) [(A1, g)] W)
    (first | exact S6_next hb (by assumption) | assumption | exact ⟨X1.out.1, X1.out.2.1, X1.out.2.2.1, X2.out.1, X2.out.2.1, X2.out.2.2.1, kk.out.drew⟩)
    (first
      | (go_at_call 168; (with_reducible refine (U1.out _ A1 c1 _ (k6 (by assumption)) mem1).mono ?_); rintro e w2 ⟨A2, c2, rfl, s2, hb⟩)
      | (go_at_call 168; (with_reducible refine (U2.out _ A1 c1 _ (k6 (by assumption)) mem1).mono ?_); rintro e w3 ⟨A3, c3, rfl, s3, hb⟩; (try have s2 := kp' hb s2)))
  go_wp2
  go_region_held3 (fun W => W.cell? ⟨w.heap.size, 0, none⟩ = some (.bool s) ∧ W.cell? ⟨w.heap.size, 1, none⟩ = some (.slice A i1 a) ∧ W.cell? ⟨w.heap.size, 2, none⟩ = some (.slice B i2 b) ∧ W.cell? ⟨w.heap.size + 1, 0, none⟩ = some (.bool t) ∧ W.cell? ⟨w.heap.size + 1, 1, none⟩ = some (.slice C i3 c) ∧ W.cell? ⟨w.heap.size + 1, 2, none⟩ = some (.slice D i4 d) ∧ Kl w (w.heap.size + 1 + 1) [(A2, oa), (A3, ob), (A1, g)] W)
    (first | exact S6_next hb (by assumption) | assumption | exact S6_drew (S6_more (S6_more (by assumption) s3) s2))
    (first
      | (go_at_call 170; (with_reducible refine (T1.out _ A3 c3 _ (k6 (by assumption)) mem2).mono ?_); rintro e w4 ⟨A4, c4, rfl, s4, hb⟩)
      | (go_at_call 170; (with_reducible refine (T2.out _ A2 c2 _ (k6 (by assumption)) mem1).mono ?_); rintro e w5 ⟨A5, c5, rfl, s5, hb⟩; (try have s4 := kp' hb s4))
      | (go_at_call 169; (with_reducible refine (SS.out A4 A5 c4 c5 _ s4 s5).mono ?_); rintro e w7 ⟨A7, c7, rfl, s7, hb⟩))
  have h := S6_more (by assumption) s7
  obtain ⟨x1, x2, x3, x4, x5, x6, k⟩ := h
  have kk := hide k
  have s1 : Sl _ A1 (digs g) := kk.out.2.2 _ (.tail _ (.tail _ (.tail _ (.head _))))
  clear k
  go_wp2_with (go_at_call 100; (with_reducible refine (G2.out A7 A1 c7 c1 _ s7 s1).mono ?_); rintro e w8 ⟨A8, c8, rfl, s8, hb⟩; have x1 := cell_next hb x1; have x2 := cell_next hb x2; have x3 := cell_next hb x3; have x4 := cell_next hb x4; have x5 := cell_next hb x5; have x6 := cell_next hb x6; have kk := hide ((kk.out.next hb).more s8); have s7 := kp' hb s7; clear hb)
  have kk := hide kk.out.drew
  have s9 := hide (show Sl w8.drew A3 (digs ob) from kk.out.2.2 _ (.tail _ (.tail _ (.tail _ (.head _)))))
  have s7 : Sl w8.drew A7 (digs N) := s7.drew
  go_region_held3 (fun W => W.cell? ⟨w.heap.size, 0, none⟩ = some (.bool s) ∧ W.cell? ⟨w.heap.size, 1, none⟩ = some (.slice A i1 a) ∧ W.cell? ⟨w.heap.size, 2, none⟩ = some (.slice B i2 b) ∧ W.cell? ⟨w.heap.size + 1, 0, none⟩ = some (.bool t) ∧ W.cell? ⟨w.heap.size + 1, 1, none⟩ = some (.slice C i3 c) ∧ W.cell? ⟨w.heap.size + 1, 2, none⟩ = some (.slice D i4 d))
    (first | exact ⟨x1, x2, x3, x4, x5, x6⟩ | exact S6c_next hb (by assumption) | exact S6c_over (by omega) (by omega) (by assumption) | assumption)
    (first
      | (go_at_call 168; (with_reducible refine (U3.out A7 A8 c7 c8 _ s7 (kk.out.sl mem1)).mono ?_); rintro e w10 ⟨A10, c10, rfl, s10, hb⟩; have kk := hide (kk.out.next hb); have s9 := hide (kp' hb s9.out))
      | (go_at_call 168; (with_reducible refine (U4.out _ A8 c8 _ kk.out mem1).mono ?_); rintro e w11 ⟨A11, c11, rfl, s11, hb⟩; have kk := hide (kk.out.next hb); have s9 := hide (kp' hb s9.out); have s10 := kp' hb s10)
      | (go_at_call 170; (with_reducible refine (T3.out A11 A3 c11 c3 _ s11 s9.out).mono ?_); rintro e w12 ⟨A12, c12, rfl, s12, hb⟩; have kk := hide (kk.out.next hb); have s10 := kp' hb s10)
      | (go_at_call 91; (with_reducible refine (SG.out A10 A12 c10 c12 _).mono ?_); rintro e w13 ⟨rfl, hb⟩; have kk := hide (kk.out.next hb); have s10 := kp' hb s10; have s12 := kp' hb s12; have X4 := hide kk.out.2.1; obtain ⟨y1, y2, y3, y4, y5, y6⟩ := X4.out))
  all_goals
    go_wp2
    exact bodyPost_ret (v := .agg #[.bool (sg && decide (0 < ln P)), .slice A10 (ln P) c10, .slice A12 (ln M) c12]) (by simp [results, Tryz.results155, go_sem, y1, y2, y3]) rfl (RQ.mk ES.out EN.out ED.out (s10.over3 X4.out _ _ _) (s12.over3 X4.out _ _ _) (Below.over3 kk.out.1 (by omega) _ _ _))
def Kb (w W : World) : Prop := Below w.heap.size w W
theorem Kb.of {w W : World} (b : Below w.heap.size w W) : Kb w W := b
theorem S4_next {w w' : World} (hb : Below w.heap.size w w') {p1 p2 p3 p4 : Addr} {v1 v2 v3 v4 : Value} {w0 : World}
    (h : w.cell? p1 = some v1 ∧ w.cell? p2 = some v2 ∧ w.cell? p3 = some v3 ∧ w.cell? p4 = some v4 ∧ Kb w0 w) :
    w'.cell? p1 = some v1 ∧ w'.cell? p2 = some v2 ∧ w'.cell? p3 = some v3 ∧ w'.cell? p4 = some v4 ∧ Kb w0 w' := by
  obtain ⟨h1, h2, h3, h4, h5⟩ := h
  exact ⟨cell_next hb h1, cell_next hb h2, cell_next hb h3, cell_next hb h4, bl_trans h5 hb⟩
theorem k4 {c1 c2 c3 c4 : Prop} {w W : World} (h : c1 ∧ c2 ∧ c3 ∧ c4 ∧ Kb w W) : Below w.heap.size w W := h.2.2.2.2
theorem compare_q (q r : Rat) (A B C D : Option Addr) (a b c d : Nat) (w : World) (sA : Sl w A (digs (qn q))) (sB : Sl w B (digs (qd q))) (sC : Sl w C (digs (qn r))) (sD : Sl w D (digs (qd r))) (h1 : ln (qn q) ≤ 4000) (h2 : ln (qd q) ≤ 4000) (h3 : ln (qn r) ≤ 4000) (h4 : ln (qd r) ≤ 4000) (k : Int) (hk : cmpQ q r = k) :
    Calls Tryz.prog 172 #[.agg #[.bool (qs q), .slice A (ln (qn q)) a, .slice B (ln (qd q)) b], .agg #[.bool (qs r), .slice C (ln (qn r)) c, .slice D (ln (qd r)) d]] w fun e w' => e = .returned (.int .i64 k) ∧ Below w.heap.size w w' := by
  subst hk
  obtain ⟨n1, e1⟩ : ∃ n, qn q = n := ⟨_, rfl⟩
  obtain ⟨n2, e2⟩ : ∃ n, qd q = n := ⟨_, rfl⟩
  obtain ⟨n3, e3⟩ : ∃ n, qn r = n := ⟨_, rfl⟩
  obtain ⟨n4, e4⟩ : ∃ n, qd r = n := ⟨_, rfl⟩
  rw [e1] at sA h1; rw [e2] at sB h2; rw [e3] at sC h3; rw [e4] at sD h4
  obtain ⟨x, f1⟩ : ∃ x, n1 * n4 = x := ⟨_, rfl⟩
  obtain ⟨y, f2⟩ : ∃ x, n3 * n2 = x := ⟨_, rfl⟩
  have lx : ln x ≤ 10000 := by have := ln_mul n1 n4; rw [f1] at this; omega
  have ly : ln y ≤ 10000 := by have := ln_mul n3 n2; rw [f2] at this; omega
  have T1 := hide (fun W (k : Below w.heap.size w W) => times_z A D a d n1 n4 x W (kp' k sA) (kp' k sD) (by omega) (by omega) f1)
  have T2 := hide (fun W (k : Below w.heap.size w W) => times_z C B c b n3 n2 y W (kp' k sC) (kp' k sB) (by omega) (by omega) f2)
  cases hs : qs q with
  | true =>
    cases ht : qs r with
    | true =>
      have E := hide (show cmpQ q r = cmpN y x by rw [cmpQ_nn hs ht, e1, e2, e3, e4, f1, f2])
      rw [e1, e2, e3, e4]
      have LC := hide (fun X Y e f W (sx : Sl W X (digs y)) (sy : Sl W Y (digs x)) => lcmp_z X Y e f y x W sx sy ly lx _ rfl)
      clear sA sB sC sD h1 h2 h3 h4 hs ht e1 e2 e3 e4 f1 f2 lx ly
      generalize ln n1 = i1 at *
      generalize ln n2 = i2 at *
      generalize ln n3 = i3 at *
      generalize ln n4 = i4 at *
      generalize cmpN y x = z at *
      go_enter Tryz.func172, Tryz.ntmps172
      go_wp2
      have X1 := hide ((Q3.new (.bool true) (.slice C i3 c) (.slice D i4 d) w).al (.cells #[.bool true, .slice A i1 a, .slice B i2 b] 28))
      have X2 := hide (Q3.new1 (.bool true) (.slice A i1 a) (.slice B i2 b) w (.cells #[.bool true, .slice C i3 c, .slice D i4 d] 28))
      have b0 : Below w.heap.size w ((w.alloc (.cells #[.bool true, .slice C i3 c, .slice D i4 d] 28)).alloc (.cells #[.bool true, .slice A i1 a, .slice B i2 b] 28)) := bl_al (bl_al (.refl _ _) _) _
      go_region_held3 (fun W => W.cell? ⟨w.heap.size, 1, none⟩ = some (.slice C i3 c) ∧ W.cell? ⟨w.heap.size, 2, none⟩ = some (.slice D i4 d) ∧ W.cell? ⟨w.heap.size + 1, 1, none⟩ = some (.slice A i1 a) ∧ W.cell? ⟨w.heap.size + 1, 2, none⟩ = some (.slice B i2 b) ∧ Kb w W)
        (first | exact ⟨X1.out.2.1, X1.out.2.2.1, X2.out.2.1, X2.out.2.2.1, Kb.of b0.drew⟩ | exact S4_next hb (by assumption) | assumption)
        (first
          | (go_at_call 170; (with_reducible refine (T2.out _ (k4 (by assumption))).mono ?_); rintro e w1 ⟨A1, c1, rfl, s1, hb⟩)
          | (go_at_call 170; (with_reducible refine (T1.out _ (k4 (by assumption))).mono ?_); rintro e w2 ⟨A2, c2, rfl, s2, hb⟩; have s1 := kp' hb s1)
          | (go_at_call 123; (with_reducible refine (LC.out A1 A2 c1 c2 _ s1 s2).mono ?_); rintro e w3 ⟨rfl, hb⟩))
      go_wp2
      go_ret
      exact ⟨ret_one E.out.symm, k4 (by assumption)⟩
    | false =>
      have E := hide (cmpQ_np hs ht)
      clear T1 T2 sA sB sC sD h1 h2 h3 h4 hs ht e1 e2 e3 e4 f1 f2 lx ly
      generalize ln (qn q) = i1 at *
      generalize ln (qd q) = i2 at *
      generalize ln (qn r) = i3 at *
      generalize ln (qd r) = i4 at *
      go_enter Tryz.func172, Tryz.ntmps172
      go_wp2
      go_ret
      exact ⟨ret_one E.out.symm, bl_al (bl_al (.refl _ _) _) _⟩
  | false =>
    cases ht : qs r with
    | true =>
      have E := hide (cmpQ_pn hs ht)
      clear T1 T2 sA sB sC sD h1 h2 h3 h4 hs ht e1 e2 e3 e4 f1 f2 lx ly
      generalize ln (qn q) = i1 at *
      generalize ln (qd q) = i2 at *
      generalize ln (qn r) = i3 at *
      generalize ln (qd r) = i4 at *
      go_enter Tryz.func172, Tryz.ntmps172
      go_wp2
      go_ret
      exact ⟨ret_one E.out.symm, bl_al (bl_al (.refl _ _) _) _⟩
    | false =>
      have E := hide (show cmpQ q r = cmpN x y by rw [cmpQ_pp hs ht, e1, e2, e3, e4, f1, f2])
      rw [e1, e2, e3, e4]
      have LC := hide (fun X Y e f W (sx : Sl W X (digs x)) (sy : Sl W Y (digs y)) => lcmp_z X Y e f x y W sx sy lx ly _ rfl)
      clear sA sB sC sD h1 h2 h3 h4 hs ht e1 e2 e3 e4 f1 f2 lx ly
      generalize ln n1 = i1 at *
      generalize ln n2 = i2 at *
      generalize ln n3 = i3 at *
      generalize ln n4 = i4 at *
      generalize cmpN x y = z at *
      have X1 := hide ((Q3.new (.bool false) (.slice A i1 a) (.slice B i2 b) w).al (.cells #[.bool false, .slice C i3 c, .slice D i4 d] 28))
      have X2 := hide (Q3.new1 (.bool false) (.slice C i3 c) (.slice D i4 d) w (.cells #[.bool false, .slice A i1 a, .slice B i2 b] 28))
      have b0 : Below w.heap.size w ((w.alloc (.cells #[.bool false, .slice A i1 a, .slice B i2 b] 28)).alloc (.cells #[.bool false, .slice C i3 c, .slice D i4 d] 28)) := bl_al (bl_al (.refl _ _) _) _
      go_enter Tryz.func172, Tryz.ntmps172
      go_wp2
      go_region_held3 (fun W => W.cell? ⟨w.heap.size, 1, none⟩ = some (.slice A i1 a) ∧ W.cell? ⟨w.heap.size, 2, none⟩ = some (.slice B i2 b) ∧ W.cell? ⟨w.heap.size + 1, 1, none⟩ = some (.slice C i3 c) ∧ W.cell? ⟨w.heap.size + 1, 2, none⟩ = some (.slice D i4 d) ∧ Kb w W)
        (first | exact ⟨X1.out.2.1, X1.out.2.2.1, X2.out.2.1, X2.out.2.2.1, Kb.of b0.drew⟩ | exact S4_next hb (by assumption) | assumption)
        (first
          | (go_at_call 170; (with_reducible refine (T1.out _ (k4 (by assumption))).mono ?_); rintro e w1 ⟨A1, c1, rfl, s1, hb⟩)
          | (go_at_call 170; (with_reducible refine (T2.out _ (k4 (by assumption))).mono ?_); rintro e w2 ⟨A2, c2, rfl, s2, hb⟩; have s1 := kp' hb s1)
          | (go_at_call 123; (with_reducible refine (LC.out A1 A2 c1 c2 _ s1 s2).mono ?_); rintro e w3 ⟨rfl, hb⟩))
      go_wp2
      go_ret
      exact ⟨ret_one E.out.symm, k4 (by assumption)⟩
theorem Kl.b {w W : World} {g : Nat} {l : List (Option Addr × Nat)} (k : Kl w g l W) : Below w.heap.size w W := k.1
def fitq (q : Rat) : Prop := ln (qn q) ≤ 64 ∧ ln (qd q) ≤ 64
theorem fitq_neg {q : Rat} (h : fitq q) : fitq (-q) := ⟨by rw [qn_neg]; exact h.1, h.2⟩
theorem cmp_q (q r : Rat) (A B C D : Option Addr) (a b c d : Nat) (w : World) (sA : Sl w A (digs (qn q))) (sB : Sl w B (digs (qd q))) (sC : Sl w C (digs (qn r))) (sD : Sl w D (digs (qd r))) (f1 : fitq q) (f2 : fitq r) (k : Int) (hk : cmpQ q r = k) :
    Calls Tryz.prog 159 #[.agg #[.bool (qs q), .slice A (ln (qn q)) a, .slice B (ln (qd q)) b], .agg #[.bool (qs r), .slice C (ln (qn r)) c, .slice D (ln (qd r)) d]] w fun e w' => e = .returned (.int .i64 k) ∧ Below w.heap.size w w' := by
  have V1 := hide (fun W (k : Below w.heap.size w W) => valid_q q A B a b W (kp' k sA) (kp' k sB) f1.1 f1.2)
  have V2 := hide (fun W (k : Below w.heap.size w W) => valid_q r C D c d W (kp' k sC) (kp' k sD) f2.1 f2.2)
  have OP := hide (fun W (k' : Below w.heap.size w W) => compare_q q r A B C D a b c d W (kp' k' sA) (kp' k' sB) (kp' k' sC) (kp' k' sD) (Nat.le_trans f1.1 (by decide)) (Nat.le_trans f1.2 (by decide)) (Nat.le_trans f2.1 (by decide)) (Nat.le_trans f2.2 (by decide)) k hk)
  clear sA sB sC sD f1 f2 hk
  generalize qs q = s at *
  generalize qs r = t at *
  generalize ln (qn q) = i1 at *
  generalize ln (qd q) = i2 at *
  generalize ln (qn r) = i3 at *
  generalize ln (qd r) = i4 at *
  have X1 := hide ((Q3.new (.bool s) (.slice A i1 a) (.slice B i2 b) w).al (.cells #[.bool t, .slice C i3 c, .slice D i4 d] 28))
  have X2 := hide (Q3.new1 (.bool t) (.slice C i3 c) (.slice D i4 d) w (.cells #[.bool s, .slice A i1 a, .slice B i2 b] 28))
  have b0 : Below w.heap.size w ((w.alloc (.cells #[.bool s, .slice A i1 a, .slice B i2 b] 28)).alloc (.cells #[.bool t, .slice C i3 c, .slice D i4 d] 28)) := bl_al (bl_al (.refl _ _) _) _
  go_enter Tryz.func159, Tryz.ntmps159
  go_wp2_with (first
    | (go_at_call 75; (with_reducible refine (V1.out _ b0).mono ?_); rintro e w1 ⟨rfl, hb⟩; have X1 := hide (X1.out.next hb); have X2 := hide (X2.out.next hb); (try clear x1 x2 x3 x4 x5 x6 y1 y2 y3 y4 y5 y6); obtain ⟨x1, x2, x3, x4, x5, x6⟩ := X1.out; obtain ⟨y1, y2, y3, y4, y5, y6⟩ := X2.out; have b1 := bl_trans b0 hb; clear hb)
    | (go_at_call 75; (with_reducible refine (V2.out _ b1).mono ?_); rintro e w2 ⟨rfl, hb⟩; have X1 := hide (X1.out.next hb); have X2 := hide (X2.out.next hb); (try clear x1 x2 x3 x4 x5 x6 y1 y2 y3 y4 y5 y6); obtain ⟨x1, x2, x3, x4, x5, x6⟩ := X1.out; obtain ⟨y1, y2, y3, y4, y5, y6⟩ := X2.out; have b2 := bl_trans b1 hb; clear hb)
    | (go_at_call 172; (with_reducible refine (OP.out _ b2).mono ?_); rintro e w3 ⟨rfl, hb⟩; have b3 := bl_trans b2 hb; clear hb))
  go_ret
  exact ⟨rfl, b3⟩
theorem add_q (q r Z : Rat) (hZ : q + r = Z) (A B C D : Option Addr) (a b c d : Nat) (w : World) (sA : Sl w A (digs (qn q))) (sB : Sl w B (digs (qd q))) (sC : Sl w C (digs (qn r))) (sD : Sl w D (digs (qd r))) (f1 : fitq q) (f2 : fitq r) (f3 : fitq Z) :
    Calls Tryz.prog 156 #[.agg #[.bool (qs q), .slice A (ln (qn q)) a, .slice B (ln (qd q)) b], .agg #[.bool (qs r), .slice C (ln (qn r)) c, .slice D (ln (qd r)) d]] w (RQE w Z) := by
  have V1 := hide (fun W (k : Below w.heap.size w W) => valid_q q A B a b W (kp' k sA) (kp' k sB) f1.1 f1.2)
  have V2 := hide (fun W (k : Below w.heap.size w W) => valid_q r C D c d W (kp' k sC) (kp' k sD) f2.1 f2.2)
  have OP := hide (fun W (k : Below w.heap.size w W) => sum_q q r A B C D a b c d W (kp' k sA) (kp' k sB) (kp' k sC) (kp' k sD) (Nat.le_trans f1.1 (by decide)) (Nat.le_trans f1.2 (by decide)) (Nat.le_trans f2.1 (by decide)) (Nat.le_trans f2.2 (by decide)))
  rw [hZ] at OP
  have BD := hide (fun X Y e f W => bounded_ok (qs Z) X Y (ln (qn Z)) e (ln (qd Z)) f W f3.1 f3.2)
  clear sA sB sC sD f1 f2 f3 hZ
  generalize qs q = s at *
  generalize qs r = t at *
  generalize ln (qn q) = i1 at *
  generalize ln (qd q) = i2 at *
  generalize ln (qn r) = i3 at *
  generalize ln (qd r) = i4 at *
  have X1 := hide (((Q3.new (.bool s) (.slice A i1 a) (.slice B i2 b) w).al (.cells #[.bool t, .slice C i3 c, .slice D i4 d] 28)).al (.cells #[.bool false, .slice none 0 0, .slice none 0 0] 28))
  have X2 := hide ((Q3.new1 (.bool t) (.slice C i3 c) (.slice D i4 d) w (.cells #[.bool s, .slice A i1 a, .slice B i2 b] 28)).al (.cells #[.bool false, .slice none 0 0, .slice none 0 0] 28))
  have X3 := hide (Q3.new2 (.bool false) (.slice none 0 0) (.slice none 0 0) w (.cells #[.bool s, .slice A i1 a, .slice B i2 b] 28) (.cells #[.bool t, .slice C i3 c, .slice D i4 d] 28))
  have b0 : Below w.heap.size w (((w.alloc (.cells #[.bool s, .slice A i1 a, .slice B i2 b] 28)).alloc (.cells #[.bool t, .slice C i3 c, .slice D i4 d] 28)).alloc (.cells #[.bool false, .slice none 0 0, .slice none 0 0] 28)) := bl_al (bl_al (bl_al (.refl _ _) _) _) _
  go_enter Tryz.func156, Tryz.ntmps156
  go_wp2_with (first
    | (go_at_call 75; (with_reducible refine (V1.out _ b0).mono ?_); rintro e w1 ⟨rfl, hb⟩; have X1 := hide (X1.out.next hb); have X2 := hide (X2.out.next hb); have X3 := hide (X3.out.next hb); (try clear x1 x2 x3 x4 x5 x6 y1 y2 y3 y4 y5 y6); obtain ⟨x1, x2, x3, x4, x5, x6⟩ := X1.out; obtain ⟨y1, y2, y3, y4, y5, y6⟩ := X2.out; have b1 := bl_trans b0 hb; clear hb)
    | (go_at_call 75; (with_reducible refine (V2.out _ b1).mono ?_); rintro e w2 ⟨rfl, hb⟩; have X1 := hide (X1.out.next hb); have X2 := hide (X2.out.next hb); have X3 := hide (X3.out.next hb); (try clear x1 x2 x3 x4 x5 x6 y1 y2 y3 y4 y5 y6); obtain ⟨x1, x2, x3, x4, x5, x6⟩ := X1.out; obtain ⟨y1, y2, y3, y4, y5, y6⟩ := X2.out; have b2 := bl_trans b1 hb; clear hb)
    | (go_at_call 155; (with_reducible refine (OP.out _ b2).mono ?_); rintro e w3 ⟨A3, c3, B3, d3, rfl, s3, t3, hb⟩; have X3 := hide (X3.out.next hb); have b3 := bl_trans b2 hb; clear hb)
    | (go_at_call 154; (with_reducible refine (BD.out A3 B3 c3 d3 _).mono ?_); rintro e w4 ⟨rfl, hb⟩; have X3 := hide (X3.out.next hb); obtain ⟨z1, z2, z3, z4, z5, z6⟩ := X3.out; have b4 := bl_trans b3 hb; have s3 := kp' hb s3; have t3 := kp' hb t3; clear hb))
  exact bodyPost_ret (v := .tuple #[.agg #[.bool (qs Z), .slice A3 (ln (qn Z)) c3, .slice B3 (ln (qd Z)) d3], .int .i64 0]) (by simp [results, Tryz.results156, go_sem, z1, z2, z3]) rfl (RQE.mk rfl rfl rfl (s3.over3 X3.out _ _ _) (t3.over3 X3.out _ _ _) (Below.over3 b4 (by omega) _ _ _))
theorem mul_q (q r Z : Rat) (hZ : q * r = Z) (A B C D : Option Addr) (a b c d : Nat) (w : World) (sA : Sl w A (digs (qn q))) (sB : Sl w B (digs (qd q))) (sC : Sl w C (digs (qn r))) (sD : Sl w D (digs (qd r))) (f1 : fitq q) (f2 : fitq r) (f3 : fitq Z) :
    Calls Tryz.prog 157 #[.agg #[.bool (qs q), .slice A (ln (qn q)) a, .slice B (ln (qd q)) b], .agg #[.bool (qs r), .slice C (ln (qn r)) c, .slice D (ln (qd r)) d]] w (RQE w Z) := by
  have V1 := hide (fun W (k : Below w.heap.size w W) => valid_q q A B a b W (kp' k sA) (kp' k sB) f1.1 f1.2)
  have V2 := hide (fun W (k : Below w.heap.size w W) => valid_q r C D c d W (kp' k sC) (kp' k sD) f2.1 f2.2)
  have OP := hide (fun W (k : Below w.heap.size w W) => product_q q r A B C D a b c d W (kp' k sA) (kp' k sB) (kp' k sC) (kp' k sD) (Nat.le_trans f1.1 (by decide)) (Nat.le_trans f1.2 (by decide)) (Nat.le_trans f2.1 (by decide)) (Nat.le_trans f2.2 (by decide)))
  rw [hZ] at OP
  have BD := hide (fun X Y e f W => bounded_ok (qs Z) X Y (ln (qn Z)) e (ln (qd Z)) f W f3.1 f3.2)
  clear sA sB sC sD f1 f2 f3 hZ
  generalize qs q = s at *
  generalize qs r = t at *
  generalize ln (qn q) = i1 at *
  generalize ln (qd q) = i2 at *
  generalize ln (qn r) = i3 at *
  generalize ln (qd r) = i4 at *
  have X1 := hide (((Q3.new (.bool s) (.slice A i1 a) (.slice B i2 b) w).al (.cells #[.bool t, .slice C i3 c, .slice D i4 d] 28)).al (.cells #[.bool false, .slice none 0 0, .slice none 0 0] 28))
  have X2 := hide ((Q3.new1 (.bool t) (.slice C i3 c) (.slice D i4 d) w (.cells #[.bool s, .slice A i1 a, .slice B i2 b] 28)).al (.cells #[.bool false, .slice none 0 0, .slice none 0 0] 28))
  have X3 := hide (Q3.new2 (.bool false) (.slice none 0 0) (.slice none 0 0) w (.cells #[.bool s, .slice A i1 a, .slice B i2 b] 28) (.cells #[.bool t, .slice C i3 c, .slice D i4 d] 28))
  have b0 : Below w.heap.size w (((w.alloc (.cells #[.bool s, .slice A i1 a, .slice B i2 b] 28)).alloc (.cells #[.bool t, .slice C i3 c, .slice D i4 d] 28)).alloc (.cells #[.bool false, .slice none 0 0, .slice none 0 0] 28)) := bl_al (bl_al (bl_al (.refl _ _) _) _) _
  go_enter Tryz.func157, Tryz.ntmps157
  go_wp2_with (first
    | (go_at_call 75; (with_reducible refine (V1.out _ b0).mono ?_); rintro e w1 ⟨rfl, hb⟩; have X1 := hide (X1.out.next hb); have X2 := hide (X2.out.next hb); have X3 := hide (X3.out.next hb); (try clear x1 x2 x3 x4 x5 x6 y1 y2 y3 y4 y5 y6); obtain ⟨x1, x2, x3, x4, x5, x6⟩ := X1.out; obtain ⟨y1, y2, y3, y4, y5, y6⟩ := X2.out; have b1 := bl_trans b0 hb; clear hb)
    | (go_at_call 75; (with_reducible refine (V2.out _ b1).mono ?_); rintro e w2 ⟨rfl, hb⟩; have X1 := hide (X1.out.next hb); have X2 := hide (X2.out.next hb); have X3 := hide (X3.out.next hb); (try clear x1 x2 x3 x4 x5 x6 y1 y2 y3 y4 y5 y6); obtain ⟨x1, x2, x3, x4, x5, x6⟩ := X1.out; obtain ⟨y1, y2, y3, y4, y5, y6⟩ := X2.out; have b2 := bl_trans b1 hb; clear hb)
    | (go_at_call 171; (with_reducible refine (OP.out _ b2).mono ?_); rintro e w3 ⟨A3, c3, B3, d3, rfl, s3, t3, hb⟩; have X3 := hide (X3.out.next hb); have b3 := bl_trans b2 hb; clear hb)
    | (go_at_call 154; (with_reducible refine (BD.out A3 B3 c3 d3 _).mono ?_); rintro e w4 ⟨rfl, hb⟩; have X3 := hide (X3.out.next hb); obtain ⟨z1, z2, z3, z4, z5, z6⟩ := X3.out; have b4 := bl_trans b3 hb; have s3 := kp' hb s3; have t3 := kp' hb t3; clear hb))
  exact bodyPost_ret (v := .tuple #[.agg #[.bool (qs Z), .slice A3 (ln (qn Z)) c3, .slice B3 (ln (qd Z)) d3], .int .i64 0]) (by simp [results, Tryz.results157, go_sem, z1, z2, z3]) rfl (RQE.mk rfl rfl rfl (s3.over3 X3.out _ _ _) (t3.over3 X3.out _ _ _) (Below.over3 b4 (by omega) _ _ _))
theorem sub_q (q r Z : Rat) (hZ : q - r = Z) (A B C D : Option Addr) (a b c d : Nat) (w : World) (sA : Sl w A (digs (qn q))) (sB : Sl w B (digs (qd q))) (sC : Sl w C (digs (qn r))) (sD : Sl w D (digs (qd r))) (f1 : fitq q) (f2 : fitq r) (f3 : fitq Z) :
    Calls Tryz.prog 129 #[.agg #[.bool (qs q), .slice A (ln (qn q)) a, .slice B (ln (qd q)) b], .agg #[.bool (qs r), .slice C (ln (qn r)) c, .slice D (ln (qd r)) d]] w (RQE w Z) := by
  have V1 := hide (fun W (k : Below w.heap.size w W) => valid_q q A B a b W (kp' k sA) (kp' k sB) f1.1 f1.2)
  have V2 := hide (fun W (k : Below w.heap.size w W) => valid_q r C D c d W (kp' k sC) (kp' k sD) f2.1 f2.2)
  have hZ : q + -r = Z := by rw [← Rat.sub_eq_add_neg]; exact hZ
  obtain ⟨tn, ht⟩ : ∃ z, qs (-r) = z := ⟨_, rfl⟩
  have ET : (!qs r && decide (0 < ln (qn r))) = tn := by rw [← ht, qs_neg, ← dec_ln]
  have SG := hide (fun W => signed_q (!qs r) C D (ln (qn r)) c (ln (qd r)) d W (Nat.le_trans f2.1 (by decide)))
  rw [ET] at SG
  have OP0 := fun W (k : Below w.heap.size w W) => sum_q q (-r) A B C D a b c d W (kp' k sA) (kp' k sB) (by rw [qn_neg]; exact kp' k sC) (kp' k sD) (Nat.le_trans f1.1 (by decide)) (Nat.le_trans f1.2 (by decide)) (Nat.le_trans (fitq_neg f2).1 (by decide)) (Nat.le_trans (fitq_neg f2).2 (by decide))
  rw [qn_neg, qd_neg, ht] at OP0
  have OP := hide OP0
  clear OP0 ET ht
  rw [hZ] at OP
  have BD := hide (fun X Y e f W => bounded_ok (qs Z) X Y (ln (qn Z)) e (ln (qd Z)) f W f3.1 f3.2)
  clear sA sB sC sD f1 f2 f3 hZ
  generalize qs q = s at *
  generalize qs r = t at *
  generalize ln (qn q) = i1 at *
  generalize ln (qd q) = i2 at *
  generalize ln (qn r) = i3 at *
  generalize ln (qd r) = i4 at *
  have X1 := hide (((Q3.new (.bool s) (.slice A i1 a) (.slice B i2 b) w).al (.cells #[.bool t, .slice C i3 c, .slice D i4 d] 28)).al (.cells #[.bool false, .slice none 0 0, .slice none 0 0] 28))
  have X2 := hide ((Q3.new1 (.bool t) (.slice C i3 c) (.slice D i4 d) w (.cells #[.bool s, .slice A i1 a, .slice B i2 b] 28)).al (.cells #[.bool false, .slice none 0 0, .slice none 0 0] 28))
  have X3 := hide (Q3.new2 (.bool false) (.slice none 0 0) (.slice none 0 0) w (.cells #[.bool s, .slice A i1 a, .slice B i2 b] 28) (.cells #[.bool t, .slice C i3 c, .slice D i4 d] 28))
  have b0 : Below w.heap.size w (((w.alloc (.cells #[.bool s, .slice A i1 a, .slice B i2 b] 28)).alloc (.cells #[.bool t, .slice C i3 c, .slice D i4 d] 28)).alloc (.cells #[.bool false, .slice none 0 0, .slice none 0 0] 28)) := bl_al (bl_al (bl_al (.refl _ _) _) _) _
  go_enter Tryz.func129, Tryz.ntmps129
  go_wp2_with (first
    | (go_at_call 75; (with_reducible refine (V1.out _ b0).mono ?_); rintro e w1 ⟨rfl, hb⟩; have X1 := hide (X1.out.next hb); have X2 := hide (X2.out.next hb); have X3 := hide (X3.out.next hb); (try clear x1 x2 x3 x4 x5 x6 y1 y2 y3 y4 y5 y6); obtain ⟨x1, x2, x3, x4, x5, x6⟩ := X1.out; obtain ⟨y1, y2, y3, y4, y5, y6⟩ := X2.out; have b1 := bl_trans b0 hb; clear hb)
    | (go_at_call 75; (with_reducible refine (V2.out _ b1).mono ?_); rintro e w2 ⟨rfl, hb⟩; have X1 := hide (X1.out.next hb); have X2 := hide (X2.out.next hb); have X3 := hide (X3.out.next hb); (try clear x1 x2 x3 x4 x5 x6 y1 y2 y3 y4 y5 y6); obtain ⟨x1, x2, x3, x4, x5, x6⟩ := X1.out; obtain ⟨y1, y2, y3, y4, y5, y6⟩ := X2.out; have b2 := bl_trans b1 hb; clear hb))
  have kk := hide (Kl.start b2 X3.out).drew
  go_region_held3 (fun W => W.cell? ⟨w.heap.size, 0, none⟩ = some (.bool s) ∧ W.cell? ⟨w.heap.size, 1, none⟩ = some (.slice A i1 a) ∧ W.cell? ⟨w.heap.size, 2, none⟩ = some (.slice B i2 b) ∧ W.cell? ⟨w.heap.size + 1, 0, none⟩ = some (.bool t) ∧ W.cell? ⟨w.heap.size + 1, 1, none⟩ = some (.slice C i3 c) ∧ W.cell? ⟨w.heap.size + 1, 2, none⟩ = some (.slice D i4 d))
    (first | exact ⟨x1, x2, x3, y1, y2, y3⟩ | exact S6c_next hb (by assumption) | exact S6c_over (by omega) (by omega) (by assumption) | assumption)
    (first
      | (go_at_call 91; (with_reducible refine (SG.out _).mono ?_); rintro e w3 ⟨rfl, hb⟩; have kk := hide (kk.out.next hb))
      | (go_at_call 155; (with_reducible refine (OP.out _ kk.out.b).mono ?_); rintro e w4 ⟨A3, c3, B3, d3, rfl, s3, t3, hb⟩; have kk := hide (kk.out.next hb))
      | (go_at_call 154; (with_reducible refine (BD.out A3 B3 c3 d3 _).mono ?_); rintro e w5 ⟨rfl, hb⟩; have kk := hide (kk.out.next hb); have s3 := kp' hb s3; have t3 := kp' hb t3; have X4 := hide kk.out.2.1; obtain ⟨z1, z2, z3, z4, z5, z6⟩ := X4.out))
  all_goals
    go_wp2
    exact bodyPost_ret (v := .tuple #[.agg #[.bool (qs Z), .slice A3 (ln (qn Z)) c3, .slice B3 (ln (qd Z)) d3], .int .i64 0]) (by simp [results, Tryz.results129, go_sem, z1, z2, z3]) rfl (RQE.mk rfl rfl rfl (s3.over3 X4.out _ _ _) (t3.over3 X4.out _ _ _) (Below.over3 kk.out.b (by omega) _ _ _))
theorem quo_q (q r Z : Rat) (hZ : q / r = Z) (A B C D : Option Addr) (a b c d : Nat) (w : World) (sA : Sl w A (digs (qn q))) (sB : Sl w B (digs (qd q))) (sC : Sl w C (digs (qn r))) (sD : Sl w D (digs (qd r))) (f1 : fitq q) (f2 : fitq r) (h0 : r ≠ 0) (f3 : fitq Z) :
    Calls Tryz.prog 158 #[.agg #[.bool (qs q), .slice A (ln (qn q)) a, .slice B (ln (qd q)) b], .agg #[.bool (qs r), .slice C (ln (qn r)) c, .slice D (ln (qd r)) d]] w (RQE w Z) := by
  have V1 := hide (fun W (k : Below w.heap.size w W) => valid_q q A B a b W (kp' k sA) (kp' k sB) f1.1 f1.2)
  have V2 := hide (fun W (k : Below w.heap.size w W) => valid_q r C D c d W (kp' k sC) (kp' k sD) f2.1 f2.2)
  have hZ : q * r⁻¹ = Z := hZ
  have f2' : fitq r⁻¹ := ⟨by rw [qn_inv h0]; exact f2.2, by rw [qd_inv h0]; exact f2.1⟩
  have hl3 : 0 < ln (qn r) := ln_pos.2 (qn_pos_iff.2 h0)
  have hj : ((ln (qn r) : Int) == 0) = false := beq_eq_false_iff_ne.2 (by omega)
  have ET : (qs r && decide (0 < ln (qd r))) = qs r := by rw [decide_eq_true (ln_pos.2 (qd_pos r)), Bool.and_true]
  have SG := hide (fun W => signed_q (qs r) D C (ln (qd r)) d (ln (qn r)) c W (Nat.le_trans f2.2 (by decide)))
  rw [ET] at SG
  have OP0 := fun W (k : Below w.heap.size w W) => product_q q r⁻¹ A B D C a b d c W (kp' k sA) (kp' k sB) (by rw [qn_inv h0]; exact kp' k sD) (by rw [qd_inv h0]; exact kp' k sC) (Nat.le_trans f1.1 (by decide)) (Nat.le_trans f1.2 (by decide)) (Nat.le_trans f2'.1 (by decide)) (Nat.le_trans f2'.2 (by decide))
  rw [qn_inv h0, qd_inv h0, qs_inv h0] at OP0
  have OP := hide OP0
  clear OP0 ET hl3
  rw [hZ] at OP
  have BD := hide (fun X Y e f W => bounded_ok (qs Z) X Y (ln (qn Z)) e (ln (qd Z)) f W f3.1 f3.2)
  clear sA sB sC sD f1 f2 f3 hZ f2' h0
  generalize qs q = s at *
  generalize qs r = t at *
  generalize ln (qn q) = i1 at *
  generalize ln (qd q) = i2 at *
  generalize ln (qn r) = i3 at *
  generalize ln (qd r) = i4 at *
  have X1 := hide (((Q3.new (.bool s) (.slice A i1 a) (.slice B i2 b) w).al (.cells #[.bool t, .slice C i3 c, .slice D i4 d] 28)).al (.cells #[.bool false, .slice none 0 0, .slice none 0 0] 28))
  have X2 := hide ((Q3.new1 (.bool t) (.slice C i3 c) (.slice D i4 d) w (.cells #[.bool s, .slice A i1 a, .slice B i2 b] 28)).al (.cells #[.bool false, .slice none 0 0, .slice none 0 0] 28))
  have X3 := hide (Q3.new2 (.bool false) (.slice none 0 0) (.slice none 0 0) w (.cells #[.bool s, .slice A i1 a, .slice B i2 b] 28) (.cells #[.bool t, .slice C i3 c, .slice D i4 d] 28))
  have b0 : Below w.heap.size w (((w.alloc (.cells #[.bool s, .slice A i1 a, .slice B i2 b] 28)).alloc (.cells #[.bool t, .slice C i3 c, .slice D i4 d] 28)).alloc (.cells #[.bool false, .slice none 0 0, .slice none 0 0] 28)) := bl_al (bl_al (bl_al (.refl _ _) _) _) _
  go_enter Tryz.func158, Tryz.ntmps158
  go_wp2_with (first
    | (go_at_call 75; (with_reducible refine (V1.out _ b0).mono ?_); rintro e w1 ⟨rfl, hb⟩; have X1 := hide (X1.out.next hb); have X2 := hide (X2.out.next hb); have X3 := hide (X3.out.next hb); (try clear x1 x2 x3 x4 x5 x6 y1 y2 y3 y4 y5 y6); obtain ⟨x1, x2, x3, x4, x5, x6⟩ := X1.out; obtain ⟨y1, y2, y3, y4, y5, y6⟩ := X2.out; have b1 := bl_trans b0 hb; clear hb)
    | (go_at_call 75; (with_reducible refine (V2.out _ b1).mono ?_); rintro e w2 ⟨rfl, hb⟩; have X1 := hide (X1.out.next hb); have X2 := hide (X2.out.next hb); have X3 := hide (X3.out.next hb); (try clear x1 x2 x3 x4 x5 x6 y1 y2 y3 y4 y5 y6); obtain ⟨x1, x2, x3, x4, x5, x6⟩ := X1.out; obtain ⟨y1, y2, y3, y4, y5, y6⟩ := X2.out; have b2 := bl_trans b1 hb; clear hb))
  have kk := hide (Kl.start b2 X3.out).drew
  go_region_held3 (fun W => W.cell? ⟨w.heap.size, 0, none⟩ = some (.bool s) ∧ W.cell? ⟨w.heap.size, 1, none⟩ = some (.slice A i1 a) ∧ W.cell? ⟨w.heap.size, 2, none⟩ = some (.slice B i2 b) ∧ W.cell? ⟨w.heap.size + 1, 0, none⟩ = some (.bool t) ∧ W.cell? ⟨w.heap.size + 1, 1, none⟩ = some (.slice C i3 c) ∧ W.cell? ⟨w.heap.size + 1, 2, none⟩ = some (.slice D i4 d))
    (first | exact ⟨x1, x2, x3, y1, y2, y3⟩ | exact S6c_next hb (by assumption) | exact S6c_over (by omega) (by omega) (by assumption) | assumption)
    (first
      | (go_at_call 91; (with_reducible refine (SG.out _).mono ?_); rintro e w3 ⟨rfl, hb⟩; have kk := hide (kk.out.next hb))
      | (go_at_call 171; (with_reducible refine (OP.out _ kk.out.b).mono ?_); rintro e w4 ⟨A3, c3, B3, d3, rfl, s3, t3, hb⟩; have kk := hide (kk.out.next hb))
      | (go_at_call 154; (with_reducible refine (BD.out A3 B3 c3 d3 _).mono ?_); rintro e w5 ⟨rfl, hb⟩; have kk := hide (kk.out.next hb); have s3 := kp' hb s3; have t3 := kp' hb t3; have X4 := hide kk.out.2.1; obtain ⟨z1, z2, z3, z4, z5, z6⟩ := X4.out))
  all_goals
    go_wp2
    exact bodyPost_ret (v := .tuple #[.agg #[.bool (qs Z), .slice A3 (ln (qn Z)) c3, .slice B3 (ln (qd Z)) d3], .int .i64 0]) (by simp [results, Tryz.results158, go_sem, z1, z2, z3]) rfl (RQE.mk rfl rfl rfl (s3.over3 X4.out _ _ _) (t3.over3 X4.out _ _ _) (Below.over3 kk.out.b (by omega) _ _ _))
section
variable {w V : World} {A : Option Addr} {x : Nat}
end
section
variable {w V : World} {A B : Option Addr} {x n c m d : Nat} {bv t : Bool}
end
end
end Nt
end Go.Proofs.YthabfakbdfaciaaGreat
