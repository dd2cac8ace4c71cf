/-
  Plain mathematics: a quotient's limb, guessed from the highest limbs.
  Plain mathematics: the long division's guess, a limb of the quotient, the rows as it goes on.
-/
import Derived.Test.YtodphjnhoinpeaaGreatDoorMem
import Derived.Test.YtodphjnhoinpeaaGreatDoorLong1
import Derived.Test.YtodphjnhoinpeaaGreatDoorMathS
import Derived.Test.YtodphjnhoinpeaaGreatDoorDiv64b
namespace Go.Proofs.YtodphjnhoinpeaaGreatDoor
open Go.RowKit
namespace Nt

/-- Three limbs by two: the limb, or one more. -/
theorem guess_main {R V P r b g : Nat} (hP : 0 < P) (h1 : R * P ≤ r) (h2 : r < (R + 1) * P) (h3 : V * P ≤ b) (h4 : b < (V + 1) * P) (hV : 0 < V) (hg : g = R / V) (hgV : g ≤ V + 1) :
    r / b ≤ g ∧ g ≤ r / b + 1 := by
  have hb : 0 < b := Nat.lt_of_lt_of_le (Nat.mul_pos hV hP) h3
  constructor
  · have q1 : r / b * b ≤ r := Nat.div_mul_le_self r b
    have q2 : r / b * (V * P) ≤ r / b * b := Nat.mul_le_mul_left _ h3
    have q3 : (r / b * V) * P < (R + 1) * P := by rw [Nat.mul_assoc]; omega
    have q4 := Nat.lt_of_mul_lt_mul_right q3
    rw [hg]
    exact (Nat.le_div_iff_mul_le hV).2 (by omega)
  · rcases Nat.eq_zero_or_pos g with h0 | h0
    · rw [h0]; exact Nat.zero_le _
    · obtain ⟨k, hk⟩ : ∃ k, g = k + 1 := ⟨g - 1, by omega⟩
      have q1 : g * V ≤ R := by rw [hg]; exact Nat.div_mul_le_self R V
      have q2 : k * (V + 1) ≤ R := by
        rw [hk, Nat.add_mul, Nat.one_mul] at q1
        rw [Nat.mul_add, Nat.mul_one]
        omega
      have q3 : k * b ≤ k * ((V + 1) * P) := Nat.mul_le_mul_left _ (Nat.le_of_lt h4)
      have q4 : k * ((V + 1) * P) ≤ R * P := by rw [← Nat.mul_assoc]; exact Nat.mul_le_mul_right _ q2
      have q5 : k ≤ r / b := (Nat.le_div_iff_mul_le hb).2 (by omega)
      rw [hk]
      exact Nat.succ_le_succ q5
/-- The highest limbs are one: the greatest limb, or one less. -/
theorem guess_top {v P B' R' r b : Nat} (hb : b = v * P + B') (hB : B' < P) (hr : r = v * (LB * P) + R') (hq : r < LB * b) (hv : LB ≤ 2 * v) :
    r / b ≤ LB - 1 ∧ LB - 1 ≤ r / b + 1 := by
  have hP : 0 < P := by omega
  have hL := LB_two
  have hvp : 0 < v := by omega
  have hbp : 0 < b := by have := Nat.mul_pos hvp hP; omega
  constructor
  · have := (Nat.div_lt_iff_lt_mul hbp).2 hq
    omega
  · have e1 : LB * b = v * (LB * P) + LB * B' := by rw [hb, Nat.mul_add, Nat.mul_left_comm]
    have e2 : LB * B' ≤ LB * P := Nat.mul_le_mul_left _ (Nat.le_of_lt hB)
    have e3 : LB * P ≤ 2 * v * P := Nat.mul_le_mul_right _ hv
    have e4 : 2 * v * P ≤ 2 * b := by rw [Nat.mul_assoc]; exact Nat.mul_le_mul_left _ (by omega)
    have e5 : (LB - 2) * b + 2 * b = LB * b := by rw [← Nat.add_mul]; congr 1
    have q5 : LB - 2 ≤ r / b := (Nat.le_div_iff_mul_le hbp).2 (by omega)
    omega
/-- After so many times are taken: whether too many were, and what is left. -/
theorem take_test {M lo rn b g cs bo : Nat} (h : cs + g * b = lo + M * bo) (hcs : cs < M) : bo ≤ rn ↔ g * b ≤ lo + M * rn := by
  constructor
  · intro hle
    have := Nat.mul_le_mul_left M hle
    omega
  · intro hle
    rcases Nat.lt_or_ge rn bo with h1 | h1
    · have := Nat.mul_le_mul_left M h1
      rw [Nat.mul_succ] at this
      omega
    · exact h1
theorem take_left {M lo rn b g cs bo : Nat} (h : cs + g * b = lo + M * bo) (hcs : cs < M) (hb : b ≤ M) (hq : (lo + M * rn) / b = g) (hbp : 0 < b) : cs = (lo + M * rn) % b := by
  have e := Nat.div_add_mod (lo + M * rn) b
  rw [hq, Nat.mul_comm] at e
  have hm := Nat.mod_lt (lo + M * rn) hbp
  have h1 := (take_test h hcs (rn := rn)).2 (by omega)
  have h2 : rn ≤ bo := by
    rcases Nat.lt_or_ge bo rn with h3 | h3
    · have := Nat.mul_le_mul_left M h3
      rw [Nat.mul_succ] at this
      omega
    · exact h3
  have : rn = bo := Nat.le_antisymm h2 h1
  subst this
  omega
theorem give_left {M lo rn b q cs bo cs2 cc : Nat} (h : cs + (q + 1) * b = lo + M * bo) (_hcs : cs < M) (hb : b ≤ M) (hq : (lo + M * rn) / b = q) (hbp : 0 < b) (h2 : cs2 + M * cc = cs + b) (hcs2 : cs2 < M) : cs2 = (lo + M * rn) % b := by
  have e := Nat.div_add_mod (lo + M * rn) b
  rw [hq, Nat.mul_comm] at e
  have hm := Nat.mod_lt (lo + M * rn) hbp
  rw [Nat.add_mul, Nat.one_mul] at h
  have e2 : cs2 + M * cc + M * rn = (lo + M * rn) % b + M * bo := by omega
  have e3 : cs2 + M * (cc + rn) = (lo + M * rn) % b + M * bo := by rw [Nat.mul_add]; omega
  have m1 : (cs2 + M * (cc + rn)) % M = cs2 := by rw [Nat.add_mul_mod_self_left, Nat.mod_eq_of_lt hcs2]
  have m2 : ((lo + M * rn) % b + M * bo) % M = (lo + M * rn) % b := by rw [Nat.add_mul_mod_self_left, Nat.mod_eq_of_lt (by omega)]
  rw [← m1, e3, m2]
end Nt
end Go.Proofs.YtodphjnhoinpeaaGreatDoor
namespace Go.Proofs.YtodphjnhoinpeaaGreatDoor
open Go.RowKit
namespace Nt

/-- Three limbs by two. -/
def gF (rn r1 r2 v1 v2 : Nat) : Nat := (rn * LB * LB + r1 * LB + r2) / (v1 * LB + v2)
/-- A limb guessed so far, and what is left of the two highest limbs. -/
def Gs (rn r1 r2 v1 v2 g l : Nat) : Prop := g * v1 + l = rn * LB + r1 ∧ l < LB ∧ g < LB ∧ gF rn r1 r2 v1 v2 ≤ g

theorem Gs.start {rn r1 r2 v1 v2 : Nat} (h : rn < v1) (h1 : r1 < LB) (h2 : r2 < LB) (hv : v1 < LB) : Gs rn r1 r2 v1 v2 (dvQ rn r1 v1) (dvR rn r1 v1) := by
  have e := dv_eq rn r1 v1
  have hl := dvR_lt (lo := r1) h
  have hg := dvQ_lt h h1
  refine ⟨by rw [Nat.mul_comm]; exact e, Nat.lt_trans hl hv, hg, ?_⟩
  have hp : 0 < v1 * LB := Nat.mul_pos (by omega) LB_pos
  have q1 : gF rn r1 r2 v1 v2 ≤ (rn * LB * LB + r1 * LB + r2) / (v1 * LB) := Nat.div_le_div_left (by omega) hp
  have q2 : (rn * LB * LB + r1 * LB + r2) / (v1 * LB) = (rn * LB + r1) / v1 := by
    rw [Nat.mul_comm v1 LB, ← Nat.div_div_eq_div_mul]
    congr 1
    rw [← Nat.add_mul, Nat.add_comm, Nat.add_mul_div_right _ _ LB_pos, Nat.div_eq_of_lt h2, Nat.zero_add]
  have q3 : (rn * LB + r1) / v1 = dvQ rn r1 v1 := rfl
  omega
theorem gF_le {rn r1 r2 v1 v2 g l : Nat} (h : g * v1 + l = rn * LB + r1) (hV : 0 < v1) (hs : g * v2 ≤ l * LB + r2) : g ≤ gF rn r1 r2 v1 v2 := by
  have hp : 0 < v1 * LB + v2 := Nat.lt_of_lt_of_le (Nat.mul_pos hV LB_pos) (Nat.le_add_right _ _)
  refine (Nat.le_div_iff_mul_le hp).2 ?_
  have e : (g * v1 + l) * LB = (rn * LB + r1) * LB := by rw [h]
  rw [Nat.add_mul, Nat.add_mul] at e
  rw [Nat.mul_add, ← Nat.mul_assoc]
  omega
theorem gF_lt {rn r1 r2 v1 v2 g l : Nat} (h : g * v1 + l = rn * LB + r1) (hV : 0 < v1) (hs : l * LB + r2 < g * v2) : gF rn r1 r2 v1 v2 < g := by
  have hp : 0 < v1 * LB + v2 := Nat.lt_of_lt_of_le (Nat.mul_pos hV LB_pos) (Nat.le_add_right _ _)
  refine (Nat.div_lt_iff_lt_mul hp).2 ?_
  have e : (g * v1 + l) * LB = (rn * LB + r1) * LB := by rw [h]
  rw [Nat.add_mul, Nat.add_mul] at e
  rw [Nat.mul_add, ← Nat.mul_assoc]
  omega
theorem Gs.stop {rn r1 r2 v1 v2 g l : Nat} (h : Gs rn r1 r2 v1 v2 g l) (hV : 0 < v1) (hs : mulHi g v2 < l ∨ mulHi g v2 = l ∧ mulLo g v2 ≤ r2) : g = gF rn r1 r2 v1 v2 := by
  refine Nat.le_antisymm (gF_le h.1 hV ?_) h.2.2.2
  have e := mul_eq g v2
  have hlo := mulLo_lt g v2
  rcases hs with hs | ⟨hs, h2⟩
  · have := Nat.mul_le_mul_left LB hs
    rw [Nat.mul_succ] at this
    rw [Nat.mul_comm l LB]
    omega
  · rw [Nat.mul_comm l LB]
    rw [hs] at e
    omega
theorem Gs.far {rn r1 r2 v1 v2 g l : Nat} (h : Gs rn r1 r2 v1 v2 g l) (hV : 0 < v1) (h2 : r2 < LB) (hs : l < mulHi g v2 ∨ mulHi g v2 = l ∧ r2 < mulLo g v2) : gF rn r1 r2 v1 v2 < g := by
  refine gF_lt h.1 hV ?_
  have e := mul_eq g v2
  rcases hs with hs | ⟨hs, h3⟩
  · have := Nat.mul_le_mul_left LB hs
    rw [Nat.mul_succ] at this
    rw [Nat.mul_comm l LB]
    omega
  · rw [Nat.mul_comm l LB]
    rw [hs] at e
    omega
/-- One less: it goes on, or what is left ran over. -/
theorem Gs.step {rn r1 r2 v1 v2 g k l : Nat} (h : Gs rn r1 r2 v1 v2 g l) (hk : k + 1 = g) (hf : gF rn r1 r2 v1 v2 < g) (hc : carL l v1 0 = 0) : Gs rn r1 r2 v1 v2 k (sumL l v1 0) := by
  obtain ⟨h1, h2, h3, h4⟩ := h
  have e := sum_eq l v1 0
  rw [hc] at e
  subst hk
  rw [Nat.add_mul, Nat.one_mul] at h1
  exact ⟨by omega, sumL_lt _ _ _, by omega, by omega⟩
theorem Gs.over {rn r1 r2 v1 v2 g k l : Nat} (h : Gs rn r1 r2 v1 v2 g l) (hk : k + 1 = g) (hf : gF rn r1 r2 v1 v2 < g) (hV : 0 < v1) (hv2 : v2 < LB) (hc : carL l v1 0 ≠ 0) : k = gF rn r1 r2 v1 v2 := by
  obtain ⟨h1, h2, h3, h4⟩ := h
  have hov : LB ≤ l + v1 := by
    rcases Nat.lt_or_ge (l + v1) LB with h5 | h5
    · exact absurd (Nat.div_eq_of_lt (by omega)) hc
    · exact h5
  subst hk
  rw [Nat.add_mul, Nat.one_mul] at h1
  refine Nat.le_antisymm (gF_le (l := l + v1) (by omega) hV ?_) (by omega)
  have q1 : k * v2 ≤ LB * LB := Nat.mul_le_mul (by omega) (by omega)
  have q2 := Nat.mul_le_mul_right LB hov
  omega

/-- The guess. -/
def gsp (rn r1 r2 v1 v2 : Nat) : Nat := if rn = v1 then LB - 1 else gF rn r1 r2 v1 v2
theorem gsp_lt {rn r1 r2 v1 v2 g l : Nat} (h : Gs rn r1 r2 v1 v2 g l) : gF rn r1 r2 v1 v2 < LB := Nat.lt_of_le_of_lt h.2.2.2 h.2.2.1

theorem top3 {xs : List Nat} {m : Nat} (hx : xs.length = m + 3) : val xs = val (xs.take m) + LB ^ m * (lim xs (m + 2) * LB * LB + lim xs (m + 1) * LB + lim xs m) := by
  have e : val xs = val (xs.take (m + 3)) := by rw [List.take_of_length_le (by omega)]
  rw [e, val_take_succ, val_take_succ, val_take_succ, Nat.pow_succ, Nat.pow_succ, Nat.mul_add, Nat.mul_add]
  have a1 : LB ^ m * LB * lim xs (m + 1) = LB ^ m * (lim xs (m + 1) * LB) := by rw [Nat.mul_assoc, Nat.mul_comm LB]
  have a2 : LB ^ (m + 1) * LB * lim xs (m + 2) = LB ^ m * (lim xs (m + 2) * LB * LB) := by
    rw [Nat.pow_succ, Nat.mul_assoc, Nat.mul_assoc, Nat.mul_assoc]
    congr 1
    rw [← Nat.mul_assoc, Nat.mul_comm]
  rw [a1, a2]; omega
theorem top2 {ys : List Nat} {m : Nat} (hy : ys.length = m + 2) : val ys = val (ys.take m) + LB ^ m * (lim ys (m + 1) * LB + lim ys m) := by
  have e : val ys = val (ys.take (m + 2)) := by rw [List.take_of_length_le (by omega)]
  rw [e, val_take_succ, val_take_succ, Nat.pow_succ, Nat.mul_add]
  have a1 : LB ^ m * LB * lim ys (m + 1) = LB ^ m * (lim ys (m + 1) * LB) := by rw [Nat.mul_assoc, Nat.mul_comm LB]
  rw [a1]; omega
theorem top1 {xs : List Nat} {n : Nat} (hx : xs.length = n + 1) : val xs = val (xs.take n) + LB ^ n * lim xs n := by
  have e : val xs = val (xs.take (n + 1)) := by rw [List.take_of_length_le (by omega)]
  rw [e, val_take_succ]
theorem take_lt {xs : List Nat} (l : Limbs xs) {m : Nat} (h : m ≤ xs.length) : val (xs.take m) < LB ^ m := by
  have := val_lt (l.take m)
  rwa [List.length_take, Nat.min_eq_left h] at this

/-- The highest limb of what is divided is at most the divisor's. -/
theorem top_le {xs ys : List Nat} {n : Nat} (hx : xs.length = n + 2) (hy : ys.length = n + 1) (ly : Limbs ys) (hq : val xs < LB * val ys) : lim xs (n + 1) ≤ lim ys n := by
  have e1 := top1 hx
  have e2 := top1 hy
  have h1 := take_lt ly (m := n) (by omega)
  have h2 : LB ^ (n + 1) * lim xs (n + 1) < LB ^ (n + 1) * (lim ys n + 1) := by
    have : LB * val ys < LB ^ (n + 1) * (lim ys n + 1) := by
      rw [Nat.pow_succ, Nat.mul_comm (LB ^ n), Nat.mul_assoc]
      refine Nat.mul_lt_mul_of_pos_left ?_ LB_pos
      rw [Nat.mul_add, Nat.mul_one]; omega
    omega
  have := Nat.lt_of_mul_lt_mul_left h2
  omega
/-- The guess is the limb, or one more. -/
theorem gsp_ok {xs ys : List Nat} {m : Nat} (hx : xs.length = m + 3) (hy : ys.length = m + 2) (lx : Limbs xs) (ly : Limbs ys) (hq : val xs < LB * val ys) (hv : LB ≤ 2 * lim ys (m + 1)) :
    val xs / val ys ≤ gsp (lim xs (m + 2)) (lim xs (m + 1)) (lim xs m) (lim ys (m + 1)) (lim ys m) ∧ gsp (lim xs (m + 2)) (lim xs (m + 1)) (lim xs m) (lim ys (m + 1)) (lim ys m) ≤ val xs / val ys + 1 := by
  have hL := LB_two
  have hle : lim xs (m + 2) ≤ lim ys (m + 1) := top_le hx hy ly hq
  unfold gsp
  by_cases he : lim xs (m + 2) = lim ys (m + 1)
  · rw [if_pos he]
    have e1 := top1 (n := m + 2) hx
    have e2 := top1 (n := m + 1) hy
    rw [he] at e1
    refine guess_top (v := lim ys (m + 1)) (P := LB ^ (m + 1)) (B' := val (ys.take (m + 1))) (R' := val (xs.take (m + 2))) ?_ (take_lt ly (by omega)) ?_ hq hv
    · rw [e2, Nat.mul_comm]; omega
    · rw [e1, Nat.pow_succ LB (m + 1), Nat.mul_comm LB, Nat.mul_comm (lim ys (m + 1))]; omega
  · rw [if_neg he]
    have hlt : lim xs (m + 2) < lim ys (m + 1) := by omega
    have e1 := top3 hx
    have e2 := top2 hy
    have t1 := take_lt lx (m := m) (by omega)
    have t2 := take_lt ly (m := m) (by omega)
    have hG := gsp_lt (Gs.start (r1 := lim xs (m + 1)) (r2 := lim xs m) (v2 := lim ys m) hlt (lx.get _) (lx.get _) (ly.get _))
    have hV : LB ≤ lim ys (m + 1) * LB + lim ys m := by
      have := Nat.mul_le_mul_right LB (show 1 ≤ lim ys (m + 1) by omega)
      omega
    generalize hR : lim xs (m + 2) * LB * LB + lim xs (m + 1) * LB + lim xs m = R at *
    generalize hW : lim ys (m + 1) * LB + lim ys m = V at *
    have hg : gF (lim xs (m + 2)) (lim xs (m + 1)) (lim xs m) (lim ys (m + 1)) (lim ys m) = R / V := by unfold gF; rw [hR, hW]
    rw [hg] at hG ⊢
    refine guess_main (P := LB ^ m) (R := R) (V := V) (LB_pow_pos m) ?_ ?_ ?_ ?_ (by omega) rfl (by omega)
    · rw [e1, Nat.mul_comm]; omega
    · rw [e1, Nat.mul_comm, Nat.add_mul, Nat.one_mul]; omega
    · rw [e2, Nat.mul_comm]; omega
    · rw [e2, Nat.mul_comm, Nat.add_mul, Nat.one_mul]; omega
/-- Nothing was taken too often. -/
theorem next_same {xs ys cs : List Nat} {n g bo : Nat} (hx : xs.length = n + 1) (hy : ys.length = n) (ly : Limbs ys) (hb : 0 < val ys) (ti : TakeInv (xs.take n) ys g n bo cs) (h2 : g ≤ val xs / val ys + 1) (hg : val xs / val ys ≤ g) (hle : bo ≤ lim xs n) : g = val xs / val ys ∧ val cs = val xs % val ys := by
  obtain ⟨c1, c2, c3, c4⟩ := ti
  rw [List.take_of_length_le (show ys.length ≤ n by omega), List.take_take, Nat.min_self] at c4
  have hcs := val_lt c2
  rw [c1] at hcs
  have e1 := top1 hx
  have hyl := val_lt ly
  rw [hy] at hyl
  have hq : g * val ys ≤ val xs := by rw [e1]; exact (take_test c4 hcs).1 hle
  have h3 : g ≤ val xs / val ys := (Nat.le_div_iff_mul_le hb).2 hq
  have h4 : val xs / val ys = g := by omega
  refine ⟨h4.symm, ?_⟩
  rw [e1] at h4 ⊢
  exact take_left c4 hcs (by omega) h4 hb
/-- It was taken once too often. -/
theorem next_back {xs ys cs cs2 : List Nat} {n g k bo cc : Nat} (hx : xs.length = n + 1) (hy : ys.length = n) (ly : Limbs ys) (hb : 0 < val ys) (ti : TakeInv (xs.take n) ys g n bo cs) (h2 : g ≤ val xs / val ys + 1) (hk : k + 1 = g) (hlt : lim xs n < bo) (ai : AddInv cs ys n cc cs2) : k = val xs / val ys ∧ val cs2 = val xs % val ys := by
  obtain ⟨c1, c2, c3, c4⟩ := ti
  obtain ⟨d1, d2, d3, d4⟩ := ai
  rw [List.take_of_length_le (show ys.length ≤ n by omega), List.take_take, Nat.min_self] at c4
  rw [List.take_of_length_le (show ys.length ≤ n by omega), List.take_of_length_le (show cs.length ≤ n by omega)] at d4
  have hcs := val_lt c2
  have hcs2 := val_lt d2
  rw [c1] at hcs
  rw [d1] at hcs2
  have e1 := top1 hx
  have hyl := val_lt ly
  rw [hy] at hyl
  have hn : ¬ g * val ys ≤ val xs := by
    rw [e1]
    intro h
    have := (take_test c4 hcs).2 h
    omega
  have h3 : val xs / val ys < g := (Nat.div_lt_iff_lt_mul hb).2 (by omega)
  have h4 : val xs / val ys = k := by omega
  refine ⟨h4.symm, ?_⟩
  subst hk
  rw [e1] at h4 ⊢
  exact give_left c4 hcs (by omega) h4 hb d4 hcs2
theorem next_pos {xs ys cs : List Nat} {n g bo : Nat} (ti : TakeInv (xs.take n) ys g n bo cs) (hlt : lim xs n < bo) : ∃ k, k + 1 = g := ⟨g - 1, by have := ti.2.2.1; omega⟩

/-- Divided down to limb k: quotient row 'qs', rest row 'rs'. -/
def LongInv (az ys : List Nat) (n N k : Nat) (qs rs : List Nat) : Prop :=
  qs.length = N ∧ rs.length = N + n ∧ Limbs qs ∧ Limbs rs ∧ rs.take k = az.take k ∧ val ((rs.drop k).take n) < val ys ∧ val (qs.drop k) * val ys + val ((rs.drop k).take n) = val (az.drop k)
theorem LongInv.start {az ys : List Nat} {n N : Nat} (ha : az.length = N + n) (la : Limbs az) (h : val (az.drop N) < val ys) : LongInv az ys n N N (List.replicate N 0) az := by
  have e : (az.drop N).take n = az.drop N := List.take_of_length_le (by rw [List.length_drop]; omega)
  refine ⟨by simp, ha, .replicate _, la, rfl, by rw [e]; exact h, ?_⟩
  rw [e, List.drop_of_length_le (by simp)]
  simp
/-- The limbs that the next step looks at. -/
def win (rs : List Nat) (k n : Nat) : List Nat := (rs.drop k).take (n + 1)
theorem win_len {az ys qs rs : List Nat} {n N k : Nat} (h : LongInv az ys n N (k + 1) qs rs) (hk : k < N) : (win rs k n).length = n + 1 := by
  unfold win; rw [List.length_take, List.length_drop, h.2.1]; omega
theorem win_val {az ys qs rs : List Nat} {n N k : Nat} (h : LongInv az ys n N (k + 1) qs rs) (hk : k < N) : win rs k n = lim rs k :: (rs.drop (k + 1)).take n := by
  unfold win; rw [drop_cons_lim (by rw [h.2.1]; omega), List.take_succ_cons]
theorem win_lt {az ys qs rs : List Nat} {n N k : Nat} (h : LongInv az ys n N (k + 1) qs rs) (hk : k < N) : val (win rs k n) < LB * val ys := by
  rw [win_val h hk, val_cons]
  have h1 := h.2.2.2.1.get k
  have h2 := Nat.mul_le_mul_left LB h.2.2.2.2.2.1
  rw [Nat.mul_succ] at h2
  omega
theorem LongInv.step {az ys qs rs cs : List Nat} {n N k q : Nat} (h : LongInv az ys n N (k + 1) qs rs) (hk : k < N) (hb : 0 < val ys) (hc : cs.length = n) (lc : Limbs cs) (hv : val cs = val (win rs k n) % val ys) (hq : q = val (win rs k n) / val ys) (ha : az.length = N + n) :
    LongInv az ys n N k (qs.set k q) (rs.take k ++ cs ++ rs.drop (k + n)) := by
  have hw := win_val h hk
  have hlt := win_lt h hk
  obtain ⟨h1, h2, h3, h4, h5, h6, h7⟩ := h
  have hql : q < LB := by rw [hq]; exact (Nat.div_lt_iff_lt_mul hb).2 hlt
  have ht : (rs.take k).length = k := by rw [List.length_take]; omega
  have ed : (rs.take k ++ cs ++ rs.drop (k + n)).drop k = cs ++ rs.drop (k + n) := by
    rw [List.append_assoc, List.drop_append_of_le_length (by omega), List.drop_of_length_le (by omega), List.nil_append]
  have et : (cs ++ rs.drop (k + n)).take n = cs := by rw [List.take_append_of_le_length (by omega), List.take_of_length_le (by omega)]
  have eq : (qs.set k q).drop k = q :: qs.drop (k + 1) := by
    rw [drop_cons_lim (by rw [List.length_set]; omega), lim_set_same (by omega), List.drop_set_of_lt (by omega)]
  have e1 : lim rs k = lim az k := by
    have : lim (rs.take (k + 1)) k = lim (az.take (k + 1)) k := by rw [h5]
    rwa [lim_take (by omega), lim_take (by omega)] at this
  refine ⟨by rw [List.length_set]; exact h1, ?_, h3.set _ _ hql, (((h4.take k).append lc).append (h4.drop _)), ?_, ?_, ?_⟩
  · rw [List.length_append, List.length_append, List.length_drop, ht, hc]; omega
  · rw [List.append_assoc, List.take_append_of_le_length (by omega), List.take_of_length_le (by omega)]
    have : (rs.take (k + 1)).take k = (az.take (k + 1)).take k := by rw [h5]
    rwa [List.take_take, List.take_take, Nat.min_eq_left (by omega)] at this
  · rw [ed, et, hv]; exact Nat.mod_lt _ hb
  · rw [ed, et, eq, val_cons, hv, drop_cons_lim (show k < az.length by omega), val_cons, ← h7]
    have e2 := Nat.div_add_mod (val (win rs k n)) (val ys)
    rw [← hq, hw, val_cons, Nat.mul_comm] at e2
    rw [hw, val_cons, ← e1]
    rw [Nat.add_mul, Nat.mul_add, Nat.mul_assoc]
    omega
theorem LongInv.done {az ys qs rs : List Nat} {n N a b s : Nat} (h : LongInv az ys n N 0 qs rs) (hb : 0 < b) (ha : val az = a * 2 ^ s) (hy : val ys = b * 2 ^ s) : digs (a / b) = trimz qs ∧ val (rs.take n) / 2 ^ s = a % b := by
  obtain ⟨h1, h2, h3, h4, h5, h6, h7⟩ := h
  rw [List.drop_zero] at h6 h7
  rw [List.drop_zero, List.drop_zero] at h7
  have hp : 0 < 2 ^ s := Nat.two_pow_pos s
  have hbp : 0 < val ys := by rw [hy]; exact Nat.mul_pos hb hp
  have e1 : val az / val ys = val qs := by
    rw [← h7, Nat.add_comm, Nat.add_mul_div_right _ _ hbp, Nat.div_eq_of_lt h6, Nat.zero_add]
  have e2 : val az % val ys = val (rs.take n) := by
    rw [← h7, Nat.add_comm, Nat.add_mul_mod_self_right, Nat.mod_eq_of_lt h6]
  rw [ha, hy, Nat.mul_div_mul_right _ _ hp] at e1
  rw [ha, hy, Nat.mul_mod_mul_right] at e2
  refine ⟨by rw [e1]; exact digs_val h3, ?_⟩
  rw [← e2, Nat.mul_div_cancel _ hp]
/-- At the start the highest limbs are below the divisor. -/
theorem long_low {az ys : List Nat} {n N a s : Nat} (ha : az.length = N + (n + 1)) (hv : val az = a * 2 ^ s) (hs : s ≤ 63) (hN : a < LB ^ (N + n)) (hy : ys.length = n + 1) (ht : LB ≤ 2 * lim ys n) : val (az.drop N) < val ys := by
  have e := val_append (az.take N) (az.drop N)
  rw [List.take_append_drop, List.length_take, Nat.min_eq_left (by omega)] at e
  have e2 := top1 hy
  have h1 : a * 2 ^ s < LB ^ (N + n) * 2 ^ s := Nat.mul_lt_mul_of_pos_right hN (Nat.two_pow_pos s)
  have h2 : 2 ^ s ≤ 2 ^ 63 := Nat.pow_le_pow_right (by omega) hs
  have h3 : 2 ^ s ≤ lim ys n := by rw [LB_eq] at ht; omega
  have h4 : LB ^ N * val (az.drop N) < LB ^ N * (LB ^ n * lim ys n) := by
    have : LB ^ (N + n) * 2 ^ s ≤ LB ^ (N + n) * lim ys n := Nat.mul_le_mul_left _ h3
    rw [Nat.pow_add, Nat.mul_assoc, Nat.mul_assoc] at this
    rw [Nat.pow_add, Nat.mul_assoc] at h1
    omega
  have := Nat.lt_of_mul_lt_mul_left h4
  omega
end Nt
end Go.Proofs.YtodphjnhoinpeaaGreatDoor
