/-
  Floats of 64 bits: rungs and their sizes.
  Floats of 64 bits: products, comparisons with the infinite ones, numbers of ints, and what Ldexp, Frexp come to.
  Words of floats: their bits.
  Floats as fractions.
  Floats: a sum's lower bound.
  Package math: Float64bits, Float64frombits (entries of the model), IsNaN, Abs, IsInf, Inf, Copysign, normalize, Nextafter.
-/
import Ieee.Arith
import Derived.Laws.FloatArith
import Derived.Laws.BitsAllLaws
import Derived.Test.YtgmjdaallinicaaDoorProg
import Derived.Test.YtgmjdaallinicaaDoorMem
import Derived.WalkLawsBesides
import Derived.Laws.Externs
import Derived.Laws.Shifts
namespace Go.Proofs.YtgmjdaallinicaaDoor
namespace Nt

/-- The size of a rung, in units of 2^-1074. -/
def U (r : Nat) : Nat := if r < 2 ^ 52 then r else (2 ^ 52 + r % 2 ^ 52) * 2 ^ (r / 2 ^ 52 - 1)

theorem U_low {r : Nat} (h : r < 2 ^ 52) : U r = r := if_pos h
theorem U_high {r : Nat} (h : ¬ r < 2 ^ 52) : U r = (2 ^ 52 + r % 2 ^ 52) * 2 ^ (r / 2 ^ 52 - 1) := if_neg h
theorem U_mk (a b : Nat) (hb : b < 2 ^ 52) : U (2 ^ 52 * (a + 1) + b) = (2 ^ 52 + b) * 2 ^ a := by
  rw [U_high (by omega), Nat.mul_add_mod, Nat.mod_eq_of_lt hb, Nat.mul_add_div (by decide), Nat.div_eq_of_lt hb]
  rfl
theorem rung_split (r : Nat) (h : ¬ r < 2 ^ 52) : ∃ a b, b < 2 ^ 52 ∧ r = 2 ^ 52 * (a + 1) + b :=
  ⟨r / 2 ^ 52 - 1, r % 2 ^ 52, Nat.mod_lt _ (by decide), by omega⟩
theorem U_succ (r : Nat) : U r < U (r + 1) := by
  by_cases h : r < 2 ^ 52
  · by_cases h1 : r + 1 < 2 ^ 52
    · rw [U_low h, U_low h1]; exact Nat.lt_succ_self _
    · obtain rfl : r = 2 ^ 52 - 1 := by omega
      decide
  · obtain ⟨a, b, hb, rfl⟩ := rung_split r h
    have hp : 0 < 2 ^ a := Nat.two_pow_pos a
    rw [U_mk a b hb]
    by_cases h1 : b + 1 < 2 ^ 52
    · rw [Nat.add_assoc, U_mk a (b + 1) h1]
      exact Nat.mul_lt_mul_of_pos_right (by omega) hp
    · have e : 2 ^ 52 * (a + 1) + b + 1 = 2 ^ 52 * (a + 1 + 1) + 0 := by omega
      rw [e, U_mk (a + 1) 0 (by decide), show 2 ^ (a + 1) = 2 * 2 ^ a from by rw [Nat.pow_succ 2 a, Nat.mul_comm], ← Nat.mul_assoc]
      exact Nat.mul_lt_mul_of_pos_right (by omega) hp
theorem U_lt {r s : Nat} (h : r < s) : U r < U s := by
  induction h with
  | refl => exact U_succ r
  | step _ ih => exact Nat.lt_trans ih (U_succ _)
theorem U_lt_iff {r s : Nat} : U r < U s ↔ r < s :=
  ⟨fun h => Nat.lt_of_not_le fun h1 => by exact absurd h (Nat.not_lt.2 ((Nat.lt_or_eq_of_le h1).elim (fun h2 => Nat.le_of_lt (U_lt h2)) fun e => Nat.le_of_eq (by rw [e]))), U_lt⟩
theorem U_le_iff {r s : Nat} : U r ≤ U s ↔ r ≤ s := by
  rw [← Nat.not_lt, U_lt_iff, Nat.not_lt]
theorem U_inj {r s : Nat} (h : U r = U s) : r = s :=
  Nat.le_antisymm (U_le_iff.1 (Nat.le_of_eq h)) (U_le_iff.1 (Nat.le_of_eq h.symm))

/-- What a word of a number stands for. -/
theorem read_number (s : Bool) (r : Nat) (h : r < 2047 * 2 ^ 52) : ∃ m i, Ieee.double.read (Ieee.double.word s r) = .number s m i ∧ -1074 ≤ i ∧ i ≤ 971 ∧ m < 2 ^ 53 ∧ m * 2 ^ (i + 1074).toNat = U r := by
  have ew : (Ieee.double.word s r) / 2 ^ 63 % 2 = (if s then 1 else 0) ∧ (Ieee.double.word s r) % 2 ^ 63 = r := by
    cases s <;> simp only [Ieee.Format.word, Ieee.Format.signWeight, Ieee.double] <;> constructor <;> simp <;> omega
  have es : ((Ieee.double.word s r) / 2 ^ 63 % 2 == 1) = s := by rw [ew.1]; cases s <;> rfl
  have e0 : Ieee.double.read (Ieee.double.word s r) = (if r < 2 ^ 52 then Ieee.Datum.number s r (-1074) else Ieee.Datum.number s (2 ^ 52 + r % 2 ^ 52) (-1074 + (r / 2 ^ 52 - 1 : Nat))) := by
    show (let neg := (Ieee.double.word s r) / 2 ^ 63 % 2 == 1; let rung := (Ieee.double.word s r) % 2 ^ 63; if rung < 2 ^ 52 then Ieee.Datum.number neg rung (-1074) else if rung < 2047 * 2 ^ 52 then Ieee.Datum.number neg (2 ^ 52 + rung % 2 ^ 52) (-1074 + (rung / 2 ^ 52 - 1 : Nat)) else if rung = 2047 * 2 ^ 52 then .infinity neg else .nan neg (rung - 2047 * 2 ^ 52)) = _
    simp only [es, ew.2, if_pos h]
  rw [e0]
  by_cases h1 : r < 2 ^ 52
  · rw [if_pos h1]
    exact ⟨r, -1074, rfl, by decide, by decide, by omega, by rw [U_low h1]; exact Nat.mul_one r⟩
  · rw [if_neg h1]
    refine ⟨_, _, rfl, by omega, by omega, by omega, ?_⟩
    rw [U_high h1]
    congr 2
    omega
theorem cut_exact (s : Bool) (n k d : Nat) (h0 : n ≠ 0) (h : n = k * 2 ^ d) : Ieee.Toward.even.cut s n d = k := by
  have hl : n < 2 ^ (n.log2 + 1) := Nat.lt_log2_self
  have hd : d ≤ n.log2 + 2 := by
    refine Nat.le_of_not_lt fun hd => ?_
    have hk : k ≠ 0 := fun e => h0 (by rw [h, e, Nat.zero_mul])
    have h2 : 2 ^ d ≤ n := by rw [h]; exact Nat.le_mul_of_pos_left _ (Nat.pos_of_ne_zero hk)
    have h3 : 2 ^ (n.log2 + 1) ≤ 2 ^ d := Nat.pow_le_pow_right (by decide) (by omega)
    omega
  have hp : 0 < 2 ^ d := Nat.two_pow_pos d
  have e1 : n / 2 ^ d = k := by rw [h]; exact Nat.mul_div_cancel _ hp
  have e2 : n % 2 ^ d = 0 := by rw [h]; exact Nat.mul_mod_left _ _
  unfold Ieee.Toward.cut
  simp only [Nat.min_eq_left hd, Nat.one_shiftLeft, e1, e2]
  simp
/-- What is a rung's size is rounded to that rung. -/
theorem near_exact (s : Bool) (m : Nat) (e : Int) (r a b : Nat) (hr : r < 2047 * 2 ^ 52) (h0 : m ≠ 0) (hab : (a : Int) - b = e + 1074) (h : m * 2 ^ a = U r * 2 ^ b) :
    Ieee.double.nearest s m e = Ieee.double.word s r := by
  have hl1 : 2 ^ m.log2 ≤ m := Nat.log2_self_le h0
  have hl2 : m < 2 ^ (m.log2 + 1) := Nat.lt_log2_self
  generalize hL : m.log2 = L at *
  -- the place of the last digit
  obtain ⟨t, k, hk, ht, er⟩ : ∃ t k : Nat, U r = k * 2 ^ t ∧ max (e + L - 52) (-1074) = (t : Int) - 1074 ∧ t * 2 ^ 52 + k = r := by
    by_cases h1 : r < 2 ^ 52
    · refine ⟨0, r, by rw [U_low h1, Nat.pow_zero, Nat.mul_one], ?_, by omega⟩
      rw [U_low h1] at h
      have h2 : 2 ^ (L + a) < 2 ^ (52 + b) := by
        rw [Nat.pow_add, Nat.pow_add]
        exact Nat.lt_of_le_of_lt (Nat.mul_le_mul_right _ hl1) (h ▸ Nat.mul_lt_mul_of_pos_right h1 (Nat.two_pow_pos b))
      have h3 := (Nat.pow_lt_pow_iff_right (by decide : 1 < 2)).1 h2
      omega
    · obtain ⟨c, d, hd, rfl⟩ := rung_split r h1
      rw [U_mk c d hd] at h ⊢
      refine ⟨c, 2 ^ 52 + d, rfl, ?_, by omega⟩
      have h2 : 2 ^ (L + a) < 2 ^ (53 + c + b) := by
        rw [Nat.pow_add, Nat.pow_add, Nat.pow_add]
        refine Nat.lt_of_le_of_lt (Nat.mul_le_mul_right _ hl1) (h ▸ Nat.mul_lt_mul_of_pos_right (Nat.mul_lt_mul_of_pos_right ?_ (Nat.two_pow_pos c)) (Nat.two_pow_pos b))
        omega
      have h4 : 2 ^ (52 + c + b) < 2 ^ (L + 1 + a) := by
        rw [Nat.pow_add, Nat.pow_add 2 52, Nat.pow_add 2 (L + 1)]
        refine Nat.lt_of_le_of_lt ?_ (Nat.mul_lt_mul_of_pos_right hl2 (Nat.two_pow_pos a))
        rw [h]
        exact Nat.mul_le_mul_right _ (Nat.mul_le_mul_right _ (by omega))
      have h3 := (Nat.pow_lt_pow_iff_right (by decide : 1 < 2)).1 h2
      have h5 := (Nat.pow_lt_pow_iff_right (by decide : 1 < 2)).1 h4
      omega
  have e1 : Ieee.double.nearest s m e = Ieee.double.word s (min ((max (e + L - 52) (-1074) - (-1074)).toNat * 2 ^ 52 + Ieee.Toward.even.cut s (m <<< (e - max (e + L - 52) (-1074)).toNat) (max (e + L - 52) (-1074) - e).toNat) (2047 * 2 ^ 52)) := by
    unfold Ieee.Format.nearest
    rw [if_neg h0, hL]
    rfl
  rw [e1, ht]
  have e2 : ((t : Int) - 1074 - -1074).toNat = t := by omega
  rw [e2, cut_exact s _ k _ ?_ ?_, er, Nat.min_eq_left (by omega)]
  · rw [Nat.shiftLeft_eq]
    exact Nat.mul_ne_zero h0 (Nat.ne_of_gt (Nat.two_pow_pos _))
  · rw [Nat.shiftLeft_eq]
    refine Nat.eq_of_mul_eq_mul_right (Nat.two_pow_pos a) ?_
    rw [Nat.mul_right_comm, h, hk, Nat.mul_assoc, Nat.mul_assoc, Nat.mul_assoc, ← Nat.pow_add, ← Nat.pow_add, ← Nat.pow_add]
    congr 2
    omega
/-- A word's number, in units of 2^-1074. -/
def I (s : Bool) (r : Nat) : Int := if s then -(U r : Int) else U r
theorem order_words (s t : Bool) (a b : Nat) (ha : a < 2047 * 2 ^ 52) (hb : b < 2047 * 2 ^ 52) :
    Ieee.double.order (Ieee.double.word s a) (Ieee.double.word t b) = some (compare (I s a) (I t b)) := by
  obtain ⟨m, i, e1, h1, _, _, e2⟩ := read_number s a ha
  obtain ⟨n, j, f1, g1, _, _, f2⟩ := read_number t b hb
  unfold Ieee.Format.order
  rw [e1, f1]
  show some (compare (Ieee.signed s m (i - min i j).toNat) (Ieee.signed t n (j - min i j).toNat)) = _
  obtain ⟨c, hc⟩ : ∃ c : Nat, min i j = (c : Int) - 1074 := ⟨(min i j + 1074).toNat, by omega⟩
  have e3 : U a = m <<< (i - min i j).toNat * 2 ^ c := by
    rw [← e2, Nat.shiftLeft_eq, Nat.mul_assoc, ← Nat.pow_add]
    congr 2
    omega
  have f3 : U b = n <<< (j - min i j).toNat * 2 ^ c := by
    rw [← f2, Nat.shiftLeft_eq, Nat.mul_assoc, ← Nat.pow_add]
    congr 2
    omega
  have hp : (0 : Int) < 2 ^ c := Int.pow_pos (by decide)
  have key : ∀ (x y : Int), compare x y = compare (x * 2 ^ c) (y * 2 ^ c) := fun x y => by
    rw [Int.compare_eq_ite_lt, Int.compare_eq_ite_lt]
    have h1 : (x * 2 ^ c < y * 2 ^ c) = (x < y) := propext (Int.mul_lt_mul_right hp)
    have h2 : (y * 2 ^ c < x * 2 ^ c) = (y < x) := propext (Int.mul_lt_mul_right hp)
    simp only [h1, h2]
  rw [key]
  have es : ∀ (s : Bool) (u : Nat) (r : Nat), U r = u * 2 ^ c → (if s then -(u : Int) else (u : Int)) * 2 ^ c = I s r := fun s u r h => by
    unfold I
    rw [h]
    cases s
    · simp only [Bool.false_eq_true, if_false]; push_cast; rfl
    · simp only [if_true]; push_cast; rw [Int.neg_mul]
  rw [← es s _ a e3, ← es t _ b f3]
  rfl
theorem U_t (t k : Nat) (h : t = 0 ∨ 2 ^ 52 ≤ k) (hk : k ≤ 2 ^ 53) : U (t * 2 ^ 52 + k) = k * 2 ^ t := by
  by_cases h1 : k < 2 ^ 52
  · have h2 : t = 0 := by omega
    have e : t * 2 ^ 52 + k = k := by rw [h2]; omega
    rw [e, U_low h1, h2, show (2 : Nat) ^ 0 = 1 from rfl, Nat.mul_one]
  · by_cases h2 : k < 2 ^ 53
    · have e : t * 2 ^ 52 + k = 2 ^ 52 * (t + 1) + (k - 2 ^ 52) := by omega
      rw [e, U_mk t _ (by omega), show 2 ^ 52 + (k - 2 ^ 52) = k from by omega]
    · obtain rfl : k = 2 ^ 53 := by omega
      have e : t * 2 ^ 52 + 2 ^ 53 = 2 ^ 52 * (t + 1 + 1) + 0 := by omega
      rw [e, U_mk (t + 1) 0 (by decide), show 2 ^ (t + 1) = 2 * 2 ^ t from by rw [Nat.pow_succ 2 t, Nat.mul_comm], ← Nat.mul_assoc]
theorem cut_val (s : Bool) (n d : Nat) : ∃ b : Bool, Ieee.Toward.even.cut s n d = n / 2 ^ d + b.toNat ∧ (b = false → 2 * (n % 2 ^ d) ≤ 2 ^ d) ∧ (b = true → 2 ^ d ≤ 2 * (n % 2 ^ d)) := by
  have hl : n < 2 ^ (n.log2 + 1) := Nat.lt_log2_self
  by_cases hd : d ≤ n.log2 + 2
  · unfold Ieee.Toward.cut
    simp only [Nat.min_eq_left hd, Nat.one_shiftLeft]
    refine ⟨_, rfl, fun h => ?_, fun h => ?_⟩ <;> simp at h <;> omega
  · have h1 : 2 ^ (n.log2 + 2) ≤ 2 ^ d := Nat.pow_le_pow_right (by decide) (by omega)
    have h2 : 2 ^ (n.log2 + 2) = 2 * 2 ^ (n.log2 + 1) := by rw [Nat.pow_succ 2 (n.log2 + 1), Nat.mul_comm]
    refine ⟨false, ?_, fun _ => ?_, fun h => by cases h⟩
    · unfold Ieee.Toward.cut
      simp only [Nat.min_eq_right (Nat.le_of_not_le hd), Nat.one_shiftLeft]
      rw [Nat.div_eq_of_lt (by omega), Nat.mod_eq_of_lt (by omega), Nat.div_eq_of_lt (by omega)]
      have h3 : ¬ 2 ^ (n.log2 + 2) < 2 * n := by omega
      simp [h3]
    · rw [Nat.mod_eq_of_lt (by omega)]
      omega
/-- What is rounded comes to one of the two rungs next to it, and not to the farther one. -/
theorem near_two (s : Bool) (m k : Nat) (h0 : m ≠ 0) : ∃ (r : Nat) (b : Bool), U r ≤ m * 2 ^ k ∧ m * 2 ^ k < U (r + 1) ∧ Ieee.double.nearest s m ((k : Int) - 1074) = Ieee.double.word s (min (r + b.toNat) (2047 * 2 ^ 52))
    ∧ (b = false → 2 * (m * 2 ^ k - U r) ≤ U (r + 1) - U r) ∧ (b = true → 2 * (U (r + 1) - m * 2 ^ k) ≤ U (r + 1) - U r) := by
  have hl1 : 2 ^ m.log2 ≤ m := Nat.log2_self_le h0
  have hl2 : m < 2 ^ (m.log2 + 1) := Nat.lt_log2_self
  obtain ⟨L, hL⟩ : ∃ L, m.log2 = L := ⟨_, rfl⟩
  rw [hL] at hl1 hl2
  obtain ⟨t, ht⟩ : ∃ t, k + L - 52 = t := ⟨_, rfl⟩
  have e1 : Ieee.double.nearest s m ((k : Int) - 1074) = Ieee.double.word s (min (t * 2 ^ 52 + Ieee.Toward.even.cut s (m <<< (k - t)) (t - k)) (2047 * 2 ^ 52)) := by
    have hx : max ((k : Int) - 1074 + L - 52) (-1074) = (t : Int) - 1074 := by omega
    have e : Ieee.double.nearest s m ((k : Int) - 1074) = Ieee.double.word s (min ((max ((k : Int) - 1074 + L - 52) (-1074) - (-1074)).toNat * 2 ^ 52 + Ieee.Toward.even.cut s (m <<< ((k : Int) - 1074 - max ((k : Int) - 1074 + L - 52) (-1074)).toNat) (max ((k : Int) - 1074 + L - 52) (-1074) - ((k : Int) - 1074)).toNat) (2047 * 2 ^ 52)) := by
      unfold Ieee.Format.nearest
      rw [if_neg h0, hL]
      rfl
    rw [e, hx]
    have a1 : ((t : Int) - 1074 - -1074).toNat = t := by omega
    have a2 : ((k : Int) - 1074 - ((t : Int) - 1074)).toNat = k - t := by omega
    have a3 : ((t : Int) - 1074 - ((k : Int) - 1074)).toNat = t - k := by omega
    rw [a1, a2, a3]
  have hn : m <<< (k - t) ≠ 0 := by
    rw [Nat.shiftLeft_eq]
    exact Nat.mul_ne_zero h0 (Nat.ne_of_gt (Nat.two_pow_pos _))
  obtain ⟨b, hb, hf, ht1⟩ := cut_val s (m <<< (k - t)) (t - k)
  -- all of it, in units
  have eN : m * 2 ^ k = m <<< (k - t) * 2 ^ (k - (k - t)) := by
    rw [Nat.shiftLeft_eq, Nat.mul_assoc, ← Nat.pow_add]
    congr 2
    omega
  have eT : 2 ^ t = 2 ^ (t - k) * 2 ^ (k - (k - t)) := by
    rw [← Nat.pow_add]
    congr 1
    omega
  generalize m <<< (k - t) = n at *
  have hp : 0 < 2 ^ (t - k) := Nat.two_pow_pos _
  have hq : 0 < 2 ^ (k - (k - t)) := Nat.two_pow_pos _
  have hd := Nat.div_add_mod n (2 ^ (t - k))
  have hm := Nat.mod_lt n hp
  have b1 : 2 ^ (L + k) ≤ m * 2 ^ k := by rw [Nat.pow_add]; exact Nat.mul_le_mul_right _ hl1
  have b2 : m * 2 ^ k < 2 ^ (L + 1 + k) := by rw [Nat.pow_add]; exact Nat.mul_lt_mul_of_pos_right hl2 (Nat.two_pow_pos _)
  have hlow : (t = 0 ∨ 2 ^ 52 ≤ n / 2 ^ (t - k)) ∧ n / 2 ^ (t - k) + 1 ≤ 2 ^ 53 := by
    have c1 : n / 2 ^ (t - k) < 2 ^ 53 := by
      rw [Nat.div_lt_iff_lt_mul hp]
      refine Nat.lt_of_mul_lt_mul_right (a := 2 ^ (k - (k - t))) ?_
      rw [← eN, Nat.mul_assoc, ← eT, ← Nat.pow_add]
      exact Nat.lt_of_lt_of_le b2 (Nat.pow_le_pow_right (by decide) (by omega))
    refine ⟨?_, c1⟩
    by_cases h : t = 0
    · exact .inl h
    · refine .inr ((Nat.le_div_iff_mul_le hp).2 (Nat.le_of_mul_le_mul_right ?_ hq))
      rw [← eN, Nat.mul_assoc, ← eT, ← Nat.pow_add]
      exact Nat.le_trans (Nat.pow_le_pow_right (by decide) (by omega)) b1
  generalize n / 2 ^ (t - k) = q at *
  generalize n % 2 ^ (t - k) = z at *
  have u1 : U (t * 2 ^ 52 + q) = q * 2 ^ t := U_t t q hlow.1 (by omega)
  have u2 : U (t * 2 ^ 52 + q + 1) = (q + 1) * 2 ^ t := by rw [Nat.add_assoc]; exact U_t t (q + 1) (by omega) hlow.2
  have eN2 : m * 2 ^ k = q * 2 ^ t + z * 2 ^ (k - (k - t)) := by
    rw [eN, eT, ← hd, Nat.add_mul, Nat.mul_comm (2 ^ (t - k)) q, Nat.mul_assoc]
  have eS : (q + 1) * 2 ^ t = q * 2 ^ t + 2 ^ t := Nat.succ_mul _ _
  have hz : z * 2 ^ (k - (k - t)) < 2 ^ t := by rw [eT]; exact Nat.mul_lt_mul_of_pos_right hm hq
  refine ⟨t * 2 ^ 52 + q, b, by omega, by omega, by rw [e1, hb, Nat.add_assoc], fun h => ?_, fun h => ?_⟩
  · have h2 := Nat.mul_le_mul_right (2 ^ (k - (k - t))) (hf h)
    rw [← eT, Nat.mul_assoc] at h2
    omega
  · have h2 := Nat.mul_le_mul_right (2 ^ (k - (k - t))) (ht1 h)
    rw [← eT, Nat.mul_assoc] at h2
    omega
/-- The words of a sum. -/
theorem add_words (s t : Bool) (a b : Nat) (ha : a < 2047 * 2 ^ 52) (hb : b < 2047 * 2 ^ 52) :
    ∃ m k : Nat, (I s a + I t b).natAbs = m * 2 ^ k ∧ Ieee.double.add (Ieee.double.word s a) (Ieee.double.word t b) = some (Ieee.double.nearest (if I s a + I t b = 0 then s && t else decide (I s a + I t b < 0)) m ((k : Int) - 1074)) := by
  obtain ⟨m, i, e1, h1, _, _, e2⟩ := read_number s a ha
  obtain ⟨n, j, f1, g1, _, _, f2⟩ := read_number t b hb
  unfold Ieee.Format.add
  rw [e1, f1]
  obtain ⟨c, hc⟩ : ∃ c : Nat, min i j = (c : Int) - 1074 := ⟨(min i j + 1074).toNat, by omega⟩
  have e3 : U a = m <<< (i - min i j).toNat * 2 ^ c := by
    rw [← e2, Nat.shiftLeft_eq, Nat.mul_assoc, ← Nat.pow_add]
    congr 2
    omega
  have f3 : U b = n <<< (j - min i j).toNat * 2 ^ c := by
    rw [← f2, Nat.shiftLeft_eq, Nat.mul_assoc, ← Nat.pow_add]
    congr 2
    omega
  have hp : (0 : Int) < 2 ^ c := Int.pow_pos (by decide)
  have es : ∀ (s : Bool) (u : Nat) (r : Nat), U r = u * 2 ^ c → (if s then -(u : Int) else (u : Int)) * 2 ^ c = I s r := fun s u r h => by
    unfold I
    rw [h]
    cases s
    · simp only [Bool.false_eq_true, if_false]; push_cast; rfl
    · simp only [if_true]; push_cast; rw [Int.neg_mul]
  have eT : (Ieee.signed s m (i - min i j).toNat + Ieee.signed t n (j - min i j).toNat) * 2 ^ c = I s a + I t b := by
    rw [Int.add_mul, ← es s _ a e3, ← es t _ b f3]
    rfl
  have e0 : ((Ieee.Datum.number s m i).sum (Ieee.Datum.number t n j)).map Ieee.double.write = some (Ieee.double.nearest (if Ieee.signed s m (i - min i j).toNat + Ieee.signed t n (j - min i j).toNat = 0 then s && t else decide (Ieee.signed s m (i - min i j).toNat + Ieee.signed t n (j - min i j).toNat < 0)) (Ieee.signed s m (i - min i j).toNat + Ieee.signed t n (j - min i j).toNat).natAbs (min i j)) := rfl
  rw [e0]
  generalize Ieee.signed s m (i - min i j).toNat + Ieee.signed t n (j - min i j).toNat = T at *
  refine ⟨T.natAbs, c, ?_, ?_⟩
  · rw [← eT, Int.natAbs_mul, Int.natAbs_pow]
    rfl
  · have h1 : (I s a + I t b = 0) = (T = 0) := propext ⟨fun h => by
      rw [← eT] at h
      exact (Int.mul_eq_zero.1 h).resolve_right (Int.ne_of_gt hp), fun h => by rw [← eT, h, Int.zero_mul]⟩
    have h2 : (I s a + I t b < 0) = (T < 0) := propext (by
      rw [← eT]
      have := Int.mul_lt_mul_right (b := T) (c := 0) hp
      rw [Int.zero_mul] at this
      exact this)
    simp only [h1, h2, hc]
/-- A number of 53 digits, or the next power, has a rung. -/
theorem rep (t : Nat) : ∀ k : Nat, k ≤ 2 ^ 53 → ∃ z, U z = k * 2 ^ t := by
  induction t with
  | zero => exact fun k hk => ⟨_, U_t 0 k (.inl rfl) hk⟩
  | succ t ih =>
    intro k hk
    by_cases h : 2 ^ 52 ≤ k
    · exact ⟨_, U_t (t + 1) k (.inr h) hk⟩
    · obtain ⟨z, hz⟩ := ih (2 * k) (by omega)
      exact ⟨z, by rw [hz, show 2 ^ (t + 1) = 2 * 2 ^ t from by rw [Nat.pow_succ 2 t, Nat.mul_comm], Nat.mul_comm 2 k, Nat.mul_assoc]⟩
theorem rung_form (r : Nat) : ∃ t k, r = t * 2 ^ 52 + k ∧ k < 2 ^ 53 ∧ (t = 0 ∨ 2 ^ 52 ≤ k) ∧ U r = k * 2 ^ t ∧ U (r + 1) = k * 2 ^ t + 2 ^ t := by
  have key : ∀ t k, r = t * 2 ^ 52 + k → k < 2 ^ 53 → (t = 0 ∨ 2 ^ 52 ≤ k) → ∃ t k, r = t * 2 ^ 52 + k ∧ k < 2 ^ 53 ∧ (t = 0 ∨ 2 ^ 52 ≤ k) ∧ U r = k * 2 ^ t ∧ U (r + 1) = k * 2 ^ t + 2 ^ t := fun t k e h1 h2 => by
    refine ⟨t, k, e, h1, h2, ?_, ?_⟩
    · rw [e]; exact U_t t k h2 (by omega)
    · rw [e, Nat.add_assoc, U_t t (k + 1) (by omega) (by omega), Nat.succ_mul]
  by_cases h : r < 2 ^ 52
  · exact key 0 r (by omega) (by omega) (.inl rfl)
  · exact key (r / 2 ^ 52 - 1) (2 ^ 52 + r % 2 ^ 52) (by omega) (by omega) (by omega)
/-- A rounded sum less its greater part is a number of the format. -/
theorem sum_less (x y r N : Nat) (b : Bool) (hyx : y ≤ x) (hN : N = U x + U y ∨ N + U y = U x) (h1 : U r ≤ N) (h2 : N < U (r + 1)) (hf : b = false → 2 * (N - U r) ≤ U (r + 1) - U r) (ht : b = true → 2 * (U (r + 1) - N) ≤ U (r + 1) - U r) :
    ∃ z, U z = (U (r + b.toNat) - U x) + (U x - U (r + b.toNat)) := by
  obtain ⟨α, p, ex, hp, hpn, eX, _⟩ := rung_form x
  obtain ⟨β, q, ey, hq, hqn, eY, _⟩ := rung_form y
  obtain ⟨t, ρ, er, hr, hrn, eR, eR1⟩ := rung_form r
  have hβ : β ≤ α := by omega
  have eS : U (r + b.toNat) = (ρ + b.toNat) * 2 ^ t := by
    cases b
    · rw [show r + false.toNat = r from rfl, eR]; rfl
    · rw [show r + true.toNat = r + 1 from rfl, eR1, show ρ + true.toNat = ρ + 1 from rfl, Nat.succ_mul]
  have dif : ∀ u v c : Nat, (u * c - v * c) + (v * c - u * c) = ((u - v) + (v - u)) * c := fun u v c => by rw [Nat.add_mul, Nat.sub_mul, Nat.sub_mul]
  have hpt : 0 < 2 ^ t := Nat.two_pow_pos t
  by_cases c1 : t ≤ β
  · have e1 : U y = (q * 2 ^ (β - t)) * 2 ^ t := by rw [eY, Nat.mul_assoc, ← Nat.pow_add, Nat.sub_add_cancel c1]
    have e2 : U x = (p * 2 ^ (α - t)) * 2 ^ t := by rw [eX, Nat.mul_assoc, ← Nat.pow_add, Nat.sub_add_cancel (Nat.le_trans c1 hβ)]
    obtain ⟨n, hn⟩ : ∃ n, N = n * 2 ^ t := by
      rcases hN with h | h
      · exact ⟨_, by rw [h, e1, e2, ← Nat.add_mul]⟩
      · exact ⟨_, by rw [Nat.eq_sub_of_add_eq h, e1, e2, ← Nat.sub_mul]⟩
    have hnr : n = ρ := by
      have a1 : ρ ≤ n := Nat.le_of_mul_le_mul_right (by rw [← eR, ← hn]; exact h1) hpt
      have a2 : n < ρ + 1 := Nat.lt_of_mul_lt_mul_right (a := 2 ^ t) (by rw [← hn, Nat.succ_mul, ← eR1]; exact h2)
      omega
    have hNr : N = U r := by rw [hn, hnr, eR]
    cases b with
    | true => have := ht rfl; omega
    | false =>
      refine ⟨y, ?_⟩
      rw [show r + false.toNat = r from rfl]
      omega
  · obtain ⟨P, hP⟩ : ∃ P, 2 ^ (t - 1) = P := ⟨_, rfl⟩
    have hP2 : 2 ^ t = 2 * P := by
      rw [← hP, Nat.mul_comm, ← Nat.pow_succ]
      congr 1
      omega
    have hβP : 2 ^ β ≤ P := by rw [← hP]; exact Nat.pow_le_pow_right (by decide) (by omega)
    have hY : U y ≤ (2 ^ 53 - 1) * 2 ^ β := by rw [eY]; exact Nat.mul_le_mul_right _ (by omega)
    have near : (U (r + b.toNat) - U x) + (U x - U (r + b.toNat)) ≤ P + U y := by
      cases b with
      | true => have := ht rfl; rw [show r + true.toNat = r + 1 from rfl]; omega
      | false => have := hf rfl; rw [show r + false.toNat = r from rfl]; omega
    by_cases c2 : t ≤ α
    · have e2 : U x = (p * 2 ^ (α - t)) * 2 ^ t := by rw [eX, Nat.mul_assoc, ← Nat.pow_add, Nat.sub_add_cancel c2]
      rw [eS, e2, dif] at near ⊢
      refine rep t _ (Nat.le_of_mul_le_mul_right (Nat.le_trans near ?_) hpt)
      omega
    · have hpα : 0 < 2 ^ α := Nat.two_pow_pos α
      have hX : U x < 2 ^ 53 * 2 ^ α := by rw [eX]; exact Nat.mul_lt_mul_of_pos_right hp hpα
      have hyx2 : U y ≤ U x := U_le_iff.2 hyx
      have hR : 2 ^ 52 * 2 ^ t ≤ U r := by rw [eR]; exact Nat.mul_le_mul_right _ (by omega)
      have c3 : t = α + 1 := by
        refine Nat.le_antisymm (Nat.le_of_not_lt fun h => ?_) (by omega)
        have h4 : 2 ^ (α + 2) ≤ 2 ^ t := Nat.pow_le_pow_right (by decide) (by omega)
        have h5 : 2 ^ (α + 2) = 4 * 2 ^ α := by rw [Nat.pow_add, Nat.mul_comm]
        omega
      have hPα : P = 2 ^ α := by rw [← hP, c3]; rfl
      have e3 : (ρ + b.toNat) * 2 ^ t = (2 * (ρ + b.toNat)) * 2 ^ α := by rw [hP2, hPα, ← Nat.mul_assoc, Nat.mul_comm _ 2]
      have hβα : 2 ^ β ≤ 2 ^ α := Nat.pow_le_pow_right (by decide) hβ
      rw [eS, e3, eX, dif] at near ⊢
      refine rep α _ (Nat.le_of_mul_le_mul_right (Nat.le_trans near ?_) hpα)
      omega
end Nt
end Go.Proofs.YtgmjdaallinicaaDoor
namespace Go.Proofs.YtgmjdaallinicaaDoor
namespace Nt

/-- Units to 1. -/
def n74 : Nat := 1074
theorem n74_eq : n74 = 1074 := rfl
def KU : Nat := 2 ^ n74
theorem KU_eq : KU = 2 ^ n74 := rfl
theorem KU_pos : 0 < KU := Nat.two_pow_pos _
theorem word_f (r : Nat) : Ieee.double.word false r = r := rfl
theorem word_t (r : Nat) : Ieee.double.word true r = 2 ^ 63 + r := rfl
theorem read_inf (s : Bool) : Ieee.double.read (Ieee.double.word s (2047 * 2 ^ 52)) = .infinity s := by
  cases s <;> decide
theorem U_pos {r : Nat} (h : 0 < r) : 0 < U r := by
  have := U_lt (r := 0) (s := r) h
  omega
theorem U_zero : U 0 = 0 := rfl
theorem U_one : U 1 = 1 := rfl
/-- Comparison, the infinite ones too. -/
theorem order_ext (s t : Bool) (a b : Nat) (ha : a ≤ 2047 * 2 ^ 52) (hb : b ≤ 2047 * 2 ^ 52) :
    Ieee.double.order (Ieee.double.word s a) (Ieee.double.word t b) = some (compare (I s a) (I t b)) := by
  have cmp_lt : ∀ x y : Int, x < y → compare x y = .lt := fun x y h => by rw [Int.compare_eq_ite_lt, if_pos h]
  have cmp_gt : ∀ x y : Int, y < x → compare x y = .gt := fun x y h => by rw [Int.compare_eq_ite_lt, if_neg (by omega), if_pos h]
  have cmp_eq : ∀ x : Int, compare x x = .eq := fun x => by rw [Int.compare_eq_ite_lt, if_neg (by omega), if_neg (by omega)]
  by_cases h1 : a < 2047 * 2 ^ 52
  · by_cases h2 : b < 2047 * 2 ^ 52
    · exact order_words s t a b h1 h2
    · have eb : b = 2047 * 2 ^ 52 := Nat.le_antisymm hb (Nat.le_of_not_lt h2)
      obtain ⟨m, i, e1, _⟩ := read_number s a h1
      have hU : U a < U b := U_lt (by omega)
      unfold Ieee.Format.order
      rw [e1, eb, read_inf, ← eb]
      show some (if t then Ordering.gt else .lt) = _
      congr 1
      cases t
      · refine (cmp_lt _ _ ?_).symm
        cases s <;> simp only [I, Bool.false_eq_true, if_false, if_true] <;> omega
      · refine (cmp_gt _ _ ?_).symm
        cases s <;> simp only [I, Bool.false_eq_true, if_false, if_true] <;> omega
  · have ea : a = 2047 * 2 ^ 52 := Nat.le_antisymm ha (Nat.le_of_not_lt h1)
    by_cases h2 : b < 2047 * 2 ^ 52
    · obtain ⟨m, i, e1, _⟩ := read_number t b h2
      have hU : U b < U a := U_lt (by omega)
      unfold Ieee.Format.order
      rw [e1, ea, read_inf, ← ea]
      show some (if s then Ordering.lt else .gt) = _
      congr 1
      cases s
      · refine (cmp_gt _ _ ?_).symm
        cases t <;> simp only [I, Bool.false_eq_true, if_false, if_true] <;> omega
      · refine (cmp_lt _ _ ?_).symm
        cases t <;> simp only [I, Bool.false_eq_true, if_false, if_true] <;> omega
    · have eb : b = 2047 * 2 ^ 52 := Nat.le_antisymm hb (Nat.le_of_not_lt h2)
      have hp : 0 < U b := U_pos (by omega)
      unfold Ieee.Format.order
      rw [ea, eb, read_inf, read_inf, ← eb]
      show some (compare t.toNat s.toNat) = _
      congr 1
      cases s <;> cases t
      · exact (cmp_eq _).symm
      · refine Eq.trans rfl (cmp_gt _ _ ?_).symm
        simp only [I, Bool.false_eq_true, if_false, if_true]; omega
      · refine Eq.trans rfl (cmp_lt _ _ ?_).symm
        simp only [I, Bool.false_eq_true, if_false, if_true]; omega
      · exact (cmp_eq _).symm
/-- A product with a power of two that is exact. -/
theorem mul_exact (s : Bool) (c y z : Nat) (hc : 0 < c) (hc2 : c < 2047) (hy : y < 2047 * 2 ^ 52) (hz : z < 2047 * 2 ^ 52) (h0 : 0 < y) (h : U y * 2 ^ (52 + c) = U z * 2 ^ 1075) :
    Ieee.double.mul (Ieee.double.word s y) (Ieee.double.word false (c * 2 ^ 52)) = some (Ieee.double.word s z)
    ∧ Ieee.double.mul (Ieee.double.word false (c * 2 ^ 52)) (Ieee.double.word s y) = some (Ieee.double.word s z) := by
  obtain ⟨m, i, e1, h1, _, _, e2⟩ := read_number s y hy
  have e3 : Ieee.double.read (Ieee.double.word false (c * 2 ^ 52)) = .number false (2 ^ 52) (-1074 + (c - 1 : Nat)) := by
    have hx : c * 2 ^ 52 % 2 ^ 63 = c * 2 ^ 52 := Nat.mod_eq_of_lt (by omega)
    have hq : c * 2 ^ 52 / 2 ^ 63 = 0 := Nat.div_eq_of_lt (by omega)
    show (let neg := (c * 2 ^ 52) / 2 ^ 63 % 2 == 1; let rung := (c * 2 ^ 52) % 2 ^ 63; if rung < 2 ^ 52 then Ieee.Datum.number neg rung (-1074) else if rung < 2047 * 2 ^ 52 then Ieee.Datum.number neg (2 ^ 52 + rung % 2 ^ 52) (-1074 + (rung / 2 ^ 52 - 1 : Nat)) else if rung = 2047 * 2 ^ 52 then .infinity neg else .nan neg (rung - 2047 * 2 ^ 52)) = _
    simp only [hx, hq, if_neg (show ¬ c * 2 ^ 52 < 2 ^ 52 from by omega), if_pos (show c * 2 ^ 52 < 2047 * 2 ^ 52 from by omega), Nat.mul_mod_left, Nat.mul_div_cancel _ (show 0 < 2 ^ 52 from by decide)]
    rfl
  have hm : m ≠ 0 := fun e => by
    have := U_pos h0
    rw [← e2, e, Nat.zero_mul] at this
    exact absurd this (by decide)
  obtain ⟨j, hj⟩ : ∃ j : Nat, i = (j : Int) - 1074 := ⟨(i + 1074).toNat, by omega⟩
  have ej : (i + 1074).toNat = j := by omega
  rw [ej] at e2
  have key : Ieee.double.nearest s (m * 2 ^ 52) (i + (-1074 + (c - 1 : Nat))) = Ieee.double.word s z := by
    refine near_exact s (m * 2 ^ 52) _ z (j + c) 1075 hz (Nat.mul_ne_zero hm (by decide)) (by omega) ?_
    rw [← h, ← e2, Nat.mul_assoc, Nat.mul_assoc, ← Nat.pow_add, ← Nat.pow_add]
    congr 2
    omega
  constructor
  · unfold Ieee.Format.mul
    rw [e1, e3, ← key]
    show some (Ieee.double.nearest (s ^^ false) (m * 2 ^ 52) _) = _
    rw [Bool.xor_false]
  · unfold Ieee.Format.mul
    rw [e1, e3, ← key]
    show some (Ieee.double.nearest (false ^^ s) (2 ^ 52 * m) ((-1074 + (c - 1 : Nat)) + i)) = _
    rw [Bool.false_xor, Nat.mul_comm, Int.add_comm]
/-- A float of an int. -/
theorem float_of (n : Int) (z : Nat) (hz : z < 2047 * 2 ^ 52) (h : U z = n.natAbs * KU) : floatOfInt .f64 n = Ieee.double.word (decide (n < 0)) z := by
  by_cases h0 : n = 0
  · have : z = 0 := by
      refine Nat.le_antisymm (Nat.le_of_not_lt fun h1 => ?_) (Nat.zero_le _)
      have := U_pos h1
      rw [h, h0, Int.natAbs_zero, Nat.zero_mul] at this
      exact absurd this (by decide)
    rw [h0, this]
    show Ieee.double.nearest (decide ((0 : Int) < 0)) (0 : Int).natAbs 0 = _
    rfl
  · show Ieee.double.nearest (decide (n < 0)) n.natAbs 0 = _
    exact near_exact _ _ _ z n74 0 hz (fun e => h0 (Int.natAbs_eq_zero.1 e)) (by decide) (by rw [h, Nat.pow_zero, Nat.mul_one, KU_eq])
theorem signed_zero (s : Bool) (n : Nat) : Ieee.signed s n 0 = if s then -(n : Int) else n := rfl
/-- A whole number above 0 as an int. -/
theorem int_of (z k : Nat) (hz : z < 2047 * 2 ^ 52) (h : U z = k * KU) (h0 : 0 < k) (hk : k < 2 ^ 64) : floatToIntVal .f64 (Ieee.double.word false z) .u64 = some (k : Int) := by
  obtain ⟨m, i, e1, _, hi, hi2, e2⟩ := read_number false z hz
  have e3 : (Ieee.Datum.number false m i).toInt .zero = some (k : Int) := by
    show some (Ieee.signed false (Ieee.Toward.zero.cut false (m <<< i.toNat) (-i).toNat) 0) = _
    rw [signed_zero]
    have hm0 : m ≠ 0 := fun e => by
      have hp : 0 < k * KU := Nat.mul_pos h0 KU_pos
      rw [← h, ← e2, e, Nat.zero_mul] at hp
      exact absurd hp (by decide)
    have hcut : ∀ n d q : Nat, n ≠ 0 → n = q * 2 ^ d → Ieee.Toward.zero.cut false n d = q := fun n d q hn e => by
      have hl : n < 2 ^ (n.log2 + 1) := Nat.lt_log2_self
      have hd : d ≤ n.log2 + 2 := by
        refine Nat.le_of_not_lt fun hd => ?_
        have hq : q ≠ 0 := fun e2 => hn (by rw [e, e2, Nat.zero_mul])
        have h2 : 2 ^ d ≤ n := by rw [e]; exact Nat.le_mul_of_pos_left _ (Nat.pos_of_ne_zero hq)
        have h3 : 2 ^ (n.log2 + 1) ≤ 2 ^ d := Nat.pow_le_pow_right (by decide) (by omega)
        omega
      unfold Ieee.Toward.cut
      simp only [Nat.min_eq_left hd, Nat.one_shiftLeft]
      rw [e, Nat.mul_div_cancel _ (Nat.two_pow_pos d)]
      rfl
    rw [hcut _ _ k ?_ ?_]
    · rfl
    · rw [Nat.shiftLeft_eq]; exact Nat.mul_ne_zero hm0 (Nat.ne_of_gt (Nat.two_pow_pos _))
    · rw [Nat.shiftLeft_eq]
      refine Nat.eq_of_mul_eq_mul_right (Nat.two_pow_pos (i + 1074).toNat) ?_
      rw [Nat.mul_right_comm, e2, h, KU_eq, Nat.mul_assoc, Nat.mul_assoc, ← Nat.pow_add, ← Nat.pow_add]
      congr 2
      have := n74_eq
      omega
  unfold floatToIntVal
  show (match (Ieee.double.read (Ieee.double.word false z)).toInt .zero with | some n => if IntKind.u64.min ≤ n ∧ n ≤ IntKind.u64.max then some n else none | none => none) = _
  rw [e1, e3]
  show (if (0 : Int) ≤ k ∧ (k : Int) ≤ 18446744073709551615 then some (k : Int) else none) = _
  rw [if_pos (by omega)]
/-- The rung of what is below 2^-1022, by 2^52. -/
theorem lift_sub {r : Nat} (h0 : 0 < r) (h : r < 2 ^ 52) : ∃ y, 2 ^ 52 ≤ y ∧ y < 2 ^ 60 ∧ U y = U r * 2 ^ 52 := by
  obtain ⟨y, hy⟩ := rep 52 r (by omega)
  rw [U_low h]
  refine ⟨y, Nat.le_of_not_lt fun h1 => ?_, Nat.lt_of_not_le fun h1 => ?_, hy⟩
  · have := U_low h1
    omega
  · have h2 := U_le_iff.2 h1
    have h3 : r * 2 ^ 52 < 2 ^ 104 := by omega
    have h4 : 2 ^ 104 < U (2 ^ 60) := by decide
    omega
/-- What Ldexp comes to: y is the rung with all its digits, e + 1 and f what its word is made of; g is its power, all in all. -/
theorem ld_math (y f e : Nat) (g : Int) (z a b : Nat) (hf : f < 2 ^ 52) (hy : y = 2 ^ 52 * (e + 1) + f) (hab : (b : Int) - a = g) (h : U z * 2 ^ a = U y * 2 ^ b) :
    (2046 ≤ e + g → 2047 * 2 ^ 52 ≤ z) ∧ (e + g < 2046 → z < 2047 * 2 ^ 52) ∧ -53 < e + g ∧ (0 ≤ e + g → z = ((e + g).toNat + 1) * 2 ^ 52 + f)
    ∧ (U (((e + g + 53).toNat + 1) * 2 ^ 52 + f) = U z * 2 ^ 53) := by
  have hU : U y = (2 ^ 52 + f) * 2 ^ e := by rw [hy, U_mk e f hf]
  rw [hU, Nat.mul_assoc, ← Nat.pow_add] at h
  have hz : 0 < U z := by
    refine Nat.pos_of_ne_zero fun e0 => ?_
    rw [e0, Nat.zero_mul] at h
    exact absurd h.symm (Nat.mul_ne_zero (by omega) (Nat.ne_of_gt (Nat.two_pow_pos _)))
  have c3 : -53 < e + g := by
    refine Int.lt_of_not_ge fun hn => ?_
    have h1 : 2 ^ a ≤ U z * 2 ^ a := Nat.le_mul_of_pos_left _ hz
    have h2 : (2 ^ 52 + f) * 2 ^ (e + b) < 2 ^ (53 + (e + b)) := by rw [Nat.pow_add 2 53]; exact Nat.mul_lt_mul_of_pos_right (by omega) (Nat.two_pow_pos _)
    have h3 : 2 ^ (53 + (e + b)) ≤ 2 ^ a := Nat.pow_le_pow_right (by decide) (by omega)
    omega
  have mk : ∀ (k u v : Nat), (k : Int) + v = e + g + u → U ((k + 1) * 2 ^ 52 + f) * 2 ^ v = U z * 2 ^ u := fun k u v hk => by
    rw [Nat.mul_comm (k + 1), U_mk k f hf, Nat.mul_assoc, ← Nat.pow_add]
    refine Nat.eq_of_mul_eq_mul_right (Nat.two_pow_pos a) ?_
    rw [Nat.mul_right_comm (U z), h, Nat.mul_assoc, Nat.mul_assoc, ← Nat.pow_add, ← Nat.pow_add]
    congr 2
    omega
  have c4 : 0 ≤ e + g → z = ((e + g).toNat + 1) * 2 ^ 52 + f := fun hn => by
    have := mk (e + g).toNat 0 0 (by omega)
    rw [Nat.pow_zero, Nat.mul_one, Nat.mul_one] at this
    exact (U_inj this).symm
  refine ⟨fun hn => ?_, fun hn => ?_, c3, c4, ?_⟩
  · rw [c4 (by omega)]
    omega
  · by_cases h2 : 0 ≤ e + g
    · rw [c4 h2]
      omega
    · have h3 := mk (e + g + 53).toNat 53 0 (by omega)
      rw [Nat.pow_zero, Nat.mul_one] at h3
      have h4 : U z ≤ U (((e + g + 53).toNat + 1) * 2 ^ 52 + f) := by rw [h3]; exact Nat.le_mul_of_pos_right _ (by decide)
      have := U_le_iff.1 h4
      omega
  · have h3 := mk (e + g + 53).toNat 53 0 (by omega)
    rw [Nat.pow_zero, Nat.mul_one] at h3
    exact h3
/-- The rung that is next below n by d, in units of 2^-1074, or it. -/
def Fl (n d z : Nat) : Prop := U z * d ≤ n * KU ∧ n * KU < U (z + 1) * d
theorem Fl.one {n d z y : Nat} (h : Fl n d z) (h1 : Fl n d y) : z = y := by
  have a1 : U z < U (y + 1) := Nat.lt_of_mul_lt_mul_right (a := d) (Nat.lt_of_le_of_lt h.1 h1.2)
  have a2 : U y < U (z + 1) := Nat.lt_of_mul_lt_mul_right (a := d) (Nat.lt_of_le_of_lt h1.1 h.2)
  have := U_lt_iff.1 a1
  have := U_lt_iff.1 a2
  omega
/-- Of digits: q is what n by d is, times 2^g, the rest left out. -/
theorem fl_of (n d q t : Nat) (hq : q < 2 ^ 53) (ht : t = 0 ∨ 2 ^ 52 ≤ q) (g : Int) (a b : Nat) (hg : (1074 : Int) - t = g) (hab : (b : Int) - a = g) (h1 : q * (d * 2 ^ a) ≤ n * 2 ^ b) (h2 : n * 2 ^ b < (q + 1) * (d * 2 ^ a)) :
    Fl n d (t * 2 ^ 52 + q) ∧ U (t * 2 ^ 52 + q) = q * 2 ^ t ∧ (U (t * 2 ^ 52 + q) * d = n * KU ↔ n * 2 ^ b = q * (d * 2 ^ a)) := by
  have e1 : U (t * 2 ^ 52 + q) = q * 2 ^ t := U_t t q ht (by omega)
  have e2 : U (t * 2 ^ 52 + q + 1) = (q + 1) * 2 ^ t := by rw [Nat.add_assoc]; exact U_t t (q + 1) (by omega) (by omega)
  have hp : 0 < 2 ^ (a + t) := Nat.two_pow_pos _
  have m1 : ∀ x : Nat, x * 2 ^ t * d * 2 ^ (a + t) = x * (d * 2 ^ a) * 2 ^ (t + t) := fun x => by
    rw [Nat.pow_add, Nat.pow_add]
    generalize 2 ^ t = T
    generalize 2 ^ a = A
    simp only [Nat.mul_comm, Nat.mul_left_comm]
  have m2 : n * KU * 2 ^ (a + t) = n * 2 ^ b * 2 ^ (t + t) := by
    rw [KU_eq, Nat.mul_assoc, Nat.mul_assoc, ← Nat.pow_add, ← Nat.pow_add]
    congr 2
    have := n74_eq
    omega
  have hp2 : 0 < 2 ^ (t + t) := Nat.two_pow_pos _
  refine ⟨⟨?_, ?_⟩, e1, ?_⟩
  · refine Nat.le_of_mul_le_mul_right (c := 2 ^ (a + t)) ?_ hp
    rw [e1, m1, m2]
    exact Nat.mul_le_mul_right _ h1
  · refine Nat.lt_of_mul_lt_mul_right (a := 2 ^ (a + t)) ?_
    rw [e2, m1, m2]
    exact Nat.mul_lt_mul_of_pos_right h2 hp2
  · rw [e1]
    constructor
    · intro h
      have h3 : q * 2 ^ t * d * 2 ^ (a + t) = n * KU * 2 ^ (a + t) := by rw [h]
      rw [m1, m2] at h3
      exact (Nat.eq_of_mul_eq_mul_right hp2 h3).symm
    · intro h
      refine Nat.eq_of_mul_eq_mul_right hp ?_
      rw [m1, m2, h]
end Nt
end Go.Proofs.YtgmjdaallinicaaDoor
namespace Go.Proofs.YtgmjdaallinicaaDoor
namespace Nt

theorem and_none (r j : Nat) (h : r < 2 ^ j) : r &&& 2 ^ j = 0 := by
  refine Nat.eq_of_testBit_eq fun i => ?_
  rw [Nat.testBit_and, Nat.testBit_two_pow, Nat.zero_testBit]
  by_cases hi : j = i
  · subst hi
    rw [Nat.testBit_lt_two_pow h, Bool.false_and]
  · rw [decide_eq_false hi, Bool.and_false]
theorem w_val (s : Bool) (r : Nat) : Ieee.double.word s r = 2 ^ 63 * s.toNat + r := by cases s <;> simp [Ieee.Format.word, Ieee.Format.signWeight, Ieee.double]
theorem w_lt (s : Bool) (r : Nat) (h : r < 2 ^ 63) : Ieee.double.word s r < 2 ^ 64 := by
  rw [w_val]; cases s <;> simp <;> omega
theorem w_or1 (s : Bool) (r : Nat) (h : r < 2 ^ 63) : Ieee.double.word s r = (2 ^ 63 * s.toNat) ||| r := by
  rw [w_val, Nat.two_pow_add_eq_or_of_lt h]
theorem w_abs (s : Bool) (r : Nat) (h : r < 2 ^ 63) : Ieee.double.word s r &&& (18446744073709551615 - 9223372036854775808) = r := by
  show Ieee.double.word s r &&& (2 ^ 63 - 1) = r
  rw [Nat.and_two_pow_sub_one_eq_mod, w_val]
  cases s <;> simp <;> omega
theorem w_sign (s : Bool) (r : Nat) (h : r < 2 ^ 63) : Ieee.double.word s r &&& 9223372036854775808 = Ieee.double.word s 0 := by
  show Ieee.double.word s r &&& 2 ^ 63 = _
  rw [w_or1 s r h, Nat.and_or_distrib_right, and_none r 63 h]
  cases s <;> rfl
theorem w_orsign (s : Bool) (r : Nat) (h : r < 2 ^ 63) : r ||| Ieee.double.word s 0 = Ieee.double.word s r := by
  rw [w_or1 s r h, w_or1 s 0 (by decide), Nat.or_zero, Nat.or_comm]
theorem w_exp (s : Bool) (y : Nat) (h : y < 2 ^ 63) : (Ieee.double.word s y / 2 ^ 52) &&& 2047 = y / 2 ^ 52 := by
  show (Ieee.double.word s y / 2 ^ 52) &&& (2 ^ 11 - 1) = y / 2 ^ 52
  rw [Nat.and_two_pow_sub_one_eq_mod, w_val]
  cases s <;> simp <;> omega
theorem w_or (s : Bool) (k f : Nat) (hk : k < 2048) (hf : f < 2 ^ 52) : Ieee.double.word s f ||| (k * 2 ^ 52) = Ieee.double.word s (k * 2 ^ 52 + f) := by
  have e : k * 2 ^ 52 + f = 2 ^ 52 * k ||| f := by rw [Nat.mul_comm, Nat.two_pow_add_eq_or_of_lt hf]
  rw [w_or1 s f (by omega), w_or1 s (k * 2 ^ 52 + f) (by omega), e, Nat.mul_comm k, Nat.or_assoc, Nat.or_comm f]
theorem w_frac (s : Bool) (y : Nat) (h : y < 2 ^ 63) : Ieee.double.word s y &&& (18446744073709551615 - 9218868437227405312) = Ieee.double.word s (y % 2 ^ 52) := by
  have e : 18446744073709551615 - 9218868437227405312 = 2 ^ 63 ||| (2 ^ 52 - 1) := by decide
  have h2 : y % 2 ^ 52 < 2 ^ 52 := Nat.mod_lt _ (by decide)
  have e3 : Ieee.double.word s y % 2 ^ 52 = y % 2 ^ 52 := by
    rw [w_val]
    cases s <;> simp <;> omega
  rw [e, Nat.and_or_distrib_left, Nat.and_two_pow_sub_one_eq_mod, e3, show (2 : Nat) ^ 63 = 9223372036854775808 from rfl, w_sign s y h, Nat.or_comm, w_orsign s _ (by omega)]
theorem bi_andn (t : TypeId) (a b c : Nat) (ha : a < 2 ^ 64) (hb : b < 2 ^ 64) (h : a &&& (18446744073709551615 - b) = c) : binOp .andNot t (.int .u64 (a : Int)) (.int .u64 (b : Int)) = pure (.int .u64 (c : Int)) := by
  rw [binOp_andNot, intBits_andNot, u64_andNot_nat _ _ ha hb, h]
theorem bi_or (t : TypeId) (a b c : Nat) (ha : a < 2 ^ 64) (hb : b < 2 ^ 64) (h : a ||| b = c) : binOp .or t (.int .u64 (a : Int)) (.int .u64 (b : Int)) = pure (.int .u64 (c : Int)) := by
  rw [binOp_or, intBits_or, u64_or_nat _ _ ha hb, h]
theorem bi_and (t : TypeId) (a b c : Nat) (ha : a < 2 ^ 64) (hb : b < 2 ^ 64) (h : a &&& b = c) : binOp .and t (.int .u64 (a : Int)) (.int .u64 (b : Int)) = pure (.int .u64 (c : Int)) := by
  rw [binOp_and, intBits_and, u64_and_nat _ _ ha hb, h]
/-- An operation on floats. -/
theorem fl_op {op : BinOp} (t : TypeId) {x y r : Nat} (P : Program) (W : World) (h : floatBits op .f64 x y = some r) : (binOp op t (.float .f64 x) (.float .f64 y)).run P W = .ok (.float .f64 r) W := run_float_arith W op t .f64 x y r h
end Nt
end Go.Proofs.YtgmjdaallinicaaDoor
namespace Go.Proofs.YtgmjdaallinicaaDoor
namespace Nt

/-- The fraction that a float is. -/
def rq (s : Bool) (r : Nat) : Rat := mkRat (I s r) KU
theorem I_f (r : Nat) : I false r = U r := rfl
theorem I_t (r : Nat) : I true r = -(U r : Int) := rfl
theorem I_zero (s : Bool) : I s 0 = 0 := by cases s <;> rfl
theorem mk_ends (n : Int) (d : Nat) (hd : d ≠ 0) : ∃ m : Nat, 0 < m ∧ n = (mkRat n d).num * m ∧ d = (mkRat n d).den * m := by
  obtain ⟨m, h1, h2, h3⟩ := Rat.mkRat_num_den hd (show mkRat n d = ⟨(mkRat n d).num, (mkRat n d).den, (mkRat n d).den_nz, (mkRat n d).reduced⟩ from rfl)
  exact ⟨m, Nat.pos_of_ne_zero h1, h2, h3⟩
theorem rq_ends (s : Bool) (r : Nat) : ∃ m : Nat, 0 < m ∧ I s r = (rq s r).num * m ∧ KU = (rq s r).den * m := mk_ends _ _ (Nat.ne_of_gt KU_pos)
theorem rq_le (s : Bool) (r : Nat) (q : Rat) : rq s r ≤ q ↔ I s r * q.den ≤ q.num * KU := by
  obtain ⟨m, h1, h2, h3⟩ := rq_ends s r
  have hm : (0 : Int) < m := by omega
  rw [Rat.le_iff, h2]
  have e : (KU : Int) = ((rq s r).den : Int) * m := by rw [h3]; push_cast; rfl
  rw [e, Int.mul_right_comm, ← Int.mul_assoc]
  exact (Int.mul_le_mul_right hm).symm
theorem le_rq (s : Bool) (r : Nat) (q : Rat) : q ≤ rq s r ↔ q.num * KU ≤ I s r * q.den := by
  obtain ⟨m, h1, h2, h3⟩ := rq_ends s r
  have hm : (0 : Int) < m := by omega
  rw [Rat.le_iff, h2]
  have e : (KU : Int) = ((rq s r).den : Int) * m := by rw [h3]; push_cast; rfl
  rw [e, Int.mul_right_comm, ← Int.mul_assoc]
  exact (Int.mul_le_mul_right hm).symm
theorem rq_lt (s : Bool) (r : Nat) (q : Rat) : rq s r < q ↔ I s r * q.den < q.num * KU := by
  rw [← Rat.not_le, le_rq, Int.not_le]
theorem lt_rq (s : Bool) (r : Nat) (q : Rat) : q < rq s r ↔ q.num * KU < I s r * q.den := by
  rw [← Rat.not_le, rq_le, Int.not_le]
theorem rq_zero (s : Bool) : rq s 0 = 0 := by unfold rq; rw [I_zero]; exact Rat.zero_mkRat _
theorem rq_rq (s t : Bool) (a b : Nat) : rq s a + rq t b = mkRat (I s a + I t b) KU := by
  unfold rq
  rw [Rat.mkRat_add_mkRat _ _ (Nat.ne_of_gt KU_pos) (Nat.ne_of_gt KU_pos), ← Int.add_mul]
  exact Rat.mkRat_mul_right (Nat.ne_of_gt KU_pos)
/-- Bounds of a number: z is the rung below its size, x says whether that is it. -/
def loR (z : Nat) : Nat := min z (2047 * 2 ^ 52 - 1)
def hiR (z : Nat) (x : Bool) : Nat := min (if x then z else z + 1) (2047 * 2 ^ 52)
theorem loR_lt (z : Nat) : loR z < 2047 * 2 ^ 52 := by unfold loR; omega
theorem hiR_le (z : Nat) (x : Bool) : hiR z x ≤ 2047 * 2 ^ 52 := by unfold hiR; omega
/-- Bounds of a fraction: sign, real part's rung, imaginary part's rung. -/
structure Qb (s : Bool) (n d : Nat) (rs : Bool) (r : Nat) (is : Bool) (i : Nat) : Prop where
  mk' ::
  ex : ∃ z x, Fl n d z ∧ x = decide (U z * d = n * KU) ∧ (if s then rs = true ∧ r = hiR z x ∧ is = (decide (0 < loR z)) ∧ i = loR z else rs = false ∧ r = loR z ∧ is = false ∧ i = hiR z x)
theorem Qb.one {s : Bool} {n d : Nat} {rs is rs' is' : Bool} {r i r' i' : Nat} (h : Qb s n d rs r is i) (h' : Qb s n d rs' r' is' i') : rs = rs' ∧ r = r' ∧ is = is' ∧ i = i' := by
  obtain ⟨z, x, f, hx, h⟩ := h
  obtain ⟨z', x', f', hx', h'⟩ := h'
  obtain rfl := f.one f'
  subst hx hx'
  cases s
  · simp only [Bool.false_eq_true, if_false] at h h'
    obtain ⟨rfl, rfl, rfl, rfl⟩ := h
    obtain ⟨rfl, rfl, rfl, rfl⟩ := h'
    exact ⟨rfl, rfl, rfl, rfl⟩
  · simp only [if_true] at h h'
    obtain ⟨rfl, rfl, rfl, rfl⟩ := h
    obtain ⟨rfl, rfl, rfl, rfl⟩ := h'
    exact ⟨rfl, rfl, rfl, rfl⟩
end Nt
end Go.Proofs.YtgmjdaallinicaaDoor
namespace Go.Proofs.YtgmjdaallinicaaDoor
namespace Nt

theorem read_word (s : Bool) (r : Nat) (h : r < 2047 * 2 ^ 52) : Ieee.double.read (Ieee.double.word s r) = (if r < 2 ^ 52 then Ieee.Datum.number s r (-1074) else Ieee.Datum.number s (2 ^ 52 + r % 2 ^ 52) (-1074 + (r / 2 ^ 52 - 1 : Nat))) := by
  have ew : (Ieee.double.word s r) / 2 ^ 63 % 2 = (if s then 1 else 0) ∧ (Ieee.double.word s r) % 2 ^ 63 = r := by
    cases s <;> simp only [Ieee.Format.word, Ieee.Format.signWeight, Ieee.double] <;> constructor <;> simp <;> omega
  have es : ((Ieee.double.word s r) / 2 ^ 63 % 2 == 1) = s := by rw [ew.1]; cases s <;> rfl
  show (let neg := (Ieee.double.word s r) / 2 ^ 63 % 2 == 1; let rung := (Ieee.double.word s r) % 2 ^ 63; if rung < 2 ^ 52 then Ieee.Datum.number neg rung (-1074) else if rung < 2047 * 2 ^ 52 then Ieee.Datum.number neg (2 ^ 52 + rung % 2 ^ 52) (-1074 + (rung / 2 ^ 52 - 1 : Nat)) else if rung = 2047 * 2 ^ 52 then .infinity neg else .nan neg (rung - 2047 * 2 ^ 52)) = _
  simp only [es, ew.2, if_pos h]
theorem read_neg (t : Bool) (b : Nat) (h : b < 2047 * 2 ^ 52) : (Ieee.double.read (Ieee.double.word t b)).opposite = Ieee.double.read (Ieee.double.word (!t) b) := by
  rw [read_word t b h, read_word (!t) b h]
  split <;> rfl
theorem sub_add (x : Nat) (t : Bool) (b : Nat) (h : b < 2047 * 2 ^ 52) : Ieee.double.sub x (Ieee.double.word t b) = Ieee.double.add x (Ieee.double.word (!t) b) := by
  unfold Ieee.Format.sub Ieee.Format.add
  rw [read_neg t b h]
theorem I_not (s : Bool) (x : Nat) : I (!s) x = -I s x := by cases s <;> simp [I]
theorem nearest_zero (s : Bool) (p : Int) : Ieee.double.nearest s 0 p = Ieee.double.word s 0 := rfl
theorem U_twice (r : Nat) (h : 2 ^ 52 ≤ r) : U (r + 2 ^ 52) = 2 * U r := by
  obtain ⟨a, b, hb, rfl⟩ := rung_split r (by omega)
  have e : 2 ^ 52 * (a + 1) + b + 2 ^ 52 = 2 ^ 52 * (a + 1 + 1) + b := by omega
  rw [e, U_mk _ b hb, U_mk _ b hb, Nat.pow_succ 2 a, ← Nat.mul_assoc, Nat.mul_comm _ 2]
/-- What is next below. -/
def dn (s : Bool) (r : Nat) : Bool × Nat := if s then (true, r + 1) else if r = 0 then (true, 1) else (false, r - 1)
theorem dn_t (r : Nat) : dn true r = (true, r + 1) := rfl
theorem dn_f {r : Nat} (h : r ≠ 0) : dn false r = (false, r - 1) := by unfold dn; rw [if_neg (by decide), if_neg h]
/-- A sum of two that has a rung. -/
theorem add_exact (s t : Bool) (a b z : Nat) (ha : a < 2047 * 2 ^ 52) (hb : b < 2047 * 2 ^ 52) (hz : z < 2047 * 2 ^ 52) (h : U z = (I s a + I t b).natAbs) :
    Ieee.double.add (Ieee.double.word s a) (Ieee.double.word t b) = some (Ieee.double.word (if I s a + I t b = 0 then s && t else decide (I s a + I t b < 0)) z) := by
  obtain ⟨m, k, h1, h2⟩ := add_words s t a b ha hb
  rw [h2]
  by_cases hm : m = 0
  · rw [hm, Nat.zero_mul] at h1
    have : z = 0 := by
      refine Nat.le_antisymm (Nat.le_of_not_lt fun h3 => ?_) (Nat.zero_le _)
      have := U_pos h3
      omega
    rw [hm, this, nearest_zero]
  · rw [near_exact _ m _ z k 0 hz hm (by omega) (by rw [h, h1, Nat.pow_zero, Nat.mul_one])]
theorem I_of (z : Nat) (D : Int) (h : U z = D.natAbs) (s t : Bool) (hs : (s && t) = false) : I (if D = 0 then s && t else decide (D < 0)) z = D := by
  by_cases h0 : D = 0
  · have : U z = 0 := by rw [h, h0]; rfl
    rw [if_pos h0, hs, I_f, this, h0]
    rfl
  · rw [if_neg h0]
    by_cases h1 : D < 0
    · rw [decide_eq_true h1, I_t, h]
      omega
    · rw [decide_eq_false h1, I_f, h]
      omega
/-- The greatest float that is not above T units. -/
def Dn (T : Int) (s : Bool) (r : Nat) : Prop := (T = 0 ∧ s = false ∧ r = 0) ∨ (0 < T ∧ s = false ∧ (U r : Int) ≤ T ∧ T < U (r + 1)) ∨ (T < 0 ∧ s = true ∧ ∃ z, (U z : Int) ≤ -T ∧ -T < U (z + 1) ∧ r = if (U z : Int) = -T then z else z + 1)
theorem Dn.one {T : Int} {s s' : Bool} {r r' : Nat} (h : Dn T s r) (h' : Dn T s' r') : s = s' ∧ r = r' := by
  have key : ∀ (V : Int) (a b : Nat), (U a : Int) ≤ V → V < U (b + 1) → a ≤ b := fun V a b h1 h2 => by
    have : U a < U (b + 1) := by omega
    have := U_lt_iff.1 this
    omega
  rcases h with ⟨h1, rfl, rfl⟩ | ⟨h1, rfl, h2, h3⟩ | ⟨h1, rfl, z, h2, h3, rfl⟩ <;> rcases h' with ⟨k1, rfl, rfl⟩ | ⟨k1, rfl, k2, k3⟩ | ⟨k1, rfl, y, k2, k3, rfl⟩ <;> first | omega | skip
  · exact ⟨rfl, rfl⟩
  · exact ⟨rfl, Nat.le_antisymm (key T _ _ h2 k3) (key T _ _ k2 h3)⟩
  · obtain rfl := Nat.le_antisymm (key (-T) _ _ h2 k3) (key (-T) _ _ k2 h3)
    exact ⟨rfl, rfl⟩
theorem sum_down (s t : Bool) (x y : Nat) (hx : x < 2023 * 2 ^ 52) (hyx : y ≤ x) (hT : I s x + I t y ≠ 0) :
    ∃ ρ ds δ, Ieee.double.add (Ieee.double.word s x) (Ieee.double.word t y) = some (Ieee.double.word s ρ) ∧ 1 ≤ ρ ∧ ρ < 2025 * 2 ^ 52
      ∧ Ieee.double.sub (Ieee.double.word s ρ) (Ieee.double.word s x) = some (Ieee.double.word ds δ) ∧ δ < 2047 * 2 ^ 52 ∧ I ds δ = I s ρ - I s x
      ∧ (I s ρ ≤ I s x + I t y → Dn (I s x + I t y) s ρ) ∧ (I s x + I t y < I s ρ → Dn (I s x + I t y) (dn s ρ).1 (dn s ρ).2) := by
  obtain ⟨m, k, h1, h2⟩ := add_words s t x y (by omega) (by omega)
  have hUyx : U y ≤ U x := U_le_iff.2 hyx
  rw [if_neg hT] at h2
  have hsg : decide (I s x + I t y < 0) = s := by
    cases s <;> cases t <;> simp only [I, Bool.false_eq_true, if_false, if_true] at hT ⊢ <;> simp <;> omega
  rw [hsg] at h2
  have hm : m ≠ 0 := fun e => by rw [e, Nat.zero_mul] at h1; omega
  obtain ⟨r, b, n1, n2, n3, nf, nt⟩ := near_two s m k hm
  rw [← h1] at n1 n2 nf nt
  obtain ⟨N, hN⟩ : ∃ N, (I s x + I t y).natAbs = N := ⟨_, rfl⟩
  rw [hN] at n1 n2 nf nt
  have hNxy : N = U x + U y ∨ N + U y = U x := by
    rw [← hN]
    cases s <;> cases t <;> simp only [I, Bool.false_eq_true, if_false, if_true] <;> omega
  have hbig : r < 2024 * 2 ^ 52 := by
    have a1 : U x < U (2023 * 2 ^ 52) := U_lt hx
    refine U_lt_iff.1 ?_
    have e1 := U_twice (2023 * 2 ^ 52) (by omega)
    rw [show 2023 * 2 ^ 52 + 2 ^ 52 = 2024 * 2 ^ 52 from by omega] at e1
    generalize U (2023 * 2 ^ 52) = V at *
    generalize U (2024 * 2 ^ 52) = V2 at *
    omega
  have hb1 : b.toNat ≤ 1 := by cases b <;> decide
  have hr1 : 1 ≤ r := by
    have : 0 < N := by omega
    have h3 : U 1 < U (r + 1) := by rw [U_one]; omega
    have := U_lt_iff.1 h3
    omega
  obtain ⟨z, hz⟩ := sum_less x y r N b hyx hNxy n1 n2 nf nt
  have hρ : min (r + b.toNat) (2047 * 2 ^ 52) = r + b.toNat := by omega
  rw [hρ] at n3
  obtain ⟨ρ, eρ⟩ : ∃ ρ, r + b.toNat = ρ := ⟨_, rfl⟩
  rw [eρ] at n3 hz
  have hzD : U z = (I s ρ + I (!s) x).natAbs := by
    rw [I_not, hz]
    cases s <;> simp only [I, Bool.false_eq_true, if_false, if_true] <;> omega
  have hzi : z < 2047 * 2 ^ 52 := by
    refine U_lt_iff.1 ?_
    have a1 : U x < U (2047 * 2 ^ 52) := U_lt (by omega)
    have a2 : U ρ < U (2047 * 2 ^ 52) := U_lt (by omega)
    rw [hz]
    omega
  refine ⟨ρ, _, z, by rw [h2, n3], by omega, by omega, by rw [sub_add _ s x (by omega)]; exact add_exact s (!s) ρ x z (by omega) (by omega) hzi hzD, hzi, ?_, ?_, ?_⟩
  · rw [I_of z _ hzD s (!s) (by cases s <;> rfl), I_not]
    rfl
  · intro hle
    cases s
    · right; left
      have hp : 0 < I false x + I t y := by
        have := decide_eq_false_iff_not.1 hsg
        omega
      have hN2 : (N : Int) = I false x + I t y := by omega
      rw [I_f ρ] at hle
      have hU : U ρ ≤ N := by omega
      have : ρ = r := by
        have a1 : U ρ < U (r + 1) := by omega
        have := U_lt_iff.1 a1
        omega
      subst this
      exact ⟨hp, rfl, by omega, by omega⟩
    · right; right
      have hp : I true x + I t y < 0 := of_decide_eq_true hsg
      have hN2 : (N : Int) = -(I true x + I t y) := by omega
      rw [I_t ρ] at hle
      have hU : N ≤ U ρ := by omega
      refine ⟨hp, rfl, r, by omega, by omega, ?_⟩
      by_cases e : (U r : Int) = -(I true x + I t y)
      · rw [if_pos e]
        cases b
        · exact eρ.symm
        · exfalso
          have h5 := nt rfl
          have a1 : U r < U (r + 1) := U_succ r
          have h6 : N = U r := by omega
          clear nt nf hle hU hzD hz hT h2 n3 hsg
          omega
      · rw [if_neg e]
        cases b
        · exfalso
          have : ρ = r := eρ.symm
          rw [this] at hU
          omega
        · exact eρ.symm
  · intro hlt
    cases s
    · right; left
      have hp : 0 < I false x + I t y := by
        have := decide_eq_false_iff_not.1 hsg
        omega
      have hN2 : (N : Int) = I false x + I t y := by omega
      rw [I_f ρ] at hlt
      have hb : ρ = r + 1 := by
        cases b
        · exfalso
          have : ρ = r := eρ.symm
          rw [this] at hlt
          omega
        · exact eρ.symm
      rw [dn_f (by omega), hb]
      exact ⟨hp, rfl, by show (U r : Int) ≤ _; omega, by show _ < (U (r + 1) : Int); omega⟩
    · right; right
      have hp : I true x + I t y < 0 := of_decide_eq_true hsg
      have hN2 : (N : Int) = -(I true x + I t y) := by omega
      rw [I_t ρ] at hlt
      have hb : ρ = r := by
        cases b
        · exact eρ.symm
        · exfalso
          have : ρ = r + 1 := eρ.symm
          rw [this] at hlt
          omega
      rw [dn_t]
      refine ⟨hp, rfl, r, by omega, by omega, ?_⟩
      rw [hb] at hlt ⊢
      show r + 1 = _
      rw [if_neg (by omega)]
/-- A number less than nothing. -/
theorem zero_sub (t : Bool) (b : Nat) (hb : b ≤ 2047 * 2 ^ 52) : Ieee.double.sub (Ieee.double.word false 0) (Ieee.double.word t b) = some (Ieee.double.word (!t && decide (0 < b)) b) := by
  by_cases h : b < 2047 * 2 ^ 52
  · rw [sub_add _ t b h, add_exact false (!t) 0 b b (by decide) h h (by rw [I_not, I_zero]; cases t <;> simp [I])]
    congr 2
    rw [I_zero, I_not, Int.zero_add]
    by_cases h0 : b = 0
    · subst h0
      rw [I_zero]
      cases t <;> rfl
    · have hp := U_pos (Nat.pos_of_ne_zero h0)
      rw [decide_eq_true (Nat.pos_of_ne_zero h0)]
      cases t <;> simp only [I, Bool.false_eq_true, if_false, if_true] <;> simp <;> omega
  · have e : b = 2047 * 2 ^ 52 := by omega
    subst e
    cases t <;> decide
end Nt
end Go.Proofs.YtgmjdaallinicaaDoor
namespace Go.Proofs.YtgmjdaallinicaaDoor
open Go.RowKit
namespace Nt

theorem f64bits (x : Nat) (w : World) : (callFunc 51 #[.float .f64 x]).run Tryd.prog w = .ok (.value (.int .u64 (x : Int))) w := by
  rw [run_callFunc_extern Tryd.func51 (by kernel_rfl) (by kernel_rfl) (by kernel_rfl) (e := Extern.MathFloatBits.float64bits) (by kernel_rfl)]
  rfl
theorem f64from (x : Nat) (w : World) : (callFunc 50 #[.int .u64 (x : Int)]).run Tryd.prog w = .ok (.value (.float .f64 x)) w := by
  rw [run_callFunc_extern Tryd.func50 (by kernel_rfl) (by kernel_rfl) (by kernel_rfl) (e := Extern.MathFloatBits.float64frombits) (by kernel_rfl)]
  rfl
theorem f64from1 (w : World) : (callFunc 50 #[.int .u64 1]).run Tryd.prog w = .ok (.value (.float .f64 1)) w := f64from 1 w
theorem bi_shr (t : TypeId) (k : IntKind) (x s z : Nat) (hs : s ≤ 64) (h : x / 2 ^ s = z) : binOp .shr t (.int .u64 (x : Int)) (.int k (s : Int)) = pure (.int .u64 (z : Int)) := by
  show Op.shift .shr .u64 (x : Int) k (s : Int) = _
  rw [shift_shr_any _ _ _ _ (by omega)]
  have e : (x : Int) / 2 ^ min ((s : Int).toNat) IntKind.u64.bits = (z : Int) := by
    rw [show min ((s : Int).toNat) IntKind.u64.bits = s from by show min _ 64 = _; omega, ← h]
    simp
  rw [e]
theorem bi_shl (t : TypeId) (k : IntKind) (x s z : Nat) (hs : s ≤ 64) (h : x * 2 ^ s = z) (hz : z < 2 ^ 64) : binOp .shl t (.int .u64 (x : Int)) (.int k (s : Int)) = pure (.int .u64 (z : Int)) := by
  show Op.shift .shl .u64 (x : Int) k (s : Int) = _
  rw [shift_shl_any _ _ _ _ (by omega)]
  have e : (x : Int) * 2 ^ min ((s : Int).toNat) IntKind.u64.bits = (z : Int) := by
    rw [show min ((s : Int).toNat) IntKind.u64.bits = s from by show min _ 64 = _; omega, ← h]
    simp
  rw [e, IntKind.wrap_u64]
  have : (z : Int) % 18446744073709551616 = z := Int.emod_eq_of_lt (by omega) (by omega)
  rw [this]
theorem bi_add (t : TypeId) (x y z : Nat) (h : x + y = z) (hz : z < 2 ^ 64) : binOp .add t (.int .u64 (x : Int)) (.int .u64 (y : Int)) = pure (.int .u64 (z : Int)) := by
  show Op.intArith .add .u64 (x : Int) (y : Int) = _
  have e : IntKind.u64.wrap ((x : Int) + (y : Int)) = (z : Int) := by
    rw [IntKind.wrap_u64, ← h]
    have := Int.emod_eq_of_lt (show (0 : Int) ≤ ((x + y : Nat) : Int) by omega) (show ((x + y : Nat) : Int) < 18446744073709551616 by omega)
    rw [← Int.natCast_add, this]
  rw [← e]
  rfl
theorem bi_sub (t : TypeId) (x y z : Nat) (h : z + y = x) (hx : x < 2 ^ 64) : binOp .sub t (.int .u64 (x : Int)) (.int .u64 (y : Int)) = pure (.int .u64 (z : Int)) := by
  show Op.intArith .sub .u64 (x : Int) (y : Int) = _
  have e : IntKind.u64.wrap ((x : Int) - (y : Int)) = (z : Int) := by
    rw [IntKind.wrap_u64]
    have e2 : (x : Int) - y = z := by omega
    rw [e2]
    exact Int.emod_eq_of_lt (by omega) (by omega)
  rw [← e]
  rfl
theorem ii_add (t : TypeId) (x y z : Int) (h : x + y = z) (h1 : -9223372036854775808 ≤ z) (h2 : z ≤ 9223372036854775807) : binOp .add t (.int .i64 x) (.int .i64 y) = pure (.int .i64 z) := by
  show Op.intArith .add .i64 x y = _
  have e : IntKind.i64.wrap (x + y) = z := by
    rw [IntWalk.i64_in _ ⟨by omega, by omega⟩, h]
  rw [← e]
  rfl
theorem ii_sub (t : TypeId) (x y z : Int) (h : x - y = z) (h1 : -9223372036854775808 ≤ z) (h2 : z ≤ 9223372036854775807) : binOp .sub t (.int .i64 x) (.int .i64 y) = pure (.int .i64 z) := by
  show Op.intArith .sub .i64 x y = _
  have e : IntKind.i64.wrap (x - y) = z := by
    rw [IntWalk.i64_in _ ⟨by omega, by omega⟩, h]
  rw [← e]
  rfl
theorem ii_lss (t : TypeId) (x y : Int) (b : Bool) (h : decide (x < y) = b) : binOp .lss t (.int .i64 x) (.int .i64 y) = pure (.bool b) := by rw [← h]; rfl
theorem ii_gtr (t : TypeId) (x y : Int) (b : Bool) (h : decide (y < x) = b) : binOp .gtr t (.int .i64 x) (.int .i64 y) = pure (.bool b) := by rw [← h]; rfl
/-- Comparisons of floats. -/
theorem fl_eql (t : TypeId) (x y : Nat) (b : Bool) (h : (Ieee.double.order x y == some .eq) = b) : binOp .eql t (.float .f64 x) (.float .f64 y) = pure (.bool b) := by rw [binOp_float_cmp_eql, ← h]; rfl
theorem fl_neq (t : TypeId) (x y : Nat) (b : Bool) (h : (Ieee.double.order x y != some .eq) = b) : binOp .neq t (.float .f64 x) (.float .f64 y) = pure (.bool b) := by rw [binOp_float_cmp_neq, ← h]; rfl
theorem fl_lss (t : TypeId) (x y : Nat) (b : Bool) (h : (Ieee.double.order x y == some .lt) = b) : binOp .lss t (.float .f64 x) (.float .f64 y) = pure (.bool b) := by rw [binOp_float_cmp_lss, ← h]; rfl
theorem fl_gtr (t : TypeId) (x y : Nat) (b : Bool) (h : (Ieee.double.order x y == some .gt) = b) : binOp .gtr t (.float .f64 x) (.float .f64 y) = pure (.bool b) := by rw [binOp_float_cmp_gtr, ← h]; rfl
section
variable (s t : Bool) (a b : Nat) (ha : a ≤ 2047 * 2 ^ 52) (hb : b ≤ 2047 * 2 ^ 52)
include ha hb
theorem wo_eq : (Ieee.double.order (Ieee.double.word s a) (Ieee.double.word t b) == some .eq) = decide (I s a = I t b) := by
  rw [order_ext s t a b ha hb, Int.compare_eq_ite_lt]
  by_cases h1 : I s a < I t b
  · rw [if_pos h1, decide_eq_false (by omega)]; rfl
  · by_cases h2 : I t b < I s a
    · rw [if_neg h1, if_pos h2, decide_eq_false (by omega)]; rfl
    · rw [if_neg h1, if_neg h2, decide_eq_true (by omega)]; rfl
theorem wo_lt : (Ieee.double.order (Ieee.double.word s a) (Ieee.double.word t b) == some .lt) = decide (I s a < I t b) := by
  rw [order_ext s t a b ha hb, Int.compare_eq_ite_lt]
  by_cases h1 : I s a < I t b
  · rw [if_pos h1, decide_eq_true h1]; rfl
  · by_cases h2 : I t b < I s a
    · rw [if_neg h1, if_pos h2, decide_eq_false h1]; rfl
    · rw [if_neg h1, if_neg h2, decide_eq_false h1]; rfl
theorem wo_gt : (Ieee.double.order (Ieee.double.word s a) (Ieee.double.word t b) == some .gt) = decide (I t b < I s a) := by
  rw [order_ext s t a b ha hb, Int.compare_eq_ite_lt]
  by_cases h1 : I s a < I t b
  · rw [if_pos h1, decide_eq_false (by omega)]; rfl
  · by_cases h2 : I t b < I s a
    · rw [if_neg h1, if_pos h2, decide_eq_true h2]; rfl
    · rw [if_neg h1, if_neg h2, decide_eq_false h2]; rfl
end
theorem isnan_any (x : Nat) (r : Bool) (h : (Ieee.double.order x x != some .eq) = r) (w : World) :
    Calls Tryd.prog 35 #[.float .f64 x] w fun e w' => e = .returned (.bool r) ∧ w = w' := by
  have o := fl_neq 25 x x r h
  clear h
  go_enter Tryd.func35, Tryd.ntmps35
  go_wp2
  go_ret
  exact ⟨rfl, rfl⟩
theorem isnan_f (s : Bool) (r : Nat) (hr : r ≤ 2047 * 2 ^ 52) (w : World) :
    Calls Tryd.prog 35 #[.float .f64 (Ieee.double.word s r)] w fun e w' => e = .returned (.bool false) ∧ w = w' :=
  isnan_any _ _ (by rw [bne, wo_eq s s r r hr hr, decide_eq_true rfl]; rfl) w
theorem mabs (s : Bool) (r : Nat) (hr : r < 2 ^ 63) (w : World) :
    Calls Tryd.prog 23 #[.float .f64 (Ieee.double.word s r)] w fun e w' => e = .returned (.float .f64 r) ∧ w = w' := by
  have o : binOp .andNot 54 (.int .u64 ((Ieee.double.word s r : Nat) : Int)) (.int .u64 9223372036854775808) = pure (.int .u64 (r : Int)) := bi_andn _ _ 9223372036854775808 r (w_lt s r hr) (by decide) (w_abs s r hr)
  clear hr
  generalize Ieee.double.word s r = x at *
  go_enter Tryd.func23, Tryd.ntmps23
  go_wp2_with (simp only [f64bits, f64from])
  go_ret
  exact ⟨rfl, rfl⟩
theorem w_inf (s : Bool) : Ieee.double.word s (2047 * 2 ^ 52) = if s then 18442240474082181120 else 9218868437227405312 := by cases s <;> decide
theorem f64fromP (w : World) : (callFunc 50 #[.int .u64 9218868437227405312]).run Tryd.prog w = .ok (.value (.float .f64 9218868437227405312)) w := f64from 9218868437227405312 w
theorem f64fromN (w : World) : (callFunc 50 #[.int .u64 18442240474082181120]).run Tryd.prog w = .ok (.value (.float .f64 18442240474082181120)) w := f64from 18442240474082181120 w
theorem minf1 (w : World) : Calls Tryd.prog 19 #[.int .i64 1] w fun e w' => e = .returned (.float .f64 (Ieee.double.word false (2047 * 2 ^ 52))) ∧ w = w' := by
  rw [w_inf]
  go_enter Tryd.func19, Tryd.ntmps19
  go_wp2_with (simp only [f64fromP])
  go_ret
  exact ⟨rfl, rfl⟩
theorem minfN (w : World) : Calls Tryd.prog 19 #[.int .i64 (-1)] w fun e w' => e = .returned (.float .f64 (Ieee.double.word true (2047 * 2 ^ 52))) ∧ w = w' := by
  rw [w_inf]
  go_enter Tryd.func19, Tryd.ntmps19
  go_wp2_with (simp only [f64fromN])
  go_ret
  exact ⟨rfl, rfl⟩
/-- IsInf of whatever sign, and of those above 0 or below. -/
theorem isinf_gt (s : Bool) (r : Nat) (hr : r ≤ 2047 * 2 ^ 52) (b : Bool) (hb : (!s && decide (r = 2047 * 2 ^ 52)) = b) :
    binOp .gtr 25 (.float .f64 (Ieee.double.word s r)) (.float .f64 9218868437227405311) = pure (.bool b) := by
  have h := wo_gt s false r (2047 * 2 ^ 52 - 1) hr (by omega)
  rw [word_f, show 2047 * 2 ^ 52 - 1 = 9218868437227405311 from by omega] at h
  refine fl_gtr _ _ _ b (h.trans ?_)
  rw [← hb, I_f]
  cases s
  · rw [I_f]
    by_cases e : r = 2047 * 2 ^ 52
    · have := U_lt (show 9218868437227405311 < r by omega)
      rw [decide_eq_true (by omega), decide_eq_true e]; rfl
    · have := U_le_iff.2 (show r ≤ 9218868437227405311 by omega)
      rw [decide_eq_false (by omega), decide_eq_false e]; rfl
  · rw [I_t, decide_eq_false (by omega)]; rfl
theorem isinf0 (s : Bool) (r : Nat) (hr : r ≤ 2047 * 2 ^ 52) (b : Bool) (hb : decide (r = 2047 * 2 ^ 52) = b) (w : World) :
    Calls Tryd.prog 36 #[.float .f64 (Ieee.double.word s r), .int .i64 0] w fun e w' => e = .returned (.bool b) ∧ w = w' := by
  have o := isinf_gt false r hr b (by rw [hb]; rfl)
  have A := hide (mabs s r (by omega))
  rw [word_f] at o
  clear hb hr
  generalize Ieee.double.word s r = x at *
  go_enter Tryd.func36, Tryd.ntmps36
  go_wp2_with (go_at_call 23; (with_reducible refine (A.out _).mono ?_); rintro e w1 ⟨rfl, rfl⟩)
  go_ret
  exact ⟨rfl, rfl⟩
theorem isinf1 (s : Bool) (r : Nat) (hr : r ≤ 2047 * 2 ^ 52) (b : Bool) (hb : (!s && decide (r = 2047 * 2 ^ 52)) = b) (w : World) :
    Calls Tryd.prog 36 #[.float .f64 (Ieee.double.word s r), .int .i64 1] w fun e w' => e = .returned (.bool b) ∧ w = w' := by
  have o := isinf_gt s r hr b hb
  clear hb hr
  generalize Ieee.double.word s r = x at *
  go_enter Tryd.func36, Tryd.ntmps36
  go_wp2
  go_ret
  exact ⟨rfl, rfl⟩
theorem w_neg (s : Bool) (r : Nat) (h : r < 2 ^ 63) : Op.negFloat .f64 (Ieee.double.word s r) = Ieee.double.word (!s) r := by
  show Ieee.double.word s r ^^^ 2 ^ 63 = _
  refine Nat.eq_of_testBit_eq fun i => ?_
  rw [Nat.testBit_xor, Nat.testBit_two_pow, w_or1 s r h, w_or1 (!s) r h, Nat.testBit_or, Nat.testBit_or]
  by_cases hi : 63 = i
  · subst hi
    rw [Nat.testBit_lt_two_pow h]
    cases s <;> rfl
  · rw [decide_eq_false hi, Bool.xor_false]
    cases s
    · show ((2 ^ 63 * 0).testBit i || r.testBit i) = ((2 ^ 63 * 1).testBit i || r.testBit i)
      rw [Nat.mul_zero, Nat.mul_one, Nat.testBit_two_pow, decide_eq_false hi, Nat.zero_testBit]
    · show ((2 ^ 63 * 1).testBit i || r.testBit i) = ((2 ^ 63 * 0).testBit i || r.testBit i)
      rw [Nat.mul_zero, Nat.mul_one, Nat.testBit_two_pow, decide_eq_false hi, Nat.zero_testBit]
theorem un_neg (x y : Nat) (h : Op.negFloat .f64 x = y) : Op.unary .neg (.float .f64 x) = pure (.float .f64 y) := by rw [← h]; rfl
theorem isinfN (s : Bool) (r : Nat) (hr : r ≤ 2047 * 2 ^ 52) (b : Bool) (hb : (s && decide (r = 2047 * 2 ^ 52)) = b) (w : World) :
    Calls Tryd.prog 36 #[.float .f64 (Ieee.double.word s r), .int .i64 (-1)] w fun e w' => e = .returned (.bool b) ∧ w = w' := by
  have o := isinf_gt (!s) r hr b (by rw [Bool.not_not]; exact hb)
  have o2 := un_neg _ _ (w_neg s r (by omega))
  clear hb hr
  generalize Ieee.double.word s r = x at *
  generalize Ieee.double.word (!s) r = y at *
  go_enter Tryd.func36, Tryd.ntmps36
  go_wp2
  go_ret
  exact ⟨rfl, rfl⟩
theorem copysign_any (f y a b c : Nat) (hf : f < 2 ^ 64) (hy : y < 2 ^ 64) (ha : f &&& (18446744073709551615 - 9223372036854775808) = a) (hb : y &&& 9223372036854775808 = b) (hc : a ||| b = c) (la : a < 2 ^ 64) (lb : b < 2 ^ 64) (w : World) :
    Calls Tryd.prog 49 #[.float .f64 f, .float .f64 y] w fun e w' => e = .returned (.float .f64 c) ∧ w = w' := by
  have o1 : binOp .andNot 54 (.int .u64 (f : Int)) (.int .u64 9223372036854775808) = pure (.int .u64 (a : Int)) := bi_andn _ f 9223372036854775808 a hf (by decide) ha
  have o2 : binOp .and 54 (.int .u64 (y : Int)) (.int .u64 9223372036854775808) = pure (.int .u64 (b : Int)) := bi_and _ y 9223372036854775808 b hy (by decide) hb
  have o3 := bi_or 54 a b c la lb hc
  clear ha hb hc hf hy la lb
  go_enter Tryd.func49, Tryd.ntmps49
  go_wp2_with (simp only [f64bits, f64from])
  go_ret
  exact ⟨rfl, rfl⟩
/-- A rung with a sign taken from another one. -/
theorem copysign_w (r : Nat) (s : Bool) (k : Nat) (hr : r < 2 ^ 63) (hk : k < 2 ^ 63) (w : World) :
    Calls Tryd.prog 49 #[.float .f64 r, .float .f64 (Ieee.double.word s k)] w fun e w' => e = .returned (.float .f64 (Ieee.double.word s r)) ∧ w = w' :=
  copysign_any r (Ieee.double.word s k) r (Ieee.double.word s 0) _ (by omega) (w_lt s k hk) (w_abs false r hr) (w_sign s k hk) (w_orsign s r hr) (by omega) (w_lt s 0 (by decide)) w
/-- What Nextafter comes to. -/
def nx (s : Bool) (r : Nat) (t : Bool) (y : Nat) : Bool × Nat := if I s r = I t y then (s, r) else if r = 0 then (t, 1) else if decide (I s r < I t y) == decide (0 < I s r) then (s, r + 1) else (s, r - 1)
theorem w_zero_eq (s : Bool) (r : Nat) (hr : r ≤ 2047 * 2 ^ 52) (b : Bool) (hb : decide (r = 0) = b) : binOp .eql 25 (.float .f64 (Ieee.double.word s r)) (.float .f64 0) = pure (.bool b) := by
  refine fl_eql _ _ 0 b ((wo_eq s false r 0 hr (by decide)).trans ?_)
  rw [← hb, I_zero]
  by_cases e : r = 0
  · rw [e, I_zero]; rfl
  · have := U_pos (Nat.pos_of_ne_zero e)
    rw [decide_eq_false e]
    cases s
    · rw [I_f, decide_eq_false (by omega)]
    · rw [I_t, decide_eq_false (by omega)]
theorem w_pos (s : Bool) (r : Nat) (hr : r ≤ 2047 * 2 ^ 52) (b : Bool) (hb : decide (0 < I s r) = b) : binOp .gtr 25 (.float .f64 (Ieee.double.word s r)) (.float .f64 0) = pure (.bool b) :=
  fl_gtr _ _ 0 b ((wo_gt s false r 0 hr (by decide)).trans (by rw [← hb, I_zero]))
theorem bo_eql (a b r : Bool) (h : (a == b) = r) (W : World) : (binOp .eql 4 (.bool a) (.bool b)).run Tryd.prog W = .ok (.bool r) W := by
  subst h; cases a <;> cases b <;> kernel_rfl
set_option maxHeartbeats 1000000 in
theorem nextafter_any (s : Bool) (r : Nat) (t : Bool) (y : Nat) (hr : r ≤ 2047 * 2 ^ 52) (hy : y ≤ 2047 * 2 ^ 52) (q : Bool) (z : Nat) (h : nx s r t y = (q, z)) (w : World) :
    Calls Tryd.prog 18 #[.float .f64 (Ieee.double.word s r), .float .f64 (Ieee.double.word t y)] w fun e w' => e = .returned (.float .f64 (Ieee.double.word q z)) ∧ w = w' := by
  have N1 := hide (isnan_f s r hr)
  have N2 := hide (isnan_f t y hy)
  have o1 := fl_eql 25 _ _ _ (wo_eq s t r y hr hy)
  unfold nx at h
  by_cases h1 : I s r = I t y
  · rw [if_pos h1] at h
    obtain ⟨rfl, rfl⟩ := Prod.mk.inj h
    rw [decide_eq_true h1] at o1
    clear h1 h hr hy
    generalize Ieee.double.word s r = x at *
    generalize Ieee.double.word t y = v at *
    go_enter Tryd.func18, Tryd.ntmps18
    go_wp2_with (first
      | (go_at_call 35; (with_reducible refine (N1.out _).mono ?_); rintro e w1 ⟨rfl, rfl⟩)
      | (go_at_call 35; (with_reducible refine (N2.out _).mono ?_); rintro e w1 ⟨rfl, rfl⟩))
    go_ret
    exact ⟨rfl, rfl⟩
  · rw [if_neg h1] at h
    rw [decide_eq_false h1] at o1
    by_cases h2 : r = 0
    · rw [if_pos h2] at h
      obtain ⟨rfl, rfl⟩ := Prod.mk.inj h
      have o2 := w_zero_eq s r hr true (decide_eq_true h2)
      have C := hide (copysign_w 1 t y (by decide) (by omega))
      clear h1 h2 h hr hy
      generalize Ieee.double.word s r = x at *
      generalize Ieee.double.word t y = v at *
      generalize Ieee.double.word t 1 = v1 at *
      go_enter Tryd.func18, Tryd.ntmps18
      go_wp2_with (first
        | (go_at_call 35; (with_reducible refine (N1.out _).mono ?_); rintro e w1 ⟨rfl, rfl⟩)
        | (go_at_call 35; (with_reducible refine (N2.out _).mono ?_); rintro e w1 ⟨rfl, rfl⟩)
        | simp only [f64from1]
        | (go_at_call 49; (with_reducible refine (C.out _).mono ?_); rintro e w1 ⟨rfl, rfl⟩))
      go_ret
      exact ⟨rfl, rfl⟩
    · rw [if_neg h2] at h
      have o2 := w_zero_eq s r hr false (decide_eq_false h2)
      have o3 := fl_gtr 25 _ _ _ (wo_gt t s y r hy hr)
      have o4 := w_pos s r hr _ rfl
      by_cases h3 : (decide (I s r < I t y) == decide (0 < I s r)) = true
      · rw [if_pos h3] at h
        obtain ⟨rfl, rfl⟩ := Prod.mk.inj h
        have o5 := bo_eql _ _ _ h3
        have o6 : binOp .add 54 (.int .u64 ((Ieee.double.word s r : Nat) : Int)) (.int .u64 1) = pure (.int .u64 ((Ieee.double.word s (r + 1) : Nat) : Int)) := bi_add _ _ 1 _ (by rw [w_val, w_val]; rfl) (w_lt s _ (by omega))
        clear h1 h2 h3 h hr hy
        generalize Ieee.double.word s r = x at *
        generalize Ieee.double.word t y = v at *
        generalize Ieee.double.word s (r + 1) = v1 at *
        generalize decide (I s r < I t y) = p1 at *
        generalize decide (0 < I s r) = p2 at *
        go_enter Tryd.func18, Tryd.ntmps18
        go_wp2_with (first
          | (go_at_call 35; (with_reducible refine (N1.out _).mono ?_); rintro e w1 ⟨rfl, rfl⟩)
          | (go_at_call 35; (with_reducible refine (N2.out _).mono ?_); rintro e w1 ⟨rfl, rfl⟩)
          | simp only [f64bits, f64from])
        go_ret
        exact ⟨rfl, rfl⟩
      · rw [if_neg h3] at h
        obtain ⟨rfl, rfl⟩ := Prod.mk.inj h
        have o5 := bo_eql _ _ _ (Bool.eq_false_iff.2 h3)
        have o6 : binOp .sub 54 (.int .u64 ((Ieee.double.word s r : Nat) : Int)) (.int .u64 1) = pure (.int .u64 ((Ieee.double.word s (r - 1) : Nat) : Int)) := bi_sub _ _ 1 _ (by rw [w_val, w_val]; omega) (w_lt s _ (by omega))
        clear h1 h2 h3 h hr hy
        generalize Ieee.double.word s r = x at *
        generalize Ieee.double.word t y = v at *
        generalize Ieee.double.word s (r - 1) = v1 at *
        generalize decide (I s r < I t y) = p1 at *
        generalize decide (0 < I s r) = p2 at *
        go_enter Tryd.func18, Tryd.ntmps18
        go_wp2_with (first
          | (go_at_call 35; (with_reducible refine (N1.out _).mono ?_); rintro e w1 ⟨rfl, rfl⟩)
          | (go_at_call 35; (with_reducible refine (N2.out _).mono ?_); rintro e w1 ⟨rfl, rfl⟩)
          | simp only [f64bits, f64from])
        go_ret
        exact ⟨rfl, rfl⟩
end Nt
end Go.Proofs.YtgmjdaallinicaaDoor
