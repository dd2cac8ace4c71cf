
/-
  Plain mathematics: division of two limbs by one, by halves of limbs (math/bits.Div64's way).
-/
import Derived.Test.YtgimmmmpollkhaaGreatNWord
namespace Go.Proofs.YtgimmmmpollkhaaGreat

namespace Nt

def HB : Nat := 4294967296
theorem HB_eq : HB = 4294967296 := rfl
theorem HB_sq : HB * HB = LB := rfl

theorem op_geq_t (t : TypeId) {q : Nat} (h : HB ≤ q) : binOp .geq t (.int .u64 (q : Int)) (.int .u64 4294967296) = pure (.bool true) := by
  have e : decide ((4294967296 : Int) ≤ (q : Int)) = true := decide_eq_true (by rw [HB_eq] at h; omega)
  rw [← e]; rfl
theorem op_geq_f (t : TypeId) {q : Nat} (h : q < HB) : binOp .geq t (.int .u64 (q : Int)) (.int .u64 4294967296) = pure (.bool false) := by
  have e : decide ((4294967296 : Int) ≤ (q : Int)) = false := decide_eq_false (by rw [HB_eq] at h; omega)
  rw [← e]; rfl
theorem op_gtr_t (t : TypeId) {x y : Nat} (h : y < x) : binOp .gtr t (.int .u64 (x : Int)) (.int .u64 (y : Int)) = pure (.bool true) := by
  have e : decide ((y : Int) < (x : Int)) = true := decide_eq_true (by omega)
  rw [← e]; rfl
theorem op_gtr_f (t : TypeId) {x y : Nat} (h : x ≤ y) : binOp .gtr t (.int .u64 (x : Int)) (.int .u64 (y : Int)) = pure (.bool false) := by
  have e : decide ((y : Int) < (x : Int)) = false := decide_eq_false (by omega)
  rw [← e]; rfl

structure DS (a b v1 v0 q r : Nat) : Prop where
  eq : q * v1 + r = a
  ge : (a * HB + b) / (v1 * HB + v0) ≤ q
  le : q ≤ HB + 1

section

variable {a b v1 v0 q r : Nat}
theorem DS.start (hv : HB ≤ 2 * v1) (hv0 : v0 < HB) (ha : a < v1 * HB + v0) (hb : b < HB) : DS a b v1 v0 (a / v1) (a - a / v1 * v1) := by
  have hp : 0 < v1 := by rw [HB_eq] at hv; omega
  have h1 : a / v1 * v1 ≤ a := Nat.div_mul_le_self _ _
  have h2 : a < (a / v1 + 1) * v1 := by
    have := Nat.lt_div_mul_add (a := a) hp
    rw [Nat.add_mul, Nat.one_mul]; exact this
  refine ⟨by omega, ?_, ?_⟩
  · have h3 : (a + 1) * HB ≤ (a / v1 + 1) * v1 * HB := Nat.mul_le_mul_right _ h2
    have h4 : a * HB + b < (v1 * HB + v0) * (a / v1 + 1) := by
      have : (v1 * HB + v0) * (a / v1 + 1) = (a / v1 + 1) * v1 * HB + v0 * (a / v1 + 1) := by
        rw [Nat.add_mul, Nat.mul_comm (v1 * HB), ← Nat.mul_assoc]
      rw [this]
      rw [Nat.add_mul a 1, Nat.one_mul] at h3
      omega
    have := Nat.div_lt_of_lt_mul h4
    omega
  · have h5 : a / v1 < HB + 2 := by
      rw [Nat.div_lt_iff_lt_mul hp]
      rw [Nat.add_mul, Nat.mul_comm HB]
      omega
    omega
theorem DS.lt (h : DS a b v1 v0 q r) (ha : a < v1 * HB + v0) (hb : b < HB) (ht : HB ≤ q ∨ HB * r + b < q * v0) : (a * HB + b) / (v1 * HB + v0) < q := by
  rcases ht with ht | ht
  · refine Nat.lt_of_lt_of_le (Nat.div_lt_of_lt_mul ?_) ht
    have : (a + 1) * HB ≤ (v1 * HB + v0) * HB := Nat.mul_le_mul_right _ ha
    rw [Nat.add_mul a 1, Nat.one_mul] at this
    omega
  · refine Nat.div_lt_of_lt_mul ?_
    have e := congrArg (· * HB) h.eq
    simp only [Nat.add_mul] at e
    have : (v1 * HB + v0) * q = q * v1 * HB + q * v0 := by
      rw [Nat.add_mul, Nat.mul_comm (v1 * HB), ← Nat.mul_assoc, Nat.mul_comm v0]
    rw [this]
    rw [Nat.mul_comm HB r] at ht
    omega
theorem DS.step (h : DS a b v1 v0 q r) (hlt : (a * HB + b) / (v1 * HB + v0) < q) : DS a b v1 v0 (q - 1) (r + v1) := by
  have he := h.eq
  have hl := h.le
  have hlt' : (a * HB + b) / (v1 * HB + v0) ≤ q - 1 := Nat.le_sub_one_of_lt hlt
  have hq1 : q = q - 1 + 1 := (Nat.succ_pred_eq_of_pos (Nat.lt_of_le_of_lt (Nat.zero_le _) hlt)).symm
  clear hlt h
  obtain ⟨p, rfl⟩ : ∃ p, q = p + 1 := ⟨q - 1, hq1⟩
  refine ⟨?_, hlt', by omega⟩
  rw [Nat.add_mul, Nat.one_mul] at he
  rw [Nat.add_sub_cancel]
  omega
theorem DS.fits (h : DS a b v1 v0 q r) (hp : 0 < v1) (hx : q * v0 ≤ HB * r + b) : q = (a * HB + b) / (v1 * HB + v0) := by
  refine Nat.le_antisymm ?_ h.ge
  rw [Nat.le_div_iff_mul_le (by have : 0 < v1 * HB := Nat.mul_pos hp (by rw [HB_eq]; omega)
                                omega)]
  have e := congrArg (· * HB) h.eq
  simp only [Nat.add_mul] at e
  rw [Nat.mul_add, ← Nat.mul_assoc]
  rw [Nat.mul_comm HB r] at hx
  omega
theorem DS.full (h : DS a b v1 v0 q r) (hp : 0 < v1) (hv0 : v0 < HB) (hq : q ≤ HB) (hr : HB ≤ r) : q = (a * HB + b) / (v1 * HB + v0) := by
  refine h.fits hp ?_
  have h1 : q * v0 ≤ HB * r := Nat.mul_le_mul hq (by omega)
  omega
theorem DS.lt_top (ha : a < v1 * HB + v0) (hb : b < HB) : (a * HB + b) / (v1 * HB + v0) < HB := by
  refine Nat.div_lt_of_lt_mul ?_
  have : (a + 1) * HB ≤ (v1 * HB + v0) * HB := Nat.mul_le_mul_right _ ha
  rw [Nat.add_mul a 1, Nat.one_mul] at this
  omega
end

theorem left_word {a b v Q : Nat} (hQ : Q = (a * HB + b) / v) (hv : v ≤ LB) (hp : 0 < v) : subW (addW (mulW a HB) b) (mulW Q v) = (a * HB + b) % v := by
  have h1 : v * Q + (a * HB + b) % v = a * HB + b := by rw [hQ]; exact Nat.div_add_mod _ _
  have h2 := Nat.mod_lt (a * HB + b) hp
  unfold subW addW mulW
  rw [Nat.mul_comm Q v]
  generalize (a * HB + b) % v = R at *
  generalize v * Q = S at *
  generalize a * HB = T at *
  rw [LB_eq] at *
  omega

theorem two_steps {a b1 b0 v Q1 Q0 R1 R0 : Nat} (h1 : a * HB + b1 = v * Q1 + R1) (h0 : R1 * HB + b0 = v * Q0 + R0) : a * LB + (b1 * HB + b0) = v * (Q1 * HB + Q0) + R0 := by
  have e : a * LB = a * HB * HB := by rw [Nat.mul_assoc, HB_sq]
  have e1 := congrArg (· * HB) h1
  simp only [Nat.add_mul] at e1
  rw [e, Nat.mul_add, ← Nat.mul_assoc v]
  omega

theorem unshift {n y s Q R : Nat} (h : n * 2 ^ s = y * 2 ^ s * Q + R) (hR : R < y * 2 ^ s) : Q = n / y ∧ R / 2 ^ s = n % y := by
  have hs : 0 < 2 ^ s := Nat.pow_pos (by omega)
  have e : y * 2 ^ s * Q = (y * Q) * 2 ^ s := by rw [Nat.mul_right_comm]
  rw [e] at h
  have hle : y * Q ≤ n := by
    have : y * Q * 2 ^ s ≤ n * 2 ^ s := by omega
    exact Nat.le_of_mul_le_mul_right this hs
  have hR2 : R = (n - y * Q) * 2 ^ s := by rw [Nat.sub_mul]; omega
  have hlt : n - y * Q < y := by
    rw [hR2] at hR
    exact Nat.lt_of_mul_lt_mul_right hR
  have hq : n / y = Q := by
    refine Nat.div_eq_of_lt_le ?_ ?_
    · rw [Nat.mul_comm]; exact hle
    · rw [Nat.add_mul, Nat.one_mul, Nat.mul_comm Q]; omega
  exact ⟨hq.symm, by rw [hR2, Nat.mul_div_cancel _ hs]; have := Nat.div_add_mod n y; rw [hq] at this; omega⟩
def dvQ (hi lo y : Nat) : Nat := (hi * LB + lo) / y
def dvR (hi lo y : Nat) : Nat := (hi * LB + lo) % y

structure Dv (hi lo y s v v1 v0 a un10 b1 b0 : Nat) : Prop where
  hv : v = v1 * HB + v0
  hvs : v = y * 2 ^ s
  hv0 : v0 < HB
  hv1 : v1 < HB
  hvt : HB ≤ 2 * v1
  hu : a * LB + un10 = (hi * LB + lo) * 2 ^ s
  h10 : un10 = b1 * HB + b0
  hb1 : b1 < HB
  hb0 : b0 < HB
  hav : a < v
section

variable {hi lo y s v v1 v0 a un10 b1 b0 : Nat}
theorem Dv.v1_pos (h : Dv hi lo y s v v1 v0 a un10 b1 b0) : 0 < v1 := by have := h.hvt; rw [HB_eq] at this; omega
theorem Dv.v_lt (h : Dv hi lo y s v v1 v0 a un10 b1 b0) : v < LB := by
  rw [h.hv, ← HB_sq]
  have : (v1 + 1) * HB ≤ HB * HB := Nat.mul_le_mul_right _ h.hv1
  have := h.hv0
  rw [Nat.add_mul, Nat.one_mul] at *
  omega
theorem Dv.v_pos (h : Dv hi lo y s v v1 v0 a un10 b1 b0) : 0 < v := by have := h.hav; omega
theorem Dv.fin (h : Dv hi lo y s v v1 v0 a un10 b1 b0) {p un21 p0 rr : Nat} (hp : p = (a * HB + b1) / v) (hu : un21 = (a * HB + b1) % v) (hp0 : p0 = (un21 * HB + b0) / v) (hr : rr = (un21 * HB + b0) % v) :
    p * HB + p0 = dvQ hi lo y ∧ rr / 2 ^ s = dvR hi lo y := by
  have h1 : a * HB + b1 = v * p + un21 := by rw [hp, hu]; exact (Nat.div_add_mod _ _).symm
  have h0 : un21 * HB + b0 = v * p0 + rr := by rw [hp0, hr]; exact (Nat.div_add_mod _ _).symm
  have h2 := two_steps h1 h0
  rw [← h.h10, h.hu] at h2
  have hlt : rr < y * 2 ^ s := by rw [← h.hvs, hr]; exact Nat.mod_lt _ h.v_pos
  rw [h.hvs] at h2
  exact unshift h2 hlt
theorem Dv.fin2 (h : Dv hi lo y s v v1 v0 a un10 b1 b0) {p un21 p0 : Nat} (hp : p = (a * HB + b1) / v) (hu : un21 = (a * HB + b1) % v) (hp0 : p0 = (un21 * HB + b0) / v) (hpl : p < HB) (hp0l : p0 < HB) :
    addW (mulW p HB) p0 = dvQ hi lo y ∧ shrW (subW (addW (mulW un21 HB) b0) (mulW p0 v)) s = dvR hi lo y := by
  have hl := left_word (a := un21) (b := b0) hp0 (Nat.le_of_lt h.v_lt) h.v_pos
  obtain ⟨h1, h2⟩ := h.fin hp hu hp0 rfl
  rw [hl, ← h1, ← h2]
  refine ⟨?_, rfl⟩
  have : (p + 1) * HB ≤ HB * HB := Nat.mul_le_mul_right _ hpl
  rw [HB_sq, Nat.add_mul, Nat.one_mul] at this
  unfold addW mulW
  rw [Nat.mod_eq_of_lt (show p * HB < LB by omega), Nat.mod_eq_of_lt (by omega)]
theorem meas_lt {r r' v1 : Nat} (h : r' = r + v1) (hp : 0 < v1) (hl : r < HB) : (4294967296 - (r' : Int)).toNat < (4294967296 - (r : Int)).toNat := by rw [HB_eq] at hl; omega
theorem Dv.p_lt (h : Dv hi lo y s v v1 v0 a un10 b1 b0) : (a * HB + b1) / v < HB := by
  have := h.hav
  rw [h.hv] at this ⊢
  exact DS.lt_top this h.hb1
theorem Dv.p0_lt (h : Dv hi lo y s v v1 v0 a un10 b1 b0) {un21 : Nat} (hu : un21 = (a * HB + b1) % v) : (un21 * HB + b0) / v < HB := by
  have : un21 < v := by rw [hu]; exact Nat.mod_lt _ h.v_pos
  rw [h.hv] at this ⊢
  exact DS.lt_top this h.hb0
end

end Nt

end Go.Proofs.YtgimmmmpollkhaaGreat
