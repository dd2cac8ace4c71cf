/-
  Whole numbers' quotients and rests, in numbers; a text is read back.
-/
import Derived.Test.YtodphjnhoinpeaaDoorINum
namespace Go.Proofs.YtodphjnhoinpeaaDoor
open Go.RowKit
namespace Nt

/-- The quotient that goes down, and what is left. -/
def quoI (x y : Int) : Int := if (isg x != isg y) then -((downQ true x.natAbs y.natAbs : Nat) : Int) else ((downQ false x.natAbs y.natAbs : Nat) : Int)
def remI (x y : Int) : Int := if isg y then -((downR (isg x != isg y) x.natAbs y.natAbs : Nat) : Int) else ((downR (isg x != isg y) x.natAbs y.natAbs : Nat) : Int)
theorem val_idg (x : Int) : val (idg x) = x.natAbs := val_digs _
theorem divISp_num {x y : Int} (hx : x.natAbs < LB ^ 64) (hy : y.natAbs < LB ^ 64) (h0 : y ≠ 0) : divISp (isg x) (idg x) (isg y) (idg y) = ((isg (quoI x y), idg (quoI x y)), (isg (remI x y), idg (remI x y)), 0) := by
  have hp : 0 < (idg y).length := digs_len_pos.2 (by omega)
  rw [divI_ok ⟨validI_num hx, validI_num hy, hp⟩, val_idg, val_idg]
  have e1 : quoI x y = if (isg x != isg y) then -((downQ (isg x != isg y) x.natAbs y.natAbs : Nat) : Int) else ((downQ (isg x != isg y) x.natAbs y.natAbs : Nat) : Int) := by
    unfold quoI
    cases (isg x != isg y) <;> rfl
  have e2 : remI x y = if isg y then -((downR (isg x != isg y) x.natAbs y.natAbs : Nat) : Int) else ((downR (isg x != isg y) x.natAbs y.natAbs : Nat) : Int) := rfl
  rw [isg_sgn, isg_sgn, ← e1, ← e2, e1, idg_sgn, e2, idg_sgn]
theorem isg_cases (x : Int) : (isg x = true ∧ x < 0) ∨ (isg x = false ∧ 0 ≤ x) := by
  unfold isg
  rcases (show x < 0 ∨ 0 ≤ x by omega) with h | h
  · exact .inl ⟨decide_eq_true h, h⟩
  · exact .inr ⟨decide_eq_false (by omega), h⟩
/-- What is left: its size, its sign; with the quotient it makes the number again. -/
theorem quo_rem (x y : Int) (h0 : y ≠ 0) : quoI x y * y + remI x y = x ∧ (remI x y).natAbs < y.natAbs ∧ (remI x y = 0 ∨ cmpZ (remI x y) 0 = cmpZ y 0) := by
  have hn : 0 < y.natAbs := by omega
  have hd := Nat.div_add_mod x.natAbs y.natAbs
  have hm := Nat.mod_lt x.natAbs hn
  have hd' : (y.natAbs : Int) * ((x.natAbs / y.natAbs : Nat) : Int) + ((x.natAbs % y.natAbs : Nat) : Int) = (x.natAbs : Int) := by
    rw [← Int.natCast_mul, ← Int.natCast_add, hd]
  generalize hk : x.natAbs / y.natAbs = k at *
  generalize hr : x.natAbs % y.natAbs = r at *
  unfold quoI remI downQ downR
  rw [hk, hr]
  have c1 : ∀ a : Int, cmpZ a 0 = if a < 0 then -1 else if 0 < a then 1 else 0 := fun a => rfl
  rcases isg_cases x with ⟨ex, hx⟩ | ⟨ex, hx⟩ <;> rcases isg_cases y with ⟨ey, hy⟩ | ⟨ey, hy⟩ <;> rw [ex, ey]
  · have ea : (x.natAbs : Int) = -x := by omega
    have eb : (y.natAbs : Int) = -y := by omega
    rw [ea, eb] at hd'
    simp
    rw [Int.mul_comm (k : Int) y]
    rw [Int.neg_mul] at hd'
    refine ⟨by omega, hm, ?_⟩
    rw [c1, c1]
    by_cases h : r = 0
    · left; omega
    · right; rw [if_pos (by omega), if_pos (by omega)]
  · have ea : (x.natAbs : Int) = -x := by omega
    have eb : (y.natAbs : Int) = y := by omega
    rw [ea, eb] at hd'
    by_cases h : 0 < r
    · simp [h]
      rw [Int.neg_mul, Int.add_mul, Int.one_mul, Int.mul_comm (k : Int) y]
      refine ⟨by omega, by omega, ?_⟩
      rw [c1, c1]
      right
      rw [if_neg (by omega), if_pos (by omega), if_neg (by omega), if_pos (by omega)]
    · have : r = 0 := by omega
      subst this
      simp
      rw [Int.neg_mul, Int.mul_comm (k : Int) y]
      exact ⟨by omega, by omega⟩
  · have ea : (x.natAbs : Int) = x := by omega
    have eb : (y.natAbs : Int) = -y := by omega
    rw [ea, eb] at hd'
    rw [Int.neg_mul] at hd'
    by_cases h : 0 < r
    · simp [h]
      rw [Int.neg_mul, Int.add_mul, Int.one_mul, Int.mul_comm (k : Int) y]
      refine ⟨by omega, by omega, ?_⟩
      rw [c1, c1]
      right
      rw [if_pos (by omega), if_pos (by omega)]
    · have : r = 0 := by omega
      subst this
      simp
      rw [Int.neg_mul, Int.mul_comm (k : Int) y]
      exact ⟨by omega, by omega⟩
  · have ea : (x.natAbs : Int) = x := by omega
    have eb : (y.natAbs : Int) = y := by omega
    rw [ea, eb] at hd'
    simp
    rw [Int.mul_comm (k : Int) y]
    refine ⟨by omega, hm, ?_⟩
    rw [c1, c1]
    by_cases h : r = 0
    · left; omega
    · right; rw [if_neg (by omega), if_pos (by omega), if_neg (by omega), if_pos (by omega)]

theorem digit_chr {r : Nat} (h : r < 10) : isD (UInt8.ofNat (48 + r)) = true ∧ digD (UInt8.ofNat (48 + r)) = r := by
  have e : (UInt8.ofNat (48 + r)).toNat = 48 + r := by
    rw [UInt8.toNat_ofNat']
    exact Nat.mod_eq_of_lt (by omega)
  unfold isD digD
  rw [e]
  exact ⟨decide_eq_true (by omega), by omega⟩
/-- A text that was written is read as what was written. -/
theorem textp (n : Nat) : digitsB (Lib.decDigits n) = true ∧ decV (Lib.decDigits n) = n ∧ hasD (Lib.decDigits n) = false := by
  have key : decV (Lib.decDigits n) = n ∧ (Lib.decDigits n).all isD = true ∧ Lib.decDigits n ≠ [] := by
    induction n using Nat.strongRecOn with
    | _ n ih =>
      by_cases h : n < 10
      · rw [dec_small h]
        refine ⟨?_, ?_, by simp⟩
        · have := decV_snoc [] (UInt8.ofNat (48 + n))
          simp only [List.nil_append] at this
          rw [this]
          obtain ⟨_, h2⟩ := digit_chr h
          rw [h2]
          simp [decV, decF]
        · obtain ⟨h1, _⟩ := digit_chr h
          rw [List.all_cons, h1]; rfl
      · obtain ⟨i1, i2, i3⟩ := ih (n / 10) (by omega)
        obtain ⟨h1, h2⟩ := digit_chr (r := n % 10) (by omega)
        rw [dec_big h]
        refine ⟨?_, by rw [List.all_append, i2, List.all_cons, h1]; rfl, by simp⟩
        rw [decV_snoc, i1, h2]
        omega
  obtain ⟨k1, k2, k3⟩ := key
  refine ⟨by unfold digitsB; rw [k2]; simpa using k3, k1, ?_⟩
  generalize Lib.decDigits n = l at *
  cases l with
  | nil => exact absurd rfl k3
  | cons c l =>
    unfold hasD Lib.hasPrefix
    have hc : isD c = true := by simp at k2; exact k2.1
    have : c ≠ 45 := by rintro rfl; exact absurd hc (by decide)
    simp [List.isPrefixOf]
    exact fun e => this e.symm
theorem parse_text {x : Int} (hx : x.natAbs < LB ^ 64) : parseISp (textISp (isg x) (idg x)) = (isg x, idg x, 0) := by
  obtain ⟨t1, t2, t3⟩ := textp x.natAbs
  have hv := validI_num hx
  have ht : textSp (idg x) = Lib.decDigits x.natAbs := by unfold textSp; rw [validI_B hv, val_idg]; rfl
  have hp : parseSp (Lib.decDigits x.natAbs) = (idg x, 0) := by
    unfold parseSp
    rw [t1, t2, if_pos rfl, if_pos hx]; rfl
  unfold textISp
  rw [hv, ht]
  rcases isg_cases x with ⟨e, h⟩ | ⟨e, h⟩
  · rw [e]
    simp only [if_true]
    have c1 : cutD (45 :: Lib.decDigits x.natAbs) = Lib.decDigits x.natAbs := by
      unfold cutD Lib.trimPrefix Lib.hasPrefix
      simp [List.isPrefixOf]
    have c2 : hasD (45 :: Lib.decDigits x.natAbs) = true := by unfold hasD Lib.hasPrefix; simp [List.isPrefixOf]
    have hl : 0 < (idg x).length := digs_len_pos.2 (by omega)
    unfold parseISp
    rw [c1, c2, hp]
    simp [hl]
  · rw [e]
    simp only [if_true, Bool.false_eq_true, if_false]
    have c1 : cutD (Lib.decDigits x.natAbs) = Lib.decDigits x.natAbs := by
      unfold cutD Lib.trimPrefix
      rw [show Lib.hasPrefix (Lib.decDigits x.natAbs) [45] = false from t3]
      rfl
    unfold parseISp
    rw [c1, t3, hp]
    simp
end Nt
end Go.Proofs.YtodphjnhoinpeaaDoor
