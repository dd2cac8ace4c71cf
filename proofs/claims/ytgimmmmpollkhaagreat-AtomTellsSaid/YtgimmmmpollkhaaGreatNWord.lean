
/-
  Words: what Go's operators on uint64 are, by natural numbers, behind names.
-/
import Derived.Test.YtgimmmmpollkhaaGreatNSmall
import Derived.Test.YtgimmmmpollkhaaGreatNCmp
import Derived.Shelf.Small.Bits
import Derived.Shelf.Strconv.Itoa0
namespace Go.Proofs.YtgimmmmpollkhaaGreat

open Go.RowKit Go.Shelf

namespace Nt

def addW (x y : Nat) : Nat := (x + y) % LB
def subW (x y : Nat) : Nat := (x + (LB - y)) % LB
def mulW (x y : Nat) : Nat := x * y % LB
def shlW (x s : Nat) : Nat := x * 2 ^ s % LB
def shrW (x s : Nat) : Nat := x / 2 ^ s
def orW (x y : Nat) : Nat := x ||| y
def andW (x y : Nat) : Nat := x &&& y
def quoW (x y : Nat) : Nat := x / y
def remW (x y : Nat) : Nat := x % y

theorem op_add (t : TypeId) (x y : Nat) : binOp .add t (.int .u64 (x : Int)) (.int .u64 (y : Int)) = pure (.int .u64 ((addW x y : Nat) : Int)) := by
  have e : IntKind.u64.wrap ((x : Int) + (y : Int)) = ((addW x y : Nat) : Int) := by rw [← Int.natCast_add, wrapM]; rfl
  rw [← e]; rfl
theorem op_sub (t : TypeId) (x y : Nat) (hy : y < LB) : binOp .sub t (.int .u64 (x : Int)) (.int .u64 (y : Int)) = pure (.int .u64 ((subW x y : Nat) : Int)) := by
  have e : IntKind.u64.wrap ((x : Int) - (y : Int)) = ((subW x y : Nat) : Int) := by
    rw [IntKind.wrap_u64]
    unfold subW
    rw [LB_eq] at *
    omega
  rw [← e]; rfl
theorem op_mul (t : TypeId) (x y : Nat) : binOp .mul t (.int .u64 (x : Int)) (.int .u64 (y : Int)) = pure (.int .u64 ((mulW x y : Nat) : Int)) := by
  have e : IntKind.u64.wrap ((x : Int) * (y : Int)) = ((mulW x y : Nat) : Int) := by rw [← Int.natCast_mul, wrapM]; rfl
  rw [← e]; rfl
theorem op_shl (t : TypeId) (k : IntKind) (x s : Nat) (hs : s ≤ 64) : binOp .shl t (.int .u64 (x : Int)) (.int k (s : Int)) = pure (.int .u64 ((shlW x s : Nat) : Int)) := by
  show Op.shift .shl .u64 (x : Int) k (s : Int) = _
  rw [shift_shl_any _ _ _ _ (by omega)]
  have e : IntKind.u64.wrap ((x : Int) * 2 ^ min ((s : Int).toNat) IntKind.u64.bits) = ((shlW x s : Nat) : Int) := by
    rw [show min ((s : Int).toNat) IntKind.u64.bits = s from by show min _ 64 = _; omega]
    have : (x : Int) * 2 ^ s = ((x * 2 ^ s : Nat) : Int) := by simp
    rw [this, wrapM]; rfl
  rw [e]
theorem op_shr (t : TypeId) (k : IntKind) (x s : Nat) (hs : s ≤ 64) : binOp .shr t (.int .u64 (x : Int)) (.int k (s : Int)) = pure (.int .u64 ((shrW x s : Nat) : Int)) := by
  show Op.shift .shr .u64 (x : Int) k (s : Int) = _
  rw [shift_shr_any _ _ _ _ (by omega)]
  have e : (x : Int) / 2 ^ min ((s : Int).toNat) IntKind.u64.bits = ((shrW x s : Nat) : Int) := by
    rw [show min ((s : Int).toNat) IntKind.u64.bits = s from by show min _ 64 = _; omega]
    unfold shrW
    simp
  rw [e]
theorem op_or (t : TypeId) (x y : Nat) (hx : x < LB) (hy : y < LB) : binOp .or t (.int .u64 (x : Int)) (.int .u64 (y : Int)) = pure (.int .u64 ((orW x y : Nat) : Int)) := by
  have e := bits_or_u64_nat x y hx hy
  unfold orW
  rw [← e]; rfl
theorem op_and (t : TypeId) (x y : Nat) (hx : x < LB) (hy : y < LB) : binOp .and t (.int .u64 (x : Int)) (.int .u64 (y : Int)) = pure (.int .u64 ((andW x y : Nat) : Int)) := by
  have e := bits_and_u64_nat x y hx hy
  unfold andW
  rw [← e]; rfl

theorem op_add_lt (t : TypeId) (x y z : Nat) (h : z = x + y) (hz : z < LB) : binOp .add t (.int .u64 (x : Int)) (.int .u64 (y : Int)) = pure (.int .u64 (z : Int)) := by
  rw [op_add]; unfold addW; rw [h, Nat.mod_eq_of_lt (by omega)]
theorem op_sub_le (t : TypeId) (x y z : Nat) (h : z + y = x) (hx : x < LB) : binOp .sub t (.int .u64 (x : Int)) (.int .u64 (y : Int)) = pure (.int .u64 (z : Int)) := by
  rw [op_sub _ _ _ (by omega)]
  have e : subW x y = z := by unfold subW; rw [LB_eq] at *; omega
  rw [e]
theorem op_mul_lt (t : TypeId) (x y z : Nat) (h : z = x * y) (hz : z < LB) : binOp .mul t (.int .u64 (x : Int)) (.int .u64 (y : Int)) = pure (.int .u64 (z : Int)) := by
  rw [op_mul]; unfold mulW; rw [h, Nat.mod_eq_of_lt (by omega)]
theorem op_quo (t : TypeId) (x y : Nat) (hx : x < LB) (hy : 0 < y) : binOp .quo t (.int .u64 (x : Int)) (.int .u64 (y : Int)) = pure (.int .u64 ((quoW x y : Nat) : Int)) := by
  have e : IntKind.u64.wrap ((x : Int).tdiv (y : Int)) = ((quoW x y : Nat) : Int) := by
    rw [LB_eq] at hx
    rw [IntWalk.u64_quo _ _ ⟨by omega, by omega, by omega⟩]
    unfold quoW; simp
  show Op.intDiv .quo .u64 (x : Int) (y : Int) = _
  unfold Op.intDiv
  rw [if_neg (by omega)]
  simp only [e]
theorem op_rem (t : TypeId) (x y : Nat) (hy : 0 < y) : binOp .rem t (.int .u64 (x : Int)) (.int .u64 (y : Int)) = pure (.int .u64 ((remW x y : Nat) : Int)) := by
  have e : (x : Int).tmod (y : Int) = ((remW x y : Nat) : Int) := by
    rw [IntWalk.rem_in _ _ (by omega)]; unfold remW; simp
  show Op.intDiv .rem .u64 (x : Int) (y : Int) = _
  unfold Op.intDiv
  rw [if_neg (by omega)]
  simp only [e]

def lenW (x : Nat) : Nat := Lib.bitLen x
theorem lenW_le (x : Nat) (hx : x < LB) : lenW x ≤ 64 := Lib.bitLen_le x 64 (by omega) hx
theorem len64 (x : Nat) (hx : x < LB) (w : World) :
    Calls Tryz.prog 156 #[.int .u64 (x : Int)] w fun e w' => e = .returned (.int .i64 ((lenW x : Nat) : Int)) ∧ w = w' := by
  rw [LB_eq] at hx
  refine (Tryz.bits_Len64 x w (by omega) (by omega)).mono fun e w' h => ⟨?_, h.2.symm⟩
  rw [h.1]; simp [lenW]
def lzW (x : Nat) : Nat := 64 - lenW x
theorem lz64 (x : Nat) (hx : x < LB) (w : World) :
    Calls Tryz.prog 158 #[.int .u64 (x : Int)] w fun e w' => e = .returned (.int .i64 ((lzW x : Nat) : Int)) ∧ w = w' := by
  have hl := lenW_le x hx
  rw [LB_eq] at hx
  refine (Tryz.bits_LeadingZeros64 x w (by omega) (by omega)).mono fun e w' h => ⟨?_, h.2.symm⟩
  rw [h.1]
  refine ret_one ?_
  unfold lzW
  rw [Int.toNat_natCast]
  show (64 : Int) - (lenW x : Int) = _
  omega
end Nt

end Go.Proofs.YtgimmmmpollkhaaGreat
