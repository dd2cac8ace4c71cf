/-
  Package whole in numbers.
-/
import Derived.Test.YtodphjnhoinpeaaGreatDoorAwake2
namespace Go.Proofs.YtodphjnhoinpeaaGreatDoor
open Go.RowKit
namespace Nt

theorem validI_num {x : Int} (h : x.natAbs < LB ^ 64) : validI (isg x) (idg x) = true := by
  refine validI_iff.2 ⟨validB_dg h, fun hs => ?_⟩
  unfold idg
  rw [digs_len_pos]
  have : x < 0 := by unfold isg at hs; simpa using hs
  omega
theorem idg_len {x : Int} (h : x.natAbs < LB ^ 64) : (idg x).length ≤ 64 := length_digs_le.2 h
theorem limbs_idg (x : Int) : Limbs (idg x) := limbs_digs _
theorem cmpISp_num {x y : Int} (hx : x.natAbs < LB ^ 64) (hy : y.natAbs < LB ^ 64) : cmpISp (isg x) (idg x) (isg y) (idg y) = cmpZ x y := by
  unfold cmpISp; rw [validI_num hx, validI_num hy, ival_mk, ival_mk]; rfl
theorem sgnISp_num {x : Int} (hx : x.natAbs < LB ^ 64) : sgnISp (isg x) (idg x) = cmpZ x 0 := by
  unfold sgnISp; rw [validI_num hx, ival_mk]; rfl
theorem negISp_num {x : Int} (hx : x.natAbs < LB ^ 64) : negISp (isg x) (idg x) = (isg (-x), idg (-x)) := by
  unfold negISp; rw [validI_num hx, ival_mk]; rfl
theorem addISp_num {x y : Int} (hx : x.natAbs < LB ^ 64) (hy : y.natAbs < LB ^ 64) (h : (x + y).natAbs < LB ^ 64) : addISp (isg x) (idg x) (isg y) (idg y) = (isg (x + y), idg (x + y), 0) := by
  unfold addISp fitI; rw [validI_num hx, validI_num hy, ival_mk, ival_mk]; simp [h]
theorem subISp_num {x y : Int} (hx : x.natAbs < LB ^ 64) (hy : y.natAbs < LB ^ 64) (h : (x - y).natAbs < LB ^ 64) : subISp (isg x) (idg x) (isg y) (idg y) = (isg (x - y), idg (x - y), 0) := by
  unfold subISp fitI; rw [validI_num hx, validI_num hy, ival_mk, ival_mk]; simp [h]
theorem mulISp_num {x y : Int} (hx : x.natAbs < LB ^ 64) (hy : y.natAbs < LB ^ 64) (h : (x * y).natAbs < LB ^ 64) : mulISp (isg x) (idg x) (isg y) (idg y) = (isg (x * y), idg (x * y), 0) := by
  unfold mulISp fitI; rw [validI_num hx, validI_num hy, ival_mk, ival_mk]; simp [h]
theorem row_eq {x y : Int} : (isg x = isg y ∧ idg x = idg y) ↔ x = y := by
  constructor
  · rintro ⟨h1, h2⟩
    rw [← ival_mk x, ← ival_mk y, h1, h2]
  · rintro rfl; exact ⟨rfl, rfl⟩

section
variable (A B : Option Addr) (n m c d : Nat) (x y : Int) (w : World) (hn : (idg x).length = n) (hm : (idg y).length = m) (sx : Sl w A (idg x)) (sy : Sl w B (idg y)) (hx : x.natAbs < LB ^ 64) (hy : y.natAbs < LB ^ 64)
include hn hm sx sy hx hy
theorem cmpI_num (k : Int) (hk : cmpZ x y = k) : Calls Tryz.prog 31 #[.agg #[.bool (isg x), .slice A n c], .agg #[.bool (isg y), .slice B m d]] w fun e w' => e = .returned (.int .i64 k) ∧ Below w.heap.size w w' := by
  subst hn hm hk
  have := cmpI_any (isg x) (isg y) A B c d (idg x) (idg y) w sx sy (limbs_idg x) (limbs_idg y) (Nat.le_trans (idg_len hx) (by decide)) (Nat.le_trans (idg_len hy) (by decide))
  rwa [cmpISp_num hx hy] at this
theorem addI_num (h : (x + y).natAbs < LB ^ 64) : Calls Tryz.prog 21 #[.agg #[.bool (isg x), .slice A n c], .agg #[.bool (isg y), .slice B m d]] w (ITwo w (isg (x + y), idg (x + y), 0)) := by
  subst hn hm
  have := addI_any (isg x) (isg y) A B c d (idg x) (idg y) w sx sy (limbs_idg x) (limbs_idg y) (Nat.le_trans (idg_len hx) (by decide)) (Nat.le_trans (idg_len hy) (by decide))
  rwa [addISp_num hx hy h] at this
theorem subI_num (h : (x - y).natAbs < LB ^ 64) : Calls Tryz.prog 23 #[.agg #[.bool (isg x), .slice A n c], .agg #[.bool (isg y), .slice B m d]] w (ITwo w (isg (x - y), idg (x - y), 0)) := by
  subst hn hm
  have := subI_any (isg x) (isg y) A B c d (idg x) (idg y) w sx sy (limbs_idg x) (limbs_idg y) (Nat.le_trans (idg_len hx) (by decide)) (Nat.le_trans (idg_len hy) (by decide))
  rwa [subISp_num hx hy h] at this
theorem mulI_num (h : (x * y).natAbs < LB ^ 64) : Calls Tryz.prog 25 #[.agg #[.bool (isg x), .slice A n c], .agg #[.bool (isg y), .slice B m d]] w (ITwo w (isg (x * y), idg (x * y), 0)) := by
  subst hn hm
  have := mulI_any (isg x) (isg y) A B c d (idg x) (idg y) w sx sy (limbs_idg x) (limbs_idg y) (Nat.le_trans (idg_len hx) (by decide)) (Nat.le_trans (idg_len hy) (by decide))
  rwa [mulISp_num hx hy h] at this
theorem same2_num (r : Bool) (hr : decide (x = y) = r) : Calls Tryz.prog 30 #[.agg #[.bool (isg x), .slice A n c], .agg #[.bool (isg y), .slice B m d]] w fun e w' => e = .returned (.bool r) ∧ Below w.heap.size w w' := by
  subst hr
  have := same2_any (isg x) (isg y) A B c d n m (idg x) (idg y) w hn hm sx sy (by rw [← hn]; exact Nat.le_trans (idg_len hx) (by decide)) (by rw [← hm]; exact Nat.le_trans (idg_len hy) (by decide))
  rwa [show decide (isg x = isg y ∧ idg x = idg y) = decide (x = y) from decide_eq_decide.2 row_eq] at this
end
section
variable (A : Option Addr) (n c : Nat) (x : Int) (w : World) (hn : (idg x).length = n) (sx : Sl w A (idg x)) (hx : x.natAbs < LB ^ 64)
include hn sx hx
theorem negI_num : Calls Tryz.prog 34 #[.agg #[.bool (isg x), .slice A n c]] w (IOne w (isg (-x), idg (-x))) := by
  subst hn
  have := negI_any (isg x) A c (idg x) w sx (limbs_idg x) (Nat.le_trans (idg_len hx) (by decide))
  rwa [negISp_num hx] at this
theorem signI_num (k : Int) (hk : cmpZ x 0 = k) : Calls Tryz.prog 33 #[.agg #[.bool (isg x), .slice A n c]] w fun e w' => e = .returned (.int .i64 k) ∧ Below w.heap.size w w' := by
  subst hn hk
  have := signI_any (isg x) A c (idg x) w sx (limbs_idg x) (Nat.le_trans (idg_len hx) (by decide))
  rwa [sgnISp_num hx] at this
end
/-- An argument that may be: a number. -/
theorem as_int {s : Bool} {xs : List Nat} {k : Nat} (l : Limbs xs) (v : validI s xs = true) (h : xs.length ≤ k) : ∃ x : Int, s = isg x ∧ xs = idg x ∧ x.natAbs < LB ^ k :=
  ⟨ival s xs, (isg_ival l v).symm, (idg_ival l (validI_B v)).symm, by rw [ival_abs]; exact Nat.lt_of_lt_of_le (val_lt l) (Nat.pow_le_pow_right LB_pos h)⟩
end Nt
end Go.Proofs.YtodphjnhoinpeaaGreatDoor
