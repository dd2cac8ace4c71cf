
/-
  math/bits.Div64, whole; how many binary digits a word has.
-/
import Derived.Test.YtgimmmmpollkhaaGreatNDiv64
namespace Go.Proofs.YtgimmmmpollkhaaGreat

open Go.RowKit

namespace Nt

theorem lenW_zero : lenW 0 = 0 := by unfold lenW; decide
theorem lenW_half (x : Nat) (h0 : x ≠ 0) (h : x < LB) : lenW x = 1 + lenW (x / 2) := Lib.bitLen_half x h0 h
theorem lenW_bounds : ∀ x : Nat, x < LB → x < 2 ^ lenW x ∧ (x ≠ 0 → 2 ^ lenW x ≤ 2 * x) := by
  intro x
  induction x using Nat.strongRecOn with
  | _ x ih =>
    intro hx
    by_cases h0 : x = 0
    · subst h0; rw [lenW_zero]; simp
    · have h1 := lenW_half x h0 hx
      obtain ⟨h2, h3⟩ := ih (x / 2) (by omega) (by omega)
      rw [h1, Nat.pow_add, Nat.pow_one]
      refine ⟨by omega, fun _ => ?_⟩
      by_cases h4 : x / 2 = 0
      · rw [h4, lenW_zero]; simp; omega
      · have := h3 h4
        omega
theorem lenW_pos {x : Nat} (h0 : x ≠ 0) (h : x < LB) : 1 ≤ lenW x := by rw [lenW_half x h0 h]; omega
theorem lzW_shift {y : Nat} (h0 : y ≠ 0) (h : y < LB) : lzW y ≤ 63 ∧ y * 2 ^ lzW y < LB ∧ LB ≤ 2 * (y * 2 ^ lzW y) := by
  obtain ⟨h1, h2⟩ := lenW_bounds y h
  have h3 := lenW_le y h
  have h4 := lenW_pos h0 h
  have e : 2 ^ lenW y * 2 ^ lzW y = LB := by
    rw [← Nat.pow_add, show lenW y + lzW y = 64 by unfold lzW; omega]; rfl
  have hp : 0 < 2 ^ lzW y := Nat.pow_pos (by omega)
  refine ⟨by unfold lzW; omega, ?_, ?_⟩
  · rw [← e]; exact Nat.mul_lt_mul_of_pos_right h1 hp
  · rw [← e, ← Nat.mul_assoc]; exact Nat.mul_le_mul_right _ (h2 h0)

theorem or_disjoint {x y s : Nat} (hy : y < 2 ^ s) : x * 2 ^ s ||| y = x * 2 ^ s + y := by
  rw [Nat.mul_comm]
  exact (Nat.two_pow_add_eq_or_of_lt hy x).symm
theorem shl_two {hi lo y s t : Nat} (hlo : lo < LB) (hts : t + s = 64) (hy : hi < y) (hyv : y * 2 ^ s < LB) :
    orW (shlW hi s) (shrW lo t) * LB + shlW lo s = (hi * LB + lo) * 2 ^ s ∧ orW (shlW hi s) (shrW lo t) < y * 2 ^ s := by
  have hp : 0 < 2 ^ s := Nat.pow_pos (by omega)
  have hpt : 0 < 2 ^ t := Nat.pow_pos (by omega)
  have e : 2 ^ t * 2 ^ s = LB := by rw [← Nat.pow_add, hts]; rfl
  have h1 : hi * 2 ^ s < y * 2 ^ s := Nat.mul_lt_mul_of_pos_right hy hp
  have h2 : lo / 2 ^ t < 2 ^ s := by rw [Nat.div_lt_iff_lt_mul hpt, Nat.mul_comm, e]; exact hlo
  have h3 : (hi + 1) * 2 ^ s ≤ y * 2 ^ s := Nat.mul_le_mul_right _ hy
  rw [Nat.add_mul, Nat.one_mul] at h3
  have e1 : orW (shlW hi s) (shrW lo t) = hi * 2 ^ s + lo / 2 ^ t := by
    unfold orW shlW shrW
    rw [Nat.mod_eq_of_lt (by omega), or_disjoint h2]
  rw [e1]
  refine ⟨?_, by omega⟩
  have e2 : lo = 2 ^ t * (lo / 2 ^ t) + lo % 2 ^ t := (Nat.div_add_mod _ _).symm
  have e3 : lo * 2 ^ s = LB * (lo / 2 ^ t) + lo % 2 ^ t * 2 ^ s := by
    have : lo * 2 ^ s = (2 ^ t * (lo / 2 ^ t) + lo % 2 ^ t) * 2 ^ s := by rw [← e2]
    rw [this, Nat.add_mul, Nat.mul_right_comm, e]
  have h4 : lo % 2 ^ t * 2 ^ s < LB := by rw [← e]; exact Nat.mul_lt_mul_of_pos_right (Nat.mod_lt _ hpt) hp
  have e4 : shlW lo s = lo % 2 ^ t * 2 ^ s := by
    unfold shlW
    rw [e3, Nat.mul_add_mod, Nat.mod_eq_of_lt h4]
  rw [e4, Nat.add_mul, Nat.add_mul, e3, Nat.mul_right_comm hi, Nat.mul_comm (lo / 2 ^ t)]
  omega

theorem dv_make {hi lo y : Nat} (hy : hi < y) (hyL : y < LB) (hlo : lo < LB) :
    Dv hi lo y (lzW y) (shlW y (lzW y)) (shrW (shlW y (lzW y)) 32) (andW (shlW y (lzW y)) 4294967295) (orW (shlW hi (lzW y)) (shrW lo (64 - lzW y))) (shlW lo (lzW y)) (shrW (shlW lo (lzW y)) 32) (andW (shlW lo (lzW y)) 4294967295) := by
  obtain ⟨hs, hv, ht⟩ := lzW_shift (y := y) (by omega) hyL
  obtain ⟨h1, h2⟩ := shl_two (hi := hi) (s := lzW y) (t := 64 - lzW y) hlo (by omega) hy hv
  have ev : shlW y (lzW y) = y * 2 ^ lzW y := Nat.mod_eq_of_lt hv
  have hand : ∀ x, andW x 4294967295 = x % HB := fun x => Nat.and_two_pow_sub_one_eq_mod x 32
  have hshr : ∀ x, shrW x 32 = x / HB := fun x => rfl
  have hsplit : ∀ x, x = x / HB * HB + x % HB := fun x => by rw [Nat.mul_comm]; exact (Nat.div_add_mod _ _).symm
  have hHB : 0 < HB := by rw [HB_eq]; omega
  have hdiv : ∀ x, x < LB → x / HB < HB := fun x hx => by rw [Nat.div_lt_iff_lt_mul hHB, HB_sq]; exact hx
  have hlo' : shlW lo (lzW y) < LB := Nat.mod_lt _ LB_pos
  refine ⟨?_, ev, ?_, ?_, ?_, h1, ?_, ?_, ?_, ?_⟩
  · rw [hand, hshr]; exact hsplit _
  · rw [hand]; exact Nat.mod_lt _ hHB
  · rw [hshr]; exact hdiv _ (by rw [ev]; exact hv)
  · rw [hshr, ev]
    rw [LB_eq] at ht
    rw [HB_eq]
    omega
  · rw [hand, hshr]; exact hsplit _
  · rw [hshr]; exact hdiv _ hlo'
  · rw [hand]; exact Nat.mod_lt _ hHB
  · rw [ev]; exact h2

theorem div64 (hi lo y : Nat) (hy : hi < y) (hyL : y < LB) (hlo : lo < LB) (w : World) :
    Calls Tryz.prog 151 #[.int .u64 (hi : Int), .int .u64 (lo : Int), .int .u64 (y : Int)] w (Quiet w (.tuple #[.int .u64 ((dvQ hi lo y : Nat) : Int), .int .u64 ((dvR hi lo y : Nat) : Int)])) := by
  by_cases h0 : hi = 0
  · subst h0
    exact div64_zero lo y (by omega) hlo w
  · have dv := dv_make hy hyL hlo
    obtain ⟨hs, hv, _⟩ := lzW_shift (y := y) (by omega) hyL
    have ha : orW (shlW hi (lzW y)) (shrW lo (64 - lzW y)) < LB := Nat.lt_trans dv.hav dv.v_lt
    have hm : orW (shlW hi (lzW y)) (shrW lo (64 - lzW y)) / (shrW (shlW y (lzW y)) 32) * (shrW (shlW y (lzW y)) 32) ≤ orW (shlW hi (lzW y)) (shrW lo (64 - lzW y)) := Nat.div_mul_le_self _ _
    have hu10 : shlW lo (lzW y) < LB := Nat.mod_lt _ LB_pos
    have av : orW (shlW hi (lzW y)) (shrW lo (64 - lzW y)) < shrW (shlW y (lzW y)) 32 * HB + andW (shlW y (lzW y)) 4294967295 := by rw [← dv.hv]; exact dv.hav
    have hsl : shrW lo (64 - lzW y) < LB := Nat.lt_of_le_of_lt (Nat.div_le_self _ _) hlo
    refine div64_big hi lo y (lzW y) _ _ _ (64 - lzW y) _ _ _ _ _ _ (quoW (orW (shlW hi (lzW y)) (shrW lo (64 - lzW y))) (shrW (shlW y (lzW y)) 32)) _ (orW (shlW hi (lzW y)) (shrW lo (64 - lzW y)) - quoW (orW (shlW hi (lzW y)) (shrW lo (64 - lzW y))) (shrW (shlW y (lzW y)) 32) * (shrW (shlW y (lzW y)) 32)) (by omega) hy hyL w dv hs (by omega) rfl
      (op_shl _ _ y _ (by omega)) (op_shr _ _ _ 32 (by omega)) (op_and _ _ 4294967295 dv.v_lt (by rw [LB_eq]; omega)) (op_shl _ _ hi _ (by omega))
      (op_sub_le _ 64 _ _ (by omega) (by rw [LB_eq]; omega)) (op_shr _ _ lo _ (by omega)) (op_or _ _ _ (Nat.mod_lt _ LB_pos) hsl) (op_shl _ _ lo _ (by omega))
      (op_shr _ _ _ 32 (by omega)) (op_and _ _ 4294967295 hu10 (by rw [LB_eq]; omega)) (op_quo _ _ _ ha dv.v1_pos) (op_mul_lt _ _ _ _ rfl (Nat.lt_of_le_of_lt hm ha)) (DS.start dv.hvt dv.hv0 av dv.hb1) ?_ (op_sub_le _ _ _ _ (Nat.sub_add_cancel hm) ha)
    have h2 := Nat.div_add_mod (orW (shlW hi (lzW y)) (shrW lo (64 - lzW y))) (shrW (shlW y (lzW y)) 32)
    have h3 := Nat.mod_lt (orW (shlW hi (lzW y)) (shrW lo (64 - lzW y))) dv.v1_pos
    have h4 := dv.hv1
    unfold quoW
    rw [Nat.mul_comm] at h2
    omega

theorem dvQ_lt {hi lo y : Nat} (hy : hi < y) (hlo : lo < LB) : dvQ hi lo y < LB := by
  unfold dvQ
  refine Nat.div_lt_of_lt_mul ?_
  have : (hi + 1) * LB ≤ y * LB := Nat.mul_le_mul_right _ hy
  rw [Nat.add_mul, Nat.one_mul] at this
  omega
theorem dvR_lt {hi lo y : Nat} (hy : hi < y) : dvR hi lo y < y := Nat.mod_lt _ (by omega)
theorem dv_eq (hi lo y : Nat) : y * dvQ hi lo y + dvR hi lo y = hi * LB + lo := Nat.div_add_mod _ _
end Nt

end Go.Proofs.YtgimmmmpollkhaaGreat
