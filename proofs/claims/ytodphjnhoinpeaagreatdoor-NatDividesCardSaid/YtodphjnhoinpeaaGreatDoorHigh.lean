/-
  limbs.highest: the highest 64 bits of one, and those of another at the same place.
-/
import Derived.Test.YtodphjnhoinpeaaGreatDoorLt
import Derived.Test.YtodphjnhoinpeaaGreatDoorMathS
import Derived.Test.YtodphjnhoinpeaaGreatDoorLong
namespace Go.Proofs.YtodphjnhoinpeaaGreatDoor
open Go.RowKit
namespace Nt

theorem quiet_of {P : Program} {f : FuncId} {args : Array Value} {w : World} {v : Value} (h : Calls P f args w fun e w' => e = .returned v ∧ w = w') : Calls P f args w (Quiet w v) :=
  h.mono fun _ _ ⟨he, hw⟩ => ⟨he, 0, hw.symm⟩

/-- The bits of a row from a place on. -/
def hiW (zs : List Nat) (m u t : Nat) : Nat := orW (shlW (lim zs (m + 1)) u) (shrW (lim zs m) t)
theorem hi_form {zs : List Nat} {m u t : Nat} (h : t + u = 64) (lz : Limbs zs) (hl : zs.length ≤ m + 2) (h2 : lim zs (m + 1) < 2 ^ t) :
    hiW zs m u t < LB ∧ ∃ z0, val zs = hiW zs m u t * (LB ^ m * 2 ^ t) + z0 ∧ z0 < LB ^ m * 2 ^ t := by
  have e : hiW zs m u t = lim zs m / 2 ^ t + 2 ^ u * lim zs (m + 1) := by
    unfold hiW
    have := dn_at (x := lim zs m) (t := lim zs (m + 1)) h (lz.get m)
    rw [Nat.mod_eq_of_lt h2] at this
    rw [← this]
    unfold orW
    exact Nat.or_comm _ _
  have k1 : lim zs m / 2 ^ t < 2 ^ u := shr_lt (by omega) (lz.get m)
  have k2 : val zs = val (zs.take m) + LB ^ m * lim zs m + LB ^ (m + 1) * lim zs (m + 1) := by
    have h1 := val_take_succ zs m
    have h2 := val_take_succ zs (m + 1)
    rw [List.take_of_length_le hl, h1] at h2
    exact h2
  have k3 : val (zs.take m) < LB ^ m := by
    have h1 := val_lt (lz.take m)
    have : LB ^ (zs.take m).length ≤ LB ^ m := Nat.pow_le_pow_right LB_pos (by rw [List.length_take]; omega)
    omega
  have hLB : LB = 2 ^ u * 2 ^ t := LB_split h
  have k4 := Nat.div_add_mod (lim zs m) (2 ^ t)
  have k5 := Nat.mod_lt (lim zs m) (Nat.two_pow_pos t)
  rw [e]
  refine ⟨?_, val (zs.take m) + LB ^ m * (lim zs m % 2 ^ t), ?_, ?_⟩
  · have := Nat.mul_le_mul_left (2 ^ u) h2
    rw [Nat.mul_succ, ← hLB] at this
    omega
  · rw [k2, Nat.pow_succ]
    generalize LB ^ m = Q at *
    generalize lim zs (m + 1) = b at *
    generalize lim zs m % 2 ^ t = r at *
    generalize lim zs m / 2 ^ t = q at *
    rw [← k4, hLB]
    generalize 2 ^ t = T at *
    generalize 2 ^ u = U at *
    have e1 : (q + U * b) * (Q * T) = Q * (T * q) + Q * (U * T) * b := by
      rw [Nat.add_mul]
      congr 1
      · rw [Nat.mul_comm q, Nat.mul_assoc]
      · rw [Nat.mul_comm (U * b), Nat.mul_assoc, Nat.mul_assoc, ← Nat.mul_assoc T U b, Nat.mul_comm T U]
    rw [e1, Nat.mul_add]
    omega
  · have := Nat.mul_le_mul_left (LB ^ m) k5
    rw [Nat.mul_succ] at this
    omega
theorem top_le2 {xs ys : List Nat} {m : Nat} (lx : Limbs xs) (hxl : xs.length = m + 2) (h : val ys ≤ val xs) : lim ys (m + 1) ≤ lim xs (m + 1) := by
  have h1 := val_take_succ xs (m + 1)
  have h2 := val_take_succ ys (m + 1)
  have h3 := val_take_le ys (m + 1 + 1)
  rw [List.take_of_length_le (by omega)] at h1
  have h4 := val_lt (lx.take (m + 1))
  have h5 : LB ^ (xs.take (m + 1)).length ≤ LB ^ (m + 1) := Nat.pow_le_pow_right LB_pos (by rw [List.length_take]; omega)
  rcases Nat.lt_or_ge (lim xs (m + 1)) (lim ys (m + 1)) with h6 | h6
  · have := Nat.mul_le_mul_left (LB ^ (m + 1)) h6
    rw [Nat.mul_succ] at this
    omega
  · exact h6

set_option maxRecDepth 100000 in
set_option maxHeartbeats 1000000 in
theorem highest_any (A B : Option Addr) (c d m : Nat) (xs ys : List Nat) (w : World) (hx : Sl w A xs) (hy : Sl w B ys) (lx : Limbs xs) (ly : Limbs ys) (hxl : xs.length = m + 2) (hyl : ys.length ≤ m + 2) (hm : m ≤ 10000) (h0 : lim xs (m + 1) ≠ 0) (hle : val ys ≤ val xs) :
    Calls Tryz.prog 110 #[.slice A xs.length c, .slice B ys.length d] w fun e w' => ∃ H L P x0 y0 : Nat, e = .returned (.tuple #[.int .u64 (H : Int), .int .u64 (L : Int)]) ∧ val xs = H * P + x0 ∧ val ys = L * P + y0 ∧ x0 < P ∧ y0 < P ∧ H < LB ∧ L < LB ∧ ∃ q, w' = w.drewN q := by
  obtain ⟨s1, s2, _⟩ := lzW_shift h0 (lx.get (m + 1))
  obtain ⟨t, ht⟩ : ∃ t, t + lzW (lim xs (m + 1)) = 64 := ⟨64 - lzW (lim xs (m + 1)), by omega⟩
  have hx2 : lim xs (m + 1) < 2 ^ t := by
    rw [LB_split ht, Nat.mul_comm] at s2
    exact Nat.lt_of_mul_lt_mul_left s2
  obtain ⟨f1, x0, f2, f3⟩ := hi_form ht lx (by omega) hx2
  obtain ⟨g1, y0, g2, g3⟩ := hi_form ht ly (by omega) (Nat.lt_of_le_of_lt (top_le2 lx hxl hle) hx2)
  have FF := hide (show ∃ H L P x0 y0 : Nat, hiW xs m (lzW (lim xs (m + 1))) t = H ∧ hiW ys m (lzW (lim xs (m + 1))) t = L ∧ val xs = H * P + x0 ∧ val ys = L * P + y0 ∧ x0 < P ∧ y0 < P ∧ H < LB ∧ L < LB from ⟨_, _, _, x0, y0, rfl, rfl, f2, g2, f3, g3, f1, g1⟩)
  unfold hiW at FF
  obtain ⟨b, o, rfl, ha⟩ := hx.at_ (by omega)
  have c1 := ha.cell (j := m + 1) (by omega)
  have c2 := ha.cell (j := m) (by omega)
  have LZ := hide (fun W => lz64 (lim xs (m + 1)) (lx.get (m + 1)) W)
  generalize lzW (lim xs (m + 1)) = u at *
  have o1 := op_shl 56 .i64 (lim xs (m + 1)) u (by omega)
  have o2 := op_shr 56 .i64 (lim xs m) t (by omega)
  have o3 := op_or 56 (shlW (lim xs (m + 1)) u) (shrW (lim xs m) t) (shlW_lt _ _) (shrW_lt _ (lx.get m))
  have o4 := op_shl 56 .i64 (lim ys (m + 1)) u (by omega)
  have o5 := op_shr 56 .i64 (lim ys m) t (by omega)
  have o6 := op_or 56 (shlW (lim ys (m + 1)) u) (shrW (lim ys m) t) (shlW_lt _ _) (shrW_lt _ (ly.get m))
  have p1 : binOp .sub 3 (.int .i64 (xs.length : Int)) (.int .i64 1) = pure (.int .i64 ((m + 1 : Nat) : Int)) := i64_sub _ xs.length 1 (m + 1) (by omega) (by omega)
  have p2 : binOp .sub 3 (.int .i64 ((m + 1 : Nat) : Int)) (.int .i64 1) = pure (.int .i64 (m : Int)) := i64_sub _ (m + 1) 1 m (by omega) (by omega)
  have p3 : binOp .sub 3 (.int .i64 64) (.int .i64 (u : Int)) = pure (.int .i64 (t : Int)) := i64_sub _ 64 u t (by omega) (by omega)
  have L1 := hide (fun k => quiet_of (limb_any B d ys (m + 1) (w.drewN k) (hy.drewN k) (by omega) (by omega)))
  have L2 := hide (fun k => quiet_of (limb_any B d ys m (w.drewN k) (hy.drewN k) (by omega) (by omega)))
  have k1 : m + 1 < xs.length := by omega
  have k2 : m < xs.length := by omega
  have k3 : xs.length ≤ 10002 := by omega
  clear hx hy ha f1 f2 f3 g1 g2 g3 s1 s2 hx2 ht h0 hle lx ly hxl hyl
  generalize xs.length = n at *
  generalize lim xs (m + 1) = x2 at *
  generalize lim xs m = x1 at *
  generalize lim ys (m + 1) = y2 at *
  generalize lim ys m = y1 at *
  generalize shlW x2 u = a1 at *
  generalize shrW x1 t = a2 at *
  generalize orW a1 a2 = a3 at *
  generalize shlW y2 u = b1 at *
  generalize shrW y1 t = b2 at *
  generalize orW b1 b2 = b3 at *
  obtain ⟨m1, hm1⟩ : ∃ m1, m1 = m + 1 := ⟨_, rfl⟩
  rw [← hm1] at p1 p2 k1 c1 L1
  clear hm1
  go_enter Tryz.func110, Tryz.ntmps110
  go_wp2_with (go_at_call 55; (with_reducible refine (LZ.out _).mono ?_); rintro e w' ⟨rfl, rfl⟩)
  go_quiet (fail)
  go_wp2
  go_quiet (first
    | (go_at_call 89; with_reducible exact quiet_add (L1.out _))
    | (go_at_call 89; with_reducible exact quiet_add (L2.out _)))
  go_wp2
  go_ret2
  obtain ⟨H, L, P, x0, y0, rfl, rfl, h1, h2, h3, h4, h5, h6⟩ := FF.out
  exact ⟨_, _, P, x0, y0, rfl, h1, h2, h3, h4, h5, h6, dr2 _ _ _⟩
end Nt
end Go.Proofs.YtodphjnhoinpeaaGreatDoor
