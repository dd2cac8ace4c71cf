/-
  nat.shiftUp.
-/
import Derived.Test.YtodphjnhoinpeaaGreatDoorMathS
import Derived.Test.YtodphjnhoinpeaaGreatDoorSub
import Derived.Test.YtodphjnhoinpeaaGreatDoorParse2
import Derived.RegionTactic
import Derived.ChangeAlike
import Derived.BigRegion
namespace Go.Proofs.YtodphjnhoinpeaaGreatDoor
open Go.RowKit
namespace Nt

set_option maxRecDepth 100000 in
set_option maxHeartbeats 1000000 in
theorem shiftUp_len (A : Option Addr) (c n : Nat) (xs : List Nat) (w : World) (hx : Sl w A xs) (lx : Limbs xs) (hl : xs.length ≤ 100000) (hn : n ≤ 100000) :
    Calls Tryz.prog 51 #[.slice A xs.length c, .int .i64 (n : Int)] w fun e w' => ∃ g N out, e = .returned (.slice (some ⟨g, 0, none⟩) N N) ∧ out.length = N ∧ N = xs.length + n / 64 + 1 ∧ N ≤ 300000 ∧ digs (val xs * 2 ^ n) = trimz out ∧ Limbs out ∧ Own w' w.heap.size g N out ∧ Below w.heap.size w w' := by
  obtain ⟨l, hL⟩ : ∃ l, l = n / 64 := ⟨_, rfl⟩
  obtain ⟨r, hR⟩ : ∃ r, r = n % 64 := ⟨_, rfl⟩
  obtain ⟨s, hs⟩ : ∃ s, r + s = 64 := ⟨64 - r, by omega⟩
  have q1 : binOp .quo 3 (.int .i64 (n : Int)) (.int .i64 64) = pure (.int .i64 (l : Int)) := by
    rw [hL]; exact i64_quo _ n 64 (by omega) (by omega)
  have q2 : binOp .rem 3 (.int .i64 (n : Int)) (.int .i64 64) = pure (.int .i64 (r : Int)) := by
    rw [hR]; exact i64_rem _ n 64 (by omega)
  have q3 : binOp .sub 3 (.int .i64 64) (.int .i64 (r : Int)) = pure (.int .i64 (s : Int)) := i64_sub _ 64 r s (by omega) (by omega)
  have HN := hide (show n = 64 * l + r by omega)
  obtain ⟨N, hN⟩ : ∃ N, N = xs.length + l + 1 := ⟨_, rfl⟩
  have hmk : ∀ W : World, (Instr.makeSlice 22 (.int .i64 ((xs.length : Int) + (l : Int) + 1)) (.int .i64 ((xs.length : Int) + (l : Int) + 1))).run Tryz.prog W = .ok (.slice (some ⟨W.heap.size, 0, none⟩) N N) (W.alloc (.cells (madeCells #[.int .u64 0] N) 56)) :=
    fun W => by
      have := run_make_u64 .i64 .i64 N N (by omega) (by omega) W
      rw [hN] at this ⊢
      exact this
  have nb : N ≤ 300000 := by omega
  have n1 : xs.length + l < N := by omega
  have lb : l ≤ 100000 := by omega
  have r64 : r ≤ 64 := by omega
  have s64 : s ≤ 64 := by omega
  have HNN := hide hN
  have HLL := hide hL
  have HS := hide hs
  clear hL hR hN hs
  go_enter Tryz.func51, Tryz.ntmps51
  go_wp2
  have M := hide (Own.made (n := N) w (Nat.le_refl _) (Nat.le_refl N) (by unfold maxLen; omega))
  clear hmk
  go_loopw [22] (fun i wr => ∃ k out, k ≤ xs.length ∧ i = .int .i64 (k : Nat) ∧ UpInv xs l r k out ∧ Own wr w.heap.size w.heap.size N out ∧ Below w.heap.size w wr) (fun i _ => xs.length - (intOf i).toNat)
  case atStart =>
    have hm := M.out
    exact ⟨0, _, Nat.zero_le _, rfl, by have := UpInv.zero xs l r; rw [← HNN.out] at this; exact this, hm, (Below.refl _ _).alloc (Nat.le_refl _) _⟩
  case round =>
    obtain ⟨i, out, hi, rfl, ui, ho, hb⟩ := hrel
    by_cases hlt : i < xs.length
    · obtain ⟨b, o, rfl, ha0⟩ := hx.at_ (by omega)
      have ha := ha0.below hb ha0.lt
      have hcx := ha.cell (j := i) (by omega)
      have hlen := ui.1
      have hcell := ho.cell (j := i + l) (by rw [hlen]; omega)
      have hfr := ho.frozen (i + l)
      have hlx := lx.get i
      have hlo := ui.2.1.get (i + l)
      have o1 := op_shl 56 .i64 (lim xs i) r r64
      have o2 := op_or 56 (lim out (i + l)) (shlW (lim xs i) r) hlo (shlW_lt _ _)
      have o3 := op_shr 56 .i64 (lim xs i) s s64
      have hs1 := ho.set (i + l) (orW (lim out (i + l)) (shlW (lim xs i) r))
      have hcell2 := hs1.cell (j := i + l + 1) (by rw [List.length_set, hlen, ← HNN.out]; omega)
      have hfr2 := hs1.frozen (i + l + 1)
      have S := hide (hs1.set (i + l + 1) (shrW (lim xs i) s))
      have I := hide (ui.step lx HS.out hlt)
      have BB := hide hb
      clear ha ha0 ui ho hb hlen hlx hlo hs1
      generalize lim out (i + l) = y at *
      generalize lim xs i = x at *
      go_wp2
      go_region
      go_wp2
      go_roundw
      case rel => exact ⟨i + 1, _, by omega, by go_num, I.out, S.out, ((BB.out.setCell (Nat.le_refl _) _).setCell (Nat.le_refl _) _).drew⟩
      case measure => simp [intOf]; omega
    · obtain rfl : i = xs.length := by omega
      obtain ⟨d1, d2, d3⟩ := ui.done HN.out
      have D1 := hide d1
      have OO := hide ho
      have BB := hide hb
      clear ui ho hb d1
      go_wp2
      go_ret
      exact ⟨_, N, out, rfl, by rw [d3, HNN.out], by rw [HNN.out, HLL.out], by omega, D1.out, d2, OO.out, BB.out⟩
theorem shiftUp_any (A : Option Addr) (c n : Nat) (xs : List Nat) (w : World) (hx : Sl w A xs) (lx : Limbs xs) (hl : xs.length ≤ 100000) (hn : n ≤ 100000) :
    Calls Tryz.prog 51 #[.slice A xs.length c, .int .i64 (n : Int)] w fun e w' => ∃ g N out, e = .returned (.slice (some ⟨g, 0, none⟩) N N) ∧ out.length = N ∧ N ≤ 300000 ∧ digs (val xs * 2 ^ n) = trimz out ∧ Limbs out ∧ Own w' w.heap.size g N out ∧ Below w.heap.size w w' :=
  (shiftUp_len A c n xs w hx lx hl hn).mono fun _ _ ⟨g, N, out, h1, h2, _, h⟩ => ⟨g, N, out, h1, h2, h⟩
end Nt
end Go.Proofs.YtodphjnhoinpeaaGreatDoor
