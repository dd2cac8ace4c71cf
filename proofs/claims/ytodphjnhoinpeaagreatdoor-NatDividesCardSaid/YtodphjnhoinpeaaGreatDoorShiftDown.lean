/-
  nat.shiftDown.
-/
import Derived.Test.YtodphjnhoinpeaaGreatDoorMathS
import Derived.Test.YtodphjnhoinpeaaGreatDoorSub
import Derived.Test.YtodphjnhoinpeaaGreatDoorParse2
namespace Go.Proofs.YtodphjnhoinpeaaGreatDoor
open Go.RowKit
namespace Nt

theorem i64_add (t : TypeId) (x y z : Nat) (h : x + y = z) (hz : z ≤ 9223372036854775807) : binOp .add t (.int .i64 (x : Int)) (.int .i64 (y : Int)) = pure (.int .i64 (z : Int)) := by
  have e : IntKind.i64.wrap ((x : Int) + (y : Int)) = (z : Int) := by rw [IntWalk.i64_in _ ⟨by omega, by omega⟩]; omega
  rw [← e]; rfl
set_option maxRecDepth 100000 in
set_option maxHeartbeats 1000000 in
theorem shiftDown_any (A : Option Addr) (c n : Nat) (xs : List Nat) (w : World) (hx : Sl w A xs) (lx : Limbs xs) (hl : xs.length ≤ 100000) (hn : n ≤ 64 * xs.length) :
    Calls Tryz.prog 50 #[.slice A xs.length c, .int .i64 (n : Int)] w fun e w' => ∃ g N out, e = .returned (.slice (some ⟨g, 0, none⟩) N N) ∧ out.length = N ∧ N ≤ 300000 ∧ digs (val xs / 2 ^ n) = trimz out ∧ Limbs out ∧ Own w' w.heap.size g N out ∧ Below w.heap.size w w' := by
  obtain ⟨l, hL⟩ : ∃ l, l = n / 64 := ⟨_, rfl⟩
  obtain ⟨r, hR⟩ : ∃ r, r = n % 64 := ⟨_, rfl⟩
  obtain ⟨s, hs⟩ : ∃ s, r + s = 64 := ⟨64 - r, by omega⟩
  have q1 : binOp .quo 3 (.int .i64 (n : Int)) (.int .i64 64) = pure (.int .i64 (l : Int)) := by
    rw [hL]; exact i64_quo _ n 64 (by omega) (by omega)
  have q2 : binOp .rem 3 (.int .i64 (n : Int)) (.int .i64 64) = pure (.int .i64 (r : Int)) := by
    rw [hR]; exact i64_rem _ n 64 (by omega)
  have q3 : binOp .sub 3 (.int .i64 64) (.int .i64 (r : Int)) = pure (.int .i64 (s : Int)) := i64_sub _ 64 r s (by omega) (by omega)
  have HN := hide (show n = 64 * l + r by omega)
  obtain ⟨N, hN⟩ : ∃ N, N + l = xs.length := ⟨xs.length - l, by omega⟩
  have q4 : binOp .sub 3 (.int .i64 (xs.length : Int)) (.int .i64 (l : Int)) = pure (.int .i64 (N : Int)) := i64_sub _ xs.length l N hN (by omega)
  have hmk : ∀ W : World, (Instr.makeSlice 22 (.int .i64 (N : Int)) (.int .i64 (N : Int))).run Tryz.prog W = .ok (.slice (some ⟨W.heap.size, 0, none⟩) N N) (W.alloc (.cells (madeCells #[.int .u64 0] N) 56)) :=
    fun W => run_make_u64 .i64 .i64 N N (by omega) (by omega) W
  have nb : N ≤ 100000 := by omega
  have lb : l ≤ 100000 := by omega
  have r64 : r ≤ 64 := by omega
  have s64 : s ≤ 64 := by omega
  have HNN := hide hN
  have HS := hide hs
  clear hL hR hN hs
  go_enter Tryz.func50, Tryz.ntmps50
  go_wp2
  have M := hide (Own.made (n := N) w (Nat.le_refl _) (Nat.le_refl N) (by unfold maxLen; omega))
  clear hmk
  go_loopw [20] (fun i wr => ∃ k cs, k ≤ N ∧ i = .int .i64 (k : Nat) ∧ DnInv xs l r k cs ∧ Own wr w.heap.size w.heap.size N (cs ++ List.replicate (N - k) 0) ∧ Below w.heap.size w wr) (fun i _ => N - (intOf i).toNat)
  case atStart => exact ⟨0, [], Nat.zero_le _, rfl, DnInv.zero _ _ _, by simpa using M.out, (Below.refl _ _).alloc (Nat.le_refl _) _⟩
  case round =>
    obtain ⟨k, cs, hk, rfl, di, ho, hb⟩ := hrel
    by_cases hlt : k < N
    · have hxr := hx.below hb (Nat.le_refl _)
      obtain ⟨m, hm⟩ : ∃ m, k + l = m := ⟨_, rfl⟩
      have hkl : m < xs.length := by have := HNN.out; omega
      have p1 : binOp .add 3 (.int .i64 (k : Int)) (.int .i64 (l : Int)) = pure (.int .i64 (m : Int)) := i64_add _ k l m hm (by omega)
      have p2 : binOp .add 3 (.int .i64 (m : Int)) (.int .i64 1) = pure (.int .i64 ((m + 1 : Nat) : Int)) := i64_add _ m 1 (m + 1) rfl (by omega)
      obtain ⟨b, o, rfl, ha0⟩ := hx.at_ (by omega)
      have ha := ha0.below hb ha0.lt
      have hbw := ha0.lt
      have hcx := ha.cell (j := m) hkl
      have hlen := di.1
      have hcell := ho.cell (j := k) (by simp; omega)
      have hfr := ho.frozen k
      have hst := ho.set k (orW (shrW (lim xs m) r) (shlW (lim xs (m + 1)) s))
      rw [set_grow' _ hlen hlt] at hst
      have S := hide hst
      have I0 := di.step lx HS.out
      rw [hm] at I0
      have I := hide I0
      have BB := hide hb
      have hL1 := lx.get m
      have o1 := op_shr 56 .i64 (lim xs m) r r64
      have o2 := op_shl 56 .i64 (lim xs (m + 1)) s s64
      have o3 := op_or 56 (shrW (lim xs m) r) (shlW (lim xs (m + 1)) s) (shrW_lt _ hL1) (shlW_lt _ _)
      have LM : Hid (∀ W, Sl W (some ⟨b, o, none⟩) xs → Calls Tryz.prog 89 #[.slice (some ⟨b, o, none⟩) xs.length c, .int .i64 ((m + 1 : Nat) : Int)] W fun e w' => e = .returned (.int .u64 ((lim xs (m + 1) : Nat) : Int)) ∧ W = w') :=
        fun W hW => limb_any _ c xs (m + 1) W hW (by omega) (by omega)
      have YR := hide hxr
      have hcs := hide (fun u => (show (wr.setCell ⟨w.heap.size, k, none⟩ u).drew.cell? ⟨b, o + m, none⟩ = some (.int .u64 ((lim xs m : Nat) : Int)) from
        (World.cell?_setCell_other wr _ _ u (by intro e; injection e with e _; omega)).trans hcx))
      clear I0 hst hlen ho di hb hxr ha ha0 hL1
      have MM := hide hm
      clear hm
      generalize lim xs m = x at *
      generalize lim xs (m + 1) = t at *
      obtain ⟨m1, hm1⟩ : ∃ m1, m1 = m + 1 := ⟨_, rfl⟩
      rw [← hm1] at p2 LM
      clear hm1
      go_wp2_with fail
      go_region_held3 (fun w' => w'.cell? ⟨b, o + m, none⟩ = some (.int .u64 (x : Int))) (first | exact hcs.out _ | go_keep)
        (first | (go_at_call 89; refine (LM.out _ YR.out.drew).mono ?_; rintro e w' ⟨rfl, rfl⟩))
      go_wp2
      go_roundw
      case rel => exact ⟨k + 1, _, by omega, by go_num, I.out, S.out, (BB.out.setCell (Nat.le_refl _) _).drew⟩
      case measure => simp [intOf]; omega
    · obtain rfl : k = N := by omega
      obtain ⟨d1, d2, d3⟩ := di.done lx HN.out (by have := HNN.out; omega)
      have D1 := hide d1
      rw [Nat.sub_self, List.replicate_zero, List.append_nil] at ho
      have OO := hide ho
      have BB := hide hb
      clear di ho hb d1
      go_wp2
      go_ret
      exact ⟨_, k, cs, rfl, d3, by omega, D1.out, d2, OO.out, BB.out⟩
end Nt
end Go.Proofs.YtodphjnhoinpeaaGreatDoor
