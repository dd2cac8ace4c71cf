
/-
  The reference's shift, down.
-/
import Derived.Test.YtgmjdaallinicaaGreatDoorRefDv

import Derived.Test.YtgmjdaallinicaaGreatDoorLongZ

namespace Go.Proofs.YtgmjdaallinicaaGreatDoor

open Go.RowKit

namespace Nt

theorem DnInv.last {xs cs : List Nat} {l r s k : Nat} (lx : Limbs xs) (h : r + s = 64) (d : DnInv xs l r k cs) (hk : xs.length ≤ k + l + 1) :
    DnInv xs l r (k + 1) (cs ++ [shrW (lim xs (k + l)) r]) := by
  have h1 := d.step lx h
  have e : lim xs (k + l + 1) = 0 := lim_none hk
  rw [e] at h1
  have e2 : orW (shrW (lim xs (k + l)) r) (shlW 0 s) = shrW (lim xs (k + l)) r := by simp [orW, shlW]
  rwa [e2] at h1

theorem DnInv.all {xs cs : List Nat} {l k : Nat} (lx : Limbs xs) (d : DnInv xs l 0 k cs) (hk : l + k ≤ xs.length) :
    DnInv xs l 0 (xs.length - l) (cs ++ (xs.drop l).drop k) := by
  obtain ⟨h1, h2, h3⟩ := d
  refine ⟨by rw [List.length_append, List.length_drop, List.length_drop, h1]; omega, h2.append ((lx.drop l).drop k), ?_⟩
  rw [Nat.pow_zero, Nat.div_one, Nat.div_one] at h3
  rw [val_append, h1, show l + (xs.length - l) = xs.length by omega, List.drop_length, val_nil, Nat.zero_div, Nat.mul_zero, Nat.add_zero, Nat.pow_zero, Nat.div_one, List.drop_drop]
  exact h3

set_option maxRecDepth 100000 in
set_option maxHeartbeats 2000000 in
theorem rshift_down (b o c n : Nat) (xs : List Nat) (z : Int) (w : World) (hx : At w b o xs) (lx : Limbs xs) (hl : xs.length ≤ 10000) (hlc : xs.length ≤ c) (h0 : 0 < n) (hn : n ≤ 100000) (hz : z = -(n : Int)) :
    Calls Tryz.prog 57 #[.slice (some ⟨b, o, none⟩) xs.length c, .int .i64 z] w (Mk w (digs (val xs / 2 ^ n))) := by
  obtain ⟨l, hL⟩ : ∃ l, l = n / 64 := ⟨_, rfl⟩
  obtain ⟨r, hR⟩ : ∃ r, r = n % 64 := ⟨_, rfl⟩
  obtain ⟨s, hs⟩ : ∃ s, r + s = 64 := ⟨64 - r, by omega⟩
  have z0 : z < 0 := by omega
  have z1 : z ≤ 0 := by omega
  have z2 : -9223372036854775808 ≤ z := by omega
  have en : -z = (n : Int) := by omega
  have ew : wrap64 (-z) = (n : Int) := by rw [en]; unfold wrap64; omega
  have q1 : binOp .quo 3 (.int .i64 (n : Int)) (.int .i64 64) = pure (.int .i64 (l : Int)) := by
    rw [hL]; exact i64_quo _ n 64 (by omega) (by omega)
  have q2 : binOp .rem 3 (.int .i64 (n : Int)) (.int .i64 64) = pure (.int .i64 (r : Int)) := by
    rw [hR]; exact i64_rem _ n 64 (by omega)
  have wr0 : IntKind.u64.wrap (r : Int) = (r : Int) := by rw [IntKind.wrap_u64]; omega
  have r64 : r ≤ 63 := by omega
  have HS := hide hs
  have HN := hide (show n = 64 * l + r by omega)
  have HC := hide hlc
  clear hL hR hs en hz
  by_cases hk : xs.length ≤ l
  · have E := hide (show digs (val xs / 2 ^ n) = [] by
      have := HN.out
      rw [Nat.div_eq_of_lt (Nat.lt_of_lt_of_le (val_lt lx) (by rw [LB_two_pow]; exact Nat.pow_le_pow_right (by decide) (by omega))), digs_zero])
    go_enter Tryz.func57, Tryz.ntmps57
    go_wp2
    go_ret
    rw [E.out]
    exact Mk.intro (.nil _ _) (.refl _ _) rfl
  · obtain ⟨N, hN⟩ : ∃ N, N + l = xs.length := ⟨xs.length - l, by omega⟩
    obtain ⟨C, hC⟩ : ∃ C, C + l = c := ⟨c - l, by omega⟩
    have TL := hide (show Sl (w.alloc (.cells #[] 60)) (some ⟨b, o + l, none⟩) (xs.drop l) from (Sl.mk (⟨hx.1, fun j hj => by have h := hx.2 (l + j) (by rw [List.length_drop] at hj; omega); rw [lim_drop, Nat.add_assoc]; exact h⟩ : At w b (o + l) (xs.drop l))).alloc _)
    have TN := hide (show (xs.drop l).length = N by rw [List.length_drop]; omega)
    have e1 : xs.length - l = N := by omega
    have e2 : c - l = C := by omega
    go_enter Tryz.func57, Tryz.ntmps57
    go_wp2_with (at_builtin; refine app_any _ rfl (.tmp 22) (.tmp 25) rfl w.heap.size 0 0 N C (some ⟨w.heap.size, 0, none⟩) (some ⟨b, o + l, none⟩) [] (xs.drop l) rfl (Row.empty (Nat.le_refl _)) rfl TL.out TN.out (by omega) (by simp) ?_; intro A' c' w1 hr1 hg1; have hb1 := ((Below.refl _ _).alloc (Nat.le_refl _) _).grown hg1 (by simp) (Row.empty (Nat.le_refl _)).ownBlock; rw [List.nil_append, Nat.zero_add] at hr1; have HR := hide hr1; have HB := hide hb1; clear hr1 hb1 hg1)
    go_loopw [8] (fun i wr => ∃ (k : Nat) (cs : List Nat), k ≤ N ∧ i = .int .i64 (k : Nat) ∧ DnInv xs l r k cs ∧ Row wr w.heap.size A' N c' (cs ++ (xs.drop l).drop k) ∧ Below w.heap.size w wr) (fun i _ => N - (intOf i).toNat)
    case atStart => exact ⟨0, [], Nat.zero_le _, rfl, DnInv.zero _ _ _, by simpa using HR.out, HB.out⟩
    case round =>
      obtain ⟨k, cs, hk', rfl, di, ho, hb⟩ := hrel
      have T := hide (fun (C' : Option Addr) (c' : Nat) (ls : List Nat) W (h : Row W w.heap.size C' N c' ls) => (show Calls Tryz.prog 67 #[.slice C' N c'] W (Mk W (trimz ls)) from by
        have := rtrim_any C' c' ls W h.sl (by rw [h.len]; exact h.le) (by rw [h.len]; omega)
        rwa [h.len] at this))
      by_cases hlt : k < N
      · by_cases rp : r = 0
        · subst rp
          have D := hide ((di.all lx (by omega)).done lx HN.out (by omega)).1
          obtain ⟨ls, hls⟩ : ∃ ls, ls = cs ++ (xs.drop l).drop k := ⟨_, rfl⟩
          rw [← hls] at D ho
          have O := hide ho
          have BB := hide hb
          clear hls
          have og : binOp .gtr 83 (.int .u64 ((0 : Nat) : Int)) (.int .u64 0) = pure (.bool false) := rfl
          clear di ho hb
          go_wp2_with (go_at_call 67; (with_reducible refine (T.out _ _ _ _ O.out).mono ?_); rintro ee w2 ⟨A2, c2, rfl, hr2, hb2⟩)
          go_ret
          rw [D.out]
          exact Mk.trans BB.out ⟨A2, c2, rfl, hr2, hb2⟩
        · have og : binOp .gtr 83 (.int .u64 (r : Int)) (.int .u64 0) = pure (.bool true) := by
            show pure (Value.bool (decide ((0 : Int) < (r : Int)))) = _
            rw [decide_eq_true (by omega)]
          rcases ho.form with ⟨_, he⟩ | ⟨g, rfl, ho'⟩
          · exfalso
            have : (cs ++ (xs.drop l).drop k).length = 0 := by rw [he]; rfl
            rw [List.length_append, List.length_drop, List.length_drop] at this
            omega
          · have hcs := di.1
            have hkx : k < (xs.drop l).length := by rw [TN.out]; exact hlt
            have hcell := ho'.cell (j := k) (by rw [List.length_append, List.length_drop]; omega)
            rw [lim_mid hcs, lim_drop, Nat.add_comm l k] at hcell
            have hfr := ho'.frozen k
            have o1 := op_shr 60 .u64 (lim xs (k + l)) r (by omega)
            have hst := ho'.set k (shrW (lim xs (k + l)) r)
            have BB := hide hb
            have BG := hide ho'.base_le
            by_cases hl1 : k + 1 < N
            · have hcell2 := ho'.cell (j := k + 1) (by rw [List.length_append, List.length_drop, TN.out]; omega)
              have e3 : lim (cs ++ (xs.drop l).drop k) (k + 1) = lim xs (k + l + 1) := by
                have h1 := lim_append_right (xs := cs) (ys := (xs.drop l).drop k) (i := 1)
                rw [hcs] at h1
                rw [h1, lim_drop, lim_drop]
                congr 1; omega
              rw [e3] at hcell2
              have hc2 : ∀ u, (wr.setCell ⟨g, k, none⟩ u).cell? ⟨g, k + 1, none⟩ = some (.int .u64 ((lim xs (k + l + 1) : Nat) : Int)) := fun u =>
                (World.cell?_setCell_other wr _ _ u (by intro e; injection e; omega)).trans hcell2
              have hf2 := hst.frozen k
              have hst2 := hst.set k (orW (shrW (lim xs (k + l)) r) (shlW (lim xs (k + l + 1)) s))
              rw [List.set_set, set_drop _ hcs hkx] at hst2
              have S := hide (hst2.row (n := N) (by have := TN.out; rw [List.length_append, List.length_append, List.length_drop, List.length_singleton]; omega))
              have I := hide (di.step lx HS.out)
              have o0 : binOp .sub 83 (.int .u64 64) (.int .u64 (r : Int)) = pure (.int .u64 (s : Int)) := op_sub_le _ 64 r s (by have := HS.out; omega) (by rw [LB_eq]; omega)
              have o2 := op_shl 60 .u64 (lim xs (k + l + 1)) s (by have := HS.out; omega)
              have o3 := op_or 60 (shrW (lim xs (k + l)) r) (shlW (lim xs (k + l + 1)) s) (shrW_lt _ (lx.get _)) (shlW_lt _ _)
              clear hst hst2 hcell2 e3 di ho ho' hb hcs
              generalize orW (shrW (lim xs (k + l)) r) (shlW (lim xs (k + l + 1)) s) = z3 at *
              generalize shrW (lim xs (k + l)) r = z1 at *
              generalize shlW (lim xs (k + l + 1)) s = z2 at *
              generalize lim xs (k + l) = x at *
              generalize lim xs (k + l + 1) = y at *
              go_wp2_with fail
              go_region
              go_wp2
              go_roundw
              case rel => exact ⟨k + 1, _, by omega, by go_num, I.out, S.out, ((BB.out.setCell BG.out _).drew).setCell BG.out _⟩
              case measure => simp [intOf]; omega
            · have I0 := di.last lx HS.out (by omega)
              rw [set_drop _ hcs hkx] at hst
              have S := hide (hst.row (n := N) (by have := TN.out; rw [List.length_append, List.length_append, List.length_drop, List.length_singleton]; omega))
              have I := hide I0
              clear hst I0 di ho ho' hb hcs
              generalize shrW (lim xs (k + l)) r = z1 at *
              generalize lim xs (k + l) = x at *
              go_wp2
              go_roundw
              case rel => exact ⟨k + 1, _, by omega, by go_num, I.out, S.out, BB.out.setCell BG.out _⟩
              case measure => simp [intOf]; omega
      · obtain rfl : k = N := by omega
        have D := hide (di.done lx HN.out (by omega)).1
        rw [List.drop_of_length_le (by rw [TN.out]; exact Nat.le_refl _), List.append_nil] at ho
        have O := hide ho
        have BB := hide hb
        clear di ho hb
        go_wp2_with (go_at_call 67; (with_reducible refine (T.out _ _ _ _ O.out).mono ?_); rintro ee w2 ⟨A2, c2, rfl, hr2, hb2⟩)
        go_ret
        rw [D.out]
        exact Mk.trans BB.out ⟨A2, c2, rfl, hr2, hb2⟩
end Nt

end Go.Proofs.YtgmjdaallinicaaGreatDoor
