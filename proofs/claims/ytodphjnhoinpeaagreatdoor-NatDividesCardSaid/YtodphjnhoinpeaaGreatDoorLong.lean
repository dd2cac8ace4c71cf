/-
  nat.guessLimb.
  nat.nextLimb.
  nat.divideLong.
  nat.divide, nat.DivMod, of every two rows; shifts and quotients in numbers.
-/
import Derived.Test.YtodphjnhoinpeaaGreatDoorLong1
import Derived.Test.YtodphjnhoinpeaaGreatDoorMathL
import Derived.Test.YtodphjnhoinpeaaGreatDoorShiftDown
import Derived.Deep.RegionHeld3
import Derived.Test.YtodphjnhoinpeaaGreatDoorShiftUp
import Derived.Test.YtodphjnhoinpeaaGreatDoorBl
import Derived.Test.YtodphjnhoinpeaaGreatDoorDivide
namespace Go.Proofs.YtodphjnhoinpeaaGreatDoor
open Go.RowKit
namespace Nt

theorem quiet_add {P : Program} {f : FuncId} {args : Array Value} {w : World} {a n : Nat} {v : Value}
    (h : Calls P f args (w.drewN (a + n)) (Quiet (w.drewN (a + n)) v)) :
    Calls P f args (w.drewN (a + n)) fun e w'' => e = .returned v ∧ ∃ m, w'' = w.drewN (a + m) :=
  h.mono fun _ _ ⟨he, m, hm⟩ => ⟨he, n + m, by rw [hm, World.drewN_drewN, Nat.add_assoc]⟩

set_option maxRecDepth 100000 in
set_option maxHeartbeats 1000000 in
theorem guess_any (A B : Option Addr) (c d m N n m1 : Nat) (xs ys : List Nat) (w : World) (hx : Sl w A xs) (hy : Sl w B ys) (lx : Limbs xs) (ly : Limbs ys) (hxl : xs.length = N) (hyl : ys.length = n) (hN : N = m + 3) (hn : n = m + 2) (hm1 : m1 = m + 1) (hm : m ≤ 1000000) (hle : lim xs n ≤ lim ys m1) (hv : 0 < lim ys m1) :
    Calls Tryz.prog 124 #[.slice A N c, .slice B n d] w (Quiet w (.int .u64 ((gsp (lim xs n) (lim xs m1) (lim xs m) (lim ys m1) (lim ys m) : Nat) : Int))) := by
  obtain ⟨b, o, rfl, ha⟩ := hx.at_ (by omega)
  obtain ⟨b', o', rfl, ha'⟩ := hy.at_ (by omega)
  have c0 := ha.cell (j := n) (by omega)
  have c1 := ha.cell (j := m1) (by omega)
  have c2 := ha.cell (j := m) (by omega)
  have d1 := ha'.cell (j := m1) (by omega)
  have d2 := ha'.cell (j := m) (by omega)
  have q1 : binOp .sub 3 (.int .i64 (n : Int)) (.int .i64 1) = pure (.int .i64 (m1 : Int)) := i64_sub _ n 1 m1 (by omega) (by omega)
  have q2 : binOp .sub 3 (.int .i64 (n : Int)) (.int .i64 2) = pure (.int .i64 (m : Int)) := i64_sub _ n 2 m (by omega) (by omega)
  have k1 : n < N := by omega
  have k2 : m1 < N := by omega
  have k3 : m < N := by omega
  have k4 : m1 < n := by omega
  have k5 : m < n := by omega
  have k6 : N ≤ 2000000 := by omega
  have l0 := hide (lx.get n)
  have l1 := hide (lx.get m1)
  have l2 := hide (lx.get m)
  have l3 := hide (ly.get m1)
  have l4 := hide (ly.get m)
  clear ha ha' hx hy lx ly hxl hyl hN hn hm1
  generalize lim xs n = rn at *
  generalize lim xs m1 = r1 at *
  generalize lim xs m = r2 at *
  generalize lim ys m1 = v1 at *
  generalize lim ys m = v2 at *
  by_cases he : rn = v1
  · subst he
    have E := hide (show gsp rn r1 r2 rn v2 = 18446744073709551615 by unfold gsp; rw [if_pos rfl]; rfl)
    go_enter Tryz.func124, Tryz.ntmps124
    go_wp2
    go_quiet (fail)
    go_wp2
    go_ret
    exact ⟨ret_one (by rw [E.out]; rfl), _, rfl⟩
  · have hlt : rn < v1 := by omega
    have he' : ((rn : Int) == (v1 : Int)) = false := beq_eq_false_iff_ne.2 (by omega)
    have E := hide (show gsp rn r1 r2 v1 v2 = gF rn r1 r2 v1 v2 by unfold gsp; rw [if_neg he])
    have GS := hide (Gs.start (v2 := v2) hlt l1.out l2.out l3.out)
    have D := hide (fun W => div64 rn r1 v1 hlt l3.out l1.out W)
    clear he hle
    go_enter Tryz.func124, Tryz.ntmps124
    go_wp2
    go_quiet (fail)
    go_wp2
    go_quiet ((go_at_call 108; exact quiet_add (D.out _)))
    go_wp2
    go_loopw [6, 7] (fun gg ll wr => ∃ g l, gg = .int .u64 (g : Nat) ∧ ll = .int .u64 (l : Nat) ∧ Gs rn r1 r2 v1 v2 g l ∧ ∃ q, wr = w.drewN q) (fun gg _ _ => (intOf gg).toNat)
    case atStart => exact ⟨_, _, rfl, rfl, GS.out, dr2 _ _ _⟩
    case round =>
      obtain ⟨g, l, rfl, rfl, gs, q, rfl⟩ := hrel
      have MX := hide (fun W => mul64 g v2 gs.2.2.1 l4.out W)
      have P1 := hide (fun h => gs.stop (v2 := v2) hv h)
      have P2 := hide (fun h => gs.far hv l2.out h)
      have gl := hide gs.2.2.1
      have G := hide gs
      clear gs
      generalize mulHi g v2 = hi at *
      generalize mulLo g v2 = lo at *
      rcases Nat.lt_trichotomy hi l with h | h | h
      · have S := hide (P1.out (.inl h))
        clear P1 P2 G gl
        go_wp2_with (go_at_call 94; (with_reducible refine (MX.out _).mono ?_); rintro e w' ⟨rfl, rfl⟩)
        go_ret
        exact ⟨ret_one (by rw [E.out, ← S.out]), q, rfl⟩
      · subst h
        by_cases h2 : lo ≤ r2
        · have S := hide (P1.out (.inr ⟨rfl, h2⟩))
          clear P1 P2 G gl
          go_wp2_with (go_at_call 94; (with_reducible refine (MX.out _).mono ?_); rintro e w' ⟨rfl, rfl⟩)
          go_ret
          exact ⟨ret_one (by rw [E.out, ← S.out]), q, rfl⟩
        · have h2' : r2 < lo := by omega
          have hf := P2.out (.inr ⟨rfl, h2'⟩)
          obtain ⟨k, hk⟩ : ∃ k, k + 1 = g := ⟨g - 1, by omega⟩
          have o1 : binOp .sub 56 (.int .u64 (g : Int)) (.int .u64 1) = pure (.int .u64 (k : Int)) := op_sub_le _ g 1 k hk gl.out
          by_cases hc : carL hi v1 0 = 0
          · have AD : ∀ W, (callFunc 95 #[.int .u64 (hi : Int), .int .u64 (v1 : Int), .int .u64 0]).run Tryz.prog W = .ok (.value (.tuple #[.int .u64 ((sumL hi v1 0 : Nat) : Int), .int .u64 0])) W := fun W => by
              have := add64_0 hi v1 W
              rwa [hc] at this
            have G2 := hide (G.out.step hk hf hc)
            have HK := hide (show k < g by omega)
            clear P1 P2 G gl hf hk hc h2
            generalize sumL hi v1 0 = l2 at *
            go_wp2_with (go_at_call 94; (with_reducible refine (MX.out _).mono ?_); rintro e w' ⟨rfl, rfl⟩)
            go_roundw
            case rel => exact ⟨k, l2, rfl, rfl, G2.out, q, rfl⟩
            case measure => (have := HK.out; simp [intOf]; omega)
          · have S := hide (G.out.over hk hf hv l4.out hc)
            have hc' : ((carL hi v1 0 : Int) != 0) = true := by simp; omega
            have AD := fun W => add64_0 hi v1 W
            clear P1 P2 G gl hf hk hc h2
            generalize carL hi v1 0 = cc at *
            generalize sumL hi v1 0 = l2 at *
            go_wp2_with (go_at_call 94; (with_reducible refine (MX.out _).mono ?_); rintro e w' ⟨rfl, rfl⟩)
            go_ret
            exact ⟨ret_one (by rw [E.out, ← S.out]), q, rfl⟩
      · have hne : ((hi : Int) == (l : Int)) = false := beq_eq_false_iff_ne.2 (by omega)
        have hf := P2.out (.inl h)
        obtain ⟨k, hk⟩ : ∃ k, k + 1 = g := ⟨g - 1, by omega⟩
        have o1 : binOp .sub 56 (.int .u64 (g : Int)) (.int .u64 1) = pure (.int .u64 (k : Int)) := op_sub_le _ g 1 k hk gl.out
        by_cases hc : carL l v1 0 = 0
        · have AD : ∀ W, (callFunc 95 #[.int .u64 (l : Int), .int .u64 (v1 : Int), .int .u64 0]).run Tryz.prog W = .ok (.value (.tuple #[.int .u64 ((sumL l v1 0 : Nat) : Int), .int .u64 0])) W := fun W => by
            have := add64_0 l v1 W
            rwa [hc] at this
          have G2 := hide (G.out.step hk hf hc)
          have HK := hide (show k < g by omega)
          clear P1 P2 G gl hf hk hc
          generalize sumL l v1 0 = l2 at *
          go_wp2_with (go_at_call 94; (with_reducible refine (MX.out _).mono ?_); rintro e w' ⟨rfl, rfl⟩)
          go_roundw
          case rel => exact ⟨k, l2, rfl, rfl, G2.out, q, rfl⟩
          case measure => (have := HK.out; simp [intOf]; omega)
        · have S := hide (G.out.over hk hf hv l4.out hc)
          have hc' : ((carL l v1 0 : Int) != 0) = true := by simp; omega
          have AD := fun W => add64_0 l v1 W
          clear P1 P2 G gl hf hk hc
          generalize carL l v1 0 = cc at *
          generalize sumL l v1 0 = l2 at *
          go_wp2_with (go_at_call 94; (with_reducible refine (MX.out _).mono ?_); rintro e w' ⟨rfl, rfl⟩)
          go_ret
          exact ⟨ret_one (by rw [E.out, ← S.out]), q, rfl⟩
end Nt
end Go.Proofs.YtodphjnhoinpeaaGreatDoor
namespace Go.Proofs.YtodphjnhoinpeaaGreatDoor
open Go.RowKit
namespace Nt

theorem At.take {w : World} {b o : Nat} {xs : List Nat} (h : At w b o xs) (k : Nat) : At w b o (xs.take k) := by
  refine ⟨h.1, fun j hj => ?_⟩
  rw [List.length_take] at hj
  rw [h.2 j (by omega), lim_take (by omega)]
theorem Sl.wrote {w w' : World} {A : Option Addr} {xs : List Nat} {g o n : Nat} (h : Sl w A xs) (hw : Wrote w w' g o n) (hB : ∀ b o', A = some ⟨b, o', none⟩ → b ≠ g) : Sl w' A xs := by
  rcases h with h | ⟨b, o', e, h⟩
  · exact .inl h
  · exact .inr ⟨b, o', e, h.wrote hw (hB _ _ e)⟩
theorem Wrote.ofDrew {w w' : World} {k g o n : Nat} (h : Wrote (w.drewN k) w' g o n) : Wrote w w' g o n := ⟨⟨h.grown.os, h.grown.tape, h.grown.output, h.grown.size, h.grown.block⟩, h.cell, h.frozen⟩
theorem gsp_small {rn r1 r2 v1 v2 : Nat} (hle : rn ≤ v1) (h1 : r1 < LB) (h2 : r2 < LB) (hv : v1 < LB) : gsp rn r1 r2 v1 v2 < LB := by
  have := LB_two
  unfold gsp
  by_cases he : rn = v1
  · rw [if_pos he]; omega
  · rw [if_neg he]; exact gsp_lt (Gs.start (r2 := r2) (v2 := v2) (by omega) h1 h2 hv)

set_option maxRecDepth 100000 in
set_option maxHeartbeats 1000000 in
theorem next_any (g o c d m n N : Nat) (B : Option Addr) (xs ys : List Nat) (w : World) (hr : At w g o xs) (hf : Free w g o n) (hs : Sl w B ys) (hB : ∀ b o', B = some ⟨b, o', none⟩ → b ≠ g) (hxl : xs.length = N) (hyl : ys.length = n) (hN : N = n + 1) (hn : n = m + 2) (hm : m ≤ 100000) (hc : N ≤ c) (_hcm : c ≤ 1000000)
    (lx : Limbs xs) (ly : Limbs ys) (hq : val xs < LB * val ys) (hv : LB ≤ 2 * lim ys (m + 1)) :
    Calls Tryz.prog 109 #[.slice (some ⟨g, o, none⟩) N c, .slice B n d] w fun e w' => e = .returned (.int .u64 ((val xs / val ys : Nat) : Int)) ∧ ∃ cs, cs.length = n ∧ Limbs cs ∧ val cs = val xs % val ys ∧ At w' g o cs ∧ Wrote w w' g o n := by
  have hL := LB_two
  have hle : lim xs n ≤ lim ys (m + 1) := by
    have := top_le (xs := xs) (ys := ys) (n := m + 1) (by omega) (by omega) ly hq
    rwa [show m + 1 + 1 = n by omega] at this
  obtain ⟨gq1, gq2⟩ := gsp_ok (m := m) (by omega) (by omega) lx ly hq hv
  rw [show m + 2 = n by omega] at gq1 gq2
  have gsm := gsp_small (r2 := lim xs m) (v2 := lim ys m) hle (lx.get (m + 1)) (lx.get m) (ly.get (m + 1))
  have hbp : 0 < val ys := by
    rcases Nat.eq_zero_or_pos (val ys) with h0 | h0
    · rw [h0] at hq; omega
    · exact h0
  have GC := hide (guess_any (some ⟨g, o, none⟩) B c d m N n (m + 1) xs ys w (.mk hr) hs lx ly hxl hyl (by omega) hn rfl (by omega) hle (by omega))
  have htk : (xs.take n).length = n := by rw [List.length_take]; omega
  have hrn := hr.cell (j := n) (by omega)
  have nN : n ≤ N := by omega
  have nN' : n < N := by omega
  have nc : n ≤ c := by omega
  have A1 := hide (hr.take n)
  have F1 := hide hf
  have S1 := hide hs
  have LX := hide (lx.take n)
  have LY := hide ly
  have Q1 := hide gq1
  have Q2 := hide gq2
  have P1 := hide (fun (t bo : Nat) (cs : List Nat) (ti : TakeInv (xs.take n) ys t n bo cs) => next_same (g := t) (by omega) hyl ly hbp ti)
  have P2 := hide (fun (t k bo cc : Nat) (cs cs2 : List Nat) (ti : TakeInv (xs.take n) ys t n bo cs) => next_back (g := t) (k := k) (cc := cc) (cs2 := cs2) (by omega) hyl ly hbp ti)
  have TK := hide htk
  have YL := hide hyl
  have rl := hide (lx.get n)
  have nm : n ≤ 1000000 := by omega
  clear hr hf hs lx ly hq hv gq1 gq2 hle hbp hxl hyl htk hN hn
  generalize gsp (lim xs n) (lim xs (m + 1)) (lim xs m) (lim ys (m + 1)) (lim ys m) = t at *
  generalize lim xs n = rn at *
  generalize val xs / val ys = q at *
  generalize val xs % val ys = r at *
  go_enter Tryz.func109, Tryz.ntmps109
  go_wp2_with (go_at_call 124; (with_reducible refine (GC.out).mono ?_); rintro e w1 ⟨rfl, q0, rfl⟩)
  go_region_held3 (fun w' => w'.cell? ⟨g, o + n, none⟩ = some (.int .u64 (rn : Int)))
    (first | exact hrn | exact (wr.cell (o + n) (.inr (Nat.le_refl _))).trans (by assumption) | go_keep)
    (first | (go_at_call 125; (with_reducible refine (takeAway_any g o n _ _ t B (xs.take n) ys _ (A1.out.drewN (q0 + 1)) (F1.out.drewN (q0 + 1)) TK.out YL.out (S1.out.drewN (q0 + 1)) hB LX.out LY.out nm gsm).mono ?_); rintro e w2 ⟨cs, bo, rfl, ti, a2, wr⟩))
  all_goals
    have hbo := Nat.lt_of_le_of_lt ti.2.2.1 gsm
    have W2 := hide wr
    have T2 := hide ti
    have AA := hide a2
    have S2 := hide ((S1.out.drewN (q0 + 1)).wrote wr hB)
    clear wr ti a2
    by_cases hb : rn < bo
    · obtain ⟨k, hk⟩ : ∃ k, k + 1 = t := ⟨t - 1, by have := T2.out.2.2.1; omega⟩
      have GB := hide (giveBack_any g o n c d B cs ys w2 AA.out ((F1.out.drewN (q0 + 1)).wrote W2.out) T2.out.1 YL.out S2.out hB T2.out.2.1 LY.out nm)
      have o1 : binOp .sub 56 (.int .u64 (t : Int)) (.int .u64 1) = pure (.int .u64 (k : Int)) := op_sub_le _ t 1 k hk gsm
      have F := hide (fun cc cs2 ai => P2.out t k bo cc cs cs2 T2.out Q2.out hk hb ai)
      clear hk
      go_wp2_with (go_at_call 126; (with_reducible refine (GB.out).mono ?_); rintro e w3 ⟨rfl, cs2, cc, ai, a3, wr3⟩)
      go_ret
      obtain ⟨f1, f2⟩ := F.out cc cs2 ai
      exact ⟨ret_one (by rw [f1]), cs2, ai.1, ai.2.1, f2, a3, (Wrote.ofDrew W2.out).trans wr3 ⟨Nat.le_refl _, Nat.le_refl _⟩ ⟨Nat.le_refl _, Nat.le_refl _⟩⟩
    · have F := hide (P1.out t bo cs T2.out Q2.out Q1.out (by omega))
      go_wp2
      go_ret
      exact ⟨ret_one (by rw [F.out.1]), cs, T2.out.1, T2.out.2.1, F.out.2, AA.out, Wrote.ofDrew W2.out⟩
end Nt
end Go.Proofs.YtodphjnhoinpeaaGreatDoor
namespace Go.Proofs.YtodphjnhoinpeaaGreatDoor
open Go.RowKit
namespace Nt

theorem At.window {w : World} {g : Nat} {rs : List Nat} (h : At w g 0 rs) (k n : Nat) : At w g k (win rs k n) := by
  refine ⟨h.1, fun j hj => ?_⟩
  unfold win at hj ⊢
  rw [List.length_take, List.length_drop] at hj
  have := h.2 (k + j) (by omega)
  rw [Nat.zero_add] at this
  rw [this, lim_take (by omega), lim_drop]
theorem At.patch {w w' : World} {g k n : Nat} {rs cs : List Nat} (h : At w g 0 rs) (hc : At w' g k cs) (hw : Wrote w w' g k n) (hn : cs.length = n) (hk : k + n ≤ rs.length) : At w' g 0 (rs.take k ++ cs ++ rs.drop (k + n)) := by
  have ht : (rs.take k).length = k := by rw [List.length_take]; omega
  refine ⟨hc.1, fun j hj => ?_⟩
  rw [List.length_append, List.length_append, List.length_drop, ht, hn] at hj
  by_cases h1 : j < k
  · have e := h.2 j (by omega)
    rw [hw.cell _ (by omega), e, List.append_assoc, lim_append_left (by omega), lim_take h1]
  · by_cases h2 : j < k + n
    · have e := hc.2 (j - k) (by omega)
      rw [show k + (j - k) = 0 + j by omega] at e
      rw [e, lim_append_left (by rw [List.length_append]; omega)]
      have := lim_append_right (xs := rs.take k) (ys := cs) (i := j - k)
      rw [ht, show k + (j - k) = j by omega] at this
      rw [this]
    · have e := h.2 j (by omega)
      rw [hw.cell _ (by omega), e]
      have := lim_append_right (xs := rs.take k ++ cs) (ys := rs.drop (k + n)) (i := j - (k + n))
      rw [List.length_append, ht, hn, show k + n + (j - (k + n)) = j by omega, lim_drop, show k + n + (j - (k + n)) = j by omega] at this
      rw [this]
/-- The divisor, shifted: it keeps its length, and its highest digit is 1. -/
theorem by_facts {ys out : List Nat} {n s : Nat} (hy : ys.length = n + 1) (ly : Limbs ys) (lo : Limbs out) (hlen : out.length = n + 2) (hv : val out = val ys * 2 ^ s) (h1 : lim ys n * 2 ^ s < LB) (h2 : LB ≤ 2 * (lim ys n * 2 ^ s)) (hs : s ≤ 63) :
    (out.take (n + 1)).length = n + 1 ∧ val (out.take (n + 1)) = val ys * 2 ^ s ∧ LB ≤ 2 * lim (out.take (n + 1)) n := by
  have hp : 0 < 2 ^ s := Nat.two_pow_pos s
  have e1 := top1 hy
  have l1 := take_lt ly (m := n) (by omega)
  obtain ⟨t, ht⟩ : ∃ t, t + s = 64 := ⟨64 - s, by omega⟩
  have hL : LB = 2 ^ t * 2 ^ s := by rw [← Nat.pow_add, ht]; rfl
  have ht1 : lim ys n + 1 ≤ 2 ^ t := by rw [hL] at h1; exact Nat.lt_of_mul_lt_mul_right h1
  have hlt : val ys * 2 ^ s < LB ^ (n + 1) := by
    have a1 : val ys < LB ^ n * 2 ^ t := by
      have : LB ^ n * (lim ys n + 1) ≤ LB ^ n * 2 ^ t := Nat.mul_le_mul_left _ ht1
      rw [Nat.mul_add, Nat.mul_one] at this
      omega
    have a2 := Nat.mul_lt_mul_of_pos_right a1 hp
    rw [Nat.mul_assoc, ← hL, ← Nat.pow_succ] at a2
    exact a2
  have e2 := top1 (n := n + 1) hlen
  have hz : lim out (n + 1) = 0 := by
    rcases Nat.eq_zero_or_pos (lim out (n + 1)) with h0 | h0
    · exact h0
    · have := Nat.mul_le_mul_left (LB ^ (n + 1)) (show 1 ≤ lim out (n + 1) from h0)
      omega
  rw [hz, Nat.mul_zero, Nat.add_zero] at e2
  have hl : (out.take (n + 1)).length = n + 1 := by rw [List.length_take]; omega
  refine ⟨hl, by rw [← e2, hv], ?_⟩
  have e3 := top1 hl
  have l3 := take_lt (lo.take (n + 1)) (m := n) (by omega)
  have a3 : LB ^ n * (lim ys n * 2 ^ s) < LB ^ n * (lim (out.take (n + 1)) n + 1) := by
    have : LB ^ n * (lim ys n * 2 ^ s) ≤ val ys * 2 ^ s := by
      rw [← Nat.mul_assoc]; exact Nat.mul_le_mul_right _ (by omega)
    rw [Nat.mul_add, Nat.mul_one]
    omega
  have := Nat.lt_of_mul_lt_mul_left a3
  omega
theorem len_up {a s : Nat} (hs : s ≤ 63) : a + s / 64 + 1 = a + 1 := by omega
theorem val_of_digs {m : Nat} {out : List Nat} (h : digs m = trimz out) (l : Limbs out) : val out = m := by rw [← val_trimz l, ← h, val_digs]
theorem keepS {w w' : World} (hb : Below w.heap.size w w') {A B : Option Addr} {xs ys : List Nat} (h : Sl w A xs ∧ Sl w B ys) : Sl w' A xs ∧ Sl w' B ys := ⟨bl_keeps hb _ _ h.1, bl_keeps hb _ _ h.2⟩
theorem op_f (t : TypeId) {x y : Int} (h : x < y) : binOp .geq t (.int .i64 x) (.int .i64 y) = pure (.bool false) := by
  show pure (Value.bool (decide (y ≤ x))) = _
  rw [decide_eq_false (by omega)]

set_option maxRecDepth 100000 in
set_option maxHeartbeats 2000000 in
theorem long_any (xs ys : List Nat) (lx : Limbs xs) (ly : Limbs ys) (ny : Norm ys) (hx64 : xs.length ≤ 10000) (hy64 : ys.length ≤ 10000) (h2 : 2 ≤ ys.length) (hle : val ys ≤ val xs) : LongOk xs ys := by
  intro A B c d w hx hy
  have hll := len_le_of_val lx ny hle
  obtain ⟨m, hm⟩ : ∃ m, ys.length = m + 2 := ⟨ys.length - 2, by omega⟩
  obtain ⟨K, hK⟩ : ∃ K, K + ys.length = xs.length + 1 := ⟨xs.length + 1 - ys.length, by omega⟩
  have ht0 : lim ys (m + 1) ≠ 0 := by
    rcases ny with h0 | h0
    · rw [h0] at h2; simp at h2
    · rwa [show ys.length - 1 = m + 1 by omega] at h0
  obtain ⟨s1, s2, s3⟩ := lzW_shift ht0 (ly.get (m + 1))
  have hyp : 0 < val ys := by
    have := le_val ny (by rintro rfl; simp at h2)
    have := LB_pow_pos (ys.length - 1)
    omega
  obtain ⟨b, o, rfl, hb⟩ := hy.at_ (by omega)
  have hcb := hb.cell (j := m + 1) (by omega)
  have q1 : binOp .sub 3 (.int .i64 (ys.length : Int)) (.int .i64 1) = pure (.int .i64 ((m + 1 : Nat) : Int)) := i64_sub _ ys.length 1 (m + 1) (by omega) (by omega)
  have q2 : binOp .sub 3 (.int .i64 (xs.length : Int)) (.int .i64 (ys.length : Int)) = pure (.int .i64 ((xs.length - ys.length : Nat) : Int)) := i64_sub _ xs.length ys.length (xs.length - ys.length) (by omega) (by omega)
  have q3 : binOp .add 3 (.int .i64 ((xs.length - ys.length : Nat) : Int)) (.int .i64 1) = pure (.int .i64 (K : Int)) := i64_add _ (xs.length - ys.length) 1 K (by omega) (by omega)
  have LZ := hide (fun W => lz64 (lim ys (m + 1)) (ly.get (m + 1)) W)
  have hidx : m + 1 < ys.length := by omega
  generalize hs : lzW (lim ys (m + 1)) = s at *
  have U1 := hide (fun W (h : Below w.heap.size w W) => shiftUp_len A c s xs W (bl_keeps h _ _ hx) lx (by omega) (by omega))
  have U2 := hide (fun W (h : Below w.heap.size w W) => shiftUp_len (some ⟨b, o, none⟩) d s ys W (bl_keeps h _ _ hy) ly (by omega) (by omega))
  have hmk : ∀ W : World, (Instr.makeSlice 22 (.int .i64 (K : Int)) (.int .i64 (K : Int))).run Tryz.prog W = .ok (.slice (some ⟨W.heap.size, 0, none⟩) K K) (W.alloc (.cells (madeCells #[.int .u64 0] K) 56)) :=
    fun W => run_make_u64 .i64 .i64 K K (by omega) (by omega) W
  have BF := hide (fun (N : Nat) (out : List Nat) (lo : Limbs out) (hlen : out.length = N) (hN : N = ys.length + s / 64 + 1) (hd : digs (val ys * 2 ^ s) = trimz out) => by_facts (n := m + 1) (s := s) (by omega) ly lo (by rw [hlen, hN, len_up s1]; omega) (val_of_digs hd lo) s2 s3 s1)
  have AF := hide (fun (N : Nat) (out : List Nat) (lo : Limbs out) (hlen : out.length = N) (hN : N = xs.length + s / 64 + 1) (hd : digs (val xs * 2 ^ s) = trimz out) => (show out.length = K + ys.length ∧ val out = val xs * 2 ^ s from ⟨by rw [hlen, hN, len_up s1]; omega, val_of_digs hd lo⟩))
  have XL := hide (val_lt lx)
  have YP := hide hyp
  have M2 := hide hm
  have S63 := hide s1
  have hne0 : ys.length ≤ 10000 := hy64
  have hK0 : K ≤ 10001 := by omega
  have hKp : 1 ≤ K := by omega
  have KK := hide hK
  clear hle hll ht0 s1 s2 s3 hyp hs ny lx ly hy hb hm hK
  generalize lim ys (m + 1) = top at *
  go_enter Tryz.func82, Tryz.ntmps82
  go_wp2_with (first
    | (go_at_call 55; (with_reducible refine (LZ.out _).mono ?_); rintro e w' ⟨rfl, rfl⟩)
    | (go_at_call 51; (with_reducible refine (U1.out _ (.refl _ _)).mono ?_); rintro e w1 ⟨g1, N1, out1, rfl, hl1, hN1, hn1, hd1, lo1, ho1, b1⟩; have a1 := hide (AF.out N1 out1 lo1 hl1 hN1 hd1); have l1 := hide lo1; have e1 := hide (show N1 = K + ys.length by (rw [hN1, len_up S63.out]; have := KK.out; omega)); have i1 : N1 ≤ 20010 := (by have := e1.out; have := KK.out; omega); have i2 : ys.length + 1 ≤ N1 := (by have := e1.out; omega); have o1 := hide ho1; clear hd1 lo1 hl1 hN1 hn1 ho1)
    | (go_at_call 51; (with_reducible refine (U2.out _ b1).mono ?_); rintro e w2 ⟨g2, N2, out2, rfl, hl2, hN2, hn2, hd2, lo2, ho2, hb2⟩; have a2 := hide (BF.out N2 out2 lo2 hl2 hN2 hd2); have l2 := hide lo2; have i3 : ys.length ≤ N2 := (by rw [hN2]; omega); have i4 : N2 ≤ 300000 := hn2; have o2 := hide ho2; have ne := hide (show g2 ≠ g1 from fun e => (by have h1 := o1.out.lt; have h2 := ho2.base_le; omega)); have o1 := hide (o1.out.below hb2 o1.out.lt); have b2 := bl_trans b1 hb2; clear hd2 lo2 hl2 hN2 hn2 ho2 hb2))
  have OM := hide (Own.made (base := w.heap.size) (n := K) w2 b2.size (Nat.le_refl K) (by unfold maxLen; omega))
  have BM := hide (b2.alloc b2.size (.cells (madeCells #[.int .u64 0] K) 56))
  have A1 := hide ((o1.out.alloc (.cells (madeCells #[.int .u64 0] K) 56)).at_)
  have F1 := hide ((o1.out.alloc (.cells (madeCells #[.int .u64 0] K) 56)).free N1)
  have A2 := hide (((o2.out.alloc (.cells (madeCells #[.int .u64 0] K) 56)).at_).take (m + 1 + 1))
  have n1 := hide (show g1 ≠ w2.heap.size from Nat.ne_of_lt o1.out.lt)
  have n2 := hide (show g2 ≠ w2.heap.size from Nat.ne_of_lt o2.out.lt)
  have G1 := hide o1.out.base_le
  have LI : Hid (LongInv out1 (out2.take (m + 1 + 1)) ys.length K K (List.replicate K 0) out1) := by
    refine LongInv.start a1.out.1 l1.out ?_
    refine long_low (n := m + 1) (by rw [a1.out.1, M2.out]) a1.out.2 S63.out ?_ a2.out.1 a2.out.2.2
    have := XL.out
    rwa [show xs.length = K + (m + 1) by (have := KK.out; have := M2.out; omega)] at this
  have L2 := hide (l2.out.take (m + 1 + 1))
  have B1 := hide a2.out.1
  have B2 := hide a2.out.2.2
  have BV := hide a2.out.2.1
  have AV := hide a1.out
  have BP := hide (show 0 < val (out2.take (m + 1 + 1)) by rw [BV.out]; exact Nat.mul_pos YP.out (Nat.two_pow_pos s))
  clear hmk U1 U2 LZ BF AF hcb q1 q2 q3 hidx o1 o2 a1 a2 l1 l2 b1 hx XL
  generalize out2.take (m + 1 + 1) = bs at *
  go_loopw [9] (fun i wr => ∃ (k : Nat) (qs rs : List Nat), k ≤ K ∧ i = .int .i64 ((k : Int) - 1) ∧ LongInv out1 bs ys.length K k qs rs ∧ At wr g1 0 rs ∧ Free wr g1 0 N1 ∧ At wr g2 0 bs ∧ Own wr w.heap.size w2.heap.size K qs ∧ Below w.heap.size w wr) (fun i _ => (intOf i + 1).toNat)
  case atStart => exact ⟨K, _, _, Nat.le_refl _, rfl, LI.out, A1.out, F1.out, A2.out, OM.out, BM.out⟩
  case round =>
    obtain ⟨k, qs, rs, hk, rfl, li, ha, hf, hb, ho, hw⟩ := hrel
    cases k with
    | zero =>
      obtain ⟨d1, d2⟩ := li.done YP.out AV.out.2 BV.out
      have D1 := hide d1
      have D2 := hide d2
      have hl : (rs.take ys.length).length = ys.length := by rw [List.length_take, li.2.1]; omega
      have T1 := hide (fun W (h : Sl W (some ⟨w2.heap.size, 0, none⟩) qs) => trim_n (some ⟨w2.heap.size, 0, none⟩) K K qs W li.1 h (Nat.le_refl _) (by omega))
      have SD := fun W (h : Sl W (some ⟨g1, 0, none⟩) (rs.take ys.length)) => shiftDown_any (some ⟨g1, 0, none⟩) N1 s (rs.take ys.length) W h (li.2.2.2.1.take _) (by omega) (by have := S63.out; omega)
      rw [hl] at SD
      have SD := hide SD
      have SQ := hide ho.sl
      have SR := hide (Sl.mk (ha.take ys.length))
      have HO := hide ho
      have HW := hide hw
      clear li d1 d2 hl ha hf hb ho hw
      have i5 : ys.length ≤ N1 := by omega
      go_wp2
      go_region_held3 (fun w' => Sl w' (some ⟨w2.heap.size, 0, none⟩) qs ∧ Sl w' (some ⟨g1, 0, none⟩) (rs.take ys.length))
        (first | assumption | exact ⟨SQ.out.drew, SR.out.drew⟩ | exact ⟨SQ.out, SR.out⟩ | exact keepS hb5 (by assumption) | go_keep)
        (first
          | (go_at_call 49; (with_reducible refine (T1.out _ (And.left (by assumption))).mono ?_); rintro e w' ⟨rfl, rfl⟩)
          | (go_at_call 50; (with_reducible refine (SD.out _ (And.right (by assumption))).mono ?_); rintro e w5 ⟨g5, N5, out5, rfl, hl5, nb5, hd5, lo5, ho5, hb5⟩; have T2 := hide (trim_n (some ⟨g5, 0, none⟩) N5 N5 out5 w5 hl5 ho5.sl (Nat.le_refl _) (by omega)))
          | (go_at_call 49; (with_reducible refine (T2.out).mono ?_); rintro e w' ⟨rfl, rfl⟩))
      all_goals
        have e2 := hide (show digs (val xs % val ys) = trimz out5 by rw [← D2.out]; exact hd5)
        have r1 := hide (((HO.out.drew).below hb5 (HO.out.drew).lt).trimRow)
        have r2 := hide ((ho5.rebase (show w.heap.size ≤ g5 from Nat.le_trans HW.out.size ho5.base_le)).trimRow)
        have b5 := hide (bl_trans HW.out.drew hb5)
        clear T2 hd5 ho5 hb5 hl5 lo5
        go_wp2
        go_ret2
        exact Two2.mk r1.out r2.out b5.out D1.out e2.out
    | succ k =>
      obtain ⟨j1, hj1⟩ : ∃ j1, j1 = k + ys.length := ⟨_, rfl⟩
      have p1 : binOp .add 3 (.int .i64 (k : Int)) (.int .i64 (ys.length : Int)) = pure (.int .i64 (j1 : Int)) := i64_add _ k ys.length j1 hj1.symm (by omega)
      have p2 : binOp .add 3 (.int .i64 (j1 : Int)) (.int .i64 1) = pure (.int .i64 ((j1 + 1 : Nat) : Int)) := i64_add _ j1 1 (j1 + 1) rfl (by omega)
      have hN1 := e1.out
      have k1 : k ≤ j1 + 1 := by omega
      have k2 : j1 + 1 ≤ N1 := by omega
      have k3 : k < K := hk
      have k4 : ¬ N1 = k := by omega
      have mb : m ≤ 10000 := by (have := M2.out; omega)
      have hcq := ho.cell (j := k) (by rw [li.1]; exact hk)
      have hfq := ho.frozen k
      have hwl := win_len li hk
      have NX := hide (fun c (h1 : ys.length + 1 ≤ c) (h2 : c ≤ 1000000) => next_any g1 k c N2 m ys.length (j1 + 1 - k) (some ⟨g2, 0, none⟩) (win rs k ys.length) bs wr (ha.window k ys.length) (hf.sub (Nat.zero_le _) (by omega)) (.mk hb) (fun b o' e => by injection e with e; injection e with e _; rw [← e]; exact ne.out) (by rw [hwl]; omega) (by rw [B1.out, M2.out]) (by omega) M2.out (by omega) (by omega) h2 ((li.2.2.2.1.drop k).take _) L2.out (win_lt li hk) B2.out)
      have ST := hide (fun (cs : List Nat) (hc : cs.length = ys.length) (lc : Limbs cs) (hv : val cs = val (win rs k ys.length) % val bs) => li.step hk BP.out hc lc hv rfl AV.out.1)
      have HA := hide ha
      have HF := hide hf
      have HB := hide hb
      have HO := hide ho
      have HW := hide hw
      have RL := hide (show k + ys.length ≤ rs.length by rw [li.2.1]; omega)
      have QL := hide (show qs.length = K from li.1)
      have cap1 := hide (show ys.length + 1 ≤ N1 - k by omega)
      have cap2 := hide (show N1 - k ≤ 1000000 by omega)
      clear hj1 hN1 li ha hf hb ho hw hwl
      generalize val (win rs k ys.length) / val bs = q at *
      go_wp2_with (go_at_call 109; (with_reducible refine (NX.out _ cap1.out cap2.out).mono ?_); rintro e w3 ⟨rfl, cs, hc, lc, hv, ac, wc⟩; have oq := HO.out.wrote_far wc n1.out.symm; have hcq3 := oq.cell (j := k) (by rw [QL.out]; exact k3); have hfq3 := oq.frozen k; have OQ := hide oq; have CS := hide (ST.out cs hc lc hv); have AC := hide (HA.out.patch ac wc hc RL.out); have WC := hide wc; clear oq hc lc hv ac wc)
      go_roundw
      case rel => exact ⟨k, _, _, by omega, by go_num, CS.out, AC.out.setCell_far n1.out _, (HF.out.wrote WC.out).setCell _ _, (HB.out.wrote WC.out ne.out).setCell_far n2.out _, OQ.out.set k q, (HW.out.trans (WC.out.below G1.out HW.out.size)).setCell b2.size _⟩
      case measure => simp [intOf]
end Nt
end Go.Proofs.YtodphjnhoinpeaaGreatDoor
namespace Go.Proofs.YtodphjnhoinpeaaGreatDoor
open Go.RowKit
namespace Nt

theorem divmod_all (A B : Option Addr) (c d : Nat) (xs ys : List Nat) (w : World) (hx : Sl w A xs) (hy : Sl w B ys) (lx : Limbs xs) (ly : Limbs ys) (hl : xs.length ≤ 1000000) (hl' : ys.length ≤ 1000000) :
    Calls Tryz.prog 7 #[.slice A xs.length c, .slice B ys.length d] w (Three w (divSp xs ys)) :=
  divmod_any A B c d xs ys w hx hy lx ly hl hl' (fun vx vy h2 hle => long_any xs ys lx ly (validB_iff.1 vy).2 (Nat.le_trans (validB_iff.1 vx).1 (by decide)) (Nat.le_trans (validB_iff.1 vy).1 (by decide)) h2 hle)
theorem divide_all (A B : Option Addr) (c d : Nat) (xs ys : List Nat) (w : World) (hx : Sl w A xs) (hy : Sl w B ys) (lx : Limbs xs) (ly : Limbs ys) (nx : Norm xs) (ny : Norm ys) (hl : xs.length ≤ 10000) (hl' : ys.length ≤ 10000) (hp : 0 < ys.length) :
    Calls Tryz.prog 44 #[.slice A xs.length c, .slice B ys.length d] w (Two2 w (digs (val xs / val ys)) (digs (val xs % val ys))) :=
  divide_any A B c d xs ys w hx hy lx ly nx ny hl hl' hp (fun h2 hle => long_any xs ys lx ly ny hl hl' h2 hle)
end Nt
end Go.Proofs.YtodphjnhoinpeaaGreatDoor
