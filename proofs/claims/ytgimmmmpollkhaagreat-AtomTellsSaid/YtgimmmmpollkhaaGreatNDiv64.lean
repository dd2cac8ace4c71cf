
/-
  math/bits.Div64: its own Go text, walked.
-/
import Derived.Test.YtgimmmmpollkhaaGreatNMathD
namespace Go.Proofs.YtgimmmmpollkhaaGreat

open Go.RowKit

namespace Nt

set_option maxRecDepth 100000 in
set_option maxHeartbeats 400000 in
theorem div64_zero (lo y : Nat) (hy : 0 < y) (hlo : lo < LB) (w : World) :
    Calls Tryz.prog 151 #[.int .u64 0, .int .u64 (lo : Int), .int .u64 (y : Int)] w (Quiet w (.tuple #[.int .u64 ((dvQ 0 lo y : Nat) : Int), .int .u64 ((dvR 0 lo y : Nat) : Int)])) := by
  have e0 : ((y : Int) == 0) = false := by simp; omega
  have Q1 := op_quo 119 lo y hlo hy
  have Q2 := op_rem 119 lo y hy
  have E1 := hide (show quoW lo y = dvQ 0 lo y by unfold dvQ quoW; simp)
  have E2 := hide (show remW lo y = dvR 0 lo y by unfold dvR remW; simp)
  clear hlo
  go_enter Tryz.func151, Tryz.ntmps151
  go_wp2
  go_quiet (fail)
  go_wp2
  go_ret2
  exact ⟨ret_two (by rw [E1.out]) (by rw [E2.out]), _, rfl⟩

set_option maxRecDepth 100000 in
set_option maxHeartbeats 1000000 in
theorem div64_big (hi lo y s v v1 v0 t hs ls a un10 b1 b0 qa m0 rh : Nat) (hi0 : 0 < hi) (hy : hi < y) (hyL : y < LB) (w : World) (dv0 : Dv hi lo y s v v1 v0 a un10 b1 b0)
    (hs63 : s ≤ 63) (ht : t + s = 64) (hlz : lzW y = s)
    (e1 : binOp .shl 119 (.int .u64 (y : Int)) (.int .u64 (s : Int)) = pure (.int .u64 (v : Int)))
    (e2 : binOp .shr 119 (.int .u64 (v : Int)) (.int .u64 32) = pure (.int .u64 (v1 : Int)))
    (e3 : binOp .and 119 (.int .u64 (v : Int)) (.int .u64 4294967295) = pure (.int .u64 (v0 : Int)))
    (e4 : binOp .shl 119 (.int .u64 (hi : Int)) (.int .u64 (s : Int)) = pure (.int .u64 (hs : Int)))
    (e5 : binOp .sub 143 (.int .u64 64) (.int .u64 (s : Int)) = pure (.int .u64 (t : Int)))
    (e6 : binOp .shr 119 (.int .u64 (lo : Int)) (.int .u64 (t : Int)) = pure (.int .u64 (ls : Int)))
    (e7 : binOp .or 119 (.int .u64 (hs : Int)) (.int .u64 (ls : Int)) = pure (.int .u64 (a : Int)))
    (e8 : binOp .shl 119 (.int .u64 (lo : Int)) (.int .u64 (s : Int)) = pure (.int .u64 (un10 : Int)))
    (e9 : binOp .shr 119 (.int .u64 (un10 : Int)) (.int .u64 32) = pure (.int .u64 (b1 : Int)))
    (e10 : binOp .and 119 (.int .u64 (un10 : Int)) (.int .u64 4294967295) = pure (.int .u64 (b0 : Int)))
    (e11 : binOp .quo 119 (.int .u64 (a : Int)) (.int .u64 (v1 : Int)) = pure (.int .u64 (qa : Int)))
    (e12 : binOp .mul 119 (.int .u64 (qa : Int)) (.int .u64 (v1 : Int)) = pure (.int .u64 (m0 : Int)))
    (st : DS a b1 v1 v0 qa rh) (sr : rh < HB)
    (e13 : binOp .sub 119 (.int .u64 (a : Int)) (.int .u64 (m0 : Int)) = pure (.int .u64 (rh : Int))) :
    Calls Tryz.prog 151 #[.int .u64 (hi : Int), .int .u64 (lo : Int), .int .u64 (y : Int)] w (Quiet w (.tuple #[.int .u64 ((dvQ hi lo y : Nat) : Int), .int .u64 ((dvR hi lo y : Nat) : Int)])) := by
  have f0 : ((y : Int) == 0) = false := by simp; omega
  have f1 : ((hi : Int) == 0) = false := by simp; omega
  have LZ := hide (lz64 y hyL w)
  rw [hlz] at LZ
  go_enter Tryz.func151, Tryz.ntmps151
  go_wp2_with (go_at_call 158; (with_reducible refine (LZ.out).mono ?_); rintro ee w2 ⟨rfl, rfl⟩)
  have DV := hide dv0
  have ST := hide st
  have SR := hide sr
  clear st sr
  have AV := hide (show a < v1 * HB + v0 by rw [← dv0.hv]; exact dv0.hav)
  have BL := hide dv0.hb1
  clear dv0 e1 e2 e3 e4 e5 e6 e7 e8 e9 e10 e11 e12 e13 LZ f0 f1 hlz
  go_loop [15, 16] (fun x y => ∃ q r : Nat, x = .int .u64 (q : Int) ∧ y = .int .u64 (r : Int) ∧ DS a b1 v1 v0 q r ∧ r < HB) (fun _ y => (4294967296 - intOf y).toNat)
  case atStart => exact ⟨_, _, rfl, rfl, ST.out, SR.out⟩
  case round =>
    obtain ⟨q, r, rfl, rfl, ds, hrl⟩ := hrel
    have dv := DV.out
    have av := AV.out
    have bl := BL.out
    have step : ∀ ht : HB ≤ q ∨ HB * r + b1 < q * v0, ∃ p r', p + 1 = q ∧ r' = r + v1 ∧ DS a b1 v1 v0 p r' := fun ht => by
      have hlt := ds.lt av bl ht
      have h1 := Nat.lt_of_le_of_lt (Nat.zero_le _) hlt
      exact ⟨q - 1, _, by omega, rfl, ds.step hlt⟩
    by_cases hq : HB ≤ q
    · obtain ⟨p, r', hpq, hr', ds'⟩ := step (.inl hq)
      have hlt := op_geq_t 119 hq
      clear step
      have o4 : binOp .sub 119 (.int .u64 (q : Int)) (.int .u64 1) = pure (.int .u64 (p : Int)) := op_sub_le _ q 1 p hpq (by have := ds.le; rw [HB_eq] at this; rw [LB_eq]; omega)
      have o5 : binOp .add 119 (.int .u64 (r : Int)) (.int .u64 (v1 : Int)) = pure (.int .u64 (r' : Int)) := op_add_lt _ r v1 r' hr' (by have h1 := dv.hv1; rw [HB_eq] at hrl h1; rw [LB_eq]; omega)
      by_cases hbr : HB ≤ r'
      · have HP := hide (show p = (a * HB + b1) / v by rw [dv.hv]; exact DS.full ds' dv.v1_pos dv.hv0 (by have := ds.le; omega) hbr)
        have k1 := op_geq_t 119 hbr
        clear ds ds' hpq hr' hbr dv av bl hrl
        obtain ⟨P1, hP1⟩ : ∃ P1, P1 = p := ⟨_, rfl⟩
        obtain ⟨ma, hma⟩ : ∃ x, x = mulW a HB := ⟨_, rfl⟩
        obtain ⟨mb, hmb⟩ : ∃ x, x = addW ma b1 := ⟨_, rfl⟩
        obtain ⟨mq, hmq⟩ : ∃ x, x = mulW p v := ⟨_, rfl⟩
        obtain ⟨un, hun⟩ : ∃ x, x = subW mb mq := ⟨_, rfl⟩
        obtain ⟨q2, hq2⟩ : ∃ x, x = quoW un v1 := ⟨_, rfl⟩
        obtain ⟨mm, hmm⟩ : ∃ x, x = q2 * v1 := ⟨_, rfl⟩
        obtain ⟨rh2, hrh2⟩ : ∃ x, x = un - mm := ⟨_, rfl⟩
        have hun' : un = (a * HB + b1) % v := by rw [hun, hmb, hma, hmq]; exact left_word HP.out (Nat.le_of_lt DV.out.v_lt) DV.out.v_pos
        have hunv : un < v := by rw [hun']; exact Nat.mod_lt _ DV.out.v_pos
        have hmle : mm ≤ un := by rw [hmm, hq2]; exact Nat.div_mul_le_self _ _
        have hvL := DV.out.v_lt
        have g1 : binOp .mul 119 (.int .u64 (a : Int)) (.int .u64 4294967296) = pure (.int .u64 (ma : Int)) := by rw [hma]; exact op_mul _ a HB
        have g2 : binOp .add 119 (.int .u64 (ma : Int)) (.int .u64 (b1 : Int)) = pure (.int .u64 (mb : Int)) := by rw [hmb]; exact op_add _ ma b1
        have g3 : binOp .mul 119 (.int .u64 (p : Int)) (.int .u64 (v : Int)) = pure (.int .u64 (mq : Int)) := by rw [hmq]; exact op_mul _ p v
        have g4 : binOp .sub 119 (.int .u64 (mb : Int)) (.int .u64 (mq : Int)) = pure (.int .u64 (un : Int)) := by rw [hun]; exact op_sub _ mb mq (by rw [hmq]; exact Nat.mod_lt _ LB_pos)
        have g5 : binOp .quo 119 (.int .u64 (un : Int)) (.int .u64 (v1 : Int)) = pure (.int .u64 (q2 : Int)) := by rw [hq2]; exact op_quo _ un v1 (Nat.lt_trans hunv hvL) DV.out.v1_pos
        have g6 : binOp .mul 119 (.int .u64 (q2 : Int)) (.int .u64 (v1 : Int)) = pure (.int .u64 (mm : Int)) := op_mul_lt _ q2 v1 mm hmm (Nat.lt_of_le_of_lt hmle (Nat.lt_trans hunv hvL))
        have g7 : binOp .sub 119 (.int .u64 (un : Int)) (.int .u64 (mm : Int)) = pure (.int .u64 (rh2 : Int)) := op_sub_le _ un mm rh2 (by omega) (Nat.lt_trans hunv hvL)
        have HP1 := hide (show P1 = (a * HB + b1) / v by rw [hP1]; exact HP.out)
        have AV := hide (show un < v1 * HB + v0 by rw [← DV.out.hv]; exact hunv)
        have BL := hide DV.out.hb0
        have ST := hide (show DS un b0 v1 v0 q2 rh2 by rw [hrh2, hmm, hq2]; exact DS.start DV.out.hvt DV.out.hv0 AV.out DV.out.hb0)
        have SR := hide (show rh2 < HB by
          have h1 := DV.out.hv1
          have h2 := Nat.div_add_mod un v1
          have h3 := Nat.mod_lt un DV.out.v1_pos
          have h4 : mm = v1 * (un / v1) := by rw [hmm, hq2, Nat.mul_comm]; rfl
          omega)
        have HUN := hide hun'
        subst hP1
        clear hma hmb hmq hun hq2 hmm hrh2 hun' hunv hmle hvL
        go_wp2
        clear g1 g2 g3 g4 g5 g6 g7 HP
        go_loop [18, 16] (fun x y => ∃ q r : Nat, x = .int .u64 (q : Int) ∧ y = .int .u64 (r : Int) ∧ DS un b0 v1 v0 q r ∧ r < HB) (fun _ y => (4294967296 - intOf y).toNat)
        case atStart => exact ⟨_, _, rfl, rfl, ST.out, SR.out⟩
        case round =>
          obtain ⟨q, r, rfl, rfl, ds, hrl⟩ := hrel
          have dv := DV.out
          have av := AV.out
          have bl := BL.out
          have step : ∀ ht : HB ≤ q ∨ HB * r + b0 < q * v0, ∃ p r', p + 1 = q ∧ r' = r + v1 ∧ DS un b0 v1 v0 p r' := fun ht => by
            have hlt := ds.lt av bl ht
            have h1 := Nat.lt_of_le_of_lt (Nat.zero_le _) hlt
            exact ⟨q - 1, _, by omega, rfl, ds.step hlt⟩
          by_cases hq : HB ≤ q
          · obtain ⟨p, r', hpq, hr', ds'⟩ := step (.inl hq)
            have hlt := op_geq_t 119 hq
            clear step
            have o4 : binOp .sub 119 (.int .u64 (q : Int)) (.int .u64 1) = pure (.int .u64 (p : Int)) := op_sub_le _ q 1 p hpq (by have := ds.le; rw [HB_eq] at this; rw [LB_eq]; omega)
            have o5 : binOp .add 119 (.int .u64 (r : Int)) (.int .u64 (v1 : Int)) = pure (.int .u64 (r' : Int)) := op_add_lt _ r v1 r' hr' (by have h1 := dv.hv1; rw [HB_eq] at hrl h1; rw [LB_eq]; omega)
            by_cases hbr : HB ≤ r'
            · have HP := hide (show p = (un * HB + b0) / v by rw [dv.hv]; exact DS.full ds' dv.v1_pos dv.hv0 (by have := ds.le; omega) hbr)
              have k1 := op_geq_t 119 hbr
              clear ds ds' hpq hr' hbr dv av bl hrl
              have FIN0 := hide (DV.out.fin2 HP1.out HUN.out HP.out (by rw [HP1.out]; exact DV.out.p_lt) (by rw [HP.out]; exact DV.out.p0_lt HUN.out))
              obtain ⟨x1, hx1⟩ : ∃ x, x = mulW P1 HB := ⟨_, rfl⟩
              obtain ⟨qt, hqt⟩ : ∃ x, x = addW x1 p := ⟨_, rfl⟩
              obtain ⟨x2, hx2⟩ : ∃ x, x = mulW un HB := ⟨_, rfl⟩
              obtain ⟨x3, hx3⟩ : ∃ x, x = addW x2 b0 := ⟨_, rfl⟩
              obtain ⟨x4, hx4⟩ : ∃ x, x = mulW p v := ⟨_, rfl⟩
              obtain ⟨rr, hrr⟩ : ∃ x, x = subW x3 x4 := ⟨_, rfl⟩
              obtain ⟨rs, hrs⟩ : ∃ x, x = shrW rr s := ⟨_, rfl⟩
              have FIN := hide (show qt = dvQ hi lo y ∧ rs = dvR hi lo y by rw [hqt, hx1, hrs, hrr, hx3, hx2, hx4]; exact FIN0.out)
              have g1 : binOp .mul 119 (.int .u64 (P1 : Int)) (.int .u64 4294967296) = pure (.int .u64 (x1 : Int)) := by rw [hx1]; exact op_mul _ P1 HB
              have g2 : binOp .add 119 (.int .u64 (x1 : Int)) (.int .u64 (p : Int)) = pure (.int .u64 (qt : Int)) := by rw [hqt]; exact op_add _ x1 p
              have g3 : binOp .mul 119 (.int .u64 (un : Int)) (.int .u64 4294967296) = pure (.int .u64 (x2 : Int)) := by rw [hx2]; exact op_mul _ un HB
              have g4 : binOp .add 119 (.int .u64 (x2 : Int)) (.int .u64 (b0 : Int)) = pure (.int .u64 (x3 : Int)) := by rw [hx3]; exact op_add _ x2 b0
              have g5 : binOp .mul 119 (.int .u64 (p : Int)) (.int .u64 (v : Int)) = pure (.int .u64 (x4 : Int)) := by rw [hx4]; exact op_mul _ p v
              have g6 : binOp .sub 119 (.int .u64 (x3 : Int)) (.int .u64 (x4 : Int)) = pure (.int .u64 (rr : Int)) := by rw [hrr]; exact op_sub _ x3 x4 (by rw [hx4]; exact Nat.mod_lt _ LB_pos)
              have g7 : binOp .shr 119 (.int .u64 (rr : Int)) (.int .u64 (s : Int)) = pure (.int .u64 (rs : Int)) := by rw [hrs]; exact op_shr _ _ rr s (by omega)
              clear FIN0 hx1 hqt hx2 hx3 hx4 hrr hrs
              go_wp2
              go_ret2
              exact ⟨ret_two (by rw [FIN.out.1]) (by rw [FIN.out.2]), 0, rfl⟩
            · have k1 := op_geq_f 119 (Nat.lt_of_not_le hbr)
              have RL := hide (Nat.lt_of_not_le hbr)
              have DD := hide ds'
              have RR := hide (meas_lt hr' dv.v1_pos hrl)
              clear ds ds' hpq hr' hbr dv av bl hrl
              go_wp2
              go_round
              case rel => exact ⟨p, r', rfl, rfl, DD.out, RL.out⟩
              case measure => exact RR.out
          · have hqn : q < HB := Nat.lt_of_not_le hq
            obtain ⟨m1, hm1⟩ : ∃ m, m = q * v0 := ⟨_, rfl⟩
            obtain ⟨m2, hm2⟩ : ∃ m, m = HB * r := ⟨_, rfl⟩
            obtain ⟨m3, hm3⟩ : ∃ m, m = m2 + b0 := ⟨_, rfl⟩
            have l1 : m1 < LB := by
              rw [hm1, ← HB_sq]
              exact Nat.mul_lt_mul'' hqn dv.hv0
            have l3 : m3 < LB := by
              have h1 : HB * (r + 1) ≤ HB * HB := Nat.mul_le_mul_left _ hrl
              rw [Nat.mul_add, Nat.mul_one, HB_sq] at h1
              omega
            have o1 : binOp .mul 119 (.int .u64 (q : Int)) (.int .u64 (v0 : Int)) = pure (.int .u64 (m1 : Int)) := op_mul_lt _ q v0 m1 hm1 l1
            have o2 : binOp .mul 119 (.int .u64 4294967296) (.int .u64 (r : Int)) = pure (.int .u64 (m2 : Int)) := op_mul_lt _ HB r m2 hm2 (by omega)
            have o3 : binOp .add 119 (.int .u64 (m2 : Int)) (.int .u64 (b0 : Int)) = pure (.int .u64 (m3 : Int)) := op_add_lt _ m2 b0 m3 hm3 l3
            by_cases ht : m3 < m1
            · obtain ⟨p, r', hpq, hr', ds'⟩ := step (.inr (by rw [← hm2, ← hm3, ← hm1]; exact ht))
              have hlt := op_geq_f 119 hqn
              have tg := op_gtr_t 119 ht
              clear step hm1 hm2 hm3 l1 l3 hq hqn ht
              have o4 : binOp .sub 119 (.int .u64 (q : Int)) (.int .u64 1) = pure (.int .u64 (p : Int)) := op_sub_le _ q 1 p hpq (by have := ds.le; rw [HB_eq] at this; rw [LB_eq]; omega)
              have o5 : binOp .add 119 (.int .u64 (r : Int)) (.int .u64 (v1 : Int)) = pure (.int .u64 (r' : Int)) := op_add_lt _ r v1 r' hr' (by have h1 := dv.hv1; rw [HB_eq] at hrl h1; rw [LB_eq]; omega)
              by_cases hbr : HB ≤ r'
              · have HP := hide (show p = (un * HB + b0) / v by rw [dv.hv]; exact DS.full ds' dv.v1_pos dv.hv0 (by have := ds.le; omega) hbr)
                have k1 := op_geq_t 119 hbr
                clear ds ds' hpq hr' hbr dv av bl hrl
                have FIN0 := hide (DV.out.fin2 HP1.out HUN.out HP.out (by rw [HP1.out]; exact DV.out.p_lt) (by rw [HP.out]; exact DV.out.p0_lt HUN.out))
                obtain ⟨x1, hx1⟩ : ∃ x, x = mulW P1 HB := ⟨_, rfl⟩
                obtain ⟨qt, hqt⟩ : ∃ x, x = addW x1 p := ⟨_, rfl⟩
                obtain ⟨x2, hx2⟩ : ∃ x, x = mulW un HB := ⟨_, rfl⟩
                obtain ⟨x3, hx3⟩ : ∃ x, x = addW x2 b0 := ⟨_, rfl⟩
                obtain ⟨x4, hx4⟩ : ∃ x, x = mulW p v := ⟨_, rfl⟩
                obtain ⟨rr, hrr⟩ : ∃ x, x = subW x3 x4 := ⟨_, rfl⟩
                obtain ⟨rs, hrs⟩ : ∃ x, x = shrW rr s := ⟨_, rfl⟩
                have FIN := hide (show qt = dvQ hi lo y ∧ rs = dvR hi lo y by rw [hqt, hx1, hrs, hrr, hx3, hx2, hx4]; exact FIN0.out)
                have g1 : binOp .mul 119 (.int .u64 (P1 : Int)) (.int .u64 4294967296) = pure (.int .u64 (x1 : Int)) := by rw [hx1]; exact op_mul _ P1 HB
                have g2 : binOp .add 119 (.int .u64 (x1 : Int)) (.int .u64 (p : Int)) = pure (.int .u64 (qt : Int)) := by rw [hqt]; exact op_add _ x1 p
                have g3 : binOp .mul 119 (.int .u64 (un : Int)) (.int .u64 4294967296) = pure (.int .u64 (x2 : Int)) := by rw [hx2]; exact op_mul _ un HB
                have g4 : binOp .add 119 (.int .u64 (x2 : Int)) (.int .u64 (b0 : Int)) = pure (.int .u64 (x3 : Int)) := by rw [hx3]; exact op_add _ x2 b0
                have g5 : binOp .mul 119 (.int .u64 (p : Int)) (.int .u64 (v : Int)) = pure (.int .u64 (x4 : Int)) := by rw [hx4]; exact op_mul _ p v
                have g6 : binOp .sub 119 (.int .u64 (x3 : Int)) (.int .u64 (x4 : Int)) = pure (.int .u64 (rr : Int)) := by rw [hrr]; exact op_sub _ x3 x4 (by rw [hx4]; exact Nat.mod_lt _ LB_pos)
                have g7 : binOp .shr 119 (.int .u64 (rr : Int)) (.int .u64 (s : Int)) = pure (.int .u64 (rs : Int)) := by rw [hrs]; exact op_shr _ _ rr s (by omega)
                clear FIN0 hx1 hqt hx2 hx3 hx4 hrr hrs
                go_wp2
                go_ret2
                exact ⟨ret_two (by rw [FIN.out.1]) (by rw [FIN.out.2]), 0, rfl⟩
              · have k1 := op_geq_f 119 (Nat.lt_of_not_le hbr)
                have RL := hide (Nat.lt_of_not_le hbr)
                have DD := hide ds'
                have RR := hide (meas_lt hr' dv.v1_pos hrl)
                clear ds ds' hpq hr' hbr dv av bl hrl
                go_wp2
                go_round
                case rel => exact ⟨p, r', rfl, rfl, DD.out, RL.out⟩
                case measure => exact RR.out
            · have HP := hide (show q = (un * HB + b0) / v by rw [dv.hv]; exact DS.fits ds dv.v1_pos (by rw [← hm2, ← hm3, ← hm1]; omega))
              have hlt := op_geq_f 119 hqn
              have tg := op_gtr_f 119 (Nat.le_of_not_lt ht)
              obtain ⟨p, rfl⟩ : ∃ p, p = q := ⟨_, rfl⟩
              clear step hm1 hm2 hm3 l1 l3 hq ds ht hqn dv av bl hrl
              have FIN0 := hide (DV.out.fin2 HP1.out HUN.out HP.out (by rw [HP1.out]; exact DV.out.p_lt) (by rw [HP.out]; exact DV.out.p0_lt HUN.out))
              obtain ⟨x1, hx1⟩ : ∃ x, x = mulW P1 HB := ⟨_, rfl⟩
              obtain ⟨qt, hqt⟩ : ∃ x, x = addW x1 p := ⟨_, rfl⟩
              obtain ⟨x2, hx2⟩ : ∃ x, x = mulW un HB := ⟨_, rfl⟩
              obtain ⟨x3, hx3⟩ : ∃ x, x = addW x2 b0 := ⟨_, rfl⟩
              obtain ⟨x4, hx4⟩ : ∃ x, x = mulW p v := ⟨_, rfl⟩
              obtain ⟨rr, hrr⟩ : ∃ x, x = subW x3 x4 := ⟨_, rfl⟩
              obtain ⟨rs, hrs⟩ : ∃ x, x = shrW rr s := ⟨_, rfl⟩
              have FIN := hide (show qt = dvQ hi lo y ∧ rs = dvR hi lo y by rw [hqt, hx1, hrs, hrr, hx3, hx2, hx4]; exact FIN0.out)
              have g1 : binOp .mul 119 (.int .u64 (P1 : Int)) (.int .u64 4294967296) = pure (.int .u64 (x1 : Int)) := by rw [hx1]; exact op_mul _ P1 HB
              have g2 : binOp .add 119 (.int .u64 (x1 : Int)) (.int .u64 (p : Int)) = pure (.int .u64 (qt : Int)) := by rw [hqt]; exact op_add _ x1 p
              have g3 : binOp .mul 119 (.int .u64 (un : Int)) (.int .u64 4294967296) = pure (.int .u64 (x2 : Int)) := by rw [hx2]; exact op_mul _ un HB
              have g4 : binOp .add 119 (.int .u64 (x2 : Int)) (.int .u64 (b0 : Int)) = pure (.int .u64 (x3 : Int)) := by rw [hx3]; exact op_add _ x2 b0
              have g5 : binOp .mul 119 (.int .u64 (p : Int)) (.int .u64 (v : Int)) = pure (.int .u64 (x4 : Int)) := by rw [hx4]; exact op_mul _ p v
              have g6 : binOp .sub 119 (.int .u64 (x3 : Int)) (.int .u64 (x4 : Int)) = pure (.int .u64 (rr : Int)) := by rw [hrr]; exact op_sub _ x3 x4 (by rw [hx4]; exact Nat.mod_lt _ LB_pos)
              have g7 : binOp .shr 119 (.int .u64 (rr : Int)) (.int .u64 (s : Int)) = pure (.int .u64 (rs : Int)) := by rw [hrs]; exact op_shr _ _ rr s (by omega)
              clear FIN0 hx1 hqt hx2 hx3 hx4 hrr hrs
              go_wp2
              go_ret2
              exact ⟨ret_two (by rw [FIN.out.1]) (by rw [FIN.out.2]), 0, rfl⟩
      · have k1 := op_geq_f 119 (Nat.lt_of_not_le hbr)
        have RL := hide (Nat.lt_of_not_le hbr)
        have DD := hide ds'
        have RR := hide (meas_lt hr' dv.v1_pos hrl)
        clear ds ds' hpq hr' hbr dv av bl hrl
        go_wp2
        go_round
        case rel => exact ⟨p, r', rfl, rfl, DD.out, RL.out⟩
        case measure => exact RR.out
    · have hqn : q < HB := Nat.lt_of_not_le hq
      obtain ⟨m1, hm1⟩ : ∃ m, m = q * v0 := ⟨_, rfl⟩
      obtain ⟨m2, hm2⟩ : ∃ m, m = HB * r := ⟨_, rfl⟩
      obtain ⟨m3, hm3⟩ : ∃ m, m = m2 + b1 := ⟨_, rfl⟩
      have l1 : m1 < LB := by
        rw [hm1, ← HB_sq]
        exact Nat.mul_lt_mul'' hqn dv.hv0
      have l3 : m3 < LB := by
        have h1 : HB * (r + 1) ≤ HB * HB := Nat.mul_le_mul_left _ hrl
        rw [Nat.mul_add, Nat.mul_one, HB_sq] at h1
        omega
      have o1 : binOp .mul 119 (.int .u64 (q : Int)) (.int .u64 (v0 : Int)) = pure (.int .u64 (m1 : Int)) := op_mul_lt _ q v0 m1 hm1 l1
      have o2 : binOp .mul 119 (.int .u64 4294967296) (.int .u64 (r : Int)) = pure (.int .u64 (m2 : Int)) := op_mul_lt _ HB r m2 hm2 (by omega)
      have o3 : binOp .add 119 (.int .u64 (m2 : Int)) (.int .u64 (b1 : Int)) = pure (.int .u64 (m3 : Int)) := op_add_lt _ m2 b1 m3 hm3 l3
      by_cases ht : m3 < m1
      · obtain ⟨p, r', hpq, hr', ds'⟩ := step (.inr (by rw [← hm2, ← hm3, ← hm1]; exact ht))
        have hlt := op_geq_f 119 hqn
        have tg := op_gtr_t 119 ht
        clear step hm1 hm2 hm3 l1 l3 hq hqn ht
        have o4 : binOp .sub 119 (.int .u64 (q : Int)) (.int .u64 1) = pure (.int .u64 (p : Int)) := op_sub_le _ q 1 p hpq (by have := ds.le; rw [HB_eq] at this; rw [LB_eq]; omega)
        have o5 : binOp .add 119 (.int .u64 (r : Int)) (.int .u64 (v1 : Int)) = pure (.int .u64 (r' : Int)) := op_add_lt _ r v1 r' hr' (by have h1 := dv.hv1; rw [HB_eq] at hrl h1; rw [LB_eq]; omega)
        by_cases hbr : HB ≤ r'
        · have HP := hide (show p = (a * HB + b1) / v by rw [dv.hv]; exact DS.full ds' dv.v1_pos dv.hv0 (by have := ds.le; omega) hbr)
          have k1 := op_geq_t 119 hbr
          clear ds ds' hpq hr' hbr dv av bl hrl
          obtain ⟨P1, hP1⟩ : ∃ P1, P1 = p := ⟨_, rfl⟩
          obtain ⟨ma, hma⟩ : ∃ x, x = mulW a HB := ⟨_, rfl⟩
          obtain ⟨mb, hmb⟩ : ∃ x, x = addW ma b1 := ⟨_, rfl⟩
          obtain ⟨mq, hmq⟩ : ∃ x, x = mulW p v := ⟨_, rfl⟩
          obtain ⟨un, hun⟩ : ∃ x, x = subW mb mq := ⟨_, rfl⟩
          obtain ⟨q2, hq2⟩ : ∃ x, x = quoW un v1 := ⟨_, rfl⟩
          obtain ⟨mm, hmm⟩ : ∃ x, x = q2 * v1 := ⟨_, rfl⟩
          obtain ⟨rh2, hrh2⟩ : ∃ x, x = un - mm := ⟨_, rfl⟩
          have hun' : un = (a * HB + b1) % v := by rw [hun, hmb, hma, hmq]; exact left_word HP.out (Nat.le_of_lt DV.out.v_lt) DV.out.v_pos
          have hunv : un < v := by rw [hun']; exact Nat.mod_lt _ DV.out.v_pos
          have hmle : mm ≤ un := by rw [hmm, hq2]; exact Nat.div_mul_le_self _ _
          have hvL := DV.out.v_lt
          have g1 : binOp .mul 119 (.int .u64 (a : Int)) (.int .u64 4294967296) = pure (.int .u64 (ma : Int)) := by rw [hma]; exact op_mul _ a HB
          have g2 : binOp .add 119 (.int .u64 (ma : Int)) (.int .u64 (b1 : Int)) = pure (.int .u64 (mb : Int)) := by rw [hmb]; exact op_add _ ma b1
          have g3 : binOp .mul 119 (.int .u64 (p : Int)) (.int .u64 (v : Int)) = pure (.int .u64 (mq : Int)) := by rw [hmq]; exact op_mul _ p v
          have g4 : binOp .sub 119 (.int .u64 (mb : Int)) (.int .u64 (mq : Int)) = pure (.int .u64 (un : Int)) := by rw [hun]; exact op_sub _ mb mq (by rw [hmq]; exact Nat.mod_lt _ LB_pos)
          have g5 : binOp .quo 119 (.int .u64 (un : Int)) (.int .u64 (v1 : Int)) = pure (.int .u64 (q2 : Int)) := by rw [hq2]; exact op_quo _ un v1 (Nat.lt_trans hunv hvL) DV.out.v1_pos
          have g6 : binOp .mul 119 (.int .u64 (q2 : Int)) (.int .u64 (v1 : Int)) = pure (.int .u64 (mm : Int)) := op_mul_lt _ q2 v1 mm hmm (Nat.lt_of_le_of_lt hmle (Nat.lt_trans hunv hvL))
          have g7 : binOp .sub 119 (.int .u64 (un : Int)) (.int .u64 (mm : Int)) = pure (.int .u64 (rh2 : Int)) := op_sub_le _ un mm rh2 (by omega) (Nat.lt_trans hunv hvL)
          have HP1 := hide (show P1 = (a * HB + b1) / v by rw [hP1]; exact HP.out)
          have AV := hide (show un < v1 * HB + v0 by rw [← DV.out.hv]; exact hunv)
          have BL := hide DV.out.hb0
          have ST := hide (show DS un b0 v1 v0 q2 rh2 by rw [hrh2, hmm, hq2]; exact DS.start DV.out.hvt DV.out.hv0 AV.out DV.out.hb0)
          have SR := hide (show rh2 < HB by
            have h1 := DV.out.hv1
            have h2 := Nat.div_add_mod un v1
            have h3 := Nat.mod_lt un DV.out.v1_pos
            have h4 : mm = v1 * (un / v1) := by rw [hmm, hq2, Nat.mul_comm]; rfl
            omega)
          have HUN := hide hun'
          subst hP1
          clear hma hmb hmq hun hq2 hmm hrh2 hun' hunv hmle hvL
          go_wp2
          clear g1 g2 g3 g4 g5 g6 g7 HP
          go_loop [18, 16] (fun x y => ∃ q r : Nat, x = .int .u64 (q : Int) ∧ y = .int .u64 (r : Int) ∧ DS un b0 v1 v0 q r ∧ r < HB) (fun _ y => (4294967296 - intOf y).toNat)
          case atStart => exact ⟨_, _, rfl, rfl, ST.out, SR.out⟩
          case round =>
            obtain ⟨q, r, rfl, rfl, ds, hrl⟩ := hrel
            have dv := DV.out
            have av := AV.out
            have bl := BL.out
            have step : ∀ ht : HB ≤ q ∨ HB * r + b0 < q * v0, ∃ p r', p + 1 = q ∧ r' = r + v1 ∧ DS un b0 v1 v0 p r' := fun ht => by
              have hlt := ds.lt av bl ht
              have h1 := Nat.lt_of_le_of_lt (Nat.zero_le _) hlt
              exact ⟨q - 1, _, by omega, rfl, ds.step hlt⟩
            by_cases hq : HB ≤ q
            · obtain ⟨p, r', hpq, hr', ds'⟩ := step (.inl hq)
              have hlt := op_geq_t 119 hq
              clear step
              have o4 : binOp .sub 119 (.int .u64 (q : Int)) (.int .u64 1) = pure (.int .u64 (p : Int)) := op_sub_le _ q 1 p hpq (by have := ds.le; rw [HB_eq] at this; rw [LB_eq]; omega)
              have o5 : binOp .add 119 (.int .u64 (r : Int)) (.int .u64 (v1 : Int)) = pure (.int .u64 (r' : Int)) := op_add_lt _ r v1 r' hr' (by have h1 := dv.hv1; rw [HB_eq] at hrl h1; rw [LB_eq]; omega)
              by_cases hbr : HB ≤ r'
              · have HP := hide (show p = (un * HB + b0) / v by rw [dv.hv]; exact DS.full ds' dv.v1_pos dv.hv0 (by have := ds.le; omega) hbr)
                have k1 := op_geq_t 119 hbr
                clear ds ds' hpq hr' hbr dv av bl hrl
                have FIN0 := hide (DV.out.fin2 HP1.out HUN.out HP.out (by rw [HP1.out]; exact DV.out.p_lt) (by rw [HP.out]; exact DV.out.p0_lt HUN.out))
                obtain ⟨x1, hx1⟩ : ∃ x, x = mulW P1 HB := ⟨_, rfl⟩
                obtain ⟨qt, hqt⟩ : ∃ x, x = addW x1 p := ⟨_, rfl⟩
                obtain ⟨x2, hx2⟩ : ∃ x, x = mulW un HB := ⟨_, rfl⟩
                obtain ⟨x3, hx3⟩ : ∃ x, x = addW x2 b0 := ⟨_, rfl⟩
                obtain ⟨x4, hx4⟩ : ∃ x, x = mulW p v := ⟨_, rfl⟩
                obtain ⟨rr, hrr⟩ : ∃ x, x = subW x3 x4 := ⟨_, rfl⟩
                obtain ⟨rs, hrs⟩ : ∃ x, x = shrW rr s := ⟨_, rfl⟩
                have FIN := hide (show qt = dvQ hi lo y ∧ rs = dvR hi lo y by rw [hqt, hx1, hrs, hrr, hx3, hx2, hx4]; exact FIN0.out)
                have g1 : binOp .mul 119 (.int .u64 (P1 : Int)) (.int .u64 4294967296) = pure (.int .u64 (x1 : Int)) := by rw [hx1]; exact op_mul _ P1 HB
                have g2 : binOp .add 119 (.int .u64 (x1 : Int)) (.int .u64 (p : Int)) = pure (.int .u64 (qt : Int)) := by rw [hqt]; exact op_add _ x1 p
                have g3 : binOp .mul 119 (.int .u64 (un : Int)) (.int .u64 4294967296) = pure (.int .u64 (x2 : Int)) := by rw [hx2]; exact op_mul _ un HB
                have g4 : binOp .add 119 (.int .u64 (x2 : Int)) (.int .u64 (b0 : Int)) = pure (.int .u64 (x3 : Int)) := by rw [hx3]; exact op_add _ x2 b0
                have g5 : binOp .mul 119 (.int .u64 (p : Int)) (.int .u64 (v : Int)) = pure (.int .u64 (x4 : Int)) := by rw [hx4]; exact op_mul _ p v
                have g6 : binOp .sub 119 (.int .u64 (x3 : Int)) (.int .u64 (x4 : Int)) = pure (.int .u64 (rr : Int)) := by rw [hrr]; exact op_sub _ x3 x4 (by rw [hx4]; exact Nat.mod_lt _ LB_pos)
                have g7 : binOp .shr 119 (.int .u64 (rr : Int)) (.int .u64 (s : Int)) = pure (.int .u64 (rs : Int)) := by rw [hrs]; exact op_shr _ _ rr s (by omega)
                clear FIN0 hx1 hqt hx2 hx3 hx4 hrr hrs
                go_wp2
                go_ret2
                exact ⟨ret_two (by rw [FIN.out.1]) (by rw [FIN.out.2]), 0, rfl⟩
              · have k1 := op_geq_f 119 (Nat.lt_of_not_le hbr)
                have RL := hide (Nat.lt_of_not_le hbr)
                have DD := hide ds'
                have RR := hide (meas_lt hr' dv.v1_pos hrl)
                clear ds ds' hpq hr' hbr dv av bl hrl
                go_wp2
                go_round
                case rel => exact ⟨p, r', rfl, rfl, DD.out, RL.out⟩
                case measure => exact RR.out
            · have hqn : q < HB := Nat.lt_of_not_le hq
              obtain ⟨m1, hm1⟩ : ∃ m, m = q * v0 := ⟨_, rfl⟩
              obtain ⟨m2, hm2⟩ : ∃ m, m = HB * r := ⟨_, rfl⟩
              obtain ⟨m3, hm3⟩ : ∃ m, m = m2 + b0 := ⟨_, rfl⟩
              have l1 : m1 < LB := by
                rw [hm1, ← HB_sq]
                exact Nat.mul_lt_mul'' hqn dv.hv0
              have l3 : m3 < LB := by
                have h1 : HB * (r + 1) ≤ HB * HB := Nat.mul_le_mul_left _ hrl
                rw [Nat.mul_add, Nat.mul_one, HB_sq] at h1
                omega
              have o1 : binOp .mul 119 (.int .u64 (q : Int)) (.int .u64 (v0 : Int)) = pure (.int .u64 (m1 : Int)) := op_mul_lt _ q v0 m1 hm1 l1
              have o2 : binOp .mul 119 (.int .u64 4294967296) (.int .u64 (r : Int)) = pure (.int .u64 (m2 : Int)) := op_mul_lt _ HB r m2 hm2 (by omega)
              have o3 : binOp .add 119 (.int .u64 (m2 : Int)) (.int .u64 (b0 : Int)) = pure (.int .u64 (m3 : Int)) := op_add_lt _ m2 b0 m3 hm3 l3
              by_cases ht : m3 < m1
              · obtain ⟨p, r', hpq, hr', ds'⟩ := step (.inr (by rw [← hm2, ← hm3, ← hm1]; exact ht))
                have hlt := op_geq_f 119 hqn
                have tg := op_gtr_t 119 ht
                clear step hm1 hm2 hm3 l1 l3 hq hqn ht
                have o4 : binOp .sub 119 (.int .u64 (q : Int)) (.int .u64 1) = pure (.int .u64 (p : Int)) := op_sub_le _ q 1 p hpq (by have := ds.le; rw [HB_eq] at this; rw [LB_eq]; omega)
                have o5 : binOp .add 119 (.int .u64 (r : Int)) (.int .u64 (v1 : Int)) = pure (.int .u64 (r' : Int)) := op_add_lt _ r v1 r' hr' (by have h1 := dv.hv1; rw [HB_eq] at hrl h1; rw [LB_eq]; omega)
                by_cases hbr : HB ≤ r'
                · have HP := hide (show p = (un * HB + b0) / v by rw [dv.hv]; exact DS.full ds' dv.v1_pos dv.hv0 (by have := ds.le; omega) hbr)
                  have k1 := op_geq_t 119 hbr
                  clear ds ds' hpq hr' hbr dv av bl hrl
                  have FIN0 := hide (DV.out.fin2 HP1.out HUN.out HP.out (by rw [HP1.out]; exact DV.out.p_lt) (by rw [HP.out]; exact DV.out.p0_lt HUN.out))
                  obtain ⟨x1, hx1⟩ : ∃ x, x = mulW P1 HB := ⟨_, rfl⟩
                  obtain ⟨qt, hqt⟩ : ∃ x, x = addW x1 p := ⟨_, rfl⟩
                  obtain ⟨x2, hx2⟩ : ∃ x, x = mulW un HB := ⟨_, rfl⟩
                  obtain ⟨x3, hx3⟩ : ∃ x, x = addW x2 b0 := ⟨_, rfl⟩
                  obtain ⟨x4, hx4⟩ : ∃ x, x = mulW p v := ⟨_, rfl⟩
                  obtain ⟨rr, hrr⟩ : ∃ x, x = subW x3 x4 := ⟨_, rfl⟩
                  obtain ⟨rs, hrs⟩ : ∃ x, x = shrW rr s := ⟨_, rfl⟩
                  have FIN := hide (show qt = dvQ hi lo y ∧ rs = dvR hi lo y by rw [hqt, hx1, hrs, hrr, hx3, hx2, hx4]; exact FIN0.out)
                  have g1 : binOp .mul 119 (.int .u64 (P1 : Int)) (.int .u64 4294967296) = pure (.int .u64 (x1 : Int)) := by rw [hx1]; exact op_mul _ P1 HB
                  have g2 : binOp .add 119 (.int .u64 (x1 : Int)) (.int .u64 (p : Int)) = pure (.int .u64 (qt : Int)) := by rw [hqt]; exact op_add _ x1 p
                  have g3 : binOp .mul 119 (.int .u64 (un : Int)) (.int .u64 4294967296) = pure (.int .u64 (x2 : Int)) := by rw [hx2]; exact op_mul _ un HB
                  have g4 : binOp .add 119 (.int .u64 (x2 : Int)) (.int .u64 (b0 : Int)) = pure (.int .u64 (x3 : Int)) := by rw [hx3]; exact op_add _ x2 b0
                  have g5 : binOp .mul 119 (.int .u64 (p : Int)) (.int .u64 (v : Int)) = pure (.int .u64 (x4 : Int)) := by rw [hx4]; exact op_mul _ p v
                  have g6 : binOp .sub 119 (.int .u64 (x3 : Int)) (.int .u64 (x4 : Int)) = pure (.int .u64 (rr : Int)) := by rw [hrr]; exact op_sub _ x3 x4 (by rw [hx4]; exact Nat.mod_lt _ LB_pos)
                  have g7 : binOp .shr 119 (.int .u64 (rr : Int)) (.int .u64 (s : Int)) = pure (.int .u64 (rs : Int)) := by rw [hrs]; exact op_shr _ _ rr s (by omega)
                  clear FIN0 hx1 hqt hx2 hx3 hx4 hrr hrs
                  go_wp2
                  go_ret2
                  exact ⟨ret_two (by rw [FIN.out.1]) (by rw [FIN.out.2]), 0, rfl⟩
                · have k1 := op_geq_f 119 (Nat.lt_of_not_le hbr)
                  have RL := hide (Nat.lt_of_not_le hbr)
                  have DD := hide ds'
                  have RR := hide (meas_lt hr' dv.v1_pos hrl)
                  clear ds ds' hpq hr' hbr dv av bl hrl
                  go_wp2
                  go_round
                  case rel => exact ⟨p, r', rfl, rfl, DD.out, RL.out⟩
                  case measure => exact RR.out
              · have HP := hide (show q = (un * HB + b0) / v by rw [dv.hv]; exact DS.fits ds dv.v1_pos (by rw [← hm2, ← hm3, ← hm1]; omega))
                have hlt := op_geq_f 119 hqn
                have tg := op_gtr_f 119 (Nat.le_of_not_lt ht)
                obtain ⟨p, rfl⟩ : ∃ p, p = q := ⟨_, rfl⟩
                clear step hm1 hm2 hm3 l1 l3 hq ds ht hqn dv av bl hrl
                have FIN0 := hide (DV.out.fin2 HP1.out HUN.out HP.out (by rw [HP1.out]; exact DV.out.p_lt) (by rw [HP.out]; exact DV.out.p0_lt HUN.out))
                obtain ⟨x1, hx1⟩ : ∃ x, x = mulW P1 HB := ⟨_, rfl⟩
                obtain ⟨qt, hqt⟩ : ∃ x, x = addW x1 p := ⟨_, rfl⟩
                obtain ⟨x2, hx2⟩ : ∃ x, x = mulW un HB := ⟨_, rfl⟩
                obtain ⟨x3, hx3⟩ : ∃ x, x = addW x2 b0 := ⟨_, rfl⟩
                obtain ⟨x4, hx4⟩ : ∃ x, x = mulW p v := ⟨_, rfl⟩
                obtain ⟨rr, hrr⟩ : ∃ x, x = subW x3 x4 := ⟨_, rfl⟩
                obtain ⟨rs, hrs⟩ : ∃ x, x = shrW rr s := ⟨_, rfl⟩
                have FIN := hide (show qt = dvQ hi lo y ∧ rs = dvR hi lo y by rw [hqt, hx1, hrs, hrr, hx3, hx2, hx4]; exact FIN0.out)
                have g1 : binOp .mul 119 (.int .u64 (P1 : Int)) (.int .u64 4294967296) = pure (.int .u64 (x1 : Int)) := by rw [hx1]; exact op_mul _ P1 HB
                have g2 : binOp .add 119 (.int .u64 (x1 : Int)) (.int .u64 (p : Int)) = pure (.int .u64 (qt : Int)) := by rw [hqt]; exact op_add _ x1 p
                have g3 : binOp .mul 119 (.int .u64 (un : Int)) (.int .u64 4294967296) = pure (.int .u64 (x2 : Int)) := by rw [hx2]; exact op_mul _ un HB
                have g4 : binOp .add 119 (.int .u64 (x2 : Int)) (.int .u64 (b0 : Int)) = pure (.int .u64 (x3 : Int)) := by rw [hx3]; exact op_add _ x2 b0
                have g5 : binOp .mul 119 (.int .u64 (p : Int)) (.int .u64 (v : Int)) = pure (.int .u64 (x4 : Int)) := by rw [hx4]; exact op_mul _ p v
                have g6 : binOp .sub 119 (.int .u64 (x3 : Int)) (.int .u64 (x4 : Int)) = pure (.int .u64 (rr : Int)) := by rw [hrr]; exact op_sub _ x3 x4 (by rw [hx4]; exact Nat.mod_lt _ LB_pos)
                have g7 : binOp .shr 119 (.int .u64 (rr : Int)) (.int .u64 (s : Int)) = pure (.int .u64 (rs : Int)) := by rw [hrs]; exact op_shr _ _ rr s (by omega)
                clear FIN0 hx1 hqt hx2 hx3 hx4 hrr hrs
                go_wp2
                go_ret2
                exact ⟨ret_two (by rw [FIN.out.1]) (by rw [FIN.out.2]), 0, rfl⟩
        · have k1 := op_geq_f 119 (Nat.lt_of_not_le hbr)
          have RL := hide (Nat.lt_of_not_le hbr)
          have DD := hide ds'
          have RR := hide (meas_lt hr' dv.v1_pos hrl)
          clear ds ds' hpq hr' hbr dv av bl hrl
          go_wp2
          go_round
          case rel => exact ⟨p, r', rfl, rfl, DD.out, RL.out⟩
          case measure => exact RR.out
      · have HP := hide (show q = (a * HB + b1) / v by rw [dv.hv]; exact DS.fits ds dv.v1_pos (by rw [← hm2, ← hm3, ← hm1]; omega))
        have hlt := op_geq_f 119 hqn
        have tg := op_gtr_f 119 (Nat.le_of_not_lt ht)
        obtain ⟨p, rfl⟩ : ∃ p, p = q := ⟨_, rfl⟩
        clear step hm1 hm2 hm3 l1 l3 hq ds ht hqn dv av bl hrl
        obtain ⟨P1, hP1⟩ : ∃ P1, P1 = p := ⟨_, rfl⟩
        obtain ⟨ma, hma⟩ : ∃ x, x = mulW a HB := ⟨_, rfl⟩
        obtain ⟨mb, hmb⟩ : ∃ x, x = addW ma b1 := ⟨_, rfl⟩
        obtain ⟨mq, hmq⟩ : ∃ x, x = mulW p v := ⟨_, rfl⟩
        obtain ⟨un, hun⟩ : ∃ x, x = subW mb mq := ⟨_, rfl⟩
        obtain ⟨q2, hq2⟩ : ∃ x, x = quoW un v1 := ⟨_, rfl⟩
        obtain ⟨mm, hmm⟩ : ∃ x, x = q2 * v1 := ⟨_, rfl⟩
        obtain ⟨rh2, hrh2⟩ : ∃ x, x = un - mm := ⟨_, rfl⟩
        have hun' : un = (a * HB + b1) % v := by rw [hun, hmb, hma, hmq]; exact left_word HP.out (Nat.le_of_lt DV.out.v_lt) DV.out.v_pos
        have hunv : un < v := by rw [hun']; exact Nat.mod_lt _ DV.out.v_pos
        have hmle : mm ≤ un := by rw [hmm, hq2]; exact Nat.div_mul_le_self _ _
        have hvL := DV.out.v_lt
        have g1 : binOp .mul 119 (.int .u64 (a : Int)) (.int .u64 4294967296) = pure (.int .u64 (ma : Int)) := by rw [hma]; exact op_mul _ a HB
        have g2 : binOp .add 119 (.int .u64 (ma : Int)) (.int .u64 (b1 : Int)) = pure (.int .u64 (mb : Int)) := by rw [hmb]; exact op_add _ ma b1
        have g3 : binOp .mul 119 (.int .u64 (p : Int)) (.int .u64 (v : Int)) = pure (.int .u64 (mq : Int)) := by rw [hmq]; exact op_mul _ p v
        have g4 : binOp .sub 119 (.int .u64 (mb : Int)) (.int .u64 (mq : Int)) = pure (.int .u64 (un : Int)) := by rw [hun]; exact op_sub _ mb mq (by rw [hmq]; exact Nat.mod_lt _ LB_pos)
        have g5 : binOp .quo 119 (.int .u64 (un : Int)) (.int .u64 (v1 : Int)) = pure (.int .u64 (q2 : Int)) := by rw [hq2]; exact op_quo _ un v1 (Nat.lt_trans hunv hvL) DV.out.v1_pos
        have g6 : binOp .mul 119 (.int .u64 (q2 : Int)) (.int .u64 (v1 : Int)) = pure (.int .u64 (mm : Int)) := op_mul_lt _ q2 v1 mm hmm (Nat.lt_of_le_of_lt hmle (Nat.lt_trans hunv hvL))
        have g7 : binOp .sub 119 (.int .u64 (un : Int)) (.int .u64 (mm : Int)) = pure (.int .u64 (rh2 : Int)) := op_sub_le _ un mm rh2 (by omega) (Nat.lt_trans hunv hvL)
        have HP1 := hide (show P1 = (a * HB + b1) / v by rw [hP1]; exact HP.out)
        have AV := hide (show un < v1 * HB + v0 by rw [← DV.out.hv]; exact hunv)
        have BL := hide DV.out.hb0
        have ST := hide (show DS un b0 v1 v0 q2 rh2 by rw [hrh2, hmm, hq2]; exact DS.start DV.out.hvt DV.out.hv0 AV.out DV.out.hb0)
        have SR := hide (show rh2 < HB by
          have h1 := DV.out.hv1
          have h2 := Nat.div_add_mod un v1
          have h3 := Nat.mod_lt un DV.out.v1_pos
          have h4 : mm = v1 * (un / v1) := by rw [hmm, hq2, Nat.mul_comm]; rfl
          omega)
        have HUN := hide hun'
        subst hP1
        clear hma hmb hmq hun hq2 hmm hrh2 hun' hunv hmle hvL
        go_wp2
        clear g1 g2 g3 g4 g5 g6 g7 HP
        go_loop [18, 16] (fun x y => ∃ q r : Nat, x = .int .u64 (q : Int) ∧ y = .int .u64 (r : Int) ∧ DS un b0 v1 v0 q r ∧ r < HB) (fun _ y => (4294967296 - intOf y).toNat)
        case atStart => exact ⟨_, _, rfl, rfl, ST.out, SR.out⟩
        case round =>
          obtain ⟨q, r, rfl, rfl, ds, hrl⟩ := hrel
          have dv := DV.out
          have av := AV.out
          have bl := BL.out
          have step : ∀ ht : HB ≤ q ∨ HB * r + b0 < q * v0, ∃ p r', p + 1 = q ∧ r' = r + v1 ∧ DS un b0 v1 v0 p r' := fun ht => by
            have hlt := ds.lt av bl ht
            have h1 := Nat.lt_of_le_of_lt (Nat.zero_le _) hlt
            exact ⟨q - 1, _, by omega, rfl, ds.step hlt⟩
          by_cases hq : HB ≤ q
          · obtain ⟨p, r', hpq, hr', ds'⟩ := step (.inl hq)
            have hlt := op_geq_t 119 hq
            clear step
            have o4 : binOp .sub 119 (.int .u64 (q : Int)) (.int .u64 1) = pure (.int .u64 (p : Int)) := op_sub_le _ q 1 p hpq (by have := ds.le; rw [HB_eq] at this; rw [LB_eq]; omega)
            have o5 : binOp .add 119 (.int .u64 (r : Int)) (.int .u64 (v1 : Int)) = pure (.int .u64 (r' : Int)) := op_add_lt _ r v1 r' hr' (by have h1 := dv.hv1; rw [HB_eq] at hrl h1; rw [LB_eq]; omega)
            by_cases hbr : HB ≤ r'
            · have HP := hide (show p = (un * HB + b0) / v by rw [dv.hv]; exact DS.full ds' dv.v1_pos dv.hv0 (by have := ds.le; omega) hbr)
              have k1 := op_geq_t 119 hbr
              clear ds ds' hpq hr' hbr dv av bl hrl
              have FIN0 := hide (DV.out.fin2 HP1.out HUN.out HP.out (by rw [HP1.out]; exact DV.out.p_lt) (by rw [HP.out]; exact DV.out.p0_lt HUN.out))
              obtain ⟨x1, hx1⟩ : ∃ x, x = mulW P1 HB := ⟨_, rfl⟩
              obtain ⟨qt, hqt⟩ : ∃ x, x = addW x1 p := ⟨_, rfl⟩
              obtain ⟨x2, hx2⟩ : ∃ x, x = mulW un HB := ⟨_, rfl⟩
              obtain ⟨x3, hx3⟩ : ∃ x, x = addW x2 b0 := ⟨_, rfl⟩
              obtain ⟨x4, hx4⟩ : ∃ x, x = mulW p v := ⟨_, rfl⟩
              obtain ⟨rr, hrr⟩ : ∃ x, x = subW x3 x4 := ⟨_, rfl⟩
              obtain ⟨rs, hrs⟩ : ∃ x, x = shrW rr s := ⟨_, rfl⟩
              have FIN := hide (show qt = dvQ hi lo y ∧ rs = dvR hi lo y by rw [hqt, hx1, hrs, hrr, hx3, hx2, hx4]; exact FIN0.out)
              have g1 : binOp .mul 119 (.int .u64 (P1 : Int)) (.int .u64 4294967296) = pure (.int .u64 (x1 : Int)) := by rw [hx1]; exact op_mul _ P1 HB
              have g2 : binOp .add 119 (.int .u64 (x1 : Int)) (.int .u64 (p : Int)) = pure (.int .u64 (qt : Int)) := by rw [hqt]; exact op_add _ x1 p
              have g3 : binOp .mul 119 (.int .u64 (un : Int)) (.int .u64 4294967296) = pure (.int .u64 (x2 : Int)) := by rw [hx2]; exact op_mul _ un HB
              have g4 : binOp .add 119 (.int .u64 (x2 : Int)) (.int .u64 (b0 : Int)) = pure (.int .u64 (x3 : Int)) := by rw [hx3]; exact op_add _ x2 b0
              have g5 : binOp .mul 119 (.int .u64 (p : Int)) (.int .u64 (v : Int)) = pure (.int .u64 (x4 : Int)) := by rw [hx4]; exact op_mul _ p v
              have g6 : binOp .sub 119 (.int .u64 (x3 : Int)) (.int .u64 (x4 : Int)) = pure (.int .u64 (rr : Int)) := by rw [hrr]; exact op_sub _ x3 x4 (by rw [hx4]; exact Nat.mod_lt _ LB_pos)
              have g7 : binOp .shr 119 (.int .u64 (rr : Int)) (.int .u64 (s : Int)) = pure (.int .u64 (rs : Int)) := by rw [hrs]; exact op_shr _ _ rr s (by omega)
              clear FIN0 hx1 hqt hx2 hx3 hx4 hrr hrs
              go_wp2
              go_ret2
              exact ⟨ret_two (by rw [FIN.out.1]) (by rw [FIN.out.2]), 0, rfl⟩
            · have k1 := op_geq_f 119 (Nat.lt_of_not_le hbr)
              have RL := hide (Nat.lt_of_not_le hbr)
              have DD := hide ds'
              have RR := hide (meas_lt hr' dv.v1_pos hrl)
              clear ds ds' hpq hr' hbr dv av bl hrl
              go_wp2
              go_round
              case rel => exact ⟨p, r', rfl, rfl, DD.out, RL.out⟩
              case measure => exact RR.out
          · have hqn : q < HB := Nat.lt_of_not_le hq
            obtain ⟨m1, hm1⟩ : ∃ m, m = q * v0 := ⟨_, rfl⟩
            obtain ⟨m2, hm2⟩ : ∃ m, m = HB * r := ⟨_, rfl⟩
            obtain ⟨m3, hm3⟩ : ∃ m, m = m2 + b0 := ⟨_, rfl⟩
            have l1 : m1 < LB := by
              rw [hm1, ← HB_sq]
              exact Nat.mul_lt_mul'' hqn dv.hv0
            have l3 : m3 < LB := by
              have h1 : HB * (r + 1) ≤ HB * HB := Nat.mul_le_mul_left _ hrl
              rw [Nat.mul_add, Nat.mul_one, HB_sq] at h1
              omega
            have o1 : binOp .mul 119 (.int .u64 (q : Int)) (.int .u64 (v0 : Int)) = pure (.int .u64 (m1 : Int)) := op_mul_lt _ q v0 m1 hm1 l1
            have o2 : binOp .mul 119 (.int .u64 4294967296) (.int .u64 (r : Int)) = pure (.int .u64 (m2 : Int)) := op_mul_lt _ HB r m2 hm2 (by omega)
            have o3 : binOp .add 119 (.int .u64 (m2 : Int)) (.int .u64 (b0 : Int)) = pure (.int .u64 (m3 : Int)) := op_add_lt _ m2 b0 m3 hm3 l3
            by_cases ht : m3 < m1
            · obtain ⟨p, r', hpq, hr', ds'⟩ := step (.inr (by rw [← hm2, ← hm3, ← hm1]; exact ht))
              have hlt := op_geq_f 119 hqn
              have tg := op_gtr_t 119 ht
              clear step hm1 hm2 hm3 l1 l3 hq hqn ht
              have o4 : binOp .sub 119 (.int .u64 (q : Int)) (.int .u64 1) = pure (.int .u64 (p : Int)) := op_sub_le _ q 1 p hpq (by have := ds.le; rw [HB_eq] at this; rw [LB_eq]; omega)
              have o5 : binOp .add 119 (.int .u64 (r : Int)) (.int .u64 (v1 : Int)) = pure (.int .u64 (r' : Int)) := op_add_lt _ r v1 r' hr' (by have h1 := dv.hv1; rw [HB_eq] at hrl h1; rw [LB_eq]; omega)
              by_cases hbr : HB ≤ r'
              · have HP := hide (show p = (un * HB + b0) / v by rw [dv.hv]; exact DS.full ds' dv.v1_pos dv.hv0 (by have := ds.le; omega) hbr)
                have k1 := op_geq_t 119 hbr
                clear ds ds' hpq hr' hbr dv av bl hrl
                have FIN0 := hide (DV.out.fin2 HP1.out HUN.out HP.out (by rw [HP1.out]; exact DV.out.p_lt) (by rw [HP.out]; exact DV.out.p0_lt HUN.out))
                obtain ⟨x1, hx1⟩ : ∃ x, x = mulW P1 HB := ⟨_, rfl⟩
                obtain ⟨qt, hqt⟩ : ∃ x, x = addW x1 p := ⟨_, rfl⟩
                obtain ⟨x2, hx2⟩ : ∃ x, x = mulW un HB := ⟨_, rfl⟩
                obtain ⟨x3, hx3⟩ : ∃ x, x = addW x2 b0 := ⟨_, rfl⟩
                obtain ⟨x4, hx4⟩ : ∃ x, x = mulW p v := ⟨_, rfl⟩
                obtain ⟨rr, hrr⟩ : ∃ x, x = subW x3 x4 := ⟨_, rfl⟩
                obtain ⟨rs, hrs⟩ : ∃ x, x = shrW rr s := ⟨_, rfl⟩
                have FIN := hide (show qt = dvQ hi lo y ∧ rs = dvR hi lo y by rw [hqt, hx1, hrs, hrr, hx3, hx2, hx4]; exact FIN0.out)
                have g1 : binOp .mul 119 (.int .u64 (P1 : Int)) (.int .u64 4294967296) = pure (.int .u64 (x1 : Int)) := by rw [hx1]; exact op_mul _ P1 HB
                have g2 : binOp .add 119 (.int .u64 (x1 : Int)) (.int .u64 (p : Int)) = pure (.int .u64 (qt : Int)) := by rw [hqt]; exact op_add _ x1 p
                have g3 : binOp .mul 119 (.int .u64 (un : Int)) (.int .u64 4294967296) = pure (.int .u64 (x2 : Int)) := by rw [hx2]; exact op_mul _ un HB
                have g4 : binOp .add 119 (.int .u64 (x2 : Int)) (.int .u64 (b0 : Int)) = pure (.int .u64 (x3 : Int)) := by rw [hx3]; exact op_add _ x2 b0
                have g5 : binOp .mul 119 (.int .u64 (p : Int)) (.int .u64 (v : Int)) = pure (.int .u64 (x4 : Int)) := by rw [hx4]; exact op_mul _ p v
                have g6 : binOp .sub 119 (.int .u64 (x3 : Int)) (.int .u64 (x4 : Int)) = pure (.int .u64 (rr : Int)) := by rw [hrr]; exact op_sub _ x3 x4 (by rw [hx4]; exact Nat.mod_lt _ LB_pos)
                have g7 : binOp .shr 119 (.int .u64 (rr : Int)) (.int .u64 (s : Int)) = pure (.int .u64 (rs : Int)) := by rw [hrs]; exact op_shr _ _ rr s (by omega)
                clear FIN0 hx1 hqt hx2 hx3 hx4 hrr hrs
                go_wp2
                go_ret2
                exact ⟨ret_two (by rw [FIN.out.1]) (by rw [FIN.out.2]), 0, rfl⟩
              · have k1 := op_geq_f 119 (Nat.lt_of_not_le hbr)
                have RL := hide (Nat.lt_of_not_le hbr)
                have DD := hide ds'
                have RR := hide (meas_lt hr' dv.v1_pos hrl)
                clear ds ds' hpq hr' hbr dv av bl hrl
                go_wp2
                go_round
                case rel => exact ⟨p, r', rfl, rfl, DD.out, RL.out⟩
                case measure => exact RR.out
            · have HP := hide (show q = (un * HB + b0) / v by rw [dv.hv]; exact DS.fits ds dv.v1_pos (by rw [← hm2, ← hm3, ← hm1]; omega))
              have hlt := op_geq_f 119 hqn
              have tg := op_gtr_f 119 (Nat.le_of_not_lt ht)
              obtain ⟨p, rfl⟩ : ∃ p, p = q := ⟨_, rfl⟩
              clear step hm1 hm2 hm3 l1 l3 hq ds ht hqn dv av bl hrl
              have FIN0 := hide (DV.out.fin2 HP1.out HUN.out HP.out (by rw [HP1.out]; exact DV.out.p_lt) (by rw [HP.out]; exact DV.out.p0_lt HUN.out))
              obtain ⟨x1, hx1⟩ : ∃ x, x = mulW P1 HB := ⟨_, rfl⟩
              obtain ⟨qt, hqt⟩ : ∃ x, x = addW x1 p := ⟨_, rfl⟩
              obtain ⟨x2, hx2⟩ : ∃ x, x = mulW un HB := ⟨_, rfl⟩
              obtain ⟨x3, hx3⟩ : ∃ x, x = addW x2 b0 := ⟨_, rfl⟩
              obtain ⟨x4, hx4⟩ : ∃ x, x = mulW p v := ⟨_, rfl⟩
              obtain ⟨rr, hrr⟩ : ∃ x, x = subW x3 x4 := ⟨_, rfl⟩
              obtain ⟨rs, hrs⟩ : ∃ x, x = shrW rr s := ⟨_, rfl⟩
              have FIN := hide (show qt = dvQ hi lo y ∧ rs = dvR hi lo y by rw [hqt, hx1, hrs, hrr, hx3, hx2, hx4]; exact FIN0.out)
              have g1 : binOp .mul 119 (.int .u64 (P1 : Int)) (.int .u64 4294967296) = pure (.int .u64 (x1 : Int)) := by rw [hx1]; exact op_mul _ P1 HB
              have g2 : binOp .add 119 (.int .u64 (x1 : Int)) (.int .u64 (p : Int)) = pure (.int .u64 (qt : Int)) := by rw [hqt]; exact op_add _ x1 p
              have g3 : binOp .mul 119 (.int .u64 (un : Int)) (.int .u64 4294967296) = pure (.int .u64 (x2 : Int)) := by rw [hx2]; exact op_mul _ un HB
              have g4 : binOp .add 119 (.int .u64 (x2 : Int)) (.int .u64 (b0 : Int)) = pure (.int .u64 (x3 : Int)) := by rw [hx3]; exact op_add _ x2 b0
              have g5 : binOp .mul 119 (.int .u64 (p : Int)) (.int .u64 (v : Int)) = pure (.int .u64 (x4 : Int)) := by rw [hx4]; exact op_mul _ p v
              have g6 : binOp .sub 119 (.int .u64 (x3 : Int)) (.int .u64 (x4 : Int)) = pure (.int .u64 (rr : Int)) := by rw [hrr]; exact op_sub _ x3 x4 (by rw [hx4]; exact Nat.mod_lt _ LB_pos)
              have g7 : binOp .shr 119 (.int .u64 (rr : Int)) (.int .u64 (s : Int)) = pure (.int .u64 (rs : Int)) := by rw [hrs]; exact op_shr _ _ rr s (by omega)
              clear FIN0 hx1 hqt hx2 hx3 hx4 hrr hrs
              go_wp2
              go_ret2
              exact ⟨ret_two (by rw [FIN.out.1]) (by rw [FIN.out.2]), 0, rfl⟩
end Nt

end Go.Proofs.YtgimmmmpollkhaaGreat
