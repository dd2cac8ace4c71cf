/-
  The law QuickTells.
-/
import Derived.Test.YtgmjdaallinicaaDoorQd
set_option linter.unusedVariables false
set_option linter.unusedSimpArgs false
namespace Go.Proofs.YtgmjdaallinicaaDoor
open Go.RowKit
namespace Nt

theorem S9k_next {w w' : World} (hb : Below w.heap.size w w') {p1 p2 p3 p4 p5 p6 p7 p8 p9 : Addr} {v1 v2 v3 v4 v5 v6 v7 v8 v9 : Value} {w0 : World} {l : List (Option Addr × List Nat)}
    (h : w.cell? p1 = some v1 ∧ w.cell? p2 = some v2 ∧ w.cell? p3 = some v3 ∧ w.cell? p4 = some v4 ∧ w.cell? p5 = some v5 ∧ w.cell? p6 = some v6 ∧ w.cell? p7 = some v7 ∧ w.cell? p8 = some v8 ∧ w.cell? p9 = some v9 ∧ K6 w0 l w) : w'.cell? p1 = some v1 ∧ w'.cell? p2 = some v2 ∧ w'.cell? p3 = some v3 ∧ w'.cell? p4 = some v4 ∧ w'.cell? p5 = some v5 ∧ w'.cell? p6 = some v6 ∧ w'.cell? p7 = some v7 ∧ w'.cell? p8 = some v8 ∧ w'.cell? p9 = some v9 ∧ K6 w0 l w' := by
  obtain ⟨h1, h2, h3, h4, h5, h6, h7, h8, h9, k⟩ := h
  exact ⟨cell_next hb h1, cell_next hb h2, cell_next hb h3, cell_next hb h4, cell_next hb h5, cell_next hb h6, cell_next hb h7, cell_next hb h8, cell_next hb h9, k.next hb⟩
theorem k9k {c1 c2 c3 c4 c5 c6 c7 c8 c9 k : Prop} (h : c1 ∧ c2 ∧ c3 ∧ c4 ∧ c5 ∧ c6 ∧ c7 ∧ c8 ∧ c9 ∧ k) : k := h.2.2.2.2.2.2.2.2.2

theorem wf_f {x : Nat} (h : (Lit.float .f64 x).wf = true) : x < 2 ^ 64 := of_decide_eq_true h
set_option maxRecDepth 100000 in
set_option maxHeartbeats 8000000 in
theorem tells_main (s0 : Bool) (A0 B0 : Option Addr) (c0 e0 i0 j0 x cr ci n1 n2 : Nat) (z ok : Bool) (N D : List Nat) (w : World) (hi : i0 ≤ 30) (hj : j0 ≤ 30) (hN : N.length = n1) (hD : D.length = n2) (hN1 : n1 ≤ 1000) (hD1 : n2 ≤ 1000)
    (P1 : Hid (∀ V : World, Below w.heap.size w V → Calls Tryd.prog 10 #[.float .f64 x] V fun e V' => ∃ A c B d, e = .returned (.tuple #[.agg #[.bool z, .slice A n1 c, .slice B n2 d], .bool ok]) ∧ Sl V' A N ∧ Sl V' B D ∧ Below V.heap.size V V'))
    (P2 : Hid (∀ V : World, Calls Tryd.prog 11 #[.float .f64 x] V fun e V' => ∃ A c B d, e = .returned (.tuple #[.agg #[.bool z, .slice A n1 c, .slice B n2 d], .bool ok]) ∧ Sl V' A N ∧ Sl V' B D ∧ Below V.heap.size V V'))
    (Q1 : Hid (∀ V : World, Below w.heap.size w V → Calls Tryd.prog 13 #[.agg #[.bool s0, .slice A0 i0 c0, .slice B0 j0 e0]] V fun e V' => e = .returned (.complex .f64 cr ci) ∧ Below V.heap.size V V'))
    (Q2 : Hid (∀ V : World, Below w.heap.size w V → Calls Tryd.prog 14 #[.agg #[.bool s0, .slice A0 i0 c0, .slice B0 j0 e0]] V fun e V' => e = .returned (.complex .f64 cr ci) ∧ Below V.heap.size V V'))
    (SQ : Hid (∀ V : World, Calls Tryd.prog 12 #[.complex .f64 cr ci, .complex .f64 cr ci] V fun e V' => e = .returned (.bool true) ∧ Below V.heap.size V V'))
    (AW : Hid (∀ V : World, Below w.heap.size w V → Calls Tryd.prog 9 #[] V fun e V' => e = .returned (.bool true) ∧ Below V.heap.size V V')) :
    Calls Tryd.prog 3 #[.agg #[.bool s0, .slice A0 i0 c0, .slice B0 j0 e0], .float .f64 x] w fun e w' => e = .returned (.bool true) ∧ Below w.heap.size w w' := by
  have SM := hide (fun (A B C E : Option Addr) a b c d V (k : K6 w [(A, N), (B, D), (C, N), (E, D)] V) => Same_any z z A B C E a b c d n1 n2 n1 n2 N D N D V (K6.sl k nem1) (K6.sl k nem2) (K6.sl k nem3) (K6.sl k nem4) hN hD hN hD (by omega) (by omega) (by omega) (by omega) true (decide_eq_true ⟨rfl, rfl, rfl⟩))
  have g1 : binOp .gtr 3 (.int .i64 (i0 : Int)) (.int .i64 30) = pure (.bool false) := ii_gtr _ _ _ _ (decide_eq_false (by omega))
  have g2 : binOp .gtr 3 (.int .i64 (j0 : Int)) (.int .i64 30) = pure (.bool false) := ii_gtr _ _ _ _ (decide_eq_false (by omega))
  have q4 : ∀ W : World, (binOp .eql 4 (.bool ok) (.bool ok)).run Tryd.prog W = .ok (.bool true) W := fun _ => by cases ok <;> kernel_rfl
  clear hi hj hN hD hN1 hD1
  have X0 := hide (Q3.new (.bool s0) (.slice A0 i0 c0) (.slice B0 j0 e0) w)
  have b0 : Below w.heap.size w (w.alloc (.cells #[.bool s0, .slice A0 i0 c0, .slice B0 j0 e0] 24)) := bl_al (.refl _ _) _
  obtain ⟨x1, x2, x3, x4, x5, x6⟩ := X0.out
  go_enter Tryd.func3, Tryd.ntmps3
  go_wp2_with (first
    | (go_at_call 10; (with_reducible refine (P1.out _ b0).mono ?_); rintro e w1 ⟨A1, a1, B1, b1, rfl, s1, t1, hb⟩; have b2 := bl_al (bl_trans b0 hb) (.cells #[.bool z, .slice A1 n1 a1, .slice B1 n2 b1] 24); have X0 := hide ((X0.out.next hb).al (.cells #[.bool z, .slice A1 n1 a1, .slice B1 n2 b1] 24)); have Y1 := hide (Q3.new (.bool z) (.slice A1 n1 a1) (.slice B1 n2 b1) w1); have s1 := s1.alloc (.cells #[.bool z, .slice A1 n1 a1, .slice B1 n2 b1] 24); have t1 := t1.alloc (.cells #[.bool z, .slice A1 n1 a1, .slice B1 n2 b1] 24); clear hb x1 x2 x3 x4 x5 x6)
    | (go_at_call 11; (with_reducible refine (P2.out _).mono ?_); rintro e w2 ⟨A2, a2, B2, b22, rfl, s2, t2, hb⟩; have b3 := bl_al (bl_trans b2 hb) (.cells #[.bool z, .slice A2 n1 a2, .slice B2 n2 b22] 24); have X0 := hide ((X0.out.next hb).al (.cells #[.bool z, .slice A2 n1 a2, .slice B2 n2 b22] 24)); have Y1 := hide ((Y1.out.next hb).al (.cells #[.bool z, .slice A2 n1 a2, .slice B2 n2 b22] 24)); have Y2 := hide (Q3.new (.bool z) (.slice A2 n1 a2) (.slice B2 n2 b22) w2); have s1 := (kp' hb s1).alloc (.cells #[.bool z, .slice A2 n1 a2, .slice B2 n2 b22] 24); have t1 := (kp' hb t1).alloc (.cells #[.bool z, .slice A2 n1 a2, .slice B2 n2 b22] 24); have s2 := s2.alloc (.cells #[.bool z, .slice A2 n1 a2, .slice B2 n2 b22] 24); have t2 := t2.alloc (.cells #[.bool z, .slice A2 n1 a2, .slice B2 n2 b22] 24); clear hb))
  have kz : Hid (K6 w [(A1, N), (B1, D), (A2, N), (B2, D)] (w2.alloc (.cells #[.bool z, .slice A2 n1 a2, .slice B2 n2 b22] 24))) := hide (K6.cons (K6.cons (K6.cons (K6.cons (K6.nil b3) t2) s2) t1) s1)
  have kd := hide kz.out.drew
  clear b0 b2 b3 s1 t1 s2 t2 P1 P2 g1 g2
  go_region_held3 (fun W => W.cell? ⟨w1.heap.size, 0, none⟩ = some (.bool z) ∧ W.cell? ⟨w1.heap.size, 1, none⟩ = some (.slice A1 n1 a1) ∧ W.cell? ⟨w1.heap.size, 2, none⟩ = some (.slice B1 n2 b1) ∧ W.cell? ⟨w2.heap.size, 0, none⟩ = some (.bool z) ∧ W.cell? ⟨w2.heap.size, 1, none⟩ = some (.slice A2 n1 a2) ∧ W.cell? ⟨w2.heap.size, 2, none⟩ = some (.slice B2 n2 b22) ∧ W.cell? ⟨w.heap.size, 0, none⟩ = some (.bool s0) ∧ W.cell? ⟨w.heap.size, 1, none⟩ = some (.slice A0 i0 c0) ∧ W.cell? ⟨w.heap.size, 2, none⟩ = some (.slice B0 j0 e0) ∧ K6 w [(A1, N), (B1, D), (A2, N), (B2, D)] W)
    (first | exact ⟨Y1.out.1, Y1.out.2.1, Y1.out.2.2.1, Y2.out.1, Y2.out.2.1, Y2.out.2.2.1, X0.out.1, X0.out.2.1, X0.out.2.2.1, kd.out⟩ | with_reducible exact S9k_next hb (by assumption) | with_reducible assumption)
    (first
      | (go_at_call 13; (with_reducible refine (Q1.out _ (K6.b (k9k (by assumption)))).mono ?_); rintro e v1 ⟨rfl, hb⟩)
      | (go_at_call 14; (with_reducible refine (Q2.out _ (K6.b (k9k (by assumption)))).mono ?_); rintro e v2 ⟨rfl, hb⟩)
      | (go_at_call 12; (with_reducible refine (SQ.out _).mono ?_); rintro e v3 ⟨rfl, hb⟩)
      | (go_at_call 15; (with_reducible refine (SM.out A1 B1 A2 B2 a1 b1 a2 b22 _ (k9k (by assumption))).mono ?_); rintro e v4 ⟨rfl, hb⟩)
      | (go_at_call 9; (with_reducible refine (AW.out _ (K6.b (k9k (by assumption)))).mono ?_); rintro e v5 ⟨rfl, hb⟩))
  all_goals
    go_wp2
    go_ret
    exact ⟨rfl, K6.b (k9k (by assumption))⟩
theorem pair_back (x : Nat) (hx : x < 2 ^ 64) (w : World) (T : DeB w) : ∃ (z ok : Bool) (N D : List Nat), N.length ≤ 1000 ∧ D.length ≤ 1000
    ∧ (∀ V : World, Below w.heap.size w V → Calls Tryd.prog 10 #[.float .f64 x] V fun e V' => ∃ A c B d, e = .returned (.tuple #[.agg #[.bool z, .slice A N.length c, .slice B D.length d], .bool ok]) ∧ Sl V' A N ∧ Sl V' B D ∧ Below V.heap.size V V')
    ∧ (∀ V : World, Calls Tryd.prog 11 #[.float .f64 x] V fun e V' => ∃ A c B d, e = .returned (.tuple #[.agg #[.bool z, .slice A N.length c, .slice B D.length d], .bool ok]) ∧ Sl V' A N ∧ Sl V' B D ∧ Below V.heap.size V V') := by
  have none : ∀ {f : FuncId}, (∀ V, Calls Tryd.prog f #[.float .f64 x] V fun e V' => e = .returned (.tuple #[.agg #[.bool false, .slice none 0 0, .slice none 0 0], .bool false]) ∧ Below V.heap.size V V') →
      ∀ V, Calls Tryd.prog f #[.float .f64 x] V fun e V' => ∃ A c B d, e = .returned (.tuple #[.agg #[.bool false, .slice A ([] : List Nat).length c, .slice B ([] : List Nat).length d], .bool false]) ∧ Sl V' A [] ∧ Sl V' B [] ∧ Below V.heap.size V V' :=
    fun h V => (h V).mono fun e V' ⟨h1, h2⟩ => ⟨none, 0, none, 0, h1, .nil, .nil, h2⟩
  rcases word_cases x hx with ⟨s, r, hr, rfl⟩ | ⟨s, rfl⟩ | ⟨s, r, h1, h2, rfl⟩
  · have f := rq_fit s hr
    exact ⟨qs (rq s r), true, digs (qn (rq s r)), digs (qd (rq s r)), Nat.le_trans f.1 (by decide), Nat.le_trans f.2 (by decide), fun V g => back_f s r hr V (T.next g), fun V => rback_f s r hr V⟩
  · exact ⟨false, false, [], [], by decide, by decide, fun V _ => none (back_no _ (finite_w s _ (Nat.le_refl _) false (decide_eq_false (by omega)))) V, none (rback_inf s)⟩
  · have ho : (Ieee.double.order (Ieee.double.word s r) (Ieee.double.word s r) != some .eq) = true := by rw [nan_word s r h1 h2]; rfl
    exact ⟨false, false, [], [], by decide, by decide, fun V _ => none (back_no _ (finite_nan _ ho)) V, none (rback_nan _ ho)⟩
theorem pair_of (s : Bool) (A B : Option Addr) (a b : Nat) (xs ys : List Nat) (w : World) (sA : Sl w A xs) (sB : Sl w B ys) (lx : Limbs xs) (ly : Limbs ys) (hx : xs.length ≤ 30) (hy : ys.length ≤ 30) (ca : xs.length ≤ a) (cb : ys.length ≤ b) : ∃ cr ci : Nat,
    (∀ V : World, Below w.heap.size w V → Calls Tryd.prog 13 #[.agg #[.bool s, .slice A xs.length a, .slice B ys.length b]] V fun e V' => e = .returned (.complex .f64 cr ci) ∧ Below V.heap.size V V')
    ∧ (∀ V : World, Below w.heap.size w V → Calls Tryd.prog 14 #[.agg #[.bool s, .slice A xs.length a, .slice B ys.length b]] V fun e V' => e = .returned (.complex .f64 cr ci) ∧ Below V.heap.size V V')
    ∧ (∀ V : World, Calls Tryd.prog 12 #[.complex .f64 cr ci, .complex .f64 cr ci] V fun e V' => e = .returned (.bool true) ∧ Below V.heap.size V V') := by
  rcases vQ2 s xs ys with v | v
  · obtain ⟨q, rfl, rfl, rfl⟩ := as_rat lx ly v
    have f : fitq q := ⟨Nat.le_trans hx (by decide), Nat.le_trans hy (by decide)⟩
    obtain ⟨rs, r, is, i, Q⟩ := qb_rat q f
    obtain ⟨_, _, _, _, _, _, g1, g2⟩ := Q.vals
    exact ⟨_, _, fun V g => qof_f q A B a b rs r is i V (kp' g sA) (kp' g sB) f Q, fun V g => rquick_f q A B a b rs r is i V (kp' g sA) (kp' g sB) f ca cb Q, fun V => calls_bl (same_f rs is rs is r i r i g1 g2 g1 g2 rfl rfl V)⟩
  · exact ⟨0, 0, fun V g => qof_no s A B a b xs ys V (bl_keeps g _ _ sA) (bl_keeps g _ _ sB) lx ly (by omega) (by omega) v, fun V g => rquick_no s A B a b xs ys V (bl_keeps g _ _ sA) (bl_keeps g _ _ sB) lx ly (by omega) (by omega) v, fun V => calls_bl (same_f false false false false 0 0 0 0 (by decide) (by decide) (by decide) (by decide) rfl rfl V)⟩
set_option maxHeartbeats 4000000 in
theorem quickTells_fin (s0 : Bool) (A0 B0 : Option Addr) (c0 e0 : Nat) (xs0 ys0 : List Nat) (x : Nat) (w : World) (sA : Sl w A0 xs0) (sB : Sl w B0 ys0) (lx : Limbs xs0) (ly : Limbs ys0) (ca : xs0.length ≤ c0) (cb : ys0.length ≤ e0) (hx : x < 2 ^ 64) (T : DeB w) :
    Calls Tryd.prog 3 #[.agg #[.bool s0, .slice A0 xs0.length c0, .slice B0 ys0.length e0], .float .f64 x] w fun e w' => e = .returned (.bool true) ∧ Below w.heap.size w w' := by
  have AW : Hid (∀ V : World, Below w.heap.size w V → Calls Tryd.prog 9 #[] V fun e V' => e = .returned (.bool true) ∧ Below V.heap.size V V') := hide fun V g => awake5_any V (T.next g)
  by_cases h1 : xs0.length ≤ 30
  · by_cases h2 : ys0.length ≤ 30
    · obtain ⟨z, ok, N, D, n1, n2, P1, P2⟩ := pair_back x hx w T
      obtain ⟨cr, ci, Q1, Q2, SQ⟩ := pair_of s0 A0 B0 c0 e0 xs0 ys0 w sA sB lx ly h1 h2 ca cb
      exact tells_main s0 A0 B0 c0 e0 _ _ x cr ci _ _ z ok N D w h1 h2 rfl rfl n1 n2 (hide P1) (hide P2) (hide Q1) (hide Q2) (hide SQ) AW
    · have g1 : binOp .gtr 3 (.int .i64 (xs0.length : Int)) (.int .i64 30) = pure (.bool false) := ii_gtr _ _ _ _ (decide_eq_false (by omega))
      have g2 : binOp .gtr 3 (.int .i64 (ys0.length : Int)) (.int .i64 30) = pure (.bool true) := ii_gtr _ _ _ _ (decide_eq_true (by omega))
      have X0 := hide (Q3.new (.bool s0) (.slice A0 xs0.length c0) (.slice B0 ys0.length e0) w)
      have b0 : Below w.heap.size w (w.alloc (.cells #[.bool s0, .slice A0 xs0.length c0, .slice B0 ys0.length e0] 24)) := bl_al (.refl _ _) _
      obtain ⟨x1, x2, x3, x4, x5, x6⟩ := X0.out
      clear sA sB lx ly ca cb hx T h1 h2
      generalize xs0.length = n1 at *
      generalize ys0.length = n2 at *
      go_enter Tryd.func3, Tryd.ntmps3
      go_wp2_with (go_at_call 9; (with_reducible refine (AW.out _ b0).mono ?_); rintro e v9 ⟨rfl, hb⟩; have bz := bl_trans b0 hb; clear hb)
      go_ret
      exact ⟨rfl, bz⟩
  · have g1 : binOp .gtr 3 (.int .i64 (xs0.length : Int)) (.int .i64 30) = pure (.bool true) := ii_gtr _ _ _ _ (decide_eq_true (by omega))
    have X0 := hide (Q3.new (.bool s0) (.slice A0 xs0.length c0) (.slice B0 ys0.length e0) w)
    have b0 : Below w.heap.size w (w.alloc (.cells #[.bool s0, .slice A0 xs0.length c0, .slice B0 ys0.length e0] 24)) := bl_al (.refl _ _) _
    obtain ⟨x1, x2, x3, x4, x5, x6⟩ := X0.out
    clear sA sB lx ly ca cb hx T h1
    generalize xs0.length = n1 at *
    generalize ys0.length = n2 at *
    go_enter Tryd.func3, Tryd.ntmps3
    go_wp2_with (go_at_call 9; (with_reducible refine (AW.out _ b0).mono ?_); rintro e v9 ⟨rfl, hb⟩; have bz := bl_trans b0 hb; clear hb)
    go_ret
    exact ⟨rfl, bz⟩
end Nt
end Go.Proofs.YtgmjdaallinicaaDoor
