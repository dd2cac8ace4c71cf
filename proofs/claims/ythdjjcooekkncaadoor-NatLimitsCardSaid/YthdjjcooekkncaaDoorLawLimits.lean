
/-
  The law NatLimits.
-/
import Derived.Test.YthdjjcooekkncaaDoorLimits

namespace Go.Proofs.YthdjjcooekkncaaDoor

open Go.RowKit

namespace Nt

theorem cl_t (t : TypeId) {x y : Int} (h : x < y) : binOp .lss t (.int .i64 x) (.int .i64 y) = pure (.bool true) := by
  show pure (Value.bool (decide (x < y))) = _
  rw [decide_eq_true h]
theorem cl_f (t : TypeId) {x y : Int} (h : y ≤ x) : binOp .lss t (.int .i64 x) (.int .i64 y) = pure (.bool false) := by
  show pure (Value.bool (decide (x < y))) = _
  rw [decide_eq_false (by omega)]
theorem cg_t (t : TypeId) {x y : Int} (h : y < x) : binOp .gtr t (.int .i64 x) (.int .i64 y) = pure (.bool true) := by
  show pure (Value.bool (decide (y < x))) = _
  rw [decide_eq_true h]
theorem cg_f (t : TypeId) {x y : Int} (h : x ≤ y) : binOp .gtr t (.int .i64 x) (.int .i64 y) = pure (.bool false) := by
  show pure (Value.bool (decide (y < x))) = _
  rw [decide_eq_false (by omega)]
theorem ce_t (t : TypeId) {x y : Int} (h : x ≤ y) : binOp .leq t (.int .i64 x) (.int .i64 y) = pure (.bool true) := by
  show pure (Value.bool (decide (x ≤ y))) = _
  rw [decide_eq_true h]
theorem ce_f (t : TypeId) {x y : Int} (h : y < x) : binOp .leq t (.int .i64 x) (.int .i64 y) = pure (.bool false) := by
  show pure (Value.bool (decide (x ≤ y))) = _
  rw [decide_eq_false (by omega)]
theorem made_at (j : Nat) : (madeCells #[Value.int .u64 0] (j + 1))[j]? = some (.int .u64 0) := by
  rw [← Array.getElem?_toList, toList_madeCells_one, List.getElem?_replicate, if_pos (by omega)]
theorem add_top (A : Option Addr) (c p : Nat) (w : World) (r : List Nat × Nat) (s : Sl w A (top p TB)) (hp : p ≤ 100) (hr : addSp (top p TB) (top p TB) = r) :
    Calls Tryd.prog 13 #[.slice A (p + 1) c, .slice A (p + 1) c] w (Two w r) := by
  have := add_any A A c c (top p TB) (top p TB) w s s (top_limbs p TB_lt) (top_limbs p TB_lt) (by rw [top_len]; omega) (by rw [top_len]; omega)
  rwa [top_len, hr] at this
theorem mul_top (A B : Option Addr) (c d p k : Nat) (w : World) (r : List Nat × Nat) (s : Sl w A (top p TB)) (t : Sl w B (top k 1)) (hp : p ≤ 100) (hk : k ≤ 100) (hr : mulSp (top p TB) (top k 1) = r) :
    Calls Tryd.prog 17 #[.slice A (p + 1) c, .slice B (k + 1) d] w (Two w r) := by
  have := mul_any A B c d (top p TB) (top k 1) w s t (top_limbs p TB_lt) (top_limbs k (by decide)) (by rw [top_len]; omega) (by rw [top_len]; omega)
  rwa [top_len, top_len, hr] at this
theorem shift_top (B : Option Addr) (d p k : Nat) (z : Int) (w : World) (r : List Nat × Nat) (t : Sl w B (top k 1)) (hp : p ≤ 100) (hk : k ≤ 100) (hz : z = 64 * (p : Int)) (hr : upSp (top k 1) (64 * p) = r) :
    Calls Tryd.prog 30 #[.slice B (k + 1) d, .int .i64 z] w (Two w r) := by
  subst hz
  have := shift_up B d (64 * p) (top k 1) w t (top_limbs k (by decide)) (by rw [top_len]; omega) (by omega)
  rwa [top_len, hr] at this

set_option maxRecDepth 100000 in
set_option maxHeartbeats 4000000 in
theorem limits_d1 (p k : Nat) (w : World) (hp : p < 70) (hk : k ≤ 70) (ht : Pow10 w) (c1 : p < 63) (c2 : p + k < 64) :
    Calls Tryd.prog 7 #[.int .i64 ((p : Int) + 1), .int .i64 (k : Int)] w fun e w' => e = .returned (.bool true) ∧ Below w.heap.size w w' := by
  have mk1 : ∀ W : World, (Instr.makeSlice 22 (.int .i64 ((p : Int) + 1)) (.int .i64 ((p : Int) + 1))).run Tryd.prog W = .ok (.slice (some ⟨W.heap.size, 0, none⟩) (p + 1) (p + 1)) (W.alloc (.cells (madeCells #[.int .u64 0] (p + 1)) 40)) :=
    fun W => run_make_u64 .i64 .i64 (p + 1) (p + 1) (by omega) (by omega) W
  have mk2 : ∀ W : World, (Instr.makeSlice 22 (.int .i64 ((k : Int) + 1)) (.int .i64 ((k : Int) + 1))).run Tryd.prog W = .ok (.slice (some ⟨W.heap.size, 0, none⟩) (k + 1) (k + 1)) (W.alloc (.cells (madeCells #[.int .u64 0] (k + 1)) 40)) :=
    fun W => run_make_u64 .i64 .i64 (k + 1) (k + 1) (by omega) (by omega) W
  have q1 : binOp .sub 3 (.int .i64 ((p : Int) + 1)) (.int .i64 1) = pure (.int .i64 (p : Int)) := i64_sub _ (p + 1) 1 p rfl (by omega)
  have hm1 := made_at p
  have hm2 := made_at k
  obtain ⟨S1, S2, b⟩ := limW_facts w p k
  have E1 : addSp (top p TB) (top p TB) = (top (p + 1) 1, 0) := by rw [lim_add, if_pos (by omega)]
  have E1 := hide E1
  have E2 : mulSp (top p TB) (top k 1) = (top (p + k) TB, 0) := by rw [lim_mul (by omega) (by omega), if_pos (by omega)]
  have E2 := hide E2
  have E3 : upSp (top k 1) (64 * p) = (top (p + k) 1, 0) := by rw [lim_shift (by omega), if_pos (by omega)]
  have E3 := hide E3
  have N1 : (top (p + 1) 1 : List Nat).length = p + 1 + 1 := by rw [top_len]
  have N1 := hide N1
  have N2 : (top (p + k) TB : List Nat).length = p + 1 + k := by rw [top_len]; omega
  have N2 := hide N2
  have N3 : (top (p + k) 1 : List Nat).length = p + 1 + k := by rw [top_len]; omega
  have N3 := hide N3
  have hp1 : p ≤ 100 := by omega
  have hk1 : k ≤ 100 := by omega
  have j1 := cl_f 3 (show (1 : Int) ≤ (p : Int) + 1 by omega)
  have j2 := cg_f 3 (show (p : Int) + 1 ≤ 70 by omega)
  have j3 := cl_f 3 (show (0 : Int) ≤ (k : Int) by omega)
  have j4 := cg_f 3 (show (k : Int) ≤ 70 by omega)
  have j5 := cg_f 3 (show (p : Int) + 1 ≤ 64 by omega)
  have j7 := ce_t 3 (show (p : Int) + 1 ≤ 64 by omega)
  have j6 := cg_f 3 (show (k : Int) + 1 ≤ 64 by omega)
  have j8 := cl_t 3 (show (p : Int) + 1 < 64 by omega)
  have j9 := ce_t 3 (show (p : Int) + 1 + (k : Int) ≤ 64 by omega)
  have hq : ((p : Int) + 1 == 64) = false := beq_eq_false_iff_ne.2 (by omega)
  unfold limW at S1 S2 b
  go_enter Tryd.func7, Tryd.ntmps7
  go_wp2_with (first
    | (go_at_call 13; (with_reducible refine (add_top _ _ p _ _ S1 hp1 E1.out).mono ?_); rintro e w2 h; obtain ⟨A1, c1, rfl, s1, b0⟩ := h.getn rfl N1.out; have S1 := bl_keeps b0 _ _ S1; have S2 := bl_keeps b0 _ _ S2; have b := bl_trans b b0; clear h b0 s1)
    | (go_at_call 17; (with_reducible refine (mul_top _ _ _ _ p k w2 _ S1 S2 hp1 hk1 E2.out).mono ?_); rintro e w3 h; obtain ⟨A2, c2, rfl, s2, b0⟩ := h.getn rfl N2.out; have S2 := bl_keeps b0 _ _ S2; have b := bl_trans b b0; clear h b0 s2)
    | (go_at_call 30; (with_reducible refine (shift_top _ _ p k _ w3 _ S2 hp1 hk1 rfl E3.out).mono ?_); rintro e w4 h; obtain ⟨A3, c3, rfl, s3, b0⟩ := h.getn rfl N3.out; have b := bl_trans b b0; clear h b0 s3)
    | (go_at_call 12; (with_reducible refine (awake_any w4 (pow_below ht b)).mono ?_); rintro e w13 ⟨rfl, b0⟩; have b := bl_trans b b0; clear b0))
  go_ret
  exact ⟨rfl, b⟩

set_option maxRecDepth 100000 in
set_option maxHeartbeats 4000000 in
theorem limits_d2 (p k : Nat) (w : World) (hp : p < 70) (hk : k ≤ 70) (ht : Pow10 w) (c1 : p < 63) (c2 : k < 64) (c3 : 64 ≤ p + k) :
    Calls Tryd.prog 7 #[.int .i64 ((p : Int) + 1), .int .i64 (k : Int)] w fun e w' => e = .returned (.bool true) ∧ Below w.heap.size w w' := by
  have mk1 : ∀ W : World, (Instr.makeSlice 22 (.int .i64 ((p : Int) + 1)) (.int .i64 ((p : Int) + 1))).run Tryd.prog W = .ok (.slice (some ⟨W.heap.size, 0, none⟩) (p + 1) (p + 1)) (W.alloc (.cells (madeCells #[.int .u64 0] (p + 1)) 40)) :=
    fun W => run_make_u64 .i64 .i64 (p + 1) (p + 1) (by omega) (by omega) W
  have mk2 : ∀ W : World, (Instr.makeSlice 22 (.int .i64 ((k : Int) + 1)) (.int .i64 ((k : Int) + 1))).run Tryd.prog W = .ok (.slice (some ⟨W.heap.size, 0, none⟩) (k + 1) (k + 1)) (W.alloc (.cells (madeCells #[.int .u64 0] (k + 1)) 40)) :=
    fun W => run_make_u64 .i64 .i64 (k + 1) (k + 1) (by omega) (by omega) W
  have q1 : binOp .sub 3 (.int .i64 ((p : Int) + 1)) (.int .i64 1) = pure (.int .i64 (p : Int)) := i64_sub _ (p + 1) 1 p rfl (by omega)
  have hm1 := made_at p
  have hm2 := made_at k
  obtain ⟨S1, S2, b⟩ := limW_facts w p k
  have E1 : addSp (top p TB) (top p TB) = (top (p + 1) 1, 0) := by rw [lim_add, if_pos (by omega)]
  have E1 := hide E1
  have E2 : mulSp (top p TB) (top k 1) = ([], 4) := by rw [lim_mul (by omega) (by omega), if_neg (by omega)]
  have E2 := hide E2
  have E3 : upSp (top k 1) (64 * p) = ([], 4) := by rw [lim_shift (by omega), if_neg (by omega)]
  have E3 := hide E3
  have N1 : (top (p + 1) 1 : List Nat).length = p + 1 + 1 := by rw [top_len]
  have N1 := hide N1
  have N2 : ([] : List Nat).length = 0 := rfl
  have N2 := hide N2
  have N3 : ([] : List Nat).length = 0 := rfl
  have N3 := hide N3
  have hp1 : p ≤ 100 := by omega
  have hk1 : k ≤ 100 := by omega
  have j1 := cl_f 3 (show (1 : Int) ≤ (p : Int) + 1 by omega)
  have j2 := cg_f 3 (show (p : Int) + 1 ≤ 70 by omega)
  have j3 := cl_f 3 (show (0 : Int) ≤ (k : Int) by omega)
  have j4 := cg_f 3 (show (k : Int) ≤ 70 by omega)
  have j5 := cg_f 3 (show (p : Int) + 1 ≤ 64 by omega)
  have j7 := ce_t 3 (show (p : Int) + 1 ≤ 64 by omega)
  have j6 := cg_f 3 (show (k : Int) + 1 ≤ 64 by omega)
  have j8 := cl_t 3 (show (p : Int) + 1 < 64 by omega)
  have j9 := ce_f 3 (show (64 : Int) < (p : Int) + 1 + (k : Int) by omega)
  have hq : ((p : Int) + 1 == 64) = false := beq_eq_false_iff_ne.2 (by omega)
  unfold limW at S1 S2 b
  go_enter Tryd.func7, Tryd.ntmps7
  go_wp2_with (first
    | (go_at_call 13; (with_reducible refine (add_top _ _ p _ _ S1 hp1 E1.out).mono ?_); rintro e w2 h; obtain ⟨A1, c1, rfl, s1, b0⟩ := h.getn rfl N1.out; have S1 := bl_keeps b0 _ _ S1; have S2 := bl_keeps b0 _ _ S2; have b := bl_trans b b0; clear h b0 s1)
    | (go_at_call 17; (with_reducible refine (mul_top _ _ _ _ p k w2 _ S1 S2 hp1 hk1 E2.out).mono ?_); rintro e w3 h; obtain ⟨A2, c2, rfl, s2, b0⟩ := h.getn rfl N2.out; have S2 := bl_keeps b0 _ _ S2; have b := bl_trans b b0; clear h b0 s2)
    | (go_at_call 30; (with_reducible refine (shift_top _ _ p k _ w3 _ S2 hp1 hk1 rfl E3.out).mono ?_); rintro e w4 h; obtain ⟨A3, c3, rfl, s3, b0⟩ := h.getn rfl N3.out; have b := bl_trans b b0; clear h b0 s3)
    | (go_at_call 12; (with_reducible refine (awake_any w4 (pow_below ht b)).mono ?_); rintro e w13 ⟨rfl, b0⟩; have b := bl_trans b b0; clear b0))
  go_ret
  exact ⟨rfl, b⟩

set_option maxRecDepth 100000 in
set_option maxHeartbeats 4000000 in
theorem limits_d3 (p k : Nat) (w : World) (hp : p < 70) (hk : k ≤ 70) (ht : Pow10 w) (c1 : 63 ≤ p) (c0 : p ≤ 63) (c2 : k < 1) :
    Calls Tryd.prog 7 #[.int .i64 ((p : Int) + 1), .int .i64 (k : Int)] w fun e w' => e = .returned (.bool true) ∧ Below w.heap.size w w' := by
  have mk1 : ∀ W : World, (Instr.makeSlice 22 (.int .i64 ((p : Int) + 1)) (.int .i64 ((p : Int) + 1))).run Tryd.prog W = .ok (.slice (some ⟨W.heap.size, 0, none⟩) (p + 1) (p + 1)) (W.alloc (.cells (madeCells #[.int .u64 0] (p + 1)) 40)) :=
    fun W => run_make_u64 .i64 .i64 (p + 1) (p + 1) (by omega) (by omega) W
  have mk2 : ∀ W : World, (Instr.makeSlice 22 (.int .i64 ((k : Int) + 1)) (.int .i64 ((k : Int) + 1))).run Tryd.prog W = .ok (.slice (some ⟨W.heap.size, 0, none⟩) (k + 1) (k + 1)) (W.alloc (.cells (madeCells #[.int .u64 0] (k + 1)) 40)) :=
    fun W => run_make_u64 .i64 .i64 (k + 1) (k + 1) (by omega) (by omega) W
  have q1 : binOp .sub 3 (.int .i64 ((p : Int) + 1)) (.int .i64 1) = pure (.int .i64 (p : Int)) := i64_sub _ (p + 1) 1 p rfl (by omega)
  have hm1 := made_at p
  have hm2 := made_at k
  obtain ⟨S1, S2, b⟩ := limW_facts w p k
  have E1 : addSp (top p TB) (top p TB) = ([], 4) := by rw [lim_add, if_neg (by omega), if_pos (by omega)]
  have E1 := hide E1
  have E2 : mulSp (top p TB) (top k 1) = (top (p + k) TB, 0) := by rw [lim_mul (by omega) (by omega), if_pos (by omega)]
  have E2 := hide E2
  have E3 : upSp (top k 1) (64 * p) = (top (p + k) 1, 0) := by rw [lim_shift (by omega), if_pos (by omega)]
  have E3 := hide E3
  have N1 : ([] : List Nat).length = 0 := rfl
  have N1 := hide N1
  have N2 : (top (p + k) TB : List Nat).length = p + 1 + k := by rw [top_len]; omega
  have N2 := hide N2
  have N3 : (top (p + k) 1 : List Nat).length = p + 1 + k := by rw [top_len]; omega
  have N3 := hide N3
  have hp1 : p ≤ 100 := by omega
  have hk1 : k ≤ 100 := by omega
  have j1 := cl_f 3 (show (1 : Int) ≤ (p : Int) + 1 by omega)
  have j2 := cg_f 3 (show (p : Int) + 1 ≤ 70 by omega)
  have j3 := cl_f 3 (show (0 : Int) ≤ (k : Int) by omega)
  have j4 := cg_f 3 (show (k : Int) ≤ 70 by omega)
  have j5 := cg_f 3 (show (p : Int) + 1 ≤ 64 by omega)
  have j7 := ce_t 3 (show (p : Int) + 1 ≤ 64 by omega)
  have j6 := cg_f 3 (show (k : Int) + 1 ≤ 64 by omega)
  have j8 := cl_f 3 (show (64 : Int) ≤ (p : Int) + 1 by omega)
  have j9 := ce_t 3 (show (p : Int) + 1 + (k : Int) ≤ 64 by omega)
  have hq : ((p : Int) + 1 == 64) = true := beq_iff_eq.2 (by omega)
  unfold limW at S1 S2 b
  go_enter Tryd.func7, Tryd.ntmps7
  go_wp2_with (first
    | (go_at_call 13; (with_reducible refine (add_top _ _ p _ _ S1 hp1 E1.out).mono ?_); rintro e w2 h; obtain ⟨A1, c1, rfl, s1, b0⟩ := h.getn rfl N1.out; have S1 := bl_keeps b0 _ _ S1; have S2 := bl_keeps b0 _ _ S2; have b := bl_trans b b0; clear h b0 s1)
    | (go_at_call 17; (with_reducible refine (mul_top _ _ _ _ p k w2 _ S1 S2 hp1 hk1 E2.out).mono ?_); rintro e w3 h; obtain ⟨A2, c2, rfl, s2, b0⟩ := h.getn rfl N2.out; have S2 := bl_keeps b0 _ _ S2; have b := bl_trans b b0; clear h b0 s2)
    | (go_at_call 30; (with_reducible refine (shift_top _ _ p k _ w3 _ S2 hp1 hk1 rfl E3.out).mono ?_); rintro e w4 h; obtain ⟨A3, c3, rfl, s3, b0⟩ := h.getn rfl N3.out; have b := bl_trans b b0; clear h b0 s3)
    | (go_at_call 12; (with_reducible refine (awake_any w4 (pow_below ht b)).mono ?_); rintro e w13 ⟨rfl, b0⟩; have b := bl_trans b b0; clear b0))
  go_ret
  exact ⟨rfl, b⟩

set_option maxRecDepth 100000 in
set_option maxHeartbeats 4000000 in
theorem limits_d4 (p k : Nat) (w : World) (hp : p < 70) (hk : k ≤ 70) (ht : Pow10 w) (c1 : 63 ≤ p) (c0 : p ≤ 63) (c2 : 0 < k) (c3 : k < 64) :
    Calls Tryd.prog 7 #[.int .i64 ((p : Int) + 1), .int .i64 (k : Int)] w fun e w' => e = .returned (.bool true) ∧ Below w.heap.size w w' := by
  have mk1 : ∀ W : World, (Instr.makeSlice 22 (.int .i64 ((p : Int) + 1)) (.int .i64 ((p : Int) + 1))).run Tryd.prog W = .ok (.slice (some ⟨W.heap.size, 0, none⟩) (p + 1) (p + 1)) (W.alloc (.cells (madeCells #[.int .u64 0] (p + 1)) 40)) :=
    fun W => run_make_u64 .i64 .i64 (p + 1) (p + 1) (by omega) (by omega) W
  have mk2 : ∀ W : World, (Instr.makeSlice 22 (.int .i64 ((k : Int) + 1)) (.int .i64 ((k : Int) + 1))).run Tryd.prog W = .ok (.slice (some ⟨W.heap.size, 0, none⟩) (k + 1) (k + 1)) (W.alloc (.cells (madeCells #[.int .u64 0] (k + 1)) 40)) :=
    fun W => run_make_u64 .i64 .i64 (k + 1) (k + 1) (by omega) (by omega) W
  have q1 : binOp .sub 3 (.int .i64 ((p : Int) + 1)) (.int .i64 1) = pure (.int .i64 (p : Int)) := i64_sub _ (p + 1) 1 p rfl (by omega)
  have hm1 := made_at p
  have hm2 := made_at k
  obtain ⟨S1, S2, b⟩ := limW_facts w p k
  have E1 : addSp (top p TB) (top p TB) = ([], 4) := by rw [lim_add, if_neg (by omega), if_pos (by omega)]
  have E1 := hide E1
  have E2 : mulSp (top p TB) (top k 1) = ([], 4) := by rw [lim_mul (by omega) (by omega), if_neg (by omega)]
  have E2 := hide E2
  have E3 : upSp (top k 1) (64 * p) = ([], 4) := by rw [lim_shift (by omega), if_neg (by omega)]
  have E3 := hide E3
  have N1 : ([] : List Nat).length = 0 := rfl
  have N1 := hide N1
  have N2 : ([] : List Nat).length = 0 := rfl
  have N2 := hide N2
  have N3 : ([] : List Nat).length = 0 := rfl
  have N3 := hide N3
  have hp1 : p ≤ 100 := by omega
  have hk1 : k ≤ 100 := by omega
  have j1 := cl_f 3 (show (1 : Int) ≤ (p : Int) + 1 by omega)
  have j2 := cg_f 3 (show (p : Int) + 1 ≤ 70 by omega)
  have j3 := cl_f 3 (show (0 : Int) ≤ (k : Int) by omega)
  have j4 := cg_f 3 (show (k : Int) ≤ 70 by omega)
  have j5 := cg_f 3 (show (p : Int) + 1 ≤ 64 by omega)
  have j7 := ce_t 3 (show (p : Int) + 1 ≤ 64 by omega)
  have j6 := cg_f 3 (show (k : Int) + 1 ≤ 64 by omega)
  have j8 := cl_f 3 (show (64 : Int) ≤ (p : Int) + 1 by omega)
  have j9 := ce_f 3 (show (64 : Int) < (p : Int) + 1 + (k : Int) by omega)
  have hq : ((p : Int) + 1 == 64) = true := beq_iff_eq.2 (by omega)
  unfold limW at S1 S2 b
  go_enter Tryd.func7, Tryd.ntmps7
  go_wp2_with (first
    | (go_at_call 13; (with_reducible refine (add_top _ _ p _ _ S1 hp1 E1.out).mono ?_); rintro e w2 h; obtain ⟨A1, c1, rfl, s1, b0⟩ := h.getn rfl N1.out; have S1 := bl_keeps b0 _ _ S1; have S2 := bl_keeps b0 _ _ S2; have b := bl_trans b b0; clear h b0 s1)
    | (go_at_call 17; (with_reducible refine (mul_top _ _ _ _ p k w2 _ S1 S2 hp1 hk1 E2.out).mono ?_); rintro e w3 h; obtain ⟨A2, c2, rfl, s2, b0⟩ := h.getn rfl N2.out; have S2 := bl_keeps b0 _ _ S2; have b := bl_trans b b0; clear h b0 s2)
    | (go_at_call 30; (with_reducible refine (shift_top _ _ p k _ w3 _ S2 hp1 hk1 rfl E3.out).mono ?_); rintro e w4 h; obtain ⟨A3, c3, rfl, s3, b0⟩ := h.getn rfl N3.out; have b := bl_trans b b0; clear h b0 s3)
    | (go_at_call 12; (with_reducible refine (awake_any w4 (pow_below ht b)).mono ?_); rintro e w13 ⟨rfl, b0⟩; have b := bl_trans b b0; clear b0))
  go_ret
  exact ⟨rfl, b⟩

set_option maxRecDepth 100000 in
set_option maxHeartbeats 4000000 in
theorem limits_c1 (p k : Nat) (w : World) (hp : p < 70) (hk : k ≤ 70) (ht : Pow10 w) (c1 : p < 63) (c2 : 64 ≤ k) :
    Calls Tryd.prog 7 #[.int .i64 ((p : Int) + 1), .int .i64 (k : Int)] w fun e w' => e = .returned (.bool true) ∧ Below w.heap.size w w' := by
  have mk1 : ∀ W : World, (Instr.makeSlice 22 (.int .i64 ((p : Int) + 1)) (.int .i64 ((p : Int) + 1))).run Tryd.prog W = .ok (.slice (some ⟨W.heap.size, 0, none⟩) (p + 1) (p + 1)) (W.alloc (.cells (madeCells #[.int .u64 0] (p + 1)) 40)) :=
    fun W => run_make_u64 .i64 .i64 (p + 1) (p + 1) (by omega) (by omega) W
  have mk2 : ∀ W : World, (Instr.makeSlice 22 (.int .i64 ((k : Int) + 1)) (.int .i64 ((k : Int) + 1))).run Tryd.prog W = .ok (.slice (some ⟨W.heap.size, 0, none⟩) (k + 1) (k + 1)) (W.alloc (.cells (madeCells #[.int .u64 0] (k + 1)) 40)) :=
    fun W => run_make_u64 .i64 .i64 (k + 1) (k + 1) (by omega) (by omega) W
  have q1 : binOp .sub 3 (.int .i64 ((p : Int) + 1)) (.int .i64 1) = pure (.int .i64 (p : Int)) := i64_sub _ (p + 1) 1 p rfl (by omega)
  have hm1 := made_at p
  have hm2 := made_at k
  obtain ⟨S1, S2, b⟩ := limW_facts w p k
  have E1 : addSp (top p TB) (top p TB) = (top (p + 1) 1, 0) := by rw [lim_add, if_pos (by omega)]
  have E1 := hide E1
  have E2 : mulSp (top p TB) (top k 1) = ([], 1) := lim_mul_bad (by omega)
  have E2 := hide E2
  have E3 : upSp (top k 1) (64 * p) = ([], 1) := upSp_no _ (top_bad (by omega))
  have E3 := hide E3
  have N1 : (top (p + 1) 1 : List Nat).length = p + 1 + 1 := by rw [top_len]
  have N1 := hide N1
  have N2 : ([] : List Nat).length = 0 := rfl
  have N2 := hide N2
  have N3 : ([] : List Nat).length = 0 := rfl
  have N3 := hide N3
  have hp1 : p ≤ 100 := by omega
  have hk1 : k ≤ 100 := by omega
  have j1 := cl_f 3 (show (1 : Int) ≤ (p : Int) + 1 by omega)
  have j2 := cg_f 3 (show (p : Int) + 1 ≤ 70 by omega)
  have j3 := cl_f 3 (show (0 : Int) ≤ (k : Int) by omega)
  have j4 := cg_f 3 (show (k : Int) ≤ 70 by omega)
  have j5 := cg_f 3 (show (p : Int) + 1 ≤ 64 by omega)
  have j7 := ce_t 3 (show (p : Int) + 1 ≤ 64 by omega)
  have j6 := cg_t 3 (show (64 : Int) < (k : Int) + 1 by omega)
  have j8 := cl_t 3 (show (p : Int) + 1 < 64 by omega)
  have j9 := ce_f 3 (show (64 : Int) < (p : Int) + 1 + (k : Int) by omega)
  unfold limW at S1 S2 b
  go_enter Tryd.func7, Tryd.ntmps7
  go_wp2_with (first
    | (go_at_call 13; (with_reducible refine (add_top _ _ p _ _ S1 hp1 E1.out).mono ?_); rintro e w2 h; obtain ⟨A1, c1, rfl, s1, b0⟩ := h.getn rfl N1.out; have S1 := bl_keeps b0 _ _ S1; have S2 := bl_keeps b0 _ _ S2; have b := bl_trans b b0; clear h b0 s1)
    | (go_at_call 17; (with_reducible refine (mul_top _ _ _ _ p k w2 _ S1 S2 hp1 hk1 E2.out).mono ?_); rintro e w3 h; obtain ⟨A2, c2, rfl, s2, b0⟩ := h.getn rfl N2.out; have S2 := bl_keeps b0 _ _ S2; have b := bl_trans b b0; clear h b0 s2)
    | (go_at_call 30; (with_reducible refine (shift_top _ _ p k _ w3 _ S2 hp1 hk1 rfl E3.out).mono ?_); rintro e w4 h; obtain ⟨A3, c3, rfl, s3, b0⟩ := h.getn rfl N3.out; have b := bl_trans b b0; clear h b0 s3)
    | (go_at_call 12; (with_reducible refine (awake_any w4 (pow_below ht b)).mono ?_); rintro e w13 ⟨rfl, b0⟩; have b := bl_trans b b0; clear b0))
  go_ret
  exact ⟨rfl, b⟩

set_option maxRecDepth 100000 in
set_option maxHeartbeats 4000000 in
theorem limits_c2 (p k : Nat) (w : World) (hp : p < 70) (hk : k ≤ 70) (ht : Pow10 w) (c1 : 63 ≤ p) (c0 : p ≤ 63) (c2 : 64 ≤ k) :
    Calls Tryd.prog 7 #[.int .i64 ((p : Int) + 1), .int .i64 (k : Int)] w fun e w' => e = .returned (.bool true) ∧ Below w.heap.size w w' := by
  have mk1 : ∀ W : World, (Instr.makeSlice 22 (.int .i64 ((p : Int) + 1)) (.int .i64 ((p : Int) + 1))).run Tryd.prog W = .ok (.slice (some ⟨W.heap.size, 0, none⟩) (p + 1) (p + 1)) (W.alloc (.cells (madeCells #[.int .u64 0] (p + 1)) 40)) :=
    fun W => run_make_u64 .i64 .i64 (p + 1) (p + 1) (by omega) (by omega) W
  have mk2 : ∀ W : World, (Instr.makeSlice 22 (.int .i64 ((k : Int) + 1)) (.int .i64 ((k : Int) + 1))).run Tryd.prog W = .ok (.slice (some ⟨W.heap.size, 0, none⟩) (k + 1) (k + 1)) (W.alloc (.cells (madeCells #[.int .u64 0] (k + 1)) 40)) :=
    fun W => run_make_u64 .i64 .i64 (k + 1) (k + 1) (by omega) (by omega) W
  have q1 : binOp .sub 3 (.int .i64 ((p : Int) + 1)) (.int .i64 1) = pure (.int .i64 (p : Int)) := i64_sub _ (p + 1) 1 p rfl (by omega)
  have hm1 := made_at p
  have hm2 := made_at k
  obtain ⟨S1, S2, b⟩ := limW_facts w p k
  have E1 : addSp (top p TB) (top p TB) = ([], 4) := by rw [lim_add, if_neg (by omega), if_pos (by omega)]
  have E1 := hide E1
  have E2 : mulSp (top p TB) (top k 1) = ([], 1) := lim_mul_bad (by omega)
  have E2 := hide E2
  have E3 : upSp (top k 1) (64 * p) = ([], 1) := upSp_no _ (top_bad (by omega))
  have E3 := hide E3
  have N1 : ([] : List Nat).length = 0 := rfl
  have N1 := hide N1
  have N2 : ([] : List Nat).length = 0 := rfl
  have N2 := hide N2
  have N3 : ([] : List Nat).length = 0 := rfl
  have N3 := hide N3
  have hp1 : p ≤ 100 := by omega
  have hk1 : k ≤ 100 := by omega
  have j1 := cl_f 3 (show (1 : Int) ≤ (p : Int) + 1 by omega)
  have j2 := cg_f 3 (show (p : Int) + 1 ≤ 70 by omega)
  have j3 := cl_f 3 (show (0 : Int) ≤ (k : Int) by omega)
  have j4 := cg_f 3 (show (k : Int) ≤ 70 by omega)
  have j5 := cg_f 3 (show (p : Int) + 1 ≤ 64 by omega)
  have j7 := ce_t 3 (show (p : Int) + 1 ≤ 64 by omega)
  have j6 := cg_t 3 (show (64 : Int) < (k : Int) + 1 by omega)
  have j8 := cl_f 3 (show (64 : Int) ≤ (p : Int) + 1 by omega)
  have j9 := ce_f 3 (show (64 : Int) < (p : Int) + 1 + (k : Int) by omega)
  unfold limW at S1 S2 b
  go_enter Tryd.func7, Tryd.ntmps7
  go_wp2_with (first
    | (go_at_call 13; (with_reducible refine (add_top _ _ p _ _ S1 hp1 E1.out).mono ?_); rintro e w2 h; obtain ⟨A1, c1, rfl, s1, b0⟩ := h.getn rfl N1.out; have S1 := bl_keeps b0 _ _ S1; have S2 := bl_keeps b0 _ _ S2; have b := bl_trans b b0; clear h b0 s1)
    | (go_at_call 17; (with_reducible refine (mul_top _ _ _ _ p k w2 _ S1 S2 hp1 hk1 E2.out).mono ?_); rintro e w3 h; obtain ⟨A2, c2, rfl, s2, b0⟩ := h.getn rfl N2.out; have S2 := bl_keeps b0 _ _ S2; have b := bl_trans b b0; clear h b0 s2)
    | (go_at_call 30; (with_reducible refine (shift_top _ _ p k _ w3 _ S2 hp1 hk1 rfl E3.out).mono ?_); rintro e w4 h; obtain ⟨A3, c3, rfl, s3, b0⟩ := h.getn rfl N3.out; have b := bl_trans b b0; clear h b0 s3)
    | (go_at_call 12; (with_reducible refine (awake_any w4 (pow_below ht b)).mono ?_); rintro e w13 ⟨rfl, b0⟩; have b := bl_trans b b0; clear b0))
  go_ret
  exact ⟨rfl, b⟩

set_option maxRecDepth 100000 in
set_option maxHeartbeats 4000000 in
theorem limits_b1 (p k : Nat) (w : World) (hp : p < 70) (hk : k ≤ 70) (ht : Pow10 w) (c1 : 64 ≤ p) (c2 : k < 64) :
    Calls Tryd.prog 7 #[.int .i64 ((p : Int) + 1), .int .i64 (k : Int)] w fun e w' => e = .returned (.bool true) ∧ Below w.heap.size w w' := by
  have mk1 : ∀ W : World, (Instr.makeSlice 22 (.int .i64 ((p : Int) + 1)) (.int .i64 ((p : Int) + 1))).run Tryd.prog W = .ok (.slice (some ⟨W.heap.size, 0, none⟩) (p + 1) (p + 1)) (W.alloc (.cells (madeCells #[.int .u64 0] (p + 1)) 40)) :=
    fun W => run_make_u64 .i64 .i64 (p + 1) (p + 1) (by omega) (by omega) W
  have mk2 : ∀ W : World, (Instr.makeSlice 22 (.int .i64 ((k : Int) + 1)) (.int .i64 ((k : Int) + 1))).run Tryd.prog W = .ok (.slice (some ⟨W.heap.size, 0, none⟩) (k + 1) (k + 1)) (W.alloc (.cells (madeCells #[.int .u64 0] (k + 1)) 40)) :=
    fun W => run_make_u64 .i64 .i64 (k + 1) (k + 1) (by omega) (by omega) W
  have q1 : binOp .sub 3 (.int .i64 ((p : Int) + 1)) (.int .i64 1) = pure (.int .i64 (p : Int)) := i64_sub _ (p + 1) 1 p rfl (by omega)
  have hm1 := made_at p
  have hm2 := made_at k
  obtain ⟨S1, S2, b⟩ := limW_facts w p k
  have E1 : addSp (top p TB) (top p TB) = ([], 1) := by rw [lim_add, if_neg (by omega), if_neg (by omega)]
  have E1 := hide E1
  have E2 : mulSp (top p TB) (top k 1) = ([], 1) := lim_mul_bad (by omega)
  have E2 := hide E2
  have E3 : upSp (top k 1) (64 * p) = ([], 4) := by rw [lim_shift (by omega), if_neg (by omega)]
  have E3 := hide E3
  have N1 : ([] : List Nat).length = 0 := rfl
  have N1 := hide N1
  have N2 : ([] : List Nat).length = 0 := rfl
  have N2 := hide N2
  have N3 : ([] : List Nat).length = 0 := rfl
  have N3 := hide N3
  have hp1 : p ≤ 100 := by omega
  have hk1 : k ≤ 100 := by omega
  have j1 := cl_f 3 (show (1 : Int) ≤ (p : Int) + 1 by omega)
  have j2 := cg_f 3 (show (p : Int) + 1 ≤ 70 by omega)
  have j3 := cl_f 3 (show (0 : Int) ≤ (k : Int) by omega)
  have j4 := cg_f 3 (show (k : Int) ≤ 70 by omega)
  have j5 := cg_t 3 (show (64 : Int) < (p : Int) + 1 by omega)
  have j7 := ce_f 3 (show (64 : Int) < (p : Int) + 1 by omega)
  have j6 := cg_f 3 (show (k : Int) + 1 ≤ 64 by omega)
  have j8 := cl_f 3 (show (64 : Int) ≤ (p : Int) + 1 by omega)
  have j9 := ce_f 3 (show (64 : Int) < (p : Int) + 1 + (k : Int) by omega)
  unfold limW at S1 S2 b
  go_enter Tryd.func7, Tryd.ntmps7
  go_wp2_with (first
    | (go_at_call 13; (with_reducible refine (add_top _ _ p _ _ S1 hp1 E1.out).mono ?_); rintro e w2 h; obtain ⟨A1, c1, rfl, s1, b0⟩ := h.getn rfl N1.out; have S1 := bl_keeps b0 _ _ S1; have S2 := bl_keeps b0 _ _ S2; have b := bl_trans b b0; clear h b0 s1)
    | (go_at_call 17; (with_reducible refine (mul_top _ _ _ _ p k w2 _ S1 S2 hp1 hk1 E2.out).mono ?_); rintro e w3 h; obtain ⟨A2, c2, rfl, s2, b0⟩ := h.getn rfl N2.out; have S2 := bl_keeps b0 _ _ S2; have b := bl_trans b b0; clear h b0 s2)
    | (go_at_call 30; (with_reducible refine (shift_top _ _ p k _ w3 _ S2 hp1 hk1 rfl E3.out).mono ?_); rintro e w4 h; obtain ⟨A3, c3, rfl, s3, b0⟩ := h.getn rfl N3.out; have b := bl_trans b b0; clear h b0 s3)
    | (go_at_call 12; (with_reducible refine (awake_any w4 (pow_below ht b)).mono ?_); rintro e w13 ⟨rfl, b0⟩; have b := bl_trans b b0; clear b0))
  go_ret
  exact ⟨rfl, b⟩

set_option maxRecDepth 100000 in
set_option maxHeartbeats 4000000 in
theorem limits_b2 (p k : Nat) (w : World) (hp : p < 70) (hk : k ≤ 70) (ht : Pow10 w) (c1 : 64 ≤ p) (c2 : 64 ≤ k) :
    Calls Tryd.prog 7 #[.int .i64 ((p : Int) + 1), .int .i64 (k : Int)] w fun e w' => e = .returned (.bool true) ∧ Below w.heap.size w w' := by
  have mk1 : ∀ W : World, (Instr.makeSlice 22 (.int .i64 ((p : Int) + 1)) (.int .i64 ((p : Int) + 1))).run Tryd.prog W = .ok (.slice (some ⟨W.heap.size, 0, none⟩) (p + 1) (p + 1)) (W.alloc (.cells (madeCells #[.int .u64 0] (p + 1)) 40)) :=
    fun W => run_make_u64 .i64 .i64 (p + 1) (p + 1) (by omega) (by omega) W
  have mk2 : ∀ W : World, (Instr.makeSlice 22 (.int .i64 ((k : Int) + 1)) (.int .i64 ((k : Int) + 1))).run Tryd.prog W = .ok (.slice (some ⟨W.heap.size, 0, none⟩) (k + 1) (k + 1)) (W.alloc (.cells (madeCells #[.int .u64 0] (k + 1)) 40)) :=
    fun W => run_make_u64 .i64 .i64 (k + 1) (k + 1) (by omega) (by omega) W
  have q1 : binOp .sub 3 (.int .i64 ((p : Int) + 1)) (.int .i64 1) = pure (.int .i64 (p : Int)) := i64_sub _ (p + 1) 1 p rfl (by omega)
  have hm1 := made_at p
  have hm2 := made_at k
  obtain ⟨S1, S2, b⟩ := limW_facts w p k
  have E1 : addSp (top p TB) (top p TB) = ([], 1) := by rw [lim_add, if_neg (by omega), if_neg (by omega)]
  have E1 := hide E1
  have E2 : mulSp (top p TB) (top k 1) = ([], 1) := lim_mul_bad (by omega)
  have E2 := hide E2
  have E3 : upSp (top k 1) (64 * p) = ([], 1) := upSp_no _ (top_bad (by omega))
  have E3 := hide E3
  have N1 : ([] : List Nat).length = 0 := rfl
  have N1 := hide N1
  have N2 : ([] : List Nat).length = 0 := rfl
  have N2 := hide N2
  have N3 : ([] : List Nat).length = 0 := rfl
  have N3 := hide N3
  have hp1 : p ≤ 100 := by omega
  have hk1 : k ≤ 100 := by omega
  have j1 := cl_f 3 (show (1 : Int) ≤ (p : Int) + 1 by omega)
  have j2 := cg_f 3 (show (p : Int) + 1 ≤ 70 by omega)
  have j3 := cl_f 3 (show (0 : Int) ≤ (k : Int) by omega)
  have j4 := cg_f 3 (show (k : Int) ≤ 70 by omega)
  have j5 := cg_t 3 (show (64 : Int) < (p : Int) + 1 by omega)
  have j7 := ce_f 3 (show (64 : Int) < (p : Int) + 1 by omega)
  have j6 := cg_t 3 (show (64 : Int) < (k : Int) + 1 by omega)
  have j8 := cl_f 3 (show (64 : Int) ≤ (p : Int) + 1 by omega)
  have j9 := ce_f 3 (show (64 : Int) < (p : Int) + 1 + (k : Int) by omega)
  unfold limW at S1 S2 b
  go_enter Tryd.func7, Tryd.ntmps7
  go_wp2_with (first
    | (go_at_call 13; (with_reducible refine (add_top _ _ p _ _ S1 hp1 E1.out).mono ?_); rintro e w2 h; obtain ⟨A1, c1, rfl, s1, b0⟩ := h.getn rfl N1.out; have S1 := bl_keeps b0 _ _ S1; have S2 := bl_keeps b0 _ _ S2; have b := bl_trans b b0; clear h b0 s1)
    | (go_at_call 17; (with_reducible refine (mul_top _ _ _ _ p k w2 _ S1 S2 hp1 hk1 E2.out).mono ?_); rintro e w3 h; obtain ⟨A2, c2, rfl, s2, b0⟩ := h.getn rfl N2.out; have S2 := bl_keeps b0 _ _ S2; have b := bl_trans b b0; clear h b0 s2)
    | (go_at_call 30; (with_reducible refine (shift_top _ _ p k _ w3 _ S2 hp1 hk1 rfl E3.out).mono ?_); rintro e w4 h; obtain ⟨A3, c3, rfl, s3, b0⟩ := h.getn rfl N3.out; have b := bl_trans b b0; clear h b0 s3)
    | (go_at_call 12; (with_reducible refine (awake_any w4 (pow_below ht b)).mono ?_); rintro e w13 ⟨rfl, b0⟩; have b := bl_trans b b0; clear b0))
  go_ret
  exact ⟨rfl, b⟩

set_option maxRecDepth 100000 in
set_option maxHeartbeats 4000000 in
theorem limits_law (n k : Int) (w : World) (ht : Pow10 w) :
    Calls Tryd.prog 7 #[.int .i64 n, .int .i64 k] w fun e w' => e = .returned (.bool true) ∧ Below w.heap.size w w' := by
  have W0 := hide (awake_any w ht)
  by_cases h1 : n < 1
  · go_enter Tryd.func7, Tryd.ntmps7
    go_wp2_with (go_at_call 12; (with_reducible refine (W0.out).mono ?_); rintro e w13 ⟨rfl, b⟩)
    go_ret
    exact ⟨rfl, b⟩
  · have h1' : 1 ≤ n := by omega
    clear h1
    by_cases h2 : 70 < n
    · go_enter Tryd.func7, Tryd.ntmps7
      go_wp2_with (go_at_call 12; (with_reducible refine (W0.out).mono ?_); rintro e w13 ⟨rfl, b⟩)
      go_ret
      exact ⟨rfl, b⟩
    · have h2' : n ≤ 70 := by omega
      clear h2
      by_cases h3 : k < 0
      · go_enter Tryd.func7, Tryd.ntmps7
        go_wp2_with (go_at_call 12; (with_reducible refine (W0.out).mono ?_); rintro e w13 ⟨rfl, b⟩)
        go_ret
        exact ⟨rfl, b⟩
      · have h3' : 0 ≤ k := by omega
        clear h3
        by_cases h4 : 70 < k
        · go_enter Tryd.func7, Tryd.ntmps7
          go_wp2_with (go_at_call 12; (with_reducible refine (W0.out).mono ?_); rintro e w13 ⟨rfl, b⟩)
          go_ret
          exact ⟨rfl, b⟩
        · obtain ⟨p, rfl⟩ : ∃ p : Nat, n = (p : Int) + 1 := ⟨(n - 1).toNat, by omega⟩
          obtain ⟨q, rfl⟩ : ∃ q : Nat, k = (q : Int) := ⟨k.toNat, by omega⟩
          clear W0
          have hp : p < 70 := by omega
          have hk : q ≤ 70 := by omega
          clear h1' h2' h3' h4
          by_cases c1 : p < 63
          · by_cases c2 : p + q < 64
            · exact limits_d1 p q w hp hk ht c1 c2
            · by_cases c3 : q < 64
              · exact limits_d2 p q w hp hk ht c1 c3 (by omega)
              · exact limits_c1 p q w hp hk ht c1 (by omega)
          · by_cases c2 : p = 63
            · by_cases c3 : q = 0
              · exact limits_d3 p q w hp hk ht (by omega) (by omega) (by omega)
              · by_cases c4 : q < 64
                · exact limits_d4 p q w hp hk ht (by omega) (by omega) (by omega) c4
                · exact limits_c2 p q w hp hk ht (by omega) (by omega) (by omega)
            · by_cases c3 : q < 64
              · exact limits_b1 p q w hp hk ht (by omega) c3
              · exact limits_b2 p q w hp hk ht (by omega) (by omega)

end Nt

end Go.Proofs.YthdjjcooekkncaaDoor
