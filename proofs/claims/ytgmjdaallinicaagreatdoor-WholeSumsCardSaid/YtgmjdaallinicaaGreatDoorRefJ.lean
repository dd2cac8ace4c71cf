
/-
  The reference's whole numbers: addInt, fitsInt, AddInt, SubInt, MulInt, NegInt, ValueInt.
-/
import Derived.Test.YtgmjdaallinicaaGreatDoorRatS

import Derived.Test.YtgmjdaallinicaaGreatDoorRefAdd

import Derived.Test.YtgmjdaallinicaaGreatDoorRefMul

import Derived.Deep.RegionHeld3

namespace Go.Proofs.YtgmjdaallinicaaGreatDoor

open Go.RowKit

namespace Nt

theorem sgn_pair {s : Bool} {n : Nat} {z : Int} (h : z = if s then -(n : Int) else n) : (isg z, idg z) = (s && decide (0 < (digs n).length), digs n) := by rw [h, isg_sgn, idg_sgn]
theorem isg_t {x : Int} (h : isg x = true) : x < 0 := by unfold isg at h; simpa using h
theorem isg_f {x : Int} (h : isg x = false) : 0 ≤ x := by unfold isg at h; simpa using h
theorem val_id (x : Int) : val (idg x) = x.natAbs := val_digs _
theorem add_lenI {x y : Int} {k : Nat} (hx : (idg x).length ≤ k) (hy : (idg y).length ≤ k) : (idg (x + y)).length ≤ k + 1 := by
  have h1 := length_digs_le.1 hx
  have h2 := length_digs_le.1 hy
  have h3 : LB ^ k + LB ^ k ≤ LB ^ (k + 1) := by
    rw [Nat.pow_succ, ← Nat.mul_two]
    exact Nat.mul_le_mul_left _ LB_two
  exact length_digs_le.2 (by omega)

set_option maxRecDepth 100000 in
set_option maxHeartbeats 4000000 in
theorem raddS_num (A B : Option Addr) (n m c d : Nat) (x y : Int) (w : World) (hn : (idg x).length = n) (hm : (idg y).length = m) (sx : Sl w A (idg x)) (sy : Sl w B (idg y)) (hl : (idg x).length ≤ 1000) (hl' : (idg y).length ≤ 1000) :
    Calls Tryz.prog 64 #[.agg #[.bool (isg x), .slice A n c], .agg #[.bool (isg y), .slice B m d]] w (IOne w (isg (x + y), idg (x + y))) := by
  subst hn hm
  have n1 := hide (show w.heap.size + 1 ≠ w.heap.size + 1 + 1 by omega)
  have n2 := hide (show w.heap.size ≠ w.heap.size + 1 + 1 by omega)
  have e1 : ∀ W, (binOp .eql 4 (.bool false) (.bool false)).run Tryz.prog W = .ok (.bool true) W := fun _ => by kernel_rfl
  have e2 : ∀ W, (binOp .eql 4 (.bool true) (.bool false)).run Tryz.prog W = .ok (.bool false) W := fun _ => by kernel_rfl
  have e3 : ∀ W, (binOp .eql 4 (.bool false) (.bool true)).run Tryz.prog W = .ok (.bool false) W := fun _ => by kernel_rfl
  have e4 : ∀ W, (binOp .eql 4 (.bool true) (.bool true)).run Tryz.prog W = .ok (.bool true) W := fun _ => by kernel_rfl
  cases hs : isg x with
  | false =>
    cases ht : isg y with
    | false =>
      have hx := isg_f hs
      have hy := isg_f ht
      have C := hide (fun W (h : Below w.heap.size w W) => radd_any A B c d (idg x) (idg y) W (bl_keeps h _ _ sx) (bl_keeps h _ _ sy) (limbs_idg x) (limbs_idg y) (by omega) (by omega) _ rfl)
      have E := hide (sgn_pair (s := false) (n := val (idg x) + val (idg y)) (z := x + y) (by rw [val_id, val_id]; simp only [Bool.false_eq_true, if_false]; omega))
      have L := hide (show (digs (val (idg x) + val (idg y))).length ≤ 9223372036854775807 from Nat.le_trans (add_len (limbs_idg x) (limbs_idg y) hl hl') (by decide))
      have X := hide (Bx3.start false A (idg x).length c false B (idg y).length d w)
      have b0 : Below w.heap.size w (((w.alloc (.cells #[.bool false, .slice A (idg x).length c] 41)).alloc (.cells #[.bool false, .slice B (idg y).length d] 41)).alloc (.cells #[.bool false, .slice none 0 0] 41)) := bl_al (bl_al (bl_al (.refl _ _) _) _) _
      clear sx sy hx hy hs ht
      obtain ⟨x1, x2, x3, x4, x5, x6, _⟩ := X.out
      have bb := b0
      go_enter Tryz.func64, Tryz.ntmps64
      go_wp2
      go_region_held3 (fun W => W.cell? ⟨w.heap.size, 0, none⟩ = some (.bool false) ∧ W.cell? ⟨w.heap.size, 1, none⟩ = some (.slice A (idg x).length c) ∧ W.cell? ⟨w.heap.size + 1, 0, none⟩ = some (.bool false) ∧ W.cell? ⟨w.heap.size + 1, 1, none⟩ = some (.slice B (idg y).length d))
        (first | exact ⟨x1, x2, x3, x4⟩ | exact S_store12 (by assumption) n2.out n2.out n1.out n1.out | exact S_next12 hb4 (by assumption) | exact S_next12 hb (by assumption) | go_keep)
        (first
          | (go_at_call 90; (with_reducible refine (C.out _ (by first | exact bb.drew | exact bb)).mono ?_); rintro e w2 ⟨A3, c3, rfl, r3, hb⟩; have yb := hide ((X.out.drew).next hb); have s3 := r3.sl; have b2 := bl_trans (by first | exact bb.drew | exact bb) hb)
          | (go_at_call 65; (with_reducible refine (rwhole_any _ A3 _ c3 _ L.out).mono ?_); rintro e w4 ⟨rfl, hb4⟩; obtain ⟨y1, y2, y3, y4, y5, y6, y7, y8, _⟩ := (yb.out).next hb4; have s4 := bl_keeps hb4 _ _ s3; have b4 := bl_trans b2 hb4))
      go_wp2
      refine bodyPost_ret (v := .agg #[.bool (false && decide (0 < (digs (val (idg x) + val (idg y))).length)), .slice A3 (digs (val (idg x) + val (idg y))).length c3]) (by simp [results, Tryz.results64, go_sem, y5, y6]) rfl (IOne.mk E.out rfl (s4.store2 y5 y6 _ _) (Below.store2 b4 (by omega) _ _))
    | true =>
      have hx := isg_f hs
      have hy := isg_t ht
      have X := hide (Bx3.start false A (idg x).length c true B (idg y).length d w)
      have b0 : Below w.heap.size w (((w.alloc (.cells #[.bool false, .slice A (idg x).length c] 41)).alloc (.cells #[.bool true, .slice B (idg y).length d] 41)).alloc (.cells #[.bool false, .slice none 0 0] 41)) := bl_al (bl_al (bl_al (.refl _ _) _) _) _
      have M := hide (fun W (h : Below w.heap.size w W) => rcmp_any A B c d (idg x) (idg y) W (bl_keeps h _ _ sx) (bl_keeps h _ _ sy) (limbs_idg x) (limbs_idg y) (norm_digs _) (norm_digs _) (by omega) (by omega))
      by_cases hc : val (idg y) ≤ val (idg x)
      · have C := hide (fun W (h : Below w.heap.size w W) => rsub_any A B c d (idg x) (idg y) W (bl_keeps h _ _ sx) (bl_keeps h _ _ sy) (limbs_idg x) (limbs_idg y) (by omega) (len_le_of_val (limbs_idg x) (norm_digs _) hc) hc)
        have E := hide (sgn_pair (s := false) (n := val (idg x) - val (idg y)) (z := x + y) (by rw [val_id, val_id] at *; simp only [Bool.false_eq_true, if_false]; omega))
        have L := hide (show (digs (val (idg x) - val (idg y))).length ≤ 9223372036854775807 from Nat.le_trans (sub_len (limbs_idg x)) (by omega))
        have CZ : 0 ≤ cmpN (val (idg x)) (val (idg y)) := cmpN_nonneg.2 hc
        generalize cmpN (val (idg x)) (val (idg y)) = z at *
        clear sx sy hx hy hs ht hc
        obtain ⟨x1, x2, x3, x4, x5, x6, _⟩ := X.out
        go_enter Tryz.func64, Tryz.ntmps64
        go_wp2_with (go_at_call 82; (with_reducible refine (M.out _ b0).mono ?_); rintro e w1 ⟨rfl, q0, h0⟩; have g := bl_q0 h0; have X := hide (X.out.next g); obtain ⟨x1, x2, x3, x4, x5, x6, _⟩ := X.out; have bb := bl_trans b0 g; clear h0 g)
        go_region_held3 (fun W => W.cell? ⟨w.heap.size, 0, none⟩ = some (.bool false) ∧ W.cell? ⟨w.heap.size, 1, none⟩ = some (.slice A (idg x).length c) ∧ W.cell? ⟨w.heap.size + 1, 0, none⟩ = some (.bool true) ∧ W.cell? ⟨w.heap.size + 1, 1, none⟩ = some (.slice B (idg y).length d))
          (first | exact ⟨x1, x2, x3, x4⟩ | exact S_store12 (by assumption) n2.out n2.out n1.out n1.out | exact S_next12 hb4 (by assumption) | exact S_next12 hb (by assumption) | go_keep)
          (first
            | (go_at_call 83; (with_reducible refine (C.out _ (by first | exact bb.drew | exact bb)).mono ?_); rintro e w2 ⟨A3, c3, rfl, r3, hb⟩; have yb := hide ((X.out.drew).next hb); have s3 := r3.sl; have b2 := bl_trans (by first | exact bb.drew | exact bb) hb)
            | (go_at_call 65; (with_reducible refine (rwhole_any _ A3 _ c3 _ L.out).mono ?_); rintro e w4 ⟨rfl, hb4⟩; obtain ⟨y1, y2, y3, y4, y5, y6, y7, y8, _⟩ := (yb.out).next hb4; have s4 := bl_keeps hb4 _ _ s3; have b4 := bl_trans b2 hb4))
        go_wp2
        refine bodyPost_ret (v := .agg #[.bool (false && decide (0 < (digs (val (idg x) - val (idg y))).length)), .slice A3 (digs (val (idg x) - val (idg y))).length c3]) (by simp [results, Tryz.results64, go_sem, y5, y6]) rfl (IOne.mk E.out rfl (s4.store2 y5 y6 _ _) (Below.store2 b4 (by omega) _ _))
      · have C := hide (fun W (h : Below w.heap.size w W) => rsub_any B A d c (idg y) (idg x) W (bl_keeps h _ _ sy) (bl_keeps h _ _ sx) (limbs_idg y) (limbs_idg x) (by omega) (len_le_of_val (limbs_idg y) (norm_digs _) (by omega)) (by omega))
        have E := hide (sgn_pair (s := true) (n := val (idg y) - val (idg x)) (z := x + y) (by rw [val_id, val_id] at *; simp only [if_true]; omega))
        have L := hide (show (digs (val (idg y) - val (idg x))).length ≤ 9223372036854775807 from Nat.le_trans (sub_len (limbs_idg y)) (by omega))
        rw [cmpN_lt (show val (idg x) < val (idg y) by omega)] at M
        clear sx sy hx hy hs ht hc
        obtain ⟨x1, x2, x3, x4, x5, x6, _⟩ := X.out
        go_enter Tryz.func64, Tryz.ntmps64
        go_wp2_with (go_at_call 82; (with_reducible refine (M.out _ b0).mono ?_); rintro e w1 ⟨rfl, q0, h0⟩; have g := bl_q0 h0; have X := hide (X.out.next g); obtain ⟨x1, x2, x3, x4, x5, x6, _⟩ := X.out; have bb := bl_trans b0 g; clear h0 g)
        go_region_held3 (fun W => W.cell? ⟨w.heap.size, 0, none⟩ = some (.bool false) ∧ W.cell? ⟨w.heap.size, 1, none⟩ = some (.slice A (idg x).length c) ∧ W.cell? ⟨w.heap.size + 1, 0, none⟩ = some (.bool true) ∧ W.cell? ⟨w.heap.size + 1, 1, none⟩ = some (.slice B (idg y).length d))
          (first | exact ⟨x1, x2, x3, x4⟩ | exact S_store12 (by assumption) n2.out n2.out n1.out n1.out | exact S_next12 hb4 (by assumption) | exact S_next12 hb (by assumption) | go_keep)
          (first
            | (go_at_call 83; (with_reducible refine (C.out _ (by first | exact bb.drew | exact bb)).mono ?_); rintro e w2 ⟨A3, c3, rfl, r3, hb⟩; have yb := hide ((X.out.drew).next hb); have s3 := r3.sl; have b2 := bl_trans (by first | exact bb.drew | exact bb) hb)
            | (go_at_call 65; (with_reducible refine (rwhole_any _ A3 _ c3 _ L.out).mono ?_); rintro e w4 ⟨rfl, hb4⟩; obtain ⟨y1, y2, y3, y4, y5, y6, y7, y8, _⟩ := (yb.out).next hb4; have s4 := bl_keeps hb4 _ _ s3; have b4 := bl_trans b2 hb4))
        go_wp2
        refine bodyPost_ret (v := .agg #[.bool (true && decide (0 < (digs (val (idg y) - val (idg x))).length)), .slice A3 (digs (val (idg y) - val (idg x))).length c3]) (by simp [results, Tryz.results64, go_sem, y5, y6]) rfl (IOne.mk E.out rfl (s4.store2 y5 y6 _ _) (Below.store2 b4 (by omega) _ _))
  | true =>
    cases ht : isg y with
    | false =>
      have hx := isg_t hs
      have hy := isg_f ht
      have X := hide (Bx3.start true A (idg x).length c false B (idg y).length d w)
      have b0 : Below w.heap.size w (((w.alloc (.cells #[.bool true, .slice A (idg x).length c] 41)).alloc (.cells #[.bool false, .slice B (idg y).length d] 41)).alloc (.cells #[.bool false, .slice none 0 0] 41)) := bl_al (bl_al (bl_al (.refl _ _) _) _) _
      have M := hide (fun W (h : Below w.heap.size w W) => rcmp_any A B c d (idg x) (idg y) W (bl_keeps h _ _ sx) (bl_keeps h _ _ sy) (limbs_idg x) (limbs_idg y) (norm_digs _) (norm_digs _) (by omega) (by omega))
      by_cases hc : val (idg y) ≤ val (idg x)
      · have C := hide (fun W (h : Below w.heap.size w W) => rsub_any A B c d (idg x) (idg y) W (bl_keeps h _ _ sx) (bl_keeps h _ _ sy) (limbs_idg x) (limbs_idg y) (by omega) (len_le_of_val (limbs_idg x) (norm_digs _) hc) hc)
        have E := hide (sgn_pair (s := true) (n := val (idg x) - val (idg y)) (z := x + y) (by rw [val_id, val_id] at *; simp only [if_true]; omega))
        have L := hide (show (digs (val (idg x) - val (idg y))).length ≤ 9223372036854775807 from Nat.le_trans (sub_len (limbs_idg x)) (by omega))
        have CZ : 0 ≤ cmpN (val (idg x)) (val (idg y)) := cmpN_nonneg.2 hc
        generalize cmpN (val (idg x)) (val (idg y)) = z at *
        clear sx sy hx hy hs ht hc
        obtain ⟨x1, x2, x3, x4, x5, x6, _⟩ := X.out
        go_enter Tryz.func64, Tryz.ntmps64
        go_wp2_with (go_at_call 82; (with_reducible refine (M.out _ b0).mono ?_); rintro e w1 ⟨rfl, q0, h0⟩; have g := bl_q0 h0; have X := hide (X.out.next g); obtain ⟨x1, x2, x3, x4, x5, x6, _⟩ := X.out; have bb := bl_trans b0 g; clear h0 g)
        go_region_held3 (fun W => W.cell? ⟨w.heap.size, 0, none⟩ = some (.bool true) ∧ W.cell? ⟨w.heap.size, 1, none⟩ = some (.slice A (idg x).length c) ∧ W.cell? ⟨w.heap.size + 1, 0, none⟩ = some (.bool false) ∧ W.cell? ⟨w.heap.size + 1, 1, none⟩ = some (.slice B (idg y).length d))
          (first | exact ⟨x1, x2, x3, x4⟩ | exact S_store12 (by assumption) n2.out n2.out n1.out n1.out | exact S_next12 hb4 (by assumption) | exact S_next12 hb (by assumption) | go_keep)
          (first
            | (go_at_call 83; (with_reducible refine (C.out _ (by first | exact bb.drew | exact bb)).mono ?_); rintro e w2 ⟨A3, c3, rfl, r3, hb⟩; have yb := hide ((X.out.drew).next hb); have s3 := r3.sl; have b2 := bl_trans (by first | exact bb.drew | exact bb) hb)
            | (go_at_call 65; (with_reducible refine (rwhole_any _ A3 _ c3 _ L.out).mono ?_); rintro e w4 ⟨rfl, hb4⟩; obtain ⟨y1, y2, y3, y4, y5, y6, y7, y8, _⟩ := (yb.out).next hb4; have s4 := bl_keeps hb4 _ _ s3; have b4 := bl_trans b2 hb4))
        go_wp2
        refine bodyPost_ret (v := .agg #[.bool (true && decide (0 < (digs (val (idg x) - val (idg y))).length)), .slice A3 (digs (val (idg x) - val (idg y))).length c3]) (by simp [results, Tryz.results64, go_sem, y5, y6]) rfl (IOne.mk E.out rfl (s4.store2 y5 y6 _ _) (Below.store2 b4 (by omega) _ _))
      · have C := hide (fun W (h : Below w.heap.size w W) => rsub_any B A d c (idg y) (idg x) W (bl_keeps h _ _ sy) (bl_keeps h _ _ sx) (limbs_idg y) (limbs_idg x) (by omega) (len_le_of_val (limbs_idg y) (norm_digs _) (by omega)) (by omega))
        have E := hide (sgn_pair (s := false) (n := val (idg y) - val (idg x)) (z := x + y) (by rw [val_id, val_id] at *; simp only [Bool.false_eq_true, if_false]; omega))
        have L := hide (show (digs (val (idg y) - val (idg x))).length ≤ 9223372036854775807 from Nat.le_trans (sub_len (limbs_idg y)) (by omega))
        rw [cmpN_lt (show val (idg x) < val (idg y) by omega)] at M
        clear sx sy hx hy hs ht hc
        obtain ⟨x1, x2, x3, x4, x5, x6, _⟩ := X.out
        go_enter Tryz.func64, Tryz.ntmps64
        go_wp2_with (go_at_call 82; (with_reducible refine (M.out _ b0).mono ?_); rintro e w1 ⟨rfl, q0, h0⟩; have g := bl_q0 h0; have X := hide (X.out.next g); obtain ⟨x1, x2, x3, x4, x5, x6, _⟩ := X.out; have bb := bl_trans b0 g; clear h0 g)
        go_region_held3 (fun W => W.cell? ⟨w.heap.size, 0, none⟩ = some (.bool true) ∧ W.cell? ⟨w.heap.size, 1, none⟩ = some (.slice A (idg x).length c) ∧ W.cell? ⟨w.heap.size + 1, 0, none⟩ = some (.bool false) ∧ W.cell? ⟨w.heap.size + 1, 1, none⟩ = some (.slice B (idg y).length d))
          (first | exact ⟨x1, x2, x3, x4⟩ | exact S_store12 (by assumption) n2.out n2.out n1.out n1.out | exact S_next12 hb4 (by assumption) | exact S_next12 hb (by assumption) | go_keep)
          (first
            | (go_at_call 83; (with_reducible refine (C.out _ (by first | exact bb.drew | exact bb)).mono ?_); rintro e w2 ⟨A3, c3, rfl, r3, hb⟩; have yb := hide ((X.out.drew).next hb); have s3 := r3.sl; have b2 := bl_trans (by first | exact bb.drew | exact bb) hb)
            | (go_at_call 65; (with_reducible refine (rwhole_any _ A3 _ c3 _ L.out).mono ?_); rintro e w4 ⟨rfl, hb4⟩; obtain ⟨y1, y2, y3, y4, y5, y6, y7, y8, _⟩ := (yb.out).next hb4; have s4 := bl_keeps hb4 _ _ s3; have b4 := bl_trans b2 hb4))
        go_wp2
        refine bodyPost_ret (v := .agg #[.bool (false && decide (0 < (digs (val (idg y) - val (idg x))).length)), .slice A3 (digs (val (idg y) - val (idg x))).length c3]) (by simp [results, Tryz.results64, go_sem, y5, y6]) rfl (IOne.mk E.out rfl (s4.store2 y5 y6 _ _) (Below.store2 b4 (by omega) _ _))
    | true =>
      have hx := isg_t hs
      have hy := isg_t ht
      have C := hide (fun W (h : Below w.heap.size w W) => radd_any A B c d (idg x) (idg y) W (bl_keeps h _ _ sx) (bl_keeps h _ _ sy) (limbs_idg x) (limbs_idg y) (by omega) (by omega) _ rfl)
      have E := hide (sgn_pair (s := true) (n := val (idg x) + val (idg y)) (z := x + y) (by rw [val_id, val_id]; simp only [if_true]; omega))
      have L := hide (show (digs (val (idg x) + val (idg y))).length ≤ 9223372036854775807 from Nat.le_trans (add_len (limbs_idg x) (limbs_idg y) hl hl') (by decide))
      have X := hide (Bx3.start true A (idg x).length c true B (idg y).length d w)
      have b0 : Below w.heap.size w (((w.alloc (.cells #[.bool true, .slice A (idg x).length c] 41)).alloc (.cells #[.bool true, .slice B (idg y).length d] 41)).alloc (.cells #[.bool false, .slice none 0 0] 41)) := bl_al (bl_al (bl_al (.refl _ _) _) _) _
      clear sx sy hx hy hs ht
      obtain ⟨x1, x2, x3, x4, x5, x6, _⟩ := X.out
      have bb := b0
      go_enter Tryz.func64, Tryz.ntmps64
      go_wp2
      go_region_held3 (fun W => W.cell? ⟨w.heap.size, 0, none⟩ = some (.bool true) ∧ W.cell? ⟨w.heap.size, 1, none⟩ = some (.slice A (idg x).length c) ∧ W.cell? ⟨w.heap.size + 1, 0, none⟩ = some (.bool true) ∧ W.cell? ⟨w.heap.size + 1, 1, none⟩ = some (.slice B (idg y).length d))
        (first | exact ⟨x1, x2, x3, x4⟩ | exact S_store12 (by assumption) n2.out n2.out n1.out n1.out | exact S_next12 hb4 (by assumption) | exact S_next12 hb (by assumption) | go_keep)
        (first
          | (go_at_call 90; (with_reducible refine (C.out _ (by first | exact bb.drew | exact bb)).mono ?_); rintro e w2 ⟨A3, c3, rfl, r3, hb⟩; have yb := hide ((X.out.drew).next hb); have s3 := r3.sl; have b2 := bl_trans (by first | exact bb.drew | exact bb) hb)
          | (go_at_call 65; (with_reducible refine (rwhole_any _ A3 _ c3 _ L.out).mono ?_); rintro e w4 ⟨rfl, hb4⟩; obtain ⟨y1, y2, y3, y4, y5, y6, y7, y8, _⟩ := (yb.out).next hb4; have s4 := bl_keeps hb4 _ _ s3; have b4 := bl_trans b2 hb4))
      go_wp2
      refine bodyPost_ret (v := .agg #[.bool (true && decide (0 < (digs (val (idg x) + val (idg y))).length)), .slice A3 (digs (val (idg x) + val (idg y))).length c3]) (by simp [results, Tryz.results64, go_sem, y5, y6]) rfl (IOne.mk E.out rfl (s4.store2 y5 y6 _ _) (Below.store2 b4 (by omega) _ _))

end Nt

end Go.Proofs.YtgmjdaallinicaaGreatDoor
