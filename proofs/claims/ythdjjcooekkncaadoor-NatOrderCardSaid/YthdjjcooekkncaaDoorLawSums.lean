
/-
  The law NatSums.
-/
import Derived.Test.YthdjjcooekkncaaDoorCmpN

import Derived.Test.YthdjjcooekkncaaDoorRefAddN

import Derived.Test.YthdjjcooekkncaaDoorRefMulN

import Derived.Test.YthdjjcooekkncaaDoorWholeZ

import Derived.Test.YthdjjcooekkncaaDoorFew

import Derived.Test.YthdjjcooekkncaaDoorCmp

namespace Go.Proofs.YthdjjcooekkncaaDoor

open Go.RowKit

namespace Nt

set_option maxRecDepth 100000 in
set_option maxHeartbeats 2000000 in
theorem sums_law (A B : Option Addr) (c d : Nat) (xs ys : List Nat) (w : World) (hx : Sl w A xs) (hy : Sl w B ys) (lx : Limbs xs) (ly : Limbs ys) (hn : xs.length ≤ 9223372036854775807) (hm : ys.length ≤ 9223372036854775807) (ht : Pow10 w) :
    Calls Tryd.prog 3 #[.slice A xs.length c, .slice B ys.length d] w fun e w' => e = .returned (.bool true) ∧ Below w.heap.size w w' := by
  by_cases h70 : xs.length ≤ 70 ∧ ys.length ≤ 70
  · have F : Hid (decide (xs.length ≤ 70 ∧ ys.length ≤ 70) = true) := decide_eq_true h70
    obtain ⟨hl, hl'⟩ := h70
    have C1 := hide (fun W (h : Below w.heap.size w W) => add_any A B c d xs ys W (bl_keeps h _ _ hx) (bl_keeps h _ _ hy) lx ly (by omega) (by omega))
    have C2 := hide (fun W (h : Below w.heap.size w W) => raddNat_any A B c d xs ys W (bl_keeps h _ _ hx) (bl_keeps h _ _ hy) lx ly (by omega) (by omega))
    have C3 := hide (fun W (h : Below w.heap.size w W) => sub_any A B c d xs ys W (bl_keeps h _ _ hx) (bl_keeps h _ _ hy) lx ly (by omega) (by omega))
    have C4 := hide (fun W (h : Below w.heap.size w W) => rsubNat_any A B c d xs ys W (bl_keeps h _ _ hx) (bl_keeps h _ _ hy) lx ly (by omega) (by omega))
    have C5 := hide (fun W (h : Below w.heap.size w W) => mul_any A B c d xs ys W (bl_keeps h _ _ hx) (bl_keeps h _ _ hy) lx ly (by omega) (by omega))
    have C6 := hide (fun W (h : Below w.heap.size w W) => rmulNat_any A B c d xs ys W (bl_keeps h _ _ hx) (bl_keeps h _ _ hy) lx ly (by omega) (by omega))
    have Q1 := hide (fun W (h : Below w.heap.size w W) => cmp_any A B c d xs ys W (bl_keeps h _ _ hx) (bl_keeps h _ _ hy) lx ly (by omega) (by omega))
    have Q2 := hide (fun W (h : Below w.heap.size w W) => rcmpNat_any A B c d xs ys W (bl_keeps h _ _ hx) (bl_keeps h _ _ hy) lx ly (by omega) (by omega))
    have V1 := hide (fun W (h : Below w.heap.size w W) => valid_any A c xs W (bl_keeps h _ _ hx) (by omega))
    have V2 := hide (fun W (h : Below w.heap.size w W) => rvalid_any A c xs W (bl_keeps h _ _ hx) (by omega))
    have L1 := hide (addSp_len xs ys)
    have L2 := hide (subSp_len lx ys)
    have L3 := hide (mulSp_len xs ys)
    clear hx hy lx ly
    generalize addSp xs ys = r1 at *
    generalize subSp xs ys = r2 at *
    generalize mulSp xs ys = r3 at *
    generalize cmpSp xs ys = z at *
    generalize validB xs = v at *
    go_enter Tryd.func3, Tryd.ntmps3
    go_wp2_with (first
      | (go_at_call 11; (with_reducible refine (few_two A B xs.length ys.length c d w.heap.size _ hn hm (cell_new _ _ _ _) (cell_new _ _ _ _)).mono ?_); rintro e w1 ⟨rfl, q0, h0⟩; rw [F.out]; have b := bl_q1 h0; clear h0)
      | (go_at_call 13; (with_reducible refine (C1.out w1 b).mono ?_); rintro e w2 h; obtain ⟨A1, c1, rfl, s1, b0⟩ := h.get; have b := bl_trans b b0; clear h b0)
      | (go_at_call 14; (with_reducible refine (C2.out w2 b).mono ?_); rintro e w3 h; obtain ⟨A2, c2, rfl, s2, b0⟩ := h.get; have b := bl_trans b b0; have s1 := bl_keeps b0 _ _ s1; clear h b0)
      | (go_at_call 15; (with_reducible refine (C3.out w3 b).mono ?_); rintro e w4 h; obtain ⟨A3, c3, rfl, s3, b0⟩ := h.get; have b := bl_trans b b0; have s1 := bl_keeps b0 _ _ s1; have s2 := bl_keeps b0 _ _ s2; clear h b0)
      | (go_at_call 16; (with_reducible refine (C4.out w4 b).mono ?_); rintro e w5 h; obtain ⟨A4, c4, rfl, s4, b0⟩ := h.get; have b := bl_trans b b0; have s1 := bl_keeps b0 _ _ s1; have s2 := bl_keeps b0 _ _ s2; have s3 := bl_keeps b0 _ _ s3; clear h b0)
      | (go_at_call 17; (with_reducible refine (C5.out w5 b).mono ?_); rintro e w6 h; obtain ⟨A5, c5, rfl, s5, b0⟩ := h.get; have b := bl_trans b b0; have s1 := bl_keeps b0 _ _ s1; have s2 := bl_keeps b0 _ _ s2; have s3 := bl_keeps b0 _ _ s3; have s4 := bl_keeps b0 _ _ s4; clear h b0)
      | (go_at_call 18; (with_reducible refine (C6.out w6 b).mono ?_); rintro e w7 h; obtain ⟨A6, c6, rfl, s6, b0⟩ := h.get; have b := bl_trans b b0; have s1 := bl_keeps b0 _ _ s1; have s2 := bl_keeps b0 _ _ s2; have s3 := bl_keeps b0 _ _ s3; have s4 := bl_keeps b0 _ _ s4; have s5 := bl_keeps b0 _ _ s5; clear h b0)
      | (go_at_call 19; (with_reducible refine (law_same_t A1 A2 _ _ _ _ r1.1 r1.1 w7 rfl rfl s1 s2 (by have := L1.out; omega) (by have := L1.out; omega) rfl).mono ?_); rintro e w8 ⟨rfl, q0, h0⟩; have b0 := bl_q0 h0; have b := bl_trans b b0; have s3 := bl_keeps b0 _ _ s3; have s4 := bl_keeps b0 _ _ s4; have s5 := bl_keeps b0 _ _ s5; have s6 := bl_keeps b0 _ _ s6; clear h0 b0 s1 s2)
      | (go_at_call 19; (with_reducible refine (law_same_t A3 A4 _ _ _ _ r2.1 r2.1 w8 rfl rfl s3 s4 (by have := L2.out; omega) (by have := L2.out; omega) rfl).mono ?_); rintro e w9 ⟨rfl, q0, h0⟩; have b0 := bl_q0 h0; have b := bl_trans b b0; have s5 := bl_keeps b0 _ _ s5; have s6 := bl_keeps b0 _ _ s6; clear h0 b0 s3 s4)
      | (go_at_call 19; (with_reducible refine (law_same_t A5 A6 _ _ _ _ r3.1 r3.1 w9 rfl rfl s5 s6 (by have := L3.out; omega) (by have := L3.out; omega) rfl).mono ?_); rintro e w10 ⟨rfl, q0, h0⟩; have b0 := bl_q0 h0; have b := bl_trans b b0; clear h0 b0 s5 s6)
      | (go_at_call 20; (with_reducible refine (Q1.out w10 b).mono ?_); rintro e w11 ⟨rfl, q0, h0⟩; have b := bl_trans b (bl_q0 h0); clear h0)
      | (go_at_call 21; (with_reducible refine (Q2.out w11 b).mono ?_); rintro e w12 ⟨rfl, q0, h0⟩; have b := bl_trans b (bl_q0 h0); clear h0)
      | (go_at_call 22; (with_reducible refine (V1.out w12 b).mono ?_); rintro e w' ⟨rfl, rfl⟩)
      | (go_at_call 23; (with_reducible refine (V2.out w12 b).mono ?_); rintro e w' ⟨rfl, rfl⟩)
      | (go_at_call 12; (with_reducible refine (awake_any w12 (pow_below ht b)).mono ?_); rintro e w13 ⟨rfl, b0⟩; have b := bl_trans b b0; clear b0))
    go_ret
    exact ⟨rfl, b⟩
  · have F : Hid (decide (xs.length ≤ 70 ∧ ys.length ≤ 70) = false) := decide_eq_false h70
    clear hx hy lx ly h70
    go_enter Tryd.func3, Tryd.ntmps3
    go_wp2_with (first
      | (go_at_call 11; (with_reducible refine (few_two A B xs.length ys.length c d w.heap.size _ hn hm (cell_new _ _ _ _) (cell_new _ _ _ _)).mono ?_); rintro e w1 ⟨rfl, q0, h0⟩; rw [F.out]; have b := bl_q1 h0; clear h0)
      | (go_at_call 12; (with_reducible refine (awake_any w1 (pow_below ht b)).mono ?_); rintro e w13 ⟨rfl, b0⟩; have b := bl_trans b b0; clear b0))
    go_ret
    exact ⟨rfl, b⟩
end Nt

end Go.Proofs.YthdjjcooekkncaaDoor
