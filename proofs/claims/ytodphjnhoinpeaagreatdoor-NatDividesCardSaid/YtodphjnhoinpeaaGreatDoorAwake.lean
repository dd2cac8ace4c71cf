/-
  The law's 'awake': what the document fixes.
-/
import Derived.Test.YtodphjnhoinpeaaGreatDoorOf1
import Derived.Test.YtodphjnhoinpeaaGreatDoorBl
import Derived.Test.YtodphjnhoinpeaaGreatDoorParse2
import Derived.Test.YtodphjnhoinpeaaGreatDoorText2
namespace Go.Proofs.YtodphjnhoinpeaaGreatDoor
open Go.RowKit
namespace Nt

theorem mulSp_lit : mulSp [0, 1] [0, 1] = ([0, 0, 1], 0) := by
  have hv : val [0, 1] * val [0, 1] = val [0, 0, 1] := by simp [val, LB]
  have hl : Limbs [0, 0, 1] := .cons LB_pos limbs01
  rw [mulSp_fits valid01 valid01 (by rw [hv]; exact Nat.lt_of_lt_of_le (val_lt hl) (Nat.pow_le_pow_right LB_pos (by decide))), hv, digs_val_norm hl (.inr (by decide))]
theorem divSp_lit : divSp [7] [2] = ([3], [1], 0) := by
  rw [divSp_ok (valid1 (by decide)) (valid1 (by decide)) (by decide), val_one, val_one]
  rw [show 7 / 2 = 3 by rfl, show 7 % 2 = 1 by rfl, digs1 (by decide) (by decide), digs1 (by decide) (by decide)]
theorem subSp_lit : subSp [1] [2] = ([], 1) := subSp_less (valid1 (by decide)) (valid1 (by decide)) (by rw [val_one, val_one]; decide)
theorem val01 : val [0, 1] = 18446744073709551616 := by simp [val, LB]

def litP : List UInt8 := [48, 48, 49, 56, 52, 52, 54, 55, 52, 52, 48, 55, 51, 55, 48, 57, 53, 53, 49, 54, 49, 54]
theorem parseSp_lit : parseSp litP = ([0, 1], 0) := by
  have hd : digitsB litP = true := by decide
  have hv : decV litP = 18446744073709551616 := by decide
  unfold parseSp
  rw [hd, hv, if_pos rfl, if_pos (by rw [← val01]; exact Nat.lt_of_lt_of_le (val_lt limbs01) (Nat.pow_le_pow_right LB_pos (by decide))), ← val01, digs_val_norm limbs01 norm01]
theorem textSp_lit : textSp [0, 1] = [49, 56, 52, 52, 54, 55, 52, 52, 48, 55, 51, 55, 48, 57, 53, 53, 49, 54, 49, 54] := by
  unfold textSp
  rw [valid01, val01]
  simp [Lib.decDigits]
theorem bitsSp_lit : bitsSp [0, 1] = 65 := by
  unfold bitsSp
  rw [if_pos ⟨valid01, by decide⟩]
  decide
theorem cmpSp_lit : cmpSp [1] [0, 1] = -1 := by
  unfold cmpSp
  rw [valid1 (by decide), valid01, val01, val_one]
  decide

theorem mul_lit (A B : Option Addr) (w : World) (hx : Sl w A [0, 1]) (hy : Sl w B [0, 1]) :
    Calls Tryz.prog 39 #[.slice A 2 2, .slice B 2 2] w (Two w ([0, 0, 1], 0)) := by
  rw [← mulSp_lit]
  exact mul_any A B 2 2 [0, 1] [0, 1] w hx hy limbs01 limbs01 (by decide) (by decide)
theorem div_lit (A B : Option Addr) (w : World) (hx : Sl w A [7]) (hy : Sl w B [2]) :
    Calls Tryz.prog 7 #[.slice A 1 1, .slice B 1 1] w (Three w ([3], [1], 0)) := by
  rw [← divSp_lit]
  exact divmod_any A B 1 1 [7] [2] w hx hy (limbs1 (by decide)) (limbs1 (by decide)) (by decide) (by decide) (fun _ _ h => absurd h (by decide))
theorem sub_lit (A B : Option Addr) (w : World) (hx : Sl w A [1]) (hy : Sl w B [2]) :
    Calls Tryz.prog 40 #[.slice A 1 1, .slice B 1 1] w (Two w ([], 1)) := by
  rw [← subSp_lit]
  exact sub_any A B 1 1 [1] [2] w hx hy (limbs1 (by decide)) (limbs1 (by decide)) (by decide) (by decide)
theorem parse_lit (w : World) :
    Calls Tryz.prog 41 #[.string { data := #[48, 48, 49, 56, 52, 52, 54, 55, 52, 52, 48, 55, 51, 55, 48, 57, 53, 53, 49, 54, 49, 54] }] w (Two w ([0, 1], 0)) := by
  rw [← parseSp_lit]
  exact parse_any { data := #[48, 48, 49, 56, 52, 52, 54, 55, 52, 52, 48, 55, 51, 55, 48, 57, 53, 53, 49, 54, 49, 54] } w (by decide)
theorem text_lit (A : Option Addr) (n c : Nat) (hn : [0, 1].length = n) (w : World) (hx : Sl w A [0, 1]) (ht : Pow10 w) :
    Calls Tryz.prog 42 #[.slice A n c] w fun e w' => e = .returned (.string { data := #[49, 56, 52, 52, 54, 55, 52, 52, 48, 55, 51, 55, 48, 57, 53, 53, 49, 54, 49, 54] }) ∧ Below w.heap.size w w' := by
  subst hn
  have := text_any A c [0, 1] w hx limbs01 (by decide) ht
  rw [textSp_lit] at this
  exact this
theorem bits_lit (A : Option Addr) (n c : Nat) (hn : [0, 1].length = n) (w : World) (hx : Sl w A [0, 1]) :
    Calls Tryz.prog 15 #[.slice A n c] w fun e w' => e = .returned (.int .i64 65) ∧ w = w' := by
  subst hn
  have := bits_any A c [0, 1] w hx limbs01 (by decide)
  rw [bitsSp_lit] at this
  exact this
theorem validn_lit (w : World) : Calls Tryz.prog 14 #[.slice none 0 0] w fun e w' => e = .returned (.bool true) ∧ w = w' := valid_any none 0 [] w .nil (by decide)
theorem valid0_lit (A : Option Addr) (w : World) (hx : Sl w A [0]) : Calls Tryz.prog 14 #[.slice A 1 1] w fun e w' => e = .returned (.bool false) ∧ w = w' := by
  have := valid_any A 1 [0] w hx (by decide)
  rw [show validB [0] = false by decide] at this
  exact this
theorem cmp_lit (A B : Option Addr) (w : World) (hx : Sl w A [1]) (hy : Sl w B [0, 1]) :
    Calls Tryz.prog 43 #[.slice A 1 1, .slice B 2 2] w (Quiet w (.int .i64 (-1))) := by
  rw [← cmpSp_lit]
  exact cmp_any A B 1 2 [1] [0, 1] w hx hy (limbs1 (by decide)) limbs01 (by decide) (by decide)
theorem of_lit (w : World) : Calls Tryz.prog 17 #[.int .i64 5] w (Mk w [5]) := of_any 5 (by decide) (by decide) w

theorem same_lit (A : Option Addr) (n m c d : Nat) (g : Nat) (w : World) (x : Obj) (xs : List Nat) (h : Sl w A xs) (hg : Sl (w.alloc x) (some ⟨g, 0, none⟩) xs) (hn : xs.length = n) (hm : xs.length = m) (hl : n ≤ 1000000) :
    Calls Tryz.prog 13 #[.slice A n c, .slice (some ⟨g, 0, none⟩) m d] (w.alloc x) (Quiet (w.alloc x) (.bool true)) :=
  law_same_t _ _ n m c d xs xs _ hn hm (h.alloc _) hg hl (by omega) rfl

set_option maxRecDepth 100000 in
set_option maxHeartbeats 1000000 in
theorem awake_any (w : World) (ht : Pow10 w) :
    Calls Tryz.prog 6 #[] w fun e w' => e = .returned (.bool true) ∧ Below w.heap.size w w' := by
  go_enter Tryz.func6, Tryz.ntmps6
  go_wp2_with (first
    | (go_at_call 39; go_loud (with_reducible refine (mul_lit _ _ _ ((lit01 w rfl).alloc _) (lit01 _ (size1 _ _))).mono ?_); rintro e w1 h1; obtain ⟨A1, c1, rfl, s1, b1⟩ := h1.get; have b1 := bl_two b1; clear h1)
    | (go_at_call 7; (with_reducible refine (div_lit _ _ _ ((lit7 w1 rfl).alloc _) (lit2 _ (size1 _ _))).mono ?_); rintro e w2 h2; obtain ⟨A2, c2, B2, d2, rfl, s2, t2, b2⟩ := h2.get; have b2 := bl_two b2; have s1 := bl_keeps b2 _ _ s1; have b1 := bl_trans b1 b2; clear h2)
    | (go_at_call 40; (with_reducible refine (sub_lit _ _ _ ((lit1 w2 rfl).alloc _) (lit2 _ (size1 _ _))).mono ?_); rintro e w3 h3; obtain ⟨A3, c3, rfl, s3, b3⟩ := h3.get; have b3 := bl_two b3; have s1 := bl_keeps b3 _ _ s1; have s2 := bl_keeps b3 _ _ s2; have t2 := bl_keeps b3 _ _ t2; have b1 := bl_trans b1 b3; clear h3 s3)
    | (go_at_call 41; (with_reducible refine (parse_lit w3).mono ?_); rintro e w4 h4; obtain ⟨A4, c4, rfl, s4, b4⟩ := h4.get; have s1 := bl_keeps b4 _ _ s1; have s2 := bl_keeps b4 _ _ s2; have t2 := bl_keeps b4 _ _ t2; have b1 := bl_trans b1 b4; clear h4)
    | (go_at_call 13; (with_reducible refine (same_lit A1 3 3 _ _ _ w4 _ _ s1 (lit001 w4 rfl) rfl rfl (by decide)).mono ?_); rintro e w5 ⟨rfl, q0, h0⟩; have b0 := bl_q1 h0; have s2 := bl_keeps b0 _ _ s2; have t2 := bl_keeps b0 _ _ t2; have s4 := bl_keeps b0 _ _ s4; have b1 := bl_trans b1 b0; clear h0 b0 s1)
    | (go_at_call 13; (with_reducible refine (same_lit A2 1 1 _ _ _ w5 _ _ s2 (lit3 w5 rfl) rfl rfl (by decide)).mono ?_); rintro e w6 ⟨rfl, q0, h0⟩; have b0 := bl_q1 h0; have t2 := bl_keeps b0 _ _ t2; have s4 := bl_keeps b0 _ _ s4; have b1 := bl_trans b1 b0; clear h0 b0 s2)
    | (go_at_call 13; (with_reducible refine (same_lit B2 1 1 _ _ _ w6 _ _ t2 (lit1 w6 rfl) rfl rfl (by decide)).mono ?_); rintro e w7 ⟨rfl, q0, h0⟩; have b0 := bl_q1 h0; have s4 := bl_keeps b0 _ _ s4; have b1 := bl_trans b1 b0; clear h0 b0 t2)
    | (go_at_call 13; (with_reducible refine (same_lit A4 2 2 _ _ _ w7 _ _ s4 (lit01 w7 rfl) rfl rfl (by decide)).mono ?_); rintro e w8 ⟨rfl, q0, h0⟩; have b0 := bl_q1 h0; have s4 := bl_keeps b0 _ _ s4; have b1 := bl_trans b1 b0; clear h0 b0 )
    | (go_at_call 42; (with_reducible refine (text_lit A4 2 c4 rfl w8 s4 (pow_below ht b1)).mono ?_); rintro e w9 ⟨rfl, b0⟩; have s4 := bl_keeps b0 _ _ s4; have b1 := bl_trans b1 b0; clear b0)
    | (go_at_call 15; (with_reducible refine (bits_lit A4 2 c4 rfl w9 s4).mono ?_); rintro e w' ⟨rfl, rfl⟩)
    | (go_at_call 14; (with_reducible refine (validn_lit w9).mono ?_); rintro e w' ⟨rfl, rfl⟩)
    | (go_at_call 14; (with_reducible refine (valid0_lit _ _ (lit0 w9 rfl)).mono ?_); rintro e w' ⟨rfl, rfl⟩)
    | (go_at_call 43; (with_reducible refine (cmp_lit _ _ _ ((lit1 (w9.alloc _) (size1 _ _)).alloc _) (lit01 _ (by rw [size1, size1]))).mono ?_); rintro e w10 ⟨rfl, q0, h0⟩; have b1 := bl_trans b1 (bl_one (bl_q2 h0)); clear h0 s4)
    | (go_at_call 17; (with_reducible refine (of_lit w10).mono ?_); rintro e w11 ⟨A5, c5, rfl, r5, b5⟩; have s5 := r5.sl; have b1 := bl_trans b1 b5; clear r5 b5)
    | (go_at_call 13; (with_reducible refine (same_lit A5 1 1 _ _ _ w11 _ _ s5 (lit5 w11 rfl) rfl rfl (by decide)).mono ?_); rintro e w12 ⟨rfl, q0, h0⟩; have b0 := bl_q1 h0; have b1 := bl_trans b1 b0; clear h0 b0 s5)
    )
  go_ret
  exact ⟨rfl, b1⟩
end Nt
end Go.Proofs.YtodphjnhoinpeaaGreatDoor
