/-
  The calls in numbers: a row is the digits of a number.
  nat.Shift.
  The reference's OfNat, BitsNat.
  The reference's shift, up.
  The reference's divmod, by binary digits.
  The reference's gcd, DivNat, GcdNat.
  The reference's shift, down.
  The reference's ShiftNat.
  The law NatDivides.
-/
import Derived.Test.YtodphjnhoinpeaaGreatDoorMathO
import Derived.Test.YtodphjnhoinpeaaGreatDoorAwake
import Derived.Test.YtodphjnhoinpeaaGreatDoorShiftUp
import Derived.Test.YtodphjnhoinpeaaGreatDoorShiftDown
import Derived.Test.YtodphjnhoinpeaaGreatDoorMathB
import Derived.Test.YtodphjnhoinpeaaGreatDoorRefTrim
import Derived.Test.YtodphjnhoinpeaaGreatDoorMathS
import Derived.Test.YtodphjnhoinpeaaGreatDoorBl
import Derived.Test.YtodphjnhoinpeaaGreatDoorRefAdd
import Derived.Test.YtodphjnhoinpeaaGreatDoorCmp
import Derived.Test.YtodphjnhoinpeaaGreatDoorGcd
import Derived.Test.YtodphjnhoinpeaaGreatDoorDivide
import Derived.Test.YtodphjnhoinpeaaGreatDoorLong1
import Derived.Test.YtodphjnhoinpeaaGreatDoorOf1
import Derived.Test.YtodphjnhoinpeaaGreatDoorRow
namespace Go.Proofs.YtodphjnhoinpeaaGreatDoor
open Go.RowKit
namespace Nt

theorem kp {w w' : World} {A : Option Addr} {xs : List Nat} (b : Below w.heap.size w w') (h : Sl w A xs) : Sl w' A xs := bl_keeps b _ _ h
theorem digs_len {n k : Nat} (h : n < LB ^ k) : (digs n).length ≤ k := length_digs_le.2 h
theorem pow_le {k : Nat} (h : k ≤ 64) : LB ^ k ≤ LB ^ 64 := Nat.pow_le_pow_right LB_pos h
theorem lt64 {n k : Nat} (h : n < LB ^ k) (hk : k ≤ 64) : n < LB ^ 64 := Nat.lt_of_lt_of_le h (pow_le hk)
theorem add_lt_pow {x y k : Nat} (hx : x < LB ^ k) (hy : y < LB ^ k) : x + y < LB ^ (k + 1) := by
  rw [Nat.pow_succ]
  have := Nat.mul_le_mul_left (LB ^ k) LB_two
  omega
theorem mul_lt_pow {x y j k : Nat} (hx : x < LB ^ j) (hy : y < LB ^ k) : x * y < LB ^ (j + k) := by
  rw [Nat.pow_add]
  exact Nat.mul_lt_mul'' hx hy
theorem as_digs {xs : List Nat} (l : Limbs xs) (v : validB xs = true) : ∃ x, xs = digs x ∧ x < LB ^ xs.length := ⟨val xs, (digs_val_norm l (validB_iff.1 v).2).symm, val_lt l⟩
theorem addSp_num {x y : Nat} (hx : x < LB ^ 64) (hy : y < LB ^ 64) (h : x + y < LB ^ 64) : addSp (digs x) (digs y) = (digs (x + y), 0) := by
  unfold addSp; rw [validB_digs hx, validB_digs hy, val_digs, val_digs]; simp [h]
theorem mulSp_num {x y : Nat} (hx : x < LB ^ 64) (hy : y < LB ^ 64) (h : x * y < LB ^ 64) : mulSp (digs x) (digs y) = (digs (x * y), 0) := by
  rw [mulSp_fits (validB_digs hx) (validB_digs hy) (by rw [val_digs, val_digs]; exact h), val_digs, val_digs]
theorem subSp_num {x y : Nat} (hx : x < LB ^ 64) (hy : y < LB ^ 64) (h : y ≤ x) : subSp (digs x) (digs y) = (digs (x - y), 0) := by
  rw [subSp_ok (validB_digs hx) (validB_digs hy) (by rw [val_digs, val_digs]; exact h), val_digs, val_digs]
theorem cmpSp_num {x y : Nat} (hx : x < LB ^ 64) (hy : y < LB ^ 64) : cmpSp (digs x) (digs y) = cmpN x y := by
  rw [cmpSp_ok (validB_digs hx) (validB_digs hy), val_digs, val_digs]
theorem divSp_num {x y : Nat} (hx : x < LB ^ 64) (hy : y < LB ^ 64) (h : 0 < y) : divSp (digs x) (digs y) = (digs (x / y), digs (x % y), 0) := by
  rw [divSp_ok (validB_digs hx) (validB_digs hy) (by
    rcases Nat.eq_zero_or_pos (digs y).length with h0 | h0
    · have := digs_eq_nil.1 (List.eq_nil_of_length_eq_zero h0); omega
    · exact h0), val_digs, val_digs]
theorem bitsSp_num {x : Nat} (hx : x < LB ^ 64) : bitsSp (digs x) = blen x := by rw [bits_val (limbs_digs x) (validB_digs hx), val_digs]
theorem len_mega {x : Nat} (hx : x < LB ^ 64) : (digs x).length ≤ 1000000 := Nat.le_trans (digs_len hx) (by decide)

section
variable (A B : Option Addr) (n m c d x y : Nat) (w : World) (hn : (digs x).length = n) (hm : (digs y).length = m) (sx : Sl w A (digs x)) (sy : Sl w B (digs y)) (hx : x < LB ^ 64) (hy : y < LB ^ 64)
include hn hm sx sy hx hy
theorem add_num (h : x + y < LB ^ 64) : Calls Tryz.prog 60 #[.slice A n c, .slice B m d] w (Two w (digs (x + y), 0)) := by
  subst hn hm
  rw [← addSp_num hx hy h]
  exact add_any A B c d _ _ w sx sy (limbs_digs _) (limbs_digs _) (len_mega hx) (len_mega hy)
theorem mul_num (h : x * y < LB ^ 64) : Calls Tryz.prog 39 #[.slice A n c, .slice B m d] w (Two w (digs (x * y), 0)) := by
  subst hn hm
  rw [← mulSp_num hx hy h]
  exact mul_any A B c d _ _ w sx sy (limbs_digs _) (limbs_digs _) (len_mega hx) (len_mega hy)
theorem sub_num (h : y ≤ x) : Calls Tryz.prog 40 #[.slice A n c, .slice B m d] w (Two w (digs (x - y), 0)) := by
  subst hn hm
  rw [← subSp_num hx hy h]
  exact sub_any A B c d _ _ w sx sy (limbs_digs _) (limbs_digs _) (len_mega hx) (len_mega hy)
theorem sub_back (z : Nat) (h : z + y = x) : Calls Tryz.prog 40 #[.slice A n c, .slice B m d] w (Two w (digs z, 0)) := by
  have := sub_num A B n m c d x y w hn hm sx sy hx hy (by omega)
  rwa [show x - y = z by omega] at this
theorem cmp_num : Calls Tryz.prog 43 #[.slice A n c, .slice B m d] w (Quiet w (.int .i64 (cmpN x y))) := by
  subst hn hm
  rw [← cmpSp_num hx hy]
  exact cmp_any A B c d _ _ w sx sy (limbs_digs _) (limbs_digs _) (len_mega hx) (len_mega hy)
theorem same_num (h : x = y) : Calls Tryz.prog 13 #[.slice A n c, .slice B m d] w (Quiet w (.bool true)) :=
  law_same_t A B n m c d _ _ w hn hm sx sy (by rw [← hn]; exact len_mega hx) (by rw [← hm]; exact len_mega hy) (by rw [h])
end
theorem valid_num (A : Option Addr) (n c x : Nat) (w : World) (hn : (digs x).length = n) (sx : Sl w A (digs x)) (hx : x < LB ^ 64) : Calls Tryz.prog 14 #[.slice A n c] w fun e w' => e = .returned (.bool true) ∧ w = w' := by
  subst hn
  rw [← validB_digs hx]
  exact valid_any A c _ w sx (Nat.le_trans (len_mega hx) (by decide))
theorem bits_num (A : Option Addr) (n c x : Nat) (w : World) (hn : (digs x).length = n) (sx : Sl w A (digs x)) (hx : x < LB ^ 64) : Calls Tryz.prog 15 #[.slice A n c] w fun e w' => e = .returned (.int .i64 ((blen x : Nat) : Int)) ∧ w = w' := by
  subst hn
  rw [← bitsSp_num hx]
  exact bits_any A c _ w sx (limbs_digs _) (len_mega hx)
end Nt
end Go.Proofs.YtodphjnhoinpeaaGreatDoor
namespace Go.Proofs.YtodphjnhoinpeaaGreatDoor
open Go.RowKit
namespace Nt

/-- A shift up, a shift down, as the document says. -/
def upSp (xs : List Nat) (n : Nat) : List Nat × Nat := if validB xs then (if val xs * 2 ^ n < LB ^ 64 then (digs (val xs * 2 ^ n), 0) else ([], 4)) else ([], 1)
def downSp (xs : List Nat) (n : Nat) : List Nat × Nat := if validB xs then (digs (val xs / 2 ^ n), 0) else ([], 1)
theorem upSp_no {xs : List Nat} (n : Nat) (h : validB xs = false) : upSp xs n = ([], 1) := by unfold upSp; rw [h]; rfl
theorem downSp_no {xs : List Nat} (n : Nat) (h : validB xs = false) : downSp xs n = ([], 1) := by unfold downSp; rw [h]; rfl
theorem up_lt_k {v n : Nat} (h0 : v ≠ 0) (k e : Nat) (he : e = 64 * k) : v * 2 ^ n < LB ^ k ↔ blen v + n ≤ e := by
  rw [LB_two_pow, ← blen_le_iff, blen_shift h0, he]
theorem up_lt {v n : Nat} (h0 : v ≠ 0) : v * 2 ^ n < LB ^ 64 ↔ blen v + n ≤ 4096 := up_lt_k h0 64 4096 rfl
theorem upSp_zero {xs : List Nat} (n : Nat) (v : validB xs = true) (h : val xs = 0) : upSp xs n = ([], 0) := by
  unfold upSp
  rw [v, if_pos rfl, h, Nat.zero_mul, if_pos (LB_pow_pos 64), digs_zero]
theorem upSp_fits {xs : List Nat} {n : Nat} (v : validB xs = true) (h0 : val xs ≠ 0) (h : blen (val xs) + n ≤ 4096) : upSp xs n = (digs (val xs * 2 ^ n), 0) := by
  unfold upSp
  rw [v, if_pos rfl, if_pos ((up_lt h0).2 h)]
theorem upSp_big {xs : List Nat} {n : Nat} (v : validB xs = true) (h0 : val xs ≠ 0) (h : 4096 < blen (val xs) + n) : upSp xs n = ([], 4) := by
  unfold upSp
  rw [v, if_pos rfl, if_neg (fun h' => by have := (up_lt h0).1 h'; omega)]
theorem downSp_ok {xs : List Nat} {n : Nat} (v : validB xs = true) : downSp xs n = (digs (val xs / 2 ^ n), 0) := by
  unfold downSp; rw [v]; rfl
theorem down_zero {v n : Nat} (h : blen v ≤ n) : digs (v / 2 ^ n) = [] := by
  rw [Nat.div_eq_of_lt (blen_le_iff.1 h), digs_zero]
theorem blen_eq_zero {v : Nat} : blen v = 0 ↔ v = 0 := by
  constructor
  · intro h
    rcases Nat.eq_zero_or_pos v with h0 | h0
    · exact h0
    · have := (blen_lo (n := v) (by omega)).1; omega
  · intro h; subst h; rfl

set_option maxRecDepth 100000 in
set_option maxHeartbeats 1000000 in
theorem shift_up (A : Option Addr) (c n : Nat) (xs : List Nat) (w : World) (hx : Sl w A xs) (lx : Limbs xs) (hl : xs.length ≤ 1000000) (hn : n ≤ 9223372036854775807) :
    Calls Tryz.prog 11 #[.slice A xs.length c, .int .i64 (n : Int)] w (Two w (upSp xs n)) := by
  have V := hide (valid_any A c xs w hx (by omega))
  have B := hide (bits_any A c xs w hx lx hl)
  rcases vB (xs := xs) with vx | vx
  · rw [vx] at V
    have hb := bits_val lx vx
    have hble := bitsSp_le lx vx
    have h64 := (validB_iff.1 vx).1
    by_cases h0 : val xs = 0
    · have E := hide (upSp_zero n vx h0)
      rw [hb, h0, blen_zero] at B
      clear hx lx hb hble h0 vx
      go_enter Tryz.func11, Tryz.ntmps11
      go_wp2_with (first
        | (go_at_call 15; (with_reducible refine (B.out).mono ?_); rintro e w' ⟨rfl, rfl⟩)
        | (go_at_call 14; (with_reducible refine (V.out).mono ?_); rintro e w' ⟨rfl, rfl⟩))
      go_ret2
      exact Two.mk E.out (.nil _) (.refl _ _)
    · have hbp : 0 < bitsSp xs := by
        rw [hb]
        have := (blen_lo h0).1; omega
      have hb0 : ((bitsSp xs : Int) == 0) = false := beq_eq_false_iff_ne.2 (by omega)
      by_cases hbig : bitsSp xs + n ≤ 4096
      · have E := hide (upSp_fits vx h0 (by rw [← hb]; exact hbig))
        have U := hide (shiftUp_any A c n xs w hx lx (by omega) (by omega))
        clear hx lx hb h0 vx
        generalize bitsSp xs = z at *
        go_enter Tryz.func11, Tryz.ntmps11
        go_wp2_with (first
          | (go_at_call 15; (with_reducible refine (B.out).mono ?_); rintro e w' ⟨rfl, rfl⟩)
          | (go_at_call 14; (with_reducible refine (V.out).mono ?_); rintro e w' ⟨rfl, rfl⟩)
          | (go_at_call 51; (with_reducible refine (U.out).mono ?_); rintro e w1 ⟨g, N, out, rfl, hN, nb, hd, lo, ho, hb1⟩; have T := hide (trim_n (some ⟨g, 0, none⟩) N N out w1 hN ho.sl (Nat.le_refl _) (by omega)); have RR := hide ho.trimRow.res; have D := hide hd; clear ho hd)
          | (go_at_call 49; (with_reducible refine (T.out).mono ?_); rintro e w' ⟨rfl, rfl⟩))
        go_ret2
        exact Two.mk E.out (by rw [D.out]; exact RR.out) hb1
      · have E := hide (upSp_big (n := n) vx h0 (by omega))
        have hbig' : 4096 - (bitsSp xs : Int) < (n : Int) := by omega
        clear hx lx hb h0 vx
        generalize bitsSp xs = z at *
        go_enter Tryz.func11, Tryz.ntmps11
        go_wp2_with (first
          | (go_at_call 15; (with_reducible refine (B.out).mono ?_); rintro e w' ⟨rfl, rfl⟩)
          | (go_at_call 14; (with_reducible refine (V.out).mono ?_); rintro e w' ⟨rfl, rfl⟩))
        go_ret2
        exact Two.mk E.out (.nil _) (.refl _ _)
  · rw [vx] at V
    have E := hide (upSp_no n vx)
    clear hx lx vx
    generalize bitsSp xs = z at *
    go_enter Tryz.func11, Tryz.ntmps11
    go_wp2_with (first
      | (go_at_call 15; (with_reducible refine (B.out).mono ?_); rintro e w' ⟨rfl, rfl⟩)
      | (go_at_call 14; (with_reducible refine (V.out).mono ?_); rintro e w' ⟨rfl, rfl⟩))
    go_ret2
    exact Two.mk E.out (.nil _) (.refl _ _)

set_option maxRecDepth 100000 in
set_option maxHeartbeats 1000000 in
theorem shift_down (A : Option Addr) (c n : Nat) (xs : List Nat) (z : Int) (w : World) (hx : Sl w A xs) (lx : Limbs xs) (hl : xs.length ≤ 1000000) (hn : 0 < n) (hz : z = -(n : Int)) (hmin : -9223372036854775808 ≤ z) :
    Calls Tryz.prog 11 #[.slice A xs.length c, .int .i64 z] w (Two w (downSp xs n)) := by
  have V := hide (valid_any A c xs w hx (by omega))
  have B := hide (bits_any A c xs w hx lx hl)
  have hz0 : z < 0 := by omega
  rcases vB (xs := xs) with vx | vx
  · rw [vx] at V
    have hb := bits_val lx vx
    have hble := bitsSp_le lx vx
    have h64 := (validB_iff.1 vx).1
    have hb0 : 0 ≤ (bitsSp xs : Int) := by omega
    by_cases hsm : bitsSp xs ≤ n
    · have E := hide (show downSp xs n = ([], 0) by rw [downSp_ok vx, down_zero (by rw [← hb]; exact hsm)])
      have hle : z ≤ -(bitsSp xs : Int) := by omega
      have hbm : (bitsSp xs : Int) ≤ 4096 := by omega
      clear hx lx hb vx
      generalize bitsSp xs = y at *
      by_cases hy : y = 0
      · subst hy
        go_enter Tryz.func11, Tryz.ntmps11
        go_wp2_with (first
          | (go_at_call 15; (with_reducible refine (B.out).mono ?_); rintro e w' ⟨rfl, rfl⟩)
          | (go_at_call 14; (with_reducible refine (V.out).mono ?_); rintro e w' ⟨rfl, rfl⟩))
        go_ret2
        exact Two.mk E.out (.nil _) (.refl _ _)
      · have hy' : ((y : Int) == 0) = false := beq_eq_false_iff_ne.2 (by omega)
        go_enter Tryz.func11, Tryz.ntmps11
        go_wp2_with (first
          | (go_at_call 15; (with_reducible refine (B.out).mono ?_); rintro e w' ⟨rfl, rfl⟩)
          | (go_at_call 14; (with_reducible refine (V.out).mono ?_); rintro e w' ⟨rfl, rfl⟩))
        go_ret2
        exact Two.mk E.out (.nil _) (.refl _ _)
    · have E := hide (downSp_ok (n := n) vx)
      have hle : -(bitsSp xs : Int) < z := by omega
      have hbm : (bitsSp xs : Int) ≤ 4096 := by omega
      have hy' : ((bitsSp xs : Int) == 0) = false := beq_eq_false_iff_ne.2 (by omega)
      have U := shiftDown_any A c n xs w hx lx (by omega) (by omega)
      have eN : -z = (n : Int) := by omega
      rw [← eN] at U
      clear eN hz
      have U := hide U
      have hnb : z ≤ 0 := by omega
      clear hx lx hb vx
      generalize bitsSp xs = y at *
      go_enter Tryz.func11, Tryz.ntmps11
      go_wp2_with (first
        | (go_at_call 15; (with_reducible refine (B.out).mono ?_); rintro e w' ⟨rfl, rfl⟩)
        | (go_at_call 14; (with_reducible refine (V.out).mono ?_); rintro e w' ⟨rfl, rfl⟩)
        | (go_at_call 50; (with_reducible refine (U.out).mono ?_); rintro e w1 ⟨g, N, out, rfl, hN, nb, hd, lo, ho, hb1⟩; have T := hide (trim_n (some ⟨g, 0, none⟩) N N out w1 hN ho.sl (Nat.le_refl _) (by omega)); have RR := hide ho.trimRow.res; have D := hide hd; clear ho hd)
        | (go_at_call 49; (with_reducible refine (T.out).mono ?_); rintro e w' ⟨rfl, rfl⟩))
      go_ret2
      exact Two.mk E.out (by rw [D.out]; exact RR.out) hb1
  · rw [vx] at V
    have E := hide (downSp_no n vx)
    clear hx lx vx
    generalize bitsSp xs = y at *
    go_enter Tryz.func11, Tryz.ntmps11
    go_wp2_with (first
      | (go_at_call 15; (with_reducible refine (B.out).mono ?_); rintro e w' ⟨rfl, rfl⟩)
      | (go_at_call 14; (with_reducible refine (V.out).mono ?_); rintro e w' ⟨rfl, rfl⟩))
    go_ret2
    exact Two.mk E.out (.nil _) (.refl _ _)
end Nt
end Go.Proofs.YtodphjnhoinpeaaGreatDoor
namespace Go.Proofs.YtodphjnhoinpeaaGreatDoor
open Go.RowKit
namespace Nt
theorem rof_any (n : Nat) (hn : 0 < n) (hm : n ≤ 9223372036854775807) (w : World) :
    Calls Tryz.prog 18 #[.int .i64 (n : Int)] w (Mk w [n]) := by
  go_enter Tryz.func18, Tryz.ntmps18
  go_wp2
  go_ret
  exact Mk.intro ((Row.litW w n (Nat.le_refl _)).row rfl) ((Below.refl _ _).alloc (Nat.le_refl _) _) rfl
theorem rof_no (z : Int) (hz : z ≤ 0) (w : World) :
    Calls Tryz.prog 18 #[.int .i64 z] w (Mk w []) := by
  go_enter Tryz.func18, Tryz.ntmps18
  go_wp2
  go_ret
  exact Mk.intro (Row.nil _ _) (.refl _ _) rfl


set_option maxRecDepth 100000 in
set_option maxHeartbeats 400000 in
theorem rbits_any (A : Option Addr) (n c : Nat) (xs : List Nat) (w : World) (hn : xs.length = n) (hs : Sl w A xs) (lx : Limbs xs) (hl : n ≤ 1000000) :
    Calls Tryz.prog 16 #[.slice A n c] w fun e w' => e = .returned (.int .i64 ((rbitsSp xs : Nat) : Int)) ∧ w = w' := by
  by_cases h0 : n = 0
  · have E : Hid (rbitsSp xs = 0) := by
      subst h0
      have : xs = [] := List.eq_nil_of_length_eq_zero hn
      subst this; rfl
    rw [E.out]
    clear hs E hn
    subst h0
    go_enter Tryz.func16, Tryz.ntmps16
    go_wp2
    go_ret
    exact ⟨rfl, rfl⟩
  · subst hn
    have hne : xs ≠ [] := by rintro rfl; simp at h0
    obtain ⟨b, o, rfl, ha⟩ := hs.at_ (by omega)
    have hc := ha.cell (j := xs.length - 1) (by omega)
    have hL := lx.get (xs.length - 1)
    have E : Hid (rbitsSp xs = 64 * (xs.length - 1) + lenW (lim xs (xs.length - 1))) := by
      unfold rbitsSp
      exact if_neg hne
    rw [E.out]
    have hw := lenW_le _ hL
    have Z := hide (fun W => len64 _ hL W)
    clear E ha hs hL
    generalize lenW (lim xs (xs.length - 1)) = l at *
    generalize lim xs (xs.length - 1) = x at *
    clear lx hne
    generalize xs.length = n at *
    have h5 : ((n : Int) == 0) = false := by simp; omega
    have F := hide (show ((64 * (n - 1) + l : Nat) : Int) = 64 * ((n : Int) - 1) + (l : Int) by omega)
    go_enter Tryz.func16, Tryz.ntmps16
    go_wp2_with (go_at_call 56; (with_reducible refine (Z.out _).mono ?_); rintro e w' ⟨rfl, rfl⟩)
    go_ret
    exact ⟨ret_one F.out.symm, rfl⟩

end Nt
end Go.Proofs.YtodphjnhoinpeaaGreatDoor
namespace Go.Proofs.YtodphjnhoinpeaaGreatDoor
open Go.RowKit
namespace Nt

/-- Shifted up so far, limb by limb. -/
def RsInv (xs : List Nat) (l r k cc : Nat) (cs : List Nat) : Prop :=
  cs.length = l + k ∧ Limbs cs ∧ cc < 2 ^ r ∧ val cs + LB ^ (l + k) * cc = LB ^ l * (2 ^ r * val (xs.take k))
theorem RsInv.zero (xs : List Nat) (l r : Nat) : RsInv xs l r 0 0 (List.replicate l 0) :=
  ⟨by simp, .replicate _, Nat.two_pow_pos r, by rw [val_replicate]; simp⟩
theorem RsInv.or {xs cs : List Nat} {l r s k cc : Nat} (h : RsInv xs l r k cc cs) (hrs : r + s = 64) (x : Nat) : orW (shlW x r) cc = cc + shlW x r ∧ cc + shlW x r < LB := by
  have h1 := h.2.2.1
  constructor
  · have := or_low (a := cc) (r := r) (x % 2 ^ s) h1
    rw [shl_form hrs]
    rw [← this]
    unfold orW
    exact Nat.or_comm _ _
  · rw [shl_form hrs, LB_split hrs]
    have : x % 2 ^ s + 1 ≤ 2 ^ s := Nat.mod_lt _ (Nat.two_pow_pos s)
    have := Nat.mul_le_mul_left (2 ^ r) this
    rw [Nat.mul_add, Nat.mul_one, Nat.mul_comm (2 ^ r) (2 ^ s)] at this
    omega
theorem RsInv.step {xs cs : List Nat} {l r s k cc : Nat} (lx : Limbs xs) (hrs : r + s = 64) (h : RsInv xs l r k cc cs) :
    RsInv xs l r (k + 1) (shrW (lim xs k) s) (cs ++ [cc + shlW (lim xs k) r]) := by
  obtain ⟨_, hv⟩ := h.or hrs (lim xs k)
  obtain ⟨h1, h2, h3, h4⟩ := h
  refine ⟨by simp [h1]; omega, h2.append (.one hv), shr_lt hrs (lx.get k), ?_⟩
  have e := shl_split (x := lim xs k) hrs
  have e1 : LB ^ (l + k) * (shlW (lim xs k) r + LB * shrW (lim xs k) s) = LB ^ (l + k) * (lim xs k * 2 ^ r) := by rw [e]
  rw [Nat.mul_add, ← Nat.mul_assoc] at e1
  have e2 : LB ^ (l + k) * (lim xs k * 2 ^ r) = LB ^ l * (2 ^ r * (LB ^ k * lim xs k)) := by
    rw [Nat.pow_add, Nat.mul_assoc]
    congr 1
    rw [Nat.mul_comm (lim xs k), Nat.mul_left_comm]
  rw [val_append, val_one, val_take_succ, h1, Nat.mul_add, Nat.mul_add, Nat.mul_add, show l + (k + 1) = l + k + 1 by omega, Nat.pow_succ]
  omega
theorem RsInv.done {xs cs : List Nat} {l r n cc : Nat} (hr : r < 64) (hn : n = 64 * l + r) (h : RsInv xs l r xs.length cc cs) : digs (val xs * 2 ^ n) = trimz (cs ++ [cc]) := by
  obtain ⟨h1, h2, h3, h4⟩ := h
  have hc : cc < LB := Nat.lt_of_lt_of_le h3 (by rw [show LB = 2 ^ 64 from rfl]; exact Nat.pow_le_pow_right (by decide) (by omega))
  rw [← digs_val (h2.append (.one hc)), val_append, val_one, h1, h4, List.take_length]
  congr 1
  rw [hn, Nat.pow_add, ← LB_two_pow, Nat.mul_left_comm, Nat.mul_comm (2 ^ r)]

set_option maxRecDepth 100000 in
set_option maxHeartbeats 2000000 in
theorem rshift_up (A : Option Addr) (c n : Nat) (xs : List Nat) (w : World) (hx : Sl w A xs) (lx : Limbs xs) (hl : xs.length ≤ 10000) (hn : n ≤ 100000) :
    Calls Tryz.prog 53 #[.slice A xs.length c, .int .i64 (n : Int)] w (Mk w (digs (val xs * 2 ^ n))) := by
  obtain ⟨l, hL⟩ : ∃ l, l = n / 64 := ⟨_, rfl⟩
  obtain ⟨r, hR⟩ : ∃ r, r = n % 64 := ⟨_, rfl⟩
  obtain ⟨s, hs⟩ : ∃ s, r + s = 64 := ⟨64 - r, by omega⟩
  have q1 : binOp .quo 3 (.int .i64 (n : Int)) (.int .i64 64) = pure (.int .i64 (l : Int)) := by
    rw [hL]; exact i64_quo _ n 64 (by omega) (by omega)
  have q2 : binOp .rem 3 (.int .i64 (n : Int)) (.int .i64 64) = pure (.int .i64 (r : Int)) := by
    rw [hR]; exact i64_rem _ n 64 (by omega)
  have hmk : ∀ W : World, (Instr.makeSlice 22 (.int .i64 (l : Int)) (.int .i64 (l : Int))).run Tryz.prog W = .ok (.slice (some ⟨W.heap.size, 0, none⟩) l l) (W.alloc (.cells (madeCells #[.int .u64 0] l) 56)) :=
    fun W => run_make_u64 .i64 .i64 l l (by omega) (by omega) W
  have wr0 : IntKind.u64.wrap (r : Int) = (r : Int) := by rw [IntKind.wrap_u64]; omega
  have r64 : r ≤ 63 := by omega
  have lb : l ≤ 10000 := by omega
  have HS := hide hs
  have HN := hide (show n = 64 * l + r by omega)
  clear hL hR hs
  go_enter Tryz.func53, Tryz.ntmps53
  go_wp2
  have M := hide ((Own.made (n := l) w (Nat.le_refl w.heap.size) (Nat.le_refl l) (by unfold maxLen; omega)).row (List.length_replicate ..))
  clear hmk
  go_loopw [9, 11, 12] (fun o cy i wr => ∃ (k cc e : Nat) (C : Option Addr) (cs : List Nat), k ≤ xs.length ∧ i = .int .i64 (k : Nat) ∧ cy = .int .u64 (cc : Nat) ∧ o = .slice C (l + k) e ∧ RsInv xs l r k cc cs ∧ Row wr w.heap.size C (l + k) e cs ∧ Below w.heap.size w wr) (fun _ _ i _ => xs.length - (intOf i).toNat)
  case atStart => exact ⟨0, 0, l, some ⟨w.heap.size, 0, none⟩, _, Nat.zero_le _, rfl, rfl, rfl, RsInv.zero _ _ _, M.out, (Below.refl _ _).alloc (Nat.le_refl _) _⟩
  case round =>
    obtain ⟨k, cc, e, C, cs, hk, rfl, rfl, rfl, ri, ho, hb⟩ := hrel
    by_cases hlt : k < xs.length
    · obtain ⟨b, o, rfl, ha0⟩ := hx.at_ (by omega)
      have hcx := (ha0.below hb ha0.lt).cell (j := k) (by omega)
      obtain ⟨or1, or2⟩ := ri.or HS.out (lim xs k)
      have o1 := op_shl 56 .u64 (lim xs k) r (by omega)
      have o2 := op_or 56 (shlW (lim xs k) r) cc (shlW_lt _ _) (by omega)
      rw [or1] at o2
      obtain ⟨vv, hvv⟩ : ∃ v, v = cc + shlW (lim xs k) r := ⟨_, rfl⟩
      have I0 := ri.step lx HS.out
      rw [← hvv] at o2 I0
      have I := hide I0
      clear I0 hvv
      have O := hide ho
      have BB := hide hb
      by_cases r0 : r = 0
      · have e0 : shrW (lim xs k) s = 0 := by
          have : s = 64 := by have := HS.out; omega
          unfold shrW
          rw [this]
          exact Nat.div_eq_of_lt (lx.get k)
        rw [e0] at I
        have og : binOp .gtr 91 (.int .u64 (r : Int)) (.int .u64 0) = pure (.bool false) := by
          show pure (Value.bool (decide ((0 : Int) < (r : Int)))) = _
          rw [decide_eq_false (by omega)]
        clear ri ho hb ha0 or1 or2 e0 r0
        generalize shlW (lim xs k) r = sh at *
        generalize lim xs k = x at *
        go_wp2_with (at_builtin; refine app_one _ rfl (.tmp 85) (.tmp 94) rfl w.heap.size (l + k) e vv C cs rfl (O.out.alloc _) ⟨wr.heap.size, 0, none⟩ 1 rfl (by rw [World.cell?_alloc_at _ _ _ _ rfl]; rfl) (by omega) (by simp; have := BB.out.size; omega) ?_; intro g1 c1 w1 hr1 hg1)
        go_roundw
        case rel => exact ⟨k + 1, 0, c1, some ⟨g1, 0, none⟩, _, by omega, by go_num, rfl, rfl, I.out, hr1, (BB.out.alloc BB.out.size _).grown hg1 (by simp; have := BB.out.size; omega) O.out.ownBlock⟩
        case measure => simp [intOf]; omega
      · have og : binOp .gtr 91 (.int .u64 (r : Int)) (.int .u64 0) = pure (.bool true) := by
          show pure (Value.bool (decide ((0 : Int) < (r : Int)))) = _
          rw [decide_eq_true (by omega)]
        have o3 : binOp .sub 91 (.int .u64 64) (.int .u64 (r : Int)) = pure (.int .u64 (s : Int)) := op_sub_le _ 64 r s (by have := HS.out; omega) (by rw [LB_eq]; omega)
        have o4 := op_shr 56 .u64 (lim xs k) s (by have := HS.out; omega)
        have HC := hide (fun W (h : Below w.heap.size w W) => (ha0.below h ha0.lt).cell (j := k) (by omega))
        clear ri ho hb ha0 or1 or2 r0
        generalize shlW (lim xs k) r = sh at *
        generalize shrW (lim xs k) s = sr at *
        generalize lim xs k = x at *
        go_wp2_with (at_builtin; refine app_one _ rfl (.tmp 85) (.tmp 94) rfl w.heap.size (l + k) e vv C cs rfl (O.out.alloc _) ⟨wr.heap.size, 0, none⟩ 1 rfl (by rw [World.cell?_alloc_at _ _ _ _ rfl]; rfl) (by omega) (by simp; have := BB.out.size; omega) ?_; intro g1 c1 w1 hr1 hg1; have bb1 := (BB.out.alloc BB.out.size (.cells #[.int .u64 (vv : Int)] 56)).grown hg1 (by simp; have := BB.out.size; omega) O.out.ownBlock; have hcx1 := HC.out _ bb1)
        go_roundw
        case rel => exact ⟨k + 1, sr, c1, some ⟨g1, 0, none⟩, _, by omega, by go_num, rfl, rfl, I.out, hr1, bb1⟩
        case measure => simp [intOf]; omega
    · obtain rfl : k = xs.length := by omega
      have D := hide (ri.done (by omega) HN.out)
      have O := hide ho
      have BB := hide hb
      have hcl := ho.len
      clear ri ho hb
      have T := hide (fun (C' : Option Addr) (c' : Nat) W (h : Row W w.heap.size C' (l + xs.length + 1) c' (cs ++ [cc])) => (show Calls Tryz.prog 66 #[.slice C' (l + xs.length + 1) c'] W (Mk W (trimz (cs ++ [cc]))) from by
        have := rtrim_any C' c' (cs ++ [cc]) W h.sl (by rw [h.len]; exact h.le) (by rw [h.len]; omega)
        rwa [h.len] at this))
      go_wp2_with (first
        | (at_builtin; refine app_one _ rfl (.tmp 105) (.tmp 107) rfl w.heap.size (l + xs.length) e cc C cs rfl (O.out.alloc _) ⟨wr.heap.size, 0, none⟩ 1 rfl (by rw [World.cell?_alloc_at _ _ _ _ rfl]; rfl) (by omega) (by simp; have := BB.out.size; omega) ?_; intro g1 c1 w1 hr1 hg1)
        | (go_at_call 66; (with_reducible refine (T.out _ _ _ hr1).mono ?_); rintro ee w2 ⟨A2, c2, rfl, hr2, hb2⟩))
      go_ret
      rw [D.out]
      have bb1 := (BB.out.alloc BB.out.size (.cells #[.int .u64 (cc : Int)] 56)).grown hg1 (by simp; have := BB.out.size; omega) O.out.ownBlock
      exact Mk.trans bb1 ⟨A2, c2, rfl, hr2, hb2⟩
end Nt
end Go.Proofs.YtodphjnhoinpeaaGreatDoor
namespace Go.Proofs.YtodphjnhoinpeaaGreatDoor
open Go.RowKit
namespace Nt

theorem lim_val {xs : List Nat} (l : Limbs xs) (i : Nat) : lim xs i = val xs / LB ^ i % LB := by
  rcases Nat.lt_or_ge i xs.length with h | h
  · have h1 := val_split h
    have h2 := val_lt (l.take i)
    rw [List.length_take, Nat.min_eq_left (by omega)] at h2
    rw [h1, Nat.add_mul_div_left _ _ (LB_pow_pos i), Nat.div_eq_of_lt h2, Nat.zero_add, Nat.add_mul_mod_self_left, Nat.mod_eq_of_lt (l.get i)]
  · have h1 := val_lt l
    have h2 : LB ^ xs.length ≤ LB ^ i := Nat.pow_le_pow_right LB_pos h
    rw [lim_none h, Nat.div_eq_of_lt (by omega), Nat.zero_mod]
theorem or_bit {L p : Nat} (h : L % 2 ^ (p + 1) = 0) : orW L (2 ^ p) = L + 2 ^ p := by
  have e : L = 2 ^ (p + 1) * (L / 2 ^ (p + 1)) := by
    have := Nat.div_add_mod L (2 ^ (p + 1))
    omega
  have h1 : 2 ^ p < 2 ^ (p + 1) := by rw [Nat.pow_succ]; have := Nat.two_pow_pos p; omega
  have := or_low (L / 2 ^ (p + 1)) h1
  rw [← e] at this
  rw [Nat.add_comm, ← this]
  unfold orW
  exact Nat.or_comm _ _

/-- So far: the quotient's digits from j on, and what is left. -/
structure DvI (X Y j N R : Nat) (qs : List Nat) : Prop where
  len : qs.length = N
  limbs : Limbs qs
  eq : X = val qs * Y + R
  lt : R < Y * 2 ^ j
  low : val qs % 2 ^ j = 0
theorem DvI.start {X Y N j : Nat} (h : X < Y * 2 ^ j) : DvI X Y j N X (List.replicate N 0) :=
  ⟨by simp, .replicate _, by rw [val_replicate]; omega, h, by rw [val_replicate]; simp⟩
theorem DvI.bit {X Y k N R : Nat} {qs : List Nat} (h : DvI X Y (k + 1) N R qs) : lim qs (k / 64) % 2 ^ (k % 64 + 1) = 0 := by
  have e : k + 1 = 64 * (k / 64) + (k % 64 + 1) := by omega
  have h1 := h.low
  have h2 := Nat.div_add_mod (val qs) (2 ^ (k + 1))
  rw [h1, Nat.add_zero] at h2
  rw [lim_val h.limbs, ← h2, LB_two_pow, e, Nat.pow_add, Nat.mul_assoc, Nat.mul_div_cancel_left _ (Nat.two_pow_pos _)]
  have hd : 2 ^ (k % 64 + 1) ∣ LB := by
    rw [show LB = 2 ^ 64 from rfl]
    exact Nat.pow_dvd_pow 2 (by omega)
  rw [Nat.mod_mod_of_dvd _ hd, Nat.mul_mod_right]
theorem DvI.take {X Y k N R : Nat} {qs : List Nat} (h : DvI X Y (k + 1) N R qs) (hk : k / 64 < N) (hR : Y * 2 ^ k ≤ R) :
    DvI X Y k N (R - Y * 2 ^ k) (qs.set (k / 64) (lim qs (k / 64) + 2 ^ (k % 64))) := by
  have hb := h.bit
  have ho := or_bit hb
  have hlt : lim qs (k / 64) + 2 ^ (k % 64) < LB := by
    rw [← ho]
    unfold orW
    refine Nat.or_lt_two_pow (n := 64) (h.limbs.get _) ?_
    exact Nat.pow_lt_pow_right (by decide) (by omega)
  have hv := val_set (xs := qs) (j := k / 64) (lim qs (k / 64) + 2 ^ (k % 64)) (by rw [h.len]; exact hk)
  have e : LB ^ (k / 64) * 2 ^ (k % 64) = 2 ^ k := by
    rw [LB_two_pow, ← Nat.pow_add]
    congr 1
    omega
  rw [Nat.mul_add, e] at hv
  have hv' : val (qs.set (k / 64) (lim qs (k / 64) + 2 ^ (k % 64))) = val qs + 2 ^ k := by omega
  have hl := h.lt
  rw [Nat.pow_succ, ← Nat.mul_assoc] at hl
  refine ⟨by simpa using h.len, h.limbs.set _ _ hlt, ?_, by omega, ?_⟩
  · have := h.eq
    rw [hv', Nat.add_mul, Nat.mul_comm (2 ^ k) Y]
    omega
  · have h1 := h.low
    rw [hv']
    have h2 := Nat.div_add_mod (val qs) (2 ^ (k + 1))
    rw [h1, Nat.add_zero, Nat.pow_succ, Nat.mul_assoc] at h2
    rw [← h2, Nat.add_mod_right, Nat.mul_mod_right]
theorem DvI.skip {X Y k N R : Nat} {qs : List Nat} (h : DvI X Y (k + 1) N R qs) (hR : R < Y * 2 ^ k) : DvI X Y k N R qs := by
  refine ⟨h.len, h.limbs, h.eq, hR, ?_⟩
  have h1 := h.low
  have h2 := Nat.div_add_mod (val qs) (2 ^ (k + 1))
  rw [h1, Nat.add_zero, Nat.pow_succ, Nat.mul_assoc] at h2
  rw [← h2, Nat.mul_mod_right]
theorem DvI.done {X Y N R : Nat} {qs : List Nat} (h : DvI X Y 0 N R qs) : X / Y = val qs ∧ X % Y = R := by
  have h1 := h.lt
  rw [Nat.pow_zero, Nat.mul_one] at h1
  have h2 := h.eq
  have hp : 0 < Y := by omega
  constructor
  · rw [h2, Nat.mul_comm, Nat.mul_add_div hp, Nat.div_eq_of_lt h1, Nat.add_zero]
  · rw [h2, Nat.mul_comm, Nat.mul_add_mod, Nat.mod_eq_of_lt h1]
theorem dv_start {X Y : Nat} (hy : 0 < Y) (h : Y ≤ X) : blen Y ≤ blen X ∧ X < Y * 2 ^ (blen X - blen Y + 1) := by
  have h1 := blen_mono h
  have h2 := blen_hi X
  obtain ⟨h3, h4⟩ := blen_lo (n := Y) (by omega)
  refine ⟨h1, Nat.lt_of_lt_of_le h2 ?_⟩
  refine Nat.le_trans ?_ (Nat.mul_le_mul_right _ h4)
  rw [← Nat.pow_add]
  exact Nat.pow_le_pow_right (by decide) (by omega)

theorem Row.set_far {w : World} {base n c : Nat} {A : Option Addr} {xs : List Nat} (h : Row w base A n c xs) {g j : Nat} (hg : g < base) (u : Value) : Row (w.setCell ⟨g, j, none⟩ u) base A n c xs :=
  h.keep fun a ha => Below.heap_setCell w ⟨g, j, none⟩ u a.block (by have := (h.lt a ha).1; intro e; simp at e; omega)
theorem kb {w w' : World} {A : Option Addr} {xs : List Nat} (b : Below w.heap.size w w') (h : Sl w A xs) : Sl w' A xs := bl_keeps b _ _ h
/-- A quotient and a rest, to be read. -/
def RTwo (w : World) (q r : Nat) (e : Ending) (w' : World) : Prop := ∃ A c B d, e = .returned (.tuple #[.slice A (digs q).length c, .slice B (digs r).length d]) ∧ Sl w' A (digs q) ∧ Sl w' B (digs r) ∧ Below w.heap.size w w'
theorem RTwo.mk {w w' : World} {q r n m c d : Nat} {A B : Option Addr} (hn : (digs q).length = n) (hm : (digs r).length = m) (hq : Sl w' A (digs q)) (hr : Sl w' B (digs r)) (hb : Below w.heap.size w w') : RTwo w q r (.returned (.tuple #[.slice A n c, .slice B m d])) w' := by
  subst hn hm; exact ⟨A, c, B, d, rfl, hq, hr, hb⟩

set_option maxRecDepth 100000 in
set_option maxHeartbeats 4000000 in
theorem rdivmod_num (A B : Option Addr) (c d x y N M : Nat) (w : World) (hxn : (digs x).length = N) (hyn : (digs y).length = M) (hx : Sl w A (digs x)) (hy : Sl w B (digs y)) (hl : N ≤ 1000) (hl' : M ≤ 1000) (hp : 0 < y) :
    Calls Tryz.prog 46 #[.slice A N c, .slice B M d] w (RTwo w (x / y) (x % y)) := by
  have hM : y ≤ x → M ≤ N := fun h => by
    rw [← hxn, ← hyn]; exact len_le_of_val (limbs_digs x) (norm_digs y) (by rw [val_digs, val_digs]; exact h)
  by_cases hlt : x < y
  · have C := rcmp_any A B c d (digs x) (digs y) w hx hy (limbs_digs x) (limbs_digs y) (norm_digs x) (norm_digs y) (by omega) (by omega)
    rw [hxn, hyn, val_digs, val_digs, cmpN_lt hlt] at C
    have C := hide C
    have HX := hide (fun q => hx.drewN q)
    have E1 := hide (show x / y = 0 from Nat.div_eq_of_lt hlt)
    have E2 := hide (show x % y = x from Nat.mod_eq_of_lt hlt)
    have L0 := hide (show (digs (x / y)).length = 0 by rw [E1.out, digs_zero]; rfl)
    have L1 := hide (show (digs (x % y)).length = N by rw [E2.out]; exact hxn)
    clear hx hy hM
    go_enter Tryz.func46, Tryz.ntmps46
    go_wp2_with (go_at_call 83; (with_reducible refine (C.out).mono ?_); rintro e w1 ⟨rfl, q0, rfl⟩)
    go_ret2
    exact RTwo.mk L0.out L1.out (by rw [E1.out, digs_zero]; exact .nil) (by rw [E2.out]; exact HX.out _) (bl_q0 rfl)
  · have hle : y ≤ x := by omega
    have mn := hM hle
    have C := rcmp_any A B c d (digs x) (digs y) w hx hy (limbs_digs x) (limbs_digs y) (norm_digs x) (norm_digs y) (by omega) (by omega)
    rw [hxn, hyn, val_digs, val_digs] at C
    have C := hide C
    have cz : 0 ≤ cmpN x y := cmpN_nonneg.2 hle
    obtain ⟨b1, b2⟩ := dv_start hp hle
    have hxN : blen x ≤ 64 * N := by rw [blen_le_iff, ← LB_two_pow]; exact length_digs_le.1 (Nat.le_of_eq hxn)
    have by1 : 0 < blen y := by have := (blen_lo (n := y) (by omega)).1; omega
    have BX := fun q => rbits_any A N c (digs x) (w.drewN q) hxn (hx.drewN q) (limbs_digs x) (by omega)
    have BY := fun q => rbits_any B M d (digs y) (w.drewN q) hyn (hy.drewN q) (limbs_digs y) (by omega)
    have BX' := hide (fun W (h : Below w.heap.size w W) => rbits_any A N c (digs x) W hxn (bl_keeps h _ _ hx) (limbs_digs x) (by omega))
    have BY' := hide (fun W (h : Below w.heap.size w W) => rbits_any B M d (digs y) W hyn (bl_keeps h _ _ hy) (limbs_digs y) (by omega))
    rw [rbits_val (limbs_digs x) (norm_digs x), val_digs] at BX'
    rw [rbits_val (limbs_digs y) (norm_digs y), val_digs] at BY'
    obtain ⟨K, hK⟩ : ∃ K, K + blen y = blen x := ⟨blen x - blen y, by omega⟩
    have q1 : binOp .sub 3 (.int .i64 (blen x : Int)) (.int .i64 (blen y : Int)) = pure (.int .i64 (K : Int)) := i64_sub _ (blen x) (blen y) K hK (by omega)
    have hmk : ∀ W : World, (Instr.makeSlice 22 (.int .i64 (N : Int)) (.int .i64 (N : Int))).run Tryz.prog W = .ok (.slice (some ⟨W.heap.size, 0, none⟩) N N) (W.alloc (.cells (madeCells #[.int .u64 0] N) 56)) :=
      fun W => run_make_u64 .i64 .i64 N N (by omega) (by omega) W
    have ST : Hid (DvI x y (K + 1) N x (List.replicate N 0)) := DvI.start (by rw [show K + 1 = blen x - blen y + 1 by omega]; exact b2)
    have KB := hide (show K < 64 * N by omega)
    have SH := hide (fun W (h : Below w.heap.size w W) k (hk : k ≤ 100000) => rshift_up B d k (digs y) W (bl_keeps h _ _ hy) (limbs_digs y) (by omega) hk)
    rw [hyn, val_digs] at SH
    have HX := hide hx
    have HY := hide hy
    have k0 : K ≤ 64000 := by omega
    clear BX BY hM hle hlt b1 b2 hxN by1 hK hp
    generalize blen x = bx at *
    generalize blen y = bY at *
    generalize cmpN x y = z0 at *
    go_enter Tryz.func46, Tryz.ntmps46
    go_wp2_with (first
      | (go_at_call 83; (with_reducible refine (C.out).mono ?_); rintro e w1 ⟨rfl, q0, rfl⟩; have M0 := hide (Own.made (n := N) (w.drewN q0) (Nat.le_refl _) (Nat.le_refl N) (by unfold maxLen; omega)); have B0 := hide (bl_allocs (bl_q0 (w := w) (q := q0) rfl) (.cells (madeCells #[.int .u64 0] N) 56)))
      | (go_at_call 16; (first | with_reducible refine (BX'.out _ B0.out).mono ?_ | with_reducible refine (BY'.out _ B0.out).mono ?_); rintro e w2 ⟨rfl, rfl⟩))
    clear hmk C BX' BY'
    go_loopw [7, 8] (fun r kk wr => ∃ (j : Nat) (D : Option Addr) (m e R : Nat) (qs : List Nat), j ≤ K + 1 ∧ kk = .int .i64 ((j : Int) - 1) ∧ r = .slice D m e ∧ (digs R).length = m ∧ R ≤ x ∧ Sl wr D (digs R) ∧ DvI x y j N R qs ∧ Own wr w.heap.size w.heap.size N qs ∧ Below w.heap.size w wr) (fun _ kk _ => (intOf kk + 1).toNat)
    case atStart => exact ⟨K + 1, A, N, c, x, _, Nat.le_refl _, by simp, rfl, hxn, Nat.le_refl _, bl_keeps B0.out _ _ HX.out, ST.out, M0.out, B0.out⟩
    case round =>
      obtain ⟨j, D, m, e, R, qs, hj, rfl, rfl, hm, hRx, hr, di, ho, hb⟩ := hrel
      have mN : m ≤ N := by rw [← hm, ← hxn]; exact len_le_of_val (limbs_digs x) (norm_digs R) (by rw [val_digs, val_digs]; exact hRx)
      cases j with
      | zero =>
        obtain ⟨d1, d2⟩ := di.done
        have T := hide (show Calls Tryz.prog 66 #[.slice (some ⟨w.heap.size, 0, none⟩) N N] wr (Mk wr (digs (x / y))) from by
          have := rtrim_any (some ⟨w.heap.size, 0, none⟩) N qs wr ho.sl (by rw [di.len]; exact Nat.le_refl _) (by rw [di.len]; omega)
          rwa [di.len, ← digs_val di.limbs, ← d1] at this)
        have E2 := hide d2
        have HR := hide hr
        have HM := hide hm
        have H := hide hb
        clear di ho hr hb d1 d2 hm
        go_wp2_with (go_at_call 66; (with_reducible refine (T.out).mono ?_); rintro ee w3 ⟨A3, c3, rfl, r3, hb3⟩)
        go_ret2
        exact RTwo.mk rfl (by rw [E2.out]; exact HM.out) r3.sl (by rw [E2.out]; exact bl_keeps hb3 _ _ HR.out) (bl_trans H.out hb3)
      | succ k =>
        have SHk := hide (SH.out wr hb k (by omega))
        have H := hide hb
        have kn : k / 64 < N := by have := KB.out; omega
        have sl : (digs (y * 2 ^ k)).length ≤ 10000 := by
          have h1 : y < LB ^ M := length_digs_le.1 (Nat.le_of_eq hyn)
          have h2 : 2 ^ k ≤ LB ^ (k / 64 + 1) := by
            rw [LB_two_pow]
            exact Nat.pow_le_pow_right (by decide) (by omega)
          have h3 : y * 2 ^ k < LB ^ (M + (k / 64 + 1)) := by
            rw [Nat.pow_add]
            exact Nat.lt_of_lt_of_le (Nat.mul_lt_mul_of_pos_right h1 (Nat.two_pow_pos k)) (Nat.mul_le_mul_left _ h2)
          exact Nat.le_trans (length_digs_le.2 h3) (by omega)
        have RC := hide (fun (S : Option Addr) (sc : Nat) W (hs : Sl W S (digs (y * 2 ^ k))) (hr' : Sl W D (digs R)) => rcmp_any D S e sc (digs R) (digs (y * 2 ^ k)) W hr' hs (limbs_digs _) (limbs_digs _) (norm_digs _) (norm_digs _) (by omega) (by omega))
        rw [hm, val_digs, val_digs] at RC
        have HR := hide hr
        have HM := hide hm
        have OO := hide ho
        by_cases hc : y * 2 ^ k ≤ R
        · have cz1 : 0 ≤ cmpN R (y * 2 ^ k) := cmpN_nonneg.2 hc
          have DT := hide (di.take kn hc)
          have OB := or_bit di.bit
          have hLL := di.limbs.get (k / 64)
          have RS := hide (fun (S : Option Addr) (sc : Nat) W (hs : Sl W S (digs (y * 2 ^ k))) (hr' : Sl W D (digs R)) => rsub_any D S e sc (digs R) (digs (y * 2 ^ k)) W hr' hs (limbs_digs _) (limbs_digs _) (by omega) (len_le_of_val (limbs_digs R) (norm_digs _) (by rw [val_digs, val_digs]; exact hc)) (by rw [val_digs, val_digs]; exact hc))
          rw [hm, val_digs, val_digs] at RS
          have RX := hide (show R - y * 2 ^ k ≤ x by omega)
          obtain ⟨i, hi⟩ : ∃ i, i = k / 64 := ⟨_, rfl⟩
          obtain ⟨p, hpp⟩ : ∃ p, p = k % 64 := ⟨_, rfl⟩
          obtain ⟨pw, hpw⟩ : ∃ v, v = 2 ^ p := ⟨_, rfl⟩
          rw [← hi, ← hpp] at OB DT
          rw [← hi] at hLL kn
          rw [← hpw] at OB DT
          have pL : pw < LB := by
            rw [hpw, show LB = 2 ^ 64 from rfl]
            exact Nat.pow_lt_pow_right (by decide) (by omega)
          have o0 : binOp .quo 3 (.int .i64 (k : Int)) (.int .i64 64) = pure (.int .i64 (i : Int)) := by rw [hi]; exact i64_quo _ k 64 (by omega) (by omega)
          have o1 : binOp .rem 3 (.int .i64 (k : Int)) (.int .i64 64) = pure (.int .i64 (p : Int)) := by rw [hpp]; exact i64_rem _ k 64 (by omega)
          have wp : IntKind.u64.wrap (p : Int) = (p : Int) := by rw [IntKind.wrap_u64]; omega
          have o2 : binOp .shl 56 (.int .u64 1) (.int .u64 (p : Int)) = pure (.int .u64 (pw : Int)) := by
            have h := op_shl 56 .u64 1 p (by omega)
            have h2 : shlW 1 p = pw := by
              unfold shlW
              rw [Nat.one_mul, ← hpw]
              exact Nat.mod_eq_of_lt pL
            rw [h2] at h
            exact h
          have o3 := op_or 56 (lim qs i) pw hLL pL
          rw [OB] at o3
          obtain ⟨nv, hnv⟩ : ∃ v, v = lim qs i + pw := ⟨_, rfl⟩
          rw [← hnv] at o3 DT
          have QL := hide di.len
          clear di hr hm ho hb hc hi hpp hpw OB pL hLL hnv sl
          generalize cmpN R (y * 2 ^ k) = z1 at *
          generalize y * 2 ^ k = sv at *
          go_wp2_with (first
            | (go_at_call 53; (with_reducible refine (SHk.out).mono ?_); rintro ee w3 ⟨S3, c3, rfl, r3, hb3⟩)
            | (go_at_call 83; (with_reducible refine (RC.out S3 c3 _ r3.sl (kb hb3 HR.out)).mono ?_); rintro ee w4 ⟨rfl, q4, h4⟩; have hb4 := bl_trans hb3 (bl_q0 h4); have s4 := hide (kb (bl_q0 h4) r3.sl); clear h4)
            | (go_at_call 84; (with_reducible refine (RS.out S3 c3 _ s4.out (kb hb4 HR.out)).mono ?_); rintro ee w5 ⟨D5, c5, rfl, r5, hb5⟩; have hb6 := bl_trans hb4 hb5; have ho6 := OO.out.below hb6 OO.out.lt; have hcell := ho6.cell (j := i) (by rw [QL.out]; exact kn); have hfr := ho6.frozen i; have O6 := hide (ho6.set i nv); clear ho6))
          have hs5 := hide ((r5.set_far (g := w.heap.size) (j := i) (Nat.lt_of_lt_of_le OO.out.lt hb4.size) (.int .u64 (nv : Int))).sl)
          have BB := hide ((bl_trans H.out hb6).setCell (Nat.le_refl _) (p := ⟨w.heap.size, i, none⟩) (.int .u64 (nv : Int)))
          clear hcell hfr hb3 hb4 hb5 hb6 r3 r5 s4
          go_roundw
          case rel => exact ⟨k, D5, _, c5, _, _, by omega, rfl, rfl, rfl, RX.out, hs5.out, DT.out, O6.out, BB.out⟩
          case measure => simp [intOf]
        · have DS := hide (di.skip (Nat.lt_of_not_le hc))
          have HRX := hide hRx
          rw [cmpN_lt (Nat.lt_of_not_le hc)] at RC
          clear di hr hm ho hb hc sl hRx
          generalize y * 2 ^ k = sv at *
          go_wp2_with (first
            | (go_at_call 53; (with_reducible refine (SHk.out).mono ?_); rintro ee w3 ⟨S3, c3, rfl, r3, hb3⟩)
            | (go_at_call 83; (with_reducible refine (RC.out S3 c3 _ r3.sl (kb hb3 HR.out)).mono ?_); rintro ee w4 ⟨rfl, q4, h4⟩; have hb4 := bl_trans hb3 (bl_q0 h4); clear h4))
          go_roundw
          case rel => exact ⟨k, D, m, e, R, qs, by omega, by go_num, rfl, HM.out, HRX.out, kb hb4 HR.out, DS.out, OO.out.below hb4 OO.out.lt, bl_trans H.out hb4⟩
          case measure => simp [intOf]
end Nt
end Go.Proofs.YtodphjnhoinpeaaGreatDoor
namespace Go.Proofs.YtodphjnhoinpeaaGreatDoor
open Go.RowKit
namespace Nt

set_option maxRecDepth 100000 in
set_option maxHeartbeats 2000000 in
theorem rgcd_num (A B : Option Addr) (c d x y N M : Nat) (w : World) (hxn : (digs x).length = N) (hyn : (digs y).length = M) (hx : Sl w A (digs x)) (hy : Sl w B (digs y)) (hl : N ≤ 1000) (hl' : M ≤ 1000) :
    Calls Tryz.prog 48 #[.slice A N c, .slice B M d] w fun e w' => ∃ A' c', e = .returned (.slice A' (digs (Nat.gcd x y)).length c') ∧ Sl w' A' (digs (Nat.gcd x y)) ∧ Below w.heap.size w w' := by
  have HX := hide hx
  have HY := hide hy
  clear hx hy
  go_enter Tryz.func48, Tryz.ntmps48
  go_wp2
  go_loopw [0, 1] (fun X Y wr => ∃ (A : Option Addr) (n a : Nat) (B : Option Addr) (m b p r : Nat), X = .slice A n a ∧ Y = .slice B m b ∧ Sl wr A (digs p) ∧ Sl wr B (digs r) ∧ (digs p).length = n ∧ (digs r).length = m ∧ n ≤ 1000 ∧ m ≤ 1000 ∧ Nat.gcd p r = Nat.gcd x y ∧ Below w.heap.size w wr) (fun _ Y wr => readV wr Y)
  case atStart => exact ⟨A, N, c, B, M, d, x, y, rfl, rfl, HX.out, HY.out, hxn, hyn, hl, hl', rfl, .refl _ _⟩
  case round =>
    obtain ⟨A3, n, a, B3, m, b, p, r, rfl, rfl, hx, hy, hn, hm, hnb, hmb, hg, hb⟩ := hrel
    by_cases h0 : m = 0
    · have hr0 : r = 0 := by
        rcases Nat.eq_zero_or_pos r with h | h
        · exact h
        · have := digs_lp.2 h; omega
      have F := hide (show Nat.gcd x y = p by rw [← hg, hr0, Nat.gcd_zero_right])
      have HN := hide hn
      have H := hide hb
      have HP := hide hx
      clear hx hy hg hb hn hm hr0
      subst h0
      go_wp2
      go_ret
      exact ⟨A3, a, by rw [F.out, HN.out]; rfl, by rw [F.out]; exact HP.out, H.out⟩
    · have rp : 0 < r := digs_lp.1 (by omega)
      have DV := hide (rdivmod_num A3 B3 a b p r n m wr hn hm hx hy hnb hmb rp)
      have M1 := hide (readV_sl hy m b hm)
      have HR := hide hy
      have HM := hide hm
      have G := hide hg
      have H := hide hb
      have RP := hide rp
      have h0' : 0 < m := by omega
      have LM := hide (show (digs (p % r)).length ≤ 1000 from Nat.le_trans (by rw [← hm]; exact len_le_of_val (limbs_digs r) (norm_digs _) (by rw [val_digs, val_digs]; exact Nat.le_of_lt (Nat.mod_lt _ rp))) hmb)
      have MB := hide hmb
      clear hx hy hg hb hn hm rp h0 hmb
      go_wp2_with (go_at_call 46; (with_reducible refine (DV.out).mono ?_); rintro e w3 ⟨A4, c4, B4, d4, rfl, hq, hr, hb3⟩)
      go_roundw
      case rel => exact ⟨B3, m, b, B4, _, d4, r, p % r, rfl, rfl, kb hb3 HR.out, hr, HM.out, rfl, MB.out, LM.out, by rw [← G.out, Nat.gcd_comm p r, Nat.gcd_rec r p, Nat.gcd_comm], bl_trans H.out hb3⟩
      case measure =>
        have M2 := readV_sl hr (digs (p % r)).length d4 rfl
        rw [M1.out, M2, val_digs, val_digs]
        exact Nat.mod_lt _ RP.out

/-- What a call hands back that answers a number and an error, to be read. -/
def R2 (w : World) (r : List Nat × Nat) (e : Ending) (w' : World) : Prop := ∃ A c, e = .returned (.tuple #[.slice A r.1.length c, .int .i64 (r.2 : Int)]) ∧ Sl w' A r.1 ∧ Below w.heap.size w w'
theorem R2.mk {w w' : World} {r : List Nat × Nat} {A : Option Addr} {l : List Nat} {n c e : Nat} (hr : r = (l, e)) (hn : l.length = n) (hs : Sl w' A l) (hb : Below w.heap.size w w') : R2 w r (.returned (.tuple #[.slice A n c, .int .i64 (e : Int)])) w' := by
  subst hr hn; exact ⟨A, c, rfl, hs, hb⟩
/-- .. two numbers and an error. -/
def R3 (w : World) (r : List Nat × List Nat × Nat) (e : Ending) (w' : World) : Prop := ∃ A c B d, e = .returned (.tuple #[.slice A r.1.length c, .slice B r.2.1.length d, .int .i64 (r.2.2 : Int)]) ∧ Sl w' A r.1 ∧ Sl w' B r.2.1 ∧ Below w.heap.size w w'
theorem R3.mk {w w' : World} {r : List Nat × List Nat × Nat} {A B : Option Addr} {l k : List Nat} {n m c d e : Nat} (hr : r = (l, k, e)) (hn : l.length = n) (hm : k.length = m) (hs : Sl w' A l) (ht : Sl w' B k) (hb : Below w.heap.size w w') : R3 w r (.returned (.tuple #[.slice A n c, .slice B m d, .int .i64 (e : Int)])) w' := by
  subst hr hn hm; exact ⟨A, c, B, d, rfl, hs, ht, hb⟩

set_option maxRecDepth 100000 in
set_option maxHeartbeats 1000000 in
theorem rgcdNat_any (A B : Option Addr) (c d : Nat) (xs ys : List Nat) (w : World) (hx : Sl w A xs) (hy : Sl w B ys) (lx : Limbs xs) (ly : Limbs ys) (hl : xs.length ≤ 1000000) (hl' : ys.length ≤ 1000000) :
    Calls Tryz.prog 10 #[.slice A xs.length c, .slice B ys.length d] w (R2 w (gcdSp xs ys)) := by
  have V' := hide (rvalid_any A c xs w hx (by omega))
  have U' := hide (rvalid_any B d ys w hy (by omega))
  rcases vB (xs := xs) with vx | vx
  · rcases vB (xs := ys) with vy | vy
    · have E := hide (gcdSp_ok vx vy)
      have dx := digs_val_norm lx (validB_iff.1 vx).2
      have dy := digs_val_norm ly (validB_iff.1 vy).2
      have L := hide (rgcd_num A B c d (val xs) (val ys) xs.length ys.length w (by rw [dx]) (by rw [dy]) (by rw [dx]; exact hx) (by rw [dy]; exact hy) (Nat.le_trans (validB_iff.1 vx).1 (by decide)) (Nat.le_trans (validB_iff.1 vy).1 (by decide)))
      rw [vx] at V'
      rw [vy] at U'
      clear hx hy lx ly vx vy dx dy
      go_enter Tryz.func10, Tryz.ntmps10
      go_wp2_with (first
        | (go_at_call 45; (first | with_reducible refine (V'.out).mono ?_ | with_reducible refine (U'.out).mono ?_); rintro e w' ⟨rfl, rfl⟩)
        | (go_at_call 48; (with_reducible refine (L.out).mono ?_); rintro e w1 ⟨A1, c1, rfl, hs, hb⟩; have O := hide hs; have BB := hide hb; clear hs hb))
      go_ret2
      exact R2.mk E.out rfl O.out BB.out
    · have E := hide (gcdSp_no (xs := xs) (.inr vy))
      rw [vx] at V'
      rw [vy] at U'
      go_enter Tryz.func10, Tryz.ntmps10
      go_wp2_with (go_at_call 45; (first | with_reducible refine (V'.out).mono ?_ | with_reducible refine (U'.out).mono ?_); rintro e w' ⟨rfl, rfl⟩)
      go_ret2
      exact R2.mk E.out rfl .nil (.refl _ _)
  · have E := hide (gcdSp_no (ys := ys) (.inl vx))
    rw [vx] at V'
    go_enter Tryz.func10, Tryz.ntmps10
    go_wp2_with (go_at_call 45; (first | with_reducible refine (V'.out).mono ?_ | with_reducible refine (U'.out).mono ?_); rintro e w' ⟨rfl, rfl⟩)
    go_ret2
    exact R2.mk E.out rfl .nil (.refl _ _)

set_option maxRecDepth 100000 in
set_option maxHeartbeats 1000000 in
theorem rdivNat_any (A B : Option Addr) (c d : Nat) (xs ys : List Nat) (w : World) (hx : Sl w A xs) (hy : Sl w B ys) (lx : Limbs xs) (ly : Limbs ys) (hl : xs.length ≤ 1000000) (hl' : ys.length ≤ 1000000) :
    Calls Tryz.prog 8 #[.slice A xs.length c, .slice B ys.length d] w (R3 w (divSp xs ys)) := by
  have V' := hide (rvalid_any A c xs w hx (by omega))
  have U' := hide (rvalid_any B d ys w hy (by omega))
  rcases vB (xs := xs) with vx | vx
  · rcases vB (xs := ys) with vy | vy
    · by_cases h0 : ys.length = 0
      · have E := hide (divSp_no (xs := xs) (.inr (.inr (List.eq_nil_of_length_eq_zero h0))))
        rw [vx] at V'
        rw [vy] at U'
        clear hx hy lx ly vx vy
        generalize ys.length = m at *
        subst h0
        go_enter Tryz.func8, Tryz.ntmps8
        go_wp2_with (go_at_call 45; (first | with_reducible refine (V'.out).mono ?_ | with_reducible refine (U'.out).mono ?_); rintro e w' ⟨rfl, rfl⟩)
        go_ret3
        exact R3.mk E.out rfl rfl .nil .nil (.refl _ _)
      · have E := hide (divSp_ok vx vy (by omega))
        have dx := digs_val_norm lx (validB_iff.1 vx).2
        have dy := digs_val_norm ly (validB_iff.1 vy).2
        have L := hide (rdivmod_num A B c d (val xs) (val ys) xs.length ys.length w (by rw [dx]) (by rw [dy]) (by rw [dx]; exact hx) (by rw [dy]; exact hy) (Nat.le_trans (validB_iff.1 vx).1 (by decide)) (Nat.le_trans (validB_iff.1 vy).1 (by decide)) (digs_lp.1 (by rw [dy]; omega)))
        have h0' : ((ys.length : Int) == 0) = false := beq_eq_false_iff_ne.2 (by omega)
        rw [vx] at V'
        rw [vy] at U'
        clear hx hy lx ly vx vy dx dy h0
        go_enter Tryz.func8, Tryz.ntmps8
        go_wp2_with (first
          | (go_at_call 45; (first | with_reducible refine (V'.out).mono ?_ | with_reducible refine (U'.out).mono ?_); rintro e w' ⟨rfl, rfl⟩)
          | (go_at_call 46; (with_reducible refine (L.out).mono ?_); rintro e w1 ⟨A1, c1, B1, d1, rfl, hq, hr, hb⟩; have O := hide hq; have O2 := hide hr; have BB := hide hb; clear hq hr hb))
        go_ret3
        exact R3.mk E.out rfl rfl O.out O2.out BB.out
    · have E := hide (divSp_no (xs := xs) (.inr (.inl vy)))
      rw [vx] at V'
      rw [vy] at U'
      go_enter Tryz.func8, Tryz.ntmps8
      go_wp2_with (go_at_call 45; (first | with_reducible refine (V'.out).mono ?_ | with_reducible refine (U'.out).mono ?_); rintro e w' ⟨rfl, rfl⟩)
      go_ret3
      exact R3.mk E.out rfl rfl .nil .nil (.refl _ _)
  · have E := hide (divSp_no (ys := ys) (.inl vx))
    rw [vx] at V'
    go_enter Tryz.func8, Tryz.ntmps8
    go_wp2_with (go_at_call 45; (first | with_reducible refine (V'.out).mono ?_ | with_reducible refine (U'.out).mono ?_); rintro e w' ⟨rfl, rfl⟩)
    go_ret3
    exact R3.mk E.out rfl rfl .nil .nil (.refl _ _)
end Nt
end Go.Proofs.YtodphjnhoinpeaaGreatDoor
namespace Go.Proofs.YtodphjnhoinpeaaGreatDoor
open Go.RowKit
namespace Nt

theorem DnInv.last {xs cs : List Nat} {l r s k : Nat} (lx : Limbs xs) (h : r + s = 64) (d : DnInv xs l r k cs) (hk : xs.length ≤ k + l + 1) :
    DnInv xs l r (k + 1) (cs ++ [shrW (lim xs (k + l)) r]) := by
  have h1 := d.step lx h
  have e : lim xs (k + l + 1) = 0 := lim_none hk
  rw [e] at h1
  have e2 : orW (shrW (lim xs (k + l)) r) (shlW 0 s) = shrW (lim xs (k + l)) r := by simp [orW, shlW]
  rwa [e2] at h1

theorem DnInv.all {xs cs : List Nat} {l k : Nat} (lx : Limbs xs) (d : DnInv xs l 0 k cs) (hk : l + k ≤ xs.length) :
    DnInv xs l 0 (xs.length - l) (cs ++ (xs.drop l).drop k) := by
  obtain ⟨h1, h2, h3⟩ := d
  refine ⟨by rw [List.length_append, List.length_drop, List.length_drop, h1]; omega, h2.append ((lx.drop l).drop k), ?_⟩
  rw [Nat.pow_zero, Nat.div_one, Nat.div_one] at h3
  rw [val_append, h1, show l + (xs.length - l) = xs.length by omega, List.drop_length, val_nil, Nat.zero_div, Nat.mul_zero, Nat.add_zero, Nat.pow_zero, Nat.div_one, List.drop_drop]
  exact h3

set_option maxRecDepth 100000 in
set_option maxHeartbeats 2000000 in
theorem rshift_down (b o c n : Nat) (xs : List Nat) (z : Int) (w : World) (hx : At w b o xs) (lx : Limbs xs) (hl : xs.length ≤ 10000) (hlc : xs.length ≤ c) (h0 : 0 < n) (hn : n ≤ 100000) (hz : z = -(n : Int)) :
    Calls Tryz.prog 53 #[.slice (some ⟨b, o, none⟩) xs.length c, .int .i64 z] w (Mk w (digs (val xs / 2 ^ n))) := by
  obtain ⟨l, hL⟩ : ∃ l, l = n / 64 := ⟨_, rfl⟩
  obtain ⟨r, hR⟩ : ∃ r, r = n % 64 := ⟨_, rfl⟩
  obtain ⟨s, hs⟩ : ∃ s, r + s = 64 := ⟨64 - r, by omega⟩
  have z0 : z < 0 := by omega
  have z1 : z ≤ 0 := by omega
  have z2 : -9223372036854775808 ≤ z := by omega
  have en : -z = (n : Int) := by omega
  have ew : wrap64 (-z) = (n : Int) := by rw [en]; unfold wrap64; omega
  have q1 : binOp .quo 3 (.int .i64 (n : Int)) (.int .i64 64) = pure (.int .i64 (l : Int)) := by
    rw [hL]; exact i64_quo _ n 64 (by omega) (by omega)
  have q2 : binOp .rem 3 (.int .i64 (n : Int)) (.int .i64 64) = pure (.int .i64 (r : Int)) := by
    rw [hR]; exact i64_rem _ n 64 (by omega)
  have wr0 : IntKind.u64.wrap (r : Int) = (r : Int) := by rw [IntKind.wrap_u64]; omega
  have r64 : r ≤ 63 := by omega
  have HS := hide hs
  have HN := hide (show n = 64 * l + r by omega)
  have HC := hide hlc
  clear hL hR hs en hz
  by_cases hk : xs.length ≤ l
  · have E := hide (show digs (val xs / 2 ^ n) = [] by
      have := HN.out
      rw [Nat.div_eq_of_lt (Nat.lt_of_lt_of_le (val_lt lx) (by rw [LB_two_pow]; exact Nat.pow_le_pow_right (by decide) (by omega))), digs_zero])
    go_enter Tryz.func53, Tryz.ntmps53
    go_wp2
    go_ret
    rw [E.out]
    exact Mk.intro (.nil _ _) (.refl _ _) rfl
  · obtain ⟨N, hN⟩ : ∃ N, N + l = xs.length := ⟨xs.length - l, by omega⟩
    obtain ⟨C, hC⟩ : ∃ C, C + l = c := ⟨c - l, by omega⟩
    have TL := hide (show Sl (w.alloc (.cells #[] 56)) (some ⟨b, o + l, none⟩) (xs.drop l) from (Sl.mk (⟨hx.1, fun j hj => by have h := hx.2 (l + j) (by rw [List.length_drop] at hj; omega); rw [lim_drop, Nat.add_assoc]; exact h⟩ : At w b (o + l) (xs.drop l))).alloc _)
    have TN := hide (show (xs.drop l).length = N by rw [List.length_drop]; omega)
    have e1 : xs.length - l = N := by omega
    have e2 : c - l = C := by omega
    go_enter Tryz.func53, Tryz.ntmps53
    go_wp2_with (at_builtin; refine app_any _ rfl (.tmp 22) (.tmp 25) rfl w.heap.size 0 0 N C (some ⟨w.heap.size, 0, none⟩) (some ⟨b, o + l, none⟩) [] (xs.drop l) rfl (Row.empty (Nat.le_refl _)) rfl TL.out TN.out (by omega) (by simp) ?_; intro A' c' w1 hr1 hg1; have hb1 := ((Below.refl _ _).alloc (Nat.le_refl _) _).grown hg1 (by simp) (Row.empty (Nat.le_refl _)).ownBlock; rw [List.nil_append, Nat.zero_add] at hr1; have HR := hide hr1; have HB := hide hb1; clear hr1 hb1 hg1)
    go_loopw [8] (fun i wr => ∃ (k : Nat) (cs : List Nat), k ≤ N ∧ i = .int .i64 (k : Nat) ∧ DnInv xs l r k cs ∧ Row wr w.heap.size A' N c' (cs ++ (xs.drop l).drop k) ∧ Below w.heap.size w wr) (fun i _ => N - (intOf i).toNat)
    case atStart => exact ⟨0, [], Nat.zero_le _, rfl, DnInv.zero _ _ _, by simpa using HR.out, HB.out⟩
    case round =>
      obtain ⟨k, cs, hk', rfl, di, ho, hb⟩ := hrel
      have T := hide (fun (C' : Option Addr) (c' : Nat) (ls : List Nat) W (h : Row W w.heap.size C' N c' ls) => (show Calls Tryz.prog 66 #[.slice C' N c'] W (Mk W (trimz ls)) from by
        have := rtrim_any C' c' ls W h.sl (by rw [h.len]; exact h.le) (by rw [h.len]; omega)
        rwa [h.len] at this))
      by_cases hlt : k < N
      · by_cases rp : r = 0
        · subst rp
          have D := hide ((di.all lx (by omega)).done lx HN.out (by omega)).1
          obtain ⟨ls, hls⟩ : ∃ ls, ls = cs ++ (xs.drop l).drop k := ⟨_, rfl⟩
          rw [← hls] at D ho
          have O := hide ho
          have BB := hide hb
          clear hls
          have og : binOp .gtr 91 (.int .u64 ((0 : Nat) : Int)) (.int .u64 0) = pure (.bool false) := rfl
          clear di ho hb
          go_wp2_with (go_at_call 66; (with_reducible refine (T.out _ _ _ _ O.out).mono ?_); rintro ee w2 ⟨A2, c2, rfl, hr2, hb2⟩)
          go_ret
          rw [D.out]
          exact Mk.trans BB.out ⟨A2, c2, rfl, hr2, hb2⟩
        · have og : binOp .gtr 91 (.int .u64 (r : Int)) (.int .u64 0) = pure (.bool true) := by
            show pure (Value.bool (decide ((0 : Int) < (r : Int)))) = _
            rw [decide_eq_true (by omega)]
          rcases ho.form with ⟨_, he⟩ | ⟨g, rfl, ho'⟩
          · exfalso
            have : (cs ++ (xs.drop l).drop k).length = 0 := by rw [he]; rfl
            rw [List.length_append, List.length_drop, List.length_drop] at this
            omega
          · have hcs := di.1
            have hkx : k < (xs.drop l).length := by rw [TN.out]; exact hlt
            have hcell := ho'.cell (j := k) (by rw [List.length_append, List.length_drop]; omega)
            rw [lim_mid hcs, lim_drop, Nat.add_comm l k] at hcell
            have hfr := ho'.frozen k
            have o1 := op_shr 56 .u64 (lim xs (k + l)) r (by omega)
            have hst := ho'.set k (shrW (lim xs (k + l)) r)
            have BB := hide hb
            have BG := hide ho'.base_le
            by_cases hl1 : k + 1 < N
            · have hcell2 := ho'.cell (j := k + 1) (by rw [List.length_append, List.length_drop, TN.out]; omega)
              have e3 : lim (cs ++ (xs.drop l).drop k) (k + 1) = lim xs (k + l + 1) := by
                have h1 := lim_append_right (xs := cs) (ys := (xs.drop l).drop k) (i := 1)
                rw [hcs] at h1
                rw [h1, lim_drop, lim_drop]
                congr 1; omega
              rw [e3] at hcell2
              have hc2 : ∀ u, (wr.setCell ⟨g, k, none⟩ u).cell? ⟨g, k + 1, none⟩ = some (.int .u64 ((lim xs (k + l + 1) : Nat) : Int)) := fun u =>
                (World.cell?_setCell_other wr _ _ u (by intro e; injection e; omega)).trans hcell2
              have hf2 := hst.frozen k
              have hst2 := hst.set k (orW (shrW (lim xs (k + l)) r) (shlW (lim xs (k + l + 1)) s))
              rw [List.set_set, set_drop _ hcs hkx] at hst2
              have S := hide (hst2.row (n := N) (by have := TN.out; rw [List.length_append, List.length_append, List.length_drop, List.length_singleton]; omega))
              have I := hide (di.step lx HS.out)
              have o0 : binOp .sub 91 (.int .u64 64) (.int .u64 (r : Int)) = pure (.int .u64 (s : Int)) := op_sub_le _ 64 r s (by have := HS.out; omega) (by rw [LB_eq]; omega)
              have o2 := op_shl 56 .u64 (lim xs (k + l + 1)) s (by have := HS.out; omega)
              have o3 := op_or 56 (shrW (lim xs (k + l)) r) (shlW (lim xs (k + l + 1)) s) (shrW_lt _ (lx.get _)) (shlW_lt _ _)
              clear hst hst2 hcell2 e3 di ho ho' hb hcs
              generalize orW (shrW (lim xs (k + l)) r) (shlW (lim xs (k + l + 1)) s) = z3 at *
              generalize shrW (lim xs (k + l)) r = z1 at *
              generalize shlW (lim xs (k + l + 1)) s = z2 at *
              generalize lim xs (k + l) = x at *
              generalize lim xs (k + l + 1) = y at *
              go_wp2_with fail
              go_region
              go_wp2
              go_roundw
              case rel => exact ⟨k + 1, _, by omega, by go_num, I.out, S.out, ((BB.out.setCell BG.out _).drew).setCell BG.out _⟩
              case measure => simp [intOf]; omega
            · have I0 := di.last lx HS.out (by omega)
              rw [set_drop _ hcs hkx] at hst
              have S := hide (hst.row (n := N) (by have := TN.out; rw [List.length_append, List.length_append, List.length_drop, List.length_singleton]; omega))
              have I := hide I0
              clear hst I0 di ho ho' hb hcs
              generalize shrW (lim xs (k + l)) r = z1 at *
              generalize lim xs (k + l) = x at *
              go_wp2
              go_roundw
              case rel => exact ⟨k + 1, _, by omega, by go_num, I.out, S.out, BB.out.setCell BG.out _⟩
              case measure => simp [intOf]; omega
      · obtain rfl : k = N := by omega
        have D := hide (di.done lx HN.out (by omega)).1
        rw [List.drop_of_length_le (by rw [TN.out]; exact Nat.le_refl _), List.append_nil] at ho
        have O := hide ho
        have BB := hide hb
        clear di ho hb
        go_wp2_with (go_at_call 66; (with_reducible refine (T.out _ _ _ _ O.out).mono ?_); rintro ee w2 ⟨A2, c2, rfl, hr2, hb2⟩)
        go_ret
        rw [D.out]
        exact Mk.trans BB.out ⟨A2, c2, rfl, hr2, hb2⟩
end Nt
end Go.Proofs.YtodphjnhoinpeaaGreatDoor
namespace Go.Proofs.YtodphjnhoinpeaaGreatDoor
open Go.RowKit
namespace Nt

theorem two_le_LB {n k e : Nat} (he : e = 64 * k) (h : n ≤ e) : 2 ^ n ≤ LB ^ k := by
  rw [LB_two_pow, ← he]; exact Nat.pow_le_pow_right (by decide) h
theorem LB_le_two {n k e : Nat} (he : e = 64 * k) (h : e ≤ n) : LB ^ k ≤ 2 ^ n := by
  rw [LB_two_pow, ← he]; exact Nat.pow_le_pow_right (by decide) h
theorem rfits_yes (A : Option Addr) (c : Nat) (xs : List Nat) (w : World) (h : xs.length ≤ 64) :
    Calls Tryz.prog 52 #[.slice A xs.length c] w fun e w' => e = .returned (.tuple #[.slice A xs.length c, .int .i64 0]) ∧ w = w' := by
  have := rfits_any A c xs w (by omega)
  rwa [if_pos h] at this
theorem rfits_no (A : Option Addr) (c : Nat) (xs : List Nat) (w : World) (h : ¬ xs.length ≤ 64) (h2 : xs.length ≤ 1000000) :
    Calls Tryz.prog 52 #[.slice A xs.length c] w fun e w' => e = .returned (.tuple #[.slice none 0 0, .int .i64 4]) ∧ w = w' := by
  have := rfits_any A c xs w h2
  rwa [if_neg h] at this
theorem upSp_le {xs : List Nat} {n : Nat} (v : validB xs = true) (h : (digs (val xs * 2 ^ n)).length ≤ 64) : upSp xs n = (digs (val xs * 2 ^ n), 0) := by
  unfold upSp; rw [v, if_pos rfl, if_pos (length_digs_le.1 h)]
theorem upSp_gt {xs : List Nat} {n : Nat} (v : validB xs = true) (h : ¬ (digs (val xs * 2 ^ n)).length ≤ 64) : upSp xs n = ([], 4) := by
  unfold upSp; rw [v, if_pos rfl, if_neg (fun h' => h (length_digs_le.2 h'))]
theorem val_pos_of {xs : List Nat} (v : validB xs = true) (h : xs.length ≠ 0) (lx : Limbs xs) : val xs ≠ 0 := by
  intro e
  have := digs_val_norm lx (validB_iff.1 v).2
  rw [e, digs_zero] at this
  rw [← this] at h
  exact h rfl

set_option maxRecDepth 100000 in
set_option maxHeartbeats 1000000 in
theorem rshiftNat_up (A : Option Addr) (c n : Nat) (xs : List Nat) (w : World) (hx : Sl w A xs) (lx : Limbs xs) (hl : xs.length ≤ 1000000) (hn : n ≤ 9223372036854775807) :
    Calls Tryz.prog 12 #[.slice A xs.length c, .int .i64 (n : Int)] w (R2 w (upSp xs n)) := by
  have V := hide (rvalid_any A c xs w hx (by omega))
  rcases vB (xs := xs) with vx | vx
  · rw [vx] at V
    have h64 := (validB_iff.1 vx).1
    by_cases h0 : xs.length = 0
    · have E := hide (upSp_zero n vx (by rw [List.eq_nil_of_length_eq_zero h0]; rfl))
      clear hx lx vx h64
      generalize xs.length = m at *
      subst h0
      go_enter Tryz.func12, Tryz.ntmps12
      go_wp2_with (go_at_call 45; (with_reducible refine (V.out).mono ?_); rintro e w' ⟨rfl, rfl⟩)
      go_ret2
      exact R2.mk E.out rfl .nil (.refl _ _)
    · have hne : ((xs.length : Int) == 0) = false := beq_eq_false_iff_ne.2 (by omega)
      have hlo : -4096 ≤ (n : Int) := by omega
      by_cases hsm : n ≤ 4096
      · have hle : (n : Int) ≤ 4096 := by omega
        have U := hide (rshift_up A c n xs w hx lx (by omega) (by omega))
        have hbig : (digs (val xs * 2 ^ n)).length ≤ 64 + 64 := length_digs_le.2 (by
          have h1 : val xs < LB ^ 64 := Nat.lt_of_lt_of_le (val_lt lx) (Nat.pow_le_pow_right LB_pos h64)
          have h2 : (2 : Nat) ^ n ≤ LB ^ 64 := two_le_LB (e := 4096) rfl hsm
          have h3 : val xs * 2 ^ n ≤ val xs * LB ^ 64 := Nat.mul_le_mul_left _ h2
          have h4 : val xs * LB ^ 64 < LB ^ 64 * LB ^ 64 := Nat.mul_lt_mul_of_pos_right h1 (LB_pow_pos 64)
          rw [← Nat.pow_add] at h4
          exact Nat.lt_of_le_of_lt h3 h4)
        by_cases hf : (digs (val xs * 2 ^ n)).length ≤ 64
        · have E := hide (upSp_le vx hf)
          clear hx lx vx
          generalize digs (val xs * 2 ^ n) = ds at *
          go_enter Tryz.func12, Tryz.ntmps12
          go_wp2_with (first
            | (go_at_call 45; (with_reducible refine (V.out).mono ?_); rintro e w' ⟨rfl, rfl⟩)
            | (go_at_call 53; (with_reducible refine (U.out).mono ?_); rintro e w1 ⟨A1, c1, rfl, hr1, hb1⟩)
            | (go_at_call 52; (with_reducible refine (rfits_yes _ _ _ _ hf).mono ?_); rintro e w' ⟨rfl, rfl⟩))
          go_ret2
          exact R2.mk E.out rfl hr1.sl hb1
        · have E := hide (upSp_gt vx hf)
          clear hx lx vx
          generalize digs (val xs * 2 ^ n) = ds at *
          go_enter Tryz.func12, Tryz.ntmps12
          go_wp2_with (first
            | (go_at_call 45; (with_reducible refine (V.out).mono ?_); rintro e w' ⟨rfl, rfl⟩)
            | (go_at_call 53; (with_reducible refine (U.out).mono ?_); rintro e w1 ⟨A1, c1, rfl, hr1, hb1⟩)
            | (go_at_call 52; (with_reducible refine (rfits_no _ _ _ _ hf (by omega)).mono ?_); rintro e w' ⟨rfl, rfl⟩))
          go_ret2
          exact R2.mk E.out rfl .nil hb1
      · have E := hide (upSp_big vx (val_pos_of vx h0 lx) (show 4096 < blen (val xs) + n by omega))
        have hle : 4096 < (n : Int) := by omega
        clear hx lx vx
        go_enter Tryz.func12, Tryz.ntmps12
        go_wp2_with (go_at_call 45; (with_reducible refine (V.out).mono ?_); rintro e w' ⟨rfl, rfl⟩)
        go_ret2
        exact R2.mk E.out rfl .nil (.refl _ _)
  · rw [vx] at V
    have E := hide (upSp_no n vx)
    go_enter Tryz.func12, Tryz.ntmps12
    go_wp2_with (go_at_call 45; (with_reducible refine (V.out).mono ?_); rintro e w' ⟨rfl, rfl⟩)
    go_ret2
    exact R2.mk E.out rfl .nil (.refl _ _)

set_option maxRecDepth 100000 in
set_option maxHeartbeats 1000000 in
theorem rshiftNat_down (A : Option Addr) (c n : Nat) (xs : List Nat) (z : Int) (w : World) (hx : Sl w A xs) (lx : Limbs xs) (hl : xs.length ≤ 1000000) (hlc : xs.length ≤ c) (hn : 0 < n) (hz : z = -(n : Int)) (hmin : -9223372036854775808 ≤ z) :
    Calls Tryz.prog 12 #[.slice A xs.length c, .int .i64 z] w (R2 w (downSp xs n)) := by
  have V := hide (rvalid_any A c xs w hx (by omega))
  rcases vB (xs := xs) with vx | vx
  · rw [vx] at V
    have h64 := (validB_iff.1 vx).1
    have hv : val xs < LB ^ 64 := Nat.lt_of_lt_of_le (val_lt lx) (Nat.pow_le_pow_right LB_pos h64)
    by_cases h0 : xs.length = 0
    · have E := hide (show downSp xs n = ([], 0) by rw [downSp_ok vx, List.eq_nil_of_length_eq_zero h0, val_nil, Nat.zero_div, digs_zero])
      clear hx lx vx h64 hlc hz
      generalize xs.length = m at *
      subst h0
      go_enter Tryz.func12, Tryz.ntmps12
      go_wp2_with (go_at_call 45; (with_reducible refine (V.out).mono ?_); rintro e w' ⟨rfl, rfl⟩)
      go_ret2
      exact R2.mk E.out rfl .nil (.refl _ _)
    · have hne : ((xs.length : Int) == 0) = false := beq_eq_false_iff_ne.2 (by omega)
      by_cases hsm : n ≤ 4096
      · have hlo : -4096 ≤ z := by omega
        have hle : z ≤ 4096 := by omega
        obtain ⟨b, o, rfl, ha⟩ := hx.at_ (by omega)
        have U := hide (rshift_down b o c n xs z w ha lx (by omega) hlc hn (by omega) hz)
        have hf : (digs (val xs / 2 ^ n)).length ≤ 64 := length_digs_le.2 (Nat.lt_of_le_of_lt (Nat.div_le_self _ _) hv)
        have E := hide (downSp_ok (n := n) vx)
        clear hx lx vx hz ha hv
        generalize digs (val xs / 2 ^ n) = ds at *
        go_enter Tryz.func12, Tryz.ntmps12
        go_wp2_with (first
          | (go_at_call 45; (with_reducible refine (V.out).mono ?_); rintro e w' ⟨rfl, rfl⟩)
          | (go_at_call 53; (with_reducible refine (U.out).mono ?_); rintro e w1 ⟨A1, c1, rfl, hr1, hb1⟩)
          | (go_at_call 52; (with_reducible refine (rfits_yes _ _ _ _ hf).mono ?_); rintro e w' ⟨rfl, rfl⟩))
        go_ret2
        exact R2.mk E.out rfl hr1.sl hb1
      · have hlo : z < -4096 := by omega
        have E := hide (show downSp xs n = ([], 0) by rw [downSp_ok vx, Nat.div_eq_of_lt (Nat.lt_of_lt_of_le hv (LB_le_two (e := 4096) rfl (by omega))), digs_zero])
        clear hx lx vx hz hv
        go_enter Tryz.func12, Tryz.ntmps12
        go_wp2_with (go_at_call 45; (with_reducible refine (V.out).mono ?_); rintro e w' ⟨rfl, rfl⟩)
        go_ret2
        exact R2.mk E.out rfl .nil (.refl _ _)
  · rw [vx] at V
    have E := hide (downSp_no n vx)
    clear hz
    go_enter Tryz.func12, Tryz.ntmps12
    go_wp2_with (go_at_call 45; (with_reducible refine (V.out).mono ?_); rintro e w' ⟨rfl, rfl⟩)
    go_ret2
    exact R2.mk E.out rfl .nil (.refl _ _)
end Nt
end Go.Proofs.YtodphjnhoinpeaaGreatDoor
namespace Go.Proofs.YtodphjnhoinpeaaGreatDoor
open Go.RowKit
namespace Nt

theorem R2.get {w : World} {r : List Nat × Nat} {e : Ending} {w' : World} (h : R2 w r e w') : ∃ A c, e = .returned (.tuple #[.slice A r.1.length c, .int .i64 (r.2 : Int)]) ∧ Sl w' A r.1 ∧ Below w.heap.size w w' := h
theorem R3.get {w : World} {r : List Nat × List Nat × Nat} {e : Ending} {w' : World} (h : R3 w r e w') : ∃ A c B d, e = .returned (.tuple #[.slice A r.1.length c, .slice B r.2.1.length d, .int .i64 (r.2.2 : Int)]) ∧ Sl w' A r.1 ∧ Sl w' B r.2.1 ∧ Below w.heap.size w w' := h

theorem val_top {xs : List Nat} (lx : Limbs xs) (v : validB xs = true) : val xs < LB ^ 64 := Nat.lt_of_lt_of_le (val_lt lx) (Nat.pow_le_pow_right LB_pos (validB_iff.1 v).1)
theorem digs_top {x y : Nat} (h : x ≤ y) (hy : y < LB ^ 64) : (digs x).length ≤ 64 := length_digs_le.2 (Nat.lt_of_le_of_lt h hy)
theorem divSp_len {xs ys : List Nat} (lx : Limbs xs) : (divSp xs ys).1.length ≤ 64 ∧ (divSp xs ys).2.1.length ≤ 64 := by
  rcases vB (xs := xs) with vx | vx
  · rcases vB (xs := ys) with vy | vy
    · by_cases h : 0 < ys.length
      · rw [divSp_ok vx vy h]
        exact ⟨digs_top (Nat.div_le_self _ _) (val_top lx vx), digs_top (Nat.mod_le _ _) (val_top lx vx)⟩
      · rw [divSp_no (.inr (.inr (List.eq_nil_of_length_eq_zero (by omega))))]
        exact ⟨Nat.zero_le _, Nat.zero_le _⟩
    · rw [divSp_no (.inr (.inl vy))]
      exact ⟨Nat.zero_le _, Nat.zero_le _⟩
  · rw [divSp_no (.inl vx)]
    exact ⟨Nat.zero_le _, Nat.zero_le _⟩
theorem gcdSp_len {xs ys : List Nat} (lx : Limbs xs) (ly : Limbs ys) : (gcdSp xs ys).1.length ≤ 64 := by
  rcases vB (xs := xs) with vx | vx
  · rcases vB (xs := ys) with vy | vy
    · rw [gcdSp_ok vx vy]
      rcases Nat.eq_zero_or_pos (val ys) with h | h
      · rw [h, Nat.gcd_zero_right]; exact digs_top (Nat.le_refl _) (val_top lx vx)
      · exact digs_top (Nat.gcd_le_right _ h) (val_top ly vy)
    · rw [gcdSp_no (.inr vy)]; exact Nat.zero_le _
  · rw [gcdSp_no (.inl vx)]; exact Nat.zero_le _
theorem upSp_len (xs : List Nat) (n : Nat) : (upSp xs n).1.length ≤ 64 := by
  rcases vB (xs := xs) with vx | vx
  · by_cases h : (digs (val xs * 2 ^ n)).length ≤ 64
    · rw [upSp_le vx h]; exact h
    · rw [upSp_gt vx h]; exact Nat.zero_le _
  · rw [upSp_no n vx]; exact Nat.zero_le _
theorem downSp_len {xs : List Nat} (lx : Limbs xs) (n : Nat) : (downSp xs n).1.length ≤ 64 := by
  rcases vB (xs := xs) with vx | vx
  · rw [downSp_ok vx]; exact digs_top (Nat.div_le_self _ _) (val_top lx vx)
  · rw [downSp_no n vx]; exact Nat.zero_le _

theorem shift_both (A : Option Addr) (c : Nat) (xs : List Nat) (n : Int) (lx : Limbs xs) (hl : xs.length ≤ 1000000) (hlc : xs.length ≤ c) (h1 : -9223372036854775808 ≤ n) (h2 : n ≤ 9223372036854775807) :
    ∃ sp : List Nat × Nat, sp.1.length ≤ 64 ∧ (∀ w, Sl w A xs → Calls Tryz.prog 11 #[.slice A xs.length c, .int .i64 n] w (Two w sp)) ∧
      ∀ w, Sl w A xs → Calls Tryz.prog 12 #[.slice A xs.length c, .int .i64 n] w (R2 w sp) := by
  by_cases h : 0 ≤ n
  · obtain ⟨k, rfl⟩ : ∃ k : Nat, n = (k : Int) := ⟨n.toNat, by omega⟩
    exact ⟨upSp xs k, upSp_len xs k, fun w hx => shift_up A c k xs w hx lx hl (by omega), fun w hx => rshiftNat_up A c k xs w hx lx hl (by omega)⟩
  · obtain ⟨k, hk⟩ : ∃ k : Nat, n = -(k : Int) := ⟨(-n).toNat, by omega⟩
    exact ⟨downSp xs k, downSp_len lx k, fun w hx => shift_down A c k xs n w hx lx hl (by omega) hk h1, fun w hx => rshiftNat_down A c k xs n w hx lx hl hlc (by omega) hk h1⟩
theorem of_both (n : Int) (h2 : n ≤ 9223372036854775807) :
    ∃ os : List Nat, os.length ≤ 1 ∧ (∀ w, Calls Tryz.prog 17 #[.int .i64 n] w (Mk w os)) ∧ ∀ w, Calls Tryz.prog 18 #[.int .i64 n] w (Mk w os) := by
  by_cases h : 0 < n
  · obtain ⟨k, rfl⟩ : ∃ k : Nat, n = (k : Int) := ⟨n.toNat, by omega⟩
    exact ⟨[k], Nat.le_refl _, fun w => of_any k (by omega) (by omega) w, fun w => rof_any k (by omega) (by omega) w⟩
  · exact ⟨[], Nat.zero_le _, fun w => of_no n (by omega) w, fun w => rof_no n (by omega) w⟩

section
open Go.ChangeShapes Go.WideShapes Go.ChangeAt Go.RowKit
/-- What is read as a row of words is no longer than it holds. -/
theorem arg_cap {H : Type} {enc : TypeId × Value → H} {W : World} {A : Option Addr} {n c : Nat} {d : DataW H} {p : List MemPlace} (h : DataW.Trod enc Tryz.prog W 0 (fun _ => true) true 22 (.slice A n c) d p) : n ≤ c := by
  obtain ⟨fuel, hf⟩ := h
  rcases open_ints Tryz.underlying22 Tryz.underlying56 cellsW hf with ⟨hcs, _⟩ | ⟨a, len, cap, zs, hcs, _, hl, _, _, _, _, _⟩
  · simp [Value.cells] at hcs
    omega
  · simp [Value.cells] at hcs
    omega
end
theorem int_b {n : Int} (h : (Lit.int .i64 n).wf = true) : -9223372036854775808 ≤ n ∧ n ≤ 9223372036854775807 := by
  have hb : IntKind.i64.min = -9223372036854775808 ∧ IntKind.i64.max = 9223372036854775807 := ⟨rfl, rfl⟩
  simp only [Lit.wf, hb.1, hb.2, Bool.and_eq_true, decide_eq_true_eq] at h
  exact h

set_option maxRecDepth 100000 in
set_option maxHeartbeats 4000000 in
theorem divides_law (A B : Option Addr) (c d : Nat) (xs ys : List Nat) (n : Int) (w : World) (hx : Sl w A xs) (hy : Sl w B ys) (lx : Limbs xs) (ly : Limbs ys) (hlx : xs.length ≤ 9223372036854775807) (hly : ys.length ≤ 9223372036854775807) (hlc : xs.length ≤ c) (hn : -9223372036854775808 ≤ n ∧ n ≤ 9223372036854775807) (ht : Pow10 w) :
    Calls Tryz.prog 3 #[.slice A xs.length c, .slice B ys.length d, .int .i64 n] w fun e w' => e = .returned (.bool true) ∧ Below w.heap.size w w' := by
  have W0 := hide (awake_any w ht)
  by_cases n0 : xs.length ≤ 12
  · by_cases n1 : ys.length ≤ 12
    · obtain ⟨sp, hs1, hs2, hs3⟩ := shift_both A c xs n lx (by omega) hlc hn.1 hn.2
      obtain ⟨os, ho1, ho2, ho3⟩ := of_both n hn.2
      have L1 := hide (divSp_len (ys := ys) lx).1
      have L2 := hide (divSp_len (ys := ys) lx).2
      have L3 := hide (gcdSp_len lx ly)
      have L4 := hide hs1
      have L5 := hide ho1
      have C1 := hide (fun W (h : Below w.heap.size w W) => divmod_all A B c d xs ys W (bl_keeps h _ _ hx) (bl_keeps h _ _ hy) lx ly (by omega) (by omega))
      have C2 := hide (fun W (h : Below w.heap.size w W) => rdivNat_any A B c d xs ys W (bl_keeps h _ _ hx) (bl_keeps h _ _ hy) lx ly (by omega) (by omega))
      have C3 := hide (fun W (h : Below w.heap.size w W) => gcd_any A B c d xs ys W (bl_keeps h _ _ hx) (bl_keeps h _ _ hy) lx ly (by omega) (by omega))
      have C4 := hide (fun W (h : Below w.heap.size w W) => rgcdNat_any A B c d xs ys W (bl_keeps h _ _ hx) (bl_keeps h _ _ hy) lx ly (by omega) (by omega))
      have C5 := hide (fun W (h : Below w.heap.size w W) => hs2 W (bl_keeps h _ _ hx))
      have C6 := hide (fun W (h : Below w.heap.size w W) => hs3 W (bl_keeps h _ _ hx))
      have O1 := hide ho2
      have O2 := hide ho3
      have V1 := hide (fun W (h : Below w.heap.size w W) => valid_any A c xs W (bl_keeps h _ _ hx) (by omega))
      clear hs1 hs2 hs3 ho1 ho2 ho3
      rcases vB (xs := xs) with v | v
      · have Q1 := hide (fun W (h : Below w.heap.size w W) => bits_any A c xs W (bl_keeps h _ _ hx) lx (by omega))
        have eq := rbits_val lx (validB_iff.1 v).2
        rw [← bits_val lx v] at eq
        have Q2 := hide (fun W (h : Below w.heap.size w W) => rbits_any A xs.length c xs W rfl (bl_keeps h _ _ hx) lx (by omega))
        rw [eq] at Q2
        clear eq
        rw [v] at V1
        clear hx hy lx ly v hlc hn
        generalize divSp xs ys = r1 at *
        generalize gcdSp xs ys = r2 at *
        generalize bitsSp xs = z at *
        have b : Below w.heap.size w w := .refl _ _
        go_enter Tryz.func3, Tryz.ntmps3
        go_wp2_with (first
          | (go_at_call 7; (with_reducible refine (C1.out w b).mono ?_); rintro e w1 h; obtain ⟨A1, c1, B1, d1, rfl, s1, t1, b0⟩ := h.get; have b := bl_trans b b0; clear h b0)
          | (go_at_call 8; (with_reducible refine (C2.out w1 b).mono ?_); rintro e w2 h; obtain ⟨A2, c2, B2, d2, rfl, s2, t2, b0⟩ := h.get; have b := bl_trans b b0; have s1 := bl_keeps b0 _ _ s1; have t1 := bl_keeps b0 _ _ t1; clear h b0)
          | (go_at_call 9; (with_reducible refine (C3.out w2 b).mono ?_); rintro e w3 h; obtain ⟨A3, c3, rfl, s3, b0⟩ := h.get; have b := bl_trans b b0; have s1 := bl_keeps b0 _ _ s1; have t1 := bl_keeps b0 _ _ t1; have s2 := bl_keeps b0 _ _ s2; have t2 := bl_keeps b0 _ _ t2; clear h b0)
          | (go_at_call 10; (with_reducible refine (C4.out w3 b).mono ?_); rintro e w4 h; obtain ⟨A4, c4, rfl, s4, b0⟩ := h.get; have b := bl_trans b b0; have s1 := bl_keeps b0 _ _ s1; have t1 := bl_keeps b0 _ _ t1; have s2 := bl_keeps b0 _ _ s2; have t2 := bl_keeps b0 _ _ t2; have s3 := bl_keeps b0 _ _ s3; clear h b0)
          | (go_at_call 11; (with_reducible refine (C5.out w4 b).mono ?_); rintro e w5 h; obtain ⟨A5, c5, rfl, s5, b0⟩ := h.get; have b := bl_trans b b0; have s1 := bl_keeps b0 _ _ s1; have t1 := bl_keeps b0 _ _ t1; have s2 := bl_keeps b0 _ _ s2; have t2 := bl_keeps b0 _ _ t2; have s3 := bl_keeps b0 _ _ s3; have s4 := bl_keeps b0 _ _ s4; clear h b0)
          | (go_at_call 12; (with_reducible refine (C6.out w5 b).mono ?_); rintro e w6 h; obtain ⟨A6, c6, rfl, s6, b0⟩ := h.get; have b := bl_trans b b0; have s1 := bl_keeps b0 _ _ s1; have t1 := bl_keeps b0 _ _ t1; have s2 := bl_keeps b0 _ _ s2; have t2 := bl_keeps b0 _ _ t2; have s3 := bl_keeps b0 _ _ s3; have s4 := bl_keeps b0 _ _ s4; have s5 := bl_keeps b0 _ _ s5; clear h b0)
          | (go_at_call 13; (with_reducible refine (law_same_t A1 A2 _ _ _ _ r1.1 r1.1 w6 rfl rfl s1 s2 (by have := L1.out; omega) (by have := L1.out; omega) rfl).mono ?_); rintro e w7 ⟨rfl, q0, h0⟩; have b0 := bl_q0 h0; have b := bl_trans b b0; have t1 := bl_keeps b0 _ _ t1; have t2 := bl_keeps b0 _ _ t2; have s3 := bl_keeps b0 _ _ s3; have s4 := bl_keeps b0 _ _ s4; have s5 := bl_keeps b0 _ _ s5; have s6 := bl_keeps b0 _ _ s6; clear h0 b0)
          | (go_at_call 13; (with_reducible refine (law_same_t B1 B2 _ _ _ _ r1.2.1 r1.2.1 w7 rfl rfl t1 t2 (by have := L2.out; omega) (by have := L2.out; omega) rfl).mono ?_); rintro e w8 ⟨rfl, q0, h0⟩; have b0 := bl_q0 h0; have b := bl_trans b b0; have s3 := bl_keeps b0 _ _ s3; have s4 := bl_keeps b0 _ _ s4; have s5 := bl_keeps b0 _ _ s5; have s6 := bl_keeps b0 _ _ s6; clear h0 b0)
          | (go_at_call 13; (with_reducible refine (law_same_t A3 A4 _ _ _ _ r2.1 r2.1 w8 rfl rfl s3 s4 (by have := L3.out; omega) (by have := L3.out; omega) rfl).mono ?_); rintro e w9 ⟨rfl, q0, h0⟩; have b0 := bl_q0 h0; have b := bl_trans b b0; have s5 := bl_keeps b0 _ _ s5; have s6 := bl_keeps b0 _ _ s6; clear h0 b0)
          | (go_at_call 13; (with_reducible refine (law_same_t A5 A6 _ _ _ _ sp.1 sp.1 w9 rfl rfl s5 s6 (by have := L4.out; omega) (by have := L4.out; omega) rfl).mono ?_); rintro e w10 ⟨rfl, q0, h0⟩; have b0 := bl_q0 h0; have b := bl_trans b b0; clear h0 b0)
          | (go_at_call 14; (with_reducible refine (V1.out w10 b).mono ?_); rintro e w' ⟨rfl, rfl⟩)
          | (go_at_call 15; (with_reducible refine (Q1.out w10 b).mono ?_); rintro e w' ⟨rfl, rfl⟩)
          | (go_at_call 16; (with_reducible refine (Q2.out w10 b).mono ?_); rintro e w' ⟨rfl, rfl⟩)
          | (go_at_call 17; (with_reducible refine (O1.out w10).mono ?_); rintro e w14 ⟨A7, c7, rfl, r0, b0⟩; have s7 := r0.sl; have b := bl_trans b b0; clear r0 b0)
          | (go_at_call 18; (with_reducible refine (O2.out w14).mono ?_); rintro e w15 ⟨A8, c8, rfl, r0, b0⟩; have s8 := r0.sl; have b := bl_trans b b0; have s7 := bl_keeps b0 _ _ s7; clear r0 b0)
          | (go_at_call 13; (with_reducible refine (law_same_t A7 A8 _ _ _ _ os os w15 rfl rfl s7 s8 (by have := L5.out; omega) (by have := L5.out; omega) rfl).mono ?_); rintro e w16 ⟨rfl, q0, h0⟩; have b0 := bl_q0 h0; have b := bl_trans b b0; clear h0 b0)
          | (go_at_call 6; (with_reducible refine (awake_any w16 (pow_below ht b)).mono ?_); rintro e w17 ⟨rfl, b0⟩; have b := bl_trans b b0; clear b0))
        go_ret
        exact ⟨rfl, b⟩
      · rw [v] at V1
        clear hx hy lx ly v hlc hn
        generalize divSp xs ys = r1 at *
        generalize gcdSp xs ys = r2 at *
        have b : Below w.heap.size w w := .refl _ _
        go_enter Tryz.func3, Tryz.ntmps3
        go_wp2_with (first
          | (go_at_call 7; (with_reducible refine (C1.out w b).mono ?_); rintro e w1 h; obtain ⟨A1, c1, B1, d1, rfl, s1, t1, b0⟩ := h.get; have b := bl_trans b b0; clear h b0)
          | (go_at_call 8; (with_reducible refine (C2.out w1 b).mono ?_); rintro e w2 h; obtain ⟨A2, c2, B2, d2, rfl, s2, t2, b0⟩ := h.get; have b := bl_trans b b0; have s1 := bl_keeps b0 _ _ s1; have t1 := bl_keeps b0 _ _ t1; clear h b0)
          | (go_at_call 9; (with_reducible refine (C3.out w2 b).mono ?_); rintro e w3 h; obtain ⟨A3, c3, rfl, s3, b0⟩ := h.get; have b := bl_trans b b0; have s1 := bl_keeps b0 _ _ s1; have t1 := bl_keeps b0 _ _ t1; have s2 := bl_keeps b0 _ _ s2; have t2 := bl_keeps b0 _ _ t2; clear h b0)
          | (go_at_call 10; (with_reducible refine (C4.out w3 b).mono ?_); rintro e w4 h; obtain ⟨A4, c4, rfl, s4, b0⟩ := h.get; have b := bl_trans b b0; have s1 := bl_keeps b0 _ _ s1; have t1 := bl_keeps b0 _ _ t1; have s2 := bl_keeps b0 _ _ s2; have t2 := bl_keeps b0 _ _ t2; have s3 := bl_keeps b0 _ _ s3; clear h b0)
          | (go_at_call 11; (with_reducible refine (C5.out w4 b).mono ?_); rintro e w5 h; obtain ⟨A5, c5, rfl, s5, b0⟩ := h.get; have b := bl_trans b b0; have s1 := bl_keeps b0 _ _ s1; have t1 := bl_keeps b0 _ _ t1; have s2 := bl_keeps b0 _ _ s2; have t2 := bl_keeps b0 _ _ t2; have s3 := bl_keeps b0 _ _ s3; have s4 := bl_keeps b0 _ _ s4; clear h b0)
          | (go_at_call 12; (with_reducible refine (C6.out w5 b).mono ?_); rintro e w6 h; obtain ⟨A6, c6, rfl, s6, b0⟩ := h.get; have b := bl_trans b b0; have s1 := bl_keeps b0 _ _ s1; have t1 := bl_keeps b0 _ _ t1; have s2 := bl_keeps b0 _ _ s2; have t2 := bl_keeps b0 _ _ t2; have s3 := bl_keeps b0 _ _ s3; have s4 := bl_keeps b0 _ _ s4; have s5 := bl_keeps b0 _ _ s5; clear h b0)
          | (go_at_call 13; (with_reducible refine (law_same_t A1 A2 _ _ _ _ r1.1 r1.1 w6 rfl rfl s1 s2 (by have := L1.out; omega) (by have := L1.out; omega) rfl).mono ?_); rintro e w7 ⟨rfl, q0, h0⟩; have b0 := bl_q0 h0; have b := bl_trans b b0; have t1 := bl_keeps b0 _ _ t1; have t2 := bl_keeps b0 _ _ t2; have s3 := bl_keeps b0 _ _ s3; have s4 := bl_keeps b0 _ _ s4; have s5 := bl_keeps b0 _ _ s5; have s6 := bl_keeps b0 _ _ s6; clear h0 b0)
          | (go_at_call 13; (with_reducible refine (law_same_t B1 B2 _ _ _ _ r1.2.1 r1.2.1 w7 rfl rfl t1 t2 (by have := L2.out; omega) (by have := L2.out; omega) rfl).mono ?_); rintro e w8 ⟨rfl, q0, h0⟩; have b0 := bl_q0 h0; have b := bl_trans b b0; have s3 := bl_keeps b0 _ _ s3; have s4 := bl_keeps b0 _ _ s4; have s5 := bl_keeps b0 _ _ s5; have s6 := bl_keeps b0 _ _ s6; clear h0 b0)
          | (go_at_call 13; (with_reducible refine (law_same_t A3 A4 _ _ _ _ r2.1 r2.1 w8 rfl rfl s3 s4 (by have := L3.out; omega) (by have := L3.out; omega) rfl).mono ?_); rintro e w9 ⟨rfl, q0, h0⟩; have b0 := bl_q0 h0; have b := bl_trans b b0; have s5 := bl_keeps b0 _ _ s5; have s6 := bl_keeps b0 _ _ s6; clear h0 b0)
          | (go_at_call 13; (with_reducible refine (law_same_t A5 A6 _ _ _ _ sp.1 sp.1 w9 rfl rfl s5 s6 (by have := L4.out; omega) (by have := L4.out; omega) rfl).mono ?_); rintro e w10 ⟨rfl, q0, h0⟩; have b0 := bl_q0 h0; have b := bl_trans b b0; clear h0 b0)
          | (go_at_call 14; (with_reducible refine (V1.out w10 b).mono ?_); rintro e w' ⟨rfl, rfl⟩)
          | (go_at_call 15; (with_reducible refine (Q1.out w10 b).mono ?_); rintro e w' ⟨rfl, rfl⟩)
          | (go_at_call 16; (with_reducible refine (Q2.out w10 b).mono ?_); rintro e w' ⟨rfl, rfl⟩)
          | (go_at_call 17; (with_reducible refine (O1.out w10).mono ?_); rintro e w14 ⟨A7, c7, rfl, r0, b0⟩; have s7 := r0.sl; have b := bl_trans b b0; clear r0 b0)
          | (go_at_call 18; (with_reducible refine (O2.out w14).mono ?_); rintro e w15 ⟨A8, c8, rfl, r0, b0⟩; have s8 := r0.sl; have b := bl_trans b b0; have s7 := bl_keeps b0 _ _ s7; clear r0 b0)
          | (go_at_call 13; (with_reducible refine (law_same_t A7 A8 _ _ _ _ os os w15 rfl rfl s7 s8 (by have := L5.out; omega) (by have := L5.out; omega) rfl).mono ?_); rintro e w16 ⟨rfl, q0, h0⟩; have b0 := bl_q0 h0; have b := bl_trans b b0; clear h0 b0)
          | (go_at_call 6; (with_reducible refine (awake_any w16 (pow_below ht b)).mono ?_); rintro e w17 ⟨rfl, b0⟩; have b := bl_trans b b0; clear b0))
        go_ret
        exact ⟨rfl, b⟩
    · clear hx hy lx ly hlc hn
      go_enter Tryz.func3, Tryz.ntmps3
      go_wp2_with (go_at_call 6; (with_reducible refine (W0.out).mono ?_); rintro e w13 ⟨rfl, b⟩)
      go_ret
      exact ⟨rfl, b⟩
  · clear hx hy lx ly hlc hn
    go_enter Tryz.func3, Tryz.ntmps3
    go_wp2_with (go_at_call 6; (with_reducible refine (W0.out).mono ?_); rintro e w13 ⟨rfl, b⟩)
    go_ret
    exact ⟨rfl, b⟩
end Nt
end Go.Proofs.YtodphjnhoinpeaaGreatDoor
