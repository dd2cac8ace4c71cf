
/-
  The law WholeSigns.
-/
import Derived.Test.YtgmjdaallinicaaGreatDoorWholeZ

import Derived.RegionTactic

import Derived.ChangeAlike

import Derived.BigRegion

namespace Go.Proofs.YtgmjdaallinicaaGreatDoor

open Go.RowKit

namespace Nt

theorem abs_lt8 {x : Int} (h : x.natAbs < LB ^ 8) : x.natAbs < LB ^ 64 := Nat.lt_of_lt_of_le h (Nat.pow_le_pow_right LB_pos (by decide))
theorem kq {w w' : World} {A : Option Addr} {xs : List Nat} (b : Below w.heap.size w w') (h : Sl w A xs) : Sl w' A xs := bl_keeps b _ _ h
theorem ic2 (s : Bool) (A : Option Addr) (n a : Nat) (t : Bool) (B : Option Addr) (m b : Nat) (w : World) :
    Ic w.heap.size s A n a ((w.alloc (.cells #[.bool s, .slice A n a] 41)).alloc (.cells #[.bool t, .slice B m b] 41)) ∧
    Ic (w.heap.size + 1) t B m b ((w.alloc (.cells #[.bool s, .slice A n a] 41)).alloc (.cells #[.bool t, .slice B m b] 41)) :=
  ⟨(Ic.new s A n a w).al _, Ic.new2 t B m b w _⟩
theorem Ic.lt' {g : Nat} {s : Bool} {A : Option Addr} {n c : Nat} {w : World} (x : Ic g s A n c w) : g < w.heap.size := by
  have h := x.1
  unfold World.cell? at h
  cases hh : w.heap[g]? with
  | none => rw [hh] at h; cases h
  | some y => exact (Array.getElem?_eq_some_iff.1 hh).1
section

variable (A B : Option Addr) (n m c d : Nat) (x y : Int) (w : World) (hn : (idg x).length = n) (hm : (idg y).length = m) (sx : Sl w A (idg x)) (sy : Sl w B (idg y)) (hx : x.natAbs < LB ^ 64) (hy : y.natAbs < LB ^ 64)

include hn hm sx sy hx hy
theorem divI_num (h0 : y ≠ 0) : Calls Tryz.prog 40 #[.agg #[.bool (isg x), .slice A n c], .agg #[.bool (isg y), .slice B m d]] w (IThree w ((isg (quoI x y), idg (quoI x y)), (isg (remI x y), idg (remI x y)), 0)) := by
  subst hn hm
  have := divI_any (isg x) (isg y) A B c d (idg x) (idg y) w sx sy (limbs_idg x) (limbs_idg y) (Nat.le_trans (idg_len hx) (by decide)) (Nat.le_trans (idg_len hy) (by decide))
  rwa [divISp_num hx hy h0] at this
theorem addI_at (z : Int) (hz : x + y = z) (h : z.natAbs < LB ^ 64) : Calls Tryz.prog 22 #[.agg #[.bool (isg x), .slice A n c], .agg #[.bool (isg y), .slice B m d]] w (ITwo w (isg z, idg z, 0)) := by
  subst hz
  exact addI_num A B n m c d x y w hn hm sx sy hx hy h
theorem cmpI_abs (k : Int) (hk : cmpZ (x.natAbs : Int) (y.natAbs : Int) = k) : Calls Tryz.prog 32 #[.agg #[.bool false, .slice A n c], .agg #[.bool false, .slice B m d]] w fun e w' => e = .returned (.int .i64 k) ∧ Below w.heap.size w w' := by
  have e1 : idg x = idg (x.natAbs : Int) := by unfold idg; rw [Int.natAbs_natCast]
  have e2 : idg y = idg (y.natAbs : Int) := by unfold idg; rw [Int.natAbs_natCast]
  have f1 : isg (x.natAbs : Int) = false := by unfold isg; exact decide_eq_false (by omega)
  have f2 : isg (y.natAbs : Int) = false := by unfold isg; exact decide_eq_false (by omega)
  rw [e1] at hn sx
  rw [e2] at hm sy
  have := cmpI_num A B n m c d (x.natAbs : Int) (y.natAbs : Int) w hn hm sx sy (by rw [Int.natAbs_natCast]; exact hx) (by rw [Int.natAbs_natCast]; exact hy) k hk
  rwa [f1, f2] at this
end

section

variable (A : Option Addr) (n c : Nat) (x : Int) (w : World) (hn : (idg x).length = n) (sx : Sl w A (idg x)) (hx : x.natAbs < LB ^ 64)

include hn sx hx
theorem negI_at (z : Int) (hz : -x = z) : Calls Tryz.prog 35 #[.agg #[.bool (isg x), .slice A n c]] w (IOne w (isg z, idg z)) := by
  subst hz
  exact negI_num A n c x w hn sx hx
theorem textI_num (ht : Pow10 w) : Calls Tryz.prog 42 #[.agg #[.bool (isg x), .slice A n c]] w fun e w' => e = .returned (.string ⟨(textISp (isg x) (idg x)).toArray⟩) ∧ Below w.heap.size w w' := by
  subst hn
  exact textI_any (isg x) A c (idg x) w sx (limbs_idg x) (Nat.le_trans (idg_len hx) (by decide)) ht
end
theorem textISp_size {x : Int} : (⟨(textISp (isg x) (idg x)).toArray⟩ : ByteArray).size ≤ 1000000 := by
  show (textISp (isg x) (idg x)).toArray.size ≤ 1000000
  rw [List.size_toArray]
  have h1 := text_size (limbs_idg x)
  have h2 : (⟨(textSp (idg x)).toArray⟩ : ByteArray).size = (textSp (idg x)).length := by
    show (textSp (idg x)).toArray.size = _
    rw [List.size_toArray]
  unfold textISp
  split
  · split
    · rw [List.length_cons]; omega
    · omega
  · simp
theorem parseI_back (x : Int) (w : World) (hx : x.natAbs < LB ^ 64) : Calls Tryz.prog 41 #[.string ⟨(textISp (isg x) (idg x)).toArray⟩] w (ITwo w (isg x, idg x, 0)) := by
  have := parseI_any ⟨(textISp (isg x) (idg x)).toArray⟩ w textISp_size
  rwa [show (⟨(textISp (isg x) (idg x)).toArray⟩ : ByteArray).data.toList = textISp (isg x) (idg x) from rfl, parse_text hx] at this
/-- What stays to the end. -/
def Ks (w : World) (A B B3 : Option Addr) (x y r : Int) (W : World) : Prop := Below w.heap.size w W ∧ Sl W A (idg x) ∧ Sl W B (idg y) ∧ Sl W B3 (idg r)
section

variable {w : World} {A B B3 : Option Addr} {x y r : Int} {W W' : World}
theorem Ks.drew (k : Ks w A B B3 x y r W) : Ks w A B B3 x y r W.drew := ⟨k.1.drew, k.2⟩
theorem Ks.next (k : Ks w A B B3 x y r W) (hb : Below W.heap.size W W') : Ks w A B B3 x y r W' := ⟨bl_trans k.1 hb, bl_keeps hb _ _ k.2.1, bl_keeps hb _ _ k.2.2.1, bl_keeps hb _ _ k.2.2.2⟩
theorem Ks.b (k : Ks w A B B3 x y r W) : Below w.heap.size w W := k.1
theorem Ks.kx (k : Ks w A B B3 x y r W) : Sl W A (idg x) := k.2.1
theorem Ks.ky (k : Ks w A B B3 x y r W) : Sl W B (idg y) := k.2.2.1
theorem Ks.kr (k : Ks w A B B3 x y r W) : Sl W B3 (idg r) := k.2.2.2
end
theorem cell_lt {w : World} {g o : Nat} {v : Value} (h : w.cell? ⟨g, o, none⟩ = some v) : g < w.heap.size := by
  unfold World.cell? at h
  cases hh : w.heap[g]? with
  | none => rw [hh] at h; cases h
  | some y => exact (Array.getElem?_eq_some_iff.1 hh).1
theorem two_new (A : Option Addr) (n c : Nat) (B : Option Addr) (m d : Nat) (w : World) :
    (((w.alloc (.cells #[.bool false, .slice A n c] 41)).alloc (.cells #[.bool false, .slice B m d] 41)).drew.cell? ⟨w.heap.size, 0, none⟩ = some (.bool false) ∧
    ((w.alloc (.cells #[.bool false, .slice A n c] 41)).alloc (.cells #[.bool false, .slice B m d] 41)).drew.cell? ⟨w.heap.size, 1, none⟩ = some (.slice A n c)) ∧
    ((w.alloc (.cells #[.bool false, .slice A n c] 41)).alloc (.cells #[.bool false, .slice B m d] 41)).drew.cell? ⟨w.heap.size + 1, 0, none⟩ = some (.bool false) ∧
    ((w.alloc (.cells #[.bool false, .slice A n c] 41)).alloc (.cells #[.bool false, .slice B m d] 41)).drew.cell? ⟨w.heap.size + 1, 1, none⟩ = some (.slice B m d) := by
  obtain ⟨h1, h2⟩ := ic2 false A n c false B m d w
  exact ⟨⟨h1.1, h1.2⟩, h2.1, h2.2⟩
theorem ks_of {c1 c2 c3 c4 c5 c6 k : Prop} (h : c1 ∧ c2 ∧ c3 ∧ c4 ∧ c5 ∧ c6 ∧ k) : k := h.2.2.2.2.2.2
theorem S6_next {w w' : World} (hb : Below w.heap.size w w') {p1 p2 p3 p4 p5 p6 : Addr} {v1 v2 v3 v4 v5 v6 : Value} {w0 : World} {A B B3 : Option Addr} {x y r : Int}
    (h : w.cell? p1 = some v1 ∧ w.cell? p2 = some v2 ∧ w.cell? p3 = some v3 ∧ w.cell? p4 = some v4 ∧ w.cell? p5 = some v5 ∧ w.cell? p6 = some v6 ∧ Ks w0 A B B3 x y r w) :
    w'.cell? p1 = some v1 ∧ w'.cell? p2 = some v2 ∧ w'.cell? p3 = some v3 ∧ w'.cell? p4 = some v4 ∧ w'.cell? p5 = some v5 ∧ w'.cell? p6 = some v6 ∧ Ks w0 A B B3 x y r w' := by
  obtain ⟨h1, h2, h3, h4, h5, h6, h7⟩ := h
  exact ⟨cell_next hb h1, cell_next hb h2, cell_next hb h3, cell_next hb h4, cell_next hb h5, cell_next hb h6, h7.next hb⟩
theorem sg_bounds {x y : Int} (hx : x.natAbs < LB ^ 8) (hy : y.natAbs < LB ^ 8) (h0 : y ≠ 0) : (quoI x y).natAbs < LB ^ 64 ∧ (remI x y).natAbs < LB ^ 64 ∧ (quoI x y * y).natAbs < LB ^ 64 := by
  obtain ⟨e, h1, _⟩ := quo_rem x y h0
  have hp8 : LB ^ 8 + LB ^ 8 ≤ LB ^ 64 := by
    have := Nat.mul_le_mul_left (LB ^ 8) LB_two
    rw [← Nat.pow_succ, Nat.mul_two] at this
    exact Nat.le_trans this (Nat.pow_le_pow_right LB_pos (by decide))
  have h2 : (quoI x y * y).natAbs ≤ x.natAbs + (remI x y).natAbs := by omega
  have h3 : (quoI x y).natAbs ≤ (quoI x y * y).natAbs := by
    rw [Int.natAbs_mul]
    exact Nat.le_mul_of_pos_right _ (by omega)
  omega

set_option maxRecDepth 100000 in
set_option maxHeartbeats 12000000 in
theorem signs_zero (A B : Option Addr) (a d : Nat) (x y : Int) (w : World) (sx : Sl w A (idg x)) (sy : Sl w B (idg y)) (hx : x.natAbs < LB ^ 8) (hy : y.natAbs < LB ^ 8) (lx : (idg x).length ≤ 8) (ly : (idg y).length ≤ 8) (h0 : y ≠ 0) (ht : Pow10 w) (hk : remI x y = 0) :
    Calls Tryz.prog 5 #[.agg #[.bool (isg x), .slice A (idg x).length a], .agg #[.bool (isg y), .slice B (idg y).length d]] w fun e w' => e = .returned (.bool true) ∧ Below w.heap.size w w' := by
  have HX := hide (abs_lt8 hx)
  have HY := hide (abs_lt8 hy)
  obtain ⟨q1, q2, q3⟩ := sg_bounds hx hy h0
  obtain ⟨f1, f2, f3⟩ := quo_rem x y h0
  have V0 := hide (fun W (h : Below w.heap.size w W) => (validI_any (isg x) A a (idg x) W (bl_keeps h _ _ sx) (by omega)))
  have V1 := hide (fun W (h : Below w.heap.size w W) => (validI_any (isg y) B d (idg y) W (bl_keeps h _ _ sy) (by omega)))
  rw [validI_num HX.out] at V0
  rw [validI_num HY.out] at V1
  have C1 := hide (fun W (h : Below w.heap.size w W) => divI_num A B _ _ a d x y W rfl rfl (bl_keeps h _ _ sx) (bl_keeps h _ _ sy) HX.out HY.out h0)
  generalize quoI x y = q at *
  generalize remI x y = r at *
  have BQ := hide q1
  have BR := hide q2
  have BP := hide q3
  have QX := hide f1
  have SR := hide (show cmpZ r 0 = 0 by rw [show r = 0 from hk]; rfl)
  
  have CA := hide (show cmpZ (r.natAbs : Int) (y.natAbs : Int) = -1 by unfold cmpZ; rw [if_pos (by omega)])
  have NX := hide (show (-x).natAbs < LB ^ 64 by rw [Int.natAbs_neg]; exact HX.out)
  have NN := hide (show - -x = x by omega)
  have lp : 0 < (idg y).length := digs_len_pos.2 (by omega)
  have lp0 : (((idg y).length : Int) == 0) = false := beq_eq_false_iff_ne.2 (by omega)
  have SX := hide sx
  have SY := hide sy
  obtain ⟨X1, X2⟩ := ic2 (isg x) A (idg x).length a (isg y) B (idg y).length d w
  have X1 := hide X1
  have X2 := hide X2
  have b : Below w.heap.size w ((w.alloc (.cells #[.bool (isg x), .slice A (idg x).length a] 41)).alloc (.cells #[.bool (isg y), .slice B (idg y).length d] 41)) := bl_al (bl_al (.refl _ _) _) _
  have o4 : IntKind.i64.wrap (-1) = -1 := rfl
  have o7 : binOp .neq 3 (.int .i64 0) (.int .i64 0) = pure (.bool false) := rfl
  clear hx hy hk q1 q2 q3 f1 f2 f3 sx sy h0
  go_enter Tryz.func5, Tryz.ntmps5
  go_wp2_with (first
    | (go_at_call 37; (with_reducible refine (V0.out _ b).mono ?_); rintro e v1 ⟨rfl, hb⟩; have g := hb; have X1 := hide (X1.out.next g); have X2 := hide (X2.out.next g); (try clear y1 y2 y3 y4); obtain ⟨y1, y2⟩ := X1.out; obtain ⟨y3, y4⟩ := X2.out; (try clear z1 z2); have z1 := X1.out.lt'; have z2 := X2.out.lt'; have b := bl_trans b g; clear hb g)
    | (go_at_call 37; (with_reducible refine (V1.out _ b).mono ?_); rintro e v2 ⟨rfl, hb⟩; have g := hb; have X1 := hide (X1.out.next g); have X2 := hide (X2.out.next g); (try clear y1 y2 y3 y4); obtain ⟨y1, y2⟩ := X1.out; obtain ⟨y3, y4⟩ := X2.out; (try clear z1 z2); have z1 := X1.out.lt'; have z2 := X2.out.lt'; have b := bl_trans b g; clear hb g)
    | (go_at_call 40; (with_reducible refine (C1.out _ b).mono ?_); rintro e w3 ⟨A3, c3, B3, d3, rfl, s3, t3, hb⟩; have g := hb; have X1 := hide (X1.out.next g); have X2 := hide (X2.out.next g); (try clear y1 y2 y3 y4); obtain ⟨y1, y2⟩ := X1.out; obtain ⟨y3, y4⟩ := X2.out; (try clear z1 z2); have z1 := X1.out.lt'; have z2 := X2.out.lt'; have b := bl_trans b g; clear hb g)
    | (go_at_call 26; (with_reducible refine (mulI_num A3 B _ _ c3 d q y _ rfl rfl ((s3.alloc _).alloc _) (kq (bl_al (bl_al b _) _) SY.out) BQ.out HY.out BP.out).mono ?_); rintro e w4 ⟨A4, c4, rfl, s4, hb⟩; have g := bl_two hb; have Y1 := hide ((Ic.new2 _ B3 _ d3 w3 _).next hb); have X1 := hide (X1.out.next g); have X2 := hide (X2.out.next g); (try clear y1 y2 y3 y4); obtain ⟨y1, y2⟩ := X1.out; obtain ⟨y3, y4⟩ := X2.out; (try clear z1 z2); have z1 := X1.out.lt'; have z2 := X2.out.lt'; obtain ⟨y5, y6⟩ := Y1.out; have z3 := Y1.out.lt'; have t3 := bl_keeps g _ _ t3; have b := bl_trans b g; clear hb g s3)
    | (go_at_call 22; (with_reducible refine (addI_at A4 B3 _ _ c4 d3 (q * y) r _ rfl rfl (s4.alloc _) (t3.alloc _) BP.out BR.out x QX.out HX.out).mono ?_); rintro e w5 ⟨A5, c5, rfl, s5, hb⟩; have g := bl_one hb; have Y1 := hide (Y1.out.next g); have X1 := hide (X1.out.next g); have X2 := hide (X2.out.next g); (try clear y1 y2 y3 y4); obtain ⟨y1, y2⟩ := X1.out; obtain ⟨y3, y4⟩ := X2.out; (try clear z1 z2); have z1 := X1.out.lt'; have z2 := X2.out.lt'; (try clear y5 y6 z3); obtain ⟨y5, y6⟩ := Y1.out; have z3 := Y1.out.lt'; have t3 := bl_keeps g _ _ t3; have b := bl_trans b g; clear hb g s4)
    | (go_at_call 42; (with_reducible refine (textI_num A _ a x _ rfl (kq (bl_al b _) SX.out) HX.out (pow_below ht (bl_al b _))).mono ?_); rintro e w6 ⟨rfl, hb⟩; have g := bl_one hb; have Y1 := hide (Y1.out.next g); have Y2 := hide ((Ic.new _ A5 _ c5 w5).next hb); have X1 := hide (X1.out.next g); have X2 := hide (X2.out.next g); (try clear y1 y2 y3 y4); obtain ⟨y1, y2⟩ := X1.out; obtain ⟨y3, y4⟩ := X2.out; (try clear z1 z2); have z1 := X1.out.lt'; have z2 := X2.out.lt'; (try clear y5 y6 z3); obtain ⟨y5, y6⟩ := Y1.out; have z3 := Y1.out.lt'; obtain ⟨y7, y8⟩ := Y2.out; have z4 := Y2.out.lt'; have t3 := bl_keeps g _ _ t3; have s5 := bl_keeps g _ _ s5; have b := bl_trans b g; clear hb g)
    | (go_at_call 41; (with_reducible refine (parseI_back x _ HX.out).mono ?_); rintro e w7 ⟨A7, c7, rfl, s7, hb⟩; have g := hb; have Y1 := hide (Y1.out.next g); have Y2 := hide (Y2.out.next g); have X1 := hide (X1.out.next g); have X2 := hide (X2.out.next g); (try clear y1 y2 y3 y4); obtain ⟨y1, y2⟩ := X1.out; obtain ⟨y3, y4⟩ := X2.out; (try clear z1 z2); have z1 := X1.out.lt'; have z2 := X2.out.lt'; (try clear y5 y6 z3 y7 y8 z4); obtain ⟨y5, y6⟩ := Y1.out; have z3 := Y1.out.lt'; obtain ⟨y7, y8⟩ := Y2.out; have z4 := Y2.out.lt'; have t3 := bl_keeps g _ _ t3; have s5 := bl_keeps g _ _ s5; have b := bl_trans b g; clear hb g)
    | (go_at_call 31; (with_reducible refine (same2_num A5 A _ _ c5 a x x _ rfl rfl (s5.alloc _) (kq (bl_al b _) SX.out) HX.out HX.out true (decide_eq_true rfl)).mono ?_); rintro e w8 ⟨rfl, hb⟩; have g := bl_one hb; have Y1 := hide (Y1.out.next g); have Y3 := hide ((Ic.new _ A7 _ c7 w7).next hb); have X1 := hide (X1.out.next g); have X2 := hide (X2.out.next g); (try clear y1 y2 y3 y4); obtain ⟨y1, y2⟩ := X1.out; obtain ⟨y3, y4⟩ := X2.out; (try clear z1 z2); have z1 := X1.out.lt'; have z2 := X2.out.lt'; (try clear y5 y6 z3 y7 y8 z4); obtain ⟨y5, y6⟩ := Y1.out; have z3 := Y1.out.lt'; obtain ⟨y7, y8⟩ := Y3.out; have t3 := bl_keeps g _ _ t3; have s7 := bl_keeps g _ _ s7; have b := bl_trans b g; clear hb g)
    | (go_at_call 31; (with_reducible refine (same2_num A7 A _ _ c7 a x x _ rfl rfl s7 (kq b SX.out) HX.out HX.out true (decide_eq_true rfl)).mono ?_); rintro e w9 ⟨rfl, hb⟩; have g := hb; have Y1 := hide (Y1.out.next g); have X1 := hide (X1.out.next g); have X2 := hide (X2.out.next g); (try clear y1 y2 y3 y4); obtain ⟨y1, y2⟩ := X1.out; obtain ⟨y3, y4⟩ := X2.out; (try clear z1 z2); have z1 := X1.out.lt'; have z2 := X2.out.lt'; (try clear y5 y6 z3 y7 y8); obtain ⟨y5, y6⟩ := Y1.out; have t3 := bl_keeps g _ _ t3; have b := bl_trans b g; clear hb g))
  have ks := hide (show Ks w A B B3 x y r w9 from ⟨b, bl_keeps b _ _ SX.out, bl_keeps b _ _ SY.out, t3⟩)
  clear X1 X2 Y1 t3 b V0 V1 C1
  first
    | (go_region_with (first
          | (go_at_call 34; (with_reducible refine (signI_num B3 _ _ r _ rfl (Ks.kr ks.out.drew) BR.out (0) SR.out).mono ?_); rintro e u2 ⟨rfl, hb⟩; have hh := S6_next (w := w9.drew) hb ⟨y1, y2, y3, y4, y5, y6, ks.out.drew⟩; clear y1 y2 y3 y4 y5 y6 ks z1 z2; obtain ⟨y1, y2, y3, y4, y5, y6, ks⟩ := hh)))
    | fail "with"
  all_goals
    (try clear x1 x2)
    clear hb
    simp only [Act.put, List.setIfInBounds_toArray, List.set_cons_zero, List.set_cons_succ, List.getElem_toArray, List.getElem_cons_succ, List.getElem_cons_zero]
    have z5 := cell_lt y1
    have z6 := cell_lt y3
    have z7 := cell_lt y5
    have x1 := y1
    have x2 := y2
    have x3 := y3
    have x4 := y4
    have x5 := y5
    have x6 := y6
    clear y1 y2 y3 y4 y5 y6
    have m3 := fun X => cell_next (bl_al (.refl _ u2) X) x3
    have y3 := fun X Y => cell_next (bl_al (.refl _ (u2.alloc X)) Y) (m3 X)
    have m4 := fun X => cell_next (bl_al (.refl _ u2) X) x4
    have y4 := fun X Y => cell_next (bl_al (.refl _ (u2.alloc X)) Y) (m4 X)
    have m5 := fun X => cell_next (bl_al (.refl _ u2) X) x5
    have y5 := fun X Y => cell_next (bl_al (.refl _ (u2.alloc X)) Y) (m5 X)
    have m6 := fun X => cell_next (bl_al (.refl _ u2) X) x6
    have y6 := fun X Y => cell_next (bl_al (.refl _ (u2.alloc X)) Y) (m6 X)
    have y1 := fun X Y => cell_next (bl_al (.refl _ (u2.alloc X)) Y) (cell_next (bl_al (.refl _ u2) X) x1)
    have y2 := fun X Y => cell_next (bl_al (.refl _ (u2.alloc X)) Y) (cell_next (bl_al (.refl _ u2) X) x2)
    go_wp2
    go_region
  all_goals
    clear m3 m4 m5 m6 x3 x4 x5 x6 y3 y4 y5 y6
    have kz := hide (fun X Y => (ks.next (bl_al (bl_al (.refl _ u2) X) Y)).drew)
    clear ks z5 z6 z7 x1 x2
    go_wp2
    first
      | (have hS : (fun W : World => W.cell? ⟨w.heap.size, 0, none⟩ = some (.bool (isg x)) ∧ W.cell? ⟨w.heap.size, 1, none⟩ = some (.slice A (idg x).length a) ∧ W.cell? ⟨u2.heap.size, 0, none⟩ = some (.bool false) ∧ W.cell? ⟨u2.heap.size, 1, none⟩ = some (.slice B (idg y).length d) ∧ W.cell? ⟨u2.heap.size + 1, 0, none⟩ = some (.bool false) ∧ W.cell? ⟨u2.heap.size + 1, 1, none⟩ = some (.slice B3 (idg r).length d3) ∧ Ks w A B B3 x y r W) (((u2.alloc (.cells #[.bool false, .slice B (idg y).length d] 41)).alloc (.cells #[.bool false, .slice B3 (idg r).length d3] 41)).drew) := by
            obtain ⟨⟨n1, n2⟩, n3, n4⟩ := two_new B (idg y).length d B3 (idg r).length d3 u2
            exact ⟨y1 _ _, y2 _ _, n1, n2, n3, n4, kz.out _ _⟩
         clear y1 y2 kz
         generalize ((u2.alloc (.cells #[.bool false, .slice B (idg y).length d] 41)).alloc (.cells #[.bool false, .slice B3 (idg r).length d3] 41)).drew = v at hS ⊢
         obtain ⟨y1, y2, y3, y4, y5, y6, ks⟩ := hS
         have ks := hide ks
         go_region_held3 (fun W => W.cell? ⟨w.heap.size, 0, none⟩ = some (.bool (isg x)) ∧ W.cell? ⟨w.heap.size, 1, none⟩ = some (.slice A (idg x).length a) ∧ W.cell? ⟨u2.heap.size, 0, none⟩ = some (.bool false) ∧ W.cell? ⟨u2.heap.size, 1, none⟩ = some (.slice B (idg y).length d) ∧ W.cell? ⟨u2.heap.size + 1, 0, none⟩ = some (.bool false) ∧ W.cell? ⟨u2.heap.size + 1, 1, none⟩ = some (.slice B3 (idg r).length d3) ∧ Ks w A B B3 x y r W)
           (first | exact ⟨y1, y2, y3, y4, y5, y6, ks.out.drew⟩ | exact ⟨y1, y2, y3, y4, y5, y6, ks.out⟩ | exact S6_next hb (by assumption) | assumption)
           (first
             | (go_at_call 32; (with_reducible refine (cmpI_abs B3 B _ _ d3 d r y _ rfl rfl (Ks.kr (ks_of (by assumption))) (Ks.ky (ks_of (by assumption))) BR.out HY.out (-1) CA.out).mono ?_); rintro e u3 ⟨rfl, hb⟩)
             | (go_at_call 35; (with_reducible refine (negI_at A _ a x _ rfl (Ks.kx (ks_of (by assumption))) HX.out (-x) rfl).mono ?_); rintro e u4 ⟨D1, e1, rfl, t1, hb⟩)
             | (go_at_call 35; (with_reducible refine (negI_at D1 _ e1 (-x) _ rfl t1 NX.out x NN.out).mono ?_); rintro e u5 ⟨D2, e2, rfl, t2, hb⟩)
             | (go_at_call 31; (with_reducible refine (same2_num D2 A _ _ e2 a x x _ rfl rfl t2 (Ks.kx (ks_of (by assumption))) HX.out HX.out true (decide_eq_true rfl)).mono ?_); rintro e u6 ⟨rfl, hb⟩)
             | (go_at_call 21; (with_reducible refine (awake2_any _ (pow_below ht (Ks.b (ks_of (by assumption))))).mono ?_); rintro e u7 ⟨rfl, hb⟩)))
      | (have hS : (fun W : World => W.cell? ⟨w.heap.size, 0, none⟩ = some (.bool (isg x)) ∧ W.cell? ⟨w.heap.size, 1, none⟩ = some (.slice A (idg x).length a) ∧ W.cell? ⟨u2.heap.size + 1, 0, none⟩ = some (.bool false) ∧ W.cell? ⟨u2.heap.size + 1, 1, none⟩ = some (.slice B (idg y).length d) ∧ W.cell? ⟨u2.heap.size, 0, none⟩ = some (.bool false) ∧ W.cell? ⟨u2.heap.size, 1, none⟩ = some (.slice B3 (idg r).length d3) ∧ Ks w A B B3 x y r W) (((u2.alloc (.cells #[.bool false, .slice B3 (idg r).length d3] 41)).alloc (.cells #[.bool false, .slice B (idg y).length d] 41)).drew) := by
            obtain ⟨⟨n3, n4⟩, n1, n2⟩ := two_new B3 (idg r).length d3 B (idg y).length d u2
            exact ⟨y1 _ _, y2 _ _, n1, n2, n3, n4, kz.out _ _⟩
         clear y1 y2 kz
         generalize ((u2.alloc (.cells #[.bool false, .slice B3 (idg r).length d3] 41)).alloc (.cells #[.bool false, .slice B (idg y).length d] 41)).drew = v at hS ⊢
         obtain ⟨y1, y2, y3, y4, y5, y6, ks⟩ := hS
         have ks := hide ks
         go_region_held3 (fun W => W.cell? ⟨w.heap.size, 0, none⟩ = some (.bool (isg x)) ∧ W.cell? ⟨w.heap.size, 1, none⟩ = some (.slice A (idg x).length a) ∧ W.cell? ⟨u2.heap.size + 1, 0, none⟩ = some (.bool false) ∧ W.cell? ⟨u2.heap.size + 1, 1, none⟩ = some (.slice B (idg y).length d) ∧ W.cell? ⟨u2.heap.size, 0, none⟩ = some (.bool false) ∧ W.cell? ⟨u2.heap.size, 1, none⟩ = some (.slice B3 (idg r).length d3) ∧ Ks w A B B3 x y r W)
           (first | exact ⟨y1, y2, y3, y4, y5, y6, ks.out.drew⟩ | exact ⟨y1, y2, y3, y4, y5, y6, ks.out⟩ | exact S6_next hb (by assumption) | assumption)
           (first
             | (go_at_call 32; (with_reducible refine (cmpI_abs B3 B _ _ d3 d r y _ rfl rfl (Ks.kr (ks_of (by assumption))) (Ks.ky (ks_of (by assumption))) BR.out HY.out (-1) CA.out).mono ?_); rintro e u3 ⟨rfl, hb⟩)
             | (go_at_call 35; (with_reducible refine (negI_at A _ a x _ rfl (Ks.kx (ks_of (by assumption))) HX.out (-x) rfl).mono ?_); rintro e u4 ⟨D1, e1, rfl, t1, hb⟩)
             | (go_at_call 35; (with_reducible refine (negI_at D1 _ e1 (-x) _ rfl t1 NX.out x NN.out).mono ?_); rintro e u5 ⟨D2, e2, rfl, t2, hb⟩)
             | (go_at_call 31; (with_reducible refine (same2_num D2 A _ _ e2 a x x _ rfl rfl t2 (Ks.kx (ks_of (by assumption))) HX.out HX.out true (decide_eq_true rfl)).mono ?_); rintro e u6 ⟨rfl, hb⟩)
             | (go_at_call 21; (with_reducible refine (awake2_any _ (pow_below ht (Ks.b (ks_of (by assumption))))).mono ?_); rintro e u7 ⟨rfl, hb⟩)))
    all_goals
      go_wp2
      go_ret
      exact ⟨rfl, Ks.b (ks_of (by assumption))⟩

set_option maxRecDepth 100000 in
set_option maxHeartbeats 12000000 in
theorem signs_pos (A B : Option Addr) (a d : Nat) (x y : Int) (w : World) (sx : Sl w A (idg x)) (sy : Sl w B (idg y)) (hx : x.natAbs < LB ^ 8) (hy : y.natAbs < LB ^ 8) (lx : (idg x).length ≤ 8) (ly : (idg y).length ≤ 8) (h0 : y ≠ 0) (ht : Pow10 w) (hk : remI x y ≠ 0 ∧ 0 < y) :
    Calls Tryz.prog 5 #[.agg #[.bool (isg x), .slice A (idg x).length a], .agg #[.bool (isg y), .slice B (idg y).length d]] w fun e w' => e = .returned (.bool true) ∧ Below w.heap.size w w' := by
  have HX := hide (abs_lt8 hx)
  have HY := hide (abs_lt8 hy)
  obtain ⟨q1, q2, q3⟩ := sg_bounds hx hy h0
  obtain ⟨f1, f2, f3⟩ := quo_rem x y h0
  have V0 := hide (fun W (h : Below w.heap.size w W) => (validI_any (isg x) A a (idg x) W (bl_keeps h _ _ sx) (by omega)))
  have V1 := hide (fun W (h : Below w.heap.size w W) => (validI_any (isg y) B d (idg y) W (bl_keeps h _ _ sy) (by omega)))
  rw [validI_num HX.out] at V0
  rw [validI_num HY.out] at V1
  have C1 := hide (fun W (h : Below w.heap.size w W) => divI_num A B _ _ a d x y W rfl rfl (bl_keeps h _ _ sx) (bl_keeps h _ _ sy) HX.out HY.out h0)
  generalize quoI x y = q at *
  generalize remI x y = r at *
  have BQ := hide q1
  have BR := hide q2
  have BP := hide q3
  have QX := hide f1
  have SR := hide (show cmpZ r 0 = 1 by exact (f3.resolve_left hk.1).trans (by unfold cmpZ; (repeat split) <;> omega))
  have SG := hide (show cmpZ y 0 = 1 by unfold cmpZ; (repeat split) <;> omega)
  have CA := hide (show cmpZ (r.natAbs : Int) (y.natAbs : Int) = -1 by unfold cmpZ; rw [if_pos (by omega)])
  have NX := hide (show (-x).natAbs < LB ^ 64 by rw [Int.natAbs_neg]; exact HX.out)
  have NN := hide (show - -x = x by omega)
  have lp : 0 < (idg y).length := digs_len_pos.2 (by omega)
  have lp0 : (((idg y).length : Int) == 0) = false := beq_eq_false_iff_ne.2 (by omega)
  have SX := hide sx
  have SY := hide sy
  obtain ⟨X1, X2⟩ := ic2 (isg x) A (idg x).length a (isg y) B (idg y).length d w
  have X1 := hide X1
  have X2 := hide X2
  have b : Below w.heap.size w ((w.alloc (.cells #[.bool (isg x), .slice A (idg x).length a] 41)).alloc (.cells #[.bool (isg y), .slice B (idg y).length d] 41)) := bl_al (bl_al (.refl _ _) _) _
  have o4 : IntKind.i64.wrap (-1) = -1 := rfl
  clear hx hy hk q1 q2 q3 f1 f2 f3 sx sy h0
  go_enter Tryz.func5, Tryz.ntmps5
  go_wp2_with (first
    | (go_at_call 37; (with_reducible refine (V0.out _ b).mono ?_); rintro e v1 ⟨rfl, hb⟩; have g := hb; have X1 := hide (X1.out.next g); have X2 := hide (X2.out.next g); (try clear y1 y2 y3 y4); obtain ⟨y1, y2⟩ := X1.out; obtain ⟨y3, y4⟩ := X2.out; (try clear z1 z2); have z1 := X1.out.lt'; have z2 := X2.out.lt'; have b := bl_trans b g; clear hb g)
    | (go_at_call 37; (with_reducible refine (V1.out _ b).mono ?_); rintro e v2 ⟨rfl, hb⟩; have g := hb; have X1 := hide (X1.out.next g); have X2 := hide (X2.out.next g); (try clear y1 y2 y3 y4); obtain ⟨y1, y2⟩ := X1.out; obtain ⟨y3, y4⟩ := X2.out; (try clear z1 z2); have z1 := X1.out.lt'; have z2 := X2.out.lt'; have b := bl_trans b g; clear hb g)
    | (go_at_call 40; (with_reducible refine (C1.out _ b).mono ?_); rintro e w3 ⟨A3, c3, B3, d3, rfl, s3, t3, hb⟩; have g := hb; have X1 := hide (X1.out.next g); have X2 := hide (X2.out.next g); (try clear y1 y2 y3 y4); obtain ⟨y1, y2⟩ := X1.out; obtain ⟨y3, y4⟩ := X2.out; (try clear z1 z2); have z1 := X1.out.lt'; have z2 := X2.out.lt'; have b := bl_trans b g; clear hb g)
    | (go_at_call 26; (with_reducible refine (mulI_num A3 B _ _ c3 d q y _ rfl rfl ((s3.alloc _).alloc _) (kq (bl_al (bl_al b _) _) SY.out) BQ.out HY.out BP.out).mono ?_); rintro e w4 ⟨A4, c4, rfl, s4, hb⟩; have g := bl_two hb; have Y1 := hide ((Ic.new2 _ B3 _ d3 w3 _).next hb); have X1 := hide (X1.out.next g); have X2 := hide (X2.out.next g); (try clear y1 y2 y3 y4); obtain ⟨y1, y2⟩ := X1.out; obtain ⟨y3, y4⟩ := X2.out; (try clear z1 z2); have z1 := X1.out.lt'; have z2 := X2.out.lt'; obtain ⟨y5, y6⟩ := Y1.out; have z3 := Y1.out.lt'; have t3 := bl_keeps g _ _ t3; have b := bl_trans b g; clear hb g s3)
    | (go_at_call 22; (with_reducible refine (addI_at A4 B3 _ _ c4 d3 (q * y) r _ rfl rfl (s4.alloc _) (t3.alloc _) BP.out BR.out x QX.out HX.out).mono ?_); rintro e w5 ⟨A5, c5, rfl, s5, hb⟩; have g := bl_one hb; have Y1 := hide (Y1.out.next g); have X1 := hide (X1.out.next g); have X2 := hide (X2.out.next g); (try clear y1 y2 y3 y4); obtain ⟨y1, y2⟩ := X1.out; obtain ⟨y3, y4⟩ := X2.out; (try clear z1 z2); have z1 := X1.out.lt'; have z2 := X2.out.lt'; (try clear y5 y6 z3); obtain ⟨y5, y6⟩ := Y1.out; have z3 := Y1.out.lt'; have t3 := bl_keeps g _ _ t3; have b := bl_trans b g; clear hb g s4)
    | (go_at_call 42; (with_reducible refine (textI_num A _ a x _ rfl (kq (bl_al b _) SX.out) HX.out (pow_below ht (bl_al b _))).mono ?_); rintro e w6 ⟨rfl, hb⟩; have g := bl_one hb; have Y1 := hide (Y1.out.next g); have Y2 := hide ((Ic.new _ A5 _ c5 w5).next hb); have X1 := hide (X1.out.next g); have X2 := hide (X2.out.next g); (try clear y1 y2 y3 y4); obtain ⟨y1, y2⟩ := X1.out; obtain ⟨y3, y4⟩ := X2.out; (try clear z1 z2); have z1 := X1.out.lt'; have z2 := X2.out.lt'; (try clear y5 y6 z3); obtain ⟨y5, y6⟩ := Y1.out; have z3 := Y1.out.lt'; obtain ⟨y7, y8⟩ := Y2.out; have z4 := Y2.out.lt'; have t3 := bl_keeps g _ _ t3; have s5 := bl_keeps g _ _ s5; have b := bl_trans b g; clear hb g)
    | (go_at_call 41; (with_reducible refine (parseI_back x _ HX.out).mono ?_); rintro e w7 ⟨A7, c7, rfl, s7, hb⟩; have g := hb; have Y1 := hide (Y1.out.next g); have Y2 := hide (Y2.out.next g); have X1 := hide (X1.out.next g); have X2 := hide (X2.out.next g); (try clear y1 y2 y3 y4); obtain ⟨y1, y2⟩ := X1.out; obtain ⟨y3, y4⟩ := X2.out; (try clear z1 z2); have z1 := X1.out.lt'; have z2 := X2.out.lt'; (try clear y5 y6 z3 y7 y8 z4); obtain ⟨y5, y6⟩ := Y1.out; have z3 := Y1.out.lt'; obtain ⟨y7, y8⟩ := Y2.out; have z4 := Y2.out.lt'; have t3 := bl_keeps g _ _ t3; have s5 := bl_keeps g _ _ s5; have b := bl_trans b g; clear hb g)
    | (go_at_call 31; (with_reducible refine (same2_num A5 A _ _ c5 a x x _ rfl rfl (s5.alloc _) (kq (bl_al b _) SX.out) HX.out HX.out true (decide_eq_true rfl)).mono ?_); rintro e w8 ⟨rfl, hb⟩; have g := bl_one hb; have Y1 := hide (Y1.out.next g); have Y3 := hide ((Ic.new _ A7 _ c7 w7).next hb); have X1 := hide (X1.out.next g); have X2 := hide (X2.out.next g); (try clear y1 y2 y3 y4); obtain ⟨y1, y2⟩ := X1.out; obtain ⟨y3, y4⟩ := X2.out; (try clear z1 z2); have z1 := X1.out.lt'; have z2 := X2.out.lt'; (try clear y5 y6 z3 y7 y8 z4); obtain ⟨y5, y6⟩ := Y1.out; have z3 := Y1.out.lt'; obtain ⟨y7, y8⟩ := Y3.out; have t3 := bl_keeps g _ _ t3; have s7 := bl_keeps g _ _ s7; have b := bl_trans b g; clear hb g)
    | (go_at_call 31; (with_reducible refine (same2_num A7 A _ _ c7 a x x _ rfl rfl s7 (kq b SX.out) HX.out HX.out true (decide_eq_true rfl)).mono ?_); rintro e w9 ⟨rfl, hb⟩; have g := hb; have Y1 := hide (Y1.out.next g); have X1 := hide (X1.out.next g); have X2 := hide (X2.out.next g); (try clear y1 y2 y3 y4); obtain ⟨y1, y2⟩ := X1.out; obtain ⟨y3, y4⟩ := X2.out; (try clear z1 z2); have z1 := X1.out.lt'; have z2 := X2.out.lt'; (try clear y5 y6 z3 y7 y8); obtain ⟨y5, y6⟩ := Y1.out; have t3 := bl_keeps g _ _ t3; have b := bl_trans b g; clear hb g))
  have ks := hide (show Ks w A B B3 x y r w9 from ⟨b, bl_keeps b _ _ SX.out, bl_keeps b _ _ SY.out, t3⟩)
  clear X1 X2 Y1 t3 b V0 V1 C1
  first
    | (go_region_held3 (fun W => W.cell? ⟨w.heap.size, 0, none⟩ = some (.bool (isg x)) ∧ W.cell? ⟨w.heap.size, 1, none⟩ = some (.slice A (idg x).length a) ∧ W.cell? ⟨w.heap.size + 1, 0, none⟩ = some (.bool (isg y)) ∧ W.cell? ⟨w.heap.size + 1, 1, none⟩ = some (.slice B (idg y).length d) ∧ W.cell? ⟨w3.heap.size + 1, 0, none⟩ = some (.bool (isg r)) ∧ W.cell? ⟨w3.heap.size + 1, 1, none⟩ = some (.slice B3 (idg r).length d3) ∧ Ks w A B B3 x y r W)
        (first | exact ⟨y1, y2, y3, y4, y5, y6, ks.out.drew⟩ | exact ⟨y1, y2, y3, y4, y5, y6, ks.out⟩ | exact S6_next hb (by assumption) | assumption)
        (first
          | (go_at_call 34; (with_reducible refine (signI_num B3 _ _ r _ rfl (Ks.kr (ks_of (by assumption))) BR.out (1) SR.out).mono ?_); rintro e u1 ⟨rfl, hb⟩)
          | (go_at_call 34; (with_reducible refine (signI_num B _ _ y _ rfl (Ks.ky (ks_of (by assumption))) HY.out (1) SG.out).mono ?_); rintro e u2 ⟨rfl, hb⟩)))
    | fail "held3"
  all_goals
    rename_i hh
    (try clear y1 y2 y3 y4 y5 y6)
    obtain ⟨y1, y2, y3, y4, y5, y6, ks⟩ := hh
    have z5 := cell_lt y1
    have z6 := cell_lt y3
    have z7 := cell_lt y5
    have x1 := y1
    have x2 := y2
    have x3 := y3
    have x4 := y4
    have x5 := y5
    have x6 := y6
    clear y1 y2 y3 y4 y5 y6
    have m3 := fun X => cell_next (bl_al (.refl _ u2) X) x3
    have y3 := fun X Y => cell_next (bl_al (.refl _ (u2.alloc X)) Y) (m3 X)
    have m4 := fun X => cell_next (bl_al (.refl _ u2) X) x4
    have y4 := fun X Y => cell_next (bl_al (.refl _ (u2.alloc X)) Y) (m4 X)
    have m5 := fun X => cell_next (bl_al (.refl _ u2) X) x5
    have y5 := fun X Y => cell_next (bl_al (.refl _ (u2.alloc X)) Y) (m5 X)
    have m6 := fun X => cell_next (bl_al (.refl _ u2) X) x6
    have y6 := fun X Y => cell_next (bl_al (.refl _ (u2.alloc X)) Y) (m6 X)
    have y1 := fun X Y => cell_next (bl_al (.refl _ (u2.alloc X)) Y) (cell_next (bl_al (.refl _ u2) X) x1)
    have y2 := fun X Y => cell_next (bl_al (.refl _ (u2.alloc X)) Y) (cell_next (bl_al (.refl _ u2) X) x2)
    go_wp2
    go_region
  all_goals
    clear m3 m4 m5 m6 x3 x4 x5 x6 y3 y4 y5 y6
    have kz := hide (fun X Y => (ks.next (bl_al (bl_al (.refl _ u2) X) Y)).drew)
    clear ks z5 z6 z7 x1 x2
    go_wp2
    first
      | (have hS : (fun W : World => W.cell? ⟨w.heap.size, 0, none⟩ = some (.bool (isg x)) ∧ W.cell? ⟨w.heap.size, 1, none⟩ = some (.slice A (idg x).length a) ∧ W.cell? ⟨u2.heap.size, 0, none⟩ = some (.bool false) ∧ W.cell? ⟨u2.heap.size, 1, none⟩ = some (.slice B (idg y).length d) ∧ W.cell? ⟨u2.heap.size + 1, 0, none⟩ = some (.bool false) ∧ W.cell? ⟨u2.heap.size + 1, 1, none⟩ = some (.slice B3 (idg r).length d3) ∧ Ks w A B B3 x y r W) (((u2.alloc (.cells #[.bool false, .slice B (idg y).length d] 41)).alloc (.cells #[.bool false, .slice B3 (idg r).length d3] 41)).drew) := by
            obtain ⟨⟨n1, n2⟩, n3, n4⟩ := two_new B (idg y).length d B3 (idg r).length d3 u2
            exact ⟨y1 _ _, y2 _ _, n1, n2, n3, n4, kz.out _ _⟩
         clear y1 y2 kz
         generalize ((u2.alloc (.cells #[.bool false, .slice B (idg y).length d] 41)).alloc (.cells #[.bool false, .slice B3 (idg r).length d3] 41)).drew = v at hS ⊢
         obtain ⟨y1, y2, y3, y4, y5, y6, ks⟩ := hS
         have ks := hide ks
         go_region_held3 (fun W => W.cell? ⟨w.heap.size, 0, none⟩ = some (.bool (isg x)) ∧ W.cell? ⟨w.heap.size, 1, none⟩ = some (.slice A (idg x).length a) ∧ W.cell? ⟨u2.heap.size, 0, none⟩ = some (.bool false) ∧ W.cell? ⟨u2.heap.size, 1, none⟩ = some (.slice B (idg y).length d) ∧ W.cell? ⟨u2.heap.size + 1, 0, none⟩ = some (.bool false) ∧ W.cell? ⟨u2.heap.size + 1, 1, none⟩ = some (.slice B3 (idg r).length d3) ∧ Ks w A B B3 x y r W)
           (first | exact ⟨y1, y2, y3, y4, y5, y6, ks.out.drew⟩ | exact ⟨y1, y2, y3, y4, y5, y6, ks.out⟩ | exact S6_next hb (by assumption) | assumption)
           (first
             | (go_at_call 32; (with_reducible refine (cmpI_abs B3 B _ _ d3 d r y _ rfl rfl (Ks.kr (ks_of (by assumption))) (Ks.ky (ks_of (by assumption))) BR.out HY.out (-1) CA.out).mono ?_); rintro e u3 ⟨rfl, hb⟩)
             | (go_at_call 35; (with_reducible refine (negI_at A _ a x _ rfl (Ks.kx (ks_of (by assumption))) HX.out (-x) rfl).mono ?_); rintro e u4 ⟨D1, e1, rfl, t1, hb⟩)
             | (go_at_call 35; (with_reducible refine (negI_at D1 _ e1 (-x) _ rfl t1 NX.out x NN.out).mono ?_); rintro e u5 ⟨D2, e2, rfl, t2, hb⟩)
             | (go_at_call 31; (with_reducible refine (same2_num D2 A _ _ e2 a x x _ rfl rfl t2 (Ks.kx (ks_of (by assumption))) HX.out HX.out true (decide_eq_true rfl)).mono ?_); rintro e u6 ⟨rfl, hb⟩)
             | (go_at_call 21; (with_reducible refine (awake2_any _ (pow_below ht (Ks.b (ks_of (by assumption))))).mono ?_); rintro e u7 ⟨rfl, hb⟩)))
      | (have hS : (fun W : World => W.cell? ⟨w.heap.size, 0, none⟩ = some (.bool (isg x)) ∧ W.cell? ⟨w.heap.size, 1, none⟩ = some (.slice A (idg x).length a) ∧ W.cell? ⟨u2.heap.size + 1, 0, none⟩ = some (.bool false) ∧ W.cell? ⟨u2.heap.size + 1, 1, none⟩ = some (.slice B (idg y).length d) ∧ W.cell? ⟨u2.heap.size, 0, none⟩ = some (.bool false) ∧ W.cell? ⟨u2.heap.size, 1, none⟩ = some (.slice B3 (idg r).length d3) ∧ Ks w A B B3 x y r W) (((u2.alloc (.cells #[.bool false, .slice B3 (idg r).length d3] 41)).alloc (.cells #[.bool false, .slice B (idg y).length d] 41)).drew) := by
            obtain ⟨⟨n3, n4⟩, n1, n2⟩ := two_new B3 (idg r).length d3 B (idg y).length d u2
            exact ⟨y1 _ _, y2 _ _, n1, n2, n3, n4, kz.out _ _⟩
         clear y1 y2 kz
         generalize ((u2.alloc (.cells #[.bool false, .slice B3 (idg r).length d3] 41)).alloc (.cells #[.bool false, .slice B (idg y).length d] 41)).drew = v at hS ⊢
         obtain ⟨y1, y2, y3, y4, y5, y6, ks⟩ := hS
         have ks := hide ks
         go_region_held3 (fun W => W.cell? ⟨w.heap.size, 0, none⟩ = some (.bool (isg x)) ∧ W.cell? ⟨w.heap.size, 1, none⟩ = some (.slice A (idg x).length a) ∧ W.cell? ⟨u2.heap.size + 1, 0, none⟩ = some (.bool false) ∧ W.cell? ⟨u2.heap.size + 1, 1, none⟩ = some (.slice B (idg y).length d) ∧ W.cell? ⟨u2.heap.size, 0, none⟩ = some (.bool false) ∧ W.cell? ⟨u2.heap.size, 1, none⟩ = some (.slice B3 (idg r).length d3) ∧ Ks w A B B3 x y r W)
           (first | exact ⟨y1, y2, y3, y4, y5, y6, ks.out.drew⟩ | exact ⟨y1, y2, y3, y4, y5, y6, ks.out⟩ | exact S6_next hb (by assumption) | assumption)
           (first
             | (go_at_call 32; (with_reducible refine (cmpI_abs B3 B _ _ d3 d r y _ rfl rfl (Ks.kr (ks_of (by assumption))) (Ks.ky (ks_of (by assumption))) BR.out HY.out (-1) CA.out).mono ?_); rintro e u3 ⟨rfl, hb⟩)
             | (go_at_call 35; (with_reducible refine (negI_at A _ a x _ rfl (Ks.kx (ks_of (by assumption))) HX.out (-x) rfl).mono ?_); rintro e u4 ⟨D1, e1, rfl, t1, hb⟩)
             | (go_at_call 35; (with_reducible refine (negI_at D1 _ e1 (-x) _ rfl t1 NX.out x NN.out).mono ?_); rintro e u5 ⟨D2, e2, rfl, t2, hb⟩)
             | (go_at_call 31; (with_reducible refine (same2_num D2 A _ _ e2 a x x _ rfl rfl t2 (Ks.kx (ks_of (by assumption))) HX.out HX.out true (decide_eq_true rfl)).mono ?_); rintro e u6 ⟨rfl, hb⟩)
             | (go_at_call 21; (with_reducible refine (awake2_any _ (pow_below ht (Ks.b (ks_of (by assumption))))).mono ?_); rintro e u7 ⟨rfl, hb⟩)))
    all_goals
      go_wp2
      go_ret
      exact ⟨rfl, Ks.b (ks_of (by assumption))⟩

set_option maxRecDepth 100000 in
set_option maxHeartbeats 12000000 in
theorem signs_neg (A B : Option Addr) (a d : Nat) (x y : Int) (w : World) (sx : Sl w A (idg x)) (sy : Sl w B (idg y)) (hx : x.natAbs < LB ^ 8) (hy : y.natAbs < LB ^ 8) (lx : (idg x).length ≤ 8) (ly : (idg y).length ≤ 8) (h0 : y ≠ 0) (ht : Pow10 w) (hk : remI x y ≠ 0 ∧ y < 0) :
    Calls Tryz.prog 5 #[.agg #[.bool (isg x), .slice A (idg x).length a], .agg #[.bool (isg y), .slice B (idg y).length d]] w fun e w' => e = .returned (.bool true) ∧ Below w.heap.size w w' := by
  have HX := hide (abs_lt8 hx)
  have HY := hide (abs_lt8 hy)
  obtain ⟨q1, q2, q3⟩ := sg_bounds hx hy h0
  obtain ⟨f1, f2, f3⟩ := quo_rem x y h0
  have V0 := hide (fun W (h : Below w.heap.size w W) => (validI_any (isg x) A a (idg x) W (bl_keeps h _ _ sx) (by omega)))
  have V1 := hide (fun W (h : Below w.heap.size w W) => (validI_any (isg y) B d (idg y) W (bl_keeps h _ _ sy) (by omega)))
  rw [validI_num HX.out] at V0
  rw [validI_num HY.out] at V1
  have C1 := hide (fun W (h : Below w.heap.size w W) => divI_num A B _ _ a d x y W rfl rfl (bl_keeps h _ _ sx) (bl_keeps h _ _ sy) HX.out HY.out h0)
  generalize quoI x y = q at *
  generalize remI x y = r at *
  have BQ := hide q1
  have BR := hide q2
  have BP := hide q3
  have QX := hide f1
  have SR := hide (show cmpZ r 0 = -1 by exact (f3.resolve_left hk.1).trans (by unfold cmpZ; (repeat split) <;> omega))
  have SG := hide (show cmpZ y 0 = -1 by unfold cmpZ; (repeat split) <;> omega)
  have CA := hide (show cmpZ (r.natAbs : Int) (y.natAbs : Int) = -1 by unfold cmpZ; rw [if_pos (by omega)])
  have NX := hide (show (-x).natAbs < LB ^ 64 by rw [Int.natAbs_neg]; exact HX.out)
  have NN := hide (show - -x = x by omega)
  have lp : 0 < (idg y).length := digs_len_pos.2 (by omega)
  have lp0 : (((idg y).length : Int) == 0) = false := beq_eq_false_iff_ne.2 (by omega)
  have SX := hide sx
  have SY := hide sy
  obtain ⟨X1, X2⟩ := ic2 (isg x) A (idg x).length a (isg y) B (idg y).length d w
  have X1 := hide X1
  have X2 := hide X2
  have b : Below w.heap.size w ((w.alloc (.cells #[.bool (isg x), .slice A (idg x).length a] 41)).alloc (.cells #[.bool (isg y), .slice B (idg y).length d] 41)) := bl_al (bl_al (.refl _ _) _) _
  have o4 : IntKind.i64.wrap (-1) = -1 := rfl
  clear hx hy hk q1 q2 q3 f1 f2 f3 sx sy h0
  go_enter Tryz.func5, Tryz.ntmps5
  go_wp2_with (first
    | (go_at_call 37; (with_reducible refine (V0.out _ b).mono ?_); rintro e v1 ⟨rfl, hb⟩; have g := hb; have X1 := hide (X1.out.next g); have X2 := hide (X2.out.next g); (try clear y1 y2 y3 y4); obtain ⟨y1, y2⟩ := X1.out; obtain ⟨y3, y4⟩ := X2.out; (try clear z1 z2); have z1 := X1.out.lt'; have z2 := X2.out.lt'; have b := bl_trans b g; clear hb g)
    | (go_at_call 37; (with_reducible refine (V1.out _ b).mono ?_); rintro e v2 ⟨rfl, hb⟩; have g := hb; have X1 := hide (X1.out.next g); have X2 := hide (X2.out.next g); (try clear y1 y2 y3 y4); obtain ⟨y1, y2⟩ := X1.out; obtain ⟨y3, y4⟩ := X2.out; (try clear z1 z2); have z1 := X1.out.lt'; have z2 := X2.out.lt'; have b := bl_trans b g; clear hb g)
    | (go_at_call 40; (with_reducible refine (C1.out _ b).mono ?_); rintro e w3 ⟨A3, c3, B3, d3, rfl, s3, t3, hb⟩; have g := hb; have X1 := hide (X1.out.next g); have X2 := hide (X2.out.next g); (try clear y1 y2 y3 y4); obtain ⟨y1, y2⟩ := X1.out; obtain ⟨y3, y4⟩ := X2.out; (try clear z1 z2); have z1 := X1.out.lt'; have z2 := X2.out.lt'; have b := bl_trans b g; clear hb g)
    | (go_at_call 26; (with_reducible refine (mulI_num A3 B _ _ c3 d q y _ rfl rfl ((s3.alloc _).alloc _) (kq (bl_al (bl_al b _) _) SY.out) BQ.out HY.out BP.out).mono ?_); rintro e w4 ⟨A4, c4, rfl, s4, hb⟩; have g := bl_two hb; have Y1 := hide ((Ic.new2 _ B3 _ d3 w3 _).next hb); have X1 := hide (X1.out.next g); have X2 := hide (X2.out.next g); (try clear y1 y2 y3 y4); obtain ⟨y1, y2⟩ := X1.out; obtain ⟨y3, y4⟩ := X2.out; (try clear z1 z2); have z1 := X1.out.lt'; have z2 := X2.out.lt'; obtain ⟨y5, y6⟩ := Y1.out; have z3 := Y1.out.lt'; have t3 := bl_keeps g _ _ t3; have b := bl_trans b g; clear hb g s3)
    | (go_at_call 22; (with_reducible refine (addI_at A4 B3 _ _ c4 d3 (q * y) r _ rfl rfl (s4.alloc _) (t3.alloc _) BP.out BR.out x QX.out HX.out).mono ?_); rintro e w5 ⟨A5, c5, rfl, s5, hb⟩; have g := bl_one hb; have Y1 := hide (Y1.out.next g); have X1 := hide (X1.out.next g); have X2 := hide (X2.out.next g); (try clear y1 y2 y3 y4); obtain ⟨y1, y2⟩ := X1.out; obtain ⟨y3, y4⟩ := X2.out; (try clear z1 z2); have z1 := X1.out.lt'; have z2 := X2.out.lt'; (try clear y5 y6 z3); obtain ⟨y5, y6⟩ := Y1.out; have z3 := Y1.out.lt'; have t3 := bl_keeps g _ _ t3; have b := bl_trans b g; clear hb g s4)
    | (go_at_call 42; (with_reducible refine (textI_num A _ a x _ rfl (kq (bl_al b _) SX.out) HX.out (pow_below ht (bl_al b _))).mono ?_); rintro e w6 ⟨rfl, hb⟩; have g := bl_one hb; have Y1 := hide (Y1.out.next g); have Y2 := hide ((Ic.new _ A5 _ c5 w5).next hb); have X1 := hide (X1.out.next g); have X2 := hide (X2.out.next g); (try clear y1 y2 y3 y4); obtain ⟨y1, y2⟩ := X1.out; obtain ⟨y3, y4⟩ := X2.out; (try clear z1 z2); have z1 := X1.out.lt'; have z2 := X2.out.lt'; (try clear y5 y6 z3); obtain ⟨y5, y6⟩ := Y1.out; have z3 := Y1.out.lt'; obtain ⟨y7, y8⟩ := Y2.out; have z4 := Y2.out.lt'; have t3 := bl_keeps g _ _ t3; have s5 := bl_keeps g _ _ s5; have b := bl_trans b g; clear hb g)
    | (go_at_call 41; (with_reducible refine (parseI_back x _ HX.out).mono ?_); rintro e w7 ⟨A7, c7, rfl, s7, hb⟩; have g := hb; have Y1 := hide (Y1.out.next g); have Y2 := hide (Y2.out.next g); have X1 := hide (X1.out.next g); have X2 := hide (X2.out.next g); (try clear y1 y2 y3 y4); obtain ⟨y1, y2⟩ := X1.out; obtain ⟨y3, y4⟩ := X2.out; (try clear z1 z2); have z1 := X1.out.lt'; have z2 := X2.out.lt'; (try clear y5 y6 z3 y7 y8 z4); obtain ⟨y5, y6⟩ := Y1.out; have z3 := Y1.out.lt'; obtain ⟨y7, y8⟩ := Y2.out; have z4 := Y2.out.lt'; have t3 := bl_keeps g _ _ t3; have s5 := bl_keeps g _ _ s5; have b := bl_trans b g; clear hb g)
    | (go_at_call 31; (with_reducible refine (same2_num A5 A _ _ c5 a x x _ rfl rfl (s5.alloc _) (kq (bl_al b _) SX.out) HX.out HX.out true (decide_eq_true rfl)).mono ?_); rintro e w8 ⟨rfl, hb⟩; have g := bl_one hb; have Y1 := hide (Y1.out.next g); have Y3 := hide ((Ic.new _ A7 _ c7 w7).next hb); have X1 := hide (X1.out.next g); have X2 := hide (X2.out.next g); (try clear y1 y2 y3 y4); obtain ⟨y1, y2⟩ := X1.out; obtain ⟨y3, y4⟩ := X2.out; (try clear z1 z2); have z1 := X1.out.lt'; have z2 := X2.out.lt'; (try clear y5 y6 z3 y7 y8 z4); obtain ⟨y5, y6⟩ := Y1.out; have z3 := Y1.out.lt'; obtain ⟨y7, y8⟩ := Y3.out; have t3 := bl_keeps g _ _ t3; have s7 := bl_keeps g _ _ s7; have b := bl_trans b g; clear hb g)
    | (go_at_call 31; (with_reducible refine (same2_num A7 A _ _ c7 a x x _ rfl rfl s7 (kq b SX.out) HX.out HX.out true (decide_eq_true rfl)).mono ?_); rintro e w9 ⟨rfl, hb⟩; have g := hb; have Y1 := hide (Y1.out.next g); have X1 := hide (X1.out.next g); have X2 := hide (X2.out.next g); (try clear y1 y2 y3 y4); obtain ⟨y1, y2⟩ := X1.out; obtain ⟨y3, y4⟩ := X2.out; (try clear z1 z2); have z1 := X1.out.lt'; have z2 := X2.out.lt'; (try clear y5 y6 z3 y7 y8); obtain ⟨y5, y6⟩ := Y1.out; have t3 := bl_keeps g _ _ t3; have b := bl_trans b g; clear hb g))
  have ks := hide (show Ks w A B B3 x y r w9 from ⟨b, bl_keeps b _ _ SX.out, bl_keeps b _ _ SY.out, t3⟩)
  clear X1 X2 Y1 t3 b V0 V1 C1
  first
    | (go_region_held3 (fun W => W.cell? ⟨w.heap.size, 0, none⟩ = some (.bool (isg x)) ∧ W.cell? ⟨w.heap.size, 1, none⟩ = some (.slice A (idg x).length a) ∧ W.cell? ⟨w.heap.size + 1, 0, none⟩ = some (.bool (isg y)) ∧ W.cell? ⟨w.heap.size + 1, 1, none⟩ = some (.slice B (idg y).length d) ∧ W.cell? ⟨w3.heap.size + 1, 0, none⟩ = some (.bool (isg r)) ∧ W.cell? ⟨w3.heap.size + 1, 1, none⟩ = some (.slice B3 (idg r).length d3) ∧ Ks w A B B3 x y r W)
        (first | exact ⟨y1, y2, y3, y4, y5, y6, ks.out.drew⟩ | exact ⟨y1, y2, y3, y4, y5, y6, ks.out⟩ | exact S6_next hb (by assumption) | assumption)
        (first
          | (go_at_call 34; (with_reducible refine (signI_num B3 _ _ r _ rfl (Ks.kr (ks_of (by assumption))) BR.out (-1) SR.out).mono ?_); rintro e u1 ⟨rfl, hb⟩)
          | (go_at_call 34; (with_reducible refine (signI_num B _ _ y _ rfl (Ks.ky (ks_of (by assumption))) HY.out (-1) SG.out).mono ?_); rintro e u2 ⟨rfl, hb⟩)))
    | fail "held3"
  all_goals
    rename_i hh
    (try clear y1 y2 y3 y4 y5 y6)
    obtain ⟨y1, y2, y3, y4, y5, y6, ks⟩ := hh
    have z5 := cell_lt y1
    have z6 := cell_lt y3
    have z7 := cell_lt y5
    have x1 := y1
    have x2 := y2
    have x3 := y3
    have x4 := y4
    have x5 := y5
    have x6 := y6
    clear y1 y2 y3 y4 y5 y6
    have m3 := fun X => cell_next (bl_al (.refl _ u2) X) x3
    have y3 := fun X Y => cell_next (bl_al (.refl _ (u2.alloc X)) Y) (m3 X)
    have m4 := fun X => cell_next (bl_al (.refl _ u2) X) x4
    have y4 := fun X Y => cell_next (bl_al (.refl _ (u2.alloc X)) Y) (m4 X)
    have m5 := fun X => cell_next (bl_al (.refl _ u2) X) x5
    have y5 := fun X Y => cell_next (bl_al (.refl _ (u2.alloc X)) Y) (m5 X)
    have m6 := fun X => cell_next (bl_al (.refl _ u2) X) x6
    have y6 := fun X Y => cell_next (bl_al (.refl _ (u2.alloc X)) Y) (m6 X)
    have y1 := fun X Y => cell_next (bl_al (.refl _ (u2.alloc X)) Y) (cell_next (bl_al (.refl _ u2) X) x1)
    have y2 := fun X Y => cell_next (bl_al (.refl _ (u2.alloc X)) Y) (cell_next (bl_al (.refl _ u2) X) x2)
    go_wp2
    go_region
  all_goals
    clear m3 m4 m5 m6 x3 x4 x5 x6 y3 y4 y5 y6
    have kz := hide (fun X Y => (ks.next (bl_al (bl_al (.refl _ u2) X) Y)).drew)
    clear ks z5 z6 z7 x1 x2
    go_wp2
    first
      | (have hS : (fun W : World => W.cell? ⟨w.heap.size, 0, none⟩ = some (.bool (isg x)) ∧ W.cell? ⟨w.heap.size, 1, none⟩ = some (.slice A (idg x).length a) ∧ W.cell? ⟨u2.heap.size, 0, none⟩ = some (.bool false) ∧ W.cell? ⟨u2.heap.size, 1, none⟩ = some (.slice B (idg y).length d) ∧ W.cell? ⟨u2.heap.size + 1, 0, none⟩ = some (.bool false) ∧ W.cell? ⟨u2.heap.size + 1, 1, none⟩ = some (.slice B3 (idg r).length d3) ∧ Ks w A B B3 x y r W) (((u2.alloc (.cells #[.bool false, .slice B (idg y).length d] 41)).alloc (.cells #[.bool false, .slice B3 (idg r).length d3] 41)).drew) := by
            obtain ⟨⟨n1, n2⟩, n3, n4⟩ := two_new B (idg y).length d B3 (idg r).length d3 u2
            exact ⟨y1 _ _, y2 _ _, n1, n2, n3, n4, kz.out _ _⟩
         clear y1 y2 kz
         generalize ((u2.alloc (.cells #[.bool false, .slice B (idg y).length d] 41)).alloc (.cells #[.bool false, .slice B3 (idg r).length d3] 41)).drew = v at hS ⊢
         obtain ⟨y1, y2, y3, y4, y5, y6, ks⟩ := hS
         have ks := hide ks
         go_region_held3 (fun W => W.cell? ⟨w.heap.size, 0, none⟩ = some (.bool (isg x)) ∧ W.cell? ⟨w.heap.size, 1, none⟩ = some (.slice A (idg x).length a) ∧ W.cell? ⟨u2.heap.size, 0, none⟩ = some (.bool false) ∧ W.cell? ⟨u2.heap.size, 1, none⟩ = some (.slice B (idg y).length d) ∧ W.cell? ⟨u2.heap.size + 1, 0, none⟩ = some (.bool false) ∧ W.cell? ⟨u2.heap.size + 1, 1, none⟩ = some (.slice B3 (idg r).length d3) ∧ Ks w A B B3 x y r W)
           (first | exact ⟨y1, y2, y3, y4, y5, y6, ks.out.drew⟩ | exact ⟨y1, y2, y3, y4, y5, y6, ks.out⟩ | exact S6_next hb (by assumption) | assumption)
           (first
             | (go_at_call 32; (with_reducible refine (cmpI_abs B3 B _ _ d3 d r y _ rfl rfl (Ks.kr (ks_of (by assumption))) (Ks.ky (ks_of (by assumption))) BR.out HY.out (-1) CA.out).mono ?_); rintro e u3 ⟨rfl, hb⟩)
             | (go_at_call 35; (with_reducible refine (negI_at A _ a x _ rfl (Ks.kx (ks_of (by assumption))) HX.out (-x) rfl).mono ?_); rintro e u4 ⟨D1, e1, rfl, t1, hb⟩)
             | (go_at_call 35; (with_reducible refine (negI_at D1 _ e1 (-x) _ rfl t1 NX.out x NN.out).mono ?_); rintro e u5 ⟨D2, e2, rfl, t2, hb⟩)
             | (go_at_call 31; (with_reducible refine (same2_num D2 A _ _ e2 a x x _ rfl rfl t2 (Ks.kx (ks_of (by assumption))) HX.out HX.out true (decide_eq_true rfl)).mono ?_); rintro e u6 ⟨rfl, hb⟩)
             | (go_at_call 21; (with_reducible refine (awake2_any _ (pow_below ht (Ks.b (ks_of (by assumption))))).mono ?_); rintro e u7 ⟨rfl, hb⟩)))
      | (have hS : (fun W : World => W.cell? ⟨w.heap.size, 0, none⟩ = some (.bool (isg x)) ∧ W.cell? ⟨w.heap.size, 1, none⟩ = some (.slice A (idg x).length a) ∧ W.cell? ⟨u2.heap.size + 1, 0, none⟩ = some (.bool false) ∧ W.cell? ⟨u2.heap.size + 1, 1, none⟩ = some (.slice B (idg y).length d) ∧ W.cell? ⟨u2.heap.size, 0, none⟩ = some (.bool false) ∧ W.cell? ⟨u2.heap.size, 1, none⟩ = some (.slice B3 (idg r).length d3) ∧ Ks w A B B3 x y r W) (((u2.alloc (.cells #[.bool false, .slice B3 (idg r).length d3] 41)).alloc (.cells #[.bool false, .slice B (idg y).length d] 41)).drew) := by
            obtain ⟨⟨n3, n4⟩, n1, n2⟩ := two_new B3 (idg r).length d3 B (idg y).length d u2
            exact ⟨y1 _ _, y2 _ _, n1, n2, n3, n4, kz.out _ _⟩
         clear y1 y2 kz
         generalize ((u2.alloc (.cells #[.bool false, .slice B3 (idg r).length d3] 41)).alloc (.cells #[.bool false, .slice B (idg y).length d] 41)).drew = v at hS ⊢
         obtain ⟨y1, y2, y3, y4, y5, y6, ks⟩ := hS
         have ks := hide ks
         go_region_held3 (fun W => W.cell? ⟨w.heap.size, 0, none⟩ = some (.bool (isg x)) ∧ W.cell? ⟨w.heap.size, 1, none⟩ = some (.slice A (idg x).length a) ∧ W.cell? ⟨u2.heap.size + 1, 0, none⟩ = some (.bool false) ∧ W.cell? ⟨u2.heap.size + 1, 1, none⟩ = some (.slice B (idg y).length d) ∧ W.cell? ⟨u2.heap.size, 0, none⟩ = some (.bool false) ∧ W.cell? ⟨u2.heap.size, 1, none⟩ = some (.slice B3 (idg r).length d3) ∧ Ks w A B B3 x y r W)
           (first | exact ⟨y1, y2, y3, y4, y5, y6, ks.out.drew⟩ | exact ⟨y1, y2, y3, y4, y5, y6, ks.out⟩ | exact S6_next hb (by assumption) | assumption)
           (first
             | (go_at_call 32; (with_reducible refine (cmpI_abs B3 B _ _ d3 d r y _ rfl rfl (Ks.kr (ks_of (by assumption))) (Ks.ky (ks_of (by assumption))) BR.out HY.out (-1) CA.out).mono ?_); rintro e u3 ⟨rfl, hb⟩)
             | (go_at_call 35; (with_reducible refine (negI_at A _ a x _ rfl (Ks.kx (ks_of (by assumption))) HX.out (-x) rfl).mono ?_); rintro e u4 ⟨D1, e1, rfl, t1, hb⟩)
             | (go_at_call 35; (with_reducible refine (negI_at D1 _ e1 (-x) _ rfl t1 NX.out x NN.out).mono ?_); rintro e u5 ⟨D2, e2, rfl, t2, hb⟩)
             | (go_at_call 31; (with_reducible refine (same2_num D2 A _ _ e2 a x x _ rfl rfl t2 (Ks.kx (ks_of (by assumption))) HX.out HX.out true (decide_eq_true rfl)).mono ?_); rintro e u6 ⟨rfl, hb⟩)
             | (go_at_call 21; (with_reducible refine (awake2_any _ (pow_below ht (Ks.b (ks_of (by assumption))))).mono ?_); rintro e u7 ⟨rfl, hb⟩)))
    all_goals
      go_wp2
      go_ret
      exact ⟨rfl, Ks.b (ks_of (by assumption))⟩

set_option maxRecDepth 100000 in
set_option maxHeartbeats 8000000 in
theorem signs_law (s t : Bool) (A B : Option Addr) (a d : Nat) (xs ys : List Nat) (w : World) (sx : Sl w A xs) (sy : Sl w B ys) (lx : Limbs xs) (ly : Limbs ys) (hlx : xs.length ≤ 9223372036854775807) (hly : ys.length ≤ 9223372036854775807) (ht : Pow10 w) :
    Calls Tryz.prog 5 #[.agg #[.bool s, .slice A xs.length a], .agg #[.bool t, .slice B ys.length d]] w fun e w' => e = .returned (.bool true) ∧ Below w.heap.size w w' := by
  have AW := hide (fun W (h : Below w.heap.size w W) => awake2_any W (pow_below ht h))
  have V0 := hide (fun W (h : Below w.heap.size w W) => validI_any s A a xs W (bl_keeps h _ _ sx) hlx)
  have V1 := hide (fun W (h : Below w.heap.size w W) => validI_any t B d ys W (bl_keeps h _ _ sy) hly)
  obtain ⟨X1, X2⟩ := ic2 s A xs.length a t B ys.length d w
  have X1 := hide X1
  have X2 := hide X2
  have b : Below w.heap.size w ((w.alloc (.cells #[.bool s, .slice A xs.length a] 41)).alloc (.cells #[.bool t, .slice B ys.length d] 41)) := bl_al (bl_al (.refl _ _) _) _
  by_cases n0 : xs.length ≤ 8
  · by_cases n1 : ys.length ≤ 8
    · cases v0 : validI s xs with
      | true =>
        rw [v0] at V0
        cases v1 : validI t ys with
        | true =>
          rw [v1] at V1
          by_cases n2 : ys.length = 0
          · have lp0 : ((ys.length : Int) == 0) = true := by rw [n2]; rfl
            clear n2
            go_enter Tryz.func5, Tryz.ntmps5
            go_wp2_with (first
              | (go_at_call 37; (with_reducible refine (V0.out _ b).mono ?_); rintro e v1 ⟨rfl, hb⟩; have X1 := hide (X1.out.next hb); have X2 := hide (X2.out.next hb); (try clear y1 y2 y3 y4); obtain ⟨y1, y2⟩ := X1.out; obtain ⟨y3, y4⟩ := X2.out; have b := bl_trans b hb; clear hb)
              | (go_at_call 37; (with_reducible refine (V1.out _ b).mono ?_); rintro e v2 ⟨rfl, hb⟩; have X1 := hide (X1.out.next hb); have X2 := hide (X2.out.next hb); (try clear y1 y2 y3 y4); obtain ⟨y1, y2⟩ := X1.out; obtain ⟨y3, y4⟩ := X2.out; have b := bl_trans b hb; clear hb)
              | (go_at_call 21; (with_reducible refine (AW.out _ b).mono ?_); rintro e u8 ⟨rfl, hb⟩; have b := bl_trans b hb; clear hb))
            go_ret
            exact ⟨rfl, b⟩
          · obtain ⟨x, rfl, rfl, hx⟩ := as_int lx v0 n0
            obtain ⟨y, rfl, rfl, hy⟩ := as_int ly v1 n1
            have hp := digs_len_pos.1 (Nat.pos_of_ne_zero n2)
            have h0 : y ≠ 0 := by omega
            by_cases r0 : remI x y = 0
            · exact signs_zero A B a d x y w sx sy hx hy n0 n1 h0 ht r0
            · by_cases k : 0 < y
              · exact signs_pos A B a d x y w sx sy hx hy n0 n1 h0 ht ⟨r0, k⟩
              · exact signs_neg A B a d x y w sx sy hx hy n0 n1 h0 ht ⟨r0, by omega⟩
        | false =>
          rw [v1] at V1
          clear v1
          go_enter Tryz.func5, Tryz.ntmps5
          go_wp2_with (first
            | (go_at_call 37; (with_reducible refine (V0.out _ b).mono ?_); rintro e v1 ⟨rfl, hb⟩; have X1 := hide (X1.out.next hb); have X2 := hide (X2.out.next hb); (try clear y1 y2 y3 y4); obtain ⟨y1, y2⟩ := X1.out; obtain ⟨y3, y4⟩ := X2.out; have b := bl_trans b hb; clear hb)
            | (go_at_call 37; (with_reducible refine (V1.out _ b).mono ?_); rintro e v2 ⟨rfl, hb⟩; have X1 := hide (X1.out.next hb); have X2 := hide (X2.out.next hb); (try clear y1 y2 y3 y4); obtain ⟨y1, y2⟩ := X1.out; obtain ⟨y3, y4⟩ := X2.out; have b := bl_trans b hb; clear hb)
            | (go_at_call 21; (with_reducible refine (AW.out _ b).mono ?_); rintro e u8 ⟨rfl, hb⟩; have b := bl_trans b hb; clear hb))
          go_ret
          exact ⟨rfl, b⟩
      | false =>
        rw [v0] at V0
        clear v0
        go_enter Tryz.func5, Tryz.ntmps5
        go_wp2_with (first
          | (go_at_call 37; (with_reducible refine (V0.out _ b).mono ?_); rintro e v1 ⟨rfl, hb⟩; have X1 := hide (X1.out.next hb); have X2 := hide (X2.out.next hb); (try clear y1 y2 y3 y4); obtain ⟨y1, y2⟩ := X1.out; obtain ⟨y3, y4⟩ := X2.out; have b := bl_trans b hb; clear hb)
          | (go_at_call 37; (with_reducible refine (V1.out _ b).mono ?_); rintro e v2 ⟨rfl, hb⟩; have X1 := hide (X1.out.next hb); have X2 := hide (X2.out.next hb); (try clear y1 y2 y3 y4); obtain ⟨y1, y2⟩ := X1.out; obtain ⟨y3, y4⟩ := X2.out; have b := bl_trans b hb; clear hb)
          | (go_at_call 21; (with_reducible refine (AW.out _ b).mono ?_); rintro e u8 ⟨rfl, hb⟩; have b := bl_trans b hb; clear hb))
        go_ret
        exact ⟨rfl, b⟩
    · go_enter Tryz.func5, Tryz.ntmps5
      go_wp2_with (first
        | (go_at_call 37; (with_reducible refine (V0.out _ b).mono ?_); rintro e v1 ⟨rfl, hb⟩; have X1 := hide (X1.out.next hb); have X2 := hide (X2.out.next hb); (try clear y1 y2 y3 y4); obtain ⟨y1, y2⟩ := X1.out; obtain ⟨y3, y4⟩ := X2.out; have b := bl_trans b hb; clear hb)
        | (go_at_call 37; (with_reducible refine (V1.out _ b).mono ?_); rintro e v2 ⟨rfl, hb⟩; have X1 := hide (X1.out.next hb); have X2 := hide (X2.out.next hb); (try clear y1 y2 y3 y4); obtain ⟨y1, y2⟩ := X1.out; obtain ⟨y3, y4⟩ := X2.out; have b := bl_trans b hb; clear hb)
        | (go_at_call 21; (with_reducible refine (AW.out _ b).mono ?_); rintro e u8 ⟨rfl, hb⟩; have b := bl_trans b hb; clear hb))
      go_ret
      exact ⟨rfl, b⟩
  · go_enter Tryz.func5, Tryz.ntmps5
    go_wp2_with (first
      | (go_at_call 37; (with_reducible refine (V0.out _ b).mono ?_); rintro e v1 ⟨rfl, hb⟩; have X1 := hide (X1.out.next hb); have X2 := hide (X2.out.next hb); (try clear y1 y2 y3 y4); obtain ⟨y1, y2⟩ := X1.out; obtain ⟨y3, y4⟩ := X2.out; have b := bl_trans b hb; clear hb)
      | (go_at_call 37; (with_reducible refine (V1.out _ b).mono ?_); rintro e v2 ⟨rfl, hb⟩; have X1 := hide (X1.out.next hb); have X2 := hide (X2.out.next hb); (try clear y1 y2 y3 y4); obtain ⟨y1, y2⟩ := X1.out; obtain ⟨y3, y4⟩ := X2.out; have b := bl_trans b hb; clear hb)
      | (go_at_call 21; (with_reducible refine (AW.out _ b).mono ?_); rintro e u8 ⟨rfl, hb⟩; have b := bl_trans b hb; clear hb))
    go_ret
    exact ⟨rfl, b⟩
end Nt

end Go.Proofs.YtgmjdaallinicaaGreatDoor
