
/-
  The law WholeOrder.
-/
import Derived.Test.YthdjjcooekkncaaDoorWholeZ

namespace Go.Proofs.YthdjjcooekkncaaDoor

open Go.RowKit

namespace Nt

/-- Three boxes, as they lie at the start of a call. -/
theorem ic3 (s : Bool) (A : Option Addr) (n a : Nat) (t : Bool) (B : Option Addr) (m b : Nat) (u : Bool) (C : Option Addr) (k c : Nat) (w : World) :
    Ic w.heap.size s A n a (((w.alloc (.cells #[.bool s, .slice A n a] 46)).alloc (.cells #[.bool t, .slice B m b] 46)).alloc (.cells #[.bool u, .slice C k c] 46)) ∧
    Ic (w.heap.size + 1) t B m b (((w.alloc (.cells #[.bool s, .slice A n a] 46)).alloc (.cells #[.bool t, .slice B m b] 46)).alloc (.cells #[.bool u, .slice C k c] 46)) ∧
    Ic (w.heap.size + 1 + 1) u C k c (((w.alloc (.cells #[.bool s, .slice A n a] 46)).alloc (.cells #[.bool t, .slice B m b] 46)).alloc (.cells #[.bool u, .slice C k c] 46)) := by
  refine ⟨((Ic.new s A n a w).al _).al _, (Ic.new2 t B m b w _).al _, ?_⟩
  have := Ic.new u C k c ((w.alloc (.cells #[.bool s, .slice A n a] 46)).alloc (.cells #[.bool t, .slice B m b] 46))
  rwa [size1, size1] at this
theorem cmpZ_neg (x y : Int) : cmpZ (-x) (-y) = cmpZ y x := by
  unfold cmpZ
  simp only [Int.neg_lt_neg_iff]
theorem cmpZ_add (x y z : Int) : cmpZ (x + z) (y + z) = cmpZ x y := by
  unfold cmpZ
  simp only [Int.add_lt_add_iff_right]
theorem cmpZ_sub (x y : Int) : cmpZ (x - y) 0 = cmpZ x y := by
  unfold cmpZ
  (repeat split) <;> omega
/-- What stays to the end. -/
def Ko (w : World) (A B A2 A3 A4 : Option Addr) (x y p q r : Int) (W : World) : Prop := Below w.heap.size w W ∧ Sl W A (idg x) ∧ Sl W B (idg y) ∧ Sl W A2 (idg p) ∧ Sl W A3 (idg q) ∧ Sl W A4 (idg r)
section

variable {w : World} {A B A2 A3 A4 : Option Addr} {x y p q r : Int} {W W' : World}
theorem Ko.drew (k : Ko w A B A2 A3 A4 x y p q r W) : Ko w A B A2 A3 A4 x y p q r W.drew := ⟨k.1.drew, k.2⟩
theorem Ko.next (k : Ko w A B A2 A3 A4 x y p q r W) (hb : Below W.heap.size W W') : Ko w A B A2 A3 A4 x y p q r W' := ⟨bl_trans k.1 hb, bl_keeps hb _ _ k.2.1, bl_keeps hb _ _ k.2.2.1, bl_keeps hb _ _ k.2.2.2.1, bl_keeps hb _ _ k.2.2.2.2.1, bl_keeps hb _ _ k.2.2.2.2.2⟩
theorem Ko.b (k : Ko w A B A2 A3 A4 x y p q r W) : Below w.heap.size w W := k.1
theorem Ko.kx (k : Ko w A B A2 A3 A4 x y p q r W) : Sl W A (idg x) := k.2.1
theorem Ko.ky (k : Ko w A B A2 A3 A4 x y p q r W) : Sl W B (idg y) := k.2.2.1
theorem Ko.kp (k : Ko w A B A2 A3 A4 x y p q r W) : Sl W A2 (idg p) := k.2.2.2.1
theorem Ko.kq (k : Ko w A B A2 A3 A4 x y p q r W) : Sl W A3 (idg q) := k.2.2.2.2.1
theorem Ko.kr (k : Ko w A B A2 A3 A4 x y p q r W) : Sl W A4 (idg r) := k.2.2.2.2.2
end
theorem Ic.lt {g : Nat} {s : Bool} {A : Option Addr} {n c : Nat} {w : World} (x : Ic g s A n c w) : g < w.heap.size := by
  have h := x.1
  unfold World.cell? at h
  cases hh : w.heap[g]? with
  | none => rw [hh] at h; cases h
  | some y => exact (Array.getElem?_eq_some_iff.1 hh).1
theorem S10_next {w w' : World} (hb : Below w.heap.size w w') {p1 p2 p3 p4 p5 p6 p7 p8 p9 p10 : Addr} {v1 v2 v3 v4 v5 v6 v7 v8 v9 v10 : Value} {w0 : World} {A B A2 A3 A4 : Option Addr} {x y p q r : Int}
    (h : w.cell? p1 = some v1 ∧ w.cell? p2 = some v2 ∧ w.cell? p3 = some v3 ∧ w.cell? p4 = some v4 ∧ w.cell? p5 = some v5 ∧ w.cell? p6 = some v6 ∧ w.cell? p7 = some v7 ∧ w.cell? p8 = some v8 ∧ w.cell? p9 = some v9 ∧ w.cell? p10 = some v10 ∧ Ko w0 A B A2 A3 A4 x y p q r w) :
    w'.cell? p1 = some v1 ∧ w'.cell? p2 = some v2 ∧ w'.cell? p3 = some v3 ∧ w'.cell? p4 = some v4 ∧ w'.cell? p5 = some v5 ∧ w'.cell? p6 = some v6 ∧ w'.cell? p7 = some v7 ∧ w'.cell? p8 = some v8 ∧ w'.cell? p9 = some v9 ∧ w'.cell? p10 = some v10 ∧ Ko w0 A B A2 A3 A4 x y p q r w' := by
  obtain ⟨h1, h2, h3, h4, h5, h6, h7, h8, h9, h10, h11⟩ := h
  exact ⟨cell_next hb h1, cell_next hb h2, cell_next hb h3, cell_next hb h4, cell_next hb h5, cell_next hb h6, cell_next hb h7, cell_next hb h8, cell_next hb h9, cell_next hb h10, h11.next hb⟩
theorem ko_of {c1 c2 c3 c4 c5 c6 c7 c8 c9 c10 k : Prop} (h : c1 ∧ c2 ∧ c3 ∧ c4 ∧ c5 ∧ c6 ∧ c7 ∧ c8 ∧ c9 ∧ c10 ∧ k) : k := h.2.2.2.2.2.2.2.2.2.2
theorem abs_lt8 {x : Int} (h : x.natAbs < LB ^ 8) : x.natAbs < LB ^ 64 := Nat.lt_of_lt_of_le h (Nat.pow_le_pow_right LB_pos (by decide))
theorem abs_add9 {x y : Int} (h : x.natAbs < LB ^ 8) (k : y.natAbs < LB ^ 8) : (x + y).natAbs < LB ^ 64 ∧ (x - y).natAbs < LB ^ 64 := by
  have h2 : LB ^ 8 + LB ^ 8 ≤ LB ^ 64 := by
    have := Nat.mul_le_mul_left (LB ^ 8) LB_two
    rw [← Nat.pow_succ, Nat.mul_two] at this
    exact Nat.le_trans this (Nat.pow_le_pow_right LB_pos (by decide))
  omega

set_option maxRecDepth 100000 in
set_option maxHeartbeats 8000000 in
theorem order_lt (A B C : Option Addr) (a c d : Nat) (x y z : Int) (w : World) (sx : Sl w A (idg x)) (sy : Sl w B (idg y)) (sz : Sl w C (idg z)) (hx : x.natAbs < LB ^ 8) (hy : y.natAbs < LB ^ 8) (hz : z.natAbs < LB ^ 8) (lx : (idg x).length ≤ 8) (ly : (idg y).length ≤ 8) (lz : (idg z).length ≤ 8) (ht : Pow10 w) (hk : x < y) :
    Calls Tryd.prog 10 #[.agg #[.bool (isg x), .slice A (idg x).length a], .agg #[.bool (isg y), .slice B (idg y).length c], .agg #[.bool (isg z), .slice C (idg z).length d]] w fun e w' => e = .returned (.bool true) ∧ Below w.heap.size w w' := by
  have HX := hide (abs_lt8 hx)
  have HY := hide (abs_lt8 hy)
  have HZ := hide (abs_lt8 hz)
  have XZ := hide (abs_add9 hx hz).1
  have YZ := hide (abs_add9 hy hz).1
  have XY := hide (abs_add9 hx hy).2
  have NX := hide (show (-x).natAbs < LB ^ 64 by rw [Int.natAbs_neg]; exact HX.out)
  have NY := hide (show (-y).natAbs < LB ^ 64 by rw [Int.natAbs_neg]; exact HY.out)
  have k1 : cmpZ x y = -1 := by unfold cmpZ; (repeat split) <;> omega
  have K2 := hide (show cmpZ y x = 1 by unfold cmpZ; (repeat split) <;> omega)
  have K3 := hide (show cmpZ (-x) (-y) = 1 by rw [cmpZ_neg]; exact K2.out)
  have K4 := hide (show cmpZ (x + z) (y + z) = -1 by rw [cmpZ_add]; exact k1)
  have K5 := hide (show cmpZ (x - y) 0 = -1 by rw [cmpZ_sub]; exact k1)
  have SM := hide (show decide (x = y) = false by simp; omega)
  have V0 := hide (fun W (h : Below w.heap.size w W) => (validI_any (isg x) A a (idg x) W (bl_keeps h _ _ sx) (by omega)))
  have V1 := hide (fun W (h : Below w.heap.size w W) => (validI_any (isg y) B c (idg y) W (bl_keeps h _ _ sy) (by omega)))
  have V2 := hide (fun W (h : Below w.heap.size w W) => (validI_any (isg z) C d (idg z) W (bl_keeps h _ _ sz) (by omega)))
  rw [validI_num HX.out] at V0
  rw [validI_num HY.out] at V1
  rw [validI_num HZ.out] at V2
  have C1 := hide (fun W (h : Below w.heap.size w W) => cmpI_num A B _ _ a c x y W rfl rfl (bl_keeps h _ _ sx) (bl_keeps h _ _ sy) HX.out HY.out _ k1)
  have C2 := hide (fun W (h : Below w.heap.size w W) => addI_num A C _ _ a d x z W rfl rfl (bl_keeps h _ _ sx) (bl_keeps h _ _ sz) HX.out HZ.out XZ.out)
  have C3 := hide (fun W (h : Below w.heap.size w W) => addI_num B C _ _ c d y z W rfl rfl (bl_keeps h _ _ sy) (bl_keeps h _ _ sz) HY.out HZ.out YZ.out)
  have C4 := hide (fun W (h : Below w.heap.size w W) => subI_num A B _ _ a c x y W rfl rfl (bl_keeps h _ _ sx) (bl_keeps h _ _ sy) HX.out HY.out XY.out)
  have SX := hide sx
  have SY := hide sy
  obtain ⟨X1, X2, X3⟩ := ic3 (isg x) A (idg x).length a (isg y) B (idg y).length c (isg z) C (idg z).length d w
  have X1 := hide X1
  have X2 := hide X2
  have X3 := hide X3
  have b : Below w.heap.size w (((w.alloc (.cells #[.bool (isg x), .slice A (idg x).length a] 46)).alloc (.cells #[.bool (isg y), .slice B (idg y).length c] 46)).alloc (.cells #[.bool (isg z), .slice C (idg z).length d] 46)) := bl_al (bl_al (bl_al (.refl _ _) _) _) _
  have o1 : binOp .eql 3 (.int .i64 (-1)) (.int .i64 0) = pure (.bool false) := rfl
  have o2 : ∀ W : World, (binOp .eql 4 (.bool false) (.bool false)).run Tryd.prog W = .ok (.bool true) W := fun _ => by kernel_rfl
  have o4 : IntKind.i64.wrap (-1) = -1 := rfl
  have o5 : IntKind.i64.wrap 1 = 1 := rfl
  have o6 : IntKind.i64.wrap 0 = 0 := rfl
  have o3 : binOp .eql 3 (.int .i64 (-1)) (.int .i64 (-1)) = pure (.bool true) := rfl
  clear hx hy hz hk k1 sx sy sz
  go_enter Tryd.func10, Tryd.ntmps10
  go_wp2_with (first
    | (go_at_call 32; (with_reducible refine (V0.out _ b).mono ?_); rintro e v1 ⟨rfl, hb⟩; have X1 := hide (X1.out.next hb); have X2 := hide (X2.out.next hb); have X3 := hide (X3.out.next hb); (try clear y1 y2 y3 y4 y5 y6); obtain ⟨y1, y2⟩ := X1.out; obtain ⟨y3, y4⟩ := X2.out; obtain ⟨y5, y6⟩ := X3.out; have b := bl_trans b hb; clear hb)
    | (go_at_call 32; (with_reducible refine (V1.out _ b).mono ?_); rintro e v2 ⟨rfl, hb⟩; have X1 := hide (X1.out.next hb); have X2 := hide (X2.out.next hb); have X3 := hide (X3.out.next hb); (try clear y1 y2 y3 y4 y5 y6); obtain ⟨y1, y2⟩ := X1.out; obtain ⟨y3, y4⟩ := X2.out; obtain ⟨y5, y6⟩ := X3.out; have b := bl_trans b hb; clear hb)
    | (go_at_call 32; (with_reducible refine (V2.out _ b).mono ?_); rintro e v3 ⟨rfl, hb⟩; have X1 := hide (X1.out.next hb); have X2 := hide (X2.out.next hb); have X3 := hide (X3.out.next hb); (try clear y1 y2 y3 y4 y5 y6); obtain ⟨y1, y2⟩ := X1.out; obtain ⟨y3, y4⟩ := X2.out; obtain ⟨y5, y6⟩ := X3.out; have b := bl_trans b hb; clear hb)
    | (go_at_call 34; (with_reducible refine (C1.out _ b).mono ?_); rintro e w1 ⟨rfl, hb⟩; have X1 := hide (X1.out.next hb); have X2 := hide (X2.out.next hb); have X3 := hide (X3.out.next hb); (try clear y1 y2 y3 y4 y5 y6); obtain ⟨y1, y2⟩ := X1.out; obtain ⟨y3, y4⟩ := X2.out; obtain ⟨y5, y6⟩ := X3.out; have b := bl_trans b hb; clear hb)
    | (go_at_call 35; (with_reducible refine (C2.out _ b).mono ?_); rintro e w2 ⟨A2, c2, rfl, s2, hb⟩; have X1 := hide (X1.out.next hb); have X2 := hide (X2.out.next hb); have X3 := hide (X3.out.next hb); (try clear y1 y2 y3 y4 y5 y6); obtain ⟨y1, y2⟩ := X1.out; obtain ⟨y3, y4⟩ := X2.out; obtain ⟨y5, y6⟩ := X3.out;  (try clear z1 z2 z3); have z1 := X1.out.lt; have z2 := X2.out.lt; have z3 := X3.out.lt; have b := bl_trans b hb; clear hb)
    | (go_at_call 35; (with_reducible refine (C3.out _ (bl_al b _)).mono ?_); rintro e w3 ⟨A3, c3, rfl, s3, hb⟩; have g := bl_one hb; have Y2 := hide ((Ic.new _ A2 _ c2 w2).next hb); have X1 := hide (X1.out.next g); have X2 := hide (X2.out.next g); have X3 := hide (X3.out.next g); (try clear y1 y2 y3 y4 y5 y6); obtain ⟨y1, y2⟩ := X1.out; obtain ⟨y3, y4⟩ := X2.out; obtain ⟨y5, y6⟩ := X3.out; have b := bl_trans b g; (try clear z1 z2 z3); have z1 := X1.out.lt; have z2 := X2.out.lt; have z3 := X3.out.lt; have s2 := bl_keeps g _ _ s2; clear hb g)
    | (go_at_call 36; (with_reducible refine (C4.out _ (bl_al b _)).mono ?_); rintro e w4 ⟨A4, c4, rfl, s4, hb⟩; have g := bl_one hb; have Y3 := hide ((Ic.new _ A3 _ c3 w3).next hb); have X1 := hide (X1.out.next g); have X2 := hide (X2.out.next g); have X3 := hide (X3.out.next g); (try clear y1 y2 y3 y4 y5 y6); obtain ⟨y1, y2⟩ := X1.out; obtain ⟨y3, y4⟩ := X2.out; obtain ⟨y5, y6⟩ := X3.out; have b := bl_trans b g; (try clear z1 z2 z3); have z1 := X1.out.lt; have z2 := X2.out.lt; have z3 := X3.out.lt; have Y2 := hide (Y2.out.next g); have s2 := bl_keeps g _ _ s2; have s3 := bl_keeps g _ _ s3; clear hb g))
  have ko := hide (show Ko w A B A2 A3 A4 x y (x + z) (y + z) (x - y) (w4.alloc (.cells #[.bool (isg (x - y)), .slice A4 (idg (x - y)).length c4] 46)) from ⟨bl_al b _, bl_keeps (bl_al b _) _ _ SX.out, bl_keeps (bl_al b _) _ _ SY.out, s2.alloc _, s3.alloc _, s4.alloc _⟩)
  clear y1 y2 y3 y4 y5 y6 z1 z2 z3 lx ly lz
  obtain ⟨y1, y2⟩ := X1.out.al (.cells #[.bool (isg (x - y)), .slice A4 (idg (x - y)).length c4] 46)
  obtain ⟨y3, y4⟩ := X2.out.al (.cells #[.bool (isg (x - y)), .slice A4 (idg (x - y)).length c4] 46)
  obtain ⟨z1, z2⟩ := Y2.out.al (.cells #[.bool (isg (x - y)), .slice A4 (idg (x - y)).length c4] 46)
  obtain ⟨z3, z4⟩ := Y3.out.al (.cells #[.bool (isg (x - y)), .slice A4 (idg (x - y)).length c4] 46)
  obtain ⟨z5, z6⟩ := Ic.new (isg (x - y)) A4 (idg (x - y)).length c4 w4
  clear X1 X2 X3 Y2 Y3 s2 s3 s4 b V0 V1 V2 C1 C2 C3 C4
  go_region_held3 (fun W => W.cell? ⟨w.heap.size, 0, none⟩ = some (.bool (isg x)) ∧ W.cell? ⟨w.heap.size, 1, none⟩ = some (.slice A (idg x).length a) ∧ W.cell? ⟨w.heap.size + 1, 0, none⟩ = some (.bool (isg y)) ∧ W.cell? ⟨w.heap.size + 1, 1, none⟩ = some (.slice B (idg y).length c) ∧ W.cell? ⟨w2.heap.size, 0, none⟩ = some (.bool (isg (x + z))) ∧ W.cell? ⟨w2.heap.size, 1, none⟩ = some (.slice A2 (idg (x + z)).length c2) ∧ W.cell? ⟨w3.heap.size, 0, none⟩ = some (.bool (isg (y + z))) ∧ W.cell? ⟨w3.heap.size, 1, none⟩ = some (.slice A3 (idg (y + z)).length c3) ∧ W.cell? ⟨w4.heap.size, 0, none⟩ = some (.bool (isg (x - y))) ∧ W.cell? ⟨w4.heap.size, 1, none⟩ = some (.slice A4 (idg (x - y)).length c4) ∧ Ko w A B A2 A3 A4 x y (x + z) (y + z) (x - y) W)
    (first | exact ⟨y1, y2, y3, y4, z1, z2, z3, z4, z5, z6, ko.out.drew⟩ | exact ⟨y1, y2, y3, y4, z1, z2, z3, z4, z5, z6, ko.out⟩ | exact S10_next hb (by assumption) | assumption)
    (first
      | (go_at_call 34; (with_reducible refine (cmpI_num B A _ _ _ _ y x _ rfl rfl (Ko.ky (ko_of (by assumption))) (Ko.kx (ko_of (by assumption))) HY.out HX.out (1) K2.out).mono ?_); rintro e u1 ⟨rfl, hb⟩)
      | (go_at_call 37; (with_reducible refine (same2_num A B _ _ _ _ x y _ rfl rfl (Ko.kx (ko_of (by assumption))) (Ko.ky (ko_of (by assumption))) HX.out HY.out false SM.out).mono ?_); rintro e u2 ⟨rfl, hb⟩)
      | (go_at_call 38; (with_reducible refine (negI_num A _ _ x _ rfl (Ko.kx (ko_of (by assumption))) HX.out).mono ?_); rintro e u3 ⟨A5, c5, rfl, s5, hb⟩; (try have s6 := bl_keeps hb _ _ s6))
      | (go_at_call 38; (with_reducible refine (negI_num B _ _ y _ rfl (Ko.ky (ko_of (by assumption))) HY.out).mono ?_); rintro e u4 ⟨A6, c6, rfl, s6, hb⟩; (try have s5 := bl_keeps hb _ _ s5))
      | (go_at_call 34; (with_reducible refine (cmpI_num A5 A6 _ _ _ _ (-x) (-y) _ rfl rfl s5 s6 NX.out NY.out (1) K3.out).mono ?_); rintro e u5 ⟨rfl, hb⟩)
      | (go_at_call 34; (with_reducible refine (cmpI_num A2 A3 _ _ _ _ (x + z) (y + z) _ rfl rfl (Ko.kp (ko_of (by assumption))) (Ko.kq (ko_of (by assumption))) XZ.out YZ.out (-1) K4.out).mono ?_); rintro e u6 ⟨rfl, hb⟩)
      | (go_at_call 39; (with_reducible refine (signI_num A4 _ _ (x - y) _ rfl (Ko.kr (ko_of (by assumption))) XY.out (-1) K5.out).mono ?_); rintro e u7 ⟨rfl, hb⟩)
      | (go_at_call 33; (with_reducible refine (awake2_any _ (pow_below ht (Ko.b (ko_of (by assumption))))).mono ?_); rintro e u8 ⟨rfl, hb⟩))
  all_goals
    go_wp2
    go_ret
    exact ⟨rfl, Ko.b (ko_of (by assumption))⟩

set_option maxRecDepth 100000 in
set_option maxHeartbeats 8000000 in
theorem order_eq (A B C : Option Addr) (a c d : Nat) (x y z : Int) (w : World) (sx : Sl w A (idg x)) (sy : Sl w B (idg y)) (sz : Sl w C (idg z)) (hx : x.natAbs < LB ^ 8) (hy : y.natAbs < LB ^ 8) (hz : z.natAbs < LB ^ 8) (lx : (idg x).length ≤ 8) (ly : (idg y).length ≤ 8) (lz : (idg z).length ≤ 8) (ht : Pow10 w) (hk : x = y) :
    Calls Tryd.prog 10 #[.agg #[.bool (isg x), .slice A (idg x).length a], .agg #[.bool (isg y), .slice B (idg y).length c], .agg #[.bool (isg z), .slice C (idg z).length d]] w fun e w' => e = .returned (.bool true) ∧ Below w.heap.size w w' := by
  have HX := hide (abs_lt8 hx)
  have HY := hide (abs_lt8 hy)
  have HZ := hide (abs_lt8 hz)
  have XZ := hide (abs_add9 hx hz).1
  have YZ := hide (abs_add9 hy hz).1
  have XY := hide (abs_add9 hx hy).2
  have NX := hide (show (-x).natAbs < LB ^ 64 by rw [Int.natAbs_neg]; exact HX.out)
  have NY := hide (show (-y).natAbs < LB ^ 64 by rw [Int.natAbs_neg]; exact HY.out)
  have k1 : cmpZ x y = 0 := by unfold cmpZ; (repeat split) <;> omega
  have K2 := hide (show cmpZ y x = 0 by unfold cmpZ; (repeat split) <;> omega)
  have K3 := hide (show cmpZ (-x) (-y) = 0 by rw [cmpZ_neg]; exact K2.out)
  have K4 := hide (show cmpZ (x + z) (y + z) = 0 by rw [cmpZ_add]; exact k1)
  have K5 := hide (show cmpZ (x - y) 0 = 0 by rw [cmpZ_sub]; exact k1)
  have SM := hide (show decide (x = y) = true by simp; omega)
  have V0 := hide (fun W (h : Below w.heap.size w W) => (validI_any (isg x) A a (idg x) W (bl_keeps h _ _ sx) (by omega)))
  have V1 := hide (fun W (h : Below w.heap.size w W) => (validI_any (isg y) B c (idg y) W (bl_keeps h _ _ sy) (by omega)))
  have V2 := hide (fun W (h : Below w.heap.size w W) => (validI_any (isg z) C d (idg z) W (bl_keeps h _ _ sz) (by omega)))
  rw [validI_num HX.out] at V0
  rw [validI_num HY.out] at V1
  rw [validI_num HZ.out] at V2
  have C1 := hide (fun W (h : Below w.heap.size w W) => cmpI_num A B _ _ a c x y W rfl rfl (bl_keeps h _ _ sx) (bl_keeps h _ _ sy) HX.out HY.out _ k1)
  have C2 := hide (fun W (h : Below w.heap.size w W) => addI_num A C _ _ a d x z W rfl rfl (bl_keeps h _ _ sx) (bl_keeps h _ _ sz) HX.out HZ.out XZ.out)
  have C3 := hide (fun W (h : Below w.heap.size w W) => addI_num B C _ _ c d y z W rfl rfl (bl_keeps h _ _ sy) (bl_keeps h _ _ sz) HY.out HZ.out YZ.out)
  have C4 := hide (fun W (h : Below w.heap.size w W) => subI_num A B _ _ a c x y W rfl rfl (bl_keeps h _ _ sx) (bl_keeps h _ _ sy) HX.out HY.out XY.out)
  have SX := hide sx
  have SY := hide sy
  obtain ⟨X1, X2, X3⟩ := ic3 (isg x) A (idg x).length a (isg y) B (idg y).length c (isg z) C (idg z).length d w
  have X1 := hide X1
  have X2 := hide X2
  have X3 := hide X3
  have b : Below w.heap.size w (((w.alloc (.cells #[.bool (isg x), .slice A (idg x).length a] 46)).alloc (.cells #[.bool (isg y), .slice B (idg y).length c] 46)).alloc (.cells #[.bool (isg z), .slice C (idg z).length d] 46)) := bl_al (bl_al (bl_al (.refl _ _) _) _) _
  have o1 : binOp .eql 3 (.int .i64 (0)) (.int .i64 0) = pure (.bool true) := rfl
  have o2 : ∀ W : World, (binOp .eql 4 (.bool true) (.bool true)).run Tryd.prog W = .ok (.bool true) W := fun _ => by kernel_rfl
  have o4 : IntKind.i64.wrap (-1) = -1 := rfl
  have o5 : IntKind.i64.wrap 1 = 1 := rfl
  have o6 : IntKind.i64.wrap 0 = 0 := rfl
  have o3 : binOp .eql 3 (.int .i64 (0)) (.int .i64 (0)) = pure (.bool true) := rfl
  clear hx hy hz hk k1 sx sy sz
  go_enter Tryd.func10, Tryd.ntmps10
  go_wp2_with (first
    | (go_at_call 32; (with_reducible refine (V0.out _ b).mono ?_); rintro e v1 ⟨rfl, hb⟩; have X1 := hide (X1.out.next hb); have X2 := hide (X2.out.next hb); have X3 := hide (X3.out.next hb); (try clear y1 y2 y3 y4 y5 y6); obtain ⟨y1, y2⟩ := X1.out; obtain ⟨y3, y4⟩ := X2.out; obtain ⟨y5, y6⟩ := X3.out; have b := bl_trans b hb; clear hb)
    | (go_at_call 32; (with_reducible refine (V1.out _ b).mono ?_); rintro e v2 ⟨rfl, hb⟩; have X1 := hide (X1.out.next hb); have X2 := hide (X2.out.next hb); have X3 := hide (X3.out.next hb); (try clear y1 y2 y3 y4 y5 y6); obtain ⟨y1, y2⟩ := X1.out; obtain ⟨y3, y4⟩ := X2.out; obtain ⟨y5, y6⟩ := X3.out; have b := bl_trans b hb; clear hb)
    | (go_at_call 32; (with_reducible refine (V2.out _ b).mono ?_); rintro e v3 ⟨rfl, hb⟩; have X1 := hide (X1.out.next hb); have X2 := hide (X2.out.next hb); have X3 := hide (X3.out.next hb); (try clear y1 y2 y3 y4 y5 y6); obtain ⟨y1, y2⟩ := X1.out; obtain ⟨y3, y4⟩ := X2.out; obtain ⟨y5, y6⟩ := X3.out; have b := bl_trans b hb; clear hb)
    | (go_at_call 34; (with_reducible refine (C1.out _ b).mono ?_); rintro e w1 ⟨rfl, hb⟩; have X1 := hide (X1.out.next hb); have X2 := hide (X2.out.next hb); have X3 := hide (X3.out.next hb); (try clear y1 y2 y3 y4 y5 y6); obtain ⟨y1, y2⟩ := X1.out; obtain ⟨y3, y4⟩ := X2.out; obtain ⟨y5, y6⟩ := X3.out; have b := bl_trans b hb; clear hb)
    | (go_at_call 35; (with_reducible refine (C2.out _ b).mono ?_); rintro e w2 ⟨A2, c2, rfl, s2, hb⟩; have X1 := hide (X1.out.next hb); have X2 := hide (X2.out.next hb); have X3 := hide (X3.out.next hb); (try clear y1 y2 y3 y4 y5 y6); obtain ⟨y1, y2⟩ := X1.out; obtain ⟨y3, y4⟩ := X2.out; obtain ⟨y5, y6⟩ := X3.out;  (try clear z1 z2 z3); have z1 := X1.out.lt; have z2 := X2.out.lt; have z3 := X3.out.lt; have b := bl_trans b hb; clear hb)
    | (go_at_call 35; (with_reducible refine (C3.out _ (bl_al b _)).mono ?_); rintro e w3 ⟨A3, c3, rfl, s3, hb⟩; have g := bl_one hb; have Y2 := hide ((Ic.new _ A2 _ c2 w2).next hb); have X1 := hide (X1.out.next g); have X2 := hide (X2.out.next g); have X3 := hide (X3.out.next g); (try clear y1 y2 y3 y4 y5 y6); obtain ⟨y1, y2⟩ := X1.out; obtain ⟨y3, y4⟩ := X2.out; obtain ⟨y5, y6⟩ := X3.out; have b := bl_trans b g; (try clear z1 z2 z3); have z1 := X1.out.lt; have z2 := X2.out.lt; have z3 := X3.out.lt; have s2 := bl_keeps g _ _ s2; clear hb g)
    | (go_at_call 36; (with_reducible refine (C4.out _ (bl_al b _)).mono ?_); rintro e w4 ⟨A4, c4, rfl, s4, hb⟩; have g := bl_one hb; have Y3 := hide ((Ic.new _ A3 _ c3 w3).next hb); have X1 := hide (X1.out.next g); have X2 := hide (X2.out.next g); have X3 := hide (X3.out.next g); (try clear y1 y2 y3 y4 y5 y6); obtain ⟨y1, y2⟩ := X1.out; obtain ⟨y3, y4⟩ := X2.out; obtain ⟨y5, y6⟩ := X3.out; have b := bl_trans b g; (try clear z1 z2 z3); have z1 := X1.out.lt; have z2 := X2.out.lt; have z3 := X3.out.lt; have Y2 := hide (Y2.out.next g); have s2 := bl_keeps g _ _ s2; have s3 := bl_keeps g _ _ s3; clear hb g))
  have ko := hide (show Ko w A B A2 A3 A4 x y (x + z) (y + z) (x - y) (w4.alloc (.cells #[.bool (isg (x - y)), .slice A4 (idg (x - y)).length c4] 46)) from ⟨bl_al b _, bl_keeps (bl_al b _) _ _ SX.out, bl_keeps (bl_al b _) _ _ SY.out, s2.alloc _, s3.alloc _, s4.alloc _⟩)
  clear y1 y2 y3 y4 y5 y6 z1 z2 z3 lx ly lz
  obtain ⟨y1, y2⟩ := X1.out.al (.cells #[.bool (isg (x - y)), .slice A4 (idg (x - y)).length c4] 46)
  obtain ⟨y3, y4⟩ := X2.out.al (.cells #[.bool (isg (x - y)), .slice A4 (idg (x - y)).length c4] 46)
  obtain ⟨z1, z2⟩ := Y2.out.al (.cells #[.bool (isg (x - y)), .slice A4 (idg (x - y)).length c4] 46)
  obtain ⟨z3, z4⟩ := Y3.out.al (.cells #[.bool (isg (x - y)), .slice A4 (idg (x - y)).length c4] 46)
  obtain ⟨z5, z6⟩ := Ic.new (isg (x - y)) A4 (idg (x - y)).length c4 w4
  clear X1 X2 X3 Y2 Y3 s2 s3 s4 b V0 V1 V2 C1 C2 C3 C4
  go_region_held3 (fun W => W.cell? ⟨w.heap.size, 0, none⟩ = some (.bool (isg x)) ∧ W.cell? ⟨w.heap.size, 1, none⟩ = some (.slice A (idg x).length a) ∧ W.cell? ⟨w.heap.size + 1, 0, none⟩ = some (.bool (isg y)) ∧ W.cell? ⟨w.heap.size + 1, 1, none⟩ = some (.slice B (idg y).length c) ∧ W.cell? ⟨w2.heap.size, 0, none⟩ = some (.bool (isg (x + z))) ∧ W.cell? ⟨w2.heap.size, 1, none⟩ = some (.slice A2 (idg (x + z)).length c2) ∧ W.cell? ⟨w3.heap.size, 0, none⟩ = some (.bool (isg (y + z))) ∧ W.cell? ⟨w3.heap.size, 1, none⟩ = some (.slice A3 (idg (y + z)).length c3) ∧ W.cell? ⟨w4.heap.size, 0, none⟩ = some (.bool (isg (x - y))) ∧ W.cell? ⟨w4.heap.size, 1, none⟩ = some (.slice A4 (idg (x - y)).length c4) ∧ Ko w A B A2 A3 A4 x y (x + z) (y + z) (x - y) W)
    (first | exact ⟨y1, y2, y3, y4, z1, z2, z3, z4, z5, z6, ko.out.drew⟩ | exact ⟨y1, y2, y3, y4, z1, z2, z3, z4, z5, z6, ko.out⟩ | exact S10_next hb (by assumption) | assumption)
    (first
      | (go_at_call 34; (with_reducible refine (cmpI_num B A _ _ _ _ y x _ rfl rfl (Ko.ky (ko_of (by assumption))) (Ko.kx (ko_of (by assumption))) HY.out HX.out (0) K2.out).mono ?_); rintro e u1 ⟨rfl, hb⟩)
      | (go_at_call 37; (with_reducible refine (same2_num A B _ _ _ _ x y _ rfl rfl (Ko.kx (ko_of (by assumption))) (Ko.ky (ko_of (by assumption))) HX.out HY.out true SM.out).mono ?_); rintro e u2 ⟨rfl, hb⟩)
      | (go_at_call 38; (with_reducible refine (negI_num A _ _ x _ rfl (Ko.kx (ko_of (by assumption))) HX.out).mono ?_); rintro e u3 ⟨A5, c5, rfl, s5, hb⟩; (try have s6 := bl_keeps hb _ _ s6))
      | (go_at_call 38; (with_reducible refine (negI_num B _ _ y _ rfl (Ko.ky (ko_of (by assumption))) HY.out).mono ?_); rintro e u4 ⟨A6, c6, rfl, s6, hb⟩; (try have s5 := bl_keeps hb _ _ s5))
      | (go_at_call 34; (with_reducible refine (cmpI_num A5 A6 _ _ _ _ (-x) (-y) _ rfl rfl s5 s6 NX.out NY.out (0) K3.out).mono ?_); rintro e u5 ⟨rfl, hb⟩)
      | (go_at_call 34; (with_reducible refine (cmpI_num A2 A3 _ _ _ _ (x + z) (y + z) _ rfl rfl (Ko.kp (ko_of (by assumption))) (Ko.kq (ko_of (by assumption))) XZ.out YZ.out (0) K4.out).mono ?_); rintro e u6 ⟨rfl, hb⟩)
      | (go_at_call 39; (with_reducible refine (signI_num A4 _ _ (x - y) _ rfl (Ko.kr (ko_of (by assumption))) XY.out (0) K5.out).mono ?_); rintro e u7 ⟨rfl, hb⟩)
      | (go_at_call 33; (with_reducible refine (awake2_any _ (pow_below ht (Ko.b (ko_of (by assumption))))).mono ?_); rintro e u8 ⟨rfl, hb⟩))
  all_goals
    go_wp2
    go_ret
    exact ⟨rfl, Ko.b (ko_of (by assumption))⟩

set_option maxRecDepth 100000 in
set_option maxHeartbeats 8000000 in
theorem order_gt (A B C : Option Addr) (a c d : Nat) (x y z : Int) (w : World) (sx : Sl w A (idg x)) (sy : Sl w B (idg y)) (sz : Sl w C (idg z)) (hx : x.natAbs < LB ^ 8) (hy : y.natAbs < LB ^ 8) (hz : z.natAbs < LB ^ 8) (lx : (idg x).length ≤ 8) (ly : (idg y).length ≤ 8) (lz : (idg z).length ≤ 8) (ht : Pow10 w) (hk : y < x) :
    Calls Tryd.prog 10 #[.agg #[.bool (isg x), .slice A (idg x).length a], .agg #[.bool (isg y), .slice B (idg y).length c], .agg #[.bool (isg z), .slice C (idg z).length d]] w fun e w' => e = .returned (.bool true) ∧ Below w.heap.size w w' := by
  have HX := hide (abs_lt8 hx)
  have HY := hide (abs_lt8 hy)
  have HZ := hide (abs_lt8 hz)
  have XZ := hide (abs_add9 hx hz).1
  have YZ := hide (abs_add9 hy hz).1
  have XY := hide (abs_add9 hx hy).2
  have NX := hide (show (-x).natAbs < LB ^ 64 by rw [Int.natAbs_neg]; exact HX.out)
  have NY := hide (show (-y).natAbs < LB ^ 64 by rw [Int.natAbs_neg]; exact HY.out)
  have k1 : cmpZ x y = 1 := by unfold cmpZ; (repeat split) <;> omega
  have K2 := hide (show cmpZ y x = -1 by unfold cmpZ; (repeat split) <;> omega)
  have K3 := hide (show cmpZ (-x) (-y) = -1 by rw [cmpZ_neg]; exact K2.out)
  have K4 := hide (show cmpZ (x + z) (y + z) = 1 by rw [cmpZ_add]; exact k1)
  have K5 := hide (show cmpZ (x - y) 0 = 1 by rw [cmpZ_sub]; exact k1)
  have SM := hide (show decide (x = y) = false by simp; omega)
  have V0 := hide (fun W (h : Below w.heap.size w W) => (validI_any (isg x) A a (idg x) W (bl_keeps h _ _ sx) (by omega)))
  have V1 := hide (fun W (h : Below w.heap.size w W) => (validI_any (isg y) B c (idg y) W (bl_keeps h _ _ sy) (by omega)))
  have V2 := hide (fun W (h : Below w.heap.size w W) => (validI_any (isg z) C d (idg z) W (bl_keeps h _ _ sz) (by omega)))
  rw [validI_num HX.out] at V0
  rw [validI_num HY.out] at V1
  rw [validI_num HZ.out] at V2
  have C1 := hide (fun W (h : Below w.heap.size w W) => cmpI_num A B _ _ a c x y W rfl rfl (bl_keeps h _ _ sx) (bl_keeps h _ _ sy) HX.out HY.out _ k1)
  have C2 := hide (fun W (h : Below w.heap.size w W) => addI_num A C _ _ a d x z W rfl rfl (bl_keeps h _ _ sx) (bl_keeps h _ _ sz) HX.out HZ.out XZ.out)
  have C3 := hide (fun W (h : Below w.heap.size w W) => addI_num B C _ _ c d y z W rfl rfl (bl_keeps h _ _ sy) (bl_keeps h _ _ sz) HY.out HZ.out YZ.out)
  have C4 := hide (fun W (h : Below w.heap.size w W) => subI_num A B _ _ a c x y W rfl rfl (bl_keeps h _ _ sx) (bl_keeps h _ _ sy) HX.out HY.out XY.out)
  have SX := hide sx
  have SY := hide sy
  obtain ⟨X1, X2, X3⟩ := ic3 (isg x) A (idg x).length a (isg y) B (idg y).length c (isg z) C (idg z).length d w
  have X1 := hide X1
  have X2 := hide X2
  have X3 := hide X3
  have b : Below w.heap.size w (((w.alloc (.cells #[.bool (isg x), .slice A (idg x).length a] 46)).alloc (.cells #[.bool (isg y), .slice B (idg y).length c] 46)).alloc (.cells #[.bool (isg z), .slice C (idg z).length d] 46)) := bl_al (bl_al (bl_al (.refl _ _) _) _) _
  have o1 : binOp .eql 3 (.int .i64 (1)) (.int .i64 0) = pure (.bool false) := rfl
  have o2 : ∀ W : World, (binOp .eql 4 (.bool false) (.bool false)).run Tryd.prog W = .ok (.bool true) W := fun _ => by kernel_rfl
  have o4 : IntKind.i64.wrap (-1) = -1 := rfl
  have o5 : IntKind.i64.wrap 1 = 1 := rfl
  have o6 : IntKind.i64.wrap 0 = 0 := rfl
  have o3 : binOp .eql 3 (.int .i64 (1)) (.int .i64 (1)) = pure (.bool true) := rfl
  clear hx hy hz hk k1 sx sy sz
  go_enter Tryd.func10, Tryd.ntmps10
  go_wp2_with (first
    | (go_at_call 32; (with_reducible refine (V0.out _ b).mono ?_); rintro e v1 ⟨rfl, hb⟩; have X1 := hide (X1.out.next hb); have X2 := hide (X2.out.next hb); have X3 := hide (X3.out.next hb); (try clear y1 y2 y3 y4 y5 y6); obtain ⟨y1, y2⟩ := X1.out; obtain ⟨y3, y4⟩ := X2.out; obtain ⟨y5, y6⟩ := X3.out; have b := bl_trans b hb; clear hb)
    | (go_at_call 32; (with_reducible refine (V1.out _ b).mono ?_); rintro e v2 ⟨rfl, hb⟩; have X1 := hide (X1.out.next hb); have X2 := hide (X2.out.next hb); have X3 := hide (X3.out.next hb); (try clear y1 y2 y3 y4 y5 y6); obtain ⟨y1, y2⟩ := X1.out; obtain ⟨y3, y4⟩ := X2.out; obtain ⟨y5, y6⟩ := X3.out; have b := bl_trans b hb; clear hb)
    | (go_at_call 32; (with_reducible refine (V2.out _ b).mono ?_); rintro e v3 ⟨rfl, hb⟩; have X1 := hide (X1.out.next hb); have X2 := hide (X2.out.next hb); have X3 := hide (X3.out.next hb); (try clear y1 y2 y3 y4 y5 y6); obtain ⟨y1, y2⟩ := X1.out; obtain ⟨y3, y4⟩ := X2.out; obtain ⟨y5, y6⟩ := X3.out; have b := bl_trans b hb; clear hb)
    | (go_at_call 34; (with_reducible refine (C1.out _ b).mono ?_); rintro e w1 ⟨rfl, hb⟩; have X1 := hide (X1.out.next hb); have X2 := hide (X2.out.next hb); have X3 := hide (X3.out.next hb); (try clear y1 y2 y3 y4 y5 y6); obtain ⟨y1, y2⟩ := X1.out; obtain ⟨y3, y4⟩ := X2.out; obtain ⟨y5, y6⟩ := X3.out; have b := bl_trans b hb; clear hb)
    | (go_at_call 35; (with_reducible refine (C2.out _ b).mono ?_); rintro e w2 ⟨A2, c2, rfl, s2, hb⟩; have X1 := hide (X1.out.next hb); have X2 := hide (X2.out.next hb); have X3 := hide (X3.out.next hb); (try clear y1 y2 y3 y4 y5 y6); obtain ⟨y1, y2⟩ := X1.out; obtain ⟨y3, y4⟩ := X2.out; obtain ⟨y5, y6⟩ := X3.out;  (try clear z1 z2 z3); have z1 := X1.out.lt; have z2 := X2.out.lt; have z3 := X3.out.lt; have b := bl_trans b hb; clear hb)
    | (go_at_call 35; (with_reducible refine (C3.out _ (bl_al b _)).mono ?_); rintro e w3 ⟨A3, c3, rfl, s3, hb⟩; have g := bl_one hb; have Y2 := hide ((Ic.new _ A2 _ c2 w2).next hb); have X1 := hide (X1.out.next g); have X2 := hide (X2.out.next g); have X3 := hide (X3.out.next g); (try clear y1 y2 y3 y4 y5 y6); obtain ⟨y1, y2⟩ := X1.out; obtain ⟨y3, y4⟩ := X2.out; obtain ⟨y5, y6⟩ := X3.out; have b := bl_trans b g; (try clear z1 z2 z3); have z1 := X1.out.lt; have z2 := X2.out.lt; have z3 := X3.out.lt; have s2 := bl_keeps g _ _ s2; clear hb g)
    | (go_at_call 36; (with_reducible refine (C4.out _ (bl_al b _)).mono ?_); rintro e w4 ⟨A4, c4, rfl, s4, hb⟩; have g := bl_one hb; have Y3 := hide ((Ic.new _ A3 _ c3 w3).next hb); have X1 := hide (X1.out.next g); have X2 := hide (X2.out.next g); have X3 := hide (X3.out.next g); (try clear y1 y2 y3 y4 y5 y6); obtain ⟨y1, y2⟩ := X1.out; obtain ⟨y3, y4⟩ := X2.out; obtain ⟨y5, y6⟩ := X3.out; have b := bl_trans b g; (try clear z1 z2 z3); have z1 := X1.out.lt; have z2 := X2.out.lt; have z3 := X3.out.lt; have Y2 := hide (Y2.out.next g); have s2 := bl_keeps g _ _ s2; have s3 := bl_keeps g _ _ s3; clear hb g))
  have ko := hide (show Ko w A B A2 A3 A4 x y (x + z) (y + z) (x - y) (w4.alloc (.cells #[.bool (isg (x - y)), .slice A4 (idg (x - y)).length c4] 46)) from ⟨bl_al b _, bl_keeps (bl_al b _) _ _ SX.out, bl_keeps (bl_al b _) _ _ SY.out, s2.alloc _, s3.alloc _, s4.alloc _⟩)
  clear y1 y2 y3 y4 y5 y6 z1 z2 z3 lx ly lz
  obtain ⟨y1, y2⟩ := X1.out.al (.cells #[.bool (isg (x - y)), .slice A4 (idg (x - y)).length c4] 46)
  obtain ⟨y3, y4⟩ := X2.out.al (.cells #[.bool (isg (x - y)), .slice A4 (idg (x - y)).length c4] 46)
  obtain ⟨z1, z2⟩ := Y2.out.al (.cells #[.bool (isg (x - y)), .slice A4 (idg (x - y)).length c4] 46)
  obtain ⟨z3, z4⟩ := Y3.out.al (.cells #[.bool (isg (x - y)), .slice A4 (idg (x - y)).length c4] 46)
  obtain ⟨z5, z6⟩ := Ic.new (isg (x - y)) A4 (idg (x - y)).length c4 w4
  clear X1 X2 X3 Y2 Y3 s2 s3 s4 b V0 V1 V2 C1 C2 C3 C4
  go_region_held3 (fun W => W.cell? ⟨w.heap.size, 0, none⟩ = some (.bool (isg x)) ∧ W.cell? ⟨w.heap.size, 1, none⟩ = some (.slice A (idg x).length a) ∧ W.cell? ⟨w.heap.size + 1, 0, none⟩ = some (.bool (isg y)) ∧ W.cell? ⟨w.heap.size + 1, 1, none⟩ = some (.slice B (idg y).length c) ∧ W.cell? ⟨w2.heap.size, 0, none⟩ = some (.bool (isg (x + z))) ∧ W.cell? ⟨w2.heap.size, 1, none⟩ = some (.slice A2 (idg (x + z)).length c2) ∧ W.cell? ⟨w3.heap.size, 0, none⟩ = some (.bool (isg (y + z))) ∧ W.cell? ⟨w3.heap.size, 1, none⟩ = some (.slice A3 (idg (y + z)).length c3) ∧ W.cell? ⟨w4.heap.size, 0, none⟩ = some (.bool (isg (x - y))) ∧ W.cell? ⟨w4.heap.size, 1, none⟩ = some (.slice A4 (idg (x - y)).length c4) ∧ Ko w A B A2 A3 A4 x y (x + z) (y + z) (x - y) W)
    (first | exact ⟨y1, y2, y3, y4, z1, z2, z3, z4, z5, z6, ko.out.drew⟩ | exact ⟨y1, y2, y3, y4, z1, z2, z3, z4, z5, z6, ko.out⟩ | exact S10_next hb (by assumption) | assumption)
    (first
      | (go_at_call 34; (with_reducible refine (cmpI_num B A _ _ _ _ y x _ rfl rfl (Ko.ky (ko_of (by assumption))) (Ko.kx (ko_of (by assumption))) HY.out HX.out (-1) K2.out).mono ?_); rintro e u1 ⟨rfl, hb⟩)
      | (go_at_call 37; (with_reducible refine (same2_num A B _ _ _ _ x y _ rfl rfl (Ko.kx (ko_of (by assumption))) (Ko.ky (ko_of (by assumption))) HX.out HY.out false SM.out).mono ?_); rintro e u2 ⟨rfl, hb⟩)
      | (go_at_call 38; (with_reducible refine (negI_num A _ _ x _ rfl (Ko.kx (ko_of (by assumption))) HX.out).mono ?_); rintro e u3 ⟨A5, c5, rfl, s5, hb⟩; (try have s6 := bl_keeps hb _ _ s6))
      | (go_at_call 38; (with_reducible refine (negI_num B _ _ y _ rfl (Ko.ky (ko_of (by assumption))) HY.out).mono ?_); rintro e u4 ⟨A6, c6, rfl, s6, hb⟩; (try have s5 := bl_keeps hb _ _ s5))
      | (go_at_call 34; (with_reducible refine (cmpI_num A5 A6 _ _ _ _ (-x) (-y) _ rfl rfl s5 s6 NX.out NY.out (-1) K3.out).mono ?_); rintro e u5 ⟨rfl, hb⟩)
      | (go_at_call 34; (with_reducible refine (cmpI_num A2 A3 _ _ _ _ (x + z) (y + z) _ rfl rfl (Ko.kp (ko_of (by assumption))) (Ko.kq (ko_of (by assumption))) XZ.out YZ.out (1) K4.out).mono ?_); rintro e u6 ⟨rfl, hb⟩)
      | (go_at_call 39; (with_reducible refine (signI_num A4 _ _ (x - y) _ rfl (Ko.kr (ko_of (by assumption))) XY.out (1) K5.out).mono ?_); rintro e u7 ⟨rfl, hb⟩)
      | (go_at_call 33; (with_reducible refine (awake2_any _ (pow_below ht (Ko.b (ko_of (by assumption))))).mono ?_); rintro e u8 ⟨rfl, hb⟩))
  all_goals
    go_wp2
    go_ret
    exact ⟨rfl, Ko.b (ko_of (by assumption))⟩

set_option maxRecDepth 100000 in
set_option maxHeartbeats 8000000 in
theorem order2_law (s t u : Bool) (A B C : Option Addr) (a c d : Nat) (xs ys zs : List Nat) (w : World) (sx : Sl w A xs) (sy : Sl w B ys) (sz : Sl w C zs) (lx : Limbs xs) (ly : Limbs ys) (lz : Limbs zs) (hlx : xs.length ≤ 9223372036854775807) (hly : ys.length ≤ 9223372036854775807) (hlz : zs.length ≤ 9223372036854775807) (ht : Pow10 w) :
    Calls Tryd.prog 10 #[.agg #[.bool s, .slice A xs.length a], .agg #[.bool t, .slice B ys.length c], .agg #[.bool u, .slice C zs.length d]] w fun e w' => e = .returned (.bool true) ∧ Below w.heap.size w w' := by
  have AW := hide (fun W (h : Below w.heap.size w W) => awake2_any W (pow_below ht h))
  have V0 := hide (fun W (h : Below w.heap.size w W) => validI_any s A a xs W (bl_keeps h _ _ sx) hlx)
  have V1 := hide (fun W (h : Below w.heap.size w W) => validI_any t B c ys W (bl_keeps h _ _ sy) hly)
  have V2 := hide (fun W (h : Below w.heap.size w W) => validI_any u C d zs W (bl_keeps h _ _ sz) hlz)
  obtain ⟨X1, X2, X3⟩ := ic3 s A xs.length a t B ys.length c u C zs.length d w
  have X1 := hide X1
  have X2 := hide X2
  have X3 := hide X3
  have b : Below w.heap.size w (((w.alloc (.cells #[.bool s, .slice A xs.length a] 46)).alloc (.cells #[.bool t, .slice B ys.length c] 46)).alloc (.cells #[.bool u, .slice C zs.length d] 46)) := bl_al (bl_al (bl_al (.refl _ _) _) _) _
  by_cases n0 : xs.length ≤ 8
  · by_cases n1 : ys.length ≤ 8
    · by_cases n2 : zs.length ≤ 8
      · cases v0 : validI s xs with
        | true =>
          rw [v0] at V0
          cases v1 : validI t ys with
          | true =>
            rw [v1] at V1
            cases v2 : validI u zs with
            | true =>
              rw [v2] at V2
              obtain ⟨x, rfl, rfl, hx⟩ := as_int lx v0 n0
              obtain ⟨y, rfl, rfl, hy⟩ := as_int ly v1 n1
              obtain ⟨z, rfl, rfl, hz⟩ := as_int lz v2 n2
              rcases Int.lt_trichotomy x y with h | h | h
              · exact order_lt A B C a c d x y z w sx sy sz hx hy hz n0 n1 n2 ht h
              · exact order_eq A B C a c d x y z w sx sy sz hx hy hz n0 n1 n2 ht h
              · exact order_gt A B C a c d x y z w sx sy sz hx hy hz n0 n1 n2 ht h
            | false =>
              rw [v2] at V2
              clear v2
              go_enter Tryd.func10, Tryd.ntmps10
              go_wp2_with (first
                | (go_at_call 32; (with_reducible refine (V0.out _ b).mono ?_); rintro e v1 ⟨rfl, hb⟩; have X1 := hide (X1.out.next hb); have X2 := hide (X2.out.next hb); have X3 := hide (X3.out.next hb); (try clear y1 y2 y3 y4 y5 y6); obtain ⟨y1, y2⟩ := X1.out; obtain ⟨y3, y4⟩ := X2.out; obtain ⟨y5, y6⟩ := X3.out; have b := bl_trans b hb; clear hb)
                | (go_at_call 32; (with_reducible refine (V1.out _ b).mono ?_); rintro e v2 ⟨rfl, hb⟩; have X1 := hide (X1.out.next hb); have X2 := hide (X2.out.next hb); have X3 := hide (X3.out.next hb); (try clear y1 y2 y3 y4 y5 y6); obtain ⟨y1, y2⟩ := X1.out; obtain ⟨y3, y4⟩ := X2.out; obtain ⟨y5, y6⟩ := X3.out; have b := bl_trans b hb; clear hb)
                | (go_at_call 32; (with_reducible refine (V2.out _ b).mono ?_); rintro e v3 ⟨rfl, hb⟩; have X1 := hide (X1.out.next hb); have X2 := hide (X2.out.next hb); have X3 := hide (X3.out.next hb); (try clear y1 y2 y3 y4 y5 y6); obtain ⟨y1, y2⟩ := X1.out; obtain ⟨y3, y4⟩ := X2.out; obtain ⟨y5, y6⟩ := X3.out; have b := bl_trans b hb; clear hb)
                | (go_at_call 33; (with_reducible refine (AW.out _ b).mono ?_); rintro e u8 ⟨rfl, hb⟩; have b := bl_trans b hb; clear hb))
              go_ret
              exact ⟨rfl, b⟩
          | false =>
            rw [v1] at V1
            clear v1
            go_enter Tryd.func10, Tryd.ntmps10
            go_wp2_with (first
              | (go_at_call 32; (with_reducible refine (V0.out _ b).mono ?_); rintro e v1 ⟨rfl, hb⟩; have X1 := hide (X1.out.next hb); have X2 := hide (X2.out.next hb); have X3 := hide (X3.out.next hb); (try clear y1 y2 y3 y4 y5 y6); obtain ⟨y1, y2⟩ := X1.out; obtain ⟨y3, y4⟩ := X2.out; obtain ⟨y5, y6⟩ := X3.out; have b := bl_trans b hb; clear hb)
              | (go_at_call 32; (with_reducible refine (V1.out _ b).mono ?_); rintro e v2 ⟨rfl, hb⟩; have X1 := hide (X1.out.next hb); have X2 := hide (X2.out.next hb); have X3 := hide (X3.out.next hb); (try clear y1 y2 y3 y4 y5 y6); obtain ⟨y1, y2⟩ := X1.out; obtain ⟨y3, y4⟩ := X2.out; obtain ⟨y5, y6⟩ := X3.out; have b := bl_trans b hb; clear hb)
              | (go_at_call 32; (with_reducible refine (V2.out _ b).mono ?_); rintro e v3 ⟨rfl, hb⟩; have X1 := hide (X1.out.next hb); have X2 := hide (X2.out.next hb); have X3 := hide (X3.out.next hb); (try clear y1 y2 y3 y4 y5 y6); obtain ⟨y1, y2⟩ := X1.out; obtain ⟨y3, y4⟩ := X2.out; obtain ⟨y5, y6⟩ := X3.out; have b := bl_trans b hb; clear hb)
              | (go_at_call 33; (with_reducible refine (AW.out _ b).mono ?_); rintro e u8 ⟨rfl, hb⟩; have b := bl_trans b hb; clear hb))
            go_ret
            exact ⟨rfl, b⟩
        | false =>
          rw [v0] at V0
          clear v0
          go_enter Tryd.func10, Tryd.ntmps10
          go_wp2_with (first
            | (go_at_call 32; (with_reducible refine (V0.out _ b).mono ?_); rintro e v1 ⟨rfl, hb⟩; have X1 := hide (X1.out.next hb); have X2 := hide (X2.out.next hb); have X3 := hide (X3.out.next hb); (try clear y1 y2 y3 y4 y5 y6); obtain ⟨y1, y2⟩ := X1.out; obtain ⟨y3, y4⟩ := X2.out; obtain ⟨y5, y6⟩ := X3.out; have b := bl_trans b hb; clear hb)
            | (go_at_call 32; (with_reducible refine (V1.out _ b).mono ?_); rintro e v2 ⟨rfl, hb⟩; have X1 := hide (X1.out.next hb); have X2 := hide (X2.out.next hb); have X3 := hide (X3.out.next hb); (try clear y1 y2 y3 y4 y5 y6); obtain ⟨y1, y2⟩ := X1.out; obtain ⟨y3, y4⟩ := X2.out; obtain ⟨y5, y6⟩ := X3.out; have b := bl_trans b hb; clear hb)
            | (go_at_call 32; (with_reducible refine (V2.out _ b).mono ?_); rintro e v3 ⟨rfl, hb⟩; have X1 := hide (X1.out.next hb); have X2 := hide (X2.out.next hb); have X3 := hide (X3.out.next hb); (try clear y1 y2 y3 y4 y5 y6); obtain ⟨y1, y2⟩ := X1.out; obtain ⟨y3, y4⟩ := X2.out; obtain ⟨y5, y6⟩ := X3.out; have b := bl_trans b hb; clear hb)
            | (go_at_call 33; (with_reducible refine (AW.out _ b).mono ?_); rintro e u8 ⟨rfl, hb⟩; have b := bl_trans b hb; clear hb))
          go_ret
          exact ⟨rfl, b⟩
      · go_enter Tryd.func10, Tryd.ntmps10
        go_wp2_with (first
          | (go_at_call 32; (with_reducible refine (V0.out _ b).mono ?_); rintro e v1 ⟨rfl, hb⟩; have X1 := hide (X1.out.next hb); have X2 := hide (X2.out.next hb); have X3 := hide (X3.out.next hb); (try clear y1 y2 y3 y4 y5 y6); obtain ⟨y1, y2⟩ := X1.out; obtain ⟨y3, y4⟩ := X2.out; obtain ⟨y5, y6⟩ := X3.out; have b := bl_trans b hb; clear hb)
          | (go_at_call 32; (with_reducible refine (V1.out _ b).mono ?_); rintro e v2 ⟨rfl, hb⟩; have X1 := hide (X1.out.next hb); have X2 := hide (X2.out.next hb); have X3 := hide (X3.out.next hb); (try clear y1 y2 y3 y4 y5 y6); obtain ⟨y1, y2⟩ := X1.out; obtain ⟨y3, y4⟩ := X2.out; obtain ⟨y5, y6⟩ := X3.out; have b := bl_trans b hb; clear hb)
          | (go_at_call 32; (with_reducible refine (V2.out _ b).mono ?_); rintro e v3 ⟨rfl, hb⟩; have X1 := hide (X1.out.next hb); have X2 := hide (X2.out.next hb); have X3 := hide (X3.out.next hb); (try clear y1 y2 y3 y4 y5 y6); obtain ⟨y1, y2⟩ := X1.out; obtain ⟨y3, y4⟩ := X2.out; obtain ⟨y5, y6⟩ := X3.out; have b := bl_trans b hb; clear hb)
          | (go_at_call 33; (with_reducible refine (AW.out _ b).mono ?_); rintro e u8 ⟨rfl, hb⟩; have b := bl_trans b hb; clear hb))
        go_ret
        exact ⟨rfl, b⟩
    · go_enter Tryd.func10, Tryd.ntmps10
      go_wp2_with (first
        | (go_at_call 32; (with_reducible refine (V0.out _ b).mono ?_); rintro e v1 ⟨rfl, hb⟩; have X1 := hide (X1.out.next hb); have X2 := hide (X2.out.next hb); have X3 := hide (X3.out.next hb); (try clear y1 y2 y3 y4 y5 y6); obtain ⟨y1, y2⟩ := X1.out; obtain ⟨y3, y4⟩ := X2.out; obtain ⟨y5, y6⟩ := X3.out; have b := bl_trans b hb; clear hb)
        | (go_at_call 32; (with_reducible refine (V1.out _ b).mono ?_); rintro e v2 ⟨rfl, hb⟩; have X1 := hide (X1.out.next hb); have X2 := hide (X2.out.next hb); have X3 := hide (X3.out.next hb); (try clear y1 y2 y3 y4 y5 y6); obtain ⟨y1, y2⟩ := X1.out; obtain ⟨y3, y4⟩ := X2.out; obtain ⟨y5, y6⟩ := X3.out; have b := bl_trans b hb; clear hb)
        | (go_at_call 32; (with_reducible refine (V2.out _ b).mono ?_); rintro e v3 ⟨rfl, hb⟩; have X1 := hide (X1.out.next hb); have X2 := hide (X2.out.next hb); have X3 := hide (X3.out.next hb); (try clear y1 y2 y3 y4 y5 y6); obtain ⟨y1, y2⟩ := X1.out; obtain ⟨y3, y4⟩ := X2.out; obtain ⟨y5, y6⟩ := X3.out; have b := bl_trans b hb; clear hb)
        | (go_at_call 33; (with_reducible refine (AW.out _ b).mono ?_); rintro e u8 ⟨rfl, hb⟩; have b := bl_trans b hb; clear hb))
      go_ret
      exact ⟨rfl, b⟩
  · go_enter Tryd.func10, Tryd.ntmps10
    go_wp2_with (first
      | (go_at_call 32; (with_reducible refine (V0.out _ b).mono ?_); rintro e v1 ⟨rfl, hb⟩; have X1 := hide (X1.out.next hb); have X2 := hide (X2.out.next hb); have X3 := hide (X3.out.next hb); (try clear y1 y2 y3 y4 y5 y6); obtain ⟨y1, y2⟩ := X1.out; obtain ⟨y3, y4⟩ := X2.out; obtain ⟨y5, y6⟩ := X3.out; have b := bl_trans b hb; clear hb)
      | (go_at_call 32; (with_reducible refine (V1.out _ b).mono ?_); rintro e v2 ⟨rfl, hb⟩; have X1 := hide (X1.out.next hb); have X2 := hide (X2.out.next hb); have X3 := hide (X3.out.next hb); (try clear y1 y2 y3 y4 y5 y6); obtain ⟨y1, y2⟩ := X1.out; obtain ⟨y3, y4⟩ := X2.out; obtain ⟨y5, y6⟩ := X3.out; have b := bl_trans b hb; clear hb)
      | (go_at_call 32; (with_reducible refine (V2.out _ b).mono ?_); rintro e v3 ⟨rfl, hb⟩; have X1 := hide (X1.out.next hb); have X2 := hide (X2.out.next hb); have X3 := hide (X3.out.next hb); (try clear y1 y2 y3 y4 y5 y6); obtain ⟨y1, y2⟩ := X1.out; obtain ⟨y3, y4⟩ := X2.out; obtain ⟨y5, y6⟩ := X3.out; have b := bl_trans b hb; clear hb)
      | (go_at_call 33; (with_reducible refine (AW.out _ b).mono ?_); rintro e u8 ⟨rfl, hb⟩; have b := bl_trans b hb; clear hb))
    go_ret
    exact ⟨rfl, b⟩
end Nt

end Go.Proofs.YthdjjcooekkncaaDoor
