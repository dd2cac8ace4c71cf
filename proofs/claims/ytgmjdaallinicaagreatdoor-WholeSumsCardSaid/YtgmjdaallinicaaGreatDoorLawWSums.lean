
/-
  The law WholeSums.
-/
import Derived.Test.YtgmjdaallinicaaGreatDoorRefK

import Derived.Test.YtgmjdaallinicaaGreatDoorWholeZ

namespace Go.Proofs.YtgmjdaallinicaaGreatDoor

open Go.RowKit

namespace Nt

theorem kj {w w' : World} {A : Option Addr} {xs : List Nat} (b : Below w.heap.size w w') (h : Sl w A xs) : Sl w' A xs := bl_keeps b _ _ h
theorem ic4 (s : Bool) (A : Option Addr) (n a : Nat) (t : Bool) (B : Option Addr) (m b : Nat) (w : World) :
    Ic w.heap.size s A n a ((w.alloc (.cells #[.bool s, .slice A n a] 41)).alloc (.cells #[.bool t, .slice B m b] 41)) ∧
    Ic (w.heap.size + 1) t B m b ((w.alloc (.cells #[.bool s, .slice A n a] 41)).alloc (.cells #[.bool t, .slice B m b] 41)) :=
  ⟨(Ic.new s A n a w).al _, Ic.new2 t B m b w _⟩
theorem Ic.l4 {g : Nat} {s : Bool} {A : Option Addr} {n c : Nat} {w : World} (x : Ic g s A n c w) : g < w.heap.size := by
  have h := x.1
  unfold World.cell? at h
  cases hh : w.heap[g]? with
  | none => rw [hh] at h; cases h
  | some y => exact (Array.getElem?_eq_some_iff.1 hh).1
theorem jeq (t : TypeId) (x : Int) : binOp .eql t (.int .i64 x) (.int .i64 x) = pure (.bool true) := by
  show pure (Value.bool (x == x)) = _
  rw [beq_self_eq_true]
theorem jle_t (t : TypeId) {x y : Int} (h : x ≤ y) : binOp .leq t (.int .i64 x) (.int .i64 y) = pure (.bool true) := by
  show pure (Value.bool (decide (x ≤ y))) = _
  rw [decide_eq_true h]
theorem jle_f (t : TypeId) {x y : Int} (h : y < x) : binOp .leq t (.int .i64 x) (.int .i64 y) = pure (.bool false) := by
  show pure (Value.bool (decide (x ≤ y))) = _
  rw [decide_eq_false (by omega)]
theorem eq_bool (p : Bool) (W : World) : (binOp .eql 4 (.bool p) (.bool p)).run Tryz.prog W = .ok (.bool true) W := by
  cases p <;> kernel_rfl
theorem fitI_le (z : Int) : (fitI z).2.1.length ≤ 64 := by
  rw [fitI_len]
  split
  · assumption
  · simp
theorem addISp_le (s : Bool) (xs : List Nat) (t : Bool) (ys : List Nat) : (addISp s xs t ys).2.1.length ≤ 64 := by
  unfold addISp; split
  · exact fitI_le _
  · simp
theorem subISp_le (s : Bool) (xs : List Nat) (t : Bool) (ys : List Nat) : (subISp s xs t ys).2.1.length ≤ 64 := by
  unfold subISp; split
  · exact fitI_le _
  · simp
theorem mulISp_le (s : Bool) (xs : List Nat) (t : Bool) (ys : List Nat) : (mulISp s xs t ys).2.1.length ≤ 64 := by
  unfold mulISp; split
  · exact fitI_le _
  · simp
theorem negISp_le {s : Bool} {xs : List Nat} (lx : Limbs xs) (h : xs.length ≤ 66) : (negISp s xs).2.length ≤ 66 := by
  cases hv : validI s xs with
  | true => rw [negI_eq lx hv]; exact h
  | false => unfold negISp; rw [hv]; simp
theorem cmp_zero (s : Bool) (xs : List Nat) : cmpISp s xs (isg 0) (idg 0) = sgnISp s xs := by
  have h1 : isg 0 = false := rfl
  have h2 : idg 0 = [] := by unfold idg; exact digs_zero
  rw [h1, h2]
  unfold cmpISp sgnISp
  have h3 : validI false [] = true := rfl
  have h4 : ival false [] = 0 := rfl
  rw [h3, h4, Bool.and_true]
theorem mkI_le {z : Int} (h1 : -9223372036854775808 ≤ z) (h2 : z ≤ 9223372036854775807) : (idg z).length ≤ 64 := by
  have h : LB ^ 1 ≤ LB ^ 64 := Nat.pow_le_pow_right LB_pos (by decide)
  rw [Nat.pow_one] at h
  rw [LB_eq] at h
  exact length_digs_le.2 (Nat.lt_of_lt_of_le (show z.natAbs < 18446744073709551616 by omega) h)
theorem wf_range {n : Int} (h : (Lit.int .i64 n).wf = true) : -9223372036854775808 ≤ n ∧ n ≤ 9223372036854775807 := by
  simp only [Lit.wf, Bool.and_eq_true, decide_eq_true_eq] at h
  exact h

set_option maxRecDepth 100000 in
set_option maxHeartbeats 1000000 in
theorem few2_any (s t : Bool) (A B : Option Addr) (n m c d : Nat) (w : World) (hn : n ≤ 9223372036854775807) (hm : m ≤ 9223372036854775807) (r : Bool) (hr : decide (n ≤ 66 ∧ m ≤ 66) = r) :
    Calls Tryz.prog 20 #[.agg #[.bool s, .slice A n c], .agg #[.bool t, .slice B m d]] w fun e w' => e = .returned (.bool r) ∧ Below w.heap.size w w' := by
  obtain ⟨X1, X2⟩ := ic4 s A n c t B m d w
  obtain ⟨x1, x2⟩ := X1
  obtain ⟨x3, x4⟩ := X2
  have b : Below w.heap.size w ((w.alloc (.cells #[.bool s, .slice A n c] 41)).alloc (.cells #[.bool t, .slice B m d] 41)) := bl_al (bl_al (.refl _ _) _) _
  by_cases h1 : n ≤ 66
  · by_cases h2 : m ≤ 66
    · have E := hide (show r = true by rw [← hr]; exact decide_eq_true ⟨h1, h2⟩)
      have o1 := jle_t 3 (show (n : Int) ≤ 66 by omega)
      have o2 := jle_t 3 (show (m : Int) ≤ 66 by omega)
      clear hr h1 h2
      go_enter Tryz.func20, Tryz.ntmps20
      go_wp2
      go_ret
      exact ⟨by rw [E.out]; rfl, b⟩
    · have E := hide (show r = false by rw [← hr]; exact decide_eq_false (fun h => h2 h.2))
      have o1 := jle_t 3 (show (n : Int) ≤ 66 by omega)
      have o2 := jle_f 3 (show 66 < (m : Int) by omega)
      clear hr h1 h2
      go_enter Tryz.func20, Tryz.ntmps20
      go_wp2
      go_ret
      exact ⟨by rw [E.out]; rfl, b⟩
  · have E := hide (show r = false by rw [← hr]; exact decide_eq_false (fun h => h1 h.1))
    have o1 := jle_f 3 (show 66 < (n : Int) by omega)
    clear hr h1
    go_enter Tryz.func20, Tryz.ntmps20
    go_wp2
    go_ret
    exact ⟨by rw [E.out]; rfl, b⟩

/-- What was there is as it was. -/
def Kw (w W : World) : Prop := Below w.heap.size w W
theorem Kw.b {w W : World} (k : Kw w W) : Below w.heap.size w W := k
theorem Kw.start (w : World) : Kw w w.drew := Below.drew (.refl _ _)
theorem N18 {w w' w0 : World} {p0 p1 p2 p3 p4 p5 p6 p7 p8 p9 p10 p11 p12 p13 p14 p15 p16 p17 : Addr} {v0 v1 v2 v3 v4 v5 v6 v7 v8 v9 v10 v11 v12 v13 v14 v15 v16 v17 : Value} (hb : Below w.heap.size w w') (h : w.cell? p0 = some v0 ∧ w.cell? p1 = some v1 ∧ w.cell? p2 = some v2 ∧ w.cell? p3 = some v3 ∧ w.cell? p4 = some v4 ∧ w.cell? p5 = some v5 ∧ w.cell? p6 = some v6 ∧ w.cell? p7 = some v7 ∧ w.cell? p8 = some v8 ∧ w.cell? p9 = some v9 ∧ w.cell? p10 = some v10 ∧ w.cell? p11 = some v11 ∧ w.cell? p12 = some v12 ∧ w.cell? p13 = some v13 ∧ w.cell? p14 = some v14 ∧ w.cell? p15 = some v15 ∧ w.cell? p16 = some v16 ∧ w.cell? p17 = some v17 ∧ Kw w0 w) : w'.cell? p0 = some v0 ∧ w'.cell? p1 = some v1 ∧ w'.cell? p2 = some v2 ∧ w'.cell? p3 = some v3 ∧ w'.cell? p4 = some v4 ∧ w'.cell? p5 = some v5 ∧ w'.cell? p6 = some v6 ∧ w'.cell? p7 = some v7 ∧ w'.cell? p8 = some v8 ∧ w'.cell? p9 = some v9 ∧ w'.cell? p10 = some v10 ∧ w'.cell? p11 = some v11 ∧ w'.cell? p12 = some v12 ∧ w'.cell? p13 = some v13 ∧ w'.cell? p14 = some v14 ∧ w'.cell? p15 = some v15 ∧ w'.cell? p16 = some v16 ∧ w'.cell? p17 = some v17 ∧ Kw w0 w' := by
  obtain ⟨h0, h1, h2, h3, h4, h5, h6, h7, h8, h9, h10, h11, h12, h13, h14, h15, h16, h17, k⟩ := h
  exact ⟨cell_next hb h0, cell_next hb h1, cell_next hb h2, cell_next hb h3, cell_next hb h4, cell_next hb h5, cell_next hb h6, cell_next hb h7, cell_next hb h8, cell_next hb h9, cell_next hb h10, cell_next hb h11, cell_next hb h12, cell_next hb h13, cell_next hb h14, cell_next hb h15, cell_next hb h16, cell_next hb h17, bl_trans k hb⟩
theorem k18 {c0 c1 c2 c3 c4 c5 c6 c7 c8 c9 c10 c11 c12 c13 c14 c15 c16 c17 k : Prop} (h : c0 ∧ c1 ∧ c2 ∧ c3 ∧ c4 ∧ c5 ∧ c6 ∧ c7 ∧ c8 ∧ c9 ∧ c10 ∧ c11 ∧ c12 ∧ c13 ∧ c14 ∧ c15 ∧ c16 ∧ c17 ∧ k) : k := h.2.2.2.2.2.2.2.2.2.2.2.2.2.2.2.2.2.2
set_option maxRecDepth 100000 in
set_option maxHeartbeats 12000000 in
theorem wsums_law (s t : Bool) (A B : Option Addr) (c d : Nat) (xs ys : List Nat) (n : Int) (w : World) (hx : Sl w A xs) (hy : Sl w B ys) (lx : Limbs xs) (ly : Limbs ys) (hlx : xs.length ≤ 9223372036854775807) (hly : ys.length ≤ 9223372036854775807) (n1 : -9223372036854775808 ≤ n) (n2 : n ≤ 9223372036854775807) (ht : Pow10 w) :
    Calls Tryz.prog 4 #[.agg #[.bool s, .slice A xs.length c], .agg #[.bool t, .slice B ys.length d], .int .i64 n] w fun e w' => e = .returned (.bool true) ∧ Below w.heap.size w w' := by
  have sx := hide hx
  have sy := hide hy
  obtain ⟨X1, X2⟩ := ic4 s A xs.length c t B ys.length d w
  obtain ⟨y1, y2⟩ := X1
  obtain ⟨y3, y4⟩ := X2
  have X1 : Hid (Ic w.heap.size s A xs.length c ((w.alloc (.cells #[.bool s, .slice A xs.length c] 41)).alloc (.cells #[.bool t, .slice B ys.length d] 41))) := ⟨y1, y2⟩
  have X2 : Hid (Ic (w.heap.size + 1) t B ys.length d ((w.alloc (.cells #[.bool s, .slice A xs.length c] 41)).alloc (.cells #[.bool t, .slice B ys.length d] 41))) := ⟨y3, y4⟩
  have b : Below w.heap.size w ((w.alloc (.cells #[.bool s, .slice A xs.length c] 41)).alloc (.cells #[.bool t, .slice B ys.length d] 41)) := bl_al (bl_al (.refl _ _) _) _
  by_cases hf : xs.length ≤ 66 ∧ ys.length ≤ 66
  · have FW := hide (fun W => few2_any s t A B xs.length ys.length c d W hlx hly true (decide_eq_true hf))
    obtain ⟨fx, fy⟩ := hf
    have hL1 := addISp_le s xs t ys
    have hL2 := subISp_le s xs t ys
    have hL3 := mulISp_le s xs t ys
    have hL4 := negISp_le (s := s) lx fx
    have L5 := hide (show (idg n).length ≤ 1000000 from Nat.le_trans (mkI_le n1 n2) (by decide))
    have hO1 := fun W (h : Below w.heap.size w W) => addI_any s t A B c d xs ys W (bl_keeps h _ _ hx) (bl_keeps h _ _ hy) lx ly (by omega) (by omega)
    have hR1 := fun W (h : Below w.heap.size w W) => raddI_any s t A B c d xs ys W (bl_keeps h _ _ hx) (bl_keeps h _ _ hy) lx ly (by omega) (by omega)
    have hO2 := fun W (h : Below w.heap.size w W) => subI_any s t A B c d xs ys W (bl_keeps h _ _ hx) (bl_keeps h _ _ hy) lx ly (by omega) (by omega)
    have hR2 := fun W (h : Below w.heap.size w W) => rsubI_any s t A B c d xs ys W (bl_keeps h _ _ hx) (bl_keeps h _ _ hy) lx ly (by omega) (by omega)
    have hO3 := fun W (h : Below w.heap.size w W) => mulI_any s t A B c d xs ys W (bl_keeps h _ _ hx) (bl_keeps h _ _ hy) lx ly (by omega) (by omega)
    have hR3 := fun W (h : Below w.heap.size w W) => rmulI_any s t A B c d xs ys W (bl_keeps h _ _ hx) (bl_keeps h _ _ hy) lx ly (by omega) (by omega)
    have hVO := fun W (h : Below w.heap.size w W) => valueI_any s A c xs W (bl_keeps h _ _ hx) lx (by omega)
    have hVR := fun W (h : Below w.heap.size w W) => rvalueI_any s A c xs W (bl_keeps h _ _ hx) lx (by omega)
    have Z0 : Hid (∀ W, Calls Tryz.prog 30 #[.int .i64 0] W (IOne W (isg 0, idg 0))) := fun W => rofI_any 0 W (by decide) (by decide)
    have hCO := fun W (h : Below w.heap.size w W) => cmpI_any s t A B c d xs ys W (bl_keeps h _ _ hx) (bl_keeps h _ _ hy) lx ly (by omega) (by omega)
    have hCR := fun W (h : Below w.heap.size w W) => rcmpI_any s t A B c d xs ys W (bl_keeps h _ _ hx) (bl_keeps h _ _ hy) lx ly (by omega) (by omega)
    have hGO := fun W (h : Below w.heap.size w W) => signI_any s A c xs W (bl_keeps h _ _ hx) lx (by omega)
    have hGR : ∀ (A0 : Option Addr) (c0 : Nat) W, Below w.heap.size w W → Sl W A0 (idg 0) → Calls Tryz.prog 33 #[.agg #[.bool s, .slice A xs.length c], .agg #[.bool (isg 0), .slice A0 (idg 0).length c0]] W fun e w' => e = .returned (.int .i64 (sgnISp s xs)) ∧ Below W.heap.size W w' := fun A0 c0 W h h0 => by
      have := rcmpI_any s (isg 0) A A0 c c0 xs (idg 0) W (bl_keeps h _ _ hx) h0 lx (limbs_digs _) (by omega) (Nat.le_trans (mkI_le (by decide) (by decide)) (by decide))
      rwa [cmp_zero] at this
    have hNO := fun W (h : Below w.heap.size w W) => negI_any s A c xs W (bl_keeps h _ _ hx) lx (by omega)
    have hNR := fun W (h : Below w.heap.size w W) => rnegI_any s A c xs W (bl_keeps h _ _ hx) lx (by omega)
    have hWO := fun W (h : Below w.heap.size w W) => validI_any s A c xs W (bl_keeps h _ _ hx) hlx
    have hWR := fun W (h : Below w.heap.size w W) => rvalidI_any s A c xs W (bl_keeps h _ _ hx) hlx
    have FO : Hid (∀ W, Calls Tryz.prog 39 #[.int .i64 n] W (IOne W (isg n, idg n))) := fun W => ofI_any n W n1 n2
    have FR : Hid (∀ W, Calls Tryz.prog 30 #[.int .i64 n] W (IOne W (isg n, idg n))) := fun W => rofI_any n W n1 n2
    generalize addISp s xs t ys = r1 at *
    generalize subISp s xs t ys = r2 at *
    generalize mulISp s xs t ys = r3 at *
    generalize negISp s xs = r4 at *
    generalize valSp s xs = r5 at *
    generalize cmpISp s xs t ys = k5 at *
    generalize sgnISp s xs = k6 at *
    generalize validI s xs = p6 at *
    obtain ⟨p1, l1, k1⟩ := r1
    obtain ⟨p2, l2, k2⟩ := r2
    obtain ⟨p3, l3, k3⟩ := r3
    obtain ⟨p4, l4⟩ := r4
    obtain ⟨k4, p5⟩ := r5
    have L1 := hide (show l1.length ≤ 1000000 from Nat.le_trans hL1 (by decide))
    have L2 := hide (show l2.length ≤ 1000000 from Nat.le_trans hL2 (by decide))
    have L3 := hide (show l3.length ≤ 1000000 from Nat.le_trans hL3 (by decide))
    have L4 := hide (show l4.length ≤ 1000000 from Nat.le_trans hL4 (by decide))
    have O1 := hide hO1
    have R1 := hide hR1
    have O2 := hide hO2
    have R2 := hide hR2
    have O3 := hide hO3
    have R3 := hide hR3
    have VO := hide hVO
    have VR := hide hVR
    have CO := hide hCO
    have CR := hide hCR
    have GO := hide hGO
    have GR := hide hGR
    have NO := hide hNO
    have NR := hide hNR
    have WO := hide hWO
    have WR := hide hWR
    have ee := fun z => jeq 3 z
    have eb := eq_bool
    clear hO1 hR1 hO2 hR2 hO3 hR3 hVO hVR hCO hCR hGO hGR hNO hNR hWO hWR hL1 hL2 hL3 hL4 hx hy lx ly n1 n2 fx fy hlx hly
    go_enter Tryz.func4, Tryz.ntmps4
    go_wp2_with (first
      | (go_at_call 20; (with_reducible refine (FW.out _).mono ?_); rintro e v1 ⟨rfl, hb⟩; have g := hb; have X1 := hide (X1.out.next g); have X2 := hide (X2.out.next g); (try clear y1 y2 y3 y4); (try clear z1 z2); obtain ⟨y1, y2⟩ := X1.out; obtain ⟨y3, y4⟩ := X2.out; have z1 := X1.out.l4; have z2 := X2.out.l4; have b := bl_trans b g; clear hb g)
      | (go_at_call 22; (with_reducible refine (O1.out _ b).mono ?_); rintro e v2 ⟨A00, c00, rfl, s00, hb⟩; have g := hb; have X1 := hide (X1.out.next g); have X2 := hide (X2.out.next g); (try clear y1 y2 y3 y4); (try clear z1 z2); obtain ⟨y1, y2⟩ := X1.out; obtain ⟨y3, y4⟩ := X2.out; have z1 := X1.out.l4; have z2 := X2.out.l4; have b := bl_trans b g; clear hb g)
      | (go_at_call 23; (with_reducible refine (R1.out _ (bl_al b _)).mono ?_); rintro e v3 ⟨A01, c01, rfl, s01, hb⟩; have Y1 := hide ((Ic.new p1 A00 l1.length c00 v2).next hb); have g := bl_one hb; have X1 := hide (X1.out.next g); have X2 := hide (X2.out.next g); (try clear y1 y2 y3 y4); (try clear z1 z2); obtain ⟨y1, y2⟩ := X1.out; obtain ⟨y3, y4⟩ := X2.out; have z1 := X1.out.l4; have z2 := X2.out.l4; (try clear u1 t1); (try clear q1); obtain ⟨u1, t1⟩ := Y1.out; have q1 := Y1.out.l4; have s00 := kj g s00; have b := bl_trans b g; clear hb g)
      | (go_at_call 24; (with_reducible refine (O2.out _ (bl_al b _)).mono ?_); rintro e v4 ⟨A10, c10, rfl, s10, hb⟩; have Y2 := hide ((Ic.new p1 A01 l1.length c01 v3).next hb); have g := bl_one hb; have Y1 := hide (Y1.out.next g); have X1 := hide (X1.out.next g); have X2 := hide (X2.out.next g); (try clear y1 y2 y3 y4); (try clear z1 z2); obtain ⟨y1, y2⟩ := X1.out; obtain ⟨y3, y4⟩ := X2.out; have z1 := X1.out.l4; have z2 := X2.out.l4; (try clear u1 t1); (try clear q1); obtain ⟨u1, t1⟩ := Y1.out; have q1 := Y1.out.l4; (try clear u2 t2); (try clear q2); obtain ⟨u2, t2⟩ := Y2.out; have q2 := Y2.out.l4; have s00 := kj g s00; have s01 := kj g s01; have b := bl_trans b g; clear hb g)
      | (go_at_call 25; (with_reducible refine (R2.out _ (bl_al b _)).mono ?_); rintro e v5 ⟨A11, c11, rfl, s11, hb⟩; have Y3 := hide ((Ic.new p2 A10 l2.length c10 v4).next hb); have g := bl_one hb; have Y1 := hide (Y1.out.next g); have Y2 := hide (Y2.out.next g); have X1 := hide (X1.out.next g); have X2 := hide (X2.out.next g); (try clear y1 y2 y3 y4); (try clear z1 z2); obtain ⟨y1, y2⟩ := X1.out; obtain ⟨y3, y4⟩ := X2.out; have z1 := X1.out.l4; have z2 := X2.out.l4; (try clear u1 t1); (try clear q1); obtain ⟨u1, t1⟩ := Y1.out; have q1 := Y1.out.l4; (try clear u2 t2); (try clear q2); obtain ⟨u2, t2⟩ := Y2.out; have q2 := Y2.out.l4; (try clear u3 t3); (try clear q3); obtain ⟨u3, t3⟩ := Y3.out; have q3 := Y3.out.l4; have s00 := kj g s00; have s01 := kj g s01; have s10 := kj g s10; have b := bl_trans b g; clear hb g)
      | (go_at_call 26; (with_reducible refine (O3.out _ (bl_al b _)).mono ?_); rintro e v6 ⟨A20, c20, rfl, s20, hb⟩; have Y4 := hide ((Ic.new p2 A11 l2.length c11 v5).next hb); have g := bl_one hb; have Y1 := hide (Y1.out.next g); have Y2 := hide (Y2.out.next g); have Y3 := hide (Y3.out.next g); have X1 := hide (X1.out.next g); have X2 := hide (X2.out.next g); (try clear y1 y2 y3 y4); (try clear z1 z2); obtain ⟨y1, y2⟩ := X1.out; obtain ⟨y3, y4⟩ := X2.out; have z1 := X1.out.l4; have z2 := X2.out.l4; (try clear u1 t1); (try clear q1); obtain ⟨u1, t1⟩ := Y1.out; have q1 := Y1.out.l4; (try clear u2 t2); (try clear q2); obtain ⟨u2, t2⟩ := Y2.out; have q2 := Y2.out.l4; (try clear u3 t3); (try clear q3); obtain ⟨u3, t3⟩ := Y3.out; have q3 := Y3.out.l4; (try clear u4 t4); (try clear q4); obtain ⟨u4, t4⟩ := Y4.out; have q4 := Y4.out.l4; have s00 := kj g s00; have s01 := kj g s01; have s10 := kj g s10; have s11 := kj g s11; have b := bl_trans b g; clear hb g)
      | (go_at_call 27; (with_reducible refine (R3.out _ (bl_al b _)).mono ?_); rintro e v7 ⟨A21, c21, rfl, s21, hb⟩; have Y5 := hide ((Ic.new p3 A20 l3.length c20 v6).next hb); have g := bl_one hb; have Y1 := hide (Y1.out.next g); have Y2 := hide (Y2.out.next g); have Y3 := hide (Y3.out.next g); have Y4 := hide (Y4.out.next g); have X1 := hide (X1.out.next g); have X2 := hide (X2.out.next g); (try clear y1 y2 y3 y4); (try clear z1 z2); obtain ⟨y1, y2⟩ := X1.out; obtain ⟨y3, y4⟩ := X2.out; have z1 := X1.out.l4; have z2 := X2.out.l4; (try clear u1 t1); (try clear q1); obtain ⟨u1, t1⟩ := Y1.out; have q1 := Y1.out.l4; (try clear u2 t2); (try clear q2); obtain ⟨u2, t2⟩ := Y2.out; have q2 := Y2.out.l4; (try clear u3 t3); (try clear q3); obtain ⟨u3, t3⟩ := Y3.out; have q3 := Y3.out.l4; (try clear u4 t4); (try clear q4); obtain ⟨u4, t4⟩ := Y4.out; have q4 := Y4.out.l4; (try clear u5 t5); (try clear q5); obtain ⟨u5, t5⟩ := Y5.out; have q5 := Y5.out.l4; have s00 := kj g s00; have s01 := kj g s01; have s10 := kj g s10; have s11 := kj g s11; have s20 := kj g s20; have b := bl_trans b g; clear hb g)
      | (go_at_call 28; (with_reducible refine (VO.out _ (bl_al b _)).mono ?_); rintro e v8 ⟨rfl, hb⟩; have Y6 := hide ((Ic.new p3 A21 l3.length c21 v7).next hb); have g := bl_one hb; have Y1 := hide (Y1.out.next g); have Y2 := hide (Y2.out.next g); have Y3 := hide (Y3.out.next g); have Y4 := hide (Y4.out.next g); have Y5 := hide (Y5.out.next g); have X1 := hide (X1.out.next g); have X2 := hide (X2.out.next g); (try clear y1 y2 y3 y4); (try clear z1 z2); obtain ⟨y1, y2⟩ := X1.out; obtain ⟨y3, y4⟩ := X2.out; have z1 := X1.out.l4; have z2 := X2.out.l4; (try clear u1 t1); (try clear q1); obtain ⟨u1, t1⟩ := Y1.out; have q1 := Y1.out.l4; (try clear u2 t2); (try clear q2); obtain ⟨u2, t2⟩ := Y2.out; have q2 := Y2.out.l4; (try clear u3 t3); (try clear q3); obtain ⟨u3, t3⟩ := Y3.out; have q3 := Y3.out.l4; (try clear u4 t4); (try clear q4); obtain ⟨u4, t4⟩ := Y4.out; have q4 := Y4.out.l4; (try clear u5 t5); (try clear q5); obtain ⟨u5, t5⟩ := Y5.out; have q5 := Y5.out.l4; (try clear u6 t6); (try clear q6); obtain ⟨u6, t6⟩ := Y6.out; have q6 := Y6.out.l4; have s00 := kj g s00; have s01 := kj g s01; have s10 := kj g s10; have s11 := kj g s11; have s20 := kj g s20; have s21 := kj g s21; have b := bl_trans b g; clear hb g)
      | (go_at_call 29; (with_reducible refine (VR.out _ b).mono ?_); rintro e v9 ⟨rfl, hb⟩; have g := hb; have Y1 := hide (Y1.out.next g); have Y2 := hide (Y2.out.next g); have Y3 := hide (Y3.out.next g); have Y4 := hide (Y4.out.next g); have Y5 := hide (Y5.out.next g); have Y6 := hide (Y6.out.next g); have X1 := hide (X1.out.next g); have X2 := hide (X2.out.next g); (try clear y1 y2 y3 y4); (try clear z1 z2); obtain ⟨y1, y2⟩ := X1.out; obtain ⟨y3, y4⟩ := X2.out; have z1 := X1.out.l4; have z2 := X2.out.l4; (try clear u1 t1); (try clear q1); obtain ⟨u1, t1⟩ := Y1.out; have q1 := Y1.out.l4; (try clear u2 t2); (try clear q2); obtain ⟨u2, t2⟩ := Y2.out; have q2 := Y2.out.l4; (try clear u3 t3); (try clear q3); obtain ⟨u3, t3⟩ := Y3.out; have q3 := Y3.out.l4; (try clear u4 t4); (try clear q4); obtain ⟨u4, t4⟩ := Y4.out; have q4 := Y4.out.l4; (try clear u5 t5); (try clear q5); obtain ⟨u5, t5⟩ := Y5.out; have q5 := Y5.out.l4; (try clear u6 t6); (try clear q6); obtain ⟨u6, t6⟩ := Y6.out; have q6 := Y6.out.l4; have s00 := kj g s00; have s01 := kj g s01; have s10 := kj g s10; have s11 := kj g s11; have s20 := kj g s20; have s21 := kj g s21; have b := bl_trans b g; clear hb g)
      | (go_at_call 30; (with_reducible refine (Z0.out _).mono ?_); rintro e v10 ⟨AZ, cz, rfl, sz, hb⟩; have g := hb; have Y1 := hide (Y1.out.next g); have Y2 := hide (Y2.out.next g); have Y3 := hide (Y3.out.next g); have Y4 := hide (Y4.out.next g); have Y5 := hide (Y5.out.next g); have Y6 := hide (Y6.out.next g); have X1 := hide (X1.out.next g); have X2 := hide (X2.out.next g); (try clear y1 y2 y3 y4); (try clear z1 z2); obtain ⟨y1, y2⟩ := X1.out; obtain ⟨y3, y4⟩ := X2.out; have z1 := X1.out.l4; have z2 := X2.out.l4; (try clear u1 t1); (try clear q1); obtain ⟨u1, t1⟩ := Y1.out; have q1 := Y1.out.l4; (try clear u2 t2); (try clear q2); obtain ⟨u2, t2⟩ := Y2.out; have q2 := Y2.out.l4; (try clear u3 t3); (try clear q3); obtain ⟨u3, t3⟩ := Y3.out; have q3 := Y3.out.l4; (try clear u4 t4); (try clear q4); obtain ⟨u4, t4⟩ := Y4.out; have q4 := Y4.out.l4; (try clear u5 t5); (try clear q5); obtain ⟨u5, t5⟩ := Y5.out; have q5 := Y5.out.l4; (try clear u6 t6); (try clear q6); obtain ⟨u6, t6⟩ := Y6.out; have q6 := Y6.out.l4; have s00 := kj g s00; have s01 := kj g s01; have s10 := kj g s10; have s11 := kj g s11; have s20 := kj g s20; have s21 := kj g s21; have b := bl_trans b g; clear hb g))
    have Y7 := hide (Ic.new (isg 0) AZ (idg 0).length cz v10)
    have al := bl_al (.refl _ v10) (.cells #[.bool (isg 0), .slice AZ (idg 0).length cz] 41)
    have Y1 := hide (Y1.out.next al)
    have Y2 := hide (Y2.out.next al)
    have Y3 := hide (Y3.out.next al)
    have Y4 := hide (Y4.out.next al)
    have Y5 := hide (Y5.out.next al)
    have Y6 := hide (Y6.out.next al)
    have X1 := hide (X1.out.next al)
    have X2 := hide (X2.out.next al)
    have s00 := kj al s00
    have s01 := kj al s01
    have s10 := kj al s10
    have s11 := kj al s11
    have s20 := kj al s20
    have s21 := kj al s21
    have sz := kj al sz
    have b0 := hide (bl_trans b al)
    clear al b y1 y2 y3 y4 z1 z2
    (try clear u1 t1 q1)
    (try clear u2 t2 q2)
    (try clear u3 t3 q3)
    (try clear u4 t4 q4)
    (try clear u5 t5 q5)
    (try clear u6 t6 q6)
    (try clear u7 t7 q7)
    generalize v10.alloc (.cells #[.bool (isg 0), .slice AZ (idg 0).length cz] 41) = u0 at *
    obtain ⟨y1, y2⟩ := X1.out
    obtain ⟨y3, y4⟩ := X2.out
    obtain ⟨u1, t1⟩ := Y1.out
    obtain ⟨u2, t2⟩ := Y2.out
    obtain ⟨u3, t3⟩ := Y3.out
    obtain ⟨u4, t4⟩ := Y4.out
    obtain ⟨u5, t5⟩ := Y5.out
    obtain ⟨u6, t6⟩ := Y6.out
    obtain ⟨u7, t7⟩ := Y7.out
    have kw := hide (Kw.start u0)
    dsimp only [List.append]
    go_region_held3 (fun W => W.cell? ⟨w.heap.size, 0, none⟩ = some (.bool s) ∧ W.cell? ⟨w.heap.size, 1, none⟩ = some (.slice A xs.length c) ∧ W.cell? ⟨w.heap.size + 1, 0, none⟩ = some (.bool t) ∧ W.cell? ⟨w.heap.size + 1, 1, none⟩ = some (.slice B ys.length d) ∧ W.cell? ⟨v2.heap.size, 0, none⟩ = some (.bool p1) ∧ W.cell? ⟨v2.heap.size, 1, none⟩ = some (.slice A00 l1.length c00) ∧ W.cell? ⟨v3.heap.size, 0, none⟩ = some (.bool p1) ∧ W.cell? ⟨v3.heap.size, 1, none⟩ = some (.slice A01 l1.length c01) ∧ W.cell? ⟨v4.heap.size, 0, none⟩ = some (.bool p2) ∧ W.cell? ⟨v4.heap.size, 1, none⟩ = some (.slice A10 l2.length c10) ∧ W.cell? ⟨v5.heap.size, 0, none⟩ = some (.bool p2) ∧ W.cell? ⟨v5.heap.size, 1, none⟩ = some (.slice A11 l2.length c11) ∧ W.cell? ⟨v6.heap.size, 0, none⟩ = some (.bool p3) ∧ W.cell? ⟨v6.heap.size, 1, none⟩ = some (.slice A20 l3.length c20) ∧ W.cell? ⟨v7.heap.size, 0, none⟩ = some (.bool p3) ∧ W.cell? ⟨v7.heap.size, 1, none⟩ = some (.slice A21 l3.length c21) ∧ W.cell? ⟨v10.heap.size, 0, none⟩ = some (.bool (isg 0)) ∧ W.cell? ⟨v10.heap.size, 1, none⟩ = some (.slice AZ (idg 0).length cz) ∧ Kw u0 W)
      (first | exact ⟨y1, y2, y3, y4, u1, t1, u2, t2, u3, t3, u4, t4, u5, t5, u6, t6, u7, t7, kw.out⟩ | exact N18 hb (by assumption) | assumption)
      (first
        | (go_at_call 31; (with_reducible refine (same2_t p1 p1 A00 A01 c00 c01 _ _ l1 l1 _ rfl rfl (kj (Kw.b (k18 (by assumption))) s00) (kj (Kw.b (k18 (by assumption))) s01) L1.out L1.out rfl rfl).mono ?_); rintro e m0 ⟨rfl, hb⟩)
        | (go_at_call 31; (with_reducible refine (same2_t p2 p2 A10 A11 c10 c11 _ _ l2 l2 _ rfl rfl (kj (Kw.b (k18 (by assumption))) s10) (kj (Kw.b (k18 (by assumption))) s11) L2.out L2.out rfl rfl).mono ?_); rintro e m1 ⟨rfl, hb⟩)
        | (go_at_call 31; (with_reducible refine (same2_t p3 p3 A20 A21 c20 c21 _ _ l3 l3 _ rfl rfl (kj (Kw.b (k18 (by assumption))) s20) (kj (Kw.b (k18 (by assumption))) s21) L3.out L3.out rfl rfl).mono ?_); rintro e m2 ⟨rfl, hb⟩)
        | (go_at_call 32; (with_reducible refine (CO.out _ (bl_trans b0.out (Kw.b (k18 (by assumption))))).mono ?_); rintro e m3 ⟨rfl, hb⟩)
        | (go_at_call 33; (with_reducible refine (CR.out _ (bl_trans b0.out (Kw.b (k18 (by assumption))))).mono ?_); rintro e m4 ⟨rfl, hb⟩)
        | (go_at_call 34; (with_reducible refine (GO.out _ (bl_trans b0.out (Kw.b (k18 (by assumption))))).mono ?_); rintro e m5 ⟨rfl, hb⟩)
        | (go_at_call 33; (with_reducible refine (GR.out _ _ _ (bl_trans b0.out (Kw.b (k18 (by assumption)))) (kj (Kw.b (k18 (by assumption))) sz)).mono ?_); rintro e m6 ⟨rfl, hb⟩)
        | (go_at_call 35; (with_reducible refine (NO.out _ (bl_trans b0.out (Kw.b (k18 (by assumption))))).mono ?_); rintro e m7 ⟨A9, c9, rfl, s9, hb⟩)
        | (go_at_call 36; (with_reducible refine (NR.out _ (bl_trans b0.out (Kw.b (k18 (by assumption))))).mono ?_); rintro e m8 ⟨A8, c8, rfl, s8, hb⟩; have s9 := kj hb s9)
        | (go_at_call 31; (with_reducible refine (same2_t p4 p4 A9 A8 c9 c8 _ _ l4 l4 _ rfl rfl s9 s8 L4.out L4.out rfl rfl).mono ?_); rintro e m9 ⟨rfl, hb⟩)
        | (go_at_call 37; (with_reducible refine (WO.out _ (bl_trans b0.out (Kw.b (k18 (by assumption))))).mono ?_); rintro e m10 ⟨rfl, hb⟩)
        | (go_at_call 38; (with_reducible refine (WR.out _ (bl_trans b0.out (Kw.b (k18 (by assumption))))).mono ?_); rintro e m11 ⟨rfl, hb⟩)
        | (go_at_call 39; (with_reducible refine (FO.out _).mono ?_); rintro e m12 ⟨A7, c7, rfl, s7, hb⟩)
        | (go_at_call 30; (with_reducible refine (FR.out _).mono ?_); rintro e m13 ⟨A6, c6, rfl, s6, hb⟩; have s7 := kj hb s7)
        | (go_at_call 31; (with_reducible refine (same2_t (isg n) (isg n) A7 A6 c7 c6 _ _ (idg n) (idg n) _ rfl rfl s7 s6 L5.out L5.out rfl rfl).mono ?_); rintro e m14 ⟨rfl, hb⟩)
        | (go_at_call 21; (with_reducible refine (awake2_any _ (pow_below ht (bl_trans b0.out (Kw.b (k18 (by assumption)))))).mono ?_); rintro e m15 ⟨rfl, hb⟩))
    all_goals
      go_wp2
      go_ret
      exact ⟨rfl, bl_trans b0.out (Kw.b (k18 (by assumption)))⟩
  · have FW := hide (fun W => few2_any s t A B xs.length ys.length c d W hlx hly false (decide_eq_false hf))
    clear hf hx hy lx ly n1 n2 hlx hly
    go_enter Tryz.func4, Tryz.ntmps4
    go_wp2_with (first
      | (go_at_call 20; (with_reducible refine (FW.out _).mono ?_); rintro e v1 ⟨rfl, hb⟩; have g := hb; have X1 := hide (X1.out.next g); have X2 := hide (X2.out.next g); (try clear y1 y2 y3 y4); (try clear z1 z2); obtain ⟨y1, y2⟩ := X1.out; obtain ⟨y3, y4⟩ := X2.out; have z1 := X1.out.l4; have z2 := X2.out.l4; have b := bl_trans b g; clear hb g)
      | (go_at_call 21; (with_reducible refine (awake2_any _ (pow_below ht b)).mono ?_); rintro e u1 ⟨rfl, hb⟩; have b := bl_trans b hb; clear hb))
    go_ret
    exact ⟨rfl, b⟩
end Nt

end Go.Proofs.YtgmjdaallinicaaGreatDoor
