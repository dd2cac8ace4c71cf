
/-
  The reference's whole numbers: fitsInt, AddInt, SubInt, MulInt, NegInt, ValueInt.
-/
import Derived.Test.YtgmjdaallinicaaGreatDoorRefJ

namespace Go.Proofs.YtgmjdaallinicaaGreatDoor

open Go.RowKit

namespace Nt

set_option maxHeartbeats 400000 in
theorem rfitsI_any (s : Bool) (A : Option Addr) (n c : Nat) (w : World) (hn : n ≤ 9223372036854775807) :
    Calls Tryz.prog 63 #[.agg #[.bool s, .slice A n c]] w fun e w' => e = .returned (if n ≤ 64 then .tuple #[.agg #[.bool s, .slice A n c], .int .i64 0] else .tuple #[.agg #[.bool false, .slice none 0 0], .int .i64 4]) ∧ Below w.heap.size w w' := by
  obtain ⟨x1, x2, x3, x4, x5, x6⟩ := boxes4 s A n c w
  by_cases h : n ≤ 64
  · rw [if_pos h]
    go_enter Tryz.func63, Tryz.ntmps63
    go_wp2
    refine bodyPost_ret (v := .tuple #[.agg #[.bool s, .slice A n c], .int .i64 0]) (by simp [results, Tryz.results63, go_sem]) rfl ⟨rfl, bl_al (bl_al (.refl _ _) _) _⟩
  · rw [if_neg h]
    have h' : 64 < n := by omega
    clear h
    go_enter Tryz.func63, Tryz.ntmps63
    go_wp2
    refine bodyPost_ret (v := .tuple #[.agg #[.bool false, .slice none 0 0], .int .i64 4]) (by simp [results, Tryz.results63, go_sem, x3, x4]) rfl ⟨rfl, bl_al (bl_al (.refl _ _) _) _⟩

theorem fitI_len {z : Int} : fitI z = if (idg z).length ≤ 64 then (isg z, idg z, 0) else (false, [], 4) := by
  unfold fitI idg
  by_cases h : z.natAbs < LB ^ 64
  · rw [if_pos h, if_pos (length_digs_le.2 h)]
  · rw [if_neg h, if_neg (fun h' => h (length_digs_le.1 h'))]
theorem as_int2 {s : Bool} {xs : List Nat} (l : Limbs xs) (v : validI s xs = true) : ∃ x : Int, s = isg x ∧ xs = idg x ∧ (idg x).length ≤ 64 := by
  obtain ⟨x, h1, h2, _⟩ := as_int (k := xs.length) l v (Nat.le_refl _)
  exact ⟨x, h1, h2, by rw [← h2]; exact (validB_iff.1 (validI_B v)).1⟩
theorem spI_ok {s t : Bool} {xs ys : List Nat} (f : Int → Int → Int) (x y : Int) (h1 : s = isg x) (h2 : xs = idg x) (h3 : t = isg y) (h4 : ys = idg y) : f (ival s xs) (ival t ys) = f x y := by
  rw [h1, h2, h3, h4, ival_mk, ival_mk]

theorem rfitsI_yes (s : Bool) (A : Option Addr) (n c : Nat) (w : World) (h : n ≤ 64) :
    Calls Tryz.prog 63 #[.agg #[.bool s, .slice A n c]] w fun e w' => e = .returned (.tuple #[.agg #[.bool s, .slice A n c], .int .i64 0]) ∧ Below w.heap.size w w' := by
  have := rfitsI_any s A n c w (by omega)
  rwa [if_pos h] at this
theorem rfitsI_no (s : Bool) (A : Option Addr) (n c : Nat) (w : World) (h : ¬ n ≤ 64) (hn : n ≤ 9223372036854775807) :
    Calls Tryz.prog 63 #[.agg #[.bool s, .slice A n c]] w fun e w' => e = .returned (.tuple #[.agg #[.bool false, .slice none 0 0], .int .i64 4]) ∧ Below w.heap.size w w' := by
  have := rfitsI_any s A n c w hn
  rwa [if_neg h] at this
set_option maxRecDepth 100000 in
set_option maxHeartbeats 4000000 in
theorem raddI_any (s t : Bool) (A B : Option Addr) (c d : Nat) (xs ys : List Nat) (w : World) (hx : Sl w A xs) (hy : Sl w B ys) (lx : Limbs xs) (ly : Limbs ys) (hl : xs.length ≤ 1000) (hl' : ys.length ≤ 1000) :
    Calls Tryz.prog 23 #[.agg #[.bool s, .slice A xs.length c], .agg #[.bool t, .slice B ys.length d]] w (ITwo w (addISp s xs t ys)) := by
  have V1 := hide (fun W (h : Below w.heap.size w W) => rvalidI_any s A c xs W (bl_keeps h _ _ hx) (by omega))
  have V2 := hide (fun W (h : Below w.heap.size w W) => rvalidI_any t B d ys W (bl_keeps h _ _ hy) (by omega))
  have b0 : Below w.heap.size w (((w.alloc (.cells #[.bool s, .slice A xs.length c] 41)).alloc (.cells #[.bool t, .slice B ys.length d] 41)).alloc (.cells #[.bool false, .slice none 0 0] 41)) := bl_al (bl_al (bl_al (.refl _ _) _) _) _
  have X := hide (Bx3.start s A xs.length c t B ys.length d w)
  have n1 := hide (show w.heap.size + 1 ≠ w.heap.size + 1 + 1 by omega)
  have n2 := hide (show w.heap.size ≠ w.heap.size + 1 + 1 by omega)
  cases hv : validI s xs with
  | false =>
    have E := hide (addI_no (t := t) (ys := ys) (.inl hv))
    rw [hv] at V1
    clear hv V2 hx hy lx ly n1 n2
    generalize xs.length = n at *
    generalize ys.length = m at *
    go_enter Tryz.func23, Tryz.ntmps23
    go_wp2_with (go_at_call 38; (with_reducible refine (V1.out _ b0).mono ?_); rintro e w1 ⟨rfl, hb⟩; have X := hide (X.out.next hb); obtain ⟨x1, x2, x3, x4, x5, x6, _⟩ := X.out; have b1 := bl_trans b0 hb; clear hb)
    refine bodyPost_ret (v := .tuple #[.agg #[.bool false, .slice none 0 0], .int .i64 1]) (by simp [results, Tryz.results23, go_sem, x5, x6]) rfl (ITwo.mk E.out rfl .nil (Below.store2 b1 (by omega) _ _))
  | true =>
    cases hv2 : validI t ys with
    | false =>
      have E := hide (addI_no (s := s) (xs := xs) (.inr hv2))
      rw [hv] at V1
      rw [hv2] at V2
      clear hv hv2 hx hy lx ly n1 n2
      generalize xs.length = n at *
      generalize ys.length = m at *
      go_enter Tryz.func23, Tryz.ntmps23
      go_wp2_with (first | (go_at_call 38; (with_reducible refine (V1.out _ b0).mono ?_); rintro e w1 ⟨rfl, hb⟩; have X := hide (X.out.next hb); obtain ⟨x1, x2, x3, x4, x5, x6, _⟩ := X.out; have b1 := bl_trans b0 hb; clear hb) | (go_at_call 38; (with_reducible refine (V2.out _ b1).mono ?_); rintro e w2 ⟨rfl, hb⟩; have X := hide (X.out.next hb); obtain ⟨x1, x2, x3, x4, x5, x6, _⟩ := X.out; have b2 := bl_trans b1 hb; clear hb))
      refine bodyPost_ret (v := .tuple #[.agg #[.bool false, .slice none 0 0], .int .i64 1]) (by simp [results, Tryz.results23, go_sem, x5, x6]) rfl (ITwo.mk E.out rfl .nil (Below.store2 b2 (by omega) _ _))
    | true =>
      have E0 : addISp s xs t ys = fitI (ival s xs + ival t ys) := by unfold addISp; rw [hv, hv2]; rfl
      rw [hv] at V1
      rw [hv2] at V2
      obtain ⟨x, hs, hxs, lx64⟩ := as_int2 lx hv
      obtain ⟨y, ht, hys, ly64⟩ := as_int2 ly hv2
      rw [hs, hxs, ht, hys, ival_mk, ival_mk, fitI_len] at E0
      clear hv hv2 lx ly
      subst hs hxs ht hys
      have C := hide (fun W (h : Below w.heap.size w W) => raddS_num A B _ _ c d x y W rfl rfl (bl_keeps h _ _ hx) (bl_keeps h _ _ hy) (by omega) (by omega))
      have hz := add_lenI lx64 ly64
      have LZ := hide (show (idg (x + y)).length ≤ 9223372036854775807 by omega)
      by_cases h64 : (idg (x + y)).length ≤ 64
      · rw [if_pos h64] at E0
        have E := hide E0
        have H64 := hide h64
        clear E0 h64 hz
        clear hx hy n1 n2
        go_enter Tryz.func23, Tryz.ntmps23
        go_wp2_with (first
          | (go_at_call 38; (with_reducible refine (V1.out _ b0).mono ?_); rintro e w1 ⟨rfl, hb⟩; have X := hide (X.out.next hb); obtain ⟨x1, x2, x3, x4, x5, x6, _⟩ := X.out; have b1 := bl_trans b0 hb; clear hb)
          | (go_at_call 38; (with_reducible refine (V2.out _ b1).mono ?_); rintro e w2 ⟨rfl, hb⟩; have X := hide (X.out.next hb); obtain ⟨x1, x2, x3, x4, x5, x6, _⟩ := X.out; have b2 := bl_trans b1 hb; clear hb)
          | (go_at_call 64; (with_reducible refine (C.out _ b2).mono ?_); rintro e w3 ⟨A3, c3, rfl, s3, hb⟩; have X := hide (X.out.next hb); obtain ⟨x1, x2, x3, x4, x5, x6, _⟩ := X.out; have b3 := bl_trans b2 hb; clear hb)
          | (go_at_call 63; (with_reducible refine (rfitsI_yes _ _ _ _ _ H64.out).mono ?_); rintro e w4 ⟨rfl, hb⟩; have X := hide (X.out.next hb); obtain ⟨x1, x2, x3, x4, x5, x6, _⟩ := X.out; have s4 := bl_keeps hb _ _ s3; have b4 := bl_trans b3 hb; clear hb))
        refine bodyPost_ret (v := .tuple #[.agg #[.bool (isg (x + y)), .slice A3 (idg (x + y)).length c3], .int .i64 0]) (by simp [results, Tryz.results23, go_sem, x5, x6]) rfl (ITwo.mk E.out rfl (s4.store2 x5 x6 _ _) (Below.store2 b4 (by omega) _ _))
      · rw [if_neg h64] at E0
        have E := hide E0
        have H64 := hide h64
        clear E0 h64 hz
        clear hx hy n1 n2
        go_enter Tryz.func23, Tryz.ntmps23
        go_wp2_with (first
          | (go_at_call 38; (with_reducible refine (V1.out _ b0).mono ?_); rintro e w1 ⟨rfl, hb⟩; have X := hide (X.out.next hb); obtain ⟨x1, x2, x3, x4, x5, x6, _⟩ := X.out; have b1 := bl_trans b0 hb; clear hb)
          | (go_at_call 38; (with_reducible refine (V2.out _ b1).mono ?_); rintro e w2 ⟨rfl, hb⟩; have X := hide (X.out.next hb); obtain ⟨x1, x2, x3, x4, x5, x6, _⟩ := X.out; have b2 := bl_trans b1 hb; clear hb)
          | (go_at_call 64; (with_reducible refine (C.out _ b2).mono ?_); rintro e w3 ⟨A3, c3, rfl, s3, hb⟩; have X := hide (X.out.next hb); obtain ⟨x1, x2, x3, x4, x5, x6, _⟩ := X.out; have b3 := bl_trans b2 hb; clear hb)
          | (go_at_call 63; (with_reducible refine (rfitsI_no _ _ _ _ _ H64.out LZ.out).mono ?_); rintro e w4 ⟨rfl, hb⟩; have X := hide (X.out.next hb); obtain ⟨x1, x2, x3, x4, x5, x6, _⟩ := X.out; have s4 := bl_keeps hb _ _ s3; have b4 := bl_trans b3 hb; clear hb))
        refine bodyPost_ret (v := .tuple #[.agg #[.bool false, .slice none 0 0], .int .i64 4]) (by simp [results, Tryz.results23, go_sem, x5, x6]) rfl (ITwo.mk E.out rfl .nil (Below.store2 b4 (by omega) _ _))

theorem idg_neg (y : Int) : idg (-y) = idg y := by unfold idg; rw [Int.natAbs_neg]
theorem isg_neg (y : Int) : (!isg y && decide (0 < (idg y).length)) = isg (-y) := by
  have h := sgn_pair (s := !isg y) (n := y.natAbs) (z := -y) (by
    cases hs : isg y with
    | true => have := isg_t hs; simp; omega
    | false => have := isg_f hs; simp; omega)
  have h2 : digs y.natAbs = idg y := rfl
  rw [h2] at h
  exact (congrArg Prod.fst h).symm
theorem neq_bool (p q : Bool) (W : World) : (binOp .neq 4 (.bool p) (.bool q)).run Tryz.prog W = .ok (.bool (p != q)) W := by
  cases p <;> cases q <;> kernel_rfl

set_option maxRecDepth 100000 in
set_option maxHeartbeats 4000000 in
theorem rsubI_any (s t : Bool) (A B : Option Addr) (c d : Nat) (xs ys : List Nat) (w : World) (hx : Sl w A xs) (hy : Sl w B ys) (lx : Limbs xs) (ly : Limbs ys) (hl : xs.length ≤ 1000) (hl' : ys.length ≤ 1000) :
    Calls Tryz.prog 25 #[.agg #[.bool s, .slice A xs.length c], .agg #[.bool t, .slice B ys.length d]] w (ITwo w (subISp s xs t ys)) := by
  have V1 := hide (fun W (h : Below w.heap.size w W) => rvalidI_any s A c xs W (bl_keeps h _ _ hx) (by omega))
  have V2 := hide (fun W (h : Below w.heap.size w W) => rvalidI_any t B d ys W (bl_keeps h _ _ hy) (by omega))
  have b0 : Below w.heap.size w (((w.alloc (.cells #[.bool s, .slice A xs.length c] 41)).alloc (.cells #[.bool t, .slice B ys.length d] 41)).alloc (.cells #[.bool false, .slice none 0 0] 41)) := bl_al (bl_al (bl_al (.refl _ _) _) _) _
  have X := hide (Bx3.start s A xs.length c t B ys.length d w)
  have n1 := hide (show w.heap.size + 1 ≠ w.heap.size + 1 + 1 by omega)
  have n2 := hide (show w.heap.size ≠ w.heap.size + 1 + 1 by omega)
  cases hv : validI s xs with
  | false =>
    have E := hide (subI_no (t := t) (ys := ys) (.inl hv))
    rw [hv] at V1
    clear hv V2 hx hy lx ly n1 n2
    generalize xs.length = n at *
    generalize ys.length = m at *
    go_enter Tryz.func25, Tryz.ntmps25
    go_wp2_with (go_at_call 38; (with_reducible refine (V1.out _ b0).mono ?_); rintro e w1 ⟨rfl, hb⟩; have X := hide (X.out.next hb); obtain ⟨x1, x2, x3, x4, x5, x6, _⟩ := X.out; have b1 := bl_trans b0 hb; clear hb)
    refine bodyPost_ret (v := .tuple #[.agg #[.bool false, .slice none 0 0], .int .i64 1]) (by simp [results, Tryz.results25, go_sem, x5, x6]) rfl (ITwo.mk E.out rfl .nil (Below.store2 b1 (by omega) _ _))
  | true =>
    cases hv2 : validI t ys with
    | false =>
      have E := hide (subI_no (s := s) (xs := xs) (.inr hv2))
      rw [hv] at V1
      rw [hv2] at V2
      clear hv hv2 hx hy lx ly n1 n2
      generalize xs.length = n at *
      generalize ys.length = m at *
      go_enter Tryz.func25, Tryz.ntmps25
      go_wp2_with (first | (go_at_call 38; (with_reducible refine (V1.out _ b0).mono ?_); rintro e w1 ⟨rfl, hb⟩; have X := hide (X.out.next hb); obtain ⟨x1, x2, x3, x4, x5, x6, _⟩ := X.out; have b1 := bl_trans b0 hb; clear hb) | (go_at_call 38; (with_reducible refine (V2.out _ b1).mono ?_); rintro e w2 ⟨rfl, hb⟩; have X := hide (X.out.next hb); obtain ⟨x1, x2, x3, x4, x5, x6, _⟩ := X.out; have b2 := bl_trans b1 hb; clear hb))
      refine bodyPost_ret (v := .tuple #[.agg #[.bool false, .slice none 0 0], .int .i64 1]) (by simp [results, Tryz.results25, go_sem, x5, x6]) rfl (ITwo.mk E.out rfl .nil (Below.store2 b2 (by omega) _ _))
    | true =>
      have E0 : subISp s xs t ys = fitI (ival s xs - ival t ys) := by unfold subISp; rw [hv, hv2]; rfl
      rw [hv] at V1
      rw [hv2] at V2
      obtain ⟨x, hs, hxs, lx64⟩ := as_int2 lx hv
      obtain ⟨y, ht, hys, ly64⟩ := as_int2 ly hv2
      rw [hs, hxs, ht, hys, ival_mk, ival_mk, fitI_len] at E0
      clear hv hv2 lx ly
      subst hs hxs ht hys
      have C := hide (fun W (h : Below w.heap.size w W) => raddS_num A B _ _ c d x (-y) W rfl rfl (bl_keeps h _ _ hx) (by rw [idg_neg]; exact bl_keeps h _ _ hy) (by omega) (by rw [idg_neg]; omega))
      rw [idg_neg, ← Int.sub_eq_add_neg] at C
      have RW : Hid (∀ W, Calls Tryz.prog 65 #[.bool (!isg y), .slice B (idg y).length d] W fun e w' => e = .returned (.agg #[.bool (isg (-y)), .slice B (idg y).length d]) ∧ Below W.heap.size W w') := fun W => by
        have := rwhole_any (!isg y) B (idg y).length d W (by omega)
        rwa [isg_neg] at this
      have hz : (idg (x - y)).length ≤ 65 := by
        have := add_lenI (x := x) (y := -y) lx64 (by rw [idg_neg]; exact ly64)
        rwa [← Int.sub_eq_add_neg] at this
      have LZ := hide (show (idg (x - y)).length ≤ 9223372036854775807 by omega)
      by_cases h64 : (idg (x - y)).length ≤ 64
      · rw [if_pos h64] at E0
        have E := hide E0
        have H64 := hide h64
        clear E0 h64 hz hx hy
        go_enter Tryz.func25, Tryz.ntmps25
        go_wp2_with (first
          | (go_at_call 38; (with_reducible refine (V1.out _ b0).mono ?_); rintro e w1 ⟨rfl, hb⟩; have X := hide (X.out.next hb); obtain ⟨x1, x2, x3, x4, x5, x6, _⟩ := X.out; have b1 := bl_trans b0 hb; clear hb)
          | (go_at_call 38; (with_reducible refine (V2.out _ b1).mono ?_); rintro e w2 ⟨rfl, hb⟩; have X := hide (X.out.next hb); obtain ⟨x1, x2, x3, x4, x5, x6, _⟩ := X.out; have b2 := bl_trans b1 hb; clear hb))
        go_region_held3 (fun W => W.cell? ⟨w.heap.size, 0, none⟩ = some (.bool (isg x)) ∧ W.cell? ⟨w.heap.size, 1, none⟩ = some (.slice A (idg x).length c) ∧ W.cell? ⟨w.heap.size + 1, 0, none⟩ = some (.bool (isg y)) ∧ W.cell? ⟨w.heap.size + 1, 1, none⟩ = some (.slice B (idg y).length d))
          (first | exact ⟨x1, x2, x3, x4⟩ | exact S_store12 (by assumption) n2.out n2.out n1.out n1.out | exact S_next12 hb4 (by assumption) | exact S_next12 hb3 (by assumption) | exact S_next12 hb (by assumption) | go_keep)
          (first
            | (go_at_call 65; (with_reducible refine (RW.out _).mono ?_); rintro e w3 ⟨rfl, hb⟩; have ya := hide ((X.out.drew).next hb); have b3 := bl_trans (by first | exact b2.drew | exact b2) hb)
            | (go_at_call 64; (with_reducible refine (C.out _ b3).mono ?_); rintro e w5 ⟨A3, c3, rfl, s3, hb3⟩; have yc := hide (ya.out.next hb3); have b3 := bl_trans b3 hb3)
            | (go_at_call 63; (with_reducible refine (rfitsI_yes _ _ _ _ _ H64.out).mono ?_); rintro e w4 ⟨rfl, hb4⟩; obtain ⟨y1, y2, y3, y4, y5, y6, y7, y8, _⟩ := yc.out.next hb4; have s4 := bl_keeps hb4 _ _ s3; have b4 := bl_trans b3 hb4))
        go_wp2
        refine bodyPost_ret (v := .tuple #[.agg #[.bool (isg (x - y)), .slice A3 (idg (x - y)).length c3], .int .i64 0]) (by simp [results, Tryz.results25, go_sem, y5, y6]) rfl (ITwo.mk E.out rfl (s4.store2 y5 y6 _ _) (Below.store2 b4 (by omega) _ _))
      · rw [if_neg h64] at E0
        have E := hide E0
        have H64 := hide h64
        clear E0 h64 hz hx hy
        go_enter Tryz.func25, Tryz.ntmps25
        go_wp2_with (first
          | (go_at_call 38; (with_reducible refine (V1.out _ b0).mono ?_); rintro e w1 ⟨rfl, hb⟩; have X := hide (X.out.next hb); obtain ⟨x1, x2, x3, x4, x5, x6, _⟩ := X.out; have b1 := bl_trans b0 hb; clear hb)
          | (go_at_call 38; (with_reducible refine (V2.out _ b1).mono ?_); rintro e w2 ⟨rfl, hb⟩; have X := hide (X.out.next hb); obtain ⟨x1, x2, x3, x4, x5, x6, _⟩ := X.out; have b2 := bl_trans b1 hb; clear hb))
        go_region_held3 (fun W => W.cell? ⟨w.heap.size, 0, none⟩ = some (.bool (isg x)) ∧ W.cell? ⟨w.heap.size, 1, none⟩ = some (.slice A (idg x).length c) ∧ W.cell? ⟨w.heap.size + 1, 0, none⟩ = some (.bool (isg y)) ∧ W.cell? ⟨w.heap.size + 1, 1, none⟩ = some (.slice B (idg y).length d))
          (first | exact ⟨x1, x2, x3, x4⟩ | exact S_store12 (by assumption) n2.out n2.out n1.out n1.out | exact S_next12 hb4 (by assumption) | exact S_next12 hb3 (by assumption) | exact S_next12 hb (by assumption) | go_keep)
          (first
            | (go_at_call 65; (with_reducible refine (RW.out _).mono ?_); rintro e w3 ⟨rfl, hb⟩; have ya := hide ((X.out.drew).next hb); have b3 := bl_trans (by first | exact b2.drew | exact b2) hb)
            | (go_at_call 64; (with_reducible refine (C.out _ b3).mono ?_); rintro e w5 ⟨A3, c3, rfl, s3, hb3⟩; have yc := hide (ya.out.next hb3); have b3 := bl_trans b3 hb3)
            | (go_at_call 63; (with_reducible refine (rfitsI_no _ _ _ _ _ H64.out LZ.out).mono ?_); rintro e w4 ⟨rfl, hb4⟩; obtain ⟨y1, y2, y3, y4, y5, y6, y7, y8, _⟩ := yc.out.next hb4; have b4 := bl_trans b3 hb4))
        go_wp2
        refine bodyPost_ret (v := .tuple #[.agg #[.bool false, .slice none 0 0], .int .i64 4]) (by simp [results, Tryz.results25, go_sem, y5, y6]) rfl (ITwo.mk E.out rfl .nil (Below.store2 b4 (by omega) _ _))

set_option maxRecDepth 100000 in
set_option maxHeartbeats 4000000 in
theorem rmulI_any (s t : Bool) (A B : Option Addr) (c d : Nat) (xs ys : List Nat) (w : World) (hx : Sl w A xs) (hy : Sl w B ys) (lx : Limbs xs) (ly : Limbs ys) (hl : xs.length ≤ 1000) (hl' : ys.length ≤ 1000) :
    Calls Tryz.prog 27 #[.agg #[.bool s, .slice A xs.length c], .agg #[.bool t, .slice B ys.length d]] w (ITwo w (mulISp s xs t ys)) := by
  have V1 := hide (fun W (h : Below w.heap.size w W) => rvalidI_any s A c xs W (bl_keeps h _ _ hx) (by omega))
  have V2 := hide (fun W (h : Below w.heap.size w W) => rvalidI_any t B d ys W (bl_keeps h _ _ hy) (by omega))
  have b0 : Below w.heap.size w (((w.alloc (.cells #[.bool s, .slice A xs.length c] 41)).alloc (.cells #[.bool t, .slice B ys.length d] 41)).alloc (.cells #[.bool false, .slice none 0 0] 41)) := bl_al (bl_al (bl_al (.refl _ _) _) _) _
  have X := hide (Bx3.start s A xs.length c t B ys.length d w)
  have n1 := hide (show w.heap.size + 1 ≠ w.heap.size + 1 + 1 by omega)
  have n2 := hide (show w.heap.size ≠ w.heap.size + 1 + 1 by omega)
  cases hv : validI s xs with
  | false =>
    have E := hide (mulI_no (t := t) (ys := ys) (.inl hv))
    rw [hv] at V1
    clear hv V2 hx hy lx ly n1 n2
    generalize xs.length = n at *
    generalize ys.length = m at *
    go_enter Tryz.func27, Tryz.ntmps27
    go_wp2_with (go_at_call 38; (with_reducible refine (V1.out _ b0).mono ?_); rintro e w1 ⟨rfl, hb⟩; have X := hide (X.out.next hb); obtain ⟨x1, x2, x3, x4, x5, x6, _⟩ := X.out; have b1 := bl_trans b0 hb; clear hb)
    refine bodyPost_ret (v := .tuple #[.agg #[.bool false, .slice none 0 0], .int .i64 1]) (by simp [results, Tryz.results27, go_sem, x5, x6]) rfl (ITwo.mk E.out rfl .nil (Below.store2 b1 (by omega) _ _))
  | true =>
    cases hv2 : validI t ys with
    | false =>
      have E := hide (mulI_no (s := s) (xs := xs) (.inr hv2))
      rw [hv] at V1
      rw [hv2] at V2
      clear hv hv2 hx hy lx ly n1 n2
      generalize xs.length = n at *
      generalize ys.length = m at *
      go_enter Tryz.func27, Tryz.ntmps27
      go_wp2_with (first | (go_at_call 38; (with_reducible refine (V1.out _ b0).mono ?_); rintro e w1 ⟨rfl, hb⟩; have X := hide (X.out.next hb); obtain ⟨x1, x2, x3, x4, x5, x6, _⟩ := X.out; have b1 := bl_trans b0 hb; clear hb) | (go_at_call 38; (with_reducible refine (V2.out _ b1).mono ?_); rintro e w2 ⟨rfl, hb⟩; have X := hide (X.out.next hb); obtain ⟨x1, x2, x3, x4, x5, x6, _⟩ := X.out; have b2 := bl_trans b1 hb; clear hb))
      refine bodyPost_ret (v := .tuple #[.agg #[.bool false, .slice none 0 0], .int .i64 1]) (by simp [results, Tryz.results27, go_sem, x5, x6]) rfl (ITwo.mk E.out rfl .nil (Below.store2 b2 (by omega) _ _))
    | true =>
      have E0 : mulISp s xs t ys = fitI (ival s xs * ival t ys) := by unfold mulISp; rw [hv, hv2]; rfl
      rw [hv] at V1
      rw [hv2] at V2
      obtain ⟨x, hs, hxs, lx64⟩ := as_int2 lx hv
      obtain ⟨y, ht, hys, ly64⟩ := as_int2 ly hv2
      rw [hs, hxs, ht, hys, ival_mk, ival_mk, fitI_len] at E0
      clear hv hv2 lx ly
      subst hs hxs ht hys
      have SP := sgn_pair (s := isg x != isg y) (n := val (idg x) * val (idg y)) (z := x * y) (by
        have := ival_mul (isg x) (isg y) (idg x) (idg y)
        rwa [ival_mk, ival_mk] at this)
      have D : digs (val (idg x) * val (idg y)) = idg (x * y) := (congrArg Prod.snd SP).symm
      have SG : ((isg x != isg y) && decide (0 < (idg (x * y)).length)) = isg (x * y) := by rw [← D]; exact (congrArg Prod.fst SP).symm
      have hz : (idg (x * y)).length ≤ 128 := by rw [← D]; exact Nat.le_trans (mul_len (limbs_idg x) (limbs_idg y)) (by omega)
      have C := hide (fun W (h : Below w.heap.size w W) => rmul_any A B c d (idg x) (idg y) W (bl_keeps h _ _ hx) (bl_keeps h _ _ hy) (limbs_idg x) (limbs_idg y) (by omega) (by omega) _ rfl)
      rw [D] at C
      have RW : Hid (∀ A3 c3 W, Calls Tryz.prog 65 #[.bool (isg x != isg y), .slice A3 (idg (x * y)).length c3] W fun e w' => e = .returned (.agg #[.bool (isg (x * y)), .slice A3 (idg (x * y)).length c3]) ∧ Below W.heap.size W w') := fun A3 c3 W => by
        have := rwhole_any (isg x != isg y) A3 (idg (x * y)).length c3 W (by omega)
        rwa [SG] at this
      have nb := neq_bool (isg x) (isg y)
      clear SP D SG
      have LZ := hide (show (idg (x * y)).length ≤ 9223372036854775807 by omega)
      by_cases h64 : (idg (x * y)).length ≤ 64
      · rw [if_pos h64] at E0
        have E := hide E0
        have H64 := hide h64
        clear E0 h64 hz hx hy
        go_enter Tryz.func27, Tryz.ntmps27
        go_wp2_with (first
          | (go_at_call 38; (with_reducible refine (V1.out _ b0).mono ?_); rintro e w1 ⟨rfl, hb⟩; have X := hide (X.out.next hb); obtain ⟨x1, x2, x3, x4, x5, x6, _⟩ := X.out; have b1 := bl_trans b0 hb; clear hb)
          | (go_at_call 38; (with_reducible refine (V2.out _ b1).mono ?_); rintro e w2 ⟨rfl, hb⟩; have X := hide (X.out.next hb); obtain ⟨x1, x2, x3, x4, x5, x6, _⟩ := X.out; have b2 := bl_trans b1 hb; clear hb))
        go_region_held3 (fun W => W.cell? ⟨w.heap.size, 0, none⟩ = some (.bool (isg x)) ∧ W.cell? ⟨w.heap.size, 1, none⟩ = some (.slice A (idg x).length c) ∧ W.cell? ⟨w.heap.size + 1, 0, none⟩ = some (.bool (isg y)) ∧ W.cell? ⟨w.heap.size + 1, 1, none⟩ = some (.slice B (idg y).length d))
          (first | exact ⟨x1, x2, x3, x4⟩ | exact S_store12 (by assumption) n2.out n2.out n1.out n1.out | exact S_next12 hb4 (by assumption) | exact S_next12 hb3 (by assumption) | exact S_next12 hb (by assumption) | go_keep)
          (first
            | (go_at_call 66; (with_reducible refine (C.out _ (by first | exact b2.drew | exact b2)).mono ?_); rintro e w3 ⟨A3, c3, rfl, r3, hb⟩; have ya := hide ((X.out.drew).next hb); have s3 := r3.sl; have b3 := bl_trans (by first | exact b2.drew | exact b2) hb)
            | (go_at_call 65; (with_reducible refine (RW.out _ _ _).mono ?_); rintro e w5 ⟨rfl, hb3⟩; have yc := hide (ya.out.next hb3); have s3 := bl_keeps hb3 _ _ s3; have b3 := bl_trans b3 hb3)
            | (go_at_call 63; (with_reducible refine (rfitsI_yes _ _ _ _ _ H64.out).mono ?_); rintro e w4 ⟨rfl, hb4⟩; obtain ⟨y1, y2, y3, y4, y5, y6, y7, y8, _⟩ := yc.out.next hb4; have s4 := bl_keeps hb4 _ _ s3; have b4 := bl_trans b3 hb4))
        go_wp2
        refine bodyPost_ret (v := .tuple #[.agg #[.bool (isg (x * y)), .slice A3 (idg (x * y)).length c3], .int .i64 0]) (by simp [results, Tryz.results27, go_sem, y5, y6]) rfl (ITwo.mk E.out rfl (s4.store2 y5 y6 _ _) (Below.store2 b4 (by omega) _ _))
      · rw [if_neg h64] at E0
        have E := hide E0
        have H64 := hide h64
        clear E0 h64 hz hx hy
        go_enter Tryz.func27, Tryz.ntmps27
        go_wp2_with (first
          | (go_at_call 38; (with_reducible refine (V1.out _ b0).mono ?_); rintro e w1 ⟨rfl, hb⟩; have X := hide (X.out.next hb); obtain ⟨x1, x2, x3, x4, x5, x6, _⟩ := X.out; have b1 := bl_trans b0 hb; clear hb)
          | (go_at_call 38; (with_reducible refine (V2.out _ b1).mono ?_); rintro e w2 ⟨rfl, hb⟩; have X := hide (X.out.next hb); obtain ⟨x1, x2, x3, x4, x5, x6, _⟩ := X.out; have b2 := bl_trans b1 hb; clear hb))
        go_region_held3 (fun W => W.cell? ⟨w.heap.size, 0, none⟩ = some (.bool (isg x)) ∧ W.cell? ⟨w.heap.size, 1, none⟩ = some (.slice A (idg x).length c) ∧ W.cell? ⟨w.heap.size + 1, 0, none⟩ = some (.bool (isg y)) ∧ W.cell? ⟨w.heap.size + 1, 1, none⟩ = some (.slice B (idg y).length d))
          (first | exact ⟨x1, x2, x3, x4⟩ | exact S_store12 (by assumption) n2.out n2.out n1.out n1.out | exact S_next12 hb4 (by assumption) | exact S_next12 hb3 (by assumption) | exact S_next12 hb (by assumption) | go_keep)
          (first
            | (go_at_call 66; (with_reducible refine (C.out _ (by first | exact b2.drew | exact b2)).mono ?_); rintro e w3 ⟨A3, c3, rfl, r3, hb⟩; have ya := hide ((X.out.drew).next hb); have s3 := r3.sl; have b3 := bl_trans (by first | exact b2.drew | exact b2) hb)
            | (go_at_call 65; (with_reducible refine (RW.out _ _ _).mono ?_); rintro e w5 ⟨rfl, hb3⟩; have yc := hide (ya.out.next hb3); have s3 := bl_keeps hb3 _ _ s3; have b3 := bl_trans b3 hb3)
            | (go_at_call 63; (with_reducible refine (rfitsI_no _ _ _ _ _ H64.out LZ.out).mono ?_); rintro e w4 ⟨rfl, hb4⟩; obtain ⟨y1, y2, y3, y4, y5, y6, y7, y8, _⟩ := yc.out.next hb4; have b4 := bl_trans b3 hb4))
        go_wp2
        refine bodyPost_ret (v := .tuple #[.agg #[.bool false, .slice none 0 0], .int .i64 4]) (by simp [results, Tryz.results27, go_sem, y5, y6]) rfl (ITwo.mk E.out rfl .nil (Below.store2 b4 (by omega) _ _))

set_option maxRecDepth 100000 in
set_option maxHeartbeats 1000000 in
theorem rnegI_any (s : Bool) (A : Option Addr) (c : Nat) (xs : List Nat) (w : World) (hx : Sl w A xs) (lx : Limbs xs) (hl : xs.length ≤ 100000) :
    Calls Tryz.prog 36 #[.agg #[.bool s, .slice A xs.length c]] w (IOne w (negISp s xs)) := by
  have V1 := hide (fun W (h : Below w.heap.size w W) => rvalidI_any s A c xs W (bl_keeps h _ _ hx) (by omega))
  have b0 : Below w.heap.size w ((w.alloc (.cells #[.bool s, .slice A xs.length c] 41)).alloc (.cells #[.bool false, .slice none 0 0] 41)) := bl_al (bl_al (.refl _ _) _) _
  have X := hide (boxes4 s A xs.length c w)
  cases hv : validI s xs with
  | false =>
    have E := hide (show negISp s xs = (false, []) by unfold negISp; rw [hv]; rfl)
    rw [hv] at V1
    clear hv hx lx
    generalize xs.length = n at *
    go_enter Tryz.func36, Tryz.ntmps36
    go_wp2_with (go_at_call 38; (with_reducible refine (V1.out _ b0).mono ?_); rintro e w1 ⟨rfl, hb⟩; have X := hide (S_next4 hb X.out); obtain ⟨x1, x2, x3, x4, x5, x6⟩ := X.out; have b1 := bl_trans b0 hb; clear hb)
    refine bodyPost_ret (v := .agg #[.bool false, .slice none 0 0]) (by simp [results, Tryz.results36, go_sem, x3, x4]) rfl (IOne.mk E.out rfl .nil (Below.store2 b1 (by omega) _ _))
  | true =>
    have E := hide (negI_eq lx hv)
    have L := hide (show xs.length ≤ 9223372036854775807 by omega)
    have HX := hide hx
    rw [hv] at V1
    clear hv hx lx
    go_enter Tryz.func36, Tryz.ntmps36
    go_wp2_with (first
      | (go_at_call 38; (with_reducible refine (V1.out _ b0).mono ?_); rintro e w1 ⟨rfl, hb⟩; have X := hide (S_next4 hb X.out); obtain ⟨x1, x2, x3, x4, x5, x6⟩ := X.out; have b1 := bl_trans b0 hb; clear hb)
      | (go_at_call 65; (with_reducible refine (rwhole_any _ A _ c _ L.out).mono ?_); rintro e w4 ⟨rfl, hb⟩; have X := hide (S_next4 hb X.out); obtain ⟨x1, x2, x3, x4, x5, x6⟩ := X.out; have b4 := bl_trans b1 hb; clear hb))
    refine bodyPost_ret (v := .agg #[.bool (!s && decide (0 < xs.length)), .slice A xs.length c]) (by simp [results, Tryz.results36, go_sem, x3, x4]) rfl (IOne.mk E.out rfl ((bl_keeps b4 _ _ HX.out).store2 x3 x4 _ _) (Below.store2 b4 (by omega) _ _))
theorem ulss63_t (t : TypeId) {x : Nat} (h : x ≤ 9223372036854775807) : binOp .lss t (.int .u64 (x : Int)) (.int .u64 9223372036854775808) = pure (.bool true) := by
  show pure (Value.bool (decide ((x : Int) < 9223372036854775808))) = _
  rw [decide_eq_true (by omega)]
theorem ulss63_f (t : TypeId) {x : Nat} (h : 9223372036854775807 < x) : binOp .lss t (.int .u64 (x : Int)) (.int .u64 9223372036854775808) = pure (.bool false) := by
  show pure (Value.bool (decide ((x : Int) < 9223372036854775808))) = _
  rw [decide_eq_false (by omega)]
set_option maxRecDepth 100000 in
set_option maxHeartbeats 2000000 in
theorem rvalueI_any (s : Bool) (A : Option Addr) (c : Nat) (xs : List Nat) (w : World) (hx : Sl w A xs) (lx : Limbs xs) (hl : xs.length ≤ 1000000) :
    Calls Tryz.prog 29 #[.agg #[.bool s, .slice A xs.length c]] w fun e w' => e = .returned (.tuple #[.int .i64 (valSp s xs).1, .bool (valSp s xs).2]) ∧ Below w.heap.size w w' := by
  have V := hide (fun W (h : Below w.heap.size w W) => rvalidI_any s A c xs W (bl_keeps h _ _ hx) (by omega))
  have X := hide (cells2 w (.bool s) (.slice A xs.length c) 41)
  cases hv : validI s xs with
  | false =>
    have E := hide (valSp_no hv)
    rw [hv] at V
    clear hv hx lx
    generalize xs.length = n at *
    go_enter Tryz.func29, Tryz.ntmps29
    go_wp2_with (go_at_call 38; (with_reducible refine (V.out _ (bl_al (.refl _ _) _)).mono ?_); rintro e w1 ⟨rfl, hb⟩; have x1 := cell_next hb X.out.1; have x2 := cell_next hb X.out.2.1; have b1 := bl_one hb)
    go_ret2
    exact ⟨by rw [E.out]; rfl, b1⟩
  | true =>
    rw [hv] at V
    by_cases h1 : 1 < xs.length
    · have E := hide (valSp_far (ival_long hv h1))
      clear hv hx lx
      generalize xs.length = n at *
      go_enter Tryz.func29, Tryz.ntmps29
      go_wp2_with (go_at_call 38; (with_reducible refine (V.out _ (bl_al (.refl _ _) _)).mono ?_); rintro e w1 ⟨rfl, hb⟩; have x1 := cell_next hb X.out.1; have x2 := cell_next hb X.out.2.1; have b1 := bl_one hb)
      go_ret2
      exact ⟨by rw [E.out]; rfl, b1⟩
    · by_cases h0 : xs.length = 0
      · have hs : s = false := by
          cases s with
          | false => rfl
          | true => have := (validI_iff.1 hv).2 rfl; omega
        have hz : ival s xs = 0 := by rw [hs, List.eq_nil_of_length_eq_zero h0]; rfl
        have E := hide (show valSp s xs = (0, true) by rw [valSp_is hv (by omega) (by omega), hz])
        clear hv hx lx hs hz
        generalize xs.length = n at *
        subst h0
        go_enter Tryz.func29, Tryz.ntmps29
        go_wp2_with (go_at_call 38; (with_reducible refine (V.out _ (bl_al (.refl _ _) _)).mono ?_); rintro e w1 ⟨rfl, hb⟩; have x1 := cell_next hb X.out.1; have x2 := cell_next hb X.out.2.1; have b1 := bl_one hb)
        go_ret2
        exact ⟨by rw [E.out]; rfl, b1⟩
      · obtain ⟨b, o, rfl, ha⟩ := hx.at_ (by omega)
        have hxl : xs.length = 1 := by omega
        have hxs : xs = [lim xs 0] := by
          cases xs with
          | nil => simp at hxl
          | cons y t =>
            have : t = [] := List.eq_nil_of_length_eq_zero (by simpa using hxl)
            subst this; rfl
        have hva : val xs = lim xs 0 := by
          have := congrArg val hxs
          rwa [val_one] at this
        have hp := val_pos lx (validI_B hv) (by omega)
        have hL := lx.get 0
        have hc0 := ha.cell (j := 0) (by omega)
        rw [Nat.add_zero] at hc0
        have hc0 := hide hc0
        rw [hva] at hp
        have EI : ival s xs = if s then -((lim xs 0 : Nat) : Int) else ((lim xs 0 : Nat) : Int) := by unfold ival; rw [hva]
        have P1 := fun h => valSp_far (s := s) (xs := xs) h
        have P2 := fun h h' => valSp_is hv h h'
        rw [EI] at P1 P2
        rw [hxl] at V X ⊢
        rw [LB_eq] at hL
        clear hv hx lx ha hxl hxs hva EI h1 h0 hl
        generalize lim xs 0 = x at *
        generalize valSp s xs = r at *
        cases s with
        | false =>
          by_cases hb : x ≤ 9223372036854775807
          · have ol := ulss63_t 60 (x := x) (by omega)
            have E := hide (P2 (by simp <;> omega) (by simp <;> omega))
            clear P1 P2
            go_enter Tryz.func29, Tryz.ntmps29
            go_wp2_with (go_at_call 38; (with_reducible refine (V.out _ (bl_al (.refl _ _) _)).mono ?_); rintro e w1 ⟨rfl, hb⟩; have x1 := cell_next hb X.out.1; have x2 := cell_next hb X.out.2.1; have b1 := bl_one hb; have x5 := cell_next b1 hc0.out)
            go_ret2
            exact ⟨by rw [E.out]; rfl, b1⟩
          · have ol := ulss63_f 60 (x := x) (by omega)
            have E := hide (P1 (by simp <;> omega))
            clear P1 P2 hb
            go_enter Tryz.func29, Tryz.ntmps29
            go_wp2_with (go_at_call 38; (with_reducible refine (V.out _ (bl_al (.refl _ _) _)).mono ?_); rintro e w1 ⟨rfl, hb⟩; have x1 := cell_next hb X.out.1; have x2 := cell_next hb X.out.2.1; have b1 := bl_one hb; have x5 := cell_next b1 hc0.out)
            go_ret2
            exact ⟨by rw [E.out]; rfl, b1⟩
        | true =>
          by_cases hb : x ≤ 9223372036854775808
          · have E := hide (P2 (by simp <;> omega) (by simp <;> omega))
            have CP := hide (conv_neg hp hb)
            clear P1 P2
            go_enter Tryz.func29, Tryz.ntmps29
            go_wp2_with (go_at_call 38; (with_reducible refine (V.out _ (bl_al (.refl _ _) _)).mono ?_); rintro e w1 ⟨rfl, hb⟩; have x1 := cell_next hb X.out.1; have x2 := cell_next hb X.out.2.1; have b1 := bl_one hb; have x5 := cell_next b1 hc0.out)
            go_ret2
            refine ⟨?_, b1⟩
            rw [E.out]
            show Ending.returned (.tuple #[.int .i64 (wrap64 (IntKind.u64.wrap (-(x : Int)))), .bool true]) = _
            rw [CP.out]; rfl
          · have hb' : 9223372036854775808 < x := by omega
            have E := hide (P1 (by simp <;> omega))
            clear P1 P2 hb
            go_enter Tryz.func29, Tryz.ntmps29
            go_wp2_with (go_at_call 38; (with_reducible refine (V.out _ (bl_al (.refl _ _) _)).mono ?_); rintro e w1 ⟨rfl, hb⟩; have x1 := cell_next hb X.out.1; have x2 := cell_next hb X.out.2.1; have b1 := bl_one hb; have x5 := cell_next b1 hc0.out)
            go_ret2
            exact ⟨by rw [E.out]; rfl, b1⟩
end Nt

end Go.Proofs.YtgmjdaallinicaaGreatDoor
