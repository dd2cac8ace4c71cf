
/-
  The law NatDivides.
-/
import Derived.Test.YtgmjdaallinicaaGreatDoorRefSn

import Derived.Test.YtgmjdaallinicaaGreatDoorRefDv

import Derived.Test.YtgmjdaallinicaaGreatDoorOf1

import Derived.Test.YtgmjdaallinicaaGreatDoorRow

namespace Go.Proofs.YtgmjdaallinicaaGreatDoor

open Go.RowKit

namespace Nt

theorem R2.get {w : World} {r : List Nat × Nat} {e : Ending} {w' : World} (h : R2 w r e w') : ∃ A c, e = .returned (.tuple #[.slice A r.1.length c, .int .i64 (r.2 : Int)]) ∧ Sl w' A r.1 ∧ Below w.heap.size w w' := h
theorem R3.get {w : World} {r : List Nat × List Nat × Nat} {e : Ending} {w' : World} (h : R3 w r e w') : ∃ A c B d, e = .returned (.tuple #[.slice A r.1.length c, .slice B r.2.1.length d, .int .i64 (r.2.2 : Int)]) ∧ Sl w' A r.1 ∧ Sl w' B r.2.1 ∧ Below w.heap.size w w' := h

theorem val_top {xs : List Nat} (lx : Limbs xs) (v : validB xs = true) : val xs < LB ^ 64 := Nat.lt_of_lt_of_le (val_lt lx) (Nat.pow_le_pow_right LB_pos (validB_iff.1 v).1)
theorem digs_top {x y : Nat} (h : x ≤ y) (hy : y < LB ^ 64) : (digs x).length ≤ 64 := length_digs_le.2 (Nat.lt_of_le_of_lt h hy)
theorem divSp_len {xs ys : List Nat} (lx : Limbs xs) : (divSp xs ys).1.length ≤ 64 ∧ (divSp xs ys).2.1.length ≤ 64 := by
  rcases vB (xs := xs) with vx | vx
  · rcases vB (xs := ys) with vy | vy
    · by_cases h : 0 < ys.length
      · rw [divSp_ok vx vy h]
        exact ⟨digs_top (Nat.div_le_self _ _) (val_top lx vx), digs_top (Nat.mod_le _ _) (val_top lx vx)⟩
      · rw [divSp_no (.inr (.inr (List.eq_nil_of_length_eq_zero (by omega))))]
        exact ⟨Nat.zero_le _, Nat.zero_le _⟩
    · rw [divSp_no (.inr (.inl vy))]
      exact ⟨Nat.zero_le _, Nat.zero_le _⟩
  · rw [divSp_no (.inl vx)]
    exact ⟨Nat.zero_le _, Nat.zero_le _⟩
theorem gcdSp_len {xs ys : List Nat} (lx : Limbs xs) (ly : Limbs ys) : (gcdSp xs ys).1.length ≤ 64 := by
  rcases vB (xs := xs) with vx | vx
  · rcases vB (xs := ys) with vy | vy
    · rw [gcdSp_ok vx vy]
      rcases Nat.eq_zero_or_pos (val ys) with h | h
      · rw [h, Nat.gcd_zero_right]; exact digs_top (Nat.le_refl _) (val_top lx vx)
      · exact digs_top (Nat.gcd_le_right _ h) (val_top ly vy)
    · rw [gcdSp_no (.inr vy)]; exact Nat.zero_le _
  · rw [gcdSp_no (.inl vx)]; exact Nat.zero_le _
theorem upSp_len (xs : List Nat) (n : Nat) : (upSp xs n).1.length ≤ 64 := by
  rcases vB (xs := xs) with vx | vx
  · by_cases h : (digs (val xs * 2 ^ n)).length ≤ 64
    · rw [upSp_le vx h]; exact h
    · rw [upSp_gt vx h]; exact Nat.zero_le _
  · rw [upSp_no n vx]; exact Nat.zero_le _
theorem downSp_len {xs : List Nat} (lx : Limbs xs) (n : Nat) : (downSp xs n).1.length ≤ 64 := by
  rcases vB (xs := xs) with vx | vx
  · rw [downSp_ok vx]; exact digs_top (Nat.div_le_self _ _) (val_top lx vx)
  · rw [downSp_no n vx]; exact Nat.zero_le _

theorem shift_both (A : Option Addr) (c : Nat) (xs : List Nat) (n : Int) (lx : Limbs xs) (hl : xs.length ≤ 1000000) (hlc : xs.length ≤ c) (h1 : -9223372036854775808 ≤ n) (h2 : n ≤ 9223372036854775807) :
    ∃ sp : List Nat × Nat, sp.1.length ≤ 64 ∧ (∀ w, Sl w A xs → Calls Tryz.prog 12 #[.slice A xs.length c, .int .i64 n] w (Two w sp)) ∧
      ∀ w, Sl w A xs → Calls Tryz.prog 13 #[.slice A xs.length c, .int .i64 n] w (R2 w sp) := by
  by_cases h : 0 ≤ n
  · obtain ⟨k, rfl⟩ : ∃ k : Nat, n = (k : Int) := ⟨n.toNat, by omega⟩
    exact ⟨upSp xs k, upSp_len xs k, fun w hx => shift_up A c k xs w hx lx hl (by omega), fun w hx => rshiftNat_up A c k xs w hx lx hl (by omega)⟩
  · obtain ⟨k, hk⟩ : ∃ k : Nat, n = -(k : Int) := ⟨(-n).toNat, by omega⟩
    exact ⟨downSp xs k, downSp_len lx k, fun w hx => shift_down A c k xs n w hx lx hl (by omega) hk h1, fun w hx => rshiftNat_down A c k xs n w hx lx hl hlc (by omega) hk h1⟩
theorem of_both (n : Int) (h2 : n ≤ 9223372036854775807) :
    ∃ os : List Nat, os.length ≤ 1 ∧ (∀ w, Calls Tryz.prog 18 #[.int .i64 n] w (Mk w os)) ∧ ∀ w, Calls Tryz.prog 19 #[.int .i64 n] w (Mk w os) := by
  by_cases h : 0 < n
  · obtain ⟨k, rfl⟩ : ∃ k : Nat, n = (k : Int) := ⟨n.toNat, by omega⟩
    exact ⟨[k], Nat.le_refl _, fun w => of_any k (by omega) (by omega) w, fun w => rof_any k (by omega) (by omega) w⟩
  · exact ⟨[], Nat.zero_le _, fun w => of_no n (by omega) w, fun w => rof_no n (by omega) w⟩

section

open Go.ChangeShapes Go.WideShapes Go.ChangeAt Go.RowKit
/-- What is read as a row of words is no longer than it holds. -/
theorem arg_cap {H : Type} {enc : TypeId × Value → H} {W : World} {A : Option Addr} {n c : Nat} {d : DataW H} {p : List MemPlace} (h : DataW.Trod enc Tryz.prog W 0 (fun _ => true) true 22 (.slice A n c) d p) : n ≤ c := by
  obtain ⟨fuel, hf⟩ := h
  rcases open_ints Tryz.underlying22 Tryz.underlying60 cellsW hf with ⟨hcs, _⟩ | ⟨a, len, cap, zs, hcs, _, hl, _, _, _, _, _⟩
  · simp [Value.cells] at hcs
    omega
  · simp [Value.cells] at hcs
    omega
end
theorem int_b {n : Int} (h : (Lit.int .i64 n).wf = true) : -9223372036854775808 ≤ n ∧ n ≤ 9223372036854775807 := by
  have hb : IntKind.i64.min = -9223372036854775808 ∧ IntKind.i64.max = 9223372036854775807 := ⟨rfl, rfl⟩
  simp only [Lit.wf, hb.1, hb.2, Bool.and_eq_true, decide_eq_true_eq] at h
  exact h

set_option maxRecDepth 100000 in
set_option maxHeartbeats 4000000 in
theorem divides_law (A B : Option Addr) (c d : Nat) (xs ys : List Nat) (n : Int) (w : World) (hx : Sl w A xs) (hy : Sl w B ys) (lx : Limbs xs) (ly : Limbs ys) (hlx : xs.length ≤ 9223372036854775807) (hly : ys.length ≤ 9223372036854775807) (hlc : xs.length ≤ c) (hn : -9223372036854775808 ≤ n ∧ n ≤ 9223372036854775807) (ht : Pow10 w) :
    Calls Tryz.prog 3 #[.slice A xs.length c, .slice B ys.length d, .int .i64 n] w fun e w' => e = .returned (.bool true) ∧ Below w.heap.size w w' := by
  have W0 := hide (awake_any w ht)
  by_cases n0 : xs.length ≤ 12
  · by_cases n1 : ys.length ≤ 12
    · obtain ⟨sp, hs1, hs2, hs3⟩ := shift_both A c xs n lx (by omega) hlc hn.1 hn.2
      obtain ⟨os, ho1, ho2, ho3⟩ := of_both n hn.2
      have L1 := hide (divSp_len (ys := ys) lx).1
      have L2 := hide (divSp_len (ys := ys) lx).2
      have L3 := hide (gcdSp_len lx ly)
      have L4 := hide hs1
      have L5 := hide ho1
      have C1 := hide (fun W (h : Below w.heap.size w W) => divmod_all A B c d xs ys W (bl_keeps h _ _ hx) (bl_keeps h _ _ hy) lx ly (by omega) (by omega))
      have C2 := hide (fun W (h : Below w.heap.size w W) => rdivNat_any A B c d xs ys W (bl_keeps h _ _ hx) (bl_keeps h _ _ hy) lx ly (by omega) (by omega))
      have C3 := hide (fun W (h : Below w.heap.size w W) => gcd_any A B c d xs ys W (bl_keeps h _ _ hx) (bl_keeps h _ _ hy) lx ly (by omega) (by omega))
      have C4 := hide (fun W (h : Below w.heap.size w W) => rgcdNat_any A B c d xs ys W (bl_keeps h _ _ hx) (bl_keeps h _ _ hy) lx ly (by omega) (by omega))
      have C5 := hide (fun W (h : Below w.heap.size w W) => hs2 W (bl_keeps h _ _ hx))
      have C6 := hide (fun W (h : Below w.heap.size w W) => hs3 W (bl_keeps h _ _ hx))
      have O1 := hide ho2
      have O2 := hide ho3
      have V1 := hide (fun W (h : Below w.heap.size w W) => valid_any A c xs W (bl_keeps h _ _ hx) (by omega))
      clear hs1 hs2 hs3 ho1 ho2 ho3
      rcases vB (xs := xs) with v | v
      · have Q1 := hide (fun W (h : Below w.heap.size w W) => bits_any A c xs W (bl_keeps h _ _ hx) lx (by omega))
        have eq := rbits_val lx (validB_iff.1 v).2
        rw [← bits_val lx v] at eq
        have Q2 := hide (fun W (h : Below w.heap.size w W) => rbits_any A xs.length c xs W rfl (bl_keeps h _ _ hx) lx (by omega))
        rw [eq] at Q2
        clear eq
        rw [v] at V1
        clear hx hy lx ly v hlc hn
        generalize divSp xs ys = r1 at *
        generalize gcdSp xs ys = r2 at *
        generalize bitsSp xs = z at *
        have b : Below w.heap.size w w := .refl _ _
        go_enter Tryz.func3, Tryz.ntmps3
        go_wp2_with (first
          | (go_at_call 8; (with_reducible refine (C1.out w b).mono ?_); rintro e w1 h; obtain ⟨A1, c1, B1, d1, rfl, s1, t1, b0⟩ := h.get; have b := bl_trans b b0; clear h b0)
          | (go_at_call 9; (with_reducible refine (C2.out w1 b).mono ?_); rintro e w2 h; obtain ⟨A2, c2, B2, d2, rfl, s2, t2, b0⟩ := h.get; have b := bl_trans b b0; have s1 := bl_keeps b0 _ _ s1; have t1 := bl_keeps b0 _ _ t1; clear h b0)
          | (go_at_call 10; (with_reducible refine (C3.out w2 b).mono ?_); rintro e w3 h; obtain ⟨A3, c3, rfl, s3, b0⟩ := h.get; have b := bl_trans b b0; have s1 := bl_keeps b0 _ _ s1; have t1 := bl_keeps b0 _ _ t1; have s2 := bl_keeps b0 _ _ s2; have t2 := bl_keeps b0 _ _ t2; clear h b0)
          | (go_at_call 11; (with_reducible refine (C4.out w3 b).mono ?_); rintro e w4 h; obtain ⟨A4, c4, rfl, s4, b0⟩ := h.get; have b := bl_trans b b0; have s1 := bl_keeps b0 _ _ s1; have t1 := bl_keeps b0 _ _ t1; have s2 := bl_keeps b0 _ _ s2; have t2 := bl_keeps b0 _ _ t2; have s3 := bl_keeps b0 _ _ s3; clear h b0)
          | (go_at_call 12; (with_reducible refine (C5.out w4 b).mono ?_); rintro e w5 h; obtain ⟨A5, c5, rfl, s5, b0⟩ := h.get; have b := bl_trans b b0; have s1 := bl_keeps b0 _ _ s1; have t1 := bl_keeps b0 _ _ t1; have s2 := bl_keeps b0 _ _ s2; have t2 := bl_keeps b0 _ _ t2; have s3 := bl_keeps b0 _ _ s3; have s4 := bl_keeps b0 _ _ s4; clear h b0)
          | (go_at_call 13; (with_reducible refine (C6.out w5 b).mono ?_); rintro e w6 h; obtain ⟨A6, c6, rfl, s6, b0⟩ := h.get; have b := bl_trans b b0; have s1 := bl_keeps b0 _ _ s1; have t1 := bl_keeps b0 _ _ t1; have s2 := bl_keeps b0 _ _ s2; have t2 := bl_keeps b0 _ _ t2; have s3 := bl_keeps b0 _ _ s3; have s4 := bl_keeps b0 _ _ s4; have s5 := bl_keeps b0 _ _ s5; clear h b0)
          | (go_at_call 14; (with_reducible refine (law_same_t A1 A2 _ _ _ _ r1.1 r1.1 w6 rfl rfl s1 s2 (by have := L1.out; omega) (by have := L1.out; omega) rfl).mono ?_); rintro e w7 ⟨rfl, q0, h0⟩; have b0 := bl_q0 h0; have b := bl_trans b b0; have t1 := bl_keeps b0 _ _ t1; have t2 := bl_keeps b0 _ _ t2; have s3 := bl_keeps b0 _ _ s3; have s4 := bl_keeps b0 _ _ s4; have s5 := bl_keeps b0 _ _ s5; have s6 := bl_keeps b0 _ _ s6; clear h0 b0)
          | (go_at_call 14; (with_reducible refine (law_same_t B1 B2 _ _ _ _ r1.2.1 r1.2.1 w7 rfl rfl t1 t2 (by have := L2.out; omega) (by have := L2.out; omega) rfl).mono ?_); rintro e w8 ⟨rfl, q0, h0⟩; have b0 := bl_q0 h0; have b := bl_trans b b0; have s3 := bl_keeps b0 _ _ s3; have s4 := bl_keeps b0 _ _ s4; have s5 := bl_keeps b0 _ _ s5; have s6 := bl_keeps b0 _ _ s6; clear h0 b0)
          | (go_at_call 14; (with_reducible refine (law_same_t A3 A4 _ _ _ _ r2.1 r2.1 w8 rfl rfl s3 s4 (by have := L3.out; omega) (by have := L3.out; omega) rfl).mono ?_); rintro e w9 ⟨rfl, q0, h0⟩; have b0 := bl_q0 h0; have b := bl_trans b b0; have s5 := bl_keeps b0 _ _ s5; have s6 := bl_keeps b0 _ _ s6; clear h0 b0)
          | (go_at_call 14; (with_reducible refine (law_same_t A5 A6 _ _ _ _ sp.1 sp.1 w9 rfl rfl s5 s6 (by have := L4.out; omega) (by have := L4.out; omega) rfl).mono ?_); rintro e w10 ⟨rfl, q0, h0⟩; have b0 := bl_q0 h0; have b := bl_trans b b0; clear h0 b0)
          | (go_at_call 15; (with_reducible refine (V1.out w10 b).mono ?_); rintro e w' ⟨rfl, rfl⟩)
          | (go_at_call 16; (with_reducible refine (Q1.out w10 b).mono ?_); rintro e w' ⟨rfl, rfl⟩)
          | (go_at_call 17; (with_reducible refine (Q2.out w10 b).mono ?_); rintro e w' ⟨rfl, rfl⟩)
          | (go_at_call 18; (with_reducible refine (O1.out w10).mono ?_); rintro e w14 ⟨A7, c7, rfl, r0, b0⟩; have s7 := r0.sl; have b := bl_trans b b0; clear r0 b0)
          | (go_at_call 19; (with_reducible refine (O2.out w14).mono ?_); rintro e w15 ⟨A8, c8, rfl, r0, b0⟩; have s8 := r0.sl; have b := bl_trans b b0; have s7 := bl_keeps b0 _ _ s7; clear r0 b0)
          | (go_at_call 14; (with_reducible refine (law_same_t A7 A8 _ _ _ _ os os w15 rfl rfl s7 s8 (by have := L5.out; omega) (by have := L5.out; omega) rfl).mono ?_); rintro e w16 ⟨rfl, q0, h0⟩; have b0 := bl_q0 h0; have b := bl_trans b b0; clear h0 b0)
          | (go_at_call 7; (with_reducible refine (awake_any w16 (pow_below ht b)).mono ?_); rintro e w17 ⟨rfl, b0⟩; have b := bl_trans b b0; clear b0))
        go_ret
        exact ⟨rfl, b⟩
      · rw [v] at V1
        clear hx hy lx ly v hlc hn
        generalize divSp xs ys = r1 at *
        generalize gcdSp xs ys = r2 at *
        have b : Below w.heap.size w w := .refl _ _
        go_enter Tryz.func3, Tryz.ntmps3
        go_wp2_with (first
          | (go_at_call 8; (with_reducible refine (C1.out w b).mono ?_); rintro e w1 h; obtain ⟨A1, c1, B1, d1, rfl, s1, t1, b0⟩ := h.get; have b := bl_trans b b0; clear h b0)
          | (go_at_call 9; (with_reducible refine (C2.out w1 b).mono ?_); rintro e w2 h; obtain ⟨A2, c2, B2, d2, rfl, s2, t2, b0⟩ := h.get; have b := bl_trans b b0; have s1 := bl_keeps b0 _ _ s1; have t1 := bl_keeps b0 _ _ t1; clear h b0)
          | (go_at_call 10; (with_reducible refine (C3.out w2 b).mono ?_); rintro e w3 h; obtain ⟨A3, c3, rfl, s3, b0⟩ := h.get; have b := bl_trans b b0; have s1 := bl_keeps b0 _ _ s1; have t1 := bl_keeps b0 _ _ t1; have s2 := bl_keeps b0 _ _ s2; have t2 := bl_keeps b0 _ _ t2; clear h b0)
          | (go_at_call 11; (with_reducible refine (C4.out w3 b).mono ?_); rintro e w4 h; obtain ⟨A4, c4, rfl, s4, b0⟩ := h.get; have b := bl_trans b b0; have s1 := bl_keeps b0 _ _ s1; have t1 := bl_keeps b0 _ _ t1; have s2 := bl_keeps b0 _ _ s2; have t2 := bl_keeps b0 _ _ t2; have s3 := bl_keeps b0 _ _ s3; clear h b0)
          | (go_at_call 12; (with_reducible refine (C5.out w4 b).mono ?_); rintro e w5 h; obtain ⟨A5, c5, rfl, s5, b0⟩ := h.get; have b := bl_trans b b0; have s1 := bl_keeps b0 _ _ s1; have t1 := bl_keeps b0 _ _ t1; have s2 := bl_keeps b0 _ _ s2; have t2 := bl_keeps b0 _ _ t2; have s3 := bl_keeps b0 _ _ s3; have s4 := bl_keeps b0 _ _ s4; clear h b0)
          | (go_at_call 13; (with_reducible refine (C6.out w5 b).mono ?_); rintro e w6 h; obtain ⟨A6, c6, rfl, s6, b0⟩ := h.get; have b := bl_trans b b0; have s1 := bl_keeps b0 _ _ s1; have t1 := bl_keeps b0 _ _ t1; have s2 := bl_keeps b0 _ _ s2; have t2 := bl_keeps b0 _ _ t2; have s3 := bl_keeps b0 _ _ s3; have s4 := bl_keeps b0 _ _ s4; have s5 := bl_keeps b0 _ _ s5; clear h b0)
          | (go_at_call 14; (with_reducible refine (law_same_t A1 A2 _ _ _ _ r1.1 r1.1 w6 rfl rfl s1 s2 (by have := L1.out; omega) (by have := L1.out; omega) rfl).mono ?_); rintro e w7 ⟨rfl, q0, h0⟩; have b0 := bl_q0 h0; have b := bl_trans b b0; have t1 := bl_keeps b0 _ _ t1; have t2 := bl_keeps b0 _ _ t2; have s3 := bl_keeps b0 _ _ s3; have s4 := bl_keeps b0 _ _ s4; have s5 := bl_keeps b0 _ _ s5; have s6 := bl_keeps b0 _ _ s6; clear h0 b0)
          | (go_at_call 14; (with_reducible refine (law_same_t B1 B2 _ _ _ _ r1.2.1 r1.2.1 w7 rfl rfl t1 t2 (by have := L2.out; omega) (by have := L2.out; omega) rfl).mono ?_); rintro e w8 ⟨rfl, q0, h0⟩; have b0 := bl_q0 h0; have b := bl_trans b b0; have s3 := bl_keeps b0 _ _ s3; have s4 := bl_keeps b0 _ _ s4; have s5 := bl_keeps b0 _ _ s5; have s6 := bl_keeps b0 _ _ s6; clear h0 b0)
          | (go_at_call 14; (with_reducible refine (law_same_t A3 A4 _ _ _ _ r2.1 r2.1 w8 rfl rfl s3 s4 (by have := L3.out; omega) (by have := L3.out; omega) rfl).mono ?_); rintro e w9 ⟨rfl, q0, h0⟩; have b0 := bl_q0 h0; have b := bl_trans b b0; have s5 := bl_keeps b0 _ _ s5; have s6 := bl_keeps b0 _ _ s6; clear h0 b0)
          | (go_at_call 14; (with_reducible refine (law_same_t A5 A6 _ _ _ _ sp.1 sp.1 w9 rfl rfl s5 s6 (by have := L4.out; omega) (by have := L4.out; omega) rfl).mono ?_); rintro e w10 ⟨rfl, q0, h0⟩; have b0 := bl_q0 h0; have b := bl_trans b b0; clear h0 b0)
          | (go_at_call 15; (with_reducible refine (V1.out w10 b).mono ?_); rintro e w' ⟨rfl, rfl⟩)
          | (go_at_call 16; (with_reducible refine (Q1.out w10 b).mono ?_); rintro e w' ⟨rfl, rfl⟩)
          | (go_at_call 17; (with_reducible refine (Q2.out w10 b).mono ?_); rintro e w' ⟨rfl, rfl⟩)
          | (go_at_call 18; (with_reducible refine (O1.out w10).mono ?_); rintro e w14 ⟨A7, c7, rfl, r0, b0⟩; have s7 := r0.sl; have b := bl_trans b b0; clear r0 b0)
          | (go_at_call 19; (with_reducible refine (O2.out w14).mono ?_); rintro e w15 ⟨A8, c8, rfl, r0, b0⟩; have s8 := r0.sl; have b := bl_trans b b0; have s7 := bl_keeps b0 _ _ s7; clear r0 b0)
          | (go_at_call 14; (with_reducible refine (law_same_t A7 A8 _ _ _ _ os os w15 rfl rfl s7 s8 (by have := L5.out; omega) (by have := L5.out; omega) rfl).mono ?_); rintro e w16 ⟨rfl, q0, h0⟩; have b0 := bl_q0 h0; have b := bl_trans b b0; clear h0 b0)
          | (go_at_call 7; (with_reducible refine (awake_any w16 (pow_below ht b)).mono ?_); rintro e w17 ⟨rfl, b0⟩; have b := bl_trans b b0; clear b0))
        go_ret
        exact ⟨rfl, b⟩
    · clear hx hy lx ly hlc hn
      go_enter Tryz.func3, Tryz.ntmps3
      go_wp2_with (go_at_call 7; (with_reducible refine (W0.out).mono ?_); rintro e w13 ⟨rfl, b⟩)
      go_ret
      exact ⟨rfl, b⟩
  · clear hx hy lx ly hlc hn
    go_enter Tryz.func3, Tryz.ntmps3
    go_wp2_with (go_at_call 7; (with_reducible refine (W0.out).mono ?_); rintro e w13 ⟨rfl, b⟩)
    go_ret
    exact ⟨rfl, b⟩
end Nt

end Go.Proofs.YtgmjdaallinicaaGreatDoor
