
/-
  The law NatTexts.
-/
import Derived.Test.YthdjjcooekkncaaDoorRefTextN

import Derived.Test.YthdjjcooekkncaaDoorNum

import Derived.Test.YthdjjcooekkncaaDoorWholeZ

namespace Go.Proofs.YthdjjcooekkncaaDoor

open Go.RowKit

namespace Nt

theorem digit_char {r : Nat} (h : r < 10) : isD (UInt8.ofNat (48 + r)) = true ∧ digD (UInt8.ofNat (48 + r)) = r := by
  have e : (UInt8.ofNat (48 + r)).toNat = 48 + r := by
    rw [UInt8.toNat_ofNat']
    exact Nat.mod_eq_of_lt (by omega)
  unfold isD digD
  rw [e]
  exact ⟨decide_eq_true (by omega), by omega⟩
theorem dec_val (n : Nat) : decV (Lib.decDigits n) = n ∧ (Lib.decDigits n).all isD = true ∧ Lib.decDigits n ≠ [] := by
  induction n using Nat.strongRecOn with
  | ind n ih =>
    by_cases h : n < 10
    · obtain ⟨h1, h2⟩ := digit_char h
      rw [dec_small h]
      refine ⟨?_, by rw [List.all_cons, h1]; rfl, by simp⟩
      have := decV_snoc [] (UInt8.ofNat (48 + n))
      rw [List.nil_append] at this
      rw [this, h2]
      simp [decV, decF]
    · obtain ⟨i1, i2, i3⟩ := ih (n / 10) (by omega)
      obtain ⟨h1, h2⟩ := digit_char (r := n % 10) (by omega)
      rw [dec_big h]
      refine ⟨?_, by rw [List.all_append, i2, List.all_cons, h1]; rfl, by simp⟩
      rw [decV_snoc, i1, h2]
      omega
theorem parse_back {xs : List Nat} (l : Limbs xs) (v : validB xs = true) : parseSp ((⟨#[48, 48]⟩ : ByteArray) ++ ⟨(textSp xs).toArray⟩).data.toList = (xs, 0) := by
  have ht : textSp xs = Lib.decDigits (val xs) := by unfold textSp; rw [v]; rfl
  have e : ((⟨#[48, 48]⟩ : ByteArray) ++ ⟨(textSp xs).toArray⟩).data.toList = [48, 48] ++ Lib.decDigits (val xs) := by rw [ht]; simp
  obtain ⟨d1, d2, d3⟩ := dec_val (val xs)
  rw [e]
  have hb : digitsB ([48, 48] ++ Lib.decDigits (val xs)) = true := by
    unfold digitsB
    rw [List.all_append, d2]
    simp
    decide
  have hv : decV ([48, 48] ++ Lib.decDigits (val xs)) = val xs := by
    rw [decV_append, d1]
    have : decV [48, 48] = 0 := by decide
    rw [this]; omega
  unfold parseSp
  rw [hb, if_pos rfl, hv, if_pos (Nat.lt_of_lt_of_le (val_lt l) (Nat.pow_le_pow_right LB_pos (validB_iff.1 v).1)), digs_val_norm l (validB_iff.1 v).2]
theorem parseSp_len (l : List UInt8) : (parseSp l).1.length ≤ 64 := by
  unfold parseSp
  split
  · split
    · rename_i h; exact digs_64 h
    · simp
  · simp
theorem text_len {xs : List Nat} (l : Limbs xs) : (⟨(textSp xs).toArray⟩ : ByteArray).size ≤ 10000 := by
  show (textSp xs).toArray.size ≤ 10000
  rw [List.size_toArray]
  unfold textSp
  split
  · rename_i v
    exact dec_len (Nat.lt_of_lt_of_le (val_lt l) (Nat.pow_le_pow_right LB_pos (validB_iff.1 v).1))
  · simp

set_option maxRecDepth 100000 in
set_option maxHeartbeats 4000000 in
theorem texts_law (s : ByteArray) (A : Option Addr) (c : Nat) (xs : List Nat) (w : World) (sx : Sl w A xs) (lx : Limbs xs) (hs : s.size ≤ 9223372036854775807) (hx : xs.length ≤ 9223372036854775807) (ht : Pow10 w) :
    Calls Tryd.prog 4 #[.string s, .slice A xs.length c] w fun e w' => e = .returned (.bool true) ∧ Below w.heap.size w w' := by
  have W0 := hide (awake_any w ht)
  by_cases n0 : s.size ≤ 200
  · by_cases n1 : xs.length ≤ 12
    · have P1 := hide (fun W => parse_any s W (by omega))
      have P2 := hide (fun W => rparse_any s W (by omega))
      have PL := hide (parseSp_len s.data.toList)
      have T1 := hide (fun W (b : Below w.heap.size w W) => text_any A c xs W (bl_keeps b _ _ sx) lx (by omega) (pow_below ht b))
      have T2 := hide (fun W (b : Below w.heap.size w W) => rtext_any A c xs W (bl_keeps b _ _ sx) lx (by omega))
      have V := hide (fun W (b : Below w.heap.size w W) => valid_any A c xs W (bl_keeps b _ _ sx) (by omega))
      have SX := hide sx
      have b : Below w.heap.size w w := .refl _ _
      generalize parseSp s.data.toList = r at *
      rcases vB (xs := xs) with vx | vx
      · have hz := text_len lx
        have P3 := hide (fun W => parse_any ((⟨#[48, 48]⟩ : ByteArray) ++ ⟨(textSp xs).toArray⟩) W (by rw [ByteArray.size_append]; have : (⟨#[48, 48]⟩ : ByteArray).size = 2 := rfl; omega))
        rw [parse_back lx vx] at P3
        rw [vx] at V
        clear sx lx vx
        generalize (⟨(textSp xs).toArray⟩ : ByteArray) = S at *
        have hz' : (⟨#[48, 48]⟩ : ByteArray).size + S.size ≤ 9223372036854775807 := by show 2 + S.size ≤ _; omega
        have HX := hide n1
        go_enter Tryd.func4, Tryd.ntmps4
        go_wp2_with (first
          | (go_at_call 24; (with_reducible refine (P1.out w).mono ?_); rintro e w1 h; obtain ⟨A1, c1, rfl, s1, b0⟩ := h.get; have b := bl_trans b b0; clear h b0)
          | (go_at_call 25; (with_reducible refine (P2.out w1).mono ?_); rintro e w2 h; obtain ⟨A2, c2, rfl, s2, b0⟩ := h.get; have b := bl_trans b b0; have s1 := bl_keeps b0 _ _ s1; clear h b0)
          | (go_at_call 26; (with_reducible refine (T1.out w2 b).mono ?_); rintro e w3 ⟨rfl, b0⟩; have b := bl_trans b b0; have s1 := bl_keeps b0 _ _ s1; have s2 := bl_keeps b0 _ _ s2; clear b0)
          | (go_at_call 19; (with_reducible refine (law_same_t A1 A2 _ _ _ _ r.1 r.1 w3 rfl rfl s1 s2 (Nat.le_trans PL.out (by decide)) (Nat.le_trans PL.out (by decide)) rfl).mono ?_); rintro e w4 ⟨rfl, q0, h0⟩; have b0 := bl_q0 h0; have b := bl_trans b b0; clear h0 b0)
          | (go_at_call 27; (with_reducible refine (T2.out w4 b).mono ?_); rintro e w5 ⟨rfl, b0⟩; have b := bl_trans b b0; clear b0)
          | (go_at_call 22; (with_reducible refine (V.out w5 b).mono ?_); rintro e w' ⟨rfl, rfl⟩)
          | (go_at_call 24; (with_reducible refine (P3.out w5).mono ?_); rintro e w7 h; obtain ⟨A3, c3, rfl, s3, b0⟩ := h.get; have b := bl_trans b b0; clear h b0)
          | (go_at_call 19; (with_reducible refine (law_same_t A3 A _ _ _ _ xs xs w7 rfl rfl s3 (kp b SX.out) (Nat.le_trans HX.out (by decide)) (Nat.le_trans HX.out (by decide)) rfl).mono ?_); rintro e w8 ⟨rfl, q0, h0⟩; have b0 := bl_q0 h0; have b := bl_trans b b0; clear h0 b0)
          | (go_at_call 12; (with_reducible refine (awake_any w8 (pow_below ht b)).mono ?_); rintro e w9 ⟨rfl, b0⟩; have b := bl_trans b b0; clear b0))
        go_ret
        exact ⟨rfl, b⟩
      · have E : textSp xs = [] := by unfold textSp; rw [vx]; rfl
        rw [E] at T1 T2
        rw [vx] at V
        clear sx lx vx E
        go_enter Tryd.func4, Tryd.ntmps4
        go_wp2_with (first
          | (go_at_call 24; (with_reducible refine (P1.out w).mono ?_); rintro e w1 h; obtain ⟨A1, c1, rfl, s1, b0⟩ := h.get; have b := bl_trans b b0; clear h b0)
          | (go_at_call 25; (with_reducible refine (P2.out w1).mono ?_); rintro e w2 h; obtain ⟨A2, c2, rfl, s2, b0⟩ := h.get; have b := bl_trans b b0; have s1 := bl_keeps b0 _ _ s1; clear h b0)
          | (go_at_call 26; (with_reducible refine (T1.out w2 b).mono ?_); rintro e w3 ⟨rfl, b0⟩; have b := bl_trans b b0; have s1 := bl_keeps b0 _ _ s1; have s2 := bl_keeps b0 _ _ s2; clear b0)
          | (go_at_call 19; (with_reducible refine (law_same_t A1 A2 _ _ _ _ r.1 r.1 w3 rfl rfl s1 s2 (Nat.le_trans PL.out (by decide)) (Nat.le_trans PL.out (by decide)) rfl).mono ?_); rintro e w4 ⟨rfl, q0, h0⟩; have b0 := bl_q0 h0; have b := bl_trans b b0; clear h0 b0)
          | (go_at_call 27; (with_reducible refine (T2.out w4 b).mono ?_); rintro e w5 ⟨rfl, b0⟩; have b := bl_trans b b0; clear b0)
          | (go_at_call 22; (with_reducible refine (V.out w5 b).mono ?_); rintro e w' ⟨rfl, rfl⟩)
          | (go_at_call 12; (with_reducible refine (awake_any w5 (pow_below ht b)).mono ?_); rintro e w7 ⟨rfl, b0⟩; have b := bl_trans b b0; clear b0))
        go_ret
        exact ⟨rfl, b⟩

    · go_enter Tryd.func4, Tryd.ntmps4
      go_wp2_with ((go_at_call 12; (with_reducible refine (W0.out).mono ?_); rintro e w13 ⟨rfl, b⟩))
      go_ret
      exact ⟨rfl, b⟩
  · go_enter Tryd.func4, Tryd.ntmps4
    go_wp2_with ((go_at_call 12; (with_reducible refine (W0.out).mono ?_); rintro e w13 ⟨rfl, b⟩))
    go_ret
    exact ⟨rfl, b⟩
end Nt

end Go.Proofs.YthdjjcooekkncaaDoor
