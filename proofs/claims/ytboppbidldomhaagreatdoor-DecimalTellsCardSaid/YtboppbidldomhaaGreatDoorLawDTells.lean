
/-
  The reference's Show.
  The reference's wide, numeral, ParseInt and ParseRat of numerals.
  The reference's ParseInt and ParseRat of numerals.
  The reference's ParseDecimal.
  The reference's Exact: mathematics.
  The reference's Exact.
  The law DecimalTells.
-/
import Derived.Test.YtboppbidldomhaaGreatDoorLawDShows

import Derived.Test.YtboppbidldomhaaGreatDoorRefF

import Derived.Deep.RegionHeld3

import Derived.Test.YtboppbidldomhaaGreatDoorRefTextN

namespace Go.Proofs.YtboppbidldomhaaGreatDoor

open Go.RowKit

namespace Nt

theorem S3e_next {w w' : World} (hb : Below w.heap.size w w') {p1 p2 p3 : Addr} {v1 v2 v3 : Value} {w0 : World} (h : w.cell? p1 = some v1 ∧ w.cell? p2 = some v2 ∧ w.cell? p3 = some v3 ∧ Below w0.heap.size w0 w) :
    w'.cell? p1 = some v1 ∧ w'.cell? p2 = some v2 ∧ w'.cell? p3 = some v3 ∧ Below w0.heap.size w0 w' := ⟨cell_next hb h.1, cell_next hb h.2.1, cell_next hb h.2.2.1, bl_trans h.2.2.2 hb⟩
theorem k3e {c1 c2 c3 k : Prop} (h : c1 ∧ c2 ∧ c3 ∧ k) : k := h.2.2.2
set_option maxRecDepth 100000 in
set_option maxHeartbeats 4000000 in
theorem rshow_n (q : Rat) (A B : Option Addr) (a b : Nat) (w : World) (sA : Sl w A (digs (qn q))) (sB : Sl w B (digs (qd q))) (f1 : fitq q) (hs : qs q = false) :
    Calls Tryz.prog 34 #[.agg #[.bool false, .slice A (ln (qn q)) a, .slice B (ln (qd q)) b]] w fun e w' => e = .returned (.string ⟨(sizeT q).toArray⟩) ∧ Below w.heap.size w w' := by
  have V1 := hide (fun W (k : Below w.heap.size w W) => rvalid_q q A B a b W (kp' k sA) (kp' k sB) f1)
  rw [hs] at V1
  have T1 := hide (fun W (k : Below w.heap.size w W) => rtext_any A a (digs (qn q)) W (kp' k sA) (limbs_digs _) (Nat.le_trans f1.1 (by decide)))
  have T2 := hide (fun W (k : Below w.heap.size w W) => rtext_any B b (digs (qd q)) W (kp' k sB) (limbs_digs _) (Nat.le_trans f1.2 (by decide)))
  have t1 : textSp (digs (qn q)) = Lib.decDigits (qn q) := by unfold textSp; rw [valid_short f1.1 (norm_digs _), val_digs]; rfl
  have t2 : textSp (digs (qd q)) = Lib.decDigits (qd q) := by unfold textSp; rw [valid_short f1.2 (norm_digs _), val_digs]; rfl
  rw [t1] at T1
  rw [t2] at T2
  have z1 := dec_size f1.1
  have z2 := dec_size f1.2
  obtain ⟨D1, hD1⟩ : ∃ D : ByteArray, D = ⟨(Lib.decDigits (qn q)).toArray⟩ := ⟨_, rfl⟩
  obtain ⟨D2, hD2⟩ : ∃ D : ByteArray, D = ⟨(Lib.decDigits (qd q)).toArray⟩ := ⟨_, rfl⟩
  have l1 : D1.data.toList = Lib.decDigits (qn q) := by rw [hD1]
  have l2 : D2.data.toList = Lib.decDigits (qd q) := by rw [hD2]
  rw [← hD1] at T1 z1
  rw [← hD2] at T2 z2
  have T1 : Hid (∀ W, Below w.heap.size w W → Calls Tryz.prog 87 #[.slice A (ln (qn q)) a] W fun e w' => e = .returned (.string D1) ∧ Below W.heap.size W w') := T1
  have T2 : Hid (∀ W, Below w.heap.size w W → Calls Tryz.prog 87 #[.slice B (ln (qd q)) b] W fun e w' => e = .returned (.string D2) ∧ Below W.heap.size W w') := T2
  have ON := hide (fun W => rone_z W)
  obtain ⟨k, hk⟩ : ∃ k, cmpN (qd q) 1 = k := ⟨_, rfl⟩
  have CM := hide (fun X e W (h : Below w.heap.size w W) (s : Sl W X (digs 1)) => rcmp_z B X b e (qd q) 1 k W (kp' h sB) s (Nat.le_trans f1.2 (by decide)) (by rw [ln_one]; decide) hk)
  have K1 : (k = 0 ↔ qd q = 1) := by
    rw [← hk]
    unfold cmpN
    constructor
    · intro h; split at h <;> (try split at h) <;> omega
    · intro h; rw [h]; rfl
  have b3 : (⟨#[40, 47, 32]⟩ : ByteArray).size = 3 := rfl
  have b2 : (⟨#[46, 48]⟩ : ByteArray).size = 2 := rfl
  have b4 : (⟨#[46, 48, 32]⟩ : ByteArray).size = 3 := rfl
  have b5 : (⟨#[46, 48, 41]⟩ : ByteArray).size = 3 := rfl
  by_cases h1 : qd q = 1
  · have E := hide (show (⟨(sizeT q).toArray⟩ : ByteArray) = D1 ++ ⟨#[46, 48]⟩ by
      unfold sizeT
      rw [if_pos h1, ← l1]
      apply ByteArray.ext
      simp)
    have o0 := op_cat 9 D1 ⟨#[46, 48]⟩ (by rw [b2]; omega)
    obtain rfl : k = 0 := K1.2 h1
    rw [E.out]
    clear T2 l1 l2 hD1 hD2 sA sB f1 E hs K1 hk h1 b2 b3 b4 b5 z1 z2 t1 t2
    generalize ln (qn q) = i1 at *
    generalize ln (qd q) = i2 at *
    generalize (D1 ++ ⟨#[46, 48]⟩ : ByteArray) = D3 at *
    have X1 := hide (Q3.new (.bool false) (.slice A i1 a) (.slice B i2 b) w)
    have b0 : Below w.heap.size w (w.alloc (.cells #[.bool false, .slice A i1 a, .slice B i2 b] 24)) := bl_al (.refl _ _) _
    go_enter Tryz.func34, Tryz.ntmps34
    go_wp2_with (go_at_call 26; (with_reducible refine (V1.out _ b0).mono ?_); rintro e w1 ⟨rfl, hb⟩; have X1 := hide (X1.out.next hb); obtain ⟨x1, x2, x3, x4, x5, x6⟩ := X1.out; have b1 := bl_trans b0 hb; clear hb)
    have kb := hide b1.drew
    go_region_held3 (fun W => W.cell? ⟨w.heap.size, 0, none⟩ = some (.bool false) ∧ W.cell? ⟨w.heap.size, 1, none⟩ = some (.slice A i1 a) ∧ W.cell? ⟨w.heap.size, 2, none⟩ = some (.slice B i2 b) ∧ Below w.heap.size w W)
      (first | exact ⟨x1, x2, x3, kb.out⟩ | with_reducible exact S3e_next hb (by assumption) | with_reducible assumption)
      (first
        | (go_at_call 68; (with_reducible refine (ON.out _).mono ?_); rintro e v1 ⟨P1, p1, rfl, y1, hb⟩)
        | (go_at_call 66; (with_reducible refine (CM.out P1 p1 _ (k3e (by assumption)) y1).mono ?_); rintro e v2 ⟨rfl, hb⟩))
    all_goals
      rename_i hS
      obtain ⟨x1, x2, x3, bS⟩ := hS
      go_wp2_with (go_at_call 87; (with_reducible refine (T1.out _ bS).mono ?_); rintro e w4 ⟨rfl, hb⟩; have b4 := bl_trans bS hb; clear hb)
      go_ret
      exact ⟨rfl, b4⟩
  · have E := hide (show (⟨(sizeT q).toArray⟩ : ByteArray) = (((⟨#[40, 47, 32]⟩ ++ D1) ++ ⟨#[46, 48, 32]⟩) ++ D2) ++ ⟨#[46, 48, 41]⟩ by
      unfold sizeT
      rw [if_neg h1, ← l1, ← l2]
      apply ByteArray.ext
      simp)
    have hk0 : (k == 0) = false := beq_eq_false_iff_ne.2 (fun e => h1 (K1.1 e))
    have oe : binOp .eql 3 (.int .i64 k) (.int .i64 0) = pure (.bool false) := by
      show pure (Value.bool (k == 0)) = _
      rw [hk0]
    have o1 := op_cat 9 ⟨#[40, 47, 32]⟩ D1 (by rw [b3]; omega)
    have y4 : (⟨#[40, 47, 32]⟩ ++ D1 : ByteArray).size ≤ 10003 := by rw [ByteArray.size_append, b3]; omega
    rw [E.out]
    clear l1 l2 hD1 hD2 sA sB f1 E hs K1 hk h1 t1 t2
    generalize (⟨#[40, 47, 32]⟩ ++ D1 : ByteArray) = D3 at *
    have o2 := op_cat 9 D3 ⟨#[46, 48, 32]⟩ (by rw [b4]; omega)
    have y5 : (D3 ++ ⟨#[46, 48, 32]⟩ : ByteArray).size ≤ 10006 := by rw [ByteArray.size_append, b4]; omega
    generalize (D3 ++ ⟨#[46, 48, 32]⟩ : ByteArray) = D4 at *
    have o3 := op_cat 9 D4 D2 (by omega)
    have y6 : (D4 ++ D2 : ByteArray).size ≤ 20006 := by rw [ByteArray.size_append]; omega
    generalize (D4 ++ D2 : ByteArray) = D5 at *
    have o4 := op_cat 9 D5 ⟨#[46, 48, 41]⟩ (by rw [b5]; omega)
    generalize (D5 ++ ⟨#[46, 48, 41]⟩ : ByteArray) = D6 at *
    clear z1 z2 y4 y5 y6 b2 b3 b4 b5
    generalize ln (qn q) = i1 at *
    generalize ln (qd q) = i2 at *
    have X1 := hide (Q3.new (.bool false) (.slice A i1 a) (.slice B i2 b) w)
    have b0 : Below w.heap.size w (w.alloc (.cells #[.bool false, .slice A i1 a, .slice B i2 b] 24)) := bl_al (.refl _ _) _
    go_enter Tryz.func34, Tryz.ntmps34
    go_wp2_with (go_at_call 26; (with_reducible refine (V1.out _ b0).mono ?_); rintro e w1 ⟨rfl, hb⟩; have X1 := hide (X1.out.next hb); obtain ⟨x1, x2, x3, x4, x5, x6⟩ := X1.out; have b1 := bl_trans b0 hb; clear hb)
    have kb := hide b1.drew
    go_region_held3 (fun W => W.cell? ⟨w.heap.size, 0, none⟩ = some (.bool false) ∧ W.cell? ⟨w.heap.size, 1, none⟩ = some (.slice A i1 a) ∧ W.cell? ⟨w.heap.size, 2, none⟩ = some (.slice B i2 b) ∧ Below w.heap.size w W)
      (first | exact ⟨x1, x2, x3, kb.out⟩ | with_reducible exact S3e_next hb (by assumption) | with_reducible assumption)
      (first
        | (go_at_call 68; (with_reducible refine (ON.out _).mono ?_); rintro e v1 ⟨P1, p1, rfl, y1, hb⟩)
        | (go_at_call 66; (with_reducible refine (CM.out P1 p1 _ (k3e (by assumption)) y1).mono ?_); rintro e v2 ⟨rfl, hb⟩))
    all_goals
      rename_i hS
      obtain ⟨x1, x2, x3, bS⟩ := hS
      go_wp2
      have kb2 := hide bS.drew
      go_region_held3 (fun W => W.cell? ⟨w.heap.size, 0, none⟩ = some (.bool false) ∧ W.cell? ⟨w.heap.size, 1, none⟩ = some (.slice A i1 a) ∧ W.cell? ⟨w.heap.size, 2, none⟩ = some (.slice B i2 b) ∧ Below w.heap.size w W)
        (first | exact ⟨x1, x2, x3, kb2.out⟩ | with_reducible exact S3e_next hb (by assumption) | with_reducible assumption)
        (first
          | (go_at_call 87; (with_reducible refine (T1.out _ (k3e (by assumption))).mono ?_); rintro e v3 ⟨rfl, hb⟩)
          | (go_at_call 87; (with_reducible refine (T2.out _ (k3e (by assumption))).mono ?_); rintro e v4 ⟨rfl, hb⟩))
      all_goals
        go_wp2
        go_ret
        exact ⟨rfl, k3e (by assumption)⟩
set_option maxRecDepth 100000 in
set_option maxHeartbeats 4000000 in
theorem rshow_q (q : Rat) (A B : Option Addr) (a b : Nat) (w : World) (sA : Sl w A (digs (qn q))) (sB : Sl w B (digs (qd q))) (f1 : fitq q) (ca : ln (qn q) ≤ a) (cb : ln (qd q) ≤ b) :
    Calls Tryz.prog 34 #[.agg #[.bool (qs q), .slice A (ln (qn q)) a, .slice B (ln (qd q)) b]] w fun e w' => e = .returned (.string ⟨(showT q).toArray⟩) ∧ Below w.heap.size w w' := by
  obtain ⟨s, hs⟩ : ∃ s, qs q = s := ⟨_, rfl⟩
  cases s with
  | false =>
    have e : showT q = sizeT q := by unfold showT; rw [hs]; rfl
    rw [hs, e]
    exact rshow_n q A B a b w sA sB f1 hs
  | true =>
    have V1 := hide (fun W (k : Below w.heap.size w W) => rvalid_q q A B a b W (kp' k sA) (kp' k sB) f1)
    have NG := hide (fun W (k : Below w.heap.size w W) => rneg_q q _ rfl A B a b W (kp' k sA) (kp' k sB) f1 ca cb)
    have fm := fitq_neg f1
    have hm : qs (-q) = false := by rw [qs_neg, hs]; rfl
    have es : sizeT (-q) = sizeT q := by unfold sizeT; rw [qn_neg, show qd (-q) = qd q from rfl]
    have SH := hide (fun X Y e f W s1 s2 => rshow_n (-q) X Y e f W s1 s2 fm hm)
    rw [es] at SH
    have z1 := sizeT_size f1
    obtain ⟨D1, hD1⟩ : ∃ D : ByteArray, D = ⟨(sizeT q).toArray⟩ := ⟨_, rfl⟩
    rw [← hD1] at SH z1
    have E := hide (show (⟨(showT q).toArray⟩ : ByteArray) = (⟨#[40, 45, 32]⟩ ++ D1) ++ ⟨#[41]⟩ by
      unfold showT
      rw [hs, hD1]
      apply ByteArray.ext
      simp)
    have b3 : (⟨#[40, 45, 32]⟩ : ByteArray).size = 3 := rfl
    have b1' : (⟨#[41]⟩ : ByteArray).size = 1 := rfl
    have o1 := op_cat 9 ⟨#[40, 45, 32]⟩ D1 (by rw [b3]; omega)
    have y4 : (⟨#[40, 45, 32]⟩ ++ D1 : ByteArray).size ≤ 20103 := by rw [ByteArray.size_append, b3]; omega
    rw [E.out]
    rw [hs] at V1 NG ⊢
    obtain ⟨r, hr⟩ : ∃ r, -q = r := ⟨_, rfl⟩
    rw [hr] at NG SH hm
    have NG2 : Hid (∀ W, Below w.heap.size w W → Calls Tryz.prog 24 #[.agg #[.bool true, .slice A (ln (qn q)) a, .slice B (ln (qd q)) b]] W fun e w' => ∃ A c B d, e = .returned (.agg #[.bool false, .slice A (ln (qn r)) c, .slice B (ln (qd r)) d]) ∧ Sl w' A (digs (qn r)) ∧ Sl w' B (digs (qd r)) ∧ Below W.heap.size W w') := fun W k => (NG.out W k).mono fun _ _ ⟨X, e, Y, f, h1, h2⟩ => ⟨X, e, Y, f, by rw [h1, hm], h2⟩
    generalize (⟨#[40, 45, 32]⟩ ++ D1 : ByteArray) = D3 at *
    have o2 := op_cat 9 D3 ⟨#[41]⟩ (by rw [b1']; omega)
    generalize (D3 ++ ⟨#[41]⟩ : ByteArray) = D4 at *
    clear NG E sA sB f1 ca cb hs hm fm es z1 y4 b3 b1' hD1 hr
    generalize ln (qn q) = i1 at *
    generalize ln (qd q) = i2 at *
    have X1 := hide (Q3.new (.bool true) (.slice A i1 a) (.slice B i2 b) w)
    have b0 : Below w.heap.size w (w.alloc (.cells #[.bool true, .slice A i1 a, .slice B i2 b] 24)) := bl_al (.refl _ _) _
    go_enter Tryz.func34, Tryz.ntmps34
    go_wp2_with (first
      | (go_at_call 26; (with_reducible refine (V1.out _ b0).mono ?_); rintro e w1 ⟨rfl, hb⟩; have X1 := hide (X1.out.next hb); obtain ⟨x1, x2, x3, x4, x5, x6⟩ := X1.out; have b1 := bl_trans b0 hb; clear hb)
      | (go_at_call 24; (with_reducible refine (NG2.out _ b1).mono ?_); rintro e w2 ⟨P1, p1, R1, r1, rfl, y1, y2, hb⟩; have b2 := bl_trans b1 hb; clear hb)
      | (go_at_call 34; (with_reducible refine (SH.out P1 R1 p1 r1 _ y1 y2).mono ?_); rintro e w3 ⟨rfl, hb⟩; have b3 := bl_trans b2 hb; clear hb))
    go_ret
    exact ⟨rfl, b3⟩
set_option maxHeartbeats 1000000 in
theorem rshow_no (s : Bool) (A B : Option Addr) (a b : Nat) (xs ys : List Nat) (w : World) (sA : Sl w A xs) (sB : Sl w B ys) (lx : Limbs xs) (ly : Limbs ys) (m1 : xs.length ≤ 1000000) (m2 : ys.length ≤ 1000000) (h : validQ s xs ys = false) :
    Calls Tryz.prog 34 #[.agg #[.bool s, .slice A xs.length a, .slice B ys.length b]] w fun e w' => e = .returned (.string ⟨#[]⟩) ∧ Below w.heap.size w w' := by
  have V1 := hide (fun W (k : Below w.heap.size w W) => rvalidQ_any s A B a b xs ys W (kp' k sA) (kp' k sB) lx ly m1 m2 false h)
  clear sA sB lx ly m1 m2 h
  generalize xs.length = i1 at *
  generalize ys.length = i2 at *
  have X1 := hide (Q3.new (.bool s) (.slice A i1 a) (.slice B i2 b) w)
  have b0 : Below w.heap.size w (w.alloc (.cells #[.bool s, .slice A i1 a, .slice B i2 b] 24)) := bl_al (.refl _ _) _
  go_enter Tryz.func34, Tryz.ntmps34
  go_wp2_with (go_at_call 26; (with_reducible refine (V1.out _ b0).mono ?_); rintro e w1 ⟨rfl, hb⟩; have X1 := hide (X1.out.next hb); obtain ⟨x1, x2, x3, x4, x5, x6⟩ := X1.out; have b1 := bl_trans b0 hb; clear hb)
  go_ret
  exact ⟨rfl, b1⟩
end Nt

end Go.Proofs.YtboppbidldomhaaGreatDoor

namespace Go.Proofs.YtboppbidldomhaaGreatDoor

open Go.RowKit

namespace Nt

set_option maxRecDepth 100000 in
set_option maxHeartbeats 4000000 in
theorem rwide_z (A : Option Addr) (c N : Nat) (w : World) (sx : Sl w A (digs N)) (hl : ln N ≤ 500) (hz : (Lib.decDigits N).length ≤ 20000) :
    Calls Tryz.prog 85 #[.slice A (ln N) c] w fun e w' => e = .returned (.string ⟨(Lib.decDigits N).toArray⟩) ∧ Below w.heap.size w w' := by
  by_cases h0 : N = 0
  · subst h0
    rw [ln_zero, show Lib.decDigits 0 = [48] from dec_small (by decide)]
    clear sx hl hz
    go_enter Tryz.func85, Tryz.ntmps85
    go_wp2
    go_ret
    exact ⟨rfl, .refl _ _⟩
  · have np : 0 < N := by omega
    have hn1 : ((ln N : Int) == 0) = false := beq_eq_false_iff_ne.2 (by have := ln_pos.2 np; omega)
    have SX := hide sx
    have HZ := hide hz
    have HL := hide hl
    obtain ⟨i, hi⟩ : ∃ i, ln N = i := ⟨_, rfl⟩
    have HI := hide hi
    rw [hi] at hn1 ⊢
    have NP := hide np
    clear sx hl hz h0 np hi
    go_enter Tryz.func85, Tryz.ntmps85
    go_wp2
    clear hn1
    go_loopw [0, 3, 4, 5, 6] (fun av sv _ _ _ wr => ∃ (v : Nat) (A : Option Addr) (c : Nat) (s : ByteArray), v ≤ N ∧ av = .slice A (ln v) c ∧ sv = .string s ∧ TxInv N v s.data.toList ∧ Sl wr A (digs v) ∧ Below w.heap.size w wr) (fun av _ _ _ _ wr => readV wr av)
    case atStart => exact ⟨N, A, c, ⟨#[]⟩, Nat.le_refl _, by rw [HI.out], rfl, .inr ⟨NP.out, by simp⟩, SX.out, .refl _ _⟩
    case round =>
      obtain ⟨v, A2, c2, s, hv, rfl, rfl, ti, sv, hb⟩ := hrel
      rcases Nat.eq_zero_or_pos v with rfl | hv0
      · have T := hide (show s = ⟨(Lib.decDigits N).toArray⟩ by
          refine str_eq ?_
          rcases ti with ⟨_, h⟩ | ⟨h, _⟩
          · exact h
          · omega)
        have BB := hide hb
        rw [ln_zero]
        clear ti hb sv
        go_wp2
        go_ret
        exact ⟨by rw [T.out]; rfl, BB.out⟩
      · have TL : Lib.decDigits v ++ s.data.toList = Lib.decDigits N := by
          rcases ti with ⟨h, _⟩ | ⟨_, h⟩
          · omega
          · exact h
        have hsz : s.size ≤ 20000 := by
          have := congrArg List.length TL
          rw [List.length_append, ← Lib.size_eq] at this
          have := HZ.out
          omega
        have TS := hide (ti.step hv0)
        have vl : ln v ≤ 500 := Nat.le_trans (ln_mono hv) HL.out
        have e10 : digs 10 = [10] := digs1 (by decide) (by decide)
        have s0 := litSl wr #[.int .u64 10] [10] rfl rfl
        rw [← e10] at s0
        have b1 : Below wr.heap.size wr (wr.alloc (.cells #[.int .u64 10] 45)) := bl_al (.refl _ _) _
        obtain ⟨u, hu⟩ : ∃ u, v / 10 = u := ⟨_, rfl⟩
        obtain ⟨r, hr⟩ : ∃ r, v % 10 = r := ⟨_, rfl⟩
        have DV : Hid (∀ W f, Below wr.heap.size wr W → Sl W (some ⟨wr.heap.size, 0, none⟩) (digs 10) → Calls Tryz.prog 84 #[.slice A2 (ln v) c2, .slice (some ⟨wr.heap.size, 0, none⟩) 1 f] W fun e w' => ∃ A c B d, e = .returned (.tuple #[.slice A (ln u) c, .slice B (ln r) d]) ∧ Sl w' A (digs u) ∧ Sl w' B (digs r) ∧ Below W.heap.size W w') := fun W f k s1 => by
          have := rdivmod_num A2 (some ⟨wr.heap.size, 0, none⟩) c2 f v 10 (ln v) 1 W rfl (by rw [e10]; rfl) (kp' k sv) s1 (Nat.le_trans vl (by decide)) (by decide) (by decide)
          rw [hu, hr] at this
          exact this
        have M1 := hide (readV_sl sv (ln v) c2 rfl)
        have r10 : r < 10 := by rw [← hr]; exact Nat.mod_lt _ (by decide)
        have FU := hide (show u < v ∧ u ≤ N from ⟨by rw [← hu]; exact Nat.div_lt_self hv0 (by decide), by rw [← hu]; exact Nat.le_trans (Nat.div_le_self _ _) hv⟩)
        rw [hu, hr] at TS
        have BB := hide hb
        have hlv : (0 : Int) < (ln v : Int) := by have := ln_pos.2 hv0; omega
        have zx : (⟨#[UInt8.ofNat (48 + r)]⟩ : ByteArray).size = 1 := rfl
        have oc := op_cat 9 ⟨#[UInt8.ofNat (48 + r)]⟩ s (by rw [zx]; omega)
        obtain ⟨S', hS'⟩ : ∃ S' : ByteArray, (⟨#[UInt8.ofNat (48 + r)]⟩ : ByteArray) ++ s = S' := ⟨_, rfl⟩
        rw [hS'] at oc
        have TS2 : Hid (TxInv N u S'.data.toList) := by
          show TxInv _ _ _
          rw [← hS', str_cons]
          exact TS.out
        clear ti hb sv e10 hu hr TL vl zx hS' TS
        by_cases hr0 : r = 0
        · subst hr0
          rw [ln_zero] at DV
          have kc : ∀ W : World, (convert 114 9 (.slice (some ⟨W.heap.size, 0, none⟩) 1 1)).run Tryz.prog (W.alloc (.cells #[.int .u8 48] 5)) = .ok (.string ⟨#[UInt8.ofNat (48 + 0)]⟩) (W.alloc (.cells #[.int .u8 48] 5)) := fun W => kc_byte W 0 (by decide)
          generalize (⟨#[UInt8.ofNat (48 + 0)]⟩ : ByteArray) = X at *
          go_wp2_with (go_at_call 84; (with_reducible refine (DV.out _ _ b1 s0).mono ?_); rintro e w5 ⟨A5, c5, B5, d5, rfl, s5, t5, hb⟩; have b5 := bl_trans b1 hb; have S5 := hide s5; have k5 := kc w5; clear s5 t5 hb)
          go_roundw
          case rel => exact ⟨u, A5, c5, S', FU.out.2, rfl, rfl, TS2.out, S5.out.alloc _, bl_trans BB.out (bl_al b5 _)⟩
          case measure =>
            have M2 := readV_sl (S5.out.alloc (.cells #[.int .u8 48] 5)) (ln u) c5 rfl
            rw [M1.out, M2, val_digs, val_digs]
            exact FU.out.1
        · have er : digs r = [r] := digs1 (by omega) hr0
          have lr : ln r = 1 := by unfold ln; rw [er]; rfl
          rw [lr] at DV
          have cw1 : IntKind.u8.wrap (r : Int) = (r : Int) := by rw [IntKind.wrap_u8]; omega
          have cw2 : IntKind.u8.wrap (48 + (r : Int)) = 48 + (r : Int) := by rw [IntKind.wrap_u8]; omega
          have kc := fun W : World => kc_byte W r r10
          generalize (⟨#[UInt8.ofNat (48 + r)]⟩ : ByteArray) = X at *
          clear lr
          go_wp2_with (go_at_call 84; (with_reducible refine (DV.out _ _ b1 s0).mono ?_); rintro e w5 ⟨A5, c5, B5, d5, rfl, s5, t5, hb⟩; have b5 := bl_trans b1 hb; have S5 := hide s5; have k5 := kc w5; rw [er] at t5; obtain ⟨bb, oo, rfl, ha⟩ := t5.at_ (by simp); have hc := ha.cell (j := 0) (by simp); rw [Nat.add_zero] at hc; have hc' : w5.cell? ⟨bb, oo, none⟩ = some (.int .u64 (r : Int)) := hc; clear s5 t5 hb hc ha)
          go_roundw
          case rel => exact ⟨u, A5, c5, S', FU.out.2, rfl, rfl, TS2.out, S5.out.alloc _, bl_trans BB.out (bl_al b5 _)⟩
          case measure =>
            have M2 := readV_sl (S5.out.alloc (.cells #[.int .u8 (48 + (r : Int))] 5)) (ln u) c5 rfl
            rw [M1.out, M2, val_digs, val_digs]
            exact FU.out.1
theorem numB_eq (l : List UInt8) : numB l = (l.all isD && (decide (l = [48]) || (decide (l ≠ []) && decide (l.head? ≠ some 48)))) := by
  unfold numB digitsB
  by_cases h : l = [48]
  · subst h; rfl
  · rw [decide_eq_false h, Bool.false_or, Bool.false_or, Bool.and_assoc]
set_option maxRecDepth 100000 in
set_option maxHeartbeats 2000000 in
theorem rnumeral_any (s : ByteArray) (w : World) (hs : s.size ≤ 1000000) :
    Calls Tryz.prog 77 #[.string s] w fun e w' => e = .returned (.bool (numB s.data.toList)) ∧ w = w' := by
  go_enter Tryz.func77, Tryz.ntmps77
  go_wp2
  go_loop [3] (fun i => ∃ k : Nat, k ≤ s.size ∧ i = .int .i64 k ∧ (s.data.toList.take k).all isD = true) (fun i => s.size - (intOf i).toNat)
  case atStart => exact ⟨0, Nat.zero_le _, rfl, rfl⟩
  case round =>
    obtain ⟨k, hk, rfl, hd⟩ := hrel
    by_cases hlt : k < s.size
    · have hsn := take_snoc s k hlt
      have bad : isD s[k] = false → numB s.data.toList = false := fun h => by
        rw [numB_eq, show s.data.toList.all isD = false by
          have := digitsB_false (k := k) hlt h
          unfold digitsB at this
          rw [List.all_eq_false]
          exact ⟨s[k], by
            have h2 : s.data.toList[k]? = some s[k] := by rw [Array.getElem?_toList]; exact Array.getElem?_eq_getElem hlt
            exact List.mem_of_getElem? h2, by rw [h]; decide⟩, Bool.false_and]
      by_cases h1 : s[k].toNat < 48
      · have E := hide (bad (by unfold isD; exact decide_eq_false (by omega)))
        have h1' : (s[k].toNat : Int) < 48 := by omega
        clear hd hsn h1 bad
        go_wp2
        go_ret
        exact ⟨ret_bool E.out.symm, rfl⟩
      · have h1' : (48 : Int) ≤ (s[k].toNat : Int) := by omega
        by_cases h2 : 57 < s[k].toNat
        · have E := hide (bad (by unfold isD; exact decide_eq_false (by omega)))
          have h2' : (57 : Int) < (s[k].toNat : Int) := by omega
          clear hd hsn h1 h2 bad
          go_wp2
          go_ret
          exact ⟨ret_bool E.out.symm, rfl⟩
        · have h2' : (s[k].toNat : Int) ≤ 57 := by omega
          have H := hide (show (s.data.toList.take (k + 1)).all isD = true by
            rw [hsn, List.all_append, hd, Bool.true_and]
            have : isD s[k] = true := by unfold isD; exact decide_eq_true (by omega)
            simp [this])
          clear hd hsn h1 h2 bad
          go_wp2
          go_round
          case rel => exact ⟨k + 1, by omega, by go_num, H.out⟩
          case measure => simp [intOf]; omega
    · obtain rfl : k = s.size := by omega
      rw [List.take_of_length_le (by rw [← Lib.size_eq]; exact Nat.le_refl _)] at hd
      have E := hide (show numB s.data.toList = (decide (s.data.toList = [48]) || (decide (s.data.toList ≠ []) && decide (s.data.toList.head? ≠ some 48))) by rw [numB_eq, hd, Bool.true_and])
      clear hd hlt
      by_cases h1 : s = ⟨#[48]⟩
      · subst h1
        have e1 := eq_s 9 (show (⟨#[48]⟩ : ByteArray) = ⟨#[48]⟩ from rfl)
        clear E
        go_wp2
        go_ret
        exact ⟨rfl, rfl⟩
      · have e1 := eq_n 9 h1
        have hl : s.data.toList ≠ [48] := fun e => h1 (by cases s with | mk d => simp at e; rw [← e])
        by_cases h2 : s.size = 0
        · have E2 := hide (show numB s.data.toList = false by
            rw [E.out, decide_eq_false hl, show s.data.toList = [] from List.eq_nil_of_length_eq_zero (by rw [← Lib.size_eq]; exact h2)]; rfl)
          have h2' : (s.size : Int) ≤ 0 := by omega
          clear E hl h1 h2
          go_wp2
          go_ret
          exact ⟨ret_bool E2.out.symm, rfl⟩
        · have hp : 0 < s.size := by omega
          have hc : s.data.toList.head? = some s[0] := by
            cases s with
            | mk d =>
              cases d with
              | mk l =>
                cases l with
                | nil => exact absurd rfl h2
                | cons c l => rfl
          obtain ⟨r, hr⟩ : ∃ r, ((s[0].toNat : Int) != 48) = r := ⟨_, rfl⟩
          have E2 := hide (show numB s.data.toList = r by
            rw [E.out, decide_eq_false hl, Bool.false_or, decide_eq_true (show s.data.toList ≠ [] from fun e => by rw [e] at hc; cases hc), Bool.true_and, hc, ← hr]
            generalize s[0] = c
            by_cases h : c = 48
            · subst h; decide
            · rw [decide_eq_true (by simpa using h)]
              have : c.toNat ≠ 48 := fun e => h (UInt8.toNat_inj.1 (by rw [e]; rfl))
              symm
              simpa using fun e : (c.toNat : Int) = 48 => this (by omega))
          clear E hl h1 h2 hc
          go_wp2
          go_ret
          exact ⟨ret_bool E2.out.symm, rfl⟩
end Nt

end Go.Proofs.YtboppbidldomhaaGreatDoor

namespace Go.Proofs.YtboppbidldomhaaGreatDoor

open Go.RowKit

namespace Nt

theorem dig_char {l : List UInt8} (h : l.all isD = true) (c : UInt8) (hc : isD c = false) : c ∉ l := fun m => by
  have := List.all_eq_true.1 h c m
  rw [hc] at this; cases this
theorem head_char (s : ByteArray) (h : s.data.toList.all isD = true) (hp : 0 < s.size) : (s[0].toNat : Int) ≠ 45 := by
  have h2 : s.data.toList[0]? = some s[0] := by rw [Array.getElem?_toList]; exact Array.getElem?_eq_getElem hp
  have := List.all_eq_true.1 h _ (List.mem_of_getElem? h2)
  unfold isD at this
  simp only [decide_eq_true_eq] at this
  omega
set_option maxRecDepth 100000 in
set_option maxHeartbeats 2000000 in
theorem rparseInt_n (s : ByteArray) (w : World) (hs : s.size ≤ 1000) (hd : digitsB s.data.toList = true) :
    Calls Tryz.prog 118 #[.string s] w fun e w' => ∃ A c, e = .returned (.tuple #[.agg #[.bool false, .slice A (ln (decV s.data.toList)) c], .int .i64 0]) ∧ Sl w' A (digs (decV s.data.toList)) ∧ Below w.heap.size w w' := by
  have ha := digitsB_all hd
  have hp : 0 < s.size := by
    rw [Lib.size_eq]
    unfold digitsB at hd
    simp only [Bool.and_eq_true, decide_eq_true_eq] at hd
    exact List.length_pos_iff.2 hd.2
  have hlt : decV s.data.toList < LB ^ 64 := Nat.lt_trans (decV_lt ha) (ten_lt (by rw [← Lib.size_eq]; exact hs))
  have hc := head_char s ha hp
  have hc' : ((s[0].toNat : Int) == 45) = false := beq_eq_false_iff_ne.2 hc
  have e : parseSp s.data.toList = (digs (decV s.data.toList), 0) := by
    unfold parseSp
    rw [hd, if_pos rfl, if_pos hlt]
  obtain ⟨n, hn⟩ : ∃ n, decV s.data.toList = n := ⟨_, rfl⟩
  have PN : Hid (∀ W, Calls Tryz.prog 120 #[.string s] W fun e w' => ∃ A c, e = .returned (.tuple #[.slice A (ln n) c, .int .i64 0]) ∧ Sl w' A (digs n) ∧ Below W.heap.size W w') := fun W => by
    have := rparse_any s W (by omega)
    rw [e, hn] at this
    exact this.mono fun _ _ h => h.get
  have WH := hide (fun X f W => rwhole_any false X (ln n) f W (Nat.le_trans (ln_le (k := 64) (by rw [← hn]; exact hlt)) (by decide)))
  rw [hn]
  clear ha hlt hc e hn hd
  have X := hide (Q2.new (.bool false) (.slice none 0 0) w)
  have b0 : Below w.heap.size w (w.alloc (.cells #[.bool false, .slice none 0 0] 50)) := bl_al (.refl _ _) _
  have hp' : (0 : Int) < (s.size : Int) := by omega
  go_enter Tryz.func118, Tryz.ntmps118
  go_wp2_with (first
    | (go_at_call 120; (with_reducible refine (PN.out _).mono ?_); rintro e w1 ⟨A1, c1, rfl, s1, hb⟩; have X := hide (X.out.next hb); have b1 := bl_trans b0 hb; clear hb)
    | (go_at_call 90; (with_reducible refine (WH.out A1 c1 _).mono ?_); rintro e w2 ⟨rfl, hb⟩; have X := hide (X.out.next hb); obtain ⟨y1, y2, y3, y4⟩ := X.out; have b2 := bl_trans b1 hb; have s2 := kp' hb s1; clear hb))
  exact bodyPost_ret (v := .tuple #[.agg #[.bool false, .slice A1 (ln n) c1], .int .i64 0]) (by simp [results, Tryz.results118, go_sem, y1, y2]) rfl ⟨A1, c1, rfl, s2.store2 y1 y2 _ _, Below.store2 b2 (Nat.le_refl _) _ _⟩
set_option maxRecDepth 100000 in
set_option maxHeartbeats 2000000 in
theorem rofWhole_n (n : Nat) (q : Rat) (hq : qmk false n 1 = q) (A : Option Addr) (c : Nat) (w : World) (sA : Sl w A (digs n)) :
    Calls Tryz.prog 119 #[.agg #[.bool false, .slice A (ln n) c]] w (RQ w q) := by
  have E1 := hide (show qs q = false by rw [← hq, qs_mk false _ (by decide), Bool.false_and])
  have E2 := hide (show qn q = n by rw [← hq, qn_mk false _ (by decide), Nat.gcd_one_right, Nat.div_one])
  have E3 := hide (show qd q = 1 by rw [← hq, qd_mk false _ (by decide), Nat.gcd_one_right])
  have ON := hide (fun W => rone_z W)
  have SA := hide sA
  clear hq sA
  have X1 := hide ((Q2.new (.bool false) (.slice A (ln n) c) w).al (.cells #[.bool false, .slice none 0 0, .slice none 0 0] 24))
  have X3 := hide (Q3.new1 (.bool false) (.slice none 0 0) (.slice none 0 0) w (.cells #[.bool false, .slice A (ln n) c] 50))
  have b0 : Below w.heap.size w ((w.alloc (.cells #[.bool false, .slice A (ln n) c] 50)).alloc (.cells #[.bool false, .slice none 0 0, .slice none 0 0] 24)) := bl_al (bl_al (.refl _ _) _) _
  have MK := hide (fun (X Y : Option Addr) (e f : Nat) (W : World) (sa : Sl W X (digs n)) (sb : Sl W Y (digs 1)) (b : Below w.heap.size w W) => (RQ.mk E1.out E2.out E3.out sa sb b : RQ w q (.returned (.agg #[.bool false, .slice X (ln n) e, .slice Y (ln 1) f])) W))
  rw [ln_one] at MK
  generalize ln n = i at *
  have ON2 : Hid (∀ W, Calls Tryz.prog 68 #[] W fun e w' => ∃ A c, e = .returned (.slice A 1 c) ∧ Sl w' A (digs 1) ∧ Below W.heap.size W w') := fun W => (ON.out W).mono fun _ _ ⟨A, c, h1, h2, h3⟩ => ⟨A, c, by rw [h1, ln_one], h2, h3⟩
  clear ON E1 E2 E3
  go_enter Tryz.func119, Tryz.ntmps119
  go_wp2
  have kb := hide b0.drew
  have X3 := hide X3.out.drew
  obtain ⟨x1, x2, x3, x4⟩ := X1.out
  go_region_held3 (fun W => W.cell? ⟨w.heap.size, 0, none⟩ = some (.bool false) ∧ W.cell? ⟨w.heap.size, 1, none⟩ = some (.slice A i c))
    (first | exact ⟨x1, x2⟩ | with_reducible exact ⟨cell_next hb (And.left (by assumption)), cell_next hb (And.right (by assumption))⟩ | exact And.intro (cell_over3 (And.left (by assumption)) (by omega) _ _ _) (cell_over3 (And.right (by assumption)) (by omega) _ _ _) | assumption)
    (first
      | (go_at_call 68; (with_reducible refine (ON2.out _).mono ?_); rintro e v1 ⟨P1, p1, rfl, z1, hb⟩; have X3 := hide (X3.out.next hb); have kb := hide (bl_trans kb.out hb); have SA := hide (kp' kb.out SA.out); obtain ⟨k1, k2, k3, k4, k5, k6⟩ := X3.out))
  all_goals
    go_wp2
    exact bodyPost_ret (v := .agg #[.bool false, .slice A i c, .slice P1 1 p1]) (by simp [results, Tryz.results119, go_sem, k1, k2, k3]) rfl (MK.out A P1 c p1 _ (SA.out.over3 X3.out _ _ _) (z1.over3 X3.out _ _ _) (Below.over3 kb.out (by omega) _ _ _))
set_option maxRecDepth 100000 in
set_option maxHeartbeats 2000000 in
theorem rparseRat_n (s : ByteArray) (w : World) (hs : s.size ≤ 1000) (hd : digitsB s.data.toList = true) (q : Rat) (hq : qmk false (decV s.data.toList) 1 = q) :
    Calls Tryz.prog 78 #[.string s] w (RQE w q) := by
  have ha := digitsB_all hd
  have PI := hide (fun W => rparseInt_n s W hs hd)
  have OW := hide (fun X e W s1 => rofWhole_n (decV s.data.toList) q hq X e W s1)
  generalize decV s.data.toList = n at *
  have X := hide (Q3.new (.bool false) (.slice none 0 0) (.slice none 0 0) w)
  have BB := hide (bl_al (.refl w.heap.size w) (.cells #[.bool false, .slice none 0 0, .slice none 0 0] 24))
  have HA := hide ha
  clear hd hq ha
  go_enter Tryz.func78, Tryz.ntmps78
  go_wp2
  go_loop [4, 5] (fun a i => ∃ k : Nat, k ≤ s.size ∧ a = .int .i64 (-1) ∧ i = .int .i64 k) (fun _ i => s.size - (intOf i).toNat)
  case atStart => exact ⟨0, Nat.zero_le _, rfl, rfl⟩
  case round =>
    obtain ⟨k, hk, rfl, rfl⟩ := hrel
    by_cases hlt : k < s.size
    · have hc : (s[k].toNat : Int) ≠ 47 := by
        have h2 : s.data.toList[k]? = some s[k] := by rw [Array.getElem?_toList]; exact Array.getElem?_eq_getElem hlt
        have := List.all_eq_true.1 HA.out _ (List.mem_of_getElem? h2)
        unfold isD at this
        simp only [decide_eq_true_eq] at this
        omega
      have hc' : ((s[k].toNat : Int) == 47) = false := beq_eq_false_iff_ne.2 hc
      clear hc
      go_wp2
      go_round
      case rel => exact ⟨k + 1, by omega, rfl, by go_num⟩
      case measure => simp [intOf]; omega
    · obtain rfl : k = s.size := by omega
      have e0 : binOp .neq 3 (.int .i64 0) (.int .i64 0) = pure (.bool false) := rfl
      clear hlt
      go_wp2_with (first
        | (go_at_call 118; (with_reducible refine (PI.out _).mono ?_); rintro e w1 ⟨A1, c1, rfl, s1, hb⟩; have X := hide ((X.out.next hb).al (.cells #[.bool false, .slice A1 (ln n) c1] 50)); have BB := hide (bl_al (bl_trans BB.out hb) (.cells #[.bool false, .slice A1 (ln n) c1] 50)); have Z := hide (Q2.new (.bool false) (.slice A1 (ln n) c1) w1); obtain ⟨z1, z2, z3, z4⟩ := Z.out; have S1 := hide (s1.alloc (.cells #[.bool false, .slice A1 (ln n) c1] 50)); clear s1 hb)
        | (go_at_call 119; (with_reducible refine (OW.out A1 c1 _ S1.out).mono ?_); rintro e w2 ⟨A2, c2, B2, d2, rfl, s2, t2, hb⟩; have X := hide (X.out.next hb); have BB := hide (bl_trans BB.out hb); obtain ⟨y1, y2, y3, y4, y5, y6⟩ := X.out; clear hb))
      exact bodyPost_ret (v := .tuple #[.agg #[.bool (qs q), .slice A2 (ln (qn q)) c2, .slice B2 (ln (qd q)) d2], .int .i64 0]) (by simp [results, Tryz.results78, go_sem, y1, y2, y3]) rfl (RQE.mk rfl rfl rfl (s2.over3 X.out _ _ _) (t2.over3 X.out _ _ _) (Below.over3 BB.out (Nat.le_refl _) _ _ _))
end Nt

end Go.Proofs.YtboppbidldomhaaGreatDoor

namespace Go.Proofs.YtboppbidldomhaaGreatDoor

open Go.RowKit

namespace Nt

/-- What it hands back: an error, or a fraction. -/
def RP (w : World) (R : Option Rat) : Ending → World → Prop := match R with
  | none => RNo 2 w
  | some q => RQE w q
theorem byte_get (s : ByteArray) (k : Nat) (h : k < s.size) : s.data.toList[k]? = some s[k] := by
  rw [Array.getElem?_toList]; exact Array.getElem?_eq_getElem h
theorem notD' {l : List UInt8} {c : UInt8} (h : c ∈ l) (hc : isD c = false) : digitsB l = false := by
  have h1 : l.all isD = false := by
    rw [List.all_eq_false]
    exact ⟨c, h, by rw [hc]; decide⟩
  unfold digitsB
  rw [h1, Bool.false_and]
theorem byte_no46 {c : UInt8} (h : ¬ c = 46) : ((c.toNat : Int) == 46) = false := by
  have : c.toNat ≠ 46 := fun e => h (UInt8.toNat_inj.1 (by rw [e]; rfl))
  exact beq_eq_false_iff_ne.2 (by omega)
theorem isD_of {c : UInt8} (h1 : ¬ c.toNat < 48) (h2 : ¬ 57 < c.toNat) : isD c = true := by unfold isD; exact decide_eq_true (by omega)
set_option maxRecDepth 100000 in
set_option maxHeartbeats 16000000 in
theorem rpd_any (s : ByteArray) (a : Nat) (U V : List UInt8) (R : Option Rat) (w : World) (hs : s.size ≤ 1000) (ha : a ≤ s.size)
    (hU : s.data.toList.take a = U) (hV : s.data.toList.drop (a + 1) = V)
    (hf : ∀ j (h : j < s.size), j < a → s[j] ≠ 46) (hat : ∀ (h : a < s.size), s[a] = 46)
    (r1 : numB U = false → R = none) (r2 : numB U = true → a = s.size → R = some (qmk false (decV U) 1))
    (r3 : numB U = true → a < s.size → digitsB V = false → R = none) (r4 : numB U = true → a < s.size → digitsB V = true → R = some (qmk false (decV (U ++ V)) (10 ^ V.length))) :
    Calls Tryz.prog 29 #[.string s] w (RP w R) := by
  have X := hide (Q3.new (.bool false) (.slice none 0 0) (.slice none 0 0) w)
  have BB := hide (bl_al (.refl w.heap.size w) (.cells #[.bool false, .slice none 0 0, .slice none 0 0] 24))
  have FS := hide (And.intro hs ha)
  have HU := hide hU
  have HV := hide hV
  have HF := hide hf
  have HAT := hide hat
  have R1 := hide r1
  have R2 := hide r2
  have R3 := hide r3
  have R4 := hide r4
  have ow : IntKind.i64.wrap ((s.size : Int) - 1) = (s.size : Int) - 1 := IntWalk.i64_in _ ⟨by omega, by omega⟩
  clear hs ha hU hV hf hat r1 r2 r3 r4
  go_enter Tryz.func29, Tryz.ntmps29
  go_wp2
  go_loop [4, 5] (fun tv iv => ∃ k t : Nat, k ≤ s.size ∧ t ≤ s.size ∧ iv = .int .i64 ((k : Int) - 1) ∧ tv = .int .i64 (t : Int) ∧ (k ≤ a → t = a)) (fun _ iv => (intOf iv + 1).toNat)
  case atStart => exact ⟨s.size, s.size, Nat.le_refl _, Nat.le_refl _, rfl, rfl, fun h => by have := FS.out.2; omega⟩
  case round =>
    obtain ⟨k, t, hk, ht, rfl, rfl, hka⟩ := hrel
    cases k with
    | succ k =>
      have hlt : k < s.size := by omega
      have n1 : (((k : Nat) + 1 : Nat) : Int) - 1 = (k : Int) := by omega
      rw [n1]
      have hk0 : (0 : Int) ≤ (k : Int) := by omega
      by_cases hc : s[k] = 46
      · have w1 : ((s[k].toNat : Int) == 46) = true := by rw [hc]; rfl
        have KA := hide (show k ≤ a → k = a from fun h => by
          rcases Nat.lt_or_ge k a with h1 | h1
          · exact absurd hc (HF.out k hlt h1)
          · omega)
        have om : IntKind.i64.wrap ((k : Int) - 1) = (k : Int) - 1 := IntWalk.i64_in _ ⟨by omega, by have := FS.out.1; omega⟩
        clear hka hc ht
        go_wp2
        go_round
        case rel => exact ⟨k, k, by omega, by omega, rfl, rfl, KA.out⟩
        case measure => simp [intOf]
      · have w1 : ((s[k].toNat : Int) == 46) = false := byte_no46 hc
        have KA := hide (show k ≤ a → t = a from fun h => by
          rcases Nat.lt_or_ge k a with h1 | h1
          · exact hka (by omega)
          · have e : k = a := by omega
            subst e
            exact absurd (HAT.out hlt) hc)
        have om : IntKind.i64.wrap ((k : Int) - 1) = (k : Int) - 1 := IntWalk.i64_in _ ⟨by omega, by have := FS.out.1; omega⟩
        clear hka hc
        go_wp2
        go_round
        case rel => exact ⟨k, t, by omega, ht, rfl, rfl, KA.out⟩
        case measure => simp [intOf]
    | zero =>
      obtain rfl : a = t := (hka (Nat.zero_le _)).symm
      have ha := FS.out.2
      have hs := FS.out.1
      have e1 := Lib.extract_data s 0 a
      rw [List.drop_zero, Nat.sub_zero, HU.out] at e1
      have NU : Hid (∀ W, Calls Tryz.prog 77 #[.string (s.extract 0 a)] W fun e w' => e = .returned (.bool (numB U)) ∧ W = w') := fun W => by
        have := rnumeral_any (s.extract 0 a) W (by rw [Lib.size_eq, e1, ← HU.out, List.length_take, ← Lib.size_eq]; omega)
        rwa [e1] at this
      have a0 : (0 : Int) ≤ (a : Int) := by omega
      have a1 : (a : Int) ≤ (s.size : Int) := by omega
      clear hka hk ht
      rcases hnu : numB U with _ | _
      · rw [hnu] at NU
        have RE := hide (R1.out hnu)
        obtain ⟨y1, y2, y3, y4, y5, y6⟩ := X.out
        clear hnu e1
        go_wp2_with (go_at_call 77; (with_reducible refine (NU.out _).mono ?_); rintro e w1 ⟨rfl, rfl⟩)
        rw [RE.out]
        exact bodyPost_ret (v := .tuple #[.agg #[.bool false, .slice none 0 0, .slice none 0 0], .int .i64 2]) (by simp [results, Tryz.results29, go_sem, y1, y2, y3]) rfl ⟨rfl, BB.out⟩
      · rw [hnu] at NU
        have ud := numB_digits hnu
        by_cases hlt : a < s.size
        · have ne : ((a : Int) == (s.size : Int)) = false := beq_eq_false_iff_ne.2 (by omega)
          obtain ⟨b, hb1⟩ : ∃ b, a + 1 = b := ⟨_, rfl⟩
          have e2 := Lib.extract_to_end s b
          rw [← hb1, HV.out, hb1] at e2
          have oa : binOp .add 3 (.int .i64 (a : Int)) (.int .i64 1) = pure (.int .i64 (b : Int)) := by
            have e : IntKind.i64.wrap ((a : Int) + 1) = (b : Int) := by rw [IntWalk.i64_in _ ⟨by omega, by omega⟩]; omega
            rw [← e]; rfl
          have vl : V.length = s.size - (a + 1) := by rw [← HV.out, List.length_drop, ← Lib.size_eq]
          have es : (s.extract b s.size).size = V.length := by rw [Lib.size_eq, e2]
          have a2 : (0 : Int) ≤ (b : Int) := by omega
          have a3 : (b : Int) ≤ (s.size : Int) := by omega
          have ul : U.length = a := by rw [← HU.out, List.length_take, ← Lib.size_eq]; omega
          by_cases hv0 : V = []
          · have RE := hide (R3.out hnu hlt (by rw [hv0]; rfl))
            have es0' : s.size - b = 0 := by rw [hv0] at vl; rw [List.length_nil] at vl; omega
            obtain ⟨y1, y2, y3, y4, y5, y6⟩ := X.out
            clear hnu e1 e2 es vl ud ul hv0
            have es1 : (((s.size - b : Nat) : Int) == 0) = true := by rw [es0']; rfl
            go_wp2_with (go_at_call 77; (with_reducible refine (NU.out _).mono ?_); rintro e w1 ⟨rfl, rfl⟩)
            rw [RE.out]
            exact bodyPost_ret (v := .tuple #[.agg #[.bool false, .slice none 0 0, .slice none 0 0], .int .i64 2]) (by simp [results, Tryz.results29, go_sem, y1, y2, y3]) rfl ⟨rfl, BB.out⟩
          · have vp : 0 < V.length := List.length_pos_iff.2 hv0
            have es1 : (((s.size - b : Nat) : Int) == 0) = false := beq_eq_false_iff_ne.2 (by omega)
            have ON := hide (fun W => rone_z W)
            have ON2 : Hid (∀ W, Calls Tryz.prog 68 #[] W fun e w' => ∃ A c, e = .returned (.slice A 1 c) ∧ Sl w' A (digs 1) ∧ Below W.heap.size W w') := fun W => (ON.out W).mono fun _ _ ⟨A, c, h1, h2, h3⟩ => ⟨A, c, by rw [h1, ln_one], h2, h3⟩
            have R3' := hide (R3.out hnu hlt)
            have R4' := hide (R4.out hnu hlt)
            have UD := hide ud.1
            have VL := hide (And.intro vl (And.intro ul vp))
            have LT := hide hlt
            clear hnu e1 e2 es vl ud ul hv0 ON R1 R2 R3 R4 HF HAT vp
            go_wp2_with (first
              | (go_at_call 77; (with_reducible refine (NU.out _).mono ?_); rintro e w1 ⟨rfl, rfl⟩)
              | (go_at_call 68; (with_reducible refine (ON2.out _).mono ?_); rintro e w2 ⟨A2, c2, rfl, s2, hb⟩; have X := hide (X.out.next hb); have BB := hide (bl_trans BB.out hb); have S2 := hide s2; clear s2 hb))
            clear NU ne es1 oa a2 a3 hlt
            go_loopw [7, 8, 9] (fun nv dv iv wr => ∃ (j n d : Nat) (A : Option Addr) (c : Nat) (B : Option Addr) (e : Nat), j ≤ s.size ∧ iv = .int .i64 (j : Int) ∧ nv = .slice A (ln n) c ∧ dv = .slice B (ln d) e ∧ Sl wr A (digs n) ∧ Sl wr B (digs d) ∧ ((j ≤ a ∧ n = decV (s.data.toList.take j) ∧ d = 1) ∨ (∃ m, j = a + 1 + m ∧ n = decV (U ++ V.take m) ∧ d = 10 ^ m ∧ (V.take m).all isD = true)) ∧ Q3 w.heap.size (.bool false) (.slice none 0 0) (.slice none 0 0) wr ∧ Below w.heap.size w wr) (fun _ _ iv _ => s.size - (intOf iv).toNat)
            case atStart => exact ⟨0, 0, 1, none, 0, A2, c2, Nat.zero_le _, rfl, by rw [ln_zero], by rw [ln_one], by rw [digs_zero]; exact .nil, S2.out, .inl ⟨Nat.zero_le _, rfl, rfl⟩, X.out, BB.out⟩
            case round =>
              obtain ⟨j, n, d, A3, c3, B3, e3, hj, rfl, rfl, rfl, sn, sd, ph, hx, hb⟩ := hrel
              have XX := hide hx
              have HB := hide hb
              have SN := hide sn
              have SD := hide sd
              clear hx hb sn sd X BB S2
              have hsz := FS.out.1
              by_cases hjs : j < s.size
              · have oj : IntKind.i64.wrap ((j : Int) + 1) = (j : Int) + 1 := IntWalk.i64_in _ ⟨by omega, by omega⟩
                have hsn := take_snoc s j hjs
                rcases ph with ⟨p1, rfl, rfl⟩ | ⟨m, rfl, rfl, rfl, p4⟩
                · by_cases hja : j = a
                  · subst hja
                    have e1 : ((j : Int) == (j : Int)) = true := beq_self_eq_true _
                    have PH := hide (show decV (s.data.toList.take j) = decV (U ++ V.take 0) by rw [List.take_zero, List.append_nil, HU.out])
                    clear hsn p1
                    go_wp2
                    go_roundw
                    case rel => exact ⟨j + 1, _, 1, A3, c3, B3, e3, by omega, by go_num, rfl, rfl, SN.out, SD.out, .inr ⟨0, rfl, PH.out, rfl, rfl⟩, XX.out, HB.out⟩
                    case measure => simp [intOf]; omega
                  · have e1 : ((j : Int) == (a : Int)) = false := beq_eq_false_iff_ne.2 (by omega)
                    have e2 := gtrI_f 3 (show (j : Int) ≤ (a : Int) by omega)
                    have hd : isD s[j] = true := by
                      refine List.all_eq_true.1 UD.out _ ?_
                      rw [← HU.out]
                      have h2 : (s.data.toList.take a)[j]? = some s[j] := by rw [List.getElem?_take_of_lt (by omega)]; exact byte_get s j hjs
                      exact List.mem_of_getElem? h2
                    unfold isD at hd
                    simp only [decide_eq_true_eq] at hd
                    have w1 : (48 : Int) ≤ (s[j].toNat : Int) := by omega
                    have w2 : (s[j].toNat : Int) ≤ 57 := by omega
                    have Z := hide (show ((s[j].toNat : Int) - 48) = ((digD s[j] : Nat) : Int) by unfold digD; omega)
                    have DL := hide (show digD s[j] < LB by unfold digD; rw [LB_eq]; omega)
                    have ll : ln (decV (s.data.toList.take j)) ≤ 64 := ln_le (Nat.lt_trans (decV_lt (show (s.data.toList.take j).all isD = true by
                      rw [show s.data.toList.take j = U.take j by rw [← HU.out, List.take_take, Nat.min_eq_left (by omega)]]
                      exact all_take UD.out j)) (ten_lt (by have := List.length_take_le j s.data.toList; omega)))
                    have SM := hide (small_ten A3 (ln (decV (s.data.toList.take j))) c3 (digD s[j]) _ _ wr rfl SN.out DL.out Z.out (by omega))
                    rw [← decV_snoc, ← hsn] at SM
                    have SM : Hid (Calls Tryz.prog 79 #[.slice A3 (ln (decV (s.data.toList.take j))) c3, .int .u64 10, .int .u64 ((s[j].toNat : Int) - 48)] wr (Rd wr (decV (s.data.toList.take (j + 1))))) := SM.out.mono fun _ _ h => h.rd rfl
                    have JA := hide (show j + 1 ≤ a by omega)
                    clear hd hsn ll p1 hja
                    go_wp2_with (go_at_call 79; (with_reducible refine (SM.out).mono ?_); rintro ee w5 ⟨A5, c5, rfl, s5, hb5⟩)
                    go_roundw
                    case rel => exact ⟨j + 1, _, 1, A5, c5, B3, e3, by omega, by go_num, rfl, rfl, s5, kp' hb5 SD.out, .inl ⟨JA.out, rfl, rfl⟩, XX.out.next hb5, bl_trans HB.out hb5⟩
                    case measure => simp [intOf]; omega
                · obtain ⟨j, hjj⟩ : ∃ j, a + 1 + m = j := ⟨_, rfl⟩
                  clear hsn
                  rw [hjj] at hjs hj oj ⊢
                  have e1 : ((j : Int) == (a : Int)) = false := beq_eq_false_iff_ne.2 (by omega)
                  have e2 := gtrI_t 3 (show (a : Int) < (j : Int) by omega)
                  have hvm : V[m]? = some s[j] := by rw [← HV.out, List.getElem?_drop, hjj]; exact byte_get s j hjs
                  have hml : m < V.length := by have := VL.out.1; omega
                  by_cases h1 : s[j].toNat < 48
                  · have RE := hide (R3'.out (notD' (List.mem_of_getElem? hvm) (by unfold isD; exact decide_eq_false (by omega))))
                    have h1' : (s[j].toNat : Int) < 48 := by omega
                    obtain ⟨y1, y2, y3, y4, y5, y6⟩ := XX.out
                    clear p4 hvm hml h1
                    go_wp2
                    rw [RE.out]
                    exact bodyPost_ret (v := .tuple #[.agg #[.bool false, .slice none 0 0, .slice none 0 0], .int .i64 2]) (by simp [results, Tryz.results29, go_sem, y1, y2, y3]) rfl ⟨rfl, Below.over3 HB.out (Nat.le_refl _) _ _ _⟩
                  · have h1' : (48 : Int) ≤ (s[j].toNat : Int) := by omega
                    by_cases h2 : 57 < s[j].toNat
                    · have RE := hide (R3'.out (notD' (List.mem_of_getElem? hvm) (by unfold isD; exact decide_eq_false (by omega))))
                      have h2' : (57 : Int) < (s[j].toNat : Int) := by omega
                      obtain ⟨y1, y2, y3, y4, y5, y6⟩ := XX.out
                      clear p4 hvm hml h1 h2
                      go_wp2
                      rw [RE.out]
                      exact bodyPost_ret (v := .tuple #[.agg #[.bool false, .slice none 0 0, .slice none 0 0], .int .i64 2]) (by simp [results, Tryz.results29, go_sem, y1, y2, y3]) rfl ⟨rfl, Below.over3 HB.out (Nat.le_refl _) _ _ _⟩
                    · have h2' : (s[j].toNat : Int) ≤ 57 := by omega
                      have hd := isD_of h1 h2
                      have hvs : V.take (m + 1) = V.take m ++ [s[j]] := by rw [List.take_add_one, hvm]; rfl
                      have PA := hide (show (V.take (m + 1)).all isD = true by rw [hvs, List.all_append, p4]; simp [hd])
                      have Z := hide (show ((s[j].toNat : Int) - 48) = ((digD s[j] : Nat) : Int) by unfold digD; omega)
                      have DL := hide (show digD s[j] < LB by unfold digD; rw [LB_eq]; omega)
                      have uv : (U ++ V.take m).all isD = true := by rw [List.all_append, UD.out, p4]; rfl
                      have ll : ln (decV (U ++ V.take m)) ≤ 64 := ln_le (Nat.lt_trans (decV_lt uv) (ten_lt (by rw [List.length_append, List.length_take]; have := VL.out.1; have := VL.out.2.1; omega)))
                      have l2 : ln (10 ^ m) ≤ 64 := ln_le (ten_lt (by have := VL.out.1; omega))
                      have SM := hide (small_ten A3 (ln (decV (U ++ V.take m))) c3 (digD s[j]) _ _ wr rfl SN.out DL.out Z.out (by omega))
                      rw [← decV_snoc, List.append_assoc, ← hvs] at SM
                      have SM : Hid (Calls Tryz.prog 79 #[.slice A3 (ln (decV (U ++ V.take m))) c3, .int .u64 10, .int .u64 ((s[j].toNat : Int) - 48)] wr (Rd wr (decV (U ++ V.take (m + 1))))) := SM.out.mono fun _ _ h => h.rd rfl
                      have S0 : Hid (∀ W, Below wr.heap.size wr W → Calls Tryz.prog 79 #[.slice B3 (ln (10 ^ m)) e3, .int .u64 10, .int .u64 0] W (Rd W (10 ^ (m + 1)))) := fun W k => (small_ten B3 (ln (10 ^ m)) e3 0 _ 0 W rfl (kp' k SD.out) (by rw [LB_eq]; decide) rfl (by omega)).mono fun _ _ h => h.rd (by rw [Nat.pow_succ, Nat.add_zero])
                      have JJ := hide hjj
                      clear hd ll l2 p4 hvm hml h1 h2 hvs uv hjj
                      go_wp2_with (first
                        | (go_at_call 79; (with_reducible refine (SM.out).mono ?_); rintro ee w5 ⟨A5, c5, rfl, s5, hb5⟩; have S5 := hide s5; clear s5)
                        | (go_at_call 79; (with_reducible refine (S0.out _ hb5).mono ?_); rintro ee w6 ⟨A6, c6, rfl, s6, hb6⟩))
                      go_roundw
                      case rel => exact ⟨j + 1, _, _, A5, c5, A6, c6, by omega, by go_num, rfl, rfl, kp' hb6 S5.out, s6, .inr ⟨m + 1, by have := JJ.out; omega, rfl, rfl, PA.out⟩, (XX.out.next hb5).next hb6, bl_trans HB.out (bl_trans hb5 hb6)⟩
                      case measure => simp [intOf]; omega
              · rcases ph with ⟨p1, _, _⟩ | ⟨m, hjm, rfl, rfl, p4⟩
                · have := LT.out; omega
                · have hm : m = V.length := by have := VL.out.1; omega
                  rw [hm, List.take_length] at p4 SN
                  rw [hm] at SD
                  rw [hm, List.take_length]
                  have hdv : digitsB V = true := by unfold digitsB; rw [p4, Bool.true_and, decide_eq_true (List.ne_nil_of_length_pos VL.out.2.2)]
                  obtain ⟨q, hq⟩ : ∃ q, qmk false (decV (U ++ V)) (10 ^ V.length) = q := ⟨_, rfl⟩
                  have RE := hide ((R4'.out hdv).trans (congrArg some hq))
                  have uv : (U ++ V).all isD = true := by rw [List.all_append, UD.out, p4]; rfl
                  have uvl : (U ++ V).length ≤ 1000 := by rw [List.length_append]; have := VL.out.1; have := VL.out.2.1; omega
                  have vl1 : V.length ≤ 1000 := by have := VL.out.1; omega
                  have fq : fitq q := by rw [← hq]; exact dec_fit V.length uvl uv vl1
                  have l1 : ln (decV (U ++ V)) ≤ 64 := ln_le (Nat.lt_trans (decV_lt uv) (ten_lt uvl))
                  have l2 : ln (10 ^ V.length) ≤ 64 := ln_le (ten_lt vl1)
                  have MD := hide (rmade_q false A3 B3 c3 e3 (decV (U ++ V)) (10 ^ V.length) q wr SN.out SD.out (Nat.le_trans l1 (by decide)) (Nat.le_trans l2 (by decide)) (Nat.pow_pos (by decide)) hq)
                  have FT := hide (fun X Y e f W (sx : Sl W X (digs (qn q))) (sy : Sl W Y (digs (qd q))) => rfits_q q X Y e f W sx sy fq)
                  have hge := lssI_f 3 (show (s.size : Int) ≤ (j : Int) by omega)
                  obtain rfl : s.size = j := by omega
                  clear hdv hq uv uvl vl1 fq l1 l2 p4 hm hjm hjs R3' R4' VL
                  generalize ln (decV (U ++ V)) = i1 at *
                  generalize ln (10 ^ V.length) = i2 at *
                  go_wp2_with (first
                    | (go_at_call 53; (with_reducible refine (MD.out).mono ?_); rintro e w7 ⟨A7, c7, B7, d7, rfl, s7, t7, hb7⟩; have XX := hide (XX.out.next hb7); have HB := hide (bl_trans HB.out hb7))
                    | (go_at_call 49; (with_reducible refine (FT.out A7 B7 c7 d7 _ s7 t7).mono ?_); rintro e w8 ⟨A8, c8, B8, d8, rfl, s8, t8, hb8⟩; have XX := hide (XX.out.next hb8); have HB := hide (bl_trans HB.out hb8); obtain ⟨y1, y2, y3, y4, y5, y6⟩ := XX.out))
                  rw [RE.out]
                  exact bodyPost_ret (v := .tuple #[.agg #[.bool (qs q), .slice A8 (ln (qn q)) c8, .slice B8 (ln (qd q)) d8], .int .i64 0]) (by simp [results, Tryz.results29, go_sem, y1, y2, y3]) rfl (RQE.mk rfl rfl rfl (s8.over3 XX.out _ _ _) (t8.over3 XX.out _ _ _) (Below.over3 HB.out (Nat.le_refl _) _ _ _))
        · have ae : a = s.size := by omega
          have ne : ((a : Int) == (s.size : Int)) = true := by rw [ae]; exact beq_self_eq_true _
          have us : s.data.toList = U := by rw [← HU.out, ae, List.take_of_length_le (by rw [← Lib.size_eq]; exact Nat.le_refl _)]
          obtain ⟨q, hq⟩ : ∃ q, qmk false (decV U) 1 = q := ⟨_, rfl⟩
          have RE := hide ((R2.out hnu ae).trans (congrArg some hq))
          have PR := hide (fun W => rparseRat_n s W hs (by rw [us]; unfold digitsB; rw [ud.1, Bool.true_and]; exact decide_eq_true ud.2) q (by rw [us]; exact hq))
          clear hnu e1 ud us hq ae hlt R1 R2 R3 R4
          go_wp2_with (first
            | (go_at_call 77; (with_reducible refine (NU.out _).mono ?_); rintro e w1 ⟨rfl, rfl⟩)
            | (go_at_call 78; (with_reducible refine (PR.out _).mono ?_); rintro e w8 ⟨A8, c8, B8, d8, rfl, s8, t8, hb8⟩; have XX := hide (X.out.next hb8); have HB := hide (bl_trans BB.out hb8); obtain ⟨y1, y2, y3, y4, y5, y6⟩ := XX.out))
          rw [RE.out]
          exact bodyPost_ret (v := .tuple #[.agg #[.bool (qs q), .slice A8 (ln (qn q)) c8, .slice B8 (ln (qd q)) d8], .int .i64 0]) (by simp [results, Tryz.results29, go_sem, y1, y2, y3]) rfl (RQE.mk rfl rfl rfl (s8.over3 XX.out _ _ _) (t8.over3 XX.out _ _ _) (Below.over3 HB.out (Nat.le_refl _) _ _ _))
end Nt

end Go.Proofs.YtboppbidldomhaaGreatDoor

namespace Go.Proofs.YtboppbidldomhaaGreatDoor

open Go.RowKit

namespace Nt

theorem padw_snoc (K V : Nat) (hK : 1 ≤ K) : padW (K + 1) V = padW K (V / 10) ++ [UInt8.ofNat (48 + V % 10)] := by
  unfold padW
  by_cases h : V < 10
  · rw [dec_small h, show V / 10 = 0 by omega, show Lib.decDigits 0 = [48] from dec_small (by decide), Nat.mod_eq_of_lt h]
    obtain ⟨k, rfl⟩ : ∃ k, K = k + 1 := ⟨K - 1, by omega⟩
    simp only [List.length_cons, List.length_nil]
    rw [show k + 1 + 1 - (0 + 1) = k + 1 by omega, show k + 1 - (0 + 1) = k by omega, List.replicate_succ', List.append_assoc]
  · rw [dec_big h, List.length_append, List.length_cons, List.length_nil, show K + 1 - ((Lib.decDigits (V / 10)).length + (0 + 1)) = K - (Lib.decDigits (V / 10)).length by omega, List.append_assoc]
theorem padw_one {V : Nat} (h : V < 10) : padW 1 V = [UInt8.ofNat (48 + V)] := by
  unfold padW
  rw [dec_small h]
  rfl
theorem padw_split (P : Nat) : ∀ V, padW (P + 1 + 1) V = Lib.decDigits (V / 10 ^ (P + 1)) ++ padW (P + 1) (V % 10 ^ (P + 1)) := by
  induction P with
  | zero =>
    intro V
    rw [show 10 ^ (0 + 1) = 10 from rfl, padw_one (Nat.mod_lt _ (by decide)), padw_snoc 1 V (by decide)]
    congr 1
    unfold padW
    rw [show 1 - (Lib.decDigits (V / 10)).length = 0 by
      have h := (textp (V / 10)).1
      unfold digitsB at h
      simp only [Bool.and_eq_true, decide_eq_true_eq] at h
      have := List.length_pos_iff.2 h.2
      omega]
    rfl
  | succ P ih =>
    intro V
    rw [padw_snoc (P + 1 + 1) V (by omega), ih (V / 10), padw_snoc (P + 1) (V % 10 ^ (P + 1 + 1)) (by omega), List.append_assoc]
    have e1 : V / 10 / 10 ^ (P + 1) = V / 10 ^ (P + 1 + 1) := by rw [Nat.div_div_eq_div_mul, Nat.pow_succ 10 (P + 1), Nat.mul_comm 10]
    have e2 : V / 10 % 10 ^ (P + 1) = V % 10 ^ (P + 1 + 1) / 10 := by
      rw [Nat.pow_succ 10 (P + 1), Nat.mul_comm _ 10, Nat.mod_mul_right_div_self]
    have e3 : V % 10 = V % 10 ^ (P + 1 + 1) % 10 := by
      rw [Nat.pow_succ 10 (P + 1), Nat.mul_comm _ 10, Nat.mod_mul_right_mod]
    rw [e1, e2, e3]
theorem padw_last (K V : Nat) (hK : 1 ≤ K) (hV : V < 10 ^ K) (h : V % 10 ≠ 0) : (padW K V).getLast? ≠ some 48 := by
  have key : ∃ L, padW K V = L ++ [UInt8.ofNat (48 + V % 10)] := by
    by_cases h1 : K = 1
    · subst h1
      rw [Nat.pow_one] at hV
      exact ⟨[], by rw [padw_one hV, Nat.mod_eq_of_lt hV]; rfl⟩
    · obtain ⟨k, rfl⟩ : ∃ k, K = k + 1 := ⟨K - 1, by omega⟩
      exact ⟨_, padw_snoc k V (by omega)⟩
  obtain ⟨L, hL⟩ := key
  rw [hL, List.getLast?_concat]
  intro e
  injection e with e
  have := congrArg UInt8.toNat e
  rw [UInt8.toNat_ofNat'] at this
  have h2 : (48 : UInt8).toNat = 48 := rfl
  omega
theorem no_ten {x c a b den n : Nat} (hden : den = 2 ^ a * 5 ^ b) (hP : 1 ≤ max a b) (hc : 10 ^ max a b = den * c) (hx : n % den = x) (hcop : Nat.gcd n den = 1) : x * c % 10 ≠ 0 := by
  intro h0
  have h10 : 10 ∣ x * c := Nat.dvd_of_mod_eq_zero h0
  have hg : Nat.gcd x den = 1 := by rw [← hx, ← Nat.gcd_rec, Nat.gcd_comm]; exact hcop
  have e10 : ∀ m, 10 ^ m = 2 ^ m * 5 ^ m := fun m => by rw [← Nat.mul_pow]
  have dp : 0 < den := by rw [hden]; exact Nat.mul_pos (Nat.pow_pos (by decide)) (Nat.pow_pos (by decide))
  rcases Nat.le_total b a with hab | hab
  · rw [Nat.max_eq_left hab] at hP hc
    have ec : c = 5 ^ (a - b) := by
      apply Nat.eq_of_mul_eq_mul_left dp
      rw [← hc, e10, hden, Nat.mul_assoc, ← Nat.pow_add, Nat.add_sub_cancel' hab]
    have h2 : 2 ∣ x := by
      have : 2 ∣ x * c := Nat.dvd_trans ⟨5, rfl⟩ h10
      rw [ec] at this
      exact Nat.Coprime.dvd_of_dvd_mul_right (Nat.Coprime.pow_right (a - b) (by decide : Nat.Coprime 2 5)) this
    have h3 : 2 ∣ den := by
      rw [hden]
      obtain ⟨k, rfl⟩ : ∃ k, a = k + 1 := ⟨a - 1, by omega⟩
      rw [Nat.pow_succ, Nat.mul_comm (2 ^ k), Nat.mul_assoc]
      exact ⟨_, rfl⟩
    have := Nat.dvd_gcd h2 h3
    rw [hg] at this
    exact absurd this (by decide)
  · rw [Nat.max_eq_right hab] at hP hc
    have ec : c = 2 ^ (b - a) := by
      apply Nat.eq_of_mul_eq_mul_left dp
      rw [← hc, e10, hden, Nat.mul_right_comm, ← Nat.pow_add, Nat.add_sub_cancel' hab]
    have h2 : 5 ∣ x := by
      have : 5 ∣ x * c := Nat.dvd_trans ⟨2, rfl⟩ h10
      rw [ec] at this
      exact Nat.Coprime.dvd_of_dvd_mul_right (Nat.Coprime.pow_right (b - a) (by decide : Nat.Coprime 5 2)) this
    have h3 : 5 ∣ den := by
      rw [hden]
      obtain ⟨k, rfl⟩ : ∃ k, b = k + 1 := ⟨b - 1, by omega⟩
      rw [Nat.pow_succ, Nat.mul_comm (5 ^ k), ← Nat.mul_assoc, Nat.mul_comm _ 5, Nat.mul_assoc]
      exact ⟨_, rfl⟩
    have := Nat.dvd_gcd h2 h3
    rw [hg] at this
    exact absurd this (by decide)
/-- What the digits are, of a divisor of twos and fives. -/
theorem digits_of (q : Rat) (a b : Nat) (hden : qd q = 2 ^ a * 5 ^ b) (P : Nat) (hP : max a b = P) (V : Nat) (hV : qn q * 10 ^ P / qd q = V) :
    (P = 0 → ExactOf q (padW (P + 1) V ++ [46, 48])) ∧ (1 ≤ P → P ≤ 90000 → ∃ m, m + P = (padW (P + 1) V).length ∧ ExactOf q ((padW (P + 1) V).take m ++ 46 :: (padW (P + 1) V).drop m)) := by
  have hcop : Nat.gcd (qn q) (qd q) = 1 := q_cop q
  have hd : qd q ∣ 10 ^ P := by
    rw [hden, show (10 : Nat) = 2 * 5 from rfl, Nat.mul_pow]
    exact Nat.mul_dvd_mul (Nat.pow_dvd_pow 2 (by omega)) (Nat.pow_dvd_pow 5 (by omega))
  obtain ⟨c, hc⟩ := hd
  have c0 : 0 < c := by
    rcases Nat.eq_zero_or_pos c with e | e
    · rw [e, Nat.mul_zero] at hc
      have : 0 < 10 ^ P := Nat.pow_pos (by decide)
      omega
    · exact e
  have eV : V = qn q * c := by
    rw [← hV, hc, Nat.mul_left_comm, Nat.mul_div_cancel_left _ (qd_pos q)]
  have u1 : V / 10 ^ P = qn q / qd q := by rw [eV, hc, Nat.mul_div_mul_right _ _ c0]
  have u2 : V % 10 ^ P = qn q % qd q * c := by rw [eV, hc, Nat.mul_mod_mul_right]
  constructor
  · rintro rfl
    rw [Nat.pow_zero] at hc u1 u2
    have hd1 : qd q = 1 := Nat.eq_one_of_mul_eq_one_right hc.symm
    rw [Nat.div_one] at u1
    have hp : padW (0 + 1) V = Lib.decDigits (qn q / qd q) := by
      unfold padW
      rw [u1, show 0 + 1 - (Lib.decDigits (qn q / qd q)).length = 0 by
        have h := (textp (qn q / qd q)).1
        unfold digitsB at h
        simp only [Bool.and_eq_true, decide_eq_true_eq] at h
        have := List.length_pos_iff.2 h.2
        omega]
      rfl
    rw [hp]
    exact exactOf_zero (by rw [hd1, Nat.mod_one])
  · intro hP1 hP2
    obtain ⟨k, rfl⟩ : ∃ k, P = k + 1 := ⟨P - 1, by omega⟩
    have hf : V % 10 ^ (k + 1) < 10 ^ (k + 1) := Nat.mod_lt _ (Nat.pow_pos (by decide))
    have sp := padw_split k V
    have hl := padw_len (K := k + 1) (by omega) hf
    refine ⟨(Lib.decDigits (V / 10 ^ (k + 1))).length, by rw [sp, List.length_append, hl], ?_⟩
    rw [sp, List.take_left', List.drop_left', u1]
    · refine ⟨_, rfl, padw_all _ _, List.ne_nil_of_length_pos (by rw [hl]; omega), .inr ?_, ?_, by rw [hl]; exact hP2⟩
      · refine padw_last _ _ (by omega) hf ?_
        rw [u2]
        exact no_ten hden (by omega) (by rw [hP]; exact hc) rfl hcop
      · rw [padw_val, hl, u2, hc, Nat.mul_assoc, Nat.mul_comm c]
    · rfl
    · rfl
end Nt

end Go.Proofs.YtboppbidldomhaaGreatDoor

namespace Go.Proofs.YtboppbidldomhaaGreatDoor

open Go.RowKit

namespace Nt

theorem two_le {d a b den m : Nat} (h : den = d * 2 ^ a * 5 ^ b) (hp : 0 < d) (hd : den < 2 ^ m) : a < m ∧ b < m := by
  have p2 : 0 < 2 ^ a := Nat.pow_pos (by decide)
  have p5 : 0 < 5 ^ b := Nat.pow_pos (by decide)
  have h1 : 2 ^ a ≤ den := by rw [h, Nat.mul_right_comm]; exact Nat.le_mul_of_pos_left _ (Nat.mul_pos hp p5)
  have h2 : 5 ^ b ≤ den := by rw [h]; exact Nat.le_mul_of_pos_left _ (Nat.mul_pos hp p2)
  have h3 : 2 ^ b ≤ 5 ^ b := Nat.pow_le_pow_left (by decide) b
  exact ⟨(Nat.pow_lt_pow_iff_right (by decide)).1 (Nat.lt_of_le_of_lt h1 hd), (Nat.pow_lt_pow_iff_right (by decide)).1 (Nat.lt_of_le_of_lt (Nat.le_trans h3 h2) hd)⟩
theorem pow_le_lb {x k : Nat} (h : x ≤ 64 * k) : 2 ^ x ≤ LB ^ k := by
  rw [lbk]
  exact Nat.pow_le_pow_right (by decide) h
theorem num_ten {n j : Nat} (h : n < LB ^ 8) (hj : j ≤ 600) : ln (n * 10 ^ j) ≤ 100 := by
  have e1 : (10 : Nat) ^ j ≤ 2 ^ (4 * j) := by rw [Nat.pow_mul]; exact Nat.pow_le_pow_left (by decide) j
  have e2 : (2 : Nat) ^ (4 * j) ≤ LB ^ 40 := pow_le_lb (by omega)
  refine Nat.le_trans (ln_le (k := 8 + 40) ?_) (by decide)
  rw [Nat.pow_add]
  exact Nat.mul_lt_mul_of_lt_of_le h (Nat.le_trans e1 e2) (Nat.pow_pos LB_pos)
theorem dec_short {N : Nat} (h : ln N ≤ 100) : (Lib.decDigits N).length ≤ 20000 := by
  obtain ⟨m, hm⟩ : ∃ m, m = 64 * 100 := ⟨_, rfl⟩
  have h1 := lt_two (lt_of_ln h) hm
  have e1 : (2 : Nat) ^ m ≤ 10 ^ m := Nat.pow_le_pow_left (by decide) _
  obtain ⟨k, hk⟩ : ∃ k, m = k + 1 := ⟨m - 1, by omega⟩
  rw [hk] at h1 e1
  have h2 := dec_len_le (Nat.lt_of_lt_of_le h1 e1)
  omega
set_option linter.unusedSimpArgs false in
set_option maxRecDepth 100000 in
set_option maxHeartbeats 16000000 in
theorem rexact_any (q : Rat) (A B : Option Addr) (a b : Nat) (w : World) (sA : Sl w A (digs (qn q))) (sB : Sl w B (digs (qd q))) (hn8 : ln (qn q) ≤ 8) (hd8 : ln (qd q) ≤ 8) (hs : qs q = false) :
    Calls Tryz.prog 31 #[.agg #[.bool false, .slice A (ln (qn q)) a, .slice B (ln (qd q)) b]] w fun e w' => ∃ D ok, e = .returned (.tuple #[.string D, .bool ok]) ∧ XFact q D ok ∧ Below w.heap.size w w' := by
  have f1 : fitq q := ⟨by omega, by omega⟩
  have V1 := hide (fun W (k : Below w.heap.size w W) => rvalid_q q A B a b W (kp' k sA) (kp' k sB) f1)
  rw [hs] at V1
  obtain ⟨M, hM⟩ : ∃ M, M = 64 * 8 := ⟨_, rfl⟩
  have HD := hide (And.intro (lt_two (lt_of_ln hd8) hM) hM)
  have HN := hide (lt_of_ln hn8)
  have H8 := hide (And.intro hn8 hd8)
  have KA := hide (K6.cons (K6.cons (K6.nil (.refl _ w)) sB) sA)
  obtain ⟨i1, hi1⟩ : ∃ i, ln (qn q) = i := ⟨_, rfl⟩
  obtain ⟨i2, hi2⟩ : ∃ i, ln (qd q) = i := ⟨_, rfl⟩
  have HI := hide (And.intro hi1 hi2)
  rw [hi1, hi2] at V1 ⊢
  clear sA sB hn8 hd8 f1 hM hi1 hi2
  have X1 := hide (Q3.new (.bool false) (.slice A i1 a) (.slice B i2 b) w)
  have b0 : Below w.heap.size w (w.alloc (.cells #[.bool false, .slice A i1 a, .slice B i2 b] 24)) := bl_al (.refl _ _) _
  go_enter Tryz.func31, Tryz.ntmps31
  go_wp2_with (go_at_call 26; (with_reducible refine (V1.out _ b0).mono ?_); rintro e w1 ⟨rfl, hb⟩; have X1 := hide (X1.out.next hb); have KA := hide ((KA.out.al (.cells #[.bool false, .slice A i1 a, .slice B i2 b] 24)).next hb); obtain ⟨x1, x2, x3, x4, x5, x6⟩ := X1.out; clear hb)
  go_region
  go_wp2
  have X1 := hide X1.out.drew
  have KA := hide KA.out.drew
  clear x1 x2 x3 x4 x5 x6 b0
  go_loopw [5, 6, 7, 8, 9, 10, 11] (fun dv pv kv _ _ _ _ wr => ∃ (k d pl α β : Nat) (C : Option Addr) (c : Nat), k ≤ 2 ∧ kv = .int .i64 (k : Int) ∧ dv = .slice C (ln d) c ∧ pv = .int .i64 (pl : Int) ∧ pl = max α β ∧ qd q = d * 2 ^ α * 5 ^ β ∧ 0 < d ∧ (k = 0 → α = 0) ∧ (k ≤ 1 → β = 0) ∧ (1 ≤ k → ¬ 2 ∣ d) ∧ (2 ≤ k → ¬ 5 ∣ d) ∧ Sl wr C (digs d) ∧ K6 w [(A, digs (qn q)), (B, digs (qd q))] wr ∧ Q3 w.heap.size (.bool false) (.slice A i1 a) (.slice B i2 b) wr) (fun _ _ kv _ _ _ _ _ => 2 - (intOf kv).toNat)
  case atStart => exact ⟨0, qd q, 0, 0, 0, B, b, by decide, rfl, by rw [HI.out.2], rfl, rfl, by simp, qd_pos q, fun _ => rfl, fun _ => rfl, fun h => absurd h (by decide), fun h => absurd h (by decide), KA.out.sl nem2, KA.out, X1.out⟩
  case round =>
    obtain ⟨k, d, pl, α, β, C, c, hk, rfl, rfl, rfl, hpl, hden, dp, ha, hb, h2, h5, sd, hkb, hx⟩ := hrel
    have KB := hide hkb
    have Y := hide hx
    have SD := hide sd
    have FD := hide (And.intro hpl (And.intro hden (And.intro dp (And.intro ha (And.intro hb (And.intro h2 h5))))))
    clear hkb hx sd hpl hden dp ha hb h2 h5 KA X1
    by_cases hk0 : k = 0
    · subst hk0
      rw [show ((0 : Nat) : Int) = 0 from rfl]
      have c1 : binOp .lss 3 (.int .i64 0) (.int .i64 2) = pure (.bool true) := rfl
      have cv := (cell_new wr #[.int .u64 2, .int .u64 5] 45 0).trans rfl
      have b1 : Below wr.heap.size wr (wr.alloc (.cells #[.int .u64 2, .int .u64 5] 45)) := bl_al (.refl _ _) _
      have KB := hide (KB.out.next b1)
      have Y := hide (Y.out.next b1)
      have SD := hide (kp' b1 SD.out)
      go_wp2
      clear c1 cv b1
      go_loopw [5, 9, 10, 11] (fun dv tv _ _ wr => ∃ (d t : Nat) (C : Option Addr) (c : Nat), dv = .slice C (ln d) c ∧ tv = .int .i64 (t : Int) ∧ qd q = d * 2 ^ t * 5 ^ 0 ∧ 0 < d ∧ True ∧ Sl wr C (digs d) ∧ K6 w [(A, digs (qn q)), (B, digs (qd q))] wr ∧ Q3 w.heap.size (.bool false) (.slice A i1 a) (.slice B i2 b) wr) (fun dv _ _ _ wr => readV wr dv)
      case atStart => exact ⟨d, 0, C, c, rfl, rfl, by have h := FD.out.2.1; rw [FD.out.2.2.2.1 (by first | rfl | trivial), FD.out.2.2.2.2.1 (by decide)] at h; exact h, FD.out.2.2.1, trivial, SD.out, KB.out, Y.out⟩
      case round =>
        obtain ⟨e, t, C7, c7, rfl, rfl, eden, ep, e2, se, hkb, hx⟩ := hrel
        have KE := hide hkb
        have YE := hide hx
        have SE := hide se
        have el : ln e ≤ 8 := Nat.le_trans (ln_mono (Nat.le_of_dvd (qd_pos q) ⟨_, by rw [eden, Nat.mul_assoc]⟩)) H8.out.2
        have tb := two_le eden ep HD.out.1
        have hM := HD.out.2
        obtain ⟨u, hu⟩ : ∃ u, e / 2 = u := ⟨_, rfl⟩
        obtain ⟨v, hv⟩ : ∃ v, e % 2 = v := ⟨_, rfl⟩
        have ep1 : digs 2 = [2] := digs1 (by decide) (by decide)
        have s0 := litSl wr #[.int .u64 2] [2] rfl rfl
        rw [← ep1] at s0
        have b1 : Below wr.heap.size wr (wr.alloc (.cells #[.int .u64 2] 45)) := bl_al (.refl _ _) _
        have DV : Hid (∀ W f, Below wr.heap.size wr W → Sl W (some ⟨wr.heap.size, 0, none⟩) (digs 2) → Calls Tryz.prog 84 #[.slice C7 (ln e) c7, .slice (some ⟨wr.heap.size, 0, none⟩) 1 f] W fun e w' => ∃ A c B d, e = .returned (.tuple #[.slice A (ln u) c, .slice B (ln v) d]) ∧ Sl w' A (digs u) ∧ Sl w' B (digs v) ∧ Below W.heap.size W w') := fun W f k s1 => by
          have := rdivmod_num C7 (some ⟨wr.heap.size, 0, none⟩) c7 f e 2 (ln e) 1 W rfl (by rw [ep1]; rfl) (kp' k SE.out) s1 (Nat.le_trans el (by decide)) (by decide) (by decide)
          rw [hu, hv] at this
          exact this
        have M1 := hide (readV_sl se (ln e) c7 rfl)
        clear hkb hx se ep1
        by_cases hv0 : v = 0
        · have dv : 2 ∣ e := Nat.dvd_of_mod_eq_zero (by rw [hv]; exact hv0)
          have ed : e = 2 * u := by rw [← hu]; exact (Nat.mul_div_cancel' dv).symm
          have up : 0 < u := by omega
          have FU := hide (show u < e ∧ 0 < u ∧ qd q = u * 2 ^ (t + 1) * 5 ^ 0 ∧ True from ⟨by omega, up, by rw [eden, ed, Nat.pow_succ, Nat.mul_comm 2 u, Nat.mul_assoc u 2, Nat.mul_comm 2 (2 ^ t)], trivial⟩)
          have ot : IntKind.i64.wrap ((t : Int) + 1) = (t : Int) + 1 := IntWalk.i64_in _ ⟨by omega, by omega⟩
          have hl0 : ln v = 0 := by rw [hv0, ln_zero]
          rw [hl0] at DV
          clear hv0 dv ed up eden e2 hu hv ep el tb FD SD KB Y hl0 hM
          go_wp2_with (go_at_call 84; (with_reducible refine (DV.out _ _ b1 s0).mono ?_); rintro e w5 ⟨A8, c8, B8, d8, rfl, s8, t8, hb⟩; have b8 := bl_trans b1 hb; have S8 := hide s8; clear s8 t8 hb)
          go_wp2
          go_roundw
          case rel => exact ⟨u, t + 1, A8, c8, rfl, by go_num, FU.out.2.2.1, FU.out.2.1, FU.out.2.2.2, S8.out, KE.out.next b8, YE.out.next b8⟩
          case measure =>
            have M2 := readV_sl S8.out (ln u) c8 rfl
            rw [M1.out, M2, val_digs, val_digs]
            exact FU.out.1
        · obtain ⟨m, hm⟩ : ∃ m : Nat, max pl t = m := ⟨_, rfl⟩
          have hmx : ∀ ts ty W, (Builtin.max_ ts ty #[.int .i64 (pl : Int), .int .i64 (t : Int)]).run Tryz.prog W = .ok (.int .i64 (m : Int)) W := fun ts ty W => by
            rw [run_max_int2]
            congr 2
            split <;> omega
          have FE := hide (show 0 < e ∧ ¬ 2 ∣ e ∧ qd q = e * 2 ^ t * 5 ^ 0 ∧ True ∧ m = max t 0 from ⟨ep, fun c => hv0 (by rw [← hv]; exact Nat.mod_eq_zero_of_dvd c), eden, e2, by rw [← hm, FD.out.1, FD.out.2.2.2.1 (by first | rfl | trivial), FD.out.2.2.2.2.1 (by decide)]; omega⟩)
          have hl0 : (0 : Int) < (ln v : Int) := by have := ln_pos.2 (show 0 < v by omega); omega
          have oi : IntKind.i64.wrap ((0 : Int) + 1) = 1 := rfl
          clear hv0 eden e2 hu hv ep el tb FD SD KB Y hm hM
          go_wp2_with (go_at_call 84; (with_reducible refine (DV.out _ _ b1 s0).mono ?_); rintro e w5 ⟨A8, c8, B8, d8, rfl, s8, t8, hb⟩; have b8 := bl_trans b1 hb; clear s8 t8 hb)
          go_wp2
          go_roundw
          case rel => exact ⟨0 + 1, e, m, t, 0, C7, c7, by decide, rfl, rfl, rfl, FE.out.2.2.2.2, FE.out.2.2.1, FE.out.1, fun h => absurd h (by decide), fun _ => rfl, fun _ => FE.out.2.1, fun h => absurd h (by decide), kp' b8 SE.out, KE.out.next b8, YE.out.next b8⟩
          case measure => simp [intOf]
    by_cases hk1 : k = 1
    · subst hk1
      rw [show ((1 : Nat) : Int) = 1 from rfl]
      have c1 : binOp .lss 3 (.int .i64 1) (.int .i64 2) = pure (.bool true) := rfl
      have cv := (cell_new wr #[.int .u64 2, .int .u64 5] 45 1).trans rfl
      have b1 : Below wr.heap.size wr (wr.alloc (.cells #[.int .u64 2, .int .u64 5] 45)) := bl_al (.refl _ _) _
      have KB := hide (KB.out.next b1)
      have Y := hide (Y.out.next b1)
      have SD := hide (kp' b1 SD.out)
      go_wp2
      clear c1 cv b1
      go_loopw [5, 9, 10, 11] (fun dv tv _ _ wr => ∃ (d t : Nat) (C : Option Addr) (c : Nat), dv = .slice C (ln d) c ∧ tv = .int .i64 (t : Int) ∧ qd q = d * 2 ^ α * 5 ^ t ∧ 0 < d ∧ ¬ 2 ∣ d ∧ Sl wr C (digs d) ∧ K6 w [(A, digs (qn q)), (B, digs (qd q))] wr ∧ Q3 w.heap.size (.bool false) (.slice A i1 a) (.slice B i2 b) wr) (fun dv _ _ _ wr => readV wr dv)
      case atStart => exact ⟨d, 0, C, c, rfl, rfl, by have h := FD.out.2.1; rw [FD.out.2.2.2.2.1 (by decide)] at h; exact h, FD.out.2.2.1, FD.out.2.2.2.2.2.1 (by decide), SD.out, KB.out, Y.out⟩
      case round =>
        obtain ⟨e, t, C7, c7, rfl, rfl, eden, ep, e2, se, hkb, hx⟩ := hrel
        have KE := hide hkb
        have YE := hide hx
        have SE := hide se
        have el : ln e ≤ 8 := Nat.le_trans (ln_mono (Nat.le_of_dvd (qd_pos q) ⟨_, by rw [eden, Nat.mul_assoc]⟩)) H8.out.2
        have tb := two_le eden ep HD.out.1
        have hM := HD.out.2
        obtain ⟨u, hu⟩ : ∃ u, e / 5 = u := ⟨_, rfl⟩
        obtain ⟨v, hv⟩ : ∃ v, e % 5 = v := ⟨_, rfl⟩
        have ep1 : digs 5 = [5] := digs1 (by decide) (by decide)
        have s0 := litSl wr #[.int .u64 5] [5] rfl rfl
        rw [← ep1] at s0
        have b1 : Below wr.heap.size wr (wr.alloc (.cells #[.int .u64 5] 45)) := bl_al (.refl _ _) _
        have DV : Hid (∀ W f, Below wr.heap.size wr W → Sl W (some ⟨wr.heap.size, 0, none⟩) (digs 5) → Calls Tryz.prog 84 #[.slice C7 (ln e) c7, .slice (some ⟨wr.heap.size, 0, none⟩) 1 f] W fun e w' => ∃ A c B d, e = .returned (.tuple #[.slice A (ln u) c, .slice B (ln v) d]) ∧ Sl w' A (digs u) ∧ Sl w' B (digs v) ∧ Below W.heap.size W w') := fun W f k s1 => by
          have := rdivmod_num C7 (some ⟨wr.heap.size, 0, none⟩) c7 f e 5 (ln e) 1 W rfl (by rw [ep1]; rfl) (kp' k SE.out) s1 (Nat.le_trans el (by decide)) (by decide) (by decide)
          rw [hu, hv] at this
          exact this
        have M1 := hide (readV_sl se (ln e) c7 rfl)
        clear hkb hx se ep1
        by_cases hv0 : v = 0
        · have dv : 5 ∣ e := Nat.dvd_of_mod_eq_zero (by rw [hv]; exact hv0)
          have ed : e = 5 * u := by rw [← hu]; exact (Nat.mul_div_cancel' dv).symm
          have up : 0 < u := by omega
          have FU := hide (show u < e ∧ 0 < u ∧ qd q = u * 2 ^ α * 5 ^ (t + 1) ∧ ¬ 2 ∣ u from ⟨by omega, up, by rw [eden, ed, Nat.pow_succ, Nat.mul_comm 5 u, Nat.mul_comm (5 ^ t) 5, ← Nat.mul_assoc, Nat.mul_right_comm u 5], fun c => e2 (Nat.dvd_trans c ⟨5, by rw [ed, Nat.mul_comm]⟩)⟩)
          have ot : IntKind.i64.wrap ((t : Int) + 1) = (t : Int) + 1 := IntWalk.i64_in _ ⟨by omega, by omega⟩
          have hl0 : ln v = 0 := by rw [hv0, ln_zero]
          rw [hl0] at DV
          clear hv0 dv ed up eden e2 hu hv ep el tb FD SD KB Y hl0 hM
          go_wp2_with (go_at_call 84; (with_reducible refine (DV.out _ _ b1 s0).mono ?_); rintro e w5 ⟨A8, c8, B8, d8, rfl, s8, t8, hb⟩; have b8 := bl_trans b1 hb; have S8 := hide s8; clear s8 t8 hb)
          go_wp2
          go_roundw
          case rel => exact ⟨u, t + 1, A8, c8, rfl, by go_num, FU.out.2.2.1, FU.out.2.1, FU.out.2.2.2, S8.out, KE.out.next b8, YE.out.next b8⟩
          case measure =>
            have M2 := readV_sl S8.out (ln u) c8 rfl
            rw [M1.out, M2, val_digs, val_digs]
            exact FU.out.1
        · obtain ⟨m, hm⟩ : ∃ m : Nat, max pl t = m := ⟨_, rfl⟩
          have hmx : ∀ ts ty W, (Builtin.max_ ts ty #[.int .i64 (pl : Int), .int .i64 (t : Int)]).run Tryz.prog W = .ok (.int .i64 (m : Int)) W := fun ts ty W => by
            rw [run_max_int2]
            congr 2
            split <;> omega
          have FE := hide (show 0 < e ∧ ¬ 5 ∣ e ∧ qd q = e * 2 ^ α * 5 ^ t ∧ ¬ 2 ∣ e ∧ m = max α t from ⟨ep, fun c => hv0 (by rw [← hv]; exact Nat.mod_eq_zero_of_dvd c), eden, e2, by rw [← hm, FD.out.1, FD.out.2.2.2.2.1 (by decide)]; omega⟩)
          have hl0 : (0 : Int) < (ln v : Int) := by have := ln_pos.2 (show 0 < v by omega); omega
          have oi : IntKind.i64.wrap ((1 : Int) + 1) = 2 := rfl
          clear hv0 eden e2 hu hv ep el tb FD SD KB Y hm hM
          go_wp2_with (go_at_call 84; (with_reducible refine (DV.out _ _ b1 s0).mono ?_); rintro e w5 ⟨A8, c8, B8, d8, rfl, s8, t8, hb⟩; have b8 := bl_trans b1 hb; clear s8 t8 hb)
          go_wp2
          go_roundw
          case rel => exact ⟨1 + 1, e, m, α, t, C7, c7, by decide, rfl, rfl, rfl, FE.out.2.2.2.2, FE.out.2.2.1, FE.out.1, fun h => absurd h (by decide), fun h => absurd h (by decide), fun _ => FE.out.2.2.2.1, fun _ => FE.out.2.1, kp' b8 SE.out, KE.out.next b8, YE.out.next b8⟩
          case measure => simp [intOf]
    obtain rfl : k = 2 := by omega
    rw [show ((2 : Nat) : Int) = 2 from rfl]
    have c1 : binOp .lss 3 (.int .i64 2) (.int .i64 2) = pure (.bool false) := rfl
    obtain ⟨hpl, hden, dp, _, _, h2, h5⟩ := FD.out
    have tb := two_le hden dp HD.out.1
    have hM := HD.out.2
    have hten : TenDiv d ↔ d = 1 := ten_end (h2 (by decide)) (h5 (by decide))
    obtain ⟨z, hz⟩ : ∃ z, cmpN d 1 = z := ⟨_, rfl⟩
    have K1 : (z = 0 ↔ d = 1) := by
      rw [← hz]
      unfold cmpN
      constructor
      · intro h; split at h <;> (try split at h) <;> omega
      · intro h; rw [h]; rfl
    have dl : ln d ≤ 8 := Nat.le_trans (ln_mono (Nat.le_of_dvd (qd_pos q) ⟨_, by rw [hden, Nat.mul_assoc]⟩)) H8.out.2
    have ON := hide (fun W => rone_z W)
    have CM := hide (fun X e W (h : Below wr.heap.size wr W) (s : Sl W X (digs 1)) => rcmp_z C X c e d 1 z W (kp' h SD.out) s (Nat.le_trans dl (by decide)) (by rw [ln_one]; decide) hz)
    have arms := True.intro
    by_cases hd1 : d = 1
    · obtain rfl : z = 0 := K1.2 hd1
      have hden' : qd q = 2 ^ α * 5 ^ β := by rw [hden, hd1, Nat.one_mul]
      have ht : TenDiv (qd q) := ⟨pl, by
        rw [hden', show (10 : Nat) = 2 * 5 from rfl, Nat.mul_pow]
        exact Nat.mul_dvd_mul (Nat.pow_dvd_pow 2 (by omega)) (Nat.pow_dvd_pow 5 (by omega))⟩
      have DO := hide (digits_of q α β hden' pl hpl.symm _ rfl)
      have PB := hide (show pl ≤ 520 by omega)
      have HT := hide ht
      clear hd1 K1 hten hden hden' h2 h5 tb dl hz hpl ht dp FD arms hk0 hk1 hk hM
      go_wp2_with (first
        | (go_at_call 68; (with_reducible refine (ON.out _).mono ?_); rintro e v1 ⟨P1, p1, rfl, y1, hb⟩; have KB := hide (KB.out.next hb); have Y := hide (Y.out.next hb); have c2 := hb; have Y1 := hide y1; clear y1 hb)
        | (go_at_call 66; (with_reducible refine (CM.out P1 p1 _ c2 Y1.out).mono ?_); rintro e v2 ⟨rfl, hb⟩; have KB := hide (KB.out.next hb); have Y := hide (Y.out.next hb); clear hb))
      clear c1 c2 CM ON
      go_loopw [4, 12] (fun nv jv wr => ∃ (j : Nat) (C : Option Addr) (c : Nat), j ≤ pl ∧ jv = .int .i64 (j : Int) ∧ nv = .slice C (ln (qn q * 10 ^ j)) c ∧ Sl wr C (digs (qn q * 10 ^ j)) ∧ K6 w [(A, digs (qn q)), (B, digs (qd q))] wr ∧ Q3 w.heap.size (.bool false) (.slice A i1 a) (.slice B i2 b) wr) (fun _ jv _ => pl - (intOf jv).toNat)
      case atStart => exact ⟨0, A, a, Nat.zero_le _, rfl, by rw [Nat.pow_zero, Nat.mul_one, HI.out.1], by rw [Nat.pow_zero, Nat.mul_one]; exact KB.out.sl nem1, KB.out, Y.out⟩
      case round =>
        obtain ⟨j, C7, c7, hj, rfl, rfl, sn, hkb, hx⟩ := hrel
        have KE := hide hkb
        have YE := hide hx
        have SN := hide sn
        have pb := PB.out
        have nl := num_ten HN.out (show j ≤ 600 by omega)
        clear hkb hx sn KB Y SD
        by_cases hlt : j < pl
        · have c1 := lssI_t 3 (show (j : Int) < (pl : Int) by omega)
          have SM : Hid (Calls Tryz.prog 79 #[.slice C7 (ln (qn q * 10 ^ j)) c7, .int .u64 10, .int .u64 0] wr (Rd wr (qn q * 10 ^ (j + 1)))) := (small_ten C7 (ln (qn q * 10 ^ j)) c7 0 _ 0 wr rfl SN.out (by rw [LB_eq]; decide) rfl (by omega)).mono fun _ _ h => h.rd (by rw [Nat.pow_succ, Nat.add_zero, Nat.mul_assoc])
          have oj : IntKind.i64.wrap ((j : Int) + 1) = (j : Int) + 1 := IntWalk.i64_in _ ⟨by omega, by omega⟩
          have JJ := hide (show j + 1 ≤ pl from hlt)
          clear nl
          go_wp2_with (go_at_call 79; (with_reducible refine (SM.out).mono ?_); rintro ee w5 ⟨A5, c5, rfl, s5, hb5⟩)
          go_roundw
          case rel => exact ⟨j + 1, A5, c5, JJ.out, by go_num, rfl, s5, KE.out.next hb5, YE.out.next hb5⟩
          case measure => simp [intOf]; omega
        · obtain rfl : pl = j := by omega
          have c1 := lssI_f 3 (show (pl : Int) ≤ (pl : Int) by omega)
          obtain ⟨V, hV⟩ : ∃ V, qn q * 10 ^ pl / qd q = V := ⟨_, rfl⟩
          have VL : ln V ≤ 100 := Nat.le_trans (ln_mono (by rw [← hV]; exact Nat.div_le_self _ _)) nl
          have DS := dec_short VL
          have do1 := DO.out
          rw [hV] at do1
          have DO := hide do1
          have DV : Hid (∀ W, Below wr.heap.size wr W → Calls Tryz.prog 84 #[.slice C7 (ln (qn q * 10 ^ pl)) c7, .slice B i2 b] W fun e w' => ∃ A c B d, e = .returned (.tuple #[.slice A (ln V) c, .slice B (ln (qn q * 10 ^ pl % qd q)) d]) ∧ Sl w' A (digs V) ∧ Sl w' B (digs (qn q * 10 ^ pl % qd q)) ∧ Below W.heap.size W w') := fun W k => by
            have := rdivmod_num C7 B c7 b (qn q * 10 ^ pl) (qd q) (ln (qn q * 10 ^ pl)) (ln (qd q)) W rfl rfl (kp' k SN.out) (kp' k (KE.out.sl nem2)) (Nat.le_trans nl (by decide)) (Nat.le_trans H8.out.2 (by decide)) (qd_pos q)
            rw [hV, HI.out.2] at this
            exact this
          have WD := hide (fun X e W s1 => rwide_z X e V W s1 (Nat.le_trans VL (by decide)) DS)
          obtain ⟨S0, hS0⟩ : ∃ S : ByteArray, S = ⟨(Lib.decDigits V).toArray⟩ := ⟨_, rfl⟩
          rw [← hS0] at WD
          have S0L := hide (show S0.data.toList = Lib.decDigits V by rw [hS0])
          have S0S := hide (show S0.size ≤ 20000 by rw [hS0, arr_len]; exact DS)
          obtain ⟨y1, y2, y3, y4, y5, y6⟩ := YE.out
          generalize ln (qn q * 10 ^ pl % qd q) = i9 at *
          generalize digs (qn q * 10 ^ pl % qd q) = l9 at *
          generalize ln (qn q * 10 ^ pl) = i8 at *
          clear do1 hV VL DS nl hS0 hlt hj SN
          go_wp2_with (first
            | (go_at_call 84; (with_reducible refine (DV.out _ (.refl _ _)).mono ?_); rintro e v5 ⟨A5, c5, B5, d5, rfl, s5, t5, hb⟩; have KE := hide (KE.out.next hb); have S5 := hide s5; clear s5 t5 hb)
            | (go_at_call 85; (with_reducible refine (WD.out A5 c5 _ S5.out).mono ?_); rintro e v6 ⟨rfl, hb⟩; have KE := hide (KE.out.next hb); clear hb))
          clear y1 y2 y3 y4 y5 y6 c1 DV WD YE
          have op : IntKind.i64.wrap ((pl : Int) + 1) = (pl : Int) + 1 := IntWalk.i64_in _ ⟨by omega, by omega⟩
          go_loop [13] (fun sv => ∃ (z : Nat) (S : ByteArray), sv = .string S ∧ S.data.toList = List.replicate z 48 ++ Lib.decDigits V ∧ (z = 0 ∨ S.size ≤ pl + 1)) (fun sv => match sv with | .string S => pl + 1 - S.size | _ => 0)
          case atStart => exact ⟨0, S0, rfl, by rw [S0L.out]; rfl, .inl rfl⟩
          case round =>
            obtain ⟨z, S, rfl, hS, hz⟩ := hrel
            have Ss : S.size = z + (Lib.decDigits V).length := by rw [Lib.size_eq, hS, List.length_append, List.length_replicate]
            have dl := S0S.out
            rw [Lib.size_eq, S0L.out] at dl
            by_cases hlt : S.size < pl + 1
            · have c1 := lssI_t 3 (show (S.size : Int) < (pl : Int) + 1 by omega)
              have zb : (⟨#[48]⟩ : ByteArray).size = 1 := rfl
              have oc := op_cat 9 ⟨#[48]⟩ S (by rw [zb]; omega)
              obtain ⟨T, hT⟩ : ∃ T : ByteArray, (⟨#[48]⟩ : ByteArray) ++ S = T := ⟨_, rfl⟩
              rw [hT] at oc
              have TL := hide (show T.data.toList = List.replicate (z + 1) 48 ++ Lib.decDigits V by rw [← hT, cat_list, hS, List.replicate_succ]; rfl)
              have TS := hide (show T.size = S.size + 1 by rw [← hT, ByteArray.size_append, zb]; omega)
              clear hS hz Ss dl zb hT
              go_wp2
              go_round
              case rel => exact ⟨z + 1, T, rfl, TL.out, .inr (by have := TS.out; omega)⟩
              case measure => simp only []; have := TS.out; omega
            · have c1 := lssI_f 3 (show (pl : Int) + 1 ≤ (S.size : Int) by omega)
              have SP : S.data.toList = padW (pl + 1) V := by
                rw [hS]
                unfold padW
                congr 2
                rcases hz with rfl | hz <;> omega
              by_cases hp0 : pl = 0
              · have DX := hide (show XFact q (S ++ ⟨#[46, 48]⟩) true from .inl ⟨rfl, HT.out, by rw [cat_list, SP]; exact DO.out.1 hp0⟩)
                have hp1 : ((pl : Int) == 0) = true := by rw [hp0]; rfl
                have zb : (⟨#[46, 48]⟩ : ByteArray).size = 2 := rfl
                have oc := op_cat 9 S ⟨#[46, 48]⟩ (by rw [zb]; omega)
                clear hS hz Ss dl SP hlt hp0 zb
                generalize (S ++ ⟨#[46, 48]⟩ : ByteArray) = T at *
                go_wp2
                go_ret2
                exact ⟨T, .inr ⟨rfl, DX.out, KE.out.b⟩⟩
              · obtain ⟨m, hm, hex⟩ := DO.out.2 (by omega) (by omega)
                rw [← SP] at hm hex
                rw [← Lib.size_eq] at hm
                have e1 := Lib.extract_data S 0 m
                rw [List.drop_zero, Nat.sub_zero] at e1
                have e2 := Lib.extract_to_end S m
                have hp1 : ((pl : Int) == 0) = false := beq_eq_false_iff_ne.2 (by omega)
                have om := i64_sub 3 S.size pl m hm (by omega)
                have z1 : (S.extract 0 m).size ≤ 30000 := by rw [Lib.size_eq, e1, List.length_take]; rw [← Lib.size_eq]; omega
                have z2 : (S.extract m S.size).size ≤ 30000 := by rw [Lib.size_eq, e2, List.length_drop]; rw [← Lib.size_eq]; omega
                have zb : (⟨#[46]⟩ : ByteArray).size = 1 := rfl
                have DX := hide (show XFact q ((S.extract 0 m ++ ⟨#[46]⟩) ++ S.extract m S.size) true from .inl ⟨rfl, HT.out, by
                  rw [cat_list, cat_list, e1, e2, show (⟨#[46]⟩ : ByteArray).data.toList = [46] from rfl, List.append_assoc]
                  exact hex⟩)
                have o1 := op_cat 9 (S.extract 0 m) ⟨#[46]⟩ (by rw [zb]; omega)
                have z3 : (S.extract 0 m ++ ⟨#[46]⟩ : ByteArray).size ≤ 30001 := by rw [ByteArray.size_append, zb]; omega
                have o2 := op_cat 9 (S.extract 0 m ++ ⟨#[46]⟩) (S.extract m S.size) (by omega)
                have m0 : (0 : Int) ≤ (m : Int) := by omega
                have m1 : (m : Int) ≤ (S.size : Int) := by omega
                clear hS hz Ss dl SP hlt hp0 zb hex e1 e2 z1 z2 z3
                go_wp2
                go_region
                go_wp2
                go_ret2
                exact ⟨_, true, rfl, DX.out, KE.out.b.drew⟩
    · have hz0 : (z != 0) = true := by simpa using fun e => hd1 (K1.1 e)
      have NT := hide (show XFact q ⟨#[]⟩ false from .inr ⟨rfl, fun ⟨k, hk⟩ => hd1 (hten.1 ⟨k, Nat.dvd_trans ⟨_, by rw [hden, Nat.mul_assoc]⟩ hk⟩), rfl⟩)
      clear hd1 K1 hten hden h2 h5 tb dl hz hpl dp FD arms hk0 hk1 hk hM
      go_wp2_with (first
        | (go_at_call 68; (with_reducible refine (ON.out _).mono ?_); rintro e v1 ⟨P1, p1, rfl, y1, hb⟩; have KB := hide (KB.out.next hb); have c2 := hb; have Y1 := hide y1; clear y1 hb)
        | (go_at_call 66; (with_reducible refine (CM.out P1 p1 _ c2 Y1.out).mono ?_); rintro e v2 ⟨rfl, hb⟩; have KB := hide (KB.out.next hb); clear hb))
      go_ret2
      exact ⟨_, false, rfl, NT.out, KB.out.b⟩
end Nt

end Go.Proofs.YtboppbidldomhaaGreatDoor

namespace Go.Proofs.YtboppbidldomhaaGreatDoor

open Go.RowKit

namespace Nt

theorem rpd_all (s : ByteArray) (w : World) (hs : s.size ≤ 1000) : Calls Tryz.prog 29 #[.string s] w (RP w (decSp s.data.toList)) := by
  have hsz := Lib.size_eq s
  rcases dec_split s.data.toList with ⟨h1, h2⟩ | ⟨v, h1, h2, h3⟩
  · refine rpd_any s s.size s.data.toList [] _ w hs (Nat.le_refl _) (List.take_of_length_le (by omega)) (List.drop_of_length_le (by omega)) ?_ (fun h => absurd h (by omega)) ?_ ?_ (fun _ h => absurd h (by omega)) (fun _ h => absurd h (by omega))
    · intro j h _ e
      exact h1 (e ▸ List.mem_of_getElem? (byte_get s j h))
    · intro hn; rw [decSp_plain h2, hn]; rfl
    · intro hn _; rw [decSp_plain h2, hn]; rfl
  · have ED := decSp_point h3
    generalize s.data.toList.takeWhile (· != 46) = u at *
    have hl := congrArg List.length h1
    rw [List.length_append, List.length_cons] at hl
    refine rpd_any s u.length u v _ w hs (by omega) (by rw [h1]; exact List.take_left' rfl) (by rw [h1, ← List.drop_drop, List.drop_left' rfl]; rfl) ?_ ?_ ?_ (fun _ h => absurd h (by omega)) ?_ ?_
    · intro j h hj e
      have h5 := byte_get s j h
      rw [h1, List.getElem?_append_left hj, e] at h5
      exact h2 (List.mem_of_getElem? h5)
    · intro h
      have h5 := byte_get s u.length h
      rw [h1, List.getElem?_append_right (Nat.le_refl _), Nat.sub_self] at h5
      injection h5 with h5
      exact h5.symm
    · intro hn; rw [ED, hn]; rfl
    · intro hn _ hv; rw [ED, hn, hv]; rfl
    · intro hn _ hv; rw [ED, hn, hv]; rfl
set_option maxRecDepth 100000 in
set_option maxHeartbeats 4000000 in
theorem rexact_neg (A B : Option Addr) (i1 a i2 b : Nat) (w : World) (V1 : Hid (∀ W, Below w.heap.size w W → Calls Tryz.prog 26 #[.agg #[.bool true, .slice A i1 a, .slice B i2 b]] W fun e w' => e = .returned (.bool true) ∧ Below W.heap.size W w')) :
    Calls Tryz.prog 31 #[.agg #[.bool true, .slice A i1 a, .slice B i2 b]] w fun e w' => e = .returned (.tuple #[.string ⟨#[]⟩, .bool false]) ∧ Below w.heap.size w w' := by
  have X1 := hide (Q3.new (.bool true) (.slice A i1 a) (.slice B i2 b) w)
  have b0 : Below w.heap.size w (w.alloc (.cells #[.bool true, .slice A i1 a, .slice B i2 b] 24)) := bl_al (.refl _ _) _
  go_enter Tryz.func31, Tryz.ntmps31
  go_wp2_with (go_at_call 26; (with_reducible refine (V1.out _ b0).mono ?_); rintro e w1 ⟨rfl, hb⟩; have X1 := hide (X1.out.next hb); obtain ⟨x1, x2, x3, x4, x5, x6⟩ := X1.out; have b1 := bl_trans b0 hb; clear hb)
  go_ret2
  exact ⟨rfl, b1⟩
set_option maxRecDepth 100000 in
set_option maxHeartbeats 4000000 in
theorem rexact_no (s : Bool) (A B : Option Addr) (i1 a i2 b : Nat) (w : World) (V1 : Hid (∀ W, Below w.heap.size w W → Calls Tryz.prog 26 #[.agg #[.bool s, .slice A i1 a, .slice B i2 b]] W fun e w' => e = .returned (.bool false) ∧ Below W.heap.size W w')) :
    Calls Tryz.prog 31 #[.agg #[.bool s, .slice A i1 a, .slice B i2 b]] w fun e w' => e = .returned (.tuple #[.string ⟨#[]⟩, .bool false]) ∧ Below w.heap.size w w' := by
  have X1 := hide (Q3.new (.bool s) (.slice A i1 a) (.slice B i2 b) w)
  have b0 : Below w.heap.size w (w.alloc (.cells #[.bool s, .slice A i1 a, .slice B i2 b] 24)) := bl_al (.refl _ _) _
  go_enter Tryz.func31, Tryz.ntmps31
  go_wp2_with (go_at_call 26; (with_reducible refine (V1.out _ b0).mono ?_); rintro e w1 ⟨rfl, hb⟩; have X1 := hide (X1.out.next hb); obtain ⟨x1, x2, x3, x4, x5, x6⟩ := X1.out; have b1 := bl_trans b0 hb; clear hb)
  go_ret2
  exact ⟨rfl, b1⟩
/-- One text and one truth for both. -/
theorem xfact_one (q : Rat) (hd8 : ln (qd q) ≤ 8) : ∃ T ok, ∀ D o, XFact q D o → D = T ∧ o = ok := by
  obtain ⟨M, hM⟩ : ∃ M, M = 64 * 8 := ⟨_, rfl⟩
  by_cases ht : TenDiv (qd q)
  · have hd := tenDiv_bound M _ (qd_pos q) (lt_two (lt_of_ln hd8) hM) ht
    refine ⟨⟨(Lib.decDigits (qn q / qd q) ++ 46 :: (if qn q % qd q = 0 then [48] else Lib.trimRightB (padW M (qn q % qd q * (10 ^ M / qd q))) 48)).toArray⟩, true, fun D o h => ?_⟩
    rcases h with ⟨h1, _, h3⟩ | ⟨_, h2, _⟩
    · exact ⟨str_eq (exact_pad h3 M (by omega) (by omega) hd), h1⟩
    · exact absurd ht h2
  · refine ⟨⟨#[]⟩, false, fun D o h => ?_⟩
    rcases h with ⟨_, h2, _⟩ | ⟨h1, _, h3⟩
    · exact absurd h2 ht
    · exact ⟨h3, h1⟩
theorem dec_len_of {l : List UInt8} {q : Rat} (h : decSp l = some q) (hl : l.length ≤ 1000) : ln (qn q) ≤ 64 ∧ ln (qd q) ≤ 64 := by
  rcases dec_split l with ⟨h1, h2⟩ | ⟨v, h1, h2, h3⟩
  · rw [decSp_plain h2] at h
    cases hn : numB l with
    | false => rw [hn] at h; cases h
    | true =>
      rw [hn] at h
      injection h with h
      rw [← h]
      exact dec_fit 0 hl (numB_digits hn).1 (by decide)
  · rw [decSp_point h3] at h
    generalize l.takeWhile (· != 46) = u at *
    have hl2 := congrArg List.length h1
    rw [List.length_append, List.length_cons] at hl2
    cases hn : numB u with
    | false => rw [hn] at h; cases h
    | true =>
      cases hd : digitsB v with
      | false => rw [hn, hd] at h; cases h
      | true =>
        rw [hn, hd] at h
        injection h with h
        rw [← h]
        exact dec_fit v.length (by rw [List.length_append]; omega) (by rw [List.all_append, (numB_digits hn).1, digitsB_all hd]; rfl) (by omega)
theorem pair_parse (s : ByteArray) (hs : s.size ≤ 1000) : ∃ z N D k, N.length ≤ 1000 ∧ D.length ≤ 1000 ∧ (∀ W, Calls Tryz.prog 28 #[.string s] W (fun e w' => ∃ A c B d, e = .returned (.tuple #[.agg #[.bool z, .slice A N.length c, .slice B D.length d], .int .i64 k]) ∧ Sl w' A N ∧ Sl w' B D ∧ Below W.heap.size W w')) ∧ (∀ W, Calls Tryz.prog 29 #[.string s] W (fun e w' => ∃ A c B d, e = .returned (.tuple #[.agg #[.bool z, .slice A N.length c, .slice B D.length d], .int .i64 k]) ∧ Sl w' A N ∧ Sl w' B D ∧ Below W.heap.size W w')) := by
  obtain ⟨R, hR⟩ : ∃ R, decSp s.data.toList = R := ⟨_, rfl⟩
  cases R with
  | none => exact ⟨false, [], [], 2, by decide, by decide, fun W => ((dparse_all s W hs).1 hR).mono fun _ _ h => ⟨none, 0, none, 0, h.1, .nil, .nil, h.2⟩, fun W => by
      have := rpd_all s W hs
      rw [hR] at this
      exact this.mono fun _ _ h => ⟨none, 0, none, 0, h.1, .nil, .nil, h.2⟩⟩
  | some q =>
    have hl := dec_len_of hR (by rw [← Lib.size_eq]; exact hs)
    exact ⟨qs q, digs (qn q), digs (qd q), 0, Nat.le_trans hl.1 (by decide), Nat.le_trans hl.2 (by decide), fun W => (dparse_all s W hs).2 q hR, fun W => by
      have := rpd_all s W hs
      rw [hR] at this
      exact this⟩
theorem S9k_next {w w' : World} (hb : Below w.heap.size w w') {p1 p2 p3 p4 p5 p6 p7 p8 p9 : Addr} {v1 v2 v3 v4 v5 v6 v7 v8 v9 : Value} {w0 : World} {l : List (Option Addr × List Nat)}
    (h : w.cell? p1 = some v1 ∧ w.cell? p2 = some v2 ∧ w.cell? p3 = some v3 ∧ w.cell? p4 = some v4 ∧ w.cell? p5 = some v5 ∧ w.cell? p6 = some v6 ∧ w.cell? p7 = some v7 ∧ w.cell? p8 = some v8 ∧ w.cell? p9 = some v9 ∧ K6 w0 l w) : w'.cell? p1 = some v1 ∧ w'.cell? p2 = some v2 ∧ w'.cell? p3 = some v3 ∧ w'.cell? p4 = some v4 ∧ w'.cell? p5 = some v5 ∧ w'.cell? p6 = some v6 ∧ w'.cell? p7 = some v7 ∧ w'.cell? p8 = some v8 ∧ w'.cell? p9 = some v9 ∧ K6 w0 l w' := by
  obtain ⟨h1, h2, h3, h4, h5, h6, h7, h8, h9, k⟩ := h
  exact ⟨cell_next hb h1, cell_next hb h2, cell_next hb h3, cell_next hb h4, cell_next hb h5, cell_next hb h6, cell_next hb h7, cell_next hb h8, cell_next hb h9, k.next hb⟩
theorem k9k {c1 c2 c3 c4 c5 c6 c7 c8 c9 k : Prop} (h : c1 ∧ c2 ∧ c3 ∧ c4 ∧ c5 ∧ c6 ∧ c7 ∧ c8 ∧ c9 ∧ k) : k := h.2.2.2.2.2.2.2.2.2
theorem je7 (t : TypeId) (x : Int) : binOp .eql t (.int .i64 x) (.int .i64 x) = pure (.bool true) := by
  show pure (Value.bool (x == x)) = _
  rw [beq_self_eq_true]

set_option maxRecDepth 100000 in
set_option maxHeartbeats 16000000 in
theorem tells_in (S : ByteArray) (s1 : Bool) (A1 B1 : Option Addr) (i1 a1 j1 f1q : Nat) (w : World) (z ok : Bool) (N D : List Nat) (k : Int) (T U : ByteArray) (hS : S.size ≤ 300) (hi : i1 ≤ 8) (hj : j1 ≤ 8) (hN : N.length ≤ 1000) (hD : D.length ≤ 1000)
    (AW : Hid (∀ W, Below w.heap.size w W → Calls Tryz.prog 27 #[] W (fun e w' => e = .returned (.bool true) ∧ Below W.heap.size W w')))
    (P1 : Hid (∀ W, Calls Tryz.prog 28 #[.string S] W (fun e w' => ∃ A c B d, e = .returned (.tuple #[.agg #[.bool z, .slice A N.length c, .slice B D.length d], .int .i64 k]) ∧ Sl w' A N ∧ Sl w' B D ∧ Below W.heap.size W w')))
    (P2 : Hid (∀ W, Calls Tryz.prog 29 #[.string S] W (fun e w' => ∃ A c B d, e = .returned (.tuple #[.agg #[.bool z, .slice A N.length c, .slice B D.length d], .int .i64 k]) ∧ Sl w' A N ∧ Sl w' B D ∧ Below W.heap.size W w')))
    (E1 : Hid (∀ W, Below w.heap.size w W → Calls Tryz.prog 30 #[.agg #[.bool s1, .slice A1 i1 a1, .slice B1 j1 f1q]] W (fun e w' => e = .returned (.tuple #[.string T, .bool ok]) ∧ Below W.heap.size W w')))
    (E2 : Hid (∀ W, Below w.heap.size w W → Calls Tryz.prog 31 #[.agg #[.bool s1, .slice A1 i1 a1, .slice B1 j1 f1q]] W (fun e w' => e = .returned (.tuple #[.string T, .bool ok]) ∧ Below W.heap.size W w')))
    (H1 : Hid (∀ W, Below w.heap.size w W → Calls Tryz.prog 33 #[.agg #[.bool s1, .slice A1 i1 a1, .slice B1 j1 f1q]] W (fun e w' => e = .returned (.string U) ∧ Below W.heap.size W w')))
    (H2 : Hid (∀ W, Below w.heap.size w W → Calls Tryz.prog 34 #[.agg #[.bool s1, .slice A1 i1 a1, .slice B1 j1 f1q]] W (fun e w' => e = .returned (.string U) ∧ Below W.heap.size W w'))) :
    Calls Tryz.prog 4 #[.string S, .agg #[.bool s1, .slice A1 i1 a1, .slice B1 j1 f1q]] w fun e w' => e = .returned (.bool true) ∧ Below w.heap.size w w' := by
  have SM := hide (fun P Q R S e f g h l W (kk : K6 w l W) (q1 : (P, N) ∈ l) (q2 : (Q, D) ∈ l) (q3 : (R, N) ∈ l) (q4 : (S, D) ∈ l) => Same_any z z P Q R S e f g h N.length D.length N.length D.length N D N D W (kk.sl q1) (kk.sl q2) (kk.sl q3) (kk.sl q4) rfl rfl rfl rfl (by omega) (by omega) (by omega) (by omega) true (decide_eq_true ⟨rfl, rfl, rfl⟩))
  have c1 := gtrI_f 3 (show (S.size : Int) ≤ 300 by omega)
  have c2 := gtrI_f 3 (show (i1 : Int) ≤ 8 by omega)
  have c3 := gtrI_f 3 (show (j1 : Int) ≤ 8 by omega)
  have q1 := je7 3 k
  have q2 := eq_s 9 (show U = U from rfl)
  have q3 := eq_s 9 (show T = T from rfl)
  have q4 : ∀ W : World, (binOp .eql 4 (.bool ok) (.bool ok)).run Tryz.prog W = .ok (.bool true) W := fun _ => by cases ok <;> kernel_rfl
  clear hS hi hj hN hD
  generalize N.length = x1 at *
  generalize D.length = y1 at *
  have Xa := hide (Q3.new (.bool s1) (.slice A1 i1 a1) (.slice B1 j1 f1q) w)
  have e0 : Below w.heap.size w (w.alloc (.cells #[.bool s1, .slice A1 i1 a1, .slice B1 j1 f1q] 24)) := bl_al (.refl _ _) _
  obtain ⟨xac1, xac2, xac3, xac4, xac5, xac6⟩ := Xa.out
  go_enter Tryz.func4, Tryz.ntmps4
  go_wp2_with (first
    | (go_at_call 28; (with_reducible refine (P1.out _).mono ?_); rintro e w1 ⟨A1q, c1q, B1q, d1q, rfl, s1q, t1q, hb⟩; have g := hb; have Xa := hide (Xa.out.next g); have b1 := bl_trans e0 g; (try clear xac1 xac2 xac3 xac4 xac5 xac6); obtain ⟨xac1, xac2, xac3, xac4, xac5, xac6⟩ := Xa.out; have xad1 := fun X => (Xa.out.al X).1; have xad2 := fun X => (Xa.out.al X).2.1; have xad3 := fun X => (Xa.out.al X).2.2.1; clear hb g)
    | (go_at_call 29; (with_reducible refine (P2.out _).mono ?_); rintro e w2 ⟨A2q, c2q, B2q, d2q, rfl, s2q, t2q, hb⟩; have g := (bl_one hb); have Y1 := hide ((Q3.new (.bool z) (.slice A1q x1 c1q) (.slice B1q y1 d1q) w1).next hb); have s1q := kp' g s1q; have t1q := kp' g t1q; have Xa := hide (Xa.out.next g); have b2 := bl_trans b1 g; clear xad1 xad2 xad3; (try clear xac1 xac2 xac3 xac4 xac5 xac6); obtain ⟨xac1, xac2, xac3, xac4, xac5, xac6⟩ := Xa.out; have xad1 := fun X => (Xa.out.al X).1; have xad2 := fun X => (Xa.out.al X).2.1; have xad3 := fun X => (Xa.out.al X).2.2.1; clear hb g)
    | (go_at_call 30; (with_reducible refine (E1.out _ (bl_al b2 _)).mono ?_); rintro e w3 ⟨rfl, hb⟩; have g := (bl_one hb); have Y2 := hide ((Q3.new (.bool z) (.slice A2q x1 c2q) (.slice B2q y1 d2q) w2).next hb); have s1q := kp' g s1q; have t1q := kp' g t1q; have s2q := kp' g s2q; have t2q := kp' g t2q; have Xa := hide (Xa.out.next g); have Y1 := hide (Y1.out.next g); have b3 := bl_trans b2 g; clear xad1 xad2 xad3; (try clear xac1 xac2 xac3 xac4 xac5 xac6); obtain ⟨xac1, xac2, xac3, xac4, xac5, xac6⟩ := Xa.out; clear hb g)
    | (go_at_call 31; (with_reducible refine (E2.out _ b3).mono ?_); rintro e w4 ⟨rfl, hb⟩; have g := hb; have s1q := kp' g s1q; have t1q := kp' g t1q; have s2q := kp' g s2q; have t2q := kp' g t2q; have Xa := hide (Xa.out.next g); have Y1 := hide (Y1.out.next g); have Y2 := hide (Y2.out.next g); have b4 := bl_trans b3 g; (try clear xac1 xac2 xac3 xac4 xac5 xac6); obtain ⟨xac1, xac2, xac3, xac4, xac5, xac6⟩ := Xa.out; clear hb g))
  have kz : Hid (K6 w [(A1q, N), (B1q, D), (A2q, N), (B2q, D)] w4) := hide (K6.cons (K6.cons (K6.cons (K6.cons (K6.nil b4) t2q) s2q) t1q) s1q)
  have kd := hide kz.out.drew
  clear b2 b3 b4 s1q t1q s2q t2q
  go_region_held3 (fun W => W.cell? ⟨w1.heap.size, 0, none⟩ = some (.bool z) ∧ W.cell? ⟨w1.heap.size, 1, none⟩ = some (.slice A1q x1 c1q) ∧ W.cell? ⟨w1.heap.size, 2, none⟩ = some (.slice B1q y1 d1q) ∧ W.cell? ⟨w2.heap.size, 0, none⟩ = some (.bool z) ∧ W.cell? ⟨w2.heap.size, 1, none⟩ = some (.slice A2q x1 c2q) ∧ W.cell? ⟨w2.heap.size, 2, none⟩ = some (.slice B2q y1 d2q) ∧ W.cell? ⟨w.heap.size, 0, none⟩ = some (.bool s1) ∧ W.cell? ⟨w.heap.size, 1, none⟩ = some (.slice A1 i1 a1) ∧ W.cell? ⟨w.heap.size, 2, none⟩ = some (.slice B1 j1 f1q) ∧ K6 w [(A1q, N), (B1q, D), (A2q, N), (B2q, D)] W)
    (first | exact ⟨Y1.out.1, Y1.out.2.1, Y1.out.2.2.1, Y2.out.1, Y2.out.2.1, Y2.out.2.2.1, Xa.out.1, Xa.out.2.1, Xa.out.2.2.1, kd.out⟩ | with_reducible exact S9k_next hb (by assumption) | with_reducible assumption)
    (first
      | (go_at_call 32; (with_reducible refine (SM.out A1q B1q A2q B2q c1q d1q c2q d2q _ _ (k9k (by assumption)) nem1 nem2 nem3 nem4).mono ?_); rintro e v1 ⟨rfl, hb⟩)
      | (go_at_call 33; (with_reducible refine (H1.out _ (K6.b (k9k (by assumption)))).mono ?_); rintro e v2 ⟨rfl, hb⟩)
      | (go_at_call 34; (with_reducible refine (H2.out _ (K6.b (k9k (by assumption)))).mono ?_); rintro e v3 ⟨rfl, hb⟩)
      | (go_at_call 27; (with_reducible refine (AW.out _ (K6.b (k9k (by assumption)))).mono ?_); rintro e v4 ⟨rfl, hb⟩))
  all_goals
    go_wp2
    go_ret
    exact ⟨rfl, K6.b (k9k (by assumption))⟩

theorem pair_tells (s : Bool) (A B : Option Addr) (a b : Nat) (xs ys : List Nat) (w : World) (sA : Sl w A xs) (sB : Sl w B ys) (lx : Limbs xs) (ly : Limbs ys) (g : xs.length ≤ 8 ∧ ys.length ≤ 8) (ca : xs.length ≤ a ∧ ys.length ≤ b) (tab : Pow10 w) :
    ∃ T ok U, (∀ W, Below w.heap.size w W → Calls Tryz.prog 30 #[.agg #[.bool s, .slice A xs.length a, .slice B ys.length b]] W (fun e w' => e = .returned (.tuple #[.string T, .bool ok]) ∧ Below W.heap.size W w')) ∧ (∀ W, Below w.heap.size w W → Calls Tryz.prog 31 #[.agg #[.bool s, .slice A xs.length a, .slice B ys.length b]] W (fun e w' => e = .returned (.tuple #[.string T, .bool ok]) ∧ Below W.heap.size W w')) ∧ (∀ W, Below w.heap.size w W → Calls Tryz.prog 33 #[.agg #[.bool s, .slice A xs.length a, .slice B ys.length b]] W (fun e w' => e = .returned (.string U) ∧ Below W.heap.size W w')) ∧ (∀ W, Below w.heap.size w W → Calls Tryz.prog 34 #[.agg #[.bool s, .slice A xs.length a, .slice B ys.length b]] W (fun e w' => e = .returned (.string U) ∧ Below W.heap.size W w')) := by
  rcases vQ2 s xs ys with v1 | v1
  · obtain ⟨q, rfl, rfl, rfl⟩ := as_rat lx ly v1
    have g1 : ln (qn q) ≤ 8 := g.1
    have g2 : ln (qd q) ≤ 8 := g.2
    have f1 : fitq q := ⟨by omega, by omega⟩
    have H1 := fun W (k : Below w.heap.size w W) => show_q q A B a b W (kp' k sA) (kp' k sB) f1 (pow_below tab k)
    have H2 := fun W (k : Below w.heap.size w W) => rshow_q q A B a b W (kp' k sA) (kp' k sB) f1 ca.1 ca.2
    obtain ⟨z, hz⟩ : ∃ z, qs q = z := ⟨_, rfl⟩
    cases z with
    | false =>
      obtain ⟨T, ok, hT⟩ := xfact_one q g2
      refine ⟨T, ok, _, fun W k => (exact_any q A B a b W (kp' k sA) (kp' k sB) f1 hz (pow_below tab k)).mono fun e w' ⟨D, o, h1, h2, h3⟩ => ?_, fun W k => ?_, H1, H2⟩
      · obtain ⟨rfl, rfl⟩ := hT D o h2
        exact ⟨h1, h3⟩
      · rw [hz]
        exact (rexact_any q A B a b W (kp' k sA) (kp' k sB) g1 g2 hz).mono fun e w' ⟨D, o, h1, h2, h3⟩ => by
          obtain ⟨rfl, rfl⟩ := hT D o h2
          exact ⟨h1, h3⟩
    | true =>
      refine ⟨⟨#[]⟩, false, _, fun W k => exact_neg q A B a b W (kp' k sA) (kp' k sB) f1 (.inl hz), fun W k => ?_, H1, H2⟩
      have V1 := fun W' (k' : Below W.heap.size W W') => rvalid_q q A B a b W' (kp' k' (kp' k sA)) (kp' k' (kp' k sB)) f1
      rw [hz] at V1 ⊢
      exact rexact_neg A B _ a _ b W V1
  · exact ⟨⟨#[]⟩, false, ⟨#[]⟩, fun W k => exact_no s A B a b xs ys W (kp' k sA) (kp' k sB) lx ly (by omega) (by omega) v1, fun W k => rexact_no s A B _ a _ b W (fun W' k' => rvalidQ_any s A B a b xs ys W' (kp' k' (kp' k sA)) (kp' k' (kp' k sB)) lx ly (by omega) (by omega) false v1), fun W k => show_no s A B a b xs ys W (kp' k sA) (kp' k sB) lx ly (by omega) (by omega) v1, fun W k => rshow_no s A B a b xs ys W (kp' k sA) (kp' k sB) lx ly (by omega) (by omega) v1⟩

set_option maxRecDepth 100000 in
set_option maxHeartbeats 8000000 in
theorem tells_law (S : ByteArray) (s1 : Bool) (A1 B1 : Option Addr) (a1 b1 : Nat) (xs1 ys1 : List Nat) (w : World) (sA1 : Sl w A1 xs1) (sB1 : Sl w B1 ys1) (lx1 : Limbs xs1) (ly1 : Limbs ys1) (ht : Pow10 w) (ca : xs1.length ≤ a1 ∧ ys1.length ≤ b1) :
    Calls Tryz.prog 4 #[.string S, .agg #[.bool s1, .slice A1 xs1.length a1, .slice B1 ys1.length b1]] w fun e w' => e = .returned (.bool true) ∧ Below w.heap.size w w' := by
  have AW := hide (fun W (k : Below w.heap.size w W) => awake4_any W (pow_below ht k))
  by_cases h : S.size ≤ 300 ∧ xs1.length ≤ 8 ∧ ys1.length ≤ 8
  · obtain ⟨z, N, D, k, hN, hD, P1, P2⟩ := pair_parse S (by omega)
    obtain ⟨T, ok, U, E1, E2, H1, H2⟩ := pair_tells s1 A1 B1 a1 b1 xs1 ys1 w sA1 sB1 lx1 ly1 h.2 ca ht
    exact tells_in S s1 A1 B1 _ a1 _ b1 w z ok N D k T U h.1 h.2.1 h.2.2 hN hD AW (hide P1) (hide P2) (hide E1) (hide E2) (hide H1) (hide H2)
  · clear sA1 sB1 lx1 ly1 ht ca
    generalize xs1.length = i1 at *
    generalize ys1.length = j1 at *
    have Xa := hide (Q3.new (.bool s1) (.slice A1 i1 a1) (.slice B1 j1 b1) w)
    have e0 : Below w.heap.size w (w.alloc (.cells #[.bool s1, .slice A1 i1 a1, .slice B1 j1 b1] 24)) := bl_al (.refl _ _) _
    obtain ⟨xac1, xac2, xac3, xac4, xac5, xac6⟩ := Xa.out
    by_cases h1 : 300 < S.size
    · have c1 := gtrI_t 3 (show (300 : Int) < (S.size : Int) by omega)
      clear h h1
      go_enter Tryz.func4, Tryz.ntmps4
      go_wp2_with (go_at_call 27; (with_reducible refine (AW.out _ e0).mono ?_); rintro e w1 ⟨rfl, hb⟩)
      go_ret
      exact ⟨rfl, bl_trans e0 hb⟩
    have c1 := gtrI_f 3 (show (S.size : Int) ≤ 300 by omega)
    by_cases h2 : 8 < i1
    · have c2 := gtrI_t 3 (show (8 : Int) < (i1 : Int) by omega)
      clear h h1 h2
      go_enter Tryz.func4, Tryz.ntmps4
      go_wp2_with (go_at_call 27; (with_reducible refine (AW.out _ e0).mono ?_); rintro e w1 ⟨rfl, hb⟩)
      go_ret
      exact ⟨rfl, bl_trans e0 hb⟩
    have c2 := gtrI_f 3 (show (i1 : Int) ≤ 8 by omega)
    have c3 := gtrI_t 3 (show (8 : Int) < (j1 : Int) by omega)
    clear h h1 h2
    go_enter Tryz.func4, Tryz.ntmps4
    go_wp2_with (go_at_call 27; (with_reducible refine (AW.out _ e0).mono ?_); rintro e w1 ⟨rfl, hb⟩)
    go_ret
    exact ⟨rfl, bl_trans e0 hb⟩
end Nt

end Go.Proofs.YtboppbidldomhaaGreatDoor
