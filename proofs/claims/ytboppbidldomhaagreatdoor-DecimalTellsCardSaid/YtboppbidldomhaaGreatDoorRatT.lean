
/-
  Package rat: Parse of a text of one number, and of what Text writes.
-/
import Derived.Test.YtboppbidldomhaaGreatDoorRatS

namespace Go.Proofs.YtboppbidldomhaaGreatDoor

open Go.RowKit

namespace Nt

set_option maxRecDepth 100000 in
set_option maxHeartbeats 4000000 in
/-- A text of one number's text is read. -/
theorem parse_w (s : ByteArray) (x : Int) (q : Rat) (w : World) (hs : s.size ≤ 100000) (hm : (47 : UInt8) ∉ s.data.toList) (h1 : parseISp s.data.toList = (isg x, idg x, 0)) (h2 : parseSp [49] = (digs 1, 0)) (hx : ln x.natAbs ≤ 64) (hq : qmk (isg x) x.natAbs 1 = q) :
    Calls Tryz.prog 44 #[.string s] w (RQE w q) := by
  obtain ⟨y, hy1⟩ : ∃ y, 1 = y := ⟨_, rfl⟩
  have hy : 0 < y := by omega
  have hyl : ln y ≤ 64 := by rw [← hy1, ln_one]; decide
  have CU := hide (fun W => (cut_miss s 47 W hm).mono fun e w' h => (⟨h.1, h.2 ▸ .refl _ W⟩ : _ ∧ Below W.heap.size W w'))
  have IP0 := fun W => parseI_any s W (by omega)
  have NP0 := fun W => parse_any { data := #[49] } W (by decide)
  have IP : Hid (∀ W, Calls Tryz.prog 95 #[.string s] W (ITwo W (isg x, idg x, 0))) := fun W => by rw [← h1]; exact IP0 W
  have NP : Hid (∀ W, Calls Tryz.prog 73 #[.string { data := #[49] }] W (Two W (digs y, 0))) := fun W => by rw [← hy1, ← h2]; exact NP0 W
  have L := hide (fun X Y e f W (s1 : Sl W X (digs x.natAbs)) (s2 : Sl W Y (digs y)) => lowest_q (isg x) X Y e f x.natAbs y q W s1 s2 (by omega) (by omega) hy (by rw [← hy1]; exact hq))
  have hj : ((ln y : Int) == 0) = false := beq_eq_false_iff_ne.2 (by have := ln_pos.2 hy; omega)
  have e0 : binOp .eql 27 (.int .i64 0) (.int .i64 0) = pure (.bool true) := rfl
  obtain ⟨t, ht⟩ : ∃ t, isg x = t := ⟨_, rfl⟩
  obtain ⟨n, hn⟩ : ∃ n, x.natAbs = n := ⟨_, rfl⟩
  have IP2 : Hid (∀ W, Calls Tryz.prog 95 #[.string s] W fun e w' => ∃ A c, e = .returned (.tuple #[.agg #[.bool t, .slice A (ln n) c], .int .i64 0]) ∧ Sl w' A (digs n) ∧ Below W.heap.size W w') := fun W => (IP.out W).mono fun e w' h => by
    obtain ⟨A, c, he, s1, b1⟩ := h
    refine ⟨A, c, ?_, ?_, b1⟩
    · rw [he, ← ht, ← hn]; rfl
    · rw [← hn]; exact s1
  have NP2 : Hid (∀ W, Calls Tryz.prog 73 #[.string { data := #[49] }] W fun e w' => ∃ A c, e = .returned (.tuple #[.slice A (ln y) c, .int .i64 0]) ∧ Sl w' A (digs y) ∧ Below W.heap.size W w') := fun W => (NP.out W).mono fun e w' h => by
    obtain ⟨A, c, he, s1, b1⟩ := h.get
    exact ⟨A, c, he, s1, b1⟩
  rw [ht, hn] at L
  clear IP NP IP0 NP0 h1 h2 hm hs hx hyl hq ht hn hy hy1
  have X := hide (Q3.new (.bool false) (.slice none 0 0) (.slice none 0 0) w)
  have b0 : Below w.heap.size w (w.alloc (.cells #[.bool false, .slice none 0 0, .slice none 0 0] 24)) := bl_al (.refl _ _) _
  go_enter Tryz.func44, Tryz.ntmps44
  go_wp2_with (first
    | (go_at_call 69; (with_reducible refine (CU.out _).mono ?_); rintro e w1 ⟨rfl, hb⟩; have X := hide (X.out.next hb); have b1 := bl_trans b0 hb; clear hb)
    | (go_at_call 95; (with_reducible refine (IP2.out _).mono ?_); rintro e w2 ⟨A2, c2, rfl, s2, hb⟩; have X := hide ((X.out.next hb).al (.cells #[.bool t, .slice A2 (ln n) c2] 50)); have Y := hide (Q2.new (.bool t) (.slice A2 (ln n) c2) w2); have b2 : Below w.heap.size w (w2.alloc (.cells #[.bool t, .slice A2 (ln n) c2] 50)) := bl_al (bl_trans b1 hb) _; have s2 := s2.alloc (.cells #[.bool t, .slice A2 (ln n) c2] 50); obtain ⟨y1, y2, y3, y4⟩ := Y.out; clear hb)
    | (go_at_call 73; (with_reducible refine (NP2.out _).mono ?_); rintro e w3 ⟨A3, c3, rfl, s3, hb⟩; have X := hide (X.out.next hb); have Y := hide (Y.out.next hb); clear y1 y2 y3 y4; obtain ⟨y1, y2, y3, y4⟩ := Y.out; have b3 := bl_trans b2 hb; have s2 := kp' hb s2; clear hb)
    | (go_at_call 93; (with_reducible refine (L.out A2 A3 c2 c3 _ s2 s3).mono ?_); rintro e w4 ⟨A4, c4, B4, d4, rfl, s4, t4, hb⟩; have X := hide (X.out.next hb); obtain ⟨z1, z2, z3, z4, z5, z6⟩ := X.out; have b4 := bl_trans b3 hb; clear hb))
  refine bodyPost_ret (v := .tuple #[.agg #[.bool (qs q), .slice A4 (ln (qn q)) c4, .slice B4 (ln (qd q)) d4], .int .i64 0]) (by simp [results, Tryz.results44, go_sem, z1, z2, z3]) rfl (RQE.mk rfl rfl rfl (s4.over3 X.out _ _ _) (t4.over3 X.out _ _ _) (Below.over3 b4 (Nat.le_refl _) _ _ _))

theorem isD_47 {c : UInt8} (h : isD c = true) : c ≠ 47 := by rintro rfl; exact absurd h (by decide)
theorem dec_47 (n : Nat) : (47 : UInt8) ∉ Lib.decDigits n := by
  intro h
  have t := (textp n).1
  unfold digitsB at t
  simp only [Bool.and_eq_true] at t
  exact isD_47 (List.all_eq_true.1 t.1 47 h) rfl
theorem parse_dec {n : Nat} (h : n < LB ^ 64) : parseSp (Lib.decDigits n) = (digs n, 0) := by
  obtain ⟨t1, t2, t3⟩ := textp n
  unfold parseSp
  rw [t1, t2, if_pos rfl, if_pos h]
theorem parse_one : parseSp [49] = (digs 1, 0) := by
  unfold parseSp
  rw [show digitsB [49] = true by decide, show decV [49] = 1 by decide, if_pos rfl, if_pos (by decide)]
theorem textI_47 {x : Int} (hx : x.natAbs < LB ^ 64) : (47 : UInt8) ∉ textISp (isg x) (idg x) := by
  have ht : textSp (idg x) = Lib.decDigits x.natAbs := by unfold textSp; rw [validI_B (validI_num hx), val_idg]; rfl
  have hn := dec_47 x.natAbs
  unfold textISp
  rw [validI_num hx, ht]
  cases isg x <;> simp [hn]
theorem ptext_q (q : Rat) (f : fitq q) (w : World) : Calls Tryz.prog 44 #[.string ⟨(textQ q).toArray⟩] w (RQE w q) := by
  have h1 : q.num.natAbs < LB ^ 64 := lt_of_ln f.1
  have z1 := textI_size (qs q) (qn q)
  have z2 := dec_size f.2
  rw [Lib.size_eq] at z1 z2
  have z1 : (textISp (qs q) (digs (qn q))).length ≤ 10001 := z1
  by_cases e : qd q = 1
  · have et : textQ q = textISp (qs q) (digs (qn q)) := by unfold textQ; rw [if_pos e, List.append_nil]
    rw [et]
    exact parse_w _ q.num q w (by rw [Lib.size_eq]; show (textISp (qs q) (digs (qn q))).length ≤ _; omega) (textI_47 h1) (parse_text h1) parse_one f.1 (by
      have := qmk_self q
      rwa [e] at this)
  · have et : textQ q = textISp (qs q) (digs (qn q)) ++ 47 :: Lib.decDigits (qd q) := by unfold textQ; rw [if_neg e]
    rw [et]
    exact parse_q _ (textISp (qs q) (digs (qn q))) (Lib.decDigits (qd q)) q.num (qd q) q w (by
      rw [Lib.size_eq]
      show (textISp (qs q) (digs (qn q)) ++ 47 :: Lib.decDigits (qd q)).length ≤ _
      rw [List.length_append, List.length_cons]
      have z2 : (Lib.decDigits (qd q)).length ≤ _ := z2
      omega) rfl (textI_47 h1) (parse_text h1) (parse_dec (lt_of_ln f.2)) (qd_pos q) f.1 f.2 (qmk_self q)
end Nt

end Go.Proofs.YtboppbidldomhaaGreatDoor
