
/-
  Package decimal: isNumeral, tenTo, Parse.
  Package decimal: Parse.
  Package decimal: showSize, Show.
  Package decimal: dividesTens, word.
  Package decimal: places, Exact.
  Package decimal: Exact.
  The reference's Of; decimals are told by their numbers alone; the awake of the laws on decimals.
-/
import Derived.Test.YtboppbidldomhaaGreatDoorRatT

import Derived.Shelf.Strings.BuilderK

import Derived.Test.YtboppbidldomhaaGreatDoorRefQ

namespace Go.Proofs.YtboppbidldomhaaGreatDoor

open Go.RowKit

namespace Nt

/-- Is a text one numeral? -/
def numB (l : List UInt8) : Bool := decide (l = [48]) || (digitsB l && decide (l.head? ≠ some 48))
theorem numB_digits {l : List UInt8} (h : numB l = true) : l.all isD = true ∧ l ≠ [] := by
  unfold numB at h
  rw [Bool.or_eq_true, decide_eq_true_eq, Bool.and_eq_true] at h
  rcases h with rfl | ⟨h, _⟩
  · exact ⟨by decide, by decide⟩
  · unfold digitsB at h
    rw [Bool.and_eq_true, decide_eq_true_eq] at h
    exact h
theorem cat_list (a b : ByteArray) : (a ++ b).data.toList = a.data.toList ++ b.data.toList := by simp
theorem eq_s (t : TypeId) {a b : ByteArray} (h : a = b) : binOp .eql t (.string a) (.string b) = pure (.bool true) := by
  subst h
  rw [binOp_string_eql, beq_self_eq_true]
theorem eq_n (t : TypeId) {a b : ByteArray} (h : a ≠ b) : binOp .eql t (.string a) (.string b) = pure (.bool false) := by
  rw [binOp_string_eql, ByteArray.toList_eq, ByteArray.toList_eq, beq_eq_false_iff_ne.2]
  intro e
  apply h
  cases a with
  | mk a =>
    cases b with
    | mk b => simp at e; rw [e]
set_option maxHeartbeats 1000000 in
theorem isNumeral_any (s : ByteArray) (w : World) (hs : s.size ≤ 1000000) :
    Calls Tryz.prog 70 #[.string s] w fun e w' => e = .returned (.bool (numB s.data.toList)) ∧ w = w' := by
  have AD := allDigits_any s w (by unfold maxLen; omega)
  by_cases h0 : s = ⟨#[48]⟩
  · subst h0
    have e1 : binOp .eql 9 (.string ⟨#[48]⟩) (.string ⟨#[48]⟩) = pure (.bool true) := eq_s _ rfl
    clear AD
    go_enter Tryz.func70, Tryz.ntmps70
    go_wp2
    go_ret
    exact ⟨rfl, rfl⟩
  · have e1 : binOp .eql 9 (.string s) (.string ⟨#[48]⟩) = pure (.bool false) := eq_n _ h0
    have hl : s.data.toList ≠ [48] := fun e => h0 (by cases s with | mk d => simp at e; rw [← e])
    have E : Hid (numB s.data.toList = (digitsB s.data.toList && decide (s.data.toList.head? ≠ some 48))) := by
      show numB _ = _
      unfold numB
      rw [decide_eq_false hl, Bool.false_or]
    rw [E.out]
    cases hd : digitsB s.data.toList with
    | false =>
      rw [hd] at AD
      have AD := hide AD
      clear hd E hl h0
      go_enter Tryz.func70, Tryz.ntmps70
      go_wp2_with (go_at_call 71; (with_reducible refine (AD.out).mono ?_); rintro e w' ⟨rfl, rfl⟩)
      go_ret
      exact ⟨rfl, rfl⟩
    | true =>
      rw [hd] at AD
      have AD := hide AD
      have hne : s.data.toList ≠ [] := by
        unfold digitsB at hd
        rw [Bool.and_eq_true, decide_eq_true_eq] at hd
        exact hd.2
      have hp : 0 < s.size := by rw [Lib.size_eq]; exact List.length_pos_iff.2 hne
      obtain ⟨r, hr⟩ : ∃ r, decide (s.data.toList.head? ≠ some 48) = r := ⟨_, rfl⟩
      rw [Bool.true_and, hr]
      have hr' : ((s[0].toNat : Int) != 48) = r := by
        rw [← hr]
        have hc : s.data.toList.head? = some s[0] := by
          cases s with
          | mk d =>
            cases d with
            | mk l =>
              cases l with
              | nil => exact absurd rfl hne
              | cons c l => rfl
        rw [hc]
        generalize s[0] = c
        by_cases h : c = 48
        · subst h; decide
        · rw [decide_eq_true (by simpa using h)]
          have : c.toNat ≠ 48 := fun e => h (UInt8.toNat_inj.1 (by rw [e]; rfl))
          simpa using fun e : (c.toNat : Int) = 48 => this (by omega)
      clear hd E hl h0 hne hr
      go_enter Tryz.func70, Tryz.ntmps70
      go_wp2_with (go_at_call 71; (with_reducible refine (AD.out).mono ?_); rintro e w' ⟨rfl, rfl⟩)
      go_ret
      exact ⟨rfl, rfl⟩

theorem decV_tens (k : Nat) : decV (49 :: List.replicate k 48) = 10 ^ k := by
  induction k with
  | zero => decide
  | succ k ih =>
    rw [List.replicate_succ', ← List.cons_append, decV_snoc, ih, show digD 48 = 0 from rfl, Nat.add_zero, Nat.pow_succ]
theorem all_tens (k : Nat) : (49 :: List.replicate k 48).all isD = true := by
  rw [List.all_eq_true]
  intro x hx
  rcases List.mem_cons.1 hx with rfl | hx
  · decide
  · rw [List.eq_of_mem_replicate hx]; decide
theorem repeat_any (z : Nat) (hz : z ≤ 10000) (w : World) :
    Calls Tryz.prog 117 #[.string { data := #[48] }, .int .i64 (z : Int)] w fun e w' => ∃ D : ByteArray, e = .returned (.string D) ∧ (D.size = z ∧ Txt (List.replicate z 48) D) ∧ Below w.heap.size w w' := by
  refine (Tryz.strings_Repeat ⟨#[48]⟩ z w (by omega) (by show 1 * z ≤ _; omega)).mono fun e w' ⟨h1, h2⟩ => ⟨_, h1, ?_, h2⟩
  have e1 : Lib.repeatL (⟨#[48]⟩ : ByteArray).data.toList z = List.replicate z 48 := by
    have := Lib.repeatL_replicate (48 : UInt8) 1 z
    simpa using this
  rw [e1]
  exact ⟨by rw [(Txt.mk _).size, List.length_replicate], Txt.mk _⟩
set_option maxHeartbeats 1000000 in
theorem tenTo_any (k : Nat) (hk : k ≤ 10000) (w : World) :
    Calls Tryz.prog 76 #[.int .i64 (k : Int)] w fun e w' => ∃ A c, e = .returned (.slice A (ln (10 ^ k)) c) ∧ Sl w' A (digs (10 ^ k)) ∧ Below w.heap.size w w' := by
  have R := hide (fun W => repeat_any k hk W)
  have L := hide (fun (D : ByteArray) W (h : Txt (List.replicate k 48) D) => lparse_any (⟨#[49]⟩ ++ D) W (by rw [cat_list, show D.data.toList = _ from h]; exact all_tens k) (by rw [ByteArray.size_append, h.size, List.length_replicate]; show 1 + k ≤ _; omega))
  have L2 : Hid (∀ (D : ByteArray) W, Txt (List.replicate k 48) D → Calls Tryz.prog 75 #[.string (⟨#[49]⟩ ++ D)] W (Rd W (10 ^ k))) := fun D W h => (L.out D W h).mono fun e w' m => by
    rw [cat_list, show D.data.toList = _ from h, show (⟨#[49]⟩ : ByteArray).data.toList ++ List.replicate k 48 = 49 :: List.replicate k 48 from rfl, decV_tens] at m
    exact m.rd rfl
  clear L
  generalize (10 ^ k) = n at *
  go_enter Tryz.func76, Tryz.ntmps76
  go_wp2_with (first
    | (go_at_call 117; (with_reducible refine (R.out _).mono ?_); rintro e w1 ⟨D, rfl, ⟨hD, hT⟩, b1⟩; have HT := hide hT; clear hT)
    | (go_at_call 75; (with_reducible refine (L2.out D _ HT.out).mono ?_); rintro e w2 ⟨A, c, rfl, s, b2⟩))
  go_ret
  exact ⟨A, c, rfl, s, bl_trans b1 b2⟩
end Nt

end Go.Proofs.YtboppbidldomhaaGreatDoor

namespace Go.Proofs.YtboppbidldomhaaGreatDoor

open Go.RowKit

namespace Nt

/-- A text's number, as the document says: none, or the digits by a power of ten. -/
def decSp (l : List UInt8) : Option Rat :=
  match l.dropWhile (· != 46) with
  | [] => if numB l then some (qmk false (decV l) 1) else none
  | _ :: v => if numB (l.takeWhile (· != 46)) && digitsB v then some (qmk false (decV (l.takeWhile (· != 46) ++ v)) (10 ^ v.length)) else none

theorem dec_split (l : List UInt8) : (46 ∉ l ∧ l.dropWhile (· != 46) = []) ∨ ∃ v, l = l.takeWhile (· != 46) ++ 46 :: v ∧ 46 ∉ l.takeWhile (· != 46) ∧ l.dropWhile (· != 46) = 46 :: v := by
  induction l with
  | nil => exact .inl ⟨by simp, rfl⟩
  | cons c l ih =>
    by_cases hc : c = 46
    · subst hc
      exact .inr ⟨l, by simp, by simp, by simp⟩
    · have e1 : (c != 46) = true := by simpa using hc
      rw [List.takeWhile_cons, List.dropWhile_cons, if_pos e1, if_pos e1]
      rcases ih with ⟨h1, h2⟩ | ⟨v, h1, h2, h3⟩
      · exact .inl ⟨by simp [h1, Ne.symm hc], h2⟩
      · exact .inr ⟨v, by rw [List.cons_append, ← h1], by simp [h2, Ne.symm hc], h3⟩
theorem decSp_plain {l : List UInt8} (h : l.dropWhile (· != 46) = []) : decSp l = if numB l then some (qmk false (decV l) 1) else none := by
  unfold decSp; rw [h]
theorem decSp_point {l v : List UInt8} (h : l.dropWhile (· != 46) = 46 :: v) : decSp l = if numB (l.takeWhile (· != 46)) && digitsB v then some (qmk false (decV (l.takeWhile (· != 46) ++ v)) (10 ^ v.length)) else none := by
  unfold decSp; rw [h]
theorem trim_zeros (l : List UInt8) : ∃ z, l = Lib.trimRightB l 48 ++ List.replicate z 48 := by
  unfold Lib.trimRightB
  have h : ∀ m : List UInt8, ∃ z, m = List.replicate z 48 ++ m.dropWhile (· == 48) := by
    intro m
    induction m with
    | nil => exact ⟨0, rfl⟩
    | cons c m ih =>
      by_cases hc : c = 48
      · subst hc
        obtain ⟨z, hz⟩ := ih
        refine ⟨z + 1, ?_⟩
        rw [List.dropWhile_cons, if_pos (by decide), List.replicate_succ, List.cons_append, ← hz]
      · exact ⟨0, by rw [List.dropWhile_cons, if_neg (by simpa using hc)]; rfl⟩
  obtain ⟨z, hz⟩ := h l.reverse
  refine ⟨z, ?_⟩
  have := congrArg List.reverse hz
  rw [List.reverse_reverse, List.reverse_append, List.reverse_replicate] at this
  exact this
theorem decV_zeros' (l : List UInt8) (z : Nat) : decV (l ++ List.replicate z 48) = decV l * 10 ^ z := by
  induction z with
  | zero => simp
  | succ z ih => rw [List.replicate_succ', ← List.append_assoc, decV_snoc, ih, show digD 48 = 0 from rfl, Nat.pow_succ]; rw [Nat.add_zero, Nat.mul_assoc]
theorem qmk_scale (n d c : Nat) (hc : 0 < c) : qmk false (n * c) (d * c) = qmk false n d := by
  unfold qmk
  show mkRat ((n * c : Nat) : Int) (d * c) = mkRat (n : Int) d
  rw [Int.natCast_mul]
  exact Rat.mkRat_mul_right (by omega)
theorem trim_q (u v : List UInt8) : qmk false (decV (u ++ v)) (10 ^ v.length) = qmk false (decV (u ++ Lib.trimRightB v 48)) (10 ^ (Lib.trimRightB v 48).length) := by
  obtain ⟨z, hz⟩ := trim_zeros v
  have e1 : decV (u ++ v) = decV (u ++ Lib.trimRightB v 48) * 10 ^ z := by
    rw [← decV_zeros', List.append_assoc, ← hz]
  have e2 : v.length = (Lib.trimRightB v 48).length + z := by
    have := congrArg List.length hz
    rw [List.length_append, List.length_replicate] at this
    exact this
  rw [e1, e2, Nat.pow_add]
  exact qmk_scale _ _ _ (Nat.pow_pos (by decide))
theorem two_ten {k m : Nat} (h : k ≤ 1000) (hm : 4000 < m) : 10 ^ k < 2 ^ m := by
  have e1 : (10 : Nat) ^ k ≤ 2 ^ (4 * k) := by rw [Nat.pow_mul]; exact Nat.pow_le_pow_left (by decide) k
  exact Nat.lt_of_le_of_lt e1 (Nat.pow_lt_pow_right (by decide) (by omega))
theorem lbk (k : Nat) : LB ^ k = 2 ^ (64 * k) := by
  rw [Nat.pow_mul]
  exact congrArg (fun x => x ^ k) LB_eq
theorem ten_lt {k : Nat} (h : k ≤ 1000) : 10 ^ k < LB ^ 64 := Nat.lt_of_lt_of_eq (two_ten h (by decide)) (lbk 64).symm

set_option maxRecDepth 100000 in
set_option maxHeartbeats 2000000 in
theorem dparse_bad (s U V : ByteArray) (pt r1 r2 : Bool) (w : World)
    (CU : Hid (∀ W, Calls Tryz.prog 69 #[.string s, .string ⟨#[46]⟩] W fun e w' => e = .returned (.tuple #[.string U, .string V, .bool pt]) ∧ Below W.heap.size W w'))
    (IN : Hid (∀ W, Calls Tryz.prog 70 #[.string U] W fun e w' => e = .returned (.bool r1) ∧ W = w'))
    (AD : Hid (∀ W, Calls Tryz.prog 71 #[.string V] W fun e w' => e = .returned (.bool r2) ∧ W = w'))
    (h : r1 = false ∨ (pt = true ∧ r2 = false)) :
    Calls Tryz.prog 28 #[.string s] w (RNo 2 w) := by
  have X := hide (Q3.new (.bool false) (.slice none 0 0) (.slice none 0 0) w)
  have b0 : Below w.heap.size w (w.alloc (.cells #[.bool false, .slice none 0 0, .slice none 0 0] 24)) := bl_al (.refl _ _) _
  cases r1 with
  | false =>
    clear h AD
    go_enter Tryz.func28, Tryz.ntmps28
    go_wp2_with (first
      | (go_at_call 69; (with_reducible refine (CU.out _).mono ?_); rintro e w1 ⟨rfl, hb⟩; have X := hide (X.out.next hb); obtain ⟨z1, z2, z3, z4, z5, z6⟩ := X.out; have b1 := bl_trans b0 hb; clear hb)
      | (go_at_call 70; (with_reducible refine (IN.out _).mono ?_); rintro e w2 ⟨rfl, rfl⟩))
    exact bodyPost_ret (v := .tuple #[.agg #[.bool false, .slice none 0 0, .slice none 0 0], .int .i64 2]) (by simp [results, Tryz.results28, go_sem, z1, z2, z3]) rfl ⟨rfl, Below.over3 b1 (Nat.le_refl _) _ _ _⟩
  | true =>
    obtain ⟨rfl, rfl⟩ : pt = true ∧ r2 = false := by rcases h with h | h; exact absurd h (by decide); exact h
    clear h
    go_enter Tryz.func28, Tryz.ntmps28
    go_wp2_with (first
      | (go_at_call 69; (with_reducible refine (CU.out _).mono ?_); rintro e w1 ⟨rfl, hb⟩; have X := hide (X.out.next hb); obtain ⟨z1, z2, z3, z4, z5, z6⟩ := X.out; have b1 := bl_trans b0 hb; clear hb)
      | (go_at_call 70; (with_reducible refine (IN.out _).mono ?_); rintro e w2 ⟨rfl, rfl⟩)
      | (go_at_call 71; (with_reducible refine (AD.out _).mono ?_); rintro e w2 ⟨rfl, rfl⟩))
    exact bodyPost_ret (v := .tuple #[.agg #[.bool false, .slice none 0 0, .slice none 0 0], .int .i64 2]) (by simp [results, Tryz.results28, go_sem, z1, z2, z3]) rfl ⟨rfl, Below.over3 b1 (Nat.le_refl _) _ _ _⟩

set_option maxRecDepth 100000 in
set_option maxHeartbeats 4000000 in
theorem dparse_good (s U V T : ByteArray) (pt r2 : Bool) (n N : Nat) (q : Rat) (w : World)
    (CU : Hid (∀ W, Calls Tryz.prog 69 #[.string s, .string ⟨#[46]⟩] W fun e w' => e = .returned (.tuple #[.string U, .string V, .bool pt]) ∧ Below W.heap.size W w'))
    (IN : Hid (∀ W, Calls Tryz.prog 70 #[.string U] W fun e w' => e = .returned (.bool true) ∧ W = w'))
    (AD : Hid (∀ W, Calls Tryz.prog 71 #[.string V] W fun e w' => e = .returned (.bool r2) ∧ W = w'))
    (TR : Hid (∀ W, Calls Tryz.prog 72 #[.string V, .string ⟨#[48]⟩] W fun e w' => e = .returned (.string T) ∧ W = w'))
    (NP : Hid (∀ W, Calls Tryz.prog 73 #[.string U] W fun e w' => ∃ A c, e = .returned (.tuple #[.slice A n c, .int .i64 0]) ∧ Below W.heap.size W w'))
    (LP : Hid (∀ W, Calls Tryz.prog 75 #[.string (U ++ T)] W (Rd W N)))
    (h : pt = false ∨ r2 = true) (hk' : T.size ≤ 1000) (hu : U.size ≤ 1000) (hN : ln N ≤ 1000) (hq : qmk false N (10 ^ T.size) = q) (f : fitq q) :
    Calls Tryz.prog 28 #[.string s] w (RQE w q) := by
  obtain ⟨D, hD⟩ : ∃ D, 10 ^ T.size = D := ⟨_, rfl⟩
  have D0 : 0 < D := by rw [← hD]; exact Nat.pow_pos (by decide)
  have Dl : ln D ≤ 64 := by rw [← hD]; exact ln_le (ten_lt hk')
  have TT : Hid (∀ W, Calls Tryz.prog 76 #[.int .i64 (T.size : Int)] W (Rd W D)) := hide (fun W => hD ▸ tenTo_any T.size (by omega) W)
  rw [hD] at hq
  obtain ⟨u, hu1⟩ : ∃ u, N / Nat.gcd N D = u := ⟨_, rfl⟩
  obtain ⟨v, hv1⟩ : ∃ v, D / Nat.gcd N D = v := ⟨_, rfl⟩
  have h0' : D ≠ 0 := by omega
  have E1 := hide (show qs q = false by rw [← hq]; exact (qs_mk false N h0').trans (by simp))
  have E2 := hide (show qn q = u by rw [← hq]; exact (qn_mk false N h0').trans hu1)
  have E3 := hide (show qd q = v by rw [← hq]; exact (qd_mk false N h0').trans hv1)
  have LW := hide (fun X Y e g W (sx : Sl W X (digs N)) (sy : Sl W Y (digs D)) => lowest_z X Y e g N D u v W sx sy (by omega) (by omega) D0 hu1 hv1)
  have lu : ln u ≤ 64 := by rw [← E2.out]; exact f.1
  have lv : ln v ≤ 64 := by rw [← E3.out]; exact f.2
  obtain ⟨m, hm⟩ : ∃ m : Nat, max (ln u) (ln v) = m := ⟨_, rfl⟩
  have hmx : ∀ ts t W, (Builtin.max_ ts t #[.int .i64 (ln u : Int), .int .i64 (ln v : Int)]).run Tryz.prog W = .ok (.int .i64 (m : Int)) W := fun ts t W => by
    rw [run_max_int2]
    congr 2
    split <;> omega
  have hm64 : m ≤ 64 := by omega
  have MK := hide (fun (A B : Option Addr) (c d : Nat) (W : World) (sa : Sl W A (digs u)) (sb : Sl W B (digs v)) (b : Below w.heap.size w W) => (RQE.mk E1.out E2.out E3.out sa sb b : RQE w q (.returned (.tuple #[.agg #[.bool false, .slice A (ln u) c, .slice B (ln v) d], .int .i64 0])) W))
  have e0 : binOp .neq 27 (.int .i64 0) (.int .i64 0) = pure (.bool false) := rfl
  have X := hide (Q3.new (.bool false) (.slice none 0 0) (.slice none 0 0) w)
  have b0 : Below w.heap.size w (w.alloc (.cells #[.bool false, .slice none 0 0, .slice none 0 0] 24)) := bl_al (.refl _ _) _
  have o1 : binOp .gtr 3 (.int .i64 (T.size : Int)) (.int .i64 4095) = pure (.bool false) := by
    show pure (Value.bool (decide ((T.size : Int) > 4095))) = _
    rw [decide_eq_false (by omega)]
  clear E1 E2 E3 hu1 hv1 h0' hq f D0 Dl hD hN hm lu lv
  cases pt with
  | false =>
    clear AD h
    go_enter Tryz.func28, Tryz.ntmps28
    go_wp2_with (first
      | (go_at_call 69; (with_reducible refine (CU.out _).mono ?_); rintro e w1 ⟨rfl, hb⟩; have X := hide (X.out.next hb); have b1 := bl_trans b0 hb; clear hb)
      | (go_at_call 70; (with_reducible refine (IN.out _).mono ?_); rintro e w2 ⟨rfl, rfl⟩)
      | (go_at_call 72; (with_reducible refine (TR.out _).mono ?_); rintro e w2 ⟨rfl, rfl⟩)
      | (go_at_call 73; (with_reducible refine (NP.out _).mono ?_); rintro e w2 ⟨A2, c2, rfl, hb⟩; have X := hide (X.out.next hb); have b2 := bl_trans b1 hb; clear hb)
      | (go_at_call 75; (with_reducible refine (LP.out _).mono ?_); rintro e w3 ⟨A3, c3, rfl, s3, hb⟩; have X := hide (X.out.next hb); have b3 := bl_trans b2 hb; clear hb)
      | (go_at_call 76; (with_reducible refine (TT.out _).mono ?_); rintro e w4 ⟨A4, c4, rfl, s4, hb⟩; have X := hide (X.out.next hb); have b4 := bl_trans b3 hb; have s3 := kp' hb s3; clear hb)
      | (go_at_call 74; (with_reducible refine (LW.out A3 A4 c3 c4 _ s3 s4).mono ?_); rintro e w5 ⟨A5, c5, B5, d5, rfl, s5, t5, hb⟩; have X := hide (X.out.next hb); obtain ⟨z1, z2, z3, z4, z5, z6⟩ := X.out; have b5 := bl_trans b4 hb; clear hb))
    exact bodyPost_ret (v := .tuple #[.agg #[.bool false, .slice A5 (ln u) c5, .slice B5 (ln v) d5], .int .i64 0]) (by simp [results, Tryz.results28, go_sem, z1, z2, z3]) rfl (MK.out A5 B5 c5 d5 _ (s5.over3 X.out _ _ _) (t5.over3 X.out _ _ _) (Below.over3 b5 (Nat.le_refl _) _ _ _))
  | true =>
    obtain rfl : r2 = true := by rcases h with h | h; exact absurd h (by decide); exact h
    clear h
    go_enter Tryz.func28, Tryz.ntmps28
    go_wp2_with (first
      | (go_at_call 69; (with_reducible refine (CU.out _).mono ?_); rintro e w1 ⟨rfl, hb⟩; have X := hide (X.out.next hb); have b1 := bl_trans b0 hb; clear hb)
      | (go_at_call 70; (with_reducible refine (IN.out _).mono ?_); rintro e w2 ⟨rfl, rfl⟩)
      | (go_at_call 71; (with_reducible refine (AD.out _).mono ?_); rintro e w2 ⟨rfl, rfl⟩)
      | (go_at_call 72; (with_reducible refine (TR.out _).mono ?_); rintro e w2 ⟨rfl, rfl⟩)
      | (go_at_call 73; (with_reducible refine (NP.out _).mono ?_); rintro e w2 ⟨A2, c2, rfl, hb⟩; have X := hide (X.out.next hb); have b2 := bl_trans b1 hb; clear hb)
      | (go_at_call 75; (with_reducible refine (LP.out _).mono ?_); rintro e w3 ⟨A3, c3, rfl, s3, hb⟩; have X := hide (X.out.next hb); have b3 := bl_trans b2 hb; clear hb)
      | (go_at_call 76; (with_reducible refine (TT.out _).mono ?_); rintro e w4 ⟨A4, c4, rfl, s4, hb⟩; have X := hide (X.out.next hb); have b4 := bl_trans b3 hb; have s3 := kp' hb s3; clear hb)
      | (go_at_call 74; (with_reducible refine (LW.out A3 A4 c3 c4 _ s3 s4).mono ?_); rintro e w5 ⟨A5, c5, B5, d5, rfl, s5, t5, hb⟩; have X := hide (X.out.next hb); obtain ⟨z1, z2, z3, z4, z5, z6⟩ := X.out; have b5 := bl_trans b4 hb; clear hb))
    exact bodyPost_ret (v := .tuple #[.agg #[.bool false, .slice A5 (ln u) c5, .slice B5 (ln v) d5], .int .i64 0]) (by simp [results, Tryz.results28, go_sem, z1, z2, z3]) rfl (MK.out A5 B5 c5 d5 _ (s5.over3 X.out _ _ _) (t5.over3 X.out _ _ _) (Below.over3 b5 (Nat.le_refl _) _ _ _))

theorem dec_fit {l : List UInt8} (k : Nat) (hl : l.length ≤ 1000) (ha : l.all isD = true) (hk : k ≤ 1000) : fitq (qmk false (decV l) (10 ^ k)) := by
  have h0 : 10 ^ k ≠ 0 := Nat.pos_iff_ne_zero.1 (Nat.pow_pos (by decide))
  have h1 : decV l < LB ^ 64 := Nat.lt_trans (decV_lt ha) (ten_lt hl)
  exact ⟨ln_le (by rw [qn_mk false _ h0]; exact Nat.lt_of_le_of_lt (Nat.div_le_self _ _) h1), ln_le (by rw [qd_mk false _ h0]; exact Nat.lt_of_le_of_lt (Nat.div_le_self _ _) (ten_lt hk))⟩
theorem npp (u : List UInt8) (w : World) (hs : u.length ≤ 1000) (h : u.all isD = true) (hne : u ≠ []) :
    Calls Tryz.prog 73 #[.string ⟨u.toArray⟩] w fun e w' => ∃ A c, e = .returned (.tuple #[.slice A (ln (decV u)) c, .int .i64 0]) ∧ Below w.heap.size w w' := by
  have P := parse_any ⟨u.toArray⟩ w (by rw [Lib.size_eq]; show u.length ≤ _; omega)
  have e : parseSp u = (digs (decV u), 0) := by
    unfold parseSp digitsB
    rw [h, Bool.true_and, decide_eq_true hne, if_pos rfl, if_pos (Nat.lt_trans (decV_lt h) (ten_lt hs))]
  rw [show (⟨u.toArray⟩ : ByteArray).data.toList = u from rfl, e] at P
  exact P.mono fun _ _ m => by
    obtain ⟨A, c, he, _, b⟩ := m.get
    exact ⟨A, c, he, b⟩
theorem digitsB_all {l : List UInt8} (h : digitsB l = true) : l.all isD = true := by
  unfold digitsB at h
  rw [Bool.and_eq_true] at h
  exact h.1
theorem trim_all {l : List UInt8} (h : l.all isD = true) : (Lib.trimRightB l 48).all isD = true := by
  obtain ⟨z, hz⟩ := trim_zeros l
  rw [hz, List.all_append, Bool.and_eq_true] at h
  exact h.1
theorem trim_len (l : List UInt8) : (Lib.trimRightB l 48).length ≤ l.length := by
  obtain ⟨z, hz⟩ := trim_zeros l
  have := congrArg List.length hz
  rw [List.length_append] at this
  omega
theorem trimRight_z (v : List UInt8) (w : World) (hv : v.length ≤ 100000) :
    Calls Tryz.prog 72 #[.string ⟨v.toArray⟩, .string ⟨#[48]⟩] w fun e w' => e = .returned (.string ⟨(Lib.trimRightB v 48).toArray⟩) ∧ w = w' :=
  (Tryz.strings_TrimRight_one ⟨v.toArray⟩ 48 (by decide) w (by rw [Lib.size_eq]; show v.length ≤ _; omega)).mono fun _ _ h => ⟨h.1, h.2.symm⟩
theorem lparse_z (u t : List UInt8) (w : World) (hu : (u ++ t).length ≤ 2000) (h : (u ++ t).all isD = true) :
    Calls Tryz.prog 75 #[.string (⟨u.toArray⟩ ++ ⟨t.toArray⟩)] w (Rd w (decV (u ++ t))) := by
  have e : ((⟨u.toArray⟩ : ByteArray) ++ ⟨t.toArray⟩).data.toList = u ++ t := cat_list _ _
  have P := lparse_any ((⟨u.toArray⟩ : ByteArray) ++ ⟨t.toArray⟩) w (by rw [e]; exact h) (by rw [Lib.size_eq, e]; omega)
  rw [e] at P
  exact P.mono fun _ _ m => m.rd rfl
theorem arr_len (l : List UInt8) : (⟨l.toArray⟩ : ByteArray).size = l.length := by rw [Lib.size_eq]
theorem dparse_cut (s : ByteArray) (u v : List UInt8) (pt : Bool) (w : World) (hul : u.length + v.length ≤ 1000)
    (CU : Hid (∀ W, Calls Tryz.prog 69 #[.string s, .string ⟨#[46]⟩] W fun e w' => e = .returned (.tuple #[.string ⟨u.toArray⟩, .string ⟨v.toArray⟩, .bool pt]) ∧ Below W.heap.size W w'))
    (hv : pt = false → v = []) :
    (numB u = false ∨ (pt = true ∧ digitsB v = false) → Calls Tryz.prog 28 #[.string s] w (RNo 2 w)) ∧
    (numB u = true → (pt = false ∨ digitsB v = true) → Calls Tryz.prog 28 #[.string s] w (RQE w (qmk false (decV (u ++ v)) (10 ^ v.length)))) := by
  have IN := hide (fun W => isNumeral_any ⟨u.toArray⟩ W (by rw [arr_len]; omega))
  have AD := hide (fun W => allDigits_any ⟨v.toArray⟩ W (by rw [arr_len]; unfold maxLen; omega))
  refine ⟨fun h => dparse_bad s _ _ pt _ _ w CU IN AD h, fun h1 h2 => ?_⟩
  obtain ⟨hua, hune⟩ := numB_digits h1
  have hva : v.all isD = true := by
    rcases h2 with h2 | h2
    · rw [hv h2]; rfl
    · exact digitsB_all h2
  have tl := trim_len v
  have uta : (u ++ Lib.trimRightB v 48).all isD = true := by rw [List.all_append, hua, trim_all hva]; rfl
  have utl : (u ++ Lib.trimRightB v 48).length ≤ 1000 := by rw [List.length_append]; omega
  rw [trim_q u v]
  have sz := arr_len (Lib.trimRightB v 48)
  have IN2 : Hid (∀ W, Calls Tryz.prog 70 #[.string ⟨u.toArray⟩] W fun e w' => e = .returned (.bool true) ∧ W = w') := fun W => by
    have := IN.out W
    rwa [show numB (⟨u.toArray⟩ : ByteArray).data.toList = true from h1] at this
  have NL : ln (decV (u ++ Lib.trimRightB v 48)) ≤ 1000 := Nat.le_trans (ln_le (k := 64) (Nat.lt_trans (decV_lt uta) (ten_lt utl))) (by decide)
  exact dparse_good s _ _ ⟨(Lib.trimRightB v 48).toArray⟩ pt _ _ _ _ w CU IN2 AD (hide (fun W => trimRight_z v W (by omega))) (hide (fun W => npp u W (by omega) hua hune)) (hide (fun W => lparse_z u _ W (by omega) uta)) h2 (by omega) (by rw [arr_len]; omega) NL (by rw [sz]) (dec_fit _ utl uta (by omega))
theorem dparse_all (s : ByteArray) (w : World) (hs : s.size ≤ 1000) :
    (decSp s.data.toList = none → Calls Tryz.prog 28 #[.string s] w (RNo 2 w)) ∧
    (∀ q, decSp s.data.toList = some q → Calls Tryz.prog 28 #[.string s] w (RQE w q)) := by
  have hsz := Lib.size_eq s
  have hs' : s = ⟨s.data.toList.toArray⟩ := by cases s with | mk d => simp
  rcases dec_split s.data.toList with ⟨h1, h2⟩ | ⟨v, h1, h2, h3⟩
  · have CU : Hid (∀ W, Calls Tryz.prog 69 #[.string s, .string ⟨#[46]⟩] W fun e w' => e = .returned (.tuple #[.string ⟨s.data.toList.toArray⟩, .string ⟨([] : List UInt8).toArray⟩, .bool false]) ∧ Below W.heap.size W w') := fun W => (cut_miss s 46 W h1).mono fun e w' h => ⟨by rw [← hs']; exact h.1, h.2 ▸ .refl _ W⟩
    obtain ⟨c1, c2⟩ := dparse_cut s s.data.toList [] false w (by rw [List.length_nil]; omega) CU (fun _ => rfl)
    rw [decSp_plain h2]
    cases hn : numB s.data.toList with
    | false => exact ⟨fun _ => c1 (.inl hn), fun q hq => by simp at hq⟩
    | true =>
      refine ⟨fun h => by simp at h, fun q hq => ?_⟩
      simp only [if_true, Option.some.injEq] at hq
      have := c2 hn (.inl rfl)
      rw [List.append_nil] at this
      rw [← hq]
      exact this
  · generalize s.data.toList.takeWhile (· != 46) = u at *
    have hl := congrArg List.length h1
    rw [List.length_append, List.length_cons] at hl
    have CU := hide (fun W => cut_hit s 46 u v W h1 h2 (by omega))
    obtain ⟨c1, c2⟩ := dparse_cut s u v true w (by omega) CU (fun h => by cases h)
    have ED : decSp s.data.toList = if numB u && digitsB v then some (qmk false (decV (u ++ v)) (10 ^ v.length)) else none := by
      unfold decSp
      rw [h3]
      have : s.data.toList.takeWhile (· != 46) = u := by
        rw [h1, List.takeWhile_append_of_pos (fun a ha => by
          have : a ≠ 46 := by rintro rfl; exact h2 ha
          simpa using this)]
        simp
      rw [this]
    rw [ED]
    cases hn : numB u with
    | false => exact ⟨fun _ => c1 (.inl hn), fun q hq => by simp at hq⟩
    | true =>
      cases hd : digitsB v with
      | false => exact ⟨fun _ => c1 (.inr ⟨rfl, hd⟩), fun q hq => by simp at hq⟩
      | true =>
        refine ⟨fun h => by simp at h, fun q hq => ?_⟩
        simp only [Bool.true_and, if_true, Option.some.injEq] at hq
        rw [← hq]
        exact c2 hn (.inr hd)
end Nt

end Go.Proofs.YtboppbidldomhaaGreatDoor

namespace Go.Proofs.YtboppbidldomhaaGreatDoor

open Go.RowKit

namespace Nt

/-- A size as a term. -/
def sizeT (q : Rat) : List UInt8 := if qd q = 1 then Lib.decDigits (qn q) ++ [46, 48] else [40, 47, 32] ++ (Lib.decDigits (qn q) ++ [46, 48]) ++ [32] ++ Lib.decDigits (qd q) ++ [46, 48, 41]
/-- A number as a term. -/
def showT (q : Rat) : List UInt8 := if qs q then [40, 45, 32] ++ sizeT q ++ [41] else sizeT q
theorem sizeT_size {q : Rat} (f : fitq q) : (⟨(sizeT q).toArray⟩ : ByteArray).size ≤ 20100 := by
  have z1 := dec_size f.1
  have z2 := dec_size f.2
  rw [Lib.size_eq] at z1 z2
  have z1 : (Lib.decDigits (qn q)).length ≤ 10000 := z1
  have z2 : (Lib.decDigits (qd q)).length ≤ 10000 := z2
  rw [Lib.size_eq]
  show (sizeT q).length ≤ _
  unfold sizeT
  split <;> simp only [List.length_append, List.length_cons, List.length_nil] <;> omega
theorem bz1 (a b c : UInt8) : (⟨#[a, b, c]⟩ : ByteArray).size = 3 := rfl
theorem bz2 (a b : UInt8) : (⟨#[a, b]⟩ : ByteArray).size = 2 := rfl
theorem bz3 (a : UInt8) : (⟨#[a]⟩ : ByteArray).size = 1 := rfl
set_option maxRecDepth 100000 in
set_option maxHeartbeats 4000000 in
theorem showSize_q (q : Rat) (s : Bool) (A B : Option Addr) (a b : Nat) (w : World) (sA : Sl w A (digs (qn q))) (sB : Sl w B (digs (qd q))) (f1 : fitq q) (ht : Pow10 w) :
    Calls Tryz.prog 86 #[.agg #[.bool s, .slice A (ln (qn q)) a, .slice B (ln (qd q)) b]] w fun e w' => e = .returned (.string ⟨(sizeT q).toArray⟩) ∧ Below w.heap.size w w' := by
  have N1 := hide (fun W (k : Below w.heap.size w W) => nat_text A a (qn q) W (kp' k sA) f1.1 (pow_below ht k))
  have N2 := hide (fun W (k : Below w.heap.size w W) => nat_text B b (qd q) W (kp' k sB) f1.2 (pow_below ht k))
  have z1 := dec_size f1.1
  have z2 := dec_size f1.2
  obtain ⟨D1, hD1⟩ : ∃ D : ByteArray, D = ⟨(Lib.decDigits (qn q)).toArray⟩ := ⟨_, rfl⟩
  obtain ⟨D2, hD2⟩ : ∃ D : ByteArray, D = ⟨(Lib.decDigits (qd q)).toArray⟩ := ⟨_, rfl⟩
  have l1 : D1.data.toList = Lib.decDigits (qn q) := by rw [hD1]
  have l2 : D2.data.toList = Lib.decDigits (qd q) := by rw [hD2]
  rw [← hD1] at N1 z1
  rw [← hD2] at N2 z2
  have o0 := op_cat 9 D1 ⟨#[46, 48]⟩ (by rw [bz2]; omega)
  by_cases h1 : qd q = 1
  · have E := hide (show (⟨(sizeT q).toArray⟩ : ByteArray) = D1 ++ ⟨#[46, 48]⟩ by
      unfold sizeT
      rw [if_pos h1, ← l1]
      apply ByteArray.ext
      simp)
    have I := hide (fun W (k : Below w.heap.size w W) => isOne_any B b (qd q) W (kp' k sB) true (decide_eq_true h1))
    rw [E.out]
    clear N2 l1 l2 hD1 hD2 sA sB f1 ht E
    generalize ln (qn q) = i1 at *
    generalize ln (qd q) = i2 at *
    generalize (D1 ++ ⟨#[46, 48]⟩ : ByteArray) = D3 at *
    have X1 := hide (Q3.new (.bool s) (.slice A i1 a) (.slice B i2 b) w)
    have b0 : Below w.heap.size w (w.alloc (.cells #[.bool s, .slice A i1 a, .slice B i2 b] 24)) := bl_al (.refl _ _) _
    obtain ⟨x1, x2, x3, x4, x5, x6⟩ := X1.out
    go_enter Tryz.func86, Tryz.ntmps86
    go_wp2_with (first
      | (go_at_call 82; (with_reducible refine (N1.out _ b0).mono ?_); rintro e w1 ⟨rfl, hb⟩; have X1 := hide (X1.out.next hb); (try clear x1 x2 x3 x4 x5 x6); obtain ⟨x1, x2, x3, x4, x5, x6⟩ := X1.out; have b1 := bl_trans b0 hb; clear hb)
      | (go_at_call 63; (with_reducible refine (I.out _ b1).mono ?_); rintro e w' ⟨rfl, rfl⟩))
    go_ret
    exact ⟨rfl, b1⟩
  · have E := hide (show (⟨(sizeT q).toArray⟩ : ByteArray) = ((⟨#[40, 47, 32]⟩ ++ (D1 ++ ⟨#[46, 48]⟩)) ++ ⟨#[32]⟩ ++ D2) ++ ⟨#[46, 48, 41]⟩ by
      unfold sizeT
      rw [if_neg h1, ← l1, ← l2]
      apply ByteArray.ext
      simp)
    have I := hide (fun W (k : Below w.heap.size w W) => isOne_any B b (qd q) W (kp' k sB) false (decide_eq_false h1))
    rw [E.out]
    have zz : (D1 ++ ⟨#[46, 48]⟩ : ByteArray).size ≤ 10002 := by rw [ByteArray.size_append, bz2]; omega
    clear l1 l2 hD1 hD2 sA sB f1 ht E
    generalize (D1 ++ ⟨#[46, 48]⟩ : ByteArray) = D3 at *
    have o1 := op_cat 9 ⟨#[40, 47, 32]⟩ D3 (by rw [bz1]; omega)
    have z4 : (⟨#[40, 47, 32]⟩ ++ D3 : ByteArray).size ≤ 10005 := by rw [ByteArray.size_append, bz1]; omega
    generalize (⟨#[40, 47, 32]⟩ ++ D3 : ByteArray) = D4 at *
    have o2 := op_cat 9 D4 ⟨#[32]⟩ (by rw [bz3]; omega)
    have z5 : (D4 ++ ⟨#[32]⟩ : ByteArray).size ≤ 10006 := by rw [ByteArray.size_append, bz3]; omega
    generalize (D4 ++ ⟨#[32]⟩ : ByteArray) = D5 at *
    have o3 := op_cat 9 D5 D2 (by omega)
    have z6 : (D5 ++ D2 : ByteArray).size ≤ 20006 := by rw [ByteArray.size_append]; omega
    generalize (D5 ++ D2 : ByteArray) = D6 at *
    have o4 := op_cat 9 D6 ⟨#[46, 48, 41]⟩ (by rw [bz1]; omega)
    generalize (D6 ++ ⟨#[46, 48, 41]⟩ : ByteArray) = D7 at *
    clear z1 z2 zz z4 z5 z6
    generalize ln (qn q) = i1 at *
    generalize ln (qd q) = i2 at *
    have X1 := hide (Q3.new (.bool s) (.slice A i1 a) (.slice B i2 b) w)
    have b0 : Below w.heap.size w (w.alloc (.cells #[.bool s, .slice A i1 a, .slice B i2 b] 24)) := bl_al (.refl _ _) _
    obtain ⟨x1, x2, x3, x4, x5, x6⟩ := X1.out
    go_enter Tryz.func86, Tryz.ntmps86
    go_wp2_with (first
      | (go_at_call 82; (with_reducible refine (N1.out _ b0).mono ?_); rintro e w1 ⟨rfl, hb⟩; have X1 := hide (X1.out.next hb); (try clear x1 x2 x3 x4 x5 x6); obtain ⟨x1, x2, x3, x4, x5, x6⟩ := X1.out; have b1 := bl_trans b0 hb; clear hb)
      | (go_at_call 63; (with_reducible refine (I.out _ b1).mono ?_); rintro e w' ⟨rfl, rfl⟩)
      | (go_at_call 82; (with_reducible refine (N2.out _ b1).mono ?_); rintro e w2 ⟨rfl, hb⟩; have b2 := bl_trans b1 hb; clear hb))
    go_ret
    exact ⟨rfl, b2⟩
set_option maxRecDepth 100000 in
set_option maxHeartbeats 4000000 in
theorem show_q (q : Rat) (A B : Option Addr) (a b : Nat) (w : World) (sA : Sl w A (digs (qn q))) (sB : Sl w B (digs (qd q))) (f1 : fitq q) (ht : Pow10 w) :
    Calls Tryz.prog 33 #[.agg #[.bool (qs q), .slice A (ln (qn q)) a, .slice B (ln (qd q)) b]] w fun e w' => e = .returned (.string ⟨(showT q).toArray⟩) ∧ Below w.heap.size w w' := by
  have V1 := hide (fun W (k : Below w.heap.size w W) => valid_q q A B a b W (kp' k sA) (kp' k sB) f1.1 f1.2)
  have SS := hide (fun W (k : Below w.heap.size w W) => showSize_q q (qs q) A B a b W (kp' k sA) (kp' k sB) f1 (pow_below ht k))
  have z1 := sizeT_size f1
  have E : Hid ((⟨(showT q).toArray⟩ : ByteArray) = if qs q then (⟨#[40, 45, 32]⟩ ++ (⟨(sizeT q).toArray⟩ : ByteArray)) ++ ⟨#[41]⟩ else ⟨(sizeT q).toArray⟩) := by
    show _ = _
    unfold showT
    cases qs q with
    | false => simp
    | true =>
      simp only [if_true]
      apply ByteArray.ext
      simp
  rw [E.out]
  clear E sA sB f1 ht
  generalize (⟨(sizeT q).toArray⟩ : ByteArray) = D at *
  generalize qs q = s at *
  generalize ln (qn q) = i1 at *
  generalize ln (qd q) = i2 at *
  have X1 := hide (Q3.new (.bool s) (.slice A i1 a) (.slice B i2 b) w)
  have b0 : Below w.heap.size w (w.alloc (.cells #[.bool s, .slice A i1 a, .slice B i2 b] 24)) := bl_al (.refl _ _) _
  obtain ⟨x1, x2, x3, x4, x5, x6⟩ := X1.out
  cases s with
  | false =>
    simp only [Bool.false_eq_true, if_false]
    go_enter Tryz.func33, Tryz.ntmps33
    go_wp2_with (first
      | (go_at_call 25; (with_reducible refine (V1.out _ b0).mono ?_); rintro e w1 ⟨rfl, hb⟩; have X1 := hide (X1.out.next hb); (try clear x1 x2 x3 x4 x5 x6); obtain ⟨x1, x2, x3, x4, x5, x6⟩ := X1.out; have b1 := bl_trans b0 hb; clear hb)
      | (go_at_call 86; (with_reducible refine (SS.out _ b1).mono ?_); rintro e w2 ⟨rfl, hb⟩; have b2 := bl_trans b1 hb; clear hb))
    go_ret
    exact ⟨rfl, b2⟩
  | true =>
    simp only [if_true]
    have o1 := op_cat 9 ⟨#[40, 45, 32]⟩ D (by rw [bz1]; omega)
    have z4 : (⟨#[40, 45, 32]⟩ ++ D : ByteArray).size ≤ 20103 := by rw [ByteArray.size_append, bz1]; omega
    generalize (⟨#[40, 45, 32]⟩ ++ D : ByteArray) = D4 at *
    have o2 := op_cat 9 D4 ⟨#[41]⟩ (by rw [bz3]; omega)
    generalize (D4 ++ ⟨#[41]⟩ : ByteArray) = D5 at *
    go_enter Tryz.func33, Tryz.ntmps33
    go_wp2_with (first
      | (go_at_call 25; (with_reducible refine (V1.out _ b0).mono ?_); rintro e w1 ⟨rfl, hb⟩; have X1 := hide (X1.out.next hb); (try clear x1 x2 x3 x4 x5 x6); obtain ⟨x1, x2, x3, x4, x5, x6⟩ := X1.out; have b1 := bl_trans b0 hb; clear hb)
      | (go_at_call 86; (with_reducible refine (SS.out _ b1).mono ?_); rintro e w2 ⟨rfl, hb⟩; have b2 := bl_trans b1 hb; clear hb))
    go_ret
    exact ⟨rfl, b2⟩
set_option maxHeartbeats 1000000 in
theorem show_no (s : Bool) (A B : Option Addr) (a b : Nat) (xs ys : List Nat) (w : World) (sA : Sl w A xs) (sB : Sl w B ys) (lx : Limbs xs) (ly : Limbs ys) (m1 : xs.length ≤ 1000000) (m2 : ys.length ≤ 1000000) (h : validQ s xs ys = false) :
    Calls Tryz.prog 33 #[.agg #[.bool s, .slice A xs.length a, .slice B ys.length b]] w fun e w' => e = .returned (.string ⟨#[]⟩) ∧ Below w.heap.size w w' := by
  have V1 := hide (fun W (k : Below w.heap.size w W) => validQ_any s A B a b xs ys W (kp' k sA) (kp' k sB) lx ly m1 m2 false h)
  clear sA sB lx ly m1 m2 h
  generalize xs.length = i1 at *
  generalize ys.length = i2 at *
  have X1 := hide (Q3.new (.bool s) (.slice A i1 a) (.slice B i2 b) w)
  have b0 : Below w.heap.size w (w.alloc (.cells #[.bool s, .slice A i1 a, .slice B i2 b] 24)) := bl_al (.refl _ _) _
  go_enter Tryz.func33, Tryz.ntmps33
  go_wp2_with (first
    | (go_at_call 25; (with_reducible refine (V1.out _ b0).mono ?_); rintro e w1 ⟨rfl, hb⟩; have X1 := hide (X1.out.next hb); obtain ⟨x1, x2, x3, x4, x5, x6⟩ := X1.out; have b1 := bl_trans b0 hb; clear hb))
  go_ret
  exact ⟨rfl, b1⟩
end Nt

end Go.Proofs.YtboppbidldomhaaGreatDoor

namespace Go.Proofs.YtboppbidldomhaaGreatDoor

open Go.RowKit

namespace Nt

/-- Does a number divide a power of ten? -/
def TenDiv (x : Nat) : Prop := ∃ k, x ∣ 10 ^ k
theorem GB_ten : GB = 10 ^ 19 := by decide
theorem tenDiv_step (x : Nat) : TenDiv (x / Nat.gcd x GB) ↔ TenDiv x := by
  have hx : x = Nat.gcd x GB * (x / Nat.gcd x GB) := (Nat.mul_div_cancel' (Nat.gcd_dvd_left x GB)).symm
  constructor
  · rintro ⟨k, hk⟩
    refine ⟨19 + k, ?_⟩
    rw [hx, Nat.pow_add, ← GB_ten]
    exact Nat.mul_dvd_mul (Nat.gcd_dvd_right x GB) hk
  · rintro ⟨k, hk⟩
    exact ⟨k, Nat.dvd_trans ⟨Nat.gcd x GB, by rw [Nat.mul_comm]; exact hx⟩ hk⟩
theorem tenDiv_end {x : Nat} (h : Nat.gcd x GB = 1) : TenDiv x ↔ x = 1 := by
  constructor
  · rintro ⟨k, hk⟩
    have h10 : Nat.Coprime x 10 := by
      have h' : Nat.Coprime x (10 * 10 ^ 18) := by rw [GB_ten] at h; exact h
      exact Nat.Coprime.coprime_mul_right_right h'
    have := Nat.Coprime.pow_right k h10
    exact Nat.Coprime.eq_one_of_dvd this hk
  · rintro rfl
    exact ⟨0, Nat.dvd_refl _⟩
theorem ln_GB : ln GB = 1 := by
  have : digs GB = [GB] := digs1 (by decide) (by decide)
  unfold ln; rw [this]; rfl
theorem digs_GB : digs GB = [GB] := digs1 (by decide) (by decide)

set_option maxRecDepth 100000 in
set_option maxHeartbeats 2000000 in
theorem tens_q (A : Option Addr) (c x : Nat) (w : World) (sx : Sl w A (digs x)) (hx : ln x ≤ 64) (hp : 0 < x) (r : Bool) (hr : r = true ↔ TenDiv x) :
    Calls Tryz.prog 80 #[.slice A (ln x) c] w fun e w' => e = .returned (.bool r) ∧ Below w.heap.size w w' := by
  have s0 := litSl w #[.int .u64 10000000000000000000] [GB] rfl rfl
  rw [← digs_GB] at s0
  have S0 := hide s0
  have b0 : Below w.heap.size w (w.alloc (.cells #[.int .u64 10000000000000000000] 45)) := bl_al (.refl _ _) _
  obtain ⟨g, hg⟩ : ∃ g, Nat.gcd x GB = g := ⟨_, rfl⟩
  have G0 : Hid (∀ W, Below w.heap.size w W → ∀ d, Sl W (some ⟨w.heap.size, 0, none⟩) (digs GB) → Calls Tryz.prog 64 #[.slice A (ln x) c, .slice (some ⟨w.heap.size, 0, none⟩) 1 d] W (Rd W g)) := fun W b d s => by
    have := gcd_z A (some ⟨w.heap.size, 0, none⟩) c d x GB g W (kp' b sx) s (Nat.le_trans hx (by decide)) (by rw [ln_GB]; decide) hg
    rwa [ln_GB] at this
  have SX := hide sx
  obtain ⟨n, hn⟩ : ∃ n, ln x = n := ⟨_, rfl⟩
  have HN := hide hn
  have HG := hide hg
  have HP := hide hp
  have HR := hide hr
  have HX := hide hx
  clear sx hx s0 hp hr hg
  rw [hn] at G0 ⊢
  clear hn
  go_enter Tryz.func80, Tryz.ntmps80
  go_wp2_with (go_at_call 64; (with_reducible refine (G0.out _ b0 _ S0.out).mono ?_); rintro e w1 ⟨B1, d1, rfl, s1, hb1⟩)
  have B0 := hide (bl_trans b0 hb1)
  have S1 := hide s1
  have SG := hide (kp' hb1 S0.out)
  have SX1 := hide (kp' B0.out SX.out)
  clear s1 hb1 b0 G0
  go_loopw [0, 4] (fun av bv wr => ∃ (A : Option Addr) (c y : Nat) (B : Option Addr) (d h : Nat), av = .slice A (ln y) c ∧ bv = .slice B (ln h) d ∧ Sl wr A (digs y) ∧ Sl wr B (digs h) ∧ Sl wr (some ⟨w.heap.size, 0, none⟩) (digs GB) ∧ Nat.gcd y GB = h ∧ 0 < y ∧ ln y ≤ 64 ∧ (TenDiv y ↔ TenDiv x) ∧ Below w.heap.size w wr) (fun av _ wr => readV wr av)
  case atStart => exact ⟨A, c, x, B1, d1, g, by rw [HN.out], rfl, SX1.out, S1.out, SG.out, HG.out, HP.out, HX.out, Iff.rfl, B0.out⟩
  case round =>
    obtain ⟨A2, c2, y, B2, d2, h, rfl, rfl, sy, sh, sg, hh, yp, yl, ht, hb⟩ := hrel
    have hl : ln h ≤ 64 := by
      rw [← hh]
      exact Nat.le_trans (ln_mono (Nat.gcd_le_left _ yp)) yl
    by_cases h1 : h = 1
    · have I1 := hide (fun W (k : Below wr.heap.size wr W) => isOne_any B2 d2 h W (kp' k sh) true (decide_eq_true h1))
      have I2 := hide (fun W (k : Below wr.heap.size wr W) => isOne_any A2 c2 y W (kp' k sy) r (by
        have hrr := HR.out
        rw [← ht, tenDiv_end (by rw [hh]; exact h1)] at hrr
        cases r with
        | true => exact decide_eq_true (hrr.1 rfl)
        | false => exact decide_eq_false (fun e => by have := hrr.2 e; cases this)))
      have BB := hide hb
      clear sy sh sg hh yp yl ht hb hl h1
      generalize ln y = i1 at *
      generalize ln h = i2 at *
      go_wp2_with (first
        | (go_at_call 63; (with_reducible refine (I1.out _ (.refl _ _)).mono ?_); rintro e w2 ⟨rfl, rfl⟩)
        | (go_at_call 63; (with_reducible refine (I2.out _ (.refl _ _)).mono ?_); rintro e w2 ⟨rfl, rfl⟩))
      go_ret
      exact ⟨rfl, BB.out⟩
    · have I1 := hide (fun W (k : Below wr.heap.size wr W) => isOne_any B2 d2 h W (kp' k sh) false (decide_eq_false h1))
      have hp : 0 < h := by rw [← hh]; exact Nat.gcd_pos_of_pos_left _ yp
      obtain ⟨z, hz⟩ : ∃ z, y / h = z := ⟨_, rfl⟩
      obtain ⟨u, hu⟩ : ∃ u, y % h = u := ⟨_, rfl⟩
      obtain ⟨k, hk⟩ : ∃ k, Nat.gcd z GB = k := ⟨_, rfl⟩
      have zp : 0 < z := by rw [← hz]; exact Nat.div_pos (by rw [← hh]; exact Nat.gcd_le_left _ yp) hp
      have zy : z < y := by rw [← hz]; exact Nat.div_lt_self yp (by omega)
      have zl : ln z ≤ 64 := Nat.le_trans (ln_mono (Nat.le_of_lt zy)) yl
      have DV := hide (fun W (k : Below wr.heap.size wr W) => ldiv_z A2 B2 c2 d2 y h W (kp' k sy) (kp' k sh) (Nat.le_trans yl (by decide)) (Nat.le_trans hl (by decide)) hp z u hz hu)
      have GC : Hid (∀ (X : Option Addr) (e : Nat) W d, Below wr.heap.size wr W → Sl W X (digs z) → Calls Tryz.prog 64 #[.slice X (ln z) e, .slice (some ⟨w.heap.size, 0, none⟩) 1 d] W (Rd W k)) := fun X e W d kb s => by
        have := gcd_z X (some ⟨w.heap.size, 0, none⟩) e d z GB k W s (kp' kb sg) (Nat.le_trans zl (by decide)) (by rw [ln_GB]; decide) hk
        rwa [ln_GB] at this
      have M1 := hide (readV_sl sy (ln y) c2 rfl)
      have HT := hide (show TenDiv z ↔ TenDiv x by rw [← ht, ← hz, ← hh]; exact tenDiv_step y)
      have FS := hide (And.intro hk (And.intro zp (And.intro zl zy)))
      have SG2 := hide sg
      have BB := hide hb
      clear sy sh sg hh yp yl ht hb hl h1 hp hz hu hk zp zy zl
      go_wp2_with (first
        | (go_at_call 63; (with_reducible refine (I1.out _ (.refl _ _)).mono ?_); rintro e w2 ⟨rfl, rfl⟩)
        | (go_at_call 81; (with_reducible refine (DV.out _ (.refl _ _)).mono ?_); rintro e w3 ⟨A3, c3, B3, d3, rfl, s3, t3, b3⟩; have s3 := hide s3)
        | (go_at_call 64; (with_reducible refine (GC.out A3 c3 _ _ b3 s3.out).mono ?_); rintro e w4 ⟨B4, d4, rfl, s4, b4⟩))
      go_roundw
      case rel => exact ⟨A3, c3, z, B4, d4, k, rfl, rfl, kp' b4 s3.out, s4, kp' (bl_trans b3 b4) SG2.out, FS.out.1, FS.out.2.1, FS.out.2.2.1, HT.out, bl_trans BB.out (bl_trans b3 b4)⟩
      case measure =>
        have M2 := readV_sl (kp' b4 s3.out) (ln z) c3 rfl
        rw [M1.out, M2, val_digs, val_digs]
        exact FS.out.2.2.2
theorem word_z (A : Option Addr) (c x : Nat) (w : World) (sx : Sl w A (digs x)) (hx : x < LB) :
    Calls Tryz.prog 128 #[.slice A (ln x) c] w fun e w' => e = .returned (.int .u64 (x : Int)) ∧ w = w' := by
  by_cases h0 : x = 0
  · subst h0
    rw [ln_zero]
    clear sx
    go_enter Tryz.func128, Tryz.ntmps128
    go_wp2
    go_ret
    exact ⟨rfl, rfl⟩
  · have e1 : digs x = [x] := digs1 hx h0
    have l1 : ln x = 1 := by unfold ln; rw [e1]; rfl
    obtain ⟨b, o, rfl, ha⟩ := sx.at_ (by rw [e1]; simp)
    have hc := ha.cell (j := 0) (by rw [e1]; simp)
    rw [e1, Nat.add_zero] at hc
    have hc' : w.cell? ⟨b, o, none⟩ = some (.int .u64 (x : Int)) := hc
    rw [l1]
    clear hc ha sx e1 l1
    go_enter Tryz.func128, Tryz.ntmps128
    go_wp2
    go_ret
    exact ⟨rfl, rfl⟩
end Nt

end Go.Proofs.YtboppbidldomhaaGreatDoor

namespace Go.Proofs.YtboppbidldomhaaGreatDoor

open Go.RowKit

namespace Nt

/-! ### A builder among rows of words -/
def BldF (w : World) (B b : Nat) (l : List UInt8) : Prop := Lib.IsBuilderF 116 5 B b (Lib.byteCells l) w
theorem BldF.fresh (w : World) : BldF (w.alloc (.cells #[.pointer none, .slice none 0 0] 116)) w.heap.size w.heap.size [] := Lib.IsBuilderF.of (Lib.fresh_isBuilder _ _ w)
theorem bldf_write (B b : Nat) (l : List UInt8) (s : ByteArray) (w : World) (h : BldF w B b l) (hlen : l.length + s.size ≤ 100000000) (hBw : B ≤ w.heap.size) :
    Calls Tryz.prog 126 #[.pointer (some ⟨b, 0, none⟩), .string s] w fun e w' => e = .returned (.tuple #[.int .i64 s.size, .nilIface]) ∧ BldF w' B b (l ++ s.data.toList) ∧ Below B w w' ∧ Lib.OthersKept 5 (some b) w w' := by
  refine (Any.Builder_WriteString_k Tryz.lays166 Tryz.Builder_Extra_166 B b (Lib.byteCells l) s w h (by rw [Lib.byteCells_length]; omega) hBw).mono fun e w' ⟨h1, h2, h3, h4⟩ => ⟨h1, .inr ?_, h3, h4⟩
  have e : Lib.byteCells (l ++ s.data.toList) = Lib.byteCells l ++ Lib.strCells s := by simp [Lib.byteCells, Lib.strCells]
  rw [e]; exact h2
theorem bldf_string (B b : Nat) (l : List UInt8) (w : World) (h : BldF w B b l) (hBw : B ≤ w.heap.size) :
    Calls Tryz.prog 129 #[.pointer (some ⟨b, 0, none⟩)] w fun e w' => e = .returned (.string ⟨l.toArray⟩) ∧ Below B w w' :=
  (Any.Builder_String_any_f Tryz.lays169 Tryz.Builder_Extra_169 B b l w h hBw).mono fun _ _ h => ⟨h.1, h.2.2⟩
theorem BldF.keep {w w' : World} {B b : Nat} {l : List UInt8} (h : BldF w B b l) (hb : Below w.heap.size w w') : BldF w' B b l := by
  have key : ∀ p, Lib.BuilderAtF 116 5 B b p (Lib.byteCells l) w → Lib.BuilderAtF 116 5 B b p (Lib.byteCells l) w' := fun p hp => by
    obtain ⟨h1, v, h2, h3, h4⟩ := hp
    have hlt : ∀ k o, w.heap[k]? = some o → w'.heap[k]? = some o := fun k o hk => by
      rw [hb.block k (by have := Array.getElem?_eq_some_iff.1 hk; exact this.1)]; exact hk
    refine ⟨h1, v, hlt _ _ h2, ?_, h4⟩
    obtain ⟨g1, g2⟩ := h3
    refine ⟨g1, ?_⟩
    rcases g2 with g2 | ⟨g, cap, cur, fz, e1, e2, e3, e4⟩
    · exact .inl g2
    · exact .inr ⟨g, cap, cur, fz, e1, e2, hlt _ _ e3, e4⟩
  rcases h with h | h
  · exact .inl (key _ h)
  · exact .inr (key _ h)
/-- A row that a builder at block d leaves as it is: older than w0, or a row of words in another block. -/
def Lk (w0 d : Nat) (w : World) (A : Option Addr) (xs : List Nat) : Prop := Sl w A xs ∧ (xs = [] ∨ ∃ b o, A = some ⟨b, o, none⟩ ∧ (b < w0 ∨ (b ≠ d ∧ ∃ cur, w.heap[b]? = some (.cells cur 45 (0, 0)))))
theorem Lk.old {w : World} {A : Option Addr} {xs : List Nat} (d : Nat) (h : Sl w A xs) : Lk w.heap.size d w A xs := by
  refine ⟨h, ?_⟩
  rcases h with h | ⟨b, o, h1, h2⟩
  · exact .inl h
  · exact .inr ⟨b, o, h1, .inl h2.1⟩
theorem Lk.row {w : World} {base w0 d n c : Nat} {A : Option Addr} {xs : List Nat} (h : Row w base A n c xs) (hd : d < base) : Lk w0 d w A xs := by
  refine ⟨h.sl, ?_⟩
  rcases h.form with ⟨_, h2⟩ | ⟨g, h1, h2⟩
  · exact .inl h2
  · obtain ⟨cur, b1, b2, _⟩ := h2.form
    exact .inr ⟨g, 0, h1, .inr ⟨by omega, cur, b2⟩⟩
theorem Lk.next {w0 d : Nat} {w w' : World} {A : Option Addr} {xs : List Nat} (h : Lk w0 d w A xs) (hb : Below w.heap.size w w') : Lk w0 d w' A xs := by
  refine ⟨kp' hb h.1, ?_⟩
  rcases h.2 with h | ⟨b, o, h1, h2 | ⟨h2, cur, h3⟩⟩
  · exact .inl h
  · exact .inr ⟨b, o, h1, .inl h2⟩
  · exact .inr ⟨b, o, h1, .inr ⟨h2, cur, by rw [hb.block b (by have := Array.getElem?_eq_some_iff.1 h3; exact this.1)]; exact h3⟩⟩
theorem Lk.kept {w0 d : Nat} {w w' : World} {A : Option Addr} {xs : List Nat} (h : Lk w0 d w A xs) (hb : Below w0 w w') (ho : Lib.OthersKept 5 (some d) w w') : Lk w0 d w' A xs := by
  have hs := hb.size
  obtain ⟨h1, h2⟩ := h
  rcases h1 with h1 | ⟨b, o, h1, ha⟩
  · exact ⟨.inl h1, .inl h1⟩
  rcases h2 with h2 | ⟨b', o', e, h2⟩
  · exact ⟨.inl h2, .inl h2⟩
  obtain ⟨rfl, rfl⟩ : b = b' ∧ o = o' := by rw [h1] at e; injection e with e; injection e with e1 e2; exact ⟨e1, e2⟩
  rcases h2 with h2 | ⟨h2, cur, h3⟩
  · exact ⟨.inr ⟨b, o, h1, ha.keep hs (hb.block b h2)⟩, .inr ⟨b, o, h1, .inl h2⟩⟩
  · have h4 : w'.heap[b]? = some (.cells cur 45 (0, 0)) := ho b _ h3 (by intro e; injection e with e; exact h2 e) (by intro c fz e; injection e with _ e2 _; exact absurd e2 (by decide))
    exact ⟨.inr ⟨b, o, h1, ha.keep hs (by rw [h4, h3])⟩, .inr ⟨b, o, h1, .inr ⟨h2, cur, h4⟩⟩⟩
theorem ldivR (A B : Option Addr) (c d x y : Nat) (w : World) (sx : Sl w A (digs x)) (sy : Sl w B (digs y)) (hx : ln x ≤ 10000) (hy : ln y ≤ 10000) (h0 : 0 < y) (q r : Nat) (hq : x / y = q) (hr : x % y = r) :
    Calls Tryz.prog 81 #[.slice A (ln x) c, .slice B (ln y) d] w fun e w' => ∃ A' c' B' d', e = .returned (.tuple #[.slice A' (ln q) c', .slice B' (ln r) d']) ∧ Row w' w.heap.size A' (ln q) c' (digs q) ∧ Row w' w.heap.size B' (ln r) d' (digs r) ∧ Below w.heap.size w w' := by
  subst hq hr
  have h := divide_all A B c d (digs x) (digs y) w sx sy (limbs_digs _) (limbs_digs _) (norm_digs _) (norm_digs _) hx hy (digs_len_pos.2 h0)
  rw [val_digs, val_digs] at h
  refine h.mono fun _ _ h => ?_
  obtain ⟨A', n, c', B', m, d', e, r1, r2, b⟩ := h
  have e1 := r1.len
  have e2 := r2.len
  subst e1; subst e2
  exact ⟨A', c', B', d', e, r1, r2, b⟩

/-! ### How far the digits go -/
theorem gcd_step {x y : Nat} (yp : 0 < y) (xp : 0 < x) (hxy : x < y) (ht : TenDiv y) : 2 * (y / Nat.gcd (x * GB % y) y) ≤ y / Nat.gcd x y := by
  obtain ⟨g, hg⟩ : ∃ g, Nat.gcd x y = g := ⟨_, rfl⟩
  have gp : 0 < g := by rw [← hg]; exact Nat.gcd_pos_of_pos_left _ xp
  obtain ⟨m, hm⟩ : ∃ m, x = g * m := by rw [← hg]; exact Nat.gcd_dvd_left x y
  obtain ⟨d, hd⟩ : ∃ d, y = g * d := by rw [← hg]; exact Nat.gcd_dvd_right x y
  have hcop : Nat.gcd m d = 1 := by
    have h : g * Nat.gcd m d = g * 1 := by rw [← Nat.gcd_mul_left, ← hm, ← hd, hg, Nat.mul_one]
    exact Nat.eq_of_mul_eq_mul_left gp h
  have dp : 0 < d := by
    rcases Nat.eq_zero_or_pos d with h | h
    · rw [h, Nat.mul_zero] at hd; omega
    · exact h
  have d1 : d ≠ 1 := by
    rintro rfl
    rw [Nat.mul_one] at hd
    have : g ≤ x := by rw [← hg]; exact Nat.gcd_le_left _ xp
    omega
  obtain ⟨h, hh⟩ : ∃ h, Nat.gcd d GB = h := ⟨_, rfl⟩
  have hp : 0 < h := by rw [← hh]; exact Nat.gcd_pos_of_pos_left _ dp
  have h1 : h ≠ 1 := by
    intro e
    have td : TenDiv d := by
      obtain ⟨k, hk⟩ := ht
      exact ⟨k, Nat.dvd_trans ⟨g, by rw [hd, Nat.mul_comm]⟩ hk⟩
    exact d1 ((tenDiv_end (by rw [hh]; exact e)).1 td)
  have e1 : Nat.gcd (x * GB % y) y = g * h := by
    rw [← Nat.gcd_rec, Nat.gcd_comm y, hm, hd, Nat.mul_assoc, Nat.gcd_mul_left, ← hh]
    congr 1
    rw [Nat.gcd_comm (m * GB) d, Nat.Coprime.gcd_mul_left_cancel_right GB hcop]
  rw [e1, hg, hd, Nat.mul_div_mul_left _ _ gp, Nat.mul_div_cancel_left _ gp]
  have : d / h * h ≤ d := Nat.div_mul_le_self d h
  have h2 : d / h * 2 ≤ d / h * h := Nat.mul_le_mul_left _ (by omega)
  omega
theorem lt_two {y k m : Nat} (h : y < LB ^ k) (hm : m = 64 * k) : y < 2 ^ m := by
  subst hm
  rw [← lbk]
  exact h
theorem grp_all {q : Nat} : (grpD q).all isD = true := by
  unfold grpD
  rw [List.all_append, digitsB_all (textp q).1, Bool.and_true, List.all_eq_true]
  intro x hx
  rw [List.eq_of_mem_replicate hx]; decide
theorem grp_len {q : Nat} (h : q < GB) : (grpD q).length = 19 := by
  unfold grpD
  have := dec_len_le (k := 18) h
  rw [List.length_append, List.length_replicate]
  omega
theorem decV_front (z : Nat) (m : List UInt8) : decV (List.replicate z 48 ++ m) = decV m := by
  induction z with
  | zero => rfl
  | succ z ih => rw [List.replicate_succ, List.cons_append]; exact ih
theorem grp_val (q : Nat) : decV (grpD q) = q := by
  unfold grpD
  rw [decV_front, (textp q).2.1]
theorem grp_next {l : List UInt8} {x y z q r : Nat} (h : decV l * y + z = x * 10 ^ l.length) (hq : z * GB / y = q) (hr : z * GB % y = r) (hg : q < GB) : decV (l ++ grpD q) * y + r = x * 10 ^ (l ++ grpD q).length := by
  have e := Nat.div_add_mod (z * GB) y
  rw [hq, hr] at e
  rw [decV_append, grp_len hg, grp_val, List.length_append, grp_len hg, Nat.pow_add, ← Nat.mul_assoc, ← h, ← GB_ten, Nat.add_mul, Nat.add_mul, ← e, Nat.mul_right_comm, Nat.mul_comm y q, Nat.add_assoc]

set_option maxRecDepth 100000 in
set_option maxHeartbeats 4000000 in
theorem places_q (A B : Option Addr) (c d x y : Nat) (w : World) (sx : Sl w A (digs x)) (sy : Sl w B (digs y)) (hx : x < y) (hy : ln y ≤ 64) (ht : TenDiv y) (tab : Pow10 w) :
    Calls Tryz.prog 83 #[.slice A (ln x) c, .slice B (ln y) d] w fun e w' => ∃ l : List UInt8, e = .returned (.string ⟨(Lib.trimRightB l 48).toArray⟩) ∧ (l.all isD = true ∧ decV l * y = x * 10 ^ l.length ∧ l.length ≤ 90000) ∧ Below w.heap.size w w' := by
  have LX := hide (Lk.old w.heap.size sx)
  have SY := hide sy
  have TB := hide tab
  have b0 : Below w.heap.size w (w.alloc (.cells #[.pointer none, .slice none 0 0] 116)) := bl_al (.refl _ _) _
  have BF := hide (BldF.fresh w)
  have LX1 := hide (LX.out.next b0)
  have FX := hide (And.intro hx (And.intro hy ht))
  obtain ⟨K, hK⟩ : ∃ K, K = 64 * 64 := ⟨_, rfl⟩
  have y2 : y < 2 ^ K := lt_two (lt_of_ln hy) hK
  have KE := hide hK
  have Y2 := hide y2
  clear sx sy tab LX hx hy ht y2 hK
  go_enter Tryz.func83, Tryz.ntmps83
  go_wp2
  go_loopw [0, 6, 7, 8] (fun rv _ _ _ wr => ∃ (A : Option Addr) (c z j : Nat) (l : List UInt8), rv = .slice A (ln z) c ∧ Lk w.heap.size w.heap.size wr A (digs z) ∧ z < y ∧ BldF wr w.heap.size w.heap.size l ∧ l.all isD = true ∧ l.length = 19 * j ∧ decV l * y + z = x * 10 ^ l.length ∧ 2 ^ j * (y / Nat.gcd z y) ≤ y ∧ w.heap.size < wr.heap.size ∧ Below w.heap.size w wr) (fun rv _ _ _ wr => y / Nat.gcd (readV wr rv) y)
  case atStart => exact ⟨A, c, x, 0, [], rfl, LX1.out, FX.out.1, BF.out, rfl, rfl, by rw [show decV [] = 0 from rfl]; simp, by rw [Nat.pow_zero, Nat.one_mul]; exact Nat.div_le_self _ _, by simp, b0⟩
  case round =>
    obtain ⟨A2, c2, z, j, l, rfl, lk, zy, bl, hall, hlen, hval, hpow, hsz, hb⟩ := hrel
    have yp : 0 < y := by omega
    have jl : j < K := by
      have h1 : 0 < y / Nat.gcd z y := Nat.div_pos (Nat.gcd_le_right _ yp) (Nat.gcd_pos_of_pos_right _ yp)
      have h2 : 2 ^ j ≤ y := Nat.le_trans (Nat.le_mul_of_pos_right _ h1) hpow
      have h3 := Nat.lt_of_le_of_lt h2 Y2.out
      exact (Nat.pow_lt_pow_iff_right (by decide)).1 h3
    have ll : l.length ≤ 80000 := by have := KE.out; omega
    by_cases h0 : z = 0
    · subst h0
      rw [ln_zero]
      have ST := hide (bldf_string w.heap.size w.heap.size l wr bl (by omega))
      have TR := hide (fun W => trimRight_z l W (by omega))
      have F := hide (And.intro hall (And.intro (show decV l * y = x * 10 ^ l.length by rw [← hval]; rfl) (show l.length ≤ 90000 by omega)))
      have BB := hide hb
      have E := hide (show ∀ X : ByteArray, X = ⟨(Lib.trimRightB l 48).toArray⟩ → ∃ l' : List UInt8, Ending.returned (.string X) = .returned (.string ⟨(Lib.trimRightB l' 48).toArray⟩) ∧ (l'.all isD = true ∧ decV l' * y = x * 10 ^ l'.length ∧ l'.length ≤ 90000) from fun X h => ⟨l, by rw [h], F.out⟩)
      clear lk zy bl hall hlen hval hpow hsz hb yp jl ll F FX SY TB Y2
      go_wp2_with (first
        | (go_at_call 129; (with_reducible refine (ST.out).mono ?_); rintro e w2 ⟨rfl, b2⟩)
        | (go_at_call 72; (with_reducible refine (TR.out _).mono ?_); rintro e w3 ⟨rfl, rfl⟩))
      go_ret
      obtain ⟨l', e1, e2⟩ := E.out _ rfl
      exact ⟨l', e1, e2, BB.out.trans b2⟩
    · have zp : 0 < z := by omega
      obtain ⟨N, hN⟩ : ∃ N, z * GB = N := ⟨_, rfl⟩
      obtain ⟨q, hq⟩ : ∃ q, N / y = q := ⟨_, rfl⟩
      obtain ⟨r, hr⟩ : ∃ r, N % y = r := ⟨_, rfl⟩
      have zl : ln z ≤ 64 := Nat.le_trans (ln_mono (Nat.le_of_lt zy)) FX.out.2.1
      have Nl : ln N ≤ 65 := by rw [← hN]; exact ln_le (by rw [Nat.pow_succ]; exact Nat.mul_lt_mul'' (lt_of_ln zl) GB_lt)
      have qg : q < GB := by rw [← hq, Nat.div_lt_iff_lt_mul yp, ← hN, Nat.mul_comm GB y]; exact Nat.mul_lt_mul_of_pos_right zy (by decide)
      have s0 := litSl wr #[.int .u64 10000000000000000000] [GB] rfl rfl
      rw [← digs_GB] at s0
      have S0 := hide s0
      have b1 : Below wr.heap.size wr (wr.alloc (.cells #[.int .u64 10000000000000000000] 45)) := bl_al (.refl _ _) _
      have LM : Hid (∀ W e, Below wr.heap.size wr W → Sl W (some ⟨wr.heap.size, 0, none⟩) (digs GB) → Calls Tryz.prog 125 #[.slice A2 (ln z) c2, .slice (some ⟨wr.heap.size, 0, none⟩) 1 e, .int .i64 ((ln z : Int) + 1)] W fun e w' => ∃ A' c', e = .returned (.tuple #[.slice A' (ln N) c', .bool true]) ∧ Sl w' A' (digs N) ∧ Below W.heap.size W w') := fun W e k s => by
        have := lmul_z A2 (some ⟨wr.heap.size, 0, none⟩) c2 e z GB N W (kp' k lk.1) s (Nat.le_trans zl (by decide)) (by rw [ln_GB]; decide) hN (ln z + 1) (by rw [ln_GB])
        rw [ln_GB] at this
        exact this
      have DV := hide (fun X e W (k : Below wr.heap.size wr W) (s : Sl W X (digs N)) => ldivR X B e d N y W s (kp' (bl_trans hb k) SY.out) (Nat.le_trans Nl (by decide)) (Nat.le_trans FX.out.2.1 (by decide)) yp q r hq hr)
      have WZ := hide (fun X e W (s : Sl W X (digs q)) => word_z X e q W s (Nat.lt_trans qg GB_lt))
      have GT := hide (fun W (k : Below wr.heap.size wr W) => groupText_any q qg W (pow_below TB.out (bl_trans hb k)))
      have WS := hide (fun (D : ByteArray) W (k : Below wr.heap.size wr W) (hD : D.size ≤ 38) => bldf_write w.heap.size w.heap.size l D W (bl.keep k) (by omega) (Nat.le_trans (Nat.le_of_lt hsz) k.size))
      have M1 := hide (readV_sl lk.1 (ln z) c2 rfl)
      have GS := hide (gcd_step yp zp zy FX.out.2.2)
      rw [hN, hr] at GS
      have GN := hide (grp_next (q := q) (r := r) hval (by rw [hN]; exact hq) (by rw [hN]; exact hr) qg)
      have FA := hide (show (l ++ grpD q).all isD = true ∧ (l ++ grpD q).length = 19 * (j + 1) ∧ r < y from ⟨by rw [List.all_append, hall, grp_all]; rfl, by rw [List.length_append, grp_len qg, hlen]; omega, by rw [← hr]; exact Nat.mod_lt _ yp⟩)
      have GP := hide (show 2 ^ (j + 1) * (y / Nat.gcd r y) ≤ y by
        refine Nat.le_trans ?_ hpow
        rw [Nat.pow_succ, Nat.mul_assoc]
        exact Nat.mul_le_mul_left _ GS.out)
      have GD := hide (show 0 < y / Nat.gcd z y from Nat.div_pos (Nat.gcd_le_right _ yp) (Nat.gcd_pos_of_pos_right _ yp))
      have BB := hide hb
      have HZ := hide hsz
      have zl1 : 1 ≤ ln z := ln_pos.2 zp
      clear lk zy bl hall hlen hval hpow hsz hb yp jl ll h0 zp hN hq hr Nl qg s0 SY TB Y2 FX
      have o1 : IntKind.i64.wrap ((ln z : Int) + 1) = (ln z : Int) + 1 := IntWalk.i64_in _ ⟨by omega, by omega⟩
      go_wp2_with (first
        | (go_at_call 125; (with_reducible refine (LM.out _ _ b1 S0.out).mono ?_); rintro e w1 ⟨A3, c3, rfl, s3, hb1⟩; have b2 := bl_trans b1 hb1; have S3 := hide s3; clear s3 hb1)
        | (go_at_call 81; (with_reducible refine (DV.out A3 c3 _ b2 S3.out).mono ?_); rintro e w2 ⟨A4, c4, A5, c5, rfl, r4, r5, hb2⟩; have b3 := bl_trans b2 hb2; have R4 := hide r4.sl; have R5 := hide (Lk.row (w0 := w.heap.size) r5 (Nat.lt_of_lt_of_le HZ.out b2.size)); clear r4 r5 hb2)
        | (go_at_call 128; (with_reducible refine (WZ.out A4 c4 _ R4.out).mono ?_); rintro e w3 ⟨rfl, rfl⟩)
        | (go_at_call 127; (with_reducible refine (GT.out _ b3).mono ?_); rintro e w4 ⟨D4, rfl, ⟨hD4, hD5⟩, hb4⟩; have b4 := bl_trans b3 hb4; have R6 := hide (R5.out.next hb4); have HD := hide hD5; clear hD5 hb4)
        | (go_at_call 126; (with_reducible refine (WS.out D4 _ b4 hD4).mono ?_); rintro e w5 ⟨rfl, hbl, hb5, ho5⟩; have HB := hide hbl; clear hbl))
      have HT : D4.data.toList = grpD q := HD.out
      have R7 := R6.out.kept hb5 ho5
      go_roundw
      case rel => exact ⟨A5, c5, r, j + 1, l ++ grpD q, rfl, R7, FA.out.2.2, by rw [← HT]; exact HB.out, FA.out.1, FA.out.2.1, GN.out, GP.out, Nat.lt_of_lt_of_le HZ.out (Nat.le_trans b4.size hb5.size), BB.out.trans ((b4.mono (Nat.le_of_lt HZ.out)).trans hb5)⟩
      case measure =>
        have M2 := readV_sl R7.1 (ln r) c5 rfl
        rw [M1.out, M2, val_digs, val_digs]
        have := GS.out
        have := GD.out
        omega
end Nt

end Go.Proofs.YtboppbidldomhaaGreatDoor

namespace Go.Proofs.YtboppbidldomhaaGreatDoor

open Go.RowKit

namespace Nt

/-- What is written of a number as a decimal. -/
def ExactOf (q : Rat) (t : List UInt8) : Prop := ∃ P, t = Lib.decDigits (qn q / qd q) ++ 46 :: P ∧ P.all isD = true ∧ P ≠ [] ∧ (P = [48] ∨ P.getLast? ≠ some 48) ∧ decV P * qd q = (qn q % qd q) * 10 ^ P.length ∧ P.length ≤ 90000
theorem bz2' (a b : UInt8) : (⟨#[a, b]⟩ : ByteArray).size = 2 := rfl
theorem bz3' (a : UInt8) : (⟨#[a]⟩ : ByteArray).size = 1 := rfl
theorem trim_last (l : List UInt8) : (Lib.trimRightB l 48).getLast? ≠ some 48 := by
  unfold Lib.trimRightB
  rw [List.getLast?_reverse]
  exact fun h => by
    have := List.head?_dropWhile_not (· == (48 : UInt8)) l.reverse
    rw [h] at this
    simp at this
theorem trim_val {l : List UInt8} {x y : Nat} (h : decV l * y = x * 10 ^ l.length) : decV (Lib.trimRightB l 48) * y = x * 10 ^ (Lib.trimRightB l 48).length := by
  obtain ⟨z, hz⟩ := trim_zeros l
  have e1 : decV l = decV (Lib.trimRightB l 48) * 10 ^ z := by rw [← decV_zeros', ← hz]
  have e2 : l.length = (Lib.trimRightB l 48).length + z := by
    have := congrArg List.length hz
    rw [List.length_append, List.length_replicate] at this
    exact this
  rw [e1, e2, Nat.pow_add, Nat.mul_right_comm, ← Nat.mul_assoc] at h
  exact Nat.eq_of_mul_eq_mul_right (Nat.pow_pos (by decide)) h
theorem exactOf_zero {q : Rat} (h : qn q % qd q = 0) : ExactOf q (Lib.decDigits (qn q / qd q) ++ [46, 48]) := ⟨[48], rfl, by decide, by decide, .inl rfl, by rw [h, show decV [48] = 0 by decide]; simp, by decide⟩
theorem exactOf_pos {q : Rat} {l : List UInt8} (h0 : 0 < qn q % qd q) (h1 : l.all isD = true) (h2 : decV l * qd q = (qn q % qd q) * 10 ^ l.length) (h3 : l.length ≤ 90000) : ExactOf q (Lib.decDigits (qn q / qd q) ++ 46 :: Lib.trimRightB l 48) := by
  refine ⟨_, rfl, trim_all h1, ?_, .inr (trim_last l), trim_val h2, Nat.le_trans (trim_len l) h3⟩
  intro e
  have := trim_val h2
  rw [e, show decV [] = 0 from rfl] at this
  simp at this
  omega
set_option maxRecDepth 100000 in
set_option maxHeartbeats 4000000 in
theorem exact_neg (q : Rat) (A B : Option Addr) (a b : Nat) (w : World) (sA : Sl w A (digs (qn q))) (sB : Sl w B (digs (qd q))) (f1 : fitq q) (h : qs q = true ∨ ¬ TenDiv (qd q)) :
    Calls Tryz.prog 30 #[.agg #[.bool (qs q), .slice A (ln (qn q)) a, .slice B (ln (qd q)) b]] w fun e w' => e = .returned (.tuple #[.string ⟨#[]⟩, .bool false]) ∧ Below w.heap.size w w' := by
  have V1 := hide (fun W (k : Below w.heap.size w W) => valid_q q A B a b W (kp' k sA) (kp' k sB) f1.1 f1.2)
  have TD := hide (fun W (k : Below w.heap.size w W) r hr => tens_q B b (qd q) W (kp' k sB) f1.2 (qd_pos q) r hr)
  obtain ⟨s, hs⟩ : ∃ s, qs q = s := ⟨_, rfl⟩
  rw [hs] at h V1 ⊢
  cases s with
  | true =>
    clear h TD sA sB f1 hs
    generalize ln (qn q) = i1 at *
    generalize ln (qd q) = i2 at *
    have X1 := hide (Q3.new (.bool true) (.slice A i1 a) (.slice B i2 b) w)
    have b0 : Below w.heap.size w (w.alloc (.cells #[.bool true, .slice A i1 a, .slice B i2 b] 24)) := bl_al (.refl _ _) _
    go_enter Tryz.func30, Tryz.ntmps30
    go_wp2_with (go_at_call 25; (with_reducible refine (V1.out _ b0).mono ?_); rintro e w1 ⟨rfl, hb⟩; have X1 := hide (X1.out.next hb); obtain ⟨x1, x2, x3, x4, x5, x6⟩ := X1.out; have b1 := bl_trans b0 hb; clear hb)
    go_ret2
    exact ⟨rfl, b1⟩
  | false =>
    have h' : ¬ TenDiv (qd q) := by rcases h with h | h; exact absurd h (by decide); exact h
    have TD2 := hide (fun W (k : Below w.heap.size w W) => TD.out W k false ⟨fun e => (by cases e), fun e => absurd e h'⟩)
    clear h TD sA sB f1 hs h'
    generalize ln (qn q) = i1 at *
    generalize ln (qd q) = i2 at *
    have X1 := hide (Q3.new (.bool false) (.slice A i1 a) (.slice B i2 b) w)
    have b0 : Below w.heap.size w (w.alloc (.cells #[.bool false, .slice A i1 a, .slice B i2 b] 24)) := bl_al (.refl _ _) _
    go_enter Tryz.func30, Tryz.ntmps30
    go_wp2_with (first
      | (go_at_call 25; (with_reducible refine (V1.out _ b0).mono ?_); rintro e w1 ⟨rfl, hb⟩; have X1 := hide (X1.out.next hb); obtain ⟨x1, x2, x3, x4, x5, x6⟩ := X1.out; have b1 := bl_trans b0 hb; clear hb)
      | (go_at_call 80; (with_reducible refine (TD2.out _ b1).mono ?_); rintro e w2 ⟨rfl, hb⟩; have b2 := bl_trans b1 hb; clear hb))
    go_ret2
    exact ⟨rfl, b2⟩
set_option maxRecDepth 100000 in
set_option maxHeartbeats 4000000 in
theorem exact_no (s : Bool) (A B : Option Addr) (a b : Nat) (xs ys : List Nat) (w : World) (sA : Sl w A xs) (sB : Sl w B ys) (lx : Limbs xs) (ly : Limbs ys) (m1 : xs.length ≤ 1000000) (m2 : ys.length ≤ 1000000) (h : validQ s xs ys = false) :
    Calls Tryz.prog 30 #[.agg #[.bool s, .slice A xs.length a, .slice B ys.length b]] w fun e w' => e = .returned (.tuple #[.string ⟨#[]⟩, .bool false]) ∧ Below w.heap.size w w' := by
  have V1 := hide (fun W (k : Below w.heap.size w W) => validQ_any s A B a b xs ys W (kp' k sA) (kp' k sB) lx ly m1 m2 false h)
  clear sA sB lx ly m1 m2 h
  generalize xs.length = i1 at *
  generalize ys.length = i2 at *
  have X1 := hide (Q3.new (.bool s) (.slice A i1 a) (.slice B i2 b) w)
  have b0 : Below w.heap.size w (w.alloc (.cells #[.bool s, .slice A i1 a, .slice B i2 b] 24)) := bl_al (.refl _ _) _
  go_enter Tryz.func30, Tryz.ntmps30
  go_wp2_with (go_at_call 25; (with_reducible refine (V1.out _ b0).mono ?_); rintro e w1 ⟨rfl, hb⟩; have X1 := hide (X1.out.next hb); obtain ⟨x1, x2, x3, x4, x5, x6⟩ := X1.out; have b1 := bl_trans b0 hb; clear hb)
  go_ret2
  exact ⟨rfl, b1⟩
theorem one_next {w w' : World} (hb : Below w.heap.size w w') {p : Addr} {v : Value} (h : w.cell? p = some v) : w'.cell? p = some v := cell_next hb h
set_option maxRecDepth 100000 in
set_option maxHeartbeats 4000000 in
theorem exact_ok (q : Rat) (A B : Option Addr) (a b : Nat) (w : World) (sA : Sl w A (digs (qn q))) (sB : Sl w B (digs (qd q))) (f1 : fitq q) (hs : qs q = false) (ht : TenDiv (qd q)) (tab : Pow10 w) :
    Calls Tryz.prog 30 #[.agg #[.bool (qs q), .slice A (ln (qn q)) a, .slice B (ln (qd q)) b]] w fun e w' => ∃ D : ByteArray, e = .returned (.tuple #[.string D, .bool true]) ∧ ExactOf q D.data.toList ∧ Below w.heap.size w w' := by
  have V1 := hide (fun W (k : Below w.heap.size w W) => valid_q q A B a b W (kp' k sA) (kp' k sB) f1.1 f1.2)
  have TD := hide (fun W (k : Below w.heap.size w W) => tens_q B b (qd q) W (kp' k sB) f1.2 (qd_pos q) true ⟨fun _ => ht, fun _ => rfl⟩)
  obtain ⟨u, hu⟩ : ∃ u, qn q / qd q = u := ⟨_, rfl⟩
  obtain ⟨v, hv⟩ : ∃ v, qn q % qd q = v := ⟨_, rfl⟩
  have ul : ln u ≤ 64 := Nat.le_trans (ln_mono (by rw [← hu]; exact Nat.div_le_self _ _)) f1.1
  have DV := hide (fun W (k : Below w.heap.size w W) => ldiv_z A B a b (qn q) (qd q) W (kp' k sA) (kp' k sB) (Nat.le_trans f1.1 (by decide)) (Nat.le_trans f1.2 (by decide)) (qd_pos q) u v hu hv)
  have NT := hide (fun X e W (k : Below w.heap.size w W) (s : Sl W X (digs u)) => nat_text X e u W s ul (pow_below tab k))
  have z1 := dec_size ul
  obtain ⟨D1, hD1⟩ : ∃ D : ByteArray, D = ⟨(Lib.decDigits u).toArray⟩ := ⟨_, rfl⟩
  have l1 : D1.data.toList = Lib.decDigits u := by rw [hD1]
  rw [← hD1] at NT z1
  rw [hs] at V1 ⊢
  by_cases h0 : v = 0
  · have E := hide (show ExactOf q (D1 ++ ⟨#[46, 48]⟩ : ByteArray).data.toList by
      rw [cat_list, l1, ← hu]
      exact exactOf_zero (by rw [hv]; exact h0))
    have o0 := op_cat 9 D1 ⟨#[46, 48]⟩ (by rw [bz2']; omega)
    have hv0 : ((ln v : Int) == 0) = true := by rw [h0, ln_zero]; rfl
    clear sA sB f1 hs ht tab hu hv ul l1 hD1 h0
    generalize ln (qn q) = i1 at *
    generalize ln (qd q) = i2 at *
    generalize (D1 ++ ⟨#[46, 48]⟩ : ByteArray) = D3 at *
    have X1 := hide (Q3.new (.bool false) (.slice A i1 a) (.slice B i2 b) w)
    have b0 : Below w.heap.size w (w.alloc (.cells #[.bool false, .slice A i1 a, .slice B i2 b] 24)) := bl_al (.refl _ _) _
    go_enter Tryz.func30, Tryz.ntmps30
    go_wp2_with (first
      | (go_at_call 25; (with_reducible refine (V1.out _ b0).mono ?_); rintro e w1 ⟨rfl, hb⟩; have X1 := hide (X1.out.next hb); obtain ⟨x1, x2, x3, x4, x5, x6⟩ := X1.out; have b1 := bl_trans b0 hb; clear hb)
      | (go_at_call 80; (with_reducible refine (TD.out _ b1).mono ?_); rintro e w2 ⟨rfl, hb⟩; have X1 := hide (X1.out.next hb); clear x1 x2 x3 x4 x5 x6; obtain ⟨x1, x2, x3, x4, x5, x6⟩ := X1.out; have b2 := bl_trans b1 hb; clear hb)
      | (go_at_call 81; (with_reducible refine (DV.out _ b2).mono ?_); rintro e w3 ⟨A3, c3, B3, d3, rfl, s3, t3, hb⟩; have b3 := bl_trans b2 hb; clear hb)
      | (go_at_call 82; (with_reducible refine (NT.out A3 c3 _ b3 s3).mono ?_); rintro e w4 ⟨rfl, hb⟩; have b4 := bl_trans b3 hb; clear hb))
    go_ret2
    exact ⟨D3, rfl, E.out, b4⟩
  · have vp : 0 < v := by omega
    have PL : Hid (∀ X e W (_ : Below w.heap.size w W) (_ : Sl W X (digs v)), Calls Tryz.prog 83 #[.slice X (ln v) e, .slice B (ln (qd q)) b] W fun e w' => ∃ D : ByteArray, e = .returned (.string D) ∧ (D.size ≤ 90000 ∧ ExactOf q ((D1 ++ ⟨#[46]⟩) ++ D : ByteArray).data.toList) ∧ Below W.heap.size W w') := fun X e W k s =>
      (places_q X B e b v (qd q) W s (kp' k sB) (by rw [← hv]; exact Nat.mod_lt _ (qd_pos q)) f1.2 ht (pow_below tab k)).mono fun e w' ⟨l, he, ⟨h1, h2, h3⟩, hb⟩ => ⟨_, he, ⟨by rw [arr_len]; exact Nat.le_trans (trim_len l) h3, by
        rw [cat_list, cat_list, l1, ← hu, show (⟨#[46]⟩ : ByteArray).data.toList = [46] from rfl, List.append_assoc]
        exact exactOf_pos (by rw [hv]; exact vp) h1 (by rw [hv]; exact h2) h3⟩, hb⟩
    have o0 := op_cat 9 D1 ⟨#[46]⟩ (by rw [bz3']; omega)
    have z4 : (D1 ++ ⟨#[46]⟩ : ByteArray).size ≤ 10001 := by rw [ByteArray.size_append, bz3']; omega
    have hv0 : ((ln v : Int) == 0) = false := beq_eq_false_iff_ne.2 (by have := ln_pos.2 vp; omega)
    clear sA sB f1 hs ht tab hu hv ul l1 hD1 h0 vp
    generalize ln (qn q) = i1 at *
    generalize ln (qd q) = i2 at *
    generalize (D1 ++ ⟨#[46]⟩ : ByteArray) = D3 at *
    have X1 := hide (Q3.new (.bool false) (.slice A i1 a) (.slice B i2 b) w)
    have b0 : Below w.heap.size w (w.alloc (.cells #[.bool false, .slice A i1 a, .slice B i2 b] 24)) := bl_al (.refl _ _) _
    go_enter Tryz.func30, Tryz.ntmps30
    go_wp2_with (first
      | (go_at_call 25; (with_reducible refine (V1.out _ b0).mono ?_); rintro e w1 ⟨rfl, hb⟩; have X1 := hide (X1.out.next hb); obtain ⟨x1, x2, x3, x4, x5, x6⟩ := X1.out; have b1 := bl_trans b0 hb; clear hb)
      | (go_at_call 80; (with_reducible refine (TD.out _ b1).mono ?_); rintro e w2 ⟨rfl, hb⟩; have X1 := hide (X1.out.next hb); clear x1 x2 x3 x4 x5 x6; obtain ⟨x1, x2, x3, x4, x5, x6⟩ := X1.out; have b2 := bl_trans b1 hb; clear hb)
      | (go_at_call 81; (with_reducible refine (DV.out _ b2).mono ?_); rintro e w3 ⟨A3, c3, B3, d3, rfl, s3, t3, hb⟩; have X1 := hide (X1.out.next hb); clear x1 x2 x3 x4 x5 x6; obtain ⟨x1, x2, x3, x4, x5, x6⟩ := X1.out; have b3 := bl_trans b2 hb; clear hb))
    have kb := hide b3.drew
    have s3' : Sl w3.drew A3 (digs u) := s3
    have t3' : Sl w3.drew B3 (digs v) := t3
    go_region_held3 (fun W => W.cell? ⟨w.heap.size, 2, none⟩ = some (.slice B i2 b))
      (first | exact x3 | with_reducible exact one_next hb (by assumption) | with_reducible assumption)
      (first
        | (go_at_call 82; (with_reducible refine (NT.out A3 c3 _ kb.out s3').mono ?_); rintro e v1 ⟨rfl, hb⟩; have kb := hide (bl_trans kb.out hb); have t3' := kp' hb t3')
        | (go_at_call 83; (with_reducible refine (PL.out B3 d3 _ kb.out t3').mono ?_); rintro e v2 ⟨D5, rfl, ⟨hD5, hE⟩, hb⟩; have kb := hide (bl_trans kb.out hb); have HE := hide hE; clear hE; have o5 := op_cat 9 D3 D5 (by omega)))
    all_goals
      go_wp2
      go_ret2
      exact ⟨_, rfl, HE.out, kb.out⟩
end Nt

end Go.Proofs.YtboppbidldomhaaGreatDoor

namespace Go.Proofs.YtboppbidldomhaaGreatDoor

open Go.RowKit

namespace Nt

/-- What stays to the end: all that was there, and rows. -/
def K6 (w : World) (l : List (Option Addr × List Nat)) (W : World) : Prop := Below w.heap.size w W ∧ ∀ p, p ∈ l → Sl W p.1 p.2
theorem K6.next {w W W' : World} {l : List (Option Addr × List Nat)} (k : K6 w l W) (hb : Below W.heap.size W W') : K6 w l W' := ⟨bl_trans k.1 hb, fun p hp => kp' hb (k.2 p hp)⟩
theorem K6.drew {w W : World} {l : List (Option Addr × List Nat)} (k : K6 w l W) : K6 w l W.drew := ⟨k.1.drew, k.2⟩
theorem K6.b {w W : World} {l : List (Option Addr × List Nat)} (k : K6 w l W) : Below w.heap.size w W := k.1
theorem K6.sl {w W : World} {l : List (Option Addr × List Nat)} (k : K6 w l W) {A : Option Addr} {x : List Nat} (h : (A, x) ∈ l) : Sl W A x := k.2 _ h
theorem K6.nil {w W : World} (b : Below w.heap.size w W) : K6 w [] W := ⟨b, fun p hp => by cases hp⟩
theorem K6.cons {w W : World} {l : List (Option Addr × List Nat)} (k : K6 w l W) {A : Option Addr} {x : List Nat} (s : Sl W A x) : K6 w ((A, x) :: l) W := ⟨k.1, fun p hp => by
  rcases List.mem_cons.1 hp with e | e
  · rw [e]; exact s
  · exact k.2 p e⟩
theorem nem1 {T : Type} {p : T} {l : List T} : p ∈ p :: l := .head _
theorem nem2 {T : Type} {p x1 : T} {l : List T} : p ∈ x1 :: p :: l := .tail _ nem1
theorem nem3 {T : Type} {p x1 x2 : T} {l : List T} : p ∈ x1 :: x2 :: p :: l := .tail _ nem2
theorem nem4 {T : Type} {p x1 x2 x3 : T} {l : List T} : p ∈ x1 :: x2 :: x3 :: p :: l := .tail _ nem3
theorem k3k {c1 c2 c3 k : Prop} (h : c1 ∧ c2 ∧ c3 ∧ k) : k := h.2.2.2
theorem S3k_next {w w' : World} (hb : Below w.heap.size w w') {p1 p2 p3 : Addr} {v1 v2 v3 : Value} {w0 : World} {l : List (Option Addr × List Nat)}
    (h : w.cell? p1 = some v1 ∧ w.cell? p2 = some v2 ∧ w.cell? p3 = some v3 ∧ K6 w0 l w) : w'.cell? p1 = some v1 ∧ w'.cell? p2 = some v2 ∧ w'.cell? p3 = some v3 ∧ K6 w0 l w' := ⟨cell_next hb h.1, cell_next hb h.2.1, cell_next hb h.2.2.1, h.2.2.2.next hb⟩

/-! ### A decimal is told by its number alone -/
theorem decV_inj (n : Nat) : ∀ P Q : List UInt8, P.length = n → Q.length = n → P.all isD = true → Q.all isD = true → decV P = decV Q → P = Q := by
  induction n with
  | zero =>
    intro P Q h1 h2 _ _ _
    rw [List.eq_nil_of_length_eq_zero h1, List.eq_nil_of_length_eq_zero h2]
  | succ n ih =>
    intro P Q h1 h2 a1 a2 hv
    obtain ⟨P', c, rfl⟩ : ∃ P' c, P = P' ++ [c] := ⟨P.dropLast, P.getLast (by intro e; rw [e] at h1; simp at h1), (List.dropLast_concat_getLast _).symm⟩
    obtain ⟨Q', d, rfl⟩ : ∃ Q' d, Q = Q' ++ [d] := ⟨Q.dropLast, Q.getLast (by intro e; rw [e] at h2; simp at h2), (List.dropLast_concat_getLast _).symm⟩
    simp only [List.length_append, List.length_cons, List.length_nil] at h1 h2
    rw [List.all_append, Bool.and_eq_true] at a1 a2
    rw [decV_snoc, decV_snoc] at hv
    have c1 : isD c = true := by simpa using a1.2
    have d1 : isD d = true := by simpa using a2.2
    unfold isD at c1 d1
    simp only [decide_eq_true_eq] at c1 d1
    have hc : digD c < 10 ∧ digD c + 48 = c.toNat := by unfold digD; omega
    have hd : digD d < 10 ∧ digD d + 48 = d.toNat := by unfold digD; omega
    have e1 : digD c = digD d := by omega
    have e2 : c = d := UInt8.toNat_inj.1 (by omega)
    rw [ih P' Q' (by omega) (by omega) a1.1 a2.1 (by omega), e2]
theorem dec_le {P Q : List UInt8} {x y : Nat} (yp : 0 < y) (hl : P.length ≤ Q.length) (p0 : P ≠ []) (aP : P.all isD = true) (aQ : Q.all isD = true) (hP : decV P * y = x * 10 ^ P.length) (hQ : decV Q * y = x * 10 ^ Q.length) (lQ : Q = [48] ∨ Q.getLast? ≠ some 48) : P = Q := by
  obtain ⟨k, hk⟩ : ∃ k, Q.length = P.length + k := ⟨Q.length - P.length, by omega⟩
  have e1 : decV Q = decV (P ++ List.replicate k 48) := by
    rw [decV_zeros']
    apply Nat.eq_of_mul_eq_mul_right yp
    rw [hQ, Nat.mul_right_comm, hP, hk, Nat.pow_add, Nat.mul_assoc]
  have aR : (P ++ List.replicate k 48).all isD = true := by
    rw [List.all_append, aP, Bool.true_and, List.all_eq_true]
    intro z hz
    rw [List.eq_of_mem_replicate hz]; decide
  have e2 : Q = P ++ List.replicate k 48 := decV_inj Q.length _ _ rfl (by rw [List.length_append, List.length_replicate, hk]) aQ aR e1
  cases k with
  | zero => rw [e2]; simp
  | succ k =>
    rcases lQ with h | h
    · have hp : 0 < P.length := List.length_pos_iff.2 p0
      rw [h] at hk
      simp at hk
      omega
    · exfalso
      apply h
      rw [e2, List.replicate_succ', ← List.append_assoc, List.getLast?_concat]
theorem exact_unique {q : Rat} {s t : List UInt8} (hs : ExactOf q s) (ht : ExactOf q t) : s = t := by
  obtain ⟨P, rfl, a1, a2, a3, a4, _⟩ := hs
  obtain ⟨Q, rfl, b1, b2, b3, b4, _⟩ := ht
  have : P = Q := by
    rcases Nat.le_total P.length Q.length with h | h
    · exact dec_le (qd_pos q) h a2 a1 b1 a4 b4 b3
    · exact (dec_le (qd_pos q) h b2 b1 a1 b4 a4 a3).symm
  rw [this]
theorem int_ln {n : Int} (h1 : -9223372036854775808 ≤ n) (h2 : n ≤ 9223372036854775807) : ln n.natAbs ≤ 64 := Nat.le_trans (ln_le (k := 1) (by rw [Nat.pow_one, LB_eq]; omega)) (by decide)
set_option maxRecDepth 100000 in
set_option maxHeartbeats 4000000 in
theorem rof_q (n d : Int) (q : Rat) (w : World) (n1 : -9223372036854775808 ≤ n) (n2 : n ≤ 9223372036854775807) (d1 : -9223372036854775808 ≤ d) (d2 : d ≤ 9223372036854775807) (d0 : d ≠ 0) (hq' : qmk (isg n != isg d) n.natAbs d.natAbs = q) : Calls Tryz.prog 35 #[.int .i64 n, .int .i64 d] w (RQ w q) := by
  have R0 := hide (fun W (_ : Below w.heap.size w W) => rof_z n W n1 n2)
  have R1 := hide (fun W (_ : Below w.heap.size w W) => rof_z d W d1 d2)
  have NW := hide (fun X Y e g W (_ : Below w.heap.size w W) s1 s2 => rnew_q n d X Y e g q W s1 s2 (int_ln n1 n2) (int_ln d1 d2) d0 hq')
  clear hq' n1 n2 d1 d2
  generalize isg n = s0 at *
  generalize isg d = s1 at *
  generalize n.natAbs = k0 at *
  generalize d.natAbs = k1 at *
  have X3 := hide (Q3.new (.bool false) (.slice none 0 0) (.slice none 0 0) w)
  have kb := hide (bl_al (.refl w.heap.size w) (.cells #[.bool false, .slice none 0 0, .slice none 0 0] 24))
  have oe : binOp .eql 3 (.int .i64 d) (.int .i64 0) = pure (.bool false) := by
    show pure (Value.bool (d == 0)) = _
    rw [beq_eq_false_iff_ne.2 d0]
  have oe' : (d == 0) = false := beq_eq_false_iff_ne.2 d0
  clear d0
  go_enter Tryz.func35, Tryz.ntmps35
  go_wp2_with (first
    | (go_at_call 39; (with_reducible refine (R0.out _ kb.out).mono ?_); rintro e v1 ⟨P1, p1, rfl, z1, hb⟩; have X3 := hide (X3.out.next hb); have kb := hide (bl_trans kb.out hb))
    | (go_at_call 39; (with_reducible refine (R1.out _ kb.out).mono ?_); rintro e v2 ⟨P2, p2, rfl, z2, hb⟩; have X3 := hide (X3.out.next hb); have kb := hide (bl_trans kb.out hb); have z1 := kp' hb z1)
    | (go_at_call 88; (with_reducible refine (NW.out P1 P2 p1 p2 _ kb.out z1 z2).mono ?_); rintro e w3 ⟨A3, c3, B3, d3, rfl, s3, t3, hb⟩; have X3 := hide (X3.out.next hb); have kb := hide (bl_trans kb.out hb); obtain ⟨u1, u2, u3, u4, u5, u6⟩ := X3.out.al (.cells #[.bool (qs q), .slice A3 (ln (qn q)) c3, .slice B3 (ln (qd q)) d3] 24); obtain ⟨y1, y2, y3, y4, y5, y6⟩ := Q3.new (.bool (qs q)) (.slice A3 (ln (qn q)) c3) (.slice B3 (ln (qd q)) d3) w3; have lx := X3.out.lt; have XA := X3; have ne1 : (⟨w.heap.size, 0, none⟩ : Addr) ≠ ⟨w.heap.size, 1, none⟩ := (by intro e; injection e with _ e2 _; exact absurd e2 (by decide)); have ne2 : (⟨w.heap.size, 0, none⟩ : Addr) ≠ ⟨w.heap.size, 2, none⟩ := (by intro e; injection e with _ e2 _; exact absurd e2 (by decide)); have ne3 : (⟨w.heap.size, 1, none⟩ : Addr) ≠ ⟨w.heap.size, 2, none⟩ := (by intro e; injection e with _ e2 _; exact absurd e2 (by decide)); have h1 : (w3.setCell ⟨w.heap.size, 0, none⟩ (.bool (qs q))).cell? ⟨w.heap.size, 1, none⟩ = some (.slice none 0 0) := (by rw [World.cell?_setCell_other _ _ _ _ ne1]; exact XA.out.2.1); have h2 : ((w3.setCell ⟨w.heap.size, 0, none⟩ (.bool (qs q))).setCell ⟨w.heap.size, 1, none⟩ (.slice A3 (ln (qn q)) c3)).cell? ⟨w.heap.size, 2, none⟩ = some (.slice none 0 0) := (by rw [World.cell?_setCell_other _ _ _ _ ne3, World.cell?_setCell_other _ _ _ _ ne2]; exact XA.out.2.2.1); have i1 := cell_next (bl_al (.refl _ _) (.cells #[.bool (qs q), .slice A3 (ln (qn q)) c3, .slice B3 (ln (qd q)) d3] 24)) h1; have i2 := cell_next (bl_al (.refl _ _) (.cells #[.bool (qs q), .slice A3 (ln (qn q)) c3, .slice B3 (ln (qd q)) d3] 24)) h2; have i3 := frozen_next (bl_al (.refl _ _) (.cells #[.bool (qs q), .slice A3 (ln (qn q)) c3, .slice B3 (ln (qd q)) d3] 24)) h1 (by rw [World.frozen?_setCell]; exact XA.out.2.2.2.2.1); have i4 := frozen_next (bl_al (.refl _ _) (.cells #[.bool (qs q), .slice A3 (ln (qn q)) c3, .slice B3 (ln (qd q)) d3] 24)) h2 (by rw [World.frozen?_setCell, World.frozen?_setCell]; exact XA.out.2.2.2.2.2); obtain ⟨r1, r2, r3, r4, r5, r6⟩ := (q3_put XA.out (.bool (qs q)) (.slice A3 (ln (qn q)) c3) (.slice B3 (ln (qd q)) d3)).al (.cells #[.bool (qs q), .slice A3 (ln (qn q)) c3, .slice B3 (ln (qd q)) d3] 24); clear h1 h2 ne1 ne2 ne3))
  refine bodyPost_ret (v := .agg #[.bool (qs q), .slice A3 (ln (qn q)) c3, .slice B3 (ln (qd q)) d3]) (by simp [results, Tryz.results35, go_sem, r1, r2, r3]) rfl (RQ.mk rfl rfl rfl ((s3.over3 XA.out (.bool (qs q)) (.slice A3 (ln (qn q)) c3) (.slice B3 (ln (qd q)) d3)).alloc (.cells #[.bool (qs q), .slice A3 (ln (qn q)) c3, .slice B3 (ln (qd q)) d3] 24)) ((t3.over3 XA.out (.bool (qs q)) (.slice A3 (ln (qn q)) c3) (.slice B3 (ln (qd q)) d3)).alloc (.cells #[.bool (qs q), .slice A3 (ln (qn q)) c3, .slice B3 (ln (qd q)) d3] 24)) (bl_al (Below.over3 kb.out (Nat.le_refl _) (.bool (qs q)) (.slice A3 (ln (qn q)) c3) (.slice B3 (ln (qd q)) d3)) (.cells #[.bool (qs q), .slice A3 (ln (qn q)) c3, .slice B3 (ln (qd q)) d3] 24)))

theorem aw4_no1 : decSp [48, 49] = none := by decide
theorem aw4_no2 : decSp [49, 46] = none := by decide
theorem aw4_ok : decSp [48, 46, 49, 50, 53] = some (qmk false 125 1000) := rfl
theorem aw4_e1 : ExactOf (Rat.divInt 1 8) [48, 46, 49, 50, 53] := ⟨[49, 50, 53], by
  rw [show qn (Rat.divInt 1 8) / qd (Rat.divInt 1 8) = 0 by decide, dec_small (by decide)]; rfl, by decide, by decide, .inr (by decide), by decide, by decide⟩
theorem aw4_t3 : ¬ TenDiv (qd (Rat.divInt 1 3)) := by
  rw [show qd (Rat.divInt 1 3) = 3 by decide, tenDiv_end (by decide)]
  decide
theorem aw4_s3 : showT (Rat.divInt (-1) 3) = [40, 45, 32, 40, 47, 32, 49, 46, 48, 32, 51, 46, 48, 41, 41] := by
  unfold showT sizeT
  rw [show qs (Rat.divInt (-1) 3) = true by decide, show qd (Rat.divInt (-1) 3) = 3 by decide, show qn (Rat.divInt (-1) 3) = 1 by decide, dec_small (by decide), dec_small (by decide)]
  rfl
theorem aw4_s5 : showT (Rat.divInt 5 1) = [53, 46, 48] := by
  unfold showT sizeT
  rw [show qs (Rat.divInt 5 1) = false by decide, show qd (Rat.divInt 5 1) = 1 by decide, show qn (Rat.divInt 5 1) = 5 by decide, dec_small (by decide)]
  rfl
theorem fit4 {q : Rat} (h1 : qn q < LB) (h2 : qd q < LB) : fitq q := ⟨Nat.le_trans (ln_le (k := 1) (by rw [Nat.pow_one]; exact h1)) (by decide), Nat.le_trans (ln_le (k := 1) (by rw [Nat.pow_one]; exact h2)) (by decide)⟩
set_option maxRecDepth 100000 in
set_option maxHeartbeats 16000000 in
theorem awake4_any (w : World) (ht : Pow10 w) :
    Calls Tryz.prog 27 #[] w fun e w' => e = .returned (.bool true) ∧ Below w.heap.size w w' := by
  obtain ⟨q1, hq1⟩ : ∃ q, q = Rat.divInt 1 8 := ⟨_, rfl⟩
  obtain ⟨q2, hq2⟩ : ∃ q, q = Rat.divInt 1 3 := ⟨_, rfl⟩
  obtain ⟨q3, hq3⟩ : ∃ q, q = Rat.divInt (-1) 3 := ⟨_, rfl⟩
  obtain ⟨q4, hq4⟩ : ∃ q, q = Rat.divInt 5 1 := ⟨_, rfl⟩
  have f1 : fitq q1 := by rw [hq1]; exact fit4 (by decide) (by decide)
  have f2 : fitq q2 := by rw [hq2]; exact fit4 (by decide) (by decide)
  have f3 : fitq q3 := by rw [hq3]; exact fit4 (by decide) (by decide)
  have f4 : fitq q4 := by rw [hq4]; exact fit4 (by decide) (by decide)
  have P1 := hide (fun W => (dparse_all ⟨#[48, 46, 49, 50, 53]⟩ W (by decide)).2 q1 (aw4_ok.trans (congrArg some (by rw [hq1]; decide))))
  have P2 := hide (fun W => (dparse_all ⟨#[48, 49]⟩ W (by decide)).1 aw4_no1)
  have P3 := hide (fun W => (dparse_all ⟨#[49, 46]⟩ W (by decide)).1 aw4_no2)
  have O1 := hide (fun W => rof_q 1 8 q1 W (by decide) (by decide) (by decide) (by decide) (by decide) (by rw [hq1]; decide))
  have O2 := hide (fun W => rof_q 1 3 q2 W (by decide) (by decide) (by decide) (by decide) (by decide) (by rw [hq2]; decide))
  have O3 := hide (fun W => rof_q (-1) 3 q3 W (by decide) (by decide) (by decide) (by decide) (by decide) (by rw [hq3]; decide))
  have O4 := hide (fun W => rof_q 5 1 q4 W (by decide) (by decide) (by decide) (by decide) (by decide) (by rw [hq4]; decide))
  have X1 : Hid (∀ X Y e f W, Below w.heap.size w W → Sl W X (digs (qn q1)) → Sl W Y (digs (qd q1)) → Calls Tryz.prog 30 #[.agg #[.bool (qs q1), .slice X (ln (qn q1)) e, .slice Y (ln (qd q1)) f]] W fun e w' => e = .returned (.tuple #[.string ⟨#[48, 46, 49, 50, 53]⟩, .bool true]) ∧ Below W.heap.size W w') := fun X Y e f W k s1 s2 =>
    (exact_ok q1 X Y e f W s1 s2 f1 (by rw [hq1]; decide) (by rw [hq1]; exact ⟨3, by decide⟩) (pow_below ht k)).mono fun e w' ⟨D, he, hD, hb⟩ => ⟨by
      have := exact_unique hD (by rw [hq1]; exact aw4_e1)
      rw [he, show D = ⟨#[48, 46, 49, 50, 53]⟩ by cases D with | mk d => simp at this; rw [← this]], hb⟩
  have X2 := hide (fun X Y e f W s1 s2 => exact_neg q2 X Y e f W s1 s2 f2 (.inr (by rw [hq2]; exact aw4_t3)))
  have T3 := hide (fun X Y e f W (k : Below w.heap.size w W) s1 s2 => show_q q3 X Y e f W s1 s2 f3 (pow_below ht k))
  have T4 := hide (fun X Y e f W (k : Below w.heap.size w W) s1 s2 => show_q q4 X Y e f W s1 s2 f4 (pow_below ht k))
  have t3 : showT q3 = [40, 45, 32, 40, 47, 32, 49, 46, 48, 32, 51, 46, 48, 41, 41] := by rw [hq3]; exact aw4_s3
  have t4 : showT q4 = [53, 46, 48] := by rw [hq4]; exact aw4_s5
  rw [t3] at T3
  rw [t4] at T4
  clear t3 t4
  have SM := hide (fun X Y Z T e f g h W s1 s2 s3 s4 => same_q q1 q1 X Y Z T e f g h W s1 s2 s3 s4 f1 f1 true (decide_eq_true rfl))
  have e0 : binOp .eql 27 (.int .i64 0) (.int .i64 0) = pure (.bool true) := rfl
  have e2 : binOp .eql 27 (.int .i64 2) (.int .i64 2) = pure (.bool true) := rfl
  have j1 := eq_s 9 (show (⟨#[48, 46, 49, 50, 53]⟩ : ByteArray) = ⟨#[48, 46, 49, 50, 53]⟩ from rfl)
  have j2 := eq_s 9 (show (⟨[40, 45, 32, 40, 47, 32, 49, 46, 48, 32, 51, 46, 48, 41, 41].toArray⟩ : ByteArray) = ⟨#[40, 45, 32, 40, 47, 32, 49, 46, 48, 32, 51, 46, 48, 41, 41]⟩ from rfl)
  have j3 := eq_s 9 (show (⟨[53, 46, 48].toArray⟩ : ByteArray) = ⟨#[53, 46, 48]⟩ from rfl)
  clear hq1 hq2 hq3 hq4 f1 f2 f3 f4 ht
  go_enter Tryz.func27, Tryz.ntmps27
  go_wp2_with (first
    | (go_at_call 28; (with_reducible refine (P1.out _).mono ?_); rintro e w1 ⟨A1, c1, B1, d1, rfl, s1, t1, hb⟩; have g := hb; have b1 := g; clear hb g)
    | (go_at_call 28; (with_reducible refine (P2.out _).mono ?_); rintro e w2 ⟨rfl, hb⟩; have g := (bl_one hb); have Y1 := hide ((Q3.new (.bool (qs q1)) (.slice A1 (ln (qn q1)) c1) (.slice B1 (ln (qd q1)) d1) w1).next hb); have s1 := kp' g s1; have t1 := kp' g t1; have b2 := bl_trans b1 g; clear hb g)
    | (go_at_call 28; (with_reducible refine (P3.out _).mono ?_); rintro e w3 ⟨rfl, hb⟩; have g := (bl_one hb); have s1 := kp' g s1; have t1 := kp' g t1; have Y1 := hide (Y1.out.next g); have b3 := bl_trans b2 g; clear hb g)
    | (go_at_call 35; (with_reducible refine (O1.out _).mono ?_); rintro e w4 ⟨A4, c4, B4, d4, rfl, s4, t4, hb⟩; have g := (bl_one hb); have s1 := kp' g s1; have t1 := kp' g t1; have Y1 := hide (Y1.out.next g); have b4 := bl_trans b3 g; clear hb g)
    | (go_at_call 30; (with_reducible refine (X1.out A4 B4 c4 d4 _ b4 s4 t4).mono ?_); rintro e w5 ⟨rfl, hb⟩; have g := hb; have s1 := kp' g s1; have t1 := kp' g t1; have Y1 := hide (Y1.out.next g); have b5 := bl_trans b4 g; clear hb g)
    | (go_at_call 35; (with_reducible refine (O2.out _).mono ?_); rintro e w6 ⟨A6, c6, B6, d6, rfl, s6, t6, hb⟩; have g := hb; have s1 := kp' g s1; have t1 := kp' g t1; have Y1 := hide (Y1.out.next g); have b6 := bl_trans b5 g; clear hb g)
    | (go_at_call 30; (with_reducible refine (X2.out A6 B6 c6 d6 _ s6 t6).mono ?_); rintro e w7 ⟨rfl, hb⟩; have g := hb; have s1 := kp' g s1; have t1 := kp' g t1; have Y1 := hide (Y1.out.next g); have b7 := bl_trans b6 g; clear hb g))
  have kz : Hid (K6 w [(A1, digs (qn q1)), (B1, digs (qd q1))] w7) := hide (K6.cons (K6.cons (K6.nil b7) t1) s1)
  have kd := hide kz.out.drew
  clear b1 b2 b3 b4 b5 b6 b7 s1 t1
  go_region_held3 (fun W => W.cell? ⟨w1.heap.size, 0, none⟩ = some (.bool (qs q1)) ∧ W.cell? ⟨w1.heap.size, 1, none⟩ = some (.slice A1 (ln (qn q1)) c1) ∧ W.cell? ⟨w1.heap.size, 2, none⟩ = some (.slice B1 (ln (qd q1)) d1) ∧ K6 w [(A1, digs (qn q1)), (B1, digs (qd q1))] W)
    (first | exact ⟨Y1.out.1, Y1.out.2.1, Y1.out.2.2.1, kd.out⟩ | with_reducible exact S3k_next hb (by assumption) | with_reducible assumption)
    (first
      | (go_at_call 35; (with_reducible refine (O1.out _).mono ?_); rintro e v1 ⟨P1, p1, R1, r1, rfl, y1, y2, hb⟩)
      | (go_at_call 32; (with_reducible refine (SM.out A1 B1 P1 R1 c1 d1 p1 r1 _ (K6.sl (k3k (by assumption)) nem1) (K6.sl (k3k (by assumption)) nem2) y1 y2).mono ?_); rintro e v2 ⟨rfl, hb⟩)
      | (go_at_call 35; (with_reducible refine (O3.out _).mono ?_); rintro e v3 ⟨P3, p3, R3, r3, rfl, y3, y4, hb⟩)
      | (go_at_call 33; (with_reducible refine (T3.out P3 R3 p3 r3 _ (K6.b (k3k (by assumption))) y3 y4).mono ?_); rintro e v4 ⟨rfl, hb⟩)
      | (go_at_call 35; (with_reducible refine (O4.out _).mono ?_); rintro e v5 ⟨P5, p5, R5, r5, rfl, y5, y6, hb⟩)
      | (go_at_call 33; (with_reducible refine (T4.out P5 R5 p5 r5 _ (K6.b (k3k (by assumption))) y5 y6).mono ?_); rintro e v6 ⟨rfl, hb⟩))
  all_goals
    go_wp2
    go_ret
    exact ⟨rfl, K6.b (k3k (by assumption))⟩
end Nt

end Go.Proofs.YtboppbidldomhaaGreatDoor
