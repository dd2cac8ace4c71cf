
/-
  The law's 'awake': what the document fixes.
  The reference's TextNat.
  Package whole: Parse, Text.
  The reference's SameInt; the second law's same.
  Package whole: nextBelow, Div.
  The second law's awake.
  Package whole in numbers.
  Whole numbers' quotients and rests, in numbers; a text is read back.
-/
import Derived.Test.YtgimmmmpollkhaaGreatOf1

import Derived.Test.YtgimmmmpollkhaaGreatBl

import Derived.Test.YtgimmmmpollkhaaGreatParse2

import Derived.Test.YtgimmmmpollkhaaGreatText2

import Derived.Test.YtgimmmmpollkhaaGreatRefAdd

import Derived.Laws.IdiomStrings

import Derived.Test.YtgimmmmpollkhaaGreatWholeA

import Derived.Test.YtgimmmmpollkhaaGreatLongZ

import Derived.RegionTactic

import Derived.ChangeAlike

namespace Go.Proofs.YtgimmmmpollkhaaGreat

open Go.RowKit

namespace Nt

theorem mulSp_lit : mulSp [0, 1] [0, 1] = ([0, 0, 1], 0) := by
  have hv : val [0, 1] * val [0, 1] = val [0, 0, 1] := by simp [val, LB]
  have hl : Limbs [0, 0, 1] := .cons LB_pos limbs01
  rw [mulSp_fits valid01 valid01 (by rw [hv]; exact Nat.lt_of_lt_of_le (val_lt hl) (Nat.pow_le_pow_right LB_pos (by decide))), hv, digs_val_norm hl (.inr (by decide))]
theorem divSp_lit : divSp [7] [2] = ([3], [1], 0) := by
  rw [divSp_ok (valid1 (by decide)) (valid1 (by decide)) (by decide), val_one, val_one]
  rw [show 7 / 2 = 3 by rfl, show 7 % 2 = 1 by rfl, digs1 (by decide) (by decide), digs1 (by decide) (by decide)]
theorem subSp_lit : subSp [1] [2] = ([], 1) := subSp_less (valid1 (by decide)) (valid1 (by decide)) (by rw [val_one, val_one]; decide)
theorem val01 : val [0, 1] = 18446744073709551616 := by simp [val, LB]

def litP : List UInt8 := [48, 48, 49, 56, 52, 52, 54, 55, 52, 52, 48, 55, 51, 55, 48, 57, 53, 53, 49, 54, 49, 54]
theorem parseSp_lit : parseSp litP = ([0, 1], 0) := by
  have hd : digitsB litP = true := by decide
  have hv : decV litP = 18446744073709551616 := by decide
  unfold parseSp
  rw [hd, hv, if_pos rfl, if_pos (by rw [← val01]; exact Nat.lt_of_lt_of_le (val_lt limbs01) (Nat.pow_le_pow_right LB_pos (by decide))), ← val01, digs_val_norm limbs01 norm01]
theorem textSp_lit : textSp [0, 1] = [49, 56, 52, 52, 54, 55, 52, 52, 48, 55, 51, 55, 48, 57, 53, 53, 49, 54, 49, 54] := by
  unfold textSp
  rw [valid01, val01]
  simp [Lib.decDigits]
theorem bitsSp_lit : bitsSp [0, 1] = 65 := by
  unfold bitsSp
  rw [if_pos ⟨valid01, by decide⟩]
  decide
theorem cmpSp_lit : cmpSp [1] [0, 1] = -1 := by
  unfold cmpSp
  rw [valid1 (by decide), valid01, val01, val_one]
  decide

theorem validn_lit (w : World) : Calls Tryz.prog 98 #[.slice none 0 0] w fun e w' => e = .returned (.bool true) ∧ w = w' := valid_any none 0 [] w .nil (by decide)
theorem valid0_lit (A : Option Addr) (w : World) (hx : Sl w A [0]) : Calls Tryz.prog 98 #[.slice A 1 1] w fun e w' => e = .returned (.bool false) ∧ w = w' := by
  have := valid_any A 1 [0] w hx (by decide)
  rw [show validB [0] = false by decide] at this
  exact this
theorem of_lit (w : World) : Calls Tryz.prog 136 #[.int .i64 5] w (Mk w [5]) := of_any 5 (by decide) (by decide) w

end Nt

end Go.Proofs.YtgimmmmpollkhaaGreat

namespace Go.Proofs.YtgimmmmpollkhaaGreat

open Go.RowKit

namespace Nt

theorem dec_step {v : Nat} (h : 10 ≤ v) : Lib.decDigits v = Lib.decDigits (v / 10) ++ [UInt8.ofNat (48 + v % 10)] := by
  rw [Lib.decDigits, dif_neg (by omega)]
theorem dec_last {v : Nat} (h : v < 10) : Lib.decDigits v = [UInt8.ofNat (48 + v % 10)] := by
  rw [Lib.decDigits_one h, Nat.mod_eq_of_lt h]

/-- What is still to be written, and what stands behind it. -/
def TxInv (x v : Nat) (t : List UInt8) : Prop := (v = 0 ∧ t = Lib.decDigits x) ∨ (0 < v ∧ Lib.decDigits v ++ t = Lib.decDigits x)
theorem TxInv.step {x v : Nat} {t : List UInt8} (hv : 0 < v) (h : TxInv x v t) : TxInv x (v / 10) (UInt8.ofNat (48 + v % 10) :: t) := by
  rcases h with ⟨h, _⟩ | ⟨_, h⟩
  · omega
  · by_cases h10 : v < 10
    · rw [dec_last h10] at h
      exact .inl ⟨by omega, h⟩
    · rw [dec_step (by omega), List.append_assoc] at h
      exact .inr ⟨by omega, h⟩

theorem str_cons (x : UInt8) (s : ByteArray) : ((⟨#[x]⟩ : ByteArray) ++ s).data.toList = x :: s.data.toList := by simp
theorem str_size (x : UInt8) (s : ByteArray) : ((⟨#[x]⟩ : ByteArray) ++ s).size = s.size + 1 := by
  rw [Lib.size_eq, str_cons, Lib.size_eq]; rfl
theorem dec_room {x v : Nat} {s : ByteArray} (_hv : 0 < v) (h : Lib.decDigits v ++ s.data.toList = Lib.decDigits x) : s.size < (Lib.decDigits x).length := by
  rw [← h, List.length_append, Lib.size_eq]
  have : 0 < (Lib.decDigits v).length := by
    rw [Lib.decDigits]
    split <;> simp
  omega
theorem nd_le : ∀ (k n : Nat), 1 ≤ k → n < 10 ^ k → Lib.nDigits n ≤ k
  | 0, _, h, _ => by omega
  | 1, n, _, h => by rw [Lib.nDigits_small (by omega)]; omega
  | k + 2, n, _, h => by
    by_cases h10 : n < 10
    · rw [Lib.nDigits_small h10]; omega
    · rw [Lib.nDigits_big h10]
      have := nd_le (k + 1) (n / 10) (by omega) (by rw [Nat.pow_succ] at h; omega)
      omega
theorem dec_len {n : Nat} (h : n < LB ^ 64) : (Lib.decDigits n).length ≤ 10000 := by
  rw [Lib.decDigits_length]
  have key : ∀ k j : Nat, j = 20 * k → 1 ≤ k → n < LB ^ k → Lib.nDigits n ≤ j := fun k j hj hk hn => by
    refine nd_le j n (by omega) (Nat.lt_of_lt_of_le hn ?_)
    rw [hj, Nat.pow_mul]
    exact Nat.pow_le_pow_left (by decide) _
  exact Nat.le_trans (key 64 _ rfl (by omega) h) (by omega)
theorem str_eq {s : ByteArray} {l : List UInt8} (h : s.data.toList = l) : s = ⟨l.toArray⟩ := by subst h; rfl
theorem ret_str {s t : ByteArray} (h : s = t) : Ending.returned (.string s) = .returned (.string t) := by rw [h]
def strLen (v : Value) : Nat := match v with | .string s => s.size | _ => 0

end Nt

end Go.Proofs.YtgimmmmpollkhaaGreat

namespace Go.Proofs.YtgimmmmpollkhaaGreat

open Go.RowKit

namespace Nt

/-- Without the sign; is there one? -/
def cutD (l : List UInt8) : List UInt8 := Lib.trimPrefix l [45]
def hasD (l : List UInt8) : Bool := Lib.hasPrefix l [45]
theorem cutD_le (l : List UInt8) : (cutD l).length ≤ l.length := by
  unfold cutD Lib.trimPrefix
  split
  · rw [List.length_drop]; omega
  · exact Nat.le_refl _
def parseISp (l : List UInt8) : Bool × List Nat × Nat := (hasD l && decide (0 < (parseSp (cutD l)).1.length), (parseSp (cutD l)).1, (parseSp (cutD l)).2)
theorem parseSp_le (l : List UInt8) : (parseSp l).1.length ≤ 64 := by
  unfold parseSp
  split
  · split
    · rename_i h; exact digs_64 h
    · simp
  · simp

/-- Text, as the document says. -/
def textISp (s : Bool) (xs : List Nat) : List UInt8 := if validI s xs then (if s then 45 :: textSp xs else textSp xs) else []
theorem text_size {xs : List Nat} (l : Limbs xs) : (⟨(textSp xs).toArray⟩ : ByteArray).size ≤ 10000 := by
  show (textSp xs).toArray.size ≤ 10000
  rw [List.size_toArray]
  unfold textSp
  split
  · rename_i v
    exact dec_len (Nat.lt_of_lt_of_le (val_lt l) (Nat.pow_le_pow_right LB_pos (validB_iff.1 v).1))
  · simp
theorem minus_text (l : List UInt8) : ((⟨#[45]⟩ : ByteArray) ++ ⟨l.toArray⟩) = ⟨(45 :: l).toArray⟩ := by
  apply ByteArray.ext
  simp

end Nt

end Go.Proofs.YtgimmmmpollkhaaGreat

namespace Go.Proofs.YtgimmmmpollkhaaGreat

open Go.RowKit

namespace Nt

end Nt

end Go.Proofs.YtgimmmmpollkhaaGreat

namespace Go.Proofs.YtgimmmmpollkhaaGreat

open Go.RowKit

namespace Nt

/-- Two rows, handed back. -/
def TwoS (w : World) (xs ys : List Nat) (e : Ending) (w' : World) : Prop := ∃ A c B d, e = .returned (.tuple #[.slice A xs.length c, .slice B ys.length d]) ∧ Sl w' A xs ∧ Sl w' B ys ∧ Below w.heap.size w w'

theorem validB_dg {n : Nat} (h : n < LB ^ 64) : validB (digs n) = true := validB_iff.2 ⟨digs_64 h, norm_digs n⟩
/-- A quotient that goes down, and what is left: of sizes m and n, of signs that differ (or not). -/
def downQ (d : Bool) (m n : Nat) : Nat := if d = true ∧ 0 < m % n then m / n + 1 else m / n
def downR (d : Bool) (m n : Nat) : Nat := if d = true ∧ 0 < m % n then n - m % n else m % n
/-- Div, as the document says. -/
def divISp (s : Bool) (xs : List Nat) (t : Bool) (ys : List Nat) : (Bool × List Nat) × (Bool × List Nat) × Nat :=
  if validI s xs = true ∧ validI t ys = true ∧ 0 < ys.length then (((s != t) && decide (0 < (digs (downQ (s != t) (val xs) (val ys))).length), digs (downQ (s != t) (val xs) (val ys))), (t && decide (0 < (digs (downR (s != t) (val xs) (val ys))).length), digs (downR (s != t) (val xs) (val ys))), 0) else ((false, []), (false, []), 1)
theorem divI_no {s t : Bool} {xs ys : List Nat} (h : ¬ (validI s xs = true ∧ validI t ys = true ∧ 0 < ys.length)) : divISp s xs t ys = ((false, []), (false, []), 1) := by
  unfold divISp; rw [if_neg h]
theorem divI_ok {s t : Bool} {xs ys : List Nat} (h : validI s xs = true ∧ validI t ys = true ∧ 0 < ys.length) : divISp s xs t ys = (((s != t) && decide (0 < (digs (downQ (s != t) (val xs) (val ys))).length), digs (downQ (s != t) (val xs) (val ys))), (t && decide (0 < (digs (downR (s != t) (val xs) (val ys))).length), digs (downR (s != t) (val xs) (val ys))), 0) := by
  unfold divISp; rw [if_pos h]
theorem down_plain {d : Bool} {m n : Nat} (h : ¬ (d = true ∧ 0 < m % n)) : downQ d m n = m / n ∧ downR d m n = m % n := by
  unfold downQ downR; rw [if_neg h, if_neg h]; exact ⟨rfl, rfl⟩
theorem down_more {d : Bool} {m n : Nat} (h : d = true ∧ 0 < m % n) : downQ d m n = m / n + 1 ∧ downR d m n = n - m % n := by
  unfold downQ downR; rw [if_pos h, if_pos h]; exact ⟨rfl, rfl⟩
/-- What a call hands back that answers two whole numbers and an error. -/
def IThree (w : World) (r : (Bool × List Nat) × (Bool × List Nat) × Nat) (e : Ending) (w' : World) : Prop := ∃ A c B d, e = .returned (.tuple #[.agg #[.bool r.1.1, .slice A r.1.2.length c], .agg #[.bool r.2.1.1, .slice B r.2.1.2.length d], .int .i64 (r.2.2 : Int)]) ∧ Sl w' A r.1.2 ∧ Sl w' B r.2.1.2 ∧ Below w.heap.size w w'
theorem IThree.mk {w w' : World} {r : (Bool × List Nat) × (Bool × List Nat) × Nat} {s t : Bool} {xs ys : List Nat} {n m k c d : Nat} {A B : Option Addr} (hr : r = ((s, xs), (t, ys), k)) (hn : xs.length = n) (hm : ys.length = m) (hs : Sl w' A xs) (ht : Sl w' B ys) (hb : Below w.heap.size w w') :
    IThree w r (.returned (.tuple #[.agg #[.bool s, .slice A n c], .agg #[.bool t, .slice B m d], .int .i64 (k : Int)])) w' := by
  subst hr; subst hn; subst hm; exact ⟨A, c, B, d, rfl, hs, ht, hb⟩
theorem Bx2.drew {h : Nat} {s : Bool} {A : Option Addr} {n c : Nat} {t : Bool} {B : Option Addr} {m d : Nat} {w : World} (x : Bx2 h s A n c t B m d w) : Bx2 h s A n c t B m d w.drew := x
/-- The four blocks of a division's call. -/
def Bx4 (h : Nat) (s : Bool) (A : Option Addr) (n c : Nat) (t : Bool) (B : Option Addr) (m d : Nat) (w : World) : Prop := Bx2 h s A n c t B m d w ∧ Rc (h + 1 + 1) w ∧ Rc (h + 1 + 1 + 1) w
theorem Bx4.next {h : Nat} {s : Bool} {A : Option Addr} {n c : Nat} {t : Bool} {B : Option Addr} {m d : Nat} {w w' : World} (x : Bx4 h s A n c t B m d w) (hb : Below w.heap.size w w') : Bx4 h s A n c t B m d w' := ⟨x.1.next hb, x.2.1.next hb, x.2.2.next hb⟩
theorem Bx4.drew {h : Nat} {s : Bool} {A : Option Addr} {n c : Nat} {t : Bool} {B : Option Addr} {m d : Nat} {w : World} (x : Bx4 h s A n c t B m d w) : Bx4 h s A n c t B m d w.drew := x
theorem Bx4.flat {h : Nat} {s : Bool} {A : Option Addr} {n c : Nat} {t : Bool} {B : Option Addr} {m d : Nat} {w : World} (x : Bx4 h s A n c t B m d w) :
    (w.cell? ⟨h, 0, none⟩ = some (.bool s) ∧ w.cell? ⟨h, 1, none⟩ = some (.slice A n c) ∧ w.cell? ⟨h + 1, 0, none⟩ = some (.bool t) ∧ w.cell? ⟨h + 1, 1, none⟩ = some (.slice B m d)) ∧
    (w.cell? ⟨h + 1 + 1, 0, none⟩ = some (.bool false) ∧ w.cell? ⟨h + 1 + 1, 1, none⟩ = some (.slice none 0 0) ∧ w.frozen? ⟨h + 1 + 1, 0, none⟩ = false ∧ w.frozen? ⟨h + 1 + 1, 1, none⟩ = false) ∧
    (w.cell? ⟨h + 1 + 1 + 1, 0, none⟩ = some (.bool false) ∧ w.cell? ⟨h + 1 + 1 + 1, 1, none⟩ = some (.slice none 0 0) ∧ w.frozen? ⟨h + 1 + 1 + 1, 0, none⟩ = false ∧ w.frozen? ⟨h + 1 + 1 + 1, 1, none⟩ = false) := x
theorem Bx4.start (s : Bool) (A : Option Addr) (n c : Nat) (t : Bool) (B : Option Addr) (m d : Nat) (w : World) : Bx4 w.heap.size s A n c t B m d ((((w.alloc (.cells #[.bool s, .slice A n c] 104)).alloc (.cells #[.bool t, .slice B m d] 104)).alloc (.cells #[.bool false, .slice none 0 0] 104)).alloc (.cells #[.bool false, .slice none 0 0] 104)) := by
  have b0 := Bx2.start s A n c t B m d w
  have e2 : ((w.alloc (.cells #[.bool s, .slice A n c] 104)).alloc (.cells #[.bool t, .slice B m d] 104)).heap.size = w.heap.size + 1 + 1 := by rw [size1, size1]
  generalize ((w.alloc (.cells #[.bool s, .slice A n c] 104)).alloc (.cells #[.bool t, .slice B m d] 104)) = W at *
  have r1 := Rc.start W
  have e3 : (W.alloc (.cells #[.bool false, .slice none 0 0] 104)).heap.size = w.heap.size + 1 + 1 + 1 := by rw [size1, e2]
  have r2 := Rc.start (W.alloc (.cells #[.bool false, .slice none 0 0] 104))
  have g1 := bl_al (.refl _ W) (.cells #[.bool false, .slice none 0 0] 104)
  have g2 := bl_al (.refl _ (W.alloc (.cells #[.bool false, .slice none 0 0] 104))) (.cells #[.bool false, .slice none 0 0] 104)
  rw [e2] at r1
  rw [e3] at r2
  exact ⟨(b0.next g1).next g2, r1.next g2, r2⟩
theorem Sl.store4 {w : World} {A : Option Addr} {xs : List Nat} (h : Sl w A xs) {g k : Nat} (r1 : Rc g w) (r2 : Rc k w) (hne : k ≠ g) (u v u' v' : Value) : Sl ((((w.setCell ⟨g, 0, none⟩ u).setCell ⟨g, 1, none⟩ v).setCell ⟨k, 0, none⟩ u').setCell ⟨k, 1, none⟩ v') A xs :=
  have r3 := r2.store hne u v
  (h.store2 r1.1 r1.2.1 u v).store2 r3.1 r3.2.1 u' v'

end Nt

end Go.Proofs.YtgimmmmpollkhaaGreat

namespace Go.Proofs.YtgimmmmpollkhaaGreat

open Go.RowKit

namespace Nt

/-- A whole number's cells. -/
def Ic (g : Nat) (s : Bool) (A : Option Addr) (n c : Nat) (w : World) : Prop := w.cell? ⟨g, 0, none⟩ = some (.bool s) ∧ w.cell? ⟨g, 1, none⟩ = some (.slice A n c)
theorem Ic.next {g : Nat} {s : Bool} {A : Option Addr} {n c : Nat} {w w' : World} (x : Ic g s A n c w) (hb : Below w.heap.size w w') : Ic g s A n c w' := ⟨cell_next hb x.1, cell_next hb x.2⟩
theorem Ic.new (s : Bool) (A : Option Addr) (n c : Nat) (w : World) : Ic w.heap.size s A n c (w.alloc (.cells #[.bool s, .slice A n c] 104)) := ⟨cell_new _ _ _ 0, cell_new _ _ _ 1⟩
theorem Ic.al {g : Nat} {s : Bool} {A : Option Addr} {n c : Nat} {w : World} (x : Ic g s A n c w) (y : Obj) : Ic g s A n c (w.alloc y) := x.next (bl_al (.refl _ _) y)
theorem Ic.new2 (s : Bool) (A : Option Addr) (n c : Nat) (w : World) (y : Obj) : Ic (w.heap.size + 1) s A n c ((w.alloc y).alloc (.cells #[.bool s, .slice A n c] 104)) := by
  have := Ic.new s A n c (w.alloc y)
  rwa [size1] at this

theorem of_at (z : Int) (s : Bool) (xs : List Nat) (n : Nat) (w : World) (h : mkI z = (s, xs)) (hn : xs.length = n) (h1 : -9223372036854775808 ≤ z) (h2 : z ≤ 9223372036854775807) :
    Calls Tryz.prog 111 #[.int .i64 z] w fun e w' => ∃ A c, e = .returned (.agg #[.bool s, .slice A n c]) ∧ Sl w' A xs ∧ Below w.heap.size w w' := by
  subst hn
  have := ofI_any z w h1 h2
  rw [h] at this
  exact this
theorem mkI_neg (n : Nat) (h0 : 0 < n) (h : n < 18446744073709551616) (z : Int) (hz : z = -(n : Int)) : mkI z = (true, [n]) := by
  subst hz
  unfold mkI
  rw [idg_one (by omega) (by rw [LB_eq]; omega), Int.natAbs_neg, Int.natAbs_natCast]
  unfold isg
  rw [decide_eq_true (by omega)]
theorem mkI_pos (n : Nat) (h0 : 0 < n) (h : n < 18446744073709551616) (z : Int) (hz : z = (n : Int)) : mkI z = (false, [n]) := by
  subst hz
  unfold mkI
  rw [idg_one (by omega) (by rw [LB_eq]; omega), Int.natAbs_natCast]
  unfold isg
  rw [decide_eq_false (by omega)]
theorem mkI_0 : mkI 0 = (false, []) := by unfold mkI isg idg; rw [show (0 : Int).natAbs = 0 from rfl, digs_zero]; rfl
theorem validI_1 (s : Bool) {x : Nat} (h : x ≠ 0) : validI s [x] = true := validI_iff.2 ⟨valid1 h, fun _ => Nat.zero_lt_one⟩
theorem div_l1 : divISp true [7] false [2] = ((true, [4]), (false, [1]), 0) := by
  have e1 : downQ (true != false) (val [7]) (val [2]) = 4 := by rw [val_one, val_one]; decide
  have e2 : downR (true != false) (val [7]) (val [2]) = 1 := by rw [val_one, val_one]; decide
  rw [divI_ok ⟨validI_1 _ (by decide), validI_1 _ (by decide), Nat.zero_lt_one⟩, e1, e2, digs1 (by decide) (by decide), digs1 (by decide) (by decide)]
  rfl
theorem div_l2 : divISp false [1] false [] = ((false, []), (false, []), 1) := divI_no (by rintro ⟨_, _, h⟩; exact absurd h (by decide))
theorem parse_l : parseISp [45, 48] = (false, [], 0) := by
  have h1 : cutD [45, 48] = [48] := by decide
  have h2 : parseSp [48] = ([], 0) := by
    unfold parseSp
    have hd : digitsB [48] = true := by decide
    have hv : decV [48] = 0 := by decide
    rw [hd, hv, if_pos rfl, if_pos (LB_pow_pos 64), digs_zero]
  unfold parseISp
  rw [h1, h2]
  simp
theorem value_l1 : valSp true [9223372036854775808] = (-9223372036854775808, true) := by
  have e : ival true [9223372036854775808] = -9223372036854775808 := by unfold ival; rw [val_one]; rfl
  rw [valSp_is (validI_1 _ (by decide)) (by rw [e]; decide) (by rw [e]; decide), e]
theorem value_l2 : valSp false [9223372036854775808] = (0, false) := by
  have e : ival false [9223372036854775808] = 9223372036854775808 := by unfold ival; rw [val_one]; rfl
  exact valSp_far (by rw [e]; decide)
theorem add_l : addISp false [4611686018427387904] false [4611686018427387904] = (false, [9223372036854775808], 0) := by
  have ha : addSp [4611686018427387904] [4611686018427387904] = ([9223372036854775808], 0) := by
    rw [addSp_ok (valid1 (by decide)) (valid1 (by decide)), val_one, show 4611686018427387904 + 4611686018427387904 = 9223372036854775808 by decide, digs1 (by decide) (by decide), if_pos (by decide)]
  rw [addI_one (validI_1 _ (by decide)) (validI_1 _ (by decide)), ha]
  rfl
theorem neg_l : negISp false [9223372036854775808] = (true, [9223372036854775808]) := by rw [negI_eq (limbs1 (by decide)) (validI_1 _ (by decide))]; rfl
theorem sign_l : sgnISp true [9223372036854775808] = -1 := by unfold sgnISp cmpZ; rw [validI_1 _ (by decide), if_pos rfl]; unfold ival; rw [val_one]; decide
theorem cmp_l : cmpISp true [3] false [2] = -1 := cmpI_np (limbs1 (by decide)) (validI_1 _ (by decide)) (validI_1 _ (by decide))
theorem text_l : textISp false [9223372036854775808] = [57, 50, 50, 51, 51, 55, 50, 48, 51, 54, 56, 53, 52, 55, 55, 53, 56, 48, 56] := by
  unfold textISp textSp
  rw [validI_1 _ (by decide), if_pos rfl, valid1 (by decide), val_one]
  simp [Lib.decDigits]
theorem valid_l : validI true [] = false := by decide

theorem ITwo.getn {w : World} {s : Bool} {xs : List Nat} {n k : Nat} {e : Ending} {w' : World} {r : Bool × List Nat × Nat} (h : ITwo w r e w') (hr : r = (s, xs, k)) (hn : xs.length = n) : ∃ A c, e = .returned (.tuple #[.agg #[.bool s, .slice A n c], .int .i64 (k : Int)]) ∧ Sl w' A xs ∧ Below w.heap.size w w' := by
  subst hr; subst hn; exact h
theorem IOne.getn {w : World} {s : Bool} {xs : List Nat} {n : Nat} {e : Ending} {w' : World} {r : Bool × List Nat} (h : IOne w r e w') (hr : r = (s, xs)) (hn : xs.length = n) : ∃ A c, e = .returned (.agg #[.bool s, .slice A n c]) ∧ Sl w' A xs ∧ Below w.heap.size w w' := by
  subst hr; subst hn; exact h
theorem IThree.getn {w : World} {s t : Bool} {xs ys : List Nat} {n m k : Nat} {e : Ending} {w' : World} {r : (Bool × List Nat) × (Bool × List Nat) × Nat} (h : IThree w r e w') (hr : r = ((s, xs), (t, ys), k)) (hn : xs.length = n) (hm : ys.length = m) :
    ∃ A c B d, e = .returned (.tuple #[.agg #[.bool s, .slice A n c], .agg #[.bool t, .slice B m d], .int .i64 (k : Int)]) ∧ Sl w' A xs ∧ Sl w' B ys ∧ Below w.heap.size w w' := by
  subst hr; subst hn; subst hm; exact h
theorem aw_sign (A : Option Addr) (c : Nat) (w : World) (hx : Sl w A [9223372036854775808]) : Calls Tryz.prog 117 #[.agg #[.bool true, .slice A 1 c]] w fun e w' => e = .returned (.int .i64 (-1)) ∧ Below w.heap.size w w' := by
  have := signI_any true A c [9223372036854775808] w hx (limbs1 (by decide)) (by decide)
  rw [sign_l] at this
  exact this
theorem aw_valid (w : World) : Calls Tryz.prog 96 #[.agg #[.bool true, .slice none 0 0]] w fun e w' => e = .returned (.bool false) ∧ Below w.heap.size w w' := by
  have := validI_any true none 0 [] w .nil (by decide)
  rw [valid_l] at this
  exact this
/-- What stays to the end. -/
def Kz (w : World) (A3 B3 A7 A12 : Option Addr) (W : World) : Prop := Below w.heap.size w W ∧ Sl W A3 [4] ∧ Sl W B3 [1] ∧ Sl W A7 [] ∧ Sl W A12 [9223372036854775808]
theorem Kz.drew {w : World} {A3 B3 A7 A12 : Option Addr} {W : World} (k : Kz w A3 B3 A7 A12 W) : Kz w A3 B3 A7 A12 W.drew := ⟨k.1.drew, k.2⟩
theorem Kz.next {w : World} {A3 B3 A7 A12 : Option Addr} {W W' : World} (k : Kz w A3 B3 A7 A12 W) (hb : Below W.heap.size W W') : Kz w A3 B3 A7 A12 W' := ⟨bl_trans k.1 hb, bl_keeps hb _ _ k.2.1, bl_keeps hb _ _ k.2.2.1, bl_keeps hb _ _ k.2.2.2.1, bl_keeps hb _ _ k.2.2.2.2⟩
theorem S8_next {w w' : World} (hb : Below w.heap.size w w') {p1 p2 p3 p4 p5 p6 p7 p8 : Addr} {v1 v2 v3 v4 v5 v6 v7 v8 : Value} {w0 : World} {A3 B3 A7 A12 : Option Addr}
    (h : w.cell? p1 = some v1 ∧ w.cell? p2 = some v2 ∧ w.cell? p3 = some v3 ∧ w.cell? p4 = some v4 ∧ w.cell? p5 = some v5 ∧ w.cell? p6 = some v6 ∧ w.cell? p7 = some v7 ∧ w.cell? p8 = some v8 ∧ Kz w0 A3 B3 A7 A12 w) :
    w'.cell? p1 = some v1 ∧ w'.cell? p2 = some v2 ∧ w'.cell? p3 = some v3 ∧ w'.cell? p4 = some v4 ∧ w'.cell? p5 = some v5 ∧ w'.cell? p6 = some v6 ∧ w'.cell? p7 = some v7 ∧ w'.cell? p8 = some v8 ∧ Kz w0 A3 B3 A7 A12 w' := by
  obtain ⟨h1, h2, h3, h4, h5, h6, h7, h8, h9⟩ := h
  exact ⟨cell_next hb h1, cell_next hb h2, cell_next hb h3, cell_next hb h4, cell_next hb h5, cell_next hb h6, cell_next hb h7, cell_next hb h8, h9.next hb⟩
theorem kz_of {c1 c2 c3 c4 c5 c6 c7 c8 k : Prop} (h : c1 ∧ c2 ∧ c3 ∧ c4 ∧ c5 ∧ c6 ∧ c7 ∧ c8 ∧ k) : k := h.2.2.2.2.2.2.2.2

theorem Kz.q0 {w : World} {A3 B3 A7 A12 : Option Addr} {W : World} (k : Kz w A3 B3 A7 A12 W) : Below w.heap.size w W := k.1
theorem Kz.q1 {w : World} {A3 B3 A7 A12 : Option Addr} {W : World} (k : Kz w A3 B3 A7 A12 W) : Sl W A3 [4] := k.2.1
theorem Kz.q2 {w : World} {A3 B3 A7 A12 : Option Addr} {W : World} (k : Kz w A3 B3 A7 A12 W) : Sl W B3 [1] := k.2.2.1
theorem Kz.q3 {w : World} {A3 B3 A7 A12 : Option Addr} {W : World} (k : Kz w A3 B3 A7 A12 W) : Sl W A7 [] := k.2.2.2.1
theorem Kz.q4 {w : World} {A3 B3 A7 A12 : Option Addr} {W : World} (k : Kz w A3 B3 A7 A12 W) : Sl W A12 [9223372036854775808] := k.2.2.2.2

end Nt

end Go.Proofs.YtgimmmmpollkhaaGreat

namespace Go.Proofs.YtgimmmmpollkhaaGreat

open Go.RowKit

namespace Nt

theorem validI_num {x : Int} (h : x.natAbs < LB ^ 64) : validI (isg x) (idg x) = true := by
  refine validI_iff.2 ⟨validB_dg h, fun hs => ?_⟩
  unfold idg
  rw [digs_len_pos]
  have : x < 0 := by unfold isg at hs; simpa using hs
  omega
theorem idg_len {x : Int} (h : x.natAbs < LB ^ 64) : (idg x).length ≤ 64 := length_digs_le.2 h
theorem limbs_idg (x : Int) : Limbs (idg x) := limbs_digs _
theorem cmpISp_num {x y : Int} (hx : x.natAbs < LB ^ 64) (hy : y.natAbs < LB ^ 64) : cmpISp (isg x) (idg x) (isg y) (idg y) = cmpZ x y := by
  unfold cmpISp; rw [validI_num hx, validI_num hy, ival_mk, ival_mk]; rfl
theorem sgnISp_num {x : Int} (hx : x.natAbs < LB ^ 64) : sgnISp (isg x) (idg x) = cmpZ x 0 := by
  unfold sgnISp; rw [validI_num hx, ival_mk]; rfl
theorem negISp_num {x : Int} (hx : x.natAbs < LB ^ 64) : negISp (isg x) (idg x) = (isg (-x), idg (-x)) := by
  unfold negISp; rw [validI_num hx, ival_mk]; rfl
theorem addISp_num {x y : Int} (hx : x.natAbs < LB ^ 64) (hy : y.natAbs < LB ^ 64) (h : (x + y).natAbs < LB ^ 64) : addISp (isg x) (idg x) (isg y) (idg y) = (isg (x + y), idg (x + y), 0) := by
  unfold addISp fitI; rw [validI_num hx, validI_num hy, ival_mk, ival_mk]; simp [h]
theorem subISp_num {x y : Int} (hx : x.natAbs < LB ^ 64) (hy : y.natAbs < LB ^ 64) (h : (x - y).natAbs < LB ^ 64) : subISp (isg x) (idg x) (isg y) (idg y) = (isg (x - y), idg (x - y), 0) := by
  unfold subISp fitI; rw [validI_num hx, validI_num hy, ival_mk, ival_mk]; simp [h]
theorem mulISp_num {x y : Int} (hx : x.natAbs < LB ^ 64) (hy : y.natAbs < LB ^ 64) (h : (x * y).natAbs < LB ^ 64) : mulISp (isg x) (idg x) (isg y) (idg y) = (isg (x * y), idg (x * y), 0) := by
  unfold mulISp fitI; rw [validI_num hx, validI_num hy, ival_mk, ival_mk]; simp [h]
theorem row_eq {x y : Int} : (isg x = isg y ∧ idg x = idg y) ↔ x = y := by
  constructor
  · rintro ⟨h1, h2⟩
    rw [← ival_mk x, ← ival_mk y, h1, h2]
  · rintro rfl; exact ⟨rfl, rfl⟩

section

variable (A B : Option Addr) (n m c d : Nat) (x y : Int) (w : World) (hn : (idg x).length = n) (hm : (idg y).length = m) (sx : Sl w A (idg x)) (sy : Sl w B (idg y)) (hx : x.natAbs < LB ^ 64) (hy : y.natAbs < LB ^ 64)

include hn hm sx sy hx hy
end

section

variable (A : Option Addr) (n c : Nat) (x : Int) (w : World) (hn : (idg x).length = n) (sx : Sl w A (idg x)) (hx : x.natAbs < LB ^ 64)

include hn sx hx
theorem signI_num (k : Int) (hk : cmpZ x 0 = k) : Calls Tryz.prog 117 #[.agg #[.bool (isg x), .slice A n c]] w fun e w' => e = .returned (.int .i64 k) ∧ Below w.heap.size w w' := by
  subst hn hk
  have := signI_any (isg x) A c (idg x) w sx (limbs_idg x) (Nat.le_trans (idg_len hx) (by decide))
  rwa [sgnISp_num hx] at this
end
/-- An argument that may be: a number. -/
theorem as_int {s : Bool} {xs : List Nat} {k : Nat} (l : Limbs xs) (v : validI s xs = true) (h : xs.length ≤ k) : ∃ x : Int, s = isg x ∧ xs = idg x ∧ x.natAbs < LB ^ k :=
  ⟨ival s xs, (isg_ival l v).symm, (idg_ival l (validI_B v)).symm, by rw [ival_abs]; exact Nat.lt_of_lt_of_le (val_lt l) (Nat.pow_le_pow_right LB_pos h)⟩
end Nt

end Go.Proofs.YtgimmmmpollkhaaGreat

namespace Go.Proofs.YtgimmmmpollkhaaGreat

open Go.RowKit

namespace Nt

/-- The quotient that goes down, and what is left. -/
def quoI (x y : Int) : Int := if (isg x != isg y) then -((downQ true x.natAbs y.natAbs : Nat) : Int) else ((downQ false x.natAbs y.natAbs : Nat) : Int)
def remI (x y : Int) : Int := if isg y then -((downR (isg x != isg y) x.natAbs y.natAbs : Nat) : Int) else ((downR (isg x != isg y) x.natAbs y.natAbs : Nat) : Int)
theorem val_idg (x : Int) : val (idg x) = x.natAbs := val_digs _
theorem divISp_num {x y : Int} (hx : x.natAbs < LB ^ 64) (hy : y.natAbs < LB ^ 64) (h0 : y ≠ 0) : divISp (isg x) (idg x) (isg y) (idg y) = ((isg (quoI x y), idg (quoI x y)), (isg (remI x y), idg (remI x y)), 0) := by
  have hp : 0 < (idg y).length := digs_len_pos.2 (by omega)
  rw [divI_ok ⟨validI_num hx, validI_num hy, hp⟩, val_idg, val_idg]
  have e1 : quoI x y = if (isg x != isg y) then -((downQ (isg x != isg y) x.natAbs y.natAbs : Nat) : Int) else ((downQ (isg x != isg y) x.natAbs y.natAbs : Nat) : Int) := by
    unfold quoI
    cases (isg x != isg y) <;> rfl
  have e2 : remI x y = if isg y then -((downR (isg x != isg y) x.natAbs y.natAbs : Nat) : Int) else ((downR (isg x != isg y) x.natAbs y.natAbs : Nat) : Int) := rfl
  rw [isg_sgn, isg_sgn, ← e1, ← e2, e1, idg_sgn, e2, idg_sgn]
theorem isg_cases (x : Int) : (isg x = true ∧ x < 0) ∨ (isg x = false ∧ 0 ≤ x) := by
  unfold isg
  rcases (show x < 0 ∨ 0 ≤ x by omega) with h | h
  · exact .inl ⟨decide_eq_true h, h⟩
  · exact .inr ⟨decide_eq_false (by omega), h⟩
/-- What is left: its size, its sign; with the quotient it makes the number again. -/
theorem quo_rem (x y : Int) (h0 : y ≠ 0) : quoI x y * y + remI x y = x ∧ (remI x y).natAbs < y.natAbs ∧ (remI x y = 0 ∨ cmpZ (remI x y) 0 = cmpZ y 0) := by
  have hn : 0 < y.natAbs := by omega
  have hd := Nat.div_add_mod x.natAbs y.natAbs
  have hm := Nat.mod_lt x.natAbs hn
  have hd' : (y.natAbs : Int) * ((x.natAbs / y.natAbs : Nat) : Int) + ((x.natAbs % y.natAbs : Nat) : Int) = (x.natAbs : Int) := by
    rw [← Int.natCast_mul, ← Int.natCast_add, hd]
  generalize hk : x.natAbs / y.natAbs = k at *
  generalize hr : x.natAbs % y.natAbs = r at *
  unfold quoI remI downQ downR
  rw [hk, hr]
  have c1 : ∀ a : Int, cmpZ a 0 = if a < 0 then -1 else if 0 < a then 1 else 0 := fun a => rfl
  rcases isg_cases x with ⟨ex, hx⟩ | ⟨ex, hx⟩ <;> rcases isg_cases y with ⟨ey, hy⟩ | ⟨ey, hy⟩ <;> rw [ex, ey]
  · have ea : (x.natAbs : Int) = -x := by omega
    have eb : (y.natAbs : Int) = -y := by omega
    rw [ea, eb] at hd'
    simp
    rw [Int.mul_comm (k : Int) y]
    rw [Int.neg_mul] at hd'
    refine ⟨by omega, hm, ?_⟩
    rw [c1, c1]
    by_cases h : r = 0
    · left; omega
    · right; rw [if_pos (by omega), if_pos (by omega)]
  · have ea : (x.natAbs : Int) = -x := by omega
    have eb : (y.natAbs : Int) = y := by omega
    rw [ea, eb] at hd'
    by_cases h : 0 < r
    · simp [h]
      rw [Int.neg_mul, Int.add_mul, Int.one_mul, Int.mul_comm (k : Int) y]
      refine ⟨by omega, by omega, ?_⟩
      rw [c1, c1]
      right
      rw [if_neg (by omega), if_pos (by omega), if_neg (by omega), if_pos (by omega)]
    · have : r = 0 := by omega
      subst this
      simp
      rw [Int.neg_mul, Int.mul_comm (k : Int) y]
      exact ⟨by omega, by omega⟩
  · have ea : (x.natAbs : Int) = x := by omega
    have eb : (y.natAbs : Int) = -y := by omega
    rw [ea, eb] at hd'
    rw [Int.neg_mul] at hd'
    by_cases h : 0 < r
    · simp [h]
      rw [Int.neg_mul, Int.add_mul, Int.one_mul, Int.mul_comm (k : Int) y]
      refine ⟨by omega, by omega, ?_⟩
      rw [c1, c1]
      right
      rw [if_pos (by omega), if_pos (by omega)]
    · have : r = 0 := by omega
      subst this
      simp
      rw [Int.neg_mul, Int.mul_comm (k : Int) y]
      exact ⟨by omega, by omega⟩
  · have ea : (x.natAbs : Int) = x := by omega
    have eb : (y.natAbs : Int) = y := by omega
    rw [ea, eb] at hd'
    simp
    rw [Int.mul_comm (k : Int) y]
    refine ⟨by omega, hm, ?_⟩
    rw [c1, c1]
    by_cases h : r = 0
    · left; omega
    · right; rw [if_neg (by omega), if_pos (by omega), if_neg (by omega), if_pos (by omega)]

theorem digit_chr {r : Nat} (h : r < 10) : isD (UInt8.ofNat (48 + r)) = true ∧ digD (UInt8.ofNat (48 + r)) = r := by
  have e : (UInt8.ofNat (48 + r)).toNat = 48 + r := by
    rw [UInt8.toNat_ofNat']
    exact Nat.mod_eq_of_lt (by omega)
  unfold isD digD
  rw [e]
  exact ⟨decide_eq_true (by omega), by omega⟩
/-- A text that was written is read as what was written. -/
theorem textp (n : Nat) : digitsB (Lib.decDigits n) = true ∧ decV (Lib.decDigits n) = n ∧ hasD (Lib.decDigits n) = false := by
  have key : decV (Lib.decDigits n) = n ∧ (Lib.decDigits n).all isD = true ∧ Lib.decDigits n ≠ [] := by
    induction n using Nat.strongRecOn with
    | _ n ih =>
      by_cases h : n < 10
      · rw [dec_small h]
        refine ⟨?_, ?_, by simp⟩
        · have := decV_snoc [] (UInt8.ofNat (48 + n))
          simp only [List.nil_append] at this
          rw [this]
          obtain ⟨_, h2⟩ := digit_chr h
          rw [h2]
          simp [decV, decF]
        · obtain ⟨h1, _⟩ := digit_chr h
          rw [List.all_cons, h1]; rfl
      · obtain ⟨i1, i2, i3⟩ := ih (n / 10) (by omega)
        obtain ⟨h1, h2⟩ := digit_chr (r := n % 10) (by omega)
        rw [dec_big h]
        refine ⟨?_, by rw [List.all_append, i2, List.all_cons, h1]; rfl, by simp⟩
        rw [decV_snoc, i1, h2]
        omega
  obtain ⟨k1, k2, k3⟩ := key
  refine ⟨by unfold digitsB; rw [k2]; simpa using k3, k1, ?_⟩
  generalize Lib.decDigits n = l at *
  cases l with
  | nil => exact absurd rfl k3
  | cons c l =>
    unfold hasD Lib.hasPrefix
    have hc : isD c = true := by simp at k2; exact k2.1
    have : c ≠ 45 := by rintro rfl; exact absurd hc (by decide)
    simp [List.isPrefixOf]
    exact fun e => this e.symm
theorem parse_text {x : Int} (hx : x.natAbs < LB ^ 64) : parseISp (textISp (isg x) (idg x)) = (isg x, idg x, 0) := by
  obtain ⟨t1, t2, t3⟩ := textp x.natAbs
  have hv := validI_num hx
  have ht : textSp (idg x) = Lib.decDigits x.natAbs := by unfold textSp; rw [validI_B hv, val_idg]; rfl
  have hp : parseSp (Lib.decDigits x.natAbs) = (idg x, 0) := by
    unfold parseSp
    rw [t1, t2, if_pos rfl, if_pos hx]; rfl
  unfold textISp
  rw [hv, ht]
  rcases isg_cases x with ⟨e, h⟩ | ⟨e, h⟩
  · rw [e]
    simp only [if_true]
    have c1 : cutD (45 :: Lib.decDigits x.natAbs) = Lib.decDigits x.natAbs := by
      unfold cutD Lib.trimPrefix Lib.hasPrefix
      simp [List.isPrefixOf]
    have c2 : hasD (45 :: Lib.decDigits x.natAbs) = true := by unfold hasD Lib.hasPrefix; simp [List.isPrefixOf]
    have hl : 0 < (idg x).length := digs_len_pos.2 (by omega)
    unfold parseISp
    rw [c1, c2, hp]
    simp [hl]
  · rw [e]
    simp only [if_true, Bool.false_eq_true, if_false]
    have c1 : cutD (Lib.decDigits x.natAbs) = Lib.decDigits x.natAbs := by
      unfold cutD Lib.trimPrefix
      rw [show Lib.hasPrefix (Lib.decDigits x.natAbs) [45] = false from t3]
      rfl
    unfold parseISp
    rw [c1, t3, hp]
    simp
end Nt

end Go.Proofs.YtgimmmmpollkhaaGreat
