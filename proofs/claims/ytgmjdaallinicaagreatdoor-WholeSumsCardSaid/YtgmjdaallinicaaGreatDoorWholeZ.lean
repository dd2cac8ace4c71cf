
/-
  The law's 'awake': what the document fixes.
  The reference's TextNat.
  Package whole: Parse, Text.
  The reference's SameInt; the second law's same.
  Package whole: nextBelow, Div.
  The second law's awake.
  Package whole in numbers.
  Whole numbers' quotients and rests, in numbers; a text is read back.
-/
import Derived.Test.YtgmjdaallinicaaGreatDoorOf1

import Derived.Test.YtgmjdaallinicaaGreatDoorBl

import Derived.Test.YtgmjdaallinicaaGreatDoorParse2

import Derived.Test.YtgmjdaallinicaaGreatDoorText2

import Derived.Test.YtgmjdaallinicaaGreatDoorRefAdd

import Derived.Laws.IdiomStrings

import Derived.Test.YtgmjdaallinicaaGreatDoorWholeA

import Derived.Test.YtgmjdaallinicaaGreatDoorLongZ

import Derived.RegionTactic

import Derived.ChangeAlike

namespace Go.Proofs.YtgmjdaallinicaaGreatDoor

open Go.RowKit

namespace Nt

theorem mulSp_lit : mulSp [0, 1] [0, 1] = ([0, 0, 1], 0) := by
  have hv : val [0, 1] * val [0, 1] = val [0, 0, 1] := by simp [val, LB]
  have hl : Limbs [0, 0, 1] := .cons LB_pos limbs01
  rw [mulSp_fits valid01 valid01 (by rw [hv]; exact Nat.lt_of_lt_of_le (val_lt hl) (Nat.pow_le_pow_right LB_pos (by decide))), hv, digs_val_norm hl (.inr (by decide))]
theorem divSp_lit : divSp [7] [2] = ([3], [1], 0) := by
  rw [divSp_ok (valid1 (by decide)) (valid1 (by decide)) (by decide), val_one, val_one]
  rw [show 7 / 2 = 3 by rfl, show 7 % 2 = 1 by rfl, digs1 (by decide) (by decide), digs1 (by decide) (by decide)]
theorem subSp_lit : subSp [1] [2] = ([], 1) := subSp_less (valid1 (by decide)) (valid1 (by decide)) (by rw [val_one, val_one]; decide)
theorem val01 : val [0, 1] = 18446744073709551616 := by simp [val, LB]

def litP : List UInt8 := [48, 48, 49, 56, 52, 52, 54, 55, 52, 52, 48, 55, 51, 55, 48, 57, 53, 53, 49, 54, 49, 54]
theorem parseSp_lit : parseSp litP = ([0, 1], 0) := by
  have hd : digitsB litP = true := by decide
  have hv : decV litP = 18446744073709551616 := by decide
  unfold parseSp
  rw [hd, hv, if_pos rfl, if_pos (by rw [← val01]; exact Nat.lt_of_lt_of_le (val_lt limbs01) (Nat.pow_le_pow_right LB_pos (by decide))), ← val01, digs_val_norm limbs01 norm01]
theorem textSp_lit : textSp [0, 1] = [49, 56, 52, 52, 54, 55, 52, 52, 48, 55, 51, 55, 48, 57, 53, 53, 49, 54, 49, 54] := by
  unfold textSp
  rw [valid01, val01]
  simp [Lib.decDigits]
theorem bitsSp_lit : bitsSp [0, 1] = 65 := by
  unfold bitsSp
  rw [if_pos ⟨valid01, by decide⟩]
  decide
theorem cmpSp_lit : cmpSp [1] [0, 1] = -1 := by
  unfold cmpSp
  rw [valid1 (by decide), valid01, val01, val_one]
  decide

theorem mul_lit (A B : Option Addr) (w : World) (hx : Sl w A [0, 1]) (hy : Sl w B [0, 1]) :
    Calls Tryz.prog 43 #[.slice A 2 2, .slice B 2 2] w (Two w ([0, 0, 1], 0)) := by
  rw [← mulSp_lit]
  exact mul_any A B 2 2 [0, 1] [0, 1] w hx hy limbs01 limbs01 (by decide) (by decide)
theorem div_lit (A B : Option Addr) (w : World) (hx : Sl w A [7]) (hy : Sl w B [2]) :
    Calls Tryz.prog 8 #[.slice A 1 1, .slice B 1 1] w (Three w ([3], [1], 0)) := by
  rw [← divSp_lit]
  exact divmod_any A B 1 1 [7] [2] w hx hy (limbs1 (by decide)) (limbs1 (by decide)) (by decide) (by decide) (fun _ _ h => absurd h (by decide))
theorem sub_lit (A B : Option Addr) (w : World) (hx : Sl w A [1]) (hy : Sl w B [2]) :
    Calls Tryz.prog 44 #[.slice A 1 1, .slice B 1 1] w (Two w ([], 1)) := by
  rw [← subSp_lit]
  exact sub_any A B 1 1 [1] [2] w hx hy (limbs1 (by decide)) (limbs1 (by decide)) (by decide) (by decide)
theorem parse_lit (w : World) :
    Calls Tryz.prog 45 #[.string { data := #[48, 48, 49, 56, 52, 52, 54, 55, 52, 52, 48, 55, 51, 55, 48, 57, 53, 53, 49, 54, 49, 54] }] w (Two w ([0, 1], 0)) := by
  rw [← parseSp_lit]
  exact parse_any { data := #[48, 48, 49, 56, 52, 52, 54, 55, 52, 52, 48, 55, 51, 55, 48, 57, 53, 53, 49, 54, 49, 54] } w (by decide)
theorem text_lit (A : Option Addr) (n c : Nat) (hn : [0, 1].length = n) (w : World) (hx : Sl w A [0, 1]) (ht : Pow10 w) :
    Calls Tryz.prog 46 #[.slice A n c] w fun e w' => e = .returned (.string { data := #[49, 56, 52, 52, 54, 55, 52, 52, 48, 55, 51, 55, 48, 57, 53, 53, 49, 54, 49, 54] }) ∧ Below w.heap.size w w' := by
  subst hn
  have := text_any A c [0, 1] w hx limbs01 (by decide) ht
  rw [textSp_lit] at this
  exact this
theorem bits_lit (A : Option Addr) (n c : Nat) (hn : [0, 1].length = n) (w : World) (hx : Sl w A [0, 1]) :
    Calls Tryz.prog 16 #[.slice A n c] w fun e w' => e = .returned (.int .i64 65) ∧ w = w' := by
  subst hn
  have := bits_any A c [0, 1] w hx limbs01 (by decide)
  rw [bitsSp_lit] at this
  exact this
theorem validn_lit (w : World) : Calls Tryz.prog 15 #[.slice none 0 0] w fun e w' => e = .returned (.bool true) ∧ w = w' := valid_any none 0 [] w .nil (by decide)
theorem valid0_lit (A : Option Addr) (w : World) (hx : Sl w A [0]) : Calls Tryz.prog 15 #[.slice A 1 1] w fun e w' => e = .returned (.bool false) ∧ w = w' := by
  have := valid_any A 1 [0] w hx (by decide)
  rw [show validB [0] = false by decide] at this
  exact this
theorem cmp_lit (A B : Option Addr) (w : World) (hx : Sl w A [1]) (hy : Sl w B [0, 1]) :
    Calls Tryz.prog 47 #[.slice A 1 1, .slice B 2 2] w (Quiet w (.int .i64 (-1))) := by
  rw [← cmpSp_lit]
  exact cmp_any A B 1 2 [1] [0, 1] w hx hy (limbs1 (by decide)) limbs01 (by decide) (by decide)
theorem of_lit (w : World) : Calls Tryz.prog 18 #[.int .i64 5] w (Mk w [5]) := of_any 5 (by decide) (by decide) w

theorem same_lit (A : Option Addr) (n m c d : Nat) (g : Nat) (w : World) (x : Obj) (xs : List Nat) (h : Sl w A xs) (hg : Sl (w.alloc x) (some ⟨g, 0, none⟩) xs) (hn : xs.length = n) (hm : xs.length = m) (hl : n ≤ 1000000) :
    Calls Tryz.prog 14 #[.slice A n c, .slice (some ⟨g, 0, none⟩) m d] (w.alloc x) (Quiet (w.alloc x) (.bool true)) :=
  law_same_t _ _ n m c d xs xs _ hn hm (h.alloc _) hg hl (by omega) rfl

set_option maxRecDepth 100000 in
set_option maxHeartbeats 1000000 in
theorem awake_any (w : World) (ht : Pow10 w) :
    Calls Tryz.prog 7 #[] w fun e w' => e = .returned (.bool true) ∧ Below w.heap.size w w' := by
  go_enter Tryz.func7, Tryz.ntmps7
  go_wp2_with (first
    | (go_at_call 43; go_loud (with_reducible refine (mul_lit _ _ _ ((lit01 w rfl).alloc _) (lit01 _ (size1 _ _))).mono ?_); rintro e w1 h1; obtain ⟨A1, c1, rfl, s1, b1⟩ := h1.get; have b1 := bl_two b1; clear h1)
    | (go_at_call 8; (with_reducible refine (div_lit _ _ _ ((lit7 w1 rfl).alloc _) (lit2 _ (size1 _ _))).mono ?_); rintro e w2 h2; obtain ⟨A2, c2, B2, d2, rfl, s2, t2, b2⟩ := h2.get; have b2 := bl_two b2; have s1 := bl_keeps b2 _ _ s1; have b1 := bl_trans b1 b2; clear h2)
    | (go_at_call 44; (with_reducible refine (sub_lit _ _ _ ((lit1 w2 rfl).alloc _) (lit2 _ (size1 _ _))).mono ?_); rintro e w3 h3; obtain ⟨A3, c3, rfl, s3, b3⟩ := h3.get; have b3 := bl_two b3; have s1 := bl_keeps b3 _ _ s1; have s2 := bl_keeps b3 _ _ s2; have t2 := bl_keeps b3 _ _ t2; have b1 := bl_trans b1 b3; clear h3 s3)
    | (go_at_call 45; (with_reducible refine (parse_lit w3).mono ?_); rintro e w4 h4; obtain ⟨A4, c4, rfl, s4, b4⟩ := h4.get; have s1 := bl_keeps b4 _ _ s1; have s2 := bl_keeps b4 _ _ s2; have t2 := bl_keeps b4 _ _ t2; have b1 := bl_trans b1 b4; clear h4)
    | (go_at_call 14; (with_reducible refine (same_lit A1 3 3 _ _ _ w4 _ _ s1 (lit001 w4 rfl) rfl rfl (by decide)).mono ?_); rintro e w5 ⟨rfl, q0, h0⟩; have b0 := bl_q1 h0; have s2 := bl_keeps b0 _ _ s2; have t2 := bl_keeps b0 _ _ t2; have s4 := bl_keeps b0 _ _ s4; have b1 := bl_trans b1 b0; clear h0 b0 s1)
    | (go_at_call 14; (with_reducible refine (same_lit A2 1 1 _ _ _ w5 _ _ s2 (lit3 w5 rfl) rfl rfl (by decide)).mono ?_); rintro e w6 ⟨rfl, q0, h0⟩; have b0 := bl_q1 h0; have t2 := bl_keeps b0 _ _ t2; have s4 := bl_keeps b0 _ _ s4; have b1 := bl_trans b1 b0; clear h0 b0 s2)
    | (go_at_call 14; (with_reducible refine (same_lit B2 1 1 _ _ _ w6 _ _ t2 (lit1 w6 rfl) rfl rfl (by decide)).mono ?_); rintro e w7 ⟨rfl, q0, h0⟩; have b0 := bl_q1 h0; have s4 := bl_keeps b0 _ _ s4; have b1 := bl_trans b1 b0; clear h0 b0 t2)
    | (go_at_call 14; (with_reducible refine (same_lit A4 2 2 _ _ _ w7 _ _ s4 (lit01 w7 rfl) rfl rfl (by decide)).mono ?_); rintro e w8 ⟨rfl, q0, h0⟩; have b0 := bl_q1 h0; have s4 := bl_keeps b0 _ _ s4; have b1 := bl_trans b1 b0; clear h0 b0 )
    | (go_at_call 46; (with_reducible refine (text_lit A4 2 c4 rfl w8 s4 (pow_below ht b1)).mono ?_); rintro e w9 ⟨rfl, b0⟩; have s4 := bl_keeps b0 _ _ s4; have b1 := bl_trans b1 b0; clear b0)
    | (go_at_call 16; (with_reducible refine (bits_lit A4 2 c4 rfl w9 s4).mono ?_); rintro e w' ⟨rfl, rfl⟩)
    | (go_at_call 15; (with_reducible refine (validn_lit w9).mono ?_); rintro e w' ⟨rfl, rfl⟩)
    | (go_at_call 15; (with_reducible refine (valid0_lit _ _ (lit0 w9 rfl)).mono ?_); rintro e w' ⟨rfl, rfl⟩)
    | (go_at_call 47; (with_reducible refine (cmp_lit _ _ _ ((lit1 (w9.alloc _) (size1 _ _)).alloc _) (lit01 _ (by rw [size1, size1]))).mono ?_); rintro e w10 ⟨rfl, q0, h0⟩; have b1 := bl_trans b1 (bl_one (bl_q2 h0)); clear h0 s4)
    | (go_at_call 18; (with_reducible refine (of_lit w10).mono ?_); rintro e w11 ⟨A5, c5, rfl, r5, b5⟩; have s5 := r5.sl; have b1 := bl_trans b1 b5; clear r5 b5)
    | (go_at_call 14; (with_reducible refine (same_lit A5 1 1 _ _ _ w11 _ _ s5 (lit5 w11 rfl) rfl rfl (by decide)).mono ?_); rintro e w12 ⟨rfl, q0, h0⟩; have b0 := bl_q1 h0; have b1 := bl_trans b1 b0; clear h0 b0 s5)
    )
  go_ret
  exact ⟨rfl, b1⟩
end Nt

end Go.Proofs.YtgmjdaallinicaaGreatDoor

namespace Go.Proofs.YtgmjdaallinicaaGreatDoor

open Go.RowKit

namespace Nt

theorem dec_step {v : Nat} (h : 10 ≤ v) : Lib.decDigits v = Lib.decDigits (v / 10) ++ [UInt8.ofNat (48 + v % 10)] := by
  rw [Lib.decDigits, dif_neg (by omega)]
theorem dec_last {v : Nat} (h : v < 10) : Lib.decDigits v = [UInt8.ofNat (48 + v % 10)] := by
  rw [Lib.decDigits_one h, Nat.mod_eq_of_lt h]

/-- What is still to be written, and what stands behind it. -/
def TxInv (x v : Nat) (t : List UInt8) : Prop := (v = 0 ∧ t = Lib.decDigits x) ∨ (0 < v ∧ Lib.decDigits v ++ t = Lib.decDigits x)
theorem TxInv.step {x v : Nat} {t : List UInt8} (hv : 0 < v) (h : TxInv x v t) : TxInv x (v / 10) (UInt8.ofNat (48 + v % 10) :: t) := by
  rcases h with ⟨h, _⟩ | ⟨_, h⟩
  · omega
  · by_cases h10 : v < 10
    · rw [dec_last h10] at h
      exact .inl ⟨by omega, h⟩
    · rw [dec_step (by omega), List.append_assoc] at h
      exact .inr ⟨by omega, h⟩

theorem str_cons (x : UInt8) (s : ByteArray) : ((⟨#[x]⟩ : ByteArray) ++ s).data.toList = x :: s.data.toList := by simp
theorem str_size (x : UInt8) (s : ByteArray) : ((⟨#[x]⟩ : ByteArray) ++ s).size = s.size + 1 := by
  rw [Lib.size_eq, str_cons, Lib.size_eq]; rfl
theorem dec_room {x v : Nat} {s : ByteArray} (_hv : 0 < v) (h : Lib.decDigits v ++ s.data.toList = Lib.decDigits x) : s.size < (Lib.decDigits x).length := by
  rw [← h, List.length_append, Lib.size_eq]
  have : 0 < (Lib.decDigits v).length := by
    rw [Lib.decDigits]
    split <;> simp
  omega
theorem nd_le : ∀ (k n : Nat), 1 ≤ k → n < 10 ^ k → Lib.nDigits n ≤ k
  | 0, _, h, _ => by omega
  | 1, n, _, h => by rw [Lib.nDigits_small (by omega)]; omega
  | k + 2, n, _, h => by
    by_cases h10 : n < 10
    · rw [Lib.nDigits_small h10]; omega
    · rw [Lib.nDigits_big h10]
      have := nd_le (k + 1) (n / 10) (by omega) (by rw [Nat.pow_succ] at h; omega)
      omega
theorem dec_len {n : Nat} (h : n < LB ^ 64) : (Lib.decDigits n).length ≤ 10000 := by
  rw [Lib.decDigits_length]
  have key : ∀ k j : Nat, j = 20 * k → 1 ≤ k → n < LB ^ k → Lib.nDigits n ≤ j := fun k j hj hk hn => by
    refine nd_le j n (by omega) (Nat.lt_of_lt_of_le hn ?_)
    rw [hj, Nat.pow_mul]
    exact Nat.pow_le_pow_left (by decide) _
  exact Nat.le_trans (key 64 _ rfl (by omega) h) (by omega)
theorem kc_byte (W : World) (r : Nat) (hr : r < 10) : (convert 102 9 (.slice (some ⟨W.heap.size, 0, none⟩) 1 1)).run Tryz.prog (W.alloc (.cells #[.int .u8 (48 + (r : Int))] 5)) =
    .ok (.string ⟨#[UInt8.ofNat (48 + r)]⟩) (W.alloc (.cells #[.int .u8 (48 + (r : Int))] 5)) := by
  refine run_convert_bytes_back (P := Tryz.prog) (W.alloc (.cells #[.int .u8 (48 + (r : Int))] 5)) 102 9 5 ⟨W.heap.size, 0, none⟩ 1 [UInt8.ofNat (48 + r)] Tryz.underlying102 Tryz.underlying5 Tryz.underlying9 ?_
  intro j hj
  obtain rfl : j = 0 := by simp at hj; omega
  rw [show (⟨W.heap.size, 0, none⟩ : Addr).add 0 = ⟨W.heap.size, 0, none⟩ by rfl, cell_of_row (W.alloc (.cells #[.int .u8 (48 + (r : Int))] 5)) W.heap.size 0 _ _ (0, 0) (heap_alloc_new W _)]
  have : (48 + r) % 256 = 48 + r := Nat.mod_eq_of_lt (by omega)
  simp [this]
theorem str_eq {s : ByteArray} {l : List UInt8} (h : s.data.toList = l) : s = ⟨l.toArray⟩ := by subst h; rfl
theorem ret_str {s t : ByteArray} (h : s = t) : Ending.returned (.string s) = .returned (.string t) := by rw [h]
def strLen (v : Value) : Nat := match v with | .string s => s.size | _ => 0

end Nt

end Go.Proofs.YtgmjdaallinicaaGreatDoor

namespace Go.Proofs.YtgmjdaallinicaaGreatDoor

open Go.RowKit

namespace Nt

/-- Without the sign; is there one? -/
def cutD (l : List UInt8) : List UInt8 := Lib.trimPrefix l [45]
def hasD (l : List UInt8) : Bool := Lib.hasPrefix l [45]
theorem cutD_le (l : List UInt8) : (cutD l).length ≤ l.length := by
  unfold cutD Lib.trimPrefix
  split
  · rw [List.length_drop]; omega
  · exact Nat.le_refl _
def parseISp (l : List UInt8) : Bool × List Nat × Nat := (hasD l && decide (0 < (parseSp (cutD l)).1.length), (parseSp (cutD l)).1, (parseSp (cutD l)).2)
theorem parseSp_le (l : List UInt8) : (parseSp l).1.length ≤ 64 := by
  unfold parseSp
  split
  · split
    · rename_i h; exact digs_64 h
    · simp
  · simp

set_option maxRecDepth 100000 in
set_option maxHeartbeats 1000000 in
theorem parseI_any (s : ByteArray) (w : World) (hs : s.size ≤ 1000000) :
    Calls Tryz.prog 41 #[.string s] w (ITwo w (parseISp s.data.toList)) := by
  have C : Hid (∀ W, Calls Tryz.prog 72 #[.string s, .string { data := #[45] }] W fun e w' => e = .returned (.tuple #[.string ⟨(cutD s.data.toList).toArray⟩, .bool (hasD s.data.toList)]) ∧ w' = W) := fun W => Tryz.strings_CutPrefix s { data := #[45] } W
  have hz : (⟨(cutD s.data.toList).toArray⟩ : ByteArray).size ≤ 1000000 := by
    show (cutD s.data.toList).toArray.size ≤ 1000000
    rw [List.size_toArray]
    have := cutD_le s.data.toList
    have e : s.data.toList.length = s.data.size := Array.length_toList
    have e2 : s.data.size = s.size := rfl
    omega
  have P : Hid (∀ W, Calls Tryz.prog 45 #[.string ⟨(cutD s.data.toList).toArray⟩] W (Two W (parseSp (cutD s.data.toList)))) := fun W => parse_any ⟨(cutD s.data.toList).toArray⟩ W hz
  have L := hide (show (parseSp (cutD s.data.toList)).1.length ≤ 9223372036854775807 by have := parseSp_le (cutD s.data.toList); omega)
  have E : Hid (parseISp s.data.toList = (hasD s.data.toList && decide (0 < (parseSp (cutD s.data.toList)).1.length), (parseSp (cutD s.data.toList)).1, (parseSp (cutD s.data.toList)).2)) := rfl
  have X := hide (Rc.start w)
  generalize parseSp (cutD s.data.toList) = r at *
  generalize (⟨(cutD s.data.toList).toArray⟩ : ByteArray) = z at *
  generalize parseISp s.data.toList = pr at *
  generalize hasD s.data.toList = h at *
  clear hz
  go_enter Tryz.func41, Tryz.ntmps41
  go_wp2_with (first
    | (go_at_call 72; (with_reducible refine (C.out _).mono ?_); rintro e w' ⟨rfl, rfl⟩)
    | (go_at_call 45; (with_reducible refine (P.out _).mono ?_); rintro e w1 hh; obtain ⟨A3, c3, rfl, s3, hb⟩ := hh.get; have b1 := bl_one hb; have X := hide (X.out.next hb); obtain ⟨x1, x2, x3, x4⟩ := X.out; clear hh hb)
    | (go_at_call 62; (with_reducible refine (signed_any _ A3 _ c3 _ L.out).mono ?_); rintro e w2 ⟨rfl, hb⟩; have b2 := bl_trans b1 hb; have X := hide (X.out.next hb); obtain ⟨x1, x2, x3, x4⟩ := X.out; have s4 := bl_keeps hb _ _ s3; clear hb))
  exact bodyPost_ret (v := .tuple #[.agg #[.bool (h && decide (0 < r.1.length)), .slice A3 r.1.length c3], .int .i64 (r.2 : Int)]) (by simp [results, Tryz.results41, go_sem, x1, x2]) rfl (ITwo.mk E.out rfl (s4.store2 x1 x2 _ _) (Below.store2 b2 (Nat.le_refl _) _ _))

/-- Text, as the document says. -/
def textISp (s : Bool) (xs : List Nat) : List UInt8 := if validI s xs then (if s then 45 :: textSp xs else textSp xs) else []
theorem text_size {xs : List Nat} (l : Limbs xs) : (⟨(textSp xs).toArray⟩ : ByteArray).size ≤ 10000 := by
  show (textSp xs).toArray.size ≤ 10000
  rw [List.size_toArray]
  unfold textSp
  split
  · rename_i v
    exact dec_len (Nat.lt_of_lt_of_le (val_lt l) (Nat.pow_le_pow_right LB_pos (validB_iff.1 v).1))
  · simp
theorem minus_text (l : List UInt8) : ((⟨#[45]⟩ : ByteArray) ++ ⟨l.toArray⟩) = ⟨(45 :: l).toArray⟩ := by
  apply ByteArray.ext
  simp

set_option maxRecDepth 100000 in
set_option maxHeartbeats 1000000 in
theorem textI_any (s : Bool) (A : Option Addr) (c : Nat) (xs : List Nat) (w : World) (hx : Sl w A xs) (lx : Limbs xs) (hl : xs.length ≤ 1000000) (ht : Pow10 w) :
    Calls Tryz.prog 42 #[.agg #[.bool s, .slice A xs.length c]] w fun e w' => e = .returned (.string ⟨(textISp s xs).toArray⟩) ∧ Below w.heap.size w w' := by
  have V := hide (fun W (h : Below w.heap.size w W) => validI_any s A c xs W (bl_keeps h _ _ hx) (by omega))
  have T := hide (fun W (h : Below w.heap.size w W) => text_any A c xs W (bl_keeps h _ _ hx) lx hl (pow_below ht h))
  have X := hide (cells2 w (.bool s) (.slice A xs.length c) 41)
  cases hv : validI s xs with
  | false =>
    have E := hide (show textISp s xs = [] by unfold textISp; rw [hv]; rfl)
    rw [hv] at V
    clear hv hx lx T ht
    generalize xs.length = n at *
    go_enter Tryz.func42, Tryz.ntmps42
    go_wp2_with (go_at_call 37; (with_reducible refine (V.out _ (bl_al (.refl _ _) _)).mono ?_); rintro e w1 ⟨rfl, hb⟩; have x1 := cell_next hb X.out.1; have x2 := cell_next hb X.out.2.1; have b1 := bl_one hb)
    go_ret
    exact ⟨by rw [E.out]; rfl, b1⟩
  | true =>
    have hz := text_size lx
    rw [hv] at V
    cases s with
    | true =>
      have E := hide (show (⟨(textISp true xs).toArray⟩ : ByteArray) = ⟨#[45]⟩ ++ ⟨(textSp xs).toArray⟩ by unfold textISp; rw [hv, minus_text]; rfl)
      clear hv hx lx ht
      generalize xs.length = n at *
      generalize (⟨(textSp xs).toArray⟩ : ByteArray) = tx at *
      go_enter Tryz.func42, Tryz.ntmps42
      go_wp2_with (first | (go_at_call 37; (with_reducible refine (V.out _ (bl_al (.refl _ _) _)).mono ?_); rintro e w1 ⟨rfl, hb⟩; have x1 := cell_next hb X.out.1; have x2 := cell_next hb X.out.2.1; have b1 := bl_one hb) | (go_at_call 46; (with_reducible refine (T.out _ b1).mono ?_); rintro e w2 ⟨rfl, hb2⟩; have b2 := bl_trans b1 hb2))
      go_ret
      exact ⟨by rw [E.out]; rfl, b2⟩
    | false =>
      have E := hide (show (⟨(textISp false xs).toArray⟩ : ByteArray) = ⟨(textSp xs).toArray⟩ by unfold textISp; rw [hv]; rfl)
      clear hv hx lx ht
      generalize xs.length = n at *
      generalize (⟨(textSp xs).toArray⟩ : ByteArray) = tx at *
      go_enter Tryz.func42, Tryz.ntmps42
      go_wp2_with (first | (go_at_call 37; (with_reducible refine (V.out _ (bl_al (.refl _ _) _)).mono ?_); rintro e w1 ⟨rfl, hb⟩; have x1 := cell_next hb X.out.1; have x2 := cell_next hb X.out.2.1; have b1 := bl_one hb) | (go_at_call 46; (with_reducible refine (T.out _ b1).mono ?_); rintro e w2 ⟨rfl, hb2⟩; have b2 := bl_trans b1 hb2))
      go_ret
      exact ⟨by rw [E.out]; rfl, b2⟩
end Nt

end Go.Proofs.YtgmjdaallinicaaGreatDoor

namespace Go.Proofs.YtgmjdaallinicaaGreatDoor

open Go.RowKit

namespace Nt

set_option maxRecDepth 100000 in
set_option maxHeartbeats 1000000 in
/-- The reference's SameInt. -/
theorem sameInt_any (s t : Bool) (A B : Option Addr) (c d n m : Nat) (xs ys : List Nat) (w : World) (hn : xs.length = n) (hm : ys.length = m) (hx : Sl w A xs) (hy : Sl w B ys) (hl : n ≤ 1000000) (hl' : m ≤ 1000000) :
    Calls Tryz.prog 68 #[.agg #[.bool s, .slice A n c], .agg #[.bool t, .slice B m d]] w fun e w' => e = .returned (.bool (decide (s = t ∧ xs = ys))) ∧ Below w.heap.size w w' := by
  have S := hide (fun W (h : Below w.heap.size w W) => same_any A B c d xs ys W (bl_keeps h _ _ hx) (bl_keeps h _ _ hy) (by omega) (by omega))
  rw [hn, hm] at S
  have b0 : Below w.heap.size w ((w.alloc (.cells #[.bool s, .slice A n c] 41)).alloc (.cells #[.bool t, .slice B m d] 41)) := bl_al (bl_al (.refl _ _) _) _
  obtain ⟨x1, x2, x3, x4⟩ := Bx2.start s A n c t B m d w
  clear hx hy hn hm
  by_cases hst : s = t
  · subst hst
    have E := hide (show decide (s = s ∧ xs = ys) = decide (xs = ys) by simp)
    generalize decide (xs = ys) = r at *
    go_enter Tryz.func68, Tryz.ntmps68
    go_wp2_with (go_at_call 58; (with_reducible refine (S.out _ b0).mono ?_); rintro e w1 ⟨rfl, q0, h0⟩; have b1 := bl_trans b0 (bl_q0 h0); clear h0)
    go_ret
    exact ⟨by rw [E.out]; rfl, b1⟩
  · have E := hide (show decide (s = t ∧ xs = ys) = false by simp [hst])
    clear S
    cases s <;> cases t <;> first
    | exact absurd rfl hst
    | (go_enter Tryz.func68, Tryz.ntmps68
       go_wp2
       go_ret
       exact ⟨by rw [E.out]; rfl, b0⟩)

set_option maxRecDepth 100000 in
set_option maxHeartbeats 1000000 in
/-- The second law's same. -/
theorem same2_any (s t : Bool) (A B : Option Addr) (c d n m : Nat) (xs ys : List Nat) (w : World) (hn : xs.length = n) (hm : ys.length = m) (hx : Sl w A xs) (hy : Sl w B ys) (hl : n ≤ 1000000) (hl' : m ≤ 1000000) :
    Calls Tryz.prog 31 #[.agg #[.bool s, .slice A n c], .agg #[.bool t, .slice B m d]] w fun e w' => e = .returned (.bool (decide (s = t ∧ xs = ys))) ∧ Below w.heap.size w w' := by
  have S := hide (fun W (h : Below w.heap.size w W) => sameInt_any s t A B c d n m xs ys W hn hm (bl_keeps h _ _ hx) (bl_keeps h _ _ hy) hl hl')
  have b0 : Below w.heap.size w ((w.alloc (.cells #[.bool s, .slice A n c] 41)).alloc (.cells #[.bool t, .slice B m d] 41)) := bl_al (bl_al (.refl _ _) _) _
  obtain ⟨x1, x2, x3, x4⟩ := Bx2.start s A n c t B m d w
  clear hx hy hn hm
  generalize decide (s = t ∧ xs = ys) = r at *
  go_enter Tryz.func31, Tryz.ntmps31
  go_wp2_with (go_at_call 68; (with_reducible refine (S.out _ b0).mono ?_); rintro e w1 ⟨rfl, hb⟩; have b1 := bl_trans b0 hb; clear hb)
  go_ret
  exact ⟨rfl, b1⟩
theorem same2_t (s t : Bool) (A B : Option Addr) (c d n m : Nat) (xs ys : List Nat) (w : World) (hn : xs.length = n) (hm : ys.length = m) (hx : Sl w A xs) (hy : Sl w B ys) (hl : n ≤ 1000000) (hl' : m ≤ 1000000) (e1 : s = t) (e2 : xs = ys) :
    Calls Tryz.prog 31 #[.agg #[.bool s, .slice A n c], .agg #[.bool t, .slice B m d]] w fun e w' => e = .returned (.bool true) ∧ Below w.heap.size w w' := by
  have := same2_any s t A B c d n m xs ys w hn hm hx hy hl hl'
  rwa [decide_eq_true ⟨e1, e2⟩] at this
end Nt

end Go.Proofs.YtgmjdaallinicaaGreatDoor

namespace Go.Proofs.YtgmjdaallinicaaGreatDoor

open Go.RowKit

namespace Nt

/-- Two rows, handed back. -/
def TwoS (w : World) (xs ys : List Nat) (e : Ending) (w' : World) : Prop := ∃ A c B d, e = .returned (.tuple #[.slice A xs.length c, .slice B ys.length d]) ∧ Sl w' A xs ∧ Sl w' B ys ∧ Below w.heap.size w w'

theorem validB_dg {n : Nat} (h : n < LB ^ 64) : validB (digs n) = true := validB_iff.2 ⟨digs_64 h, norm_digs n⟩
theorem add_at (A B : Option Addr) (n k c d x y : Nat) (w : World) (hn : (digs x).length = n) (hk : (digs y).length = k) (hx : Sl w A (digs x)) (hy : Sl w B (digs y)) (lx : x < LB ^ 64) (ly : y < LB ^ 64) (h : x + y < LB ^ 64) :
    Calls Tryz.prog 61 #[.slice A n c, .slice B k d] w (Two w (digs (x + y), 0)) := by
  subst hn hk
  have := add_any A B c d _ _ w hx hy (limbs_digs _) (limbs_digs _) (Nat.le_trans (length_digs_le.2 lx) (by decide)) (Nat.le_trans (length_digs_le.2 ly) (by decide))
  unfold addSp at this
  rw [validB_dg lx, validB_dg ly, val_digs, val_digs] at this
  simpa [h] using this
theorem sub_at (A B : Option Addr) (n k c d x y : Nat) (w : World) (hn : (digs x).length = n) (hk : (digs y).length = k) (hx : Sl w A (digs x)) (hy : Sl w B (digs y)) (lx : x < LB ^ 64) (ly : y < LB ^ 64) (h : y ≤ x) :
    Calls Tryz.prog 44 #[.slice A n c, .slice B k d] w (Two w (digs (x - y), 0)) := by
  subst hn hk
  have := sub_any A B c d _ _ w hx hy (limbs_digs _) (limbs_digs _) (Nat.le_trans (length_digs_le.2 lx) (by decide)) (Nat.le_trans (length_digs_le.2 ly) (by decide))
  rwa [subSp_ok (validB_dg lx) (validB_dg ly) (by rw [val_digs, val_digs]; exact h), val_digs, val_digs] at this

set_option maxHeartbeats 400000 in
theorem nextBelow_any (A B C : Option Addr) (n m k a b c x r y : Nat) (w : World) (hn : (digs x).length = n) (hm : (digs r).length = m) (hk : (digs y).length = k) (hx : Sl w A (digs x)) (hr : Sl w B (digs r)) (hy : Sl w C (digs y))
    (lx : x < LB ^ 64) (lr : r < LB ^ 64) (ly : y < LB ^ 64) (h1 : x + 1 < LB ^ 64) (h2 : r ≤ y) :
    Calls Tryz.prog 71 #[.slice A n a, .slice B m b, .slice C k c] w (TwoS w (digs (x + 1)) (digs (y - r))) := by
  have e1 : digs 1 = [1] := digs1 (by decide) (by decide)
  have l1 : 1 < LB ^ 64 := Nat.lt_of_le_of_lt (Nat.le_add_left 1 x) h1
  have O : Hid (∀ W, Calls Tryz.prog 18 #[.int .i64 1] W (Mk W [1])) := fun W => of_any 1 (by omega) (by omega) W
  have HX := hide hx
  have HR := hide hr
  have HY := hide hy
  have D1 := hide (show (digs 1).length = 1 by rw [e1]; rfl)
  have AD := hide (fun W A3 c3 (b : Below w.heap.size w W) (s : Sl W A3 [1]) => add_at A A3 n 1 a c3 x 1 W hn D1.out (bl_keeps b _ _ HX.out) (by rw [e1]; exact s) lx l1 h1)
  have SB := hide (fun W (b' : Below w.heap.size w W) => sub_at C B k m c b y r W hk hm (bl_keeps b' _ _ HY.out) (bl_keeps b' _ _ HR.out) ly lr h2)
  clear hx hr hy hn hm hk e1 l1 h1 h2
  go_enter Tryz.func71, Tryz.ntmps71
  go_wp2_with (first
    | (go_at_call 18; (with_reducible refine (O.out _).mono ?_); rintro e w1 ⟨A3, c3, rfl, r3, b1⟩; have s3 := hide r3.sl; clear r3)
    | (go_at_call 61; (with_reducible refine (AD.out _ A3 _ b1 s3.out).mono ?_); rintro e w2 h; obtain ⟨A4, c4, rfl, s4, b0⟩ := h.get; have b2 := bl_trans b1 b0; clear h b0)
    | (go_at_call 44; (with_reducible refine (SB.out _ b2).mono ?_); rintro e w3 h; obtain ⟨A5, c5, rfl, s5, b0⟩ := h.get; have b3 := bl_trans b2 b0; have s4 := bl_keeps b0 _ _ s4; clear h b0))
  go_ret2
  exact ⟨_, _, _, _, rfl, s4, s5, b3⟩
/-- A quotient that goes down, and what is left: of sizes m and n, of signs that differ (or not). -/
def downQ (d : Bool) (m n : Nat) : Nat := if d = true ∧ 0 < m % n then m / n + 1 else m / n
def downR (d : Bool) (m n : Nat) : Nat := if d = true ∧ 0 < m % n then n - m % n else m % n
/-- Div, as the document says. -/
def divISp (s : Bool) (xs : List Nat) (t : Bool) (ys : List Nat) : (Bool × List Nat) × (Bool × List Nat) × Nat :=
  if validI s xs = true ∧ validI t ys = true ∧ 0 < ys.length then (((s != t) && decide (0 < (digs (downQ (s != t) (val xs) (val ys))).length), digs (downQ (s != t) (val xs) (val ys))), (t && decide (0 < (digs (downR (s != t) (val xs) (val ys))).length), digs (downR (s != t) (val xs) (val ys))), 0) else ((false, []), (false, []), 1)
theorem divI_no {s t : Bool} {xs ys : List Nat} (h : ¬ (validI s xs = true ∧ validI t ys = true ∧ 0 < ys.length)) : divISp s xs t ys = ((false, []), (false, []), 1) := by
  unfold divISp; rw [if_neg h]
theorem divI_ok {s t : Bool} {xs ys : List Nat} (h : validI s xs = true ∧ validI t ys = true ∧ 0 < ys.length) : divISp s xs t ys = (((s != t) && decide (0 < (digs (downQ (s != t) (val xs) (val ys))).length), digs (downQ (s != t) (val xs) (val ys))), (t && decide (0 < (digs (downR (s != t) (val xs) (val ys))).length), digs (downR (s != t) (val xs) (val ys))), 0) := by
  unfold divISp; rw [if_pos h]
theorem down_plain {d : Bool} {m n : Nat} (h : ¬ (d = true ∧ 0 < m % n)) : downQ d m n = m / n ∧ downR d m n = m % n := by
  unfold downQ downR; rw [if_neg h, if_neg h]; exact ⟨rfl, rfl⟩
theorem down_more {d : Bool} {m n : Nat} (h : d = true ∧ 0 < m % n) : downQ d m n = m / n + 1 ∧ downR d m n = n - m % n := by
  unfold downQ downR; rw [if_pos h, if_pos h]; exact ⟨rfl, rfl⟩
/-- What a call hands back that answers two whole numbers and an error. -/
def IThree (w : World) (r : (Bool × List Nat) × (Bool × List Nat) × Nat) (e : Ending) (w' : World) : Prop := ∃ A c B d, e = .returned (.tuple #[.agg #[.bool r.1.1, .slice A r.1.2.length c], .agg #[.bool r.2.1.1, .slice B r.2.1.2.length d], .int .i64 (r.2.2 : Int)]) ∧ Sl w' A r.1.2 ∧ Sl w' B r.2.1.2 ∧ Below w.heap.size w w'
theorem IThree.mk {w w' : World} {r : (Bool × List Nat) × (Bool × List Nat) × Nat} {s t : Bool} {xs ys : List Nat} {n m k c d : Nat} {A B : Option Addr} (hr : r = ((s, xs), (t, ys), k)) (hn : xs.length = n) (hm : ys.length = m) (hs : Sl w' A xs) (ht : Sl w' B ys) (hb : Below w.heap.size w w') :
    IThree w r (.returned (.tuple #[.agg #[.bool s, .slice A n c], .agg #[.bool t, .slice B m d], .int .i64 (k : Int)])) w' := by
  subst hr; subst hn; subst hm; exact ⟨A, c, B, d, rfl, hs, ht, hb⟩
theorem Bx2.drew {h : Nat} {s : Bool} {A : Option Addr} {n c : Nat} {t : Bool} {B : Option Addr} {m d : Nat} {w : World} (x : Bx2 h s A n c t B m d w) : Bx2 h s A n c t B m d w.drew := x
/-- The four blocks of a division's call. -/
def Bx4 (h : Nat) (s : Bool) (A : Option Addr) (n c : Nat) (t : Bool) (B : Option Addr) (m d : Nat) (w : World) : Prop := Bx2 h s A n c t B m d w ∧ Rc (h + 1 + 1) w ∧ Rc (h + 1 + 1 + 1) w
theorem Bx4.next {h : Nat} {s : Bool} {A : Option Addr} {n c : Nat} {t : Bool} {B : Option Addr} {m d : Nat} {w w' : World} (x : Bx4 h s A n c t B m d w) (hb : Below w.heap.size w w') : Bx4 h s A n c t B m d w' := ⟨x.1.next hb, x.2.1.next hb, x.2.2.next hb⟩
theorem Bx4.drew {h : Nat} {s : Bool} {A : Option Addr} {n c : Nat} {t : Bool} {B : Option Addr} {m d : Nat} {w : World} (x : Bx4 h s A n c t B m d w) : Bx4 h s A n c t B m d w.drew := x
theorem Bx4.flat {h : Nat} {s : Bool} {A : Option Addr} {n c : Nat} {t : Bool} {B : Option Addr} {m d : Nat} {w : World} (x : Bx4 h s A n c t B m d w) :
    (w.cell? ⟨h, 0, none⟩ = some (.bool s) ∧ w.cell? ⟨h, 1, none⟩ = some (.slice A n c) ∧ w.cell? ⟨h + 1, 0, none⟩ = some (.bool t) ∧ w.cell? ⟨h + 1, 1, none⟩ = some (.slice B m d)) ∧
    (w.cell? ⟨h + 1 + 1, 0, none⟩ = some (.bool false) ∧ w.cell? ⟨h + 1 + 1, 1, none⟩ = some (.slice none 0 0) ∧ w.frozen? ⟨h + 1 + 1, 0, none⟩ = false ∧ w.frozen? ⟨h + 1 + 1, 1, none⟩ = false) ∧
    (w.cell? ⟨h + 1 + 1 + 1, 0, none⟩ = some (.bool false) ∧ w.cell? ⟨h + 1 + 1 + 1, 1, none⟩ = some (.slice none 0 0) ∧ w.frozen? ⟨h + 1 + 1 + 1, 0, none⟩ = false ∧ w.frozen? ⟨h + 1 + 1 + 1, 1, none⟩ = false) := x
theorem Bx4.start (s : Bool) (A : Option Addr) (n c : Nat) (t : Bool) (B : Option Addr) (m d : Nat) (w : World) : Bx4 w.heap.size s A n c t B m d ((((w.alloc (.cells #[.bool s, .slice A n c] 41)).alloc (.cells #[.bool t, .slice B m d] 41)).alloc (.cells #[.bool false, .slice none 0 0] 41)).alloc (.cells #[.bool false, .slice none 0 0] 41)) := by
  have b0 := Bx2.start s A n c t B m d w
  have e2 : ((w.alloc (.cells #[.bool s, .slice A n c] 41)).alloc (.cells #[.bool t, .slice B m d] 41)).heap.size = w.heap.size + 1 + 1 := by rw [size1, size1]
  generalize ((w.alloc (.cells #[.bool s, .slice A n c] 41)).alloc (.cells #[.bool t, .slice B m d] 41)) = W at *
  have r1 := Rc.start W
  have e3 : (W.alloc (.cells #[.bool false, .slice none 0 0] 41)).heap.size = w.heap.size + 1 + 1 + 1 := by rw [size1, e2]
  have r2 := Rc.start (W.alloc (.cells #[.bool false, .slice none 0 0] 41))
  have g1 := bl_al (.refl _ W) (.cells #[.bool false, .slice none 0 0] 41)
  have g2 := bl_al (.refl _ (W.alloc (.cells #[.bool false, .slice none 0 0] 41))) (.cells #[.bool false, .slice none 0 0] 41)
  rw [e2] at r1
  rw [e3] at r2
  exact ⟨(b0.next g1).next g2, r1.next g2, r2⟩
theorem Sl.store4 {w : World} {A : Option Addr} {xs : List Nat} (h : Sl w A xs) {g k : Nat} (r1 : Rc g w) (r2 : Rc k w) (hne : k ≠ g) (u v u' v' : Value) : Sl ((((w.setCell ⟨g, 0, none⟩ u).setCell ⟨g, 1, none⟩ v).setCell ⟨k, 0, none⟩ u').setCell ⟨k, 1, none⟩ v') A xs :=
  have r3 := r2.store hne u v
  (h.store2 r1.1 r1.2.1 u v).store2 r3.1 r3.2.1 u' v'

set_option maxRecDepth 100000 in
set_option maxHeartbeats 12000000 in
theorem divI_any (s t : Bool) (A B : Option Addr) (c d : Nat) (xs ys : List Nat) (w : World) (hx : Sl w A xs) (hy : Sl w B ys) (lx : Limbs xs) (ly : Limbs ys) (hl : xs.length ≤ 1000000) (hl' : ys.length ≤ 1000000) :
    Calls Tryz.prog 40 #[.agg #[.bool s, .slice A xs.length c], .agg #[.bool t, .slice B ys.length d]] w (IThree w (divISp s xs t ys)) := by
  have V1 := hide (fun W (h : Below w.heap.size w W) => validI_any s A c xs W (bl_keeps h _ _ hx) (by omega))
  have V2 := hide (fun W (h : Below w.heap.size w W) => validI_any t B d ys W (bl_keeps h _ _ hy) (by omega))
  have b0 : Below w.heap.size w ((((w.alloc (.cells #[.bool s, .slice A xs.length c] 41)).alloc (.cells #[.bool t, .slice B ys.length d] 41)).alloc (.cells #[.bool false, .slice none 0 0] 41)).alloc (.cells #[.bool false, .slice none 0 0] 41)) := bl_al (bl_al (bl_al (bl_al (.refl _ _) _) _) _) _
  have X := hide (Bx4.start s A xs.length c t B ys.length d w)
  have D := hide (fun W (h : Below w.heap.size w W) => divmod_all A B c d xs ys W (bl_keeps h _ _ hx) (bl_keeps h _ _ hy) lx ly hl hl')
  cases hv : validI s xs with
  | false =>
    have E := hide (divI_no (s := s) (t := t) (xs := xs) (ys := ys) (by rw [hv]; simp))
    rw [hv] at V1
    clear hv V2 D hx hy lx ly
    generalize xs.length = n at *
    generalize ys.length = m at *
    go_enter Tryz.func40, Tryz.ntmps40
    go_wp2_with (go_at_call 37; (with_reducible refine (V1.out _ b0).mono ?_); rintro e w1 ⟨rfl, hb⟩; have X := hide (X.out.next hb); obtain ⟨⟨x1, x2, x3, x4⟩, ⟨y1, y2, y3, y4⟩, z1, z2, z3, z4⟩ := X.out.flat; have b1 := bl_trans b0 hb; clear hb)
    go_region
    all_goals
      go_wp2
      refine bodyPost_ret (v := .tuple #[.agg #[.bool false, .slice none 0 0], .agg #[.bool false, .slice none 0 0], .int .i64 1]) (by simp [results, Tryz.results40, go_sem, y1, y2, z1, z2]) rfl (IThree.mk E.out rfl rfl .nil .nil ?_)
      exact Below.store2 (Below.store2 b1.drew (by omega) _ _) (by omega) _ _
  | true =>
    cases hv2 : validI t ys with
    | false =>
      have E := hide (divI_no (s := s) (t := t) (xs := xs) (ys := ys) (by rw [hv2]; simp))
      rw [hv] at V1
      rw [hv2] at V2
      clear hv hv2 D hx hy lx ly
      generalize xs.length = n at *
      generalize ys.length = m at *
      go_enter Tryz.func40, Tryz.ntmps40
      go_wp2_with (first | (go_at_call 37; (with_reducible refine (V1.out _ b0).mono ?_); rintro e w1 ⟨rfl, hb⟩; have X := hide (X.out.next hb); obtain ⟨⟨x1, x2, x3, x4⟩, ⟨y1, y2, y3, y4⟩, z1, z2, z3, z4⟩ := X.out.flat; have b1 := bl_trans b0 hb; clear hb) | (go_at_call 37; (with_reducible refine (V2.out _ b1).mono ?_); rintro e w2 ⟨rfl, hb⟩; have X := hide (X.out.next hb); obtain ⟨⟨x1, x2, x3, x4⟩, ⟨y1, y2, y3, y4⟩, z1, z2, z3, z4⟩ := X.out.flat; have b2 := bl_trans b1 hb; clear hb))
      go_region
      all_goals
        go_wp2
        refine bodyPost_ret (v := .tuple #[.agg #[.bool false, .slice none 0 0], .agg #[.bool false, .slice none 0 0], .int .i64 1]) (by simp [results, Tryz.results40, go_sem, y1, y2, z1, z2]) rfl (IThree.mk E.out rfl rfl .nil .nil ?_)
        exact Below.store2 (Below.store2 b2.drew (by omega) _ _) (by omega) _ _
    | true =>
      rw [hv] at V1
      rw [hv2] at V2
      by_cases h0 : ys.length = 0
      · have E := hide (divI_no (s := s) (t := t) (xs := xs) (ys := ys) (by rw [h0]; simp))
        have ED : divSp xs ys = ([], [], 1) := divSp_no (.inr (.inr (List.eq_nil_of_length_eq_zero h0)))
        rw [ED] at D
        clear ED h0 hv hv2 hx hy lx ly
        generalize xs.length = n at *
        generalize ys.length = m at *
        go_enter Tryz.func40, Tryz.ntmps40
        go_wp2_with (first | (go_at_call 37; (with_reducible refine (V1.out _ b0).mono ?_); rintro e w1 ⟨rfl, hb⟩; have X := hide (X.out.next hb); obtain ⟨⟨x1, x2, x3, x4⟩, ⟨y1, y2, y3, y4⟩, z1, z2, z3, z4⟩ := X.out.flat; have b1 := bl_trans b0 hb; clear hb) | (go_at_call 37; (with_reducible refine (V2.out _ b1).mono ?_); rintro e w2 ⟨rfl, hb⟩; have X := hide (X.out.next hb); obtain ⟨⟨x1, x2, x3, x4⟩, ⟨y1, y2, y3, y4⟩, z1, z2, z3, z4⟩ := X.out.flat; have b2 := bl_trans b1 hb; clear hb) | (go_at_call 8; (with_reducible refine (D.out _ b2).mono ?_); rintro e w3 h; obtain ⟨A3, c3, B3, d3, rfl, s3, t3, hb⟩ := h.get; have X := hide (X.out.next hb); obtain ⟨⟨x1, x2, x3, x4⟩, ⟨y1, y2, y3, y4⟩, z1, z2, z3, z4⟩ := X.out.flat; have b3 := bl_trans b2 hb; clear h hb))
        go_region
        all_goals
          go_wp2
          refine bodyPost_ret (v := .tuple #[.agg #[.bool false, .slice none 0 0], .agg #[.bool false, .slice none 0 0], .int .i64 1]) (by simp [results, Tryz.results40, go_sem, y1, y2, z1, z2]) rfl (IThree.mk E.out rfl rfl .nil .nil ?_)
          exact Below.store2 (Below.store2 b3.drew (by omega) _ _) (by omega) _ _
      · have hp : 0 < ys.length := by omega
        have hnp := val_pos ly (validI_B hv2) hp
        have hx64 : val xs < LB ^ 64 := Nat.lt_of_lt_of_le (val_lt lx) (Nat.pow_le_pow_right LB_pos (validB_iff.1 (validI_B hv)).1)
        have hy64 : val ys < LB ^ 64 := Nat.lt_of_lt_of_le (val_lt ly) (Nat.pow_le_pow_right LB_pos (validB_iff.1 (validI_B hv2)).1)
        have ED := divSp_ok (validI_B hv) (validI_B hv2) hp
        have hq64 : (digs (val xs / val ys)).length ≤ 64 := length_digs_le.2 (Nat.lt_of_le_of_lt (Nat.div_le_self _ _) hx64)
        have hr64 : (digs (val xs % val ys)).length ≤ 64 := length_digs_le.2 (Nat.lt_of_le_of_lt (Nat.mod_le _ _) hx64)
        have n1 := hide (show w.heap.size + 1 ≠ w.heap.size + 1 + 1 by omega)
        have n2 := hide (show w.heap.size ≠ w.heap.size + 1 + 1 by omega)
        have n3 := hide (show w.heap.size + 1 ≠ w.heap.size + 1 + 1 + 1 by omega)
        have n4 := hide (show w.heap.size ≠ w.heap.size + 1 + 1 + 1 by omega)
        rw [ED] at D
        have E0 := divI_ok ⟨hv, hv2, hp⟩
        by_cases hst : s = t
        · subst hst
          obtain ⟨e1, e2⟩ := down_plain (d := (s != s)) (m := val xs) (n := val ys) (by simp)
          rw [e1, e2, show (s != s) = false by simp] at E0
          have E := hide E0
          clear ED E0 e1 e2 h0 hv hv2 hx hy lx ly hp hnp hx64 hy64
          generalize digs (val xs / val ys) = Q at *
          generalize digs (val xs % val ys) = R at *
          have LQ := hide (show Q.length ≤ 9223372036854775807 by omega)
          have LR := hide (show R.length ≤ 9223372036854775807 by omega)
          generalize xs.length = n at *
          generalize ys.length = m at *
          go_enter Tryz.func40, Tryz.ntmps40
          go_wp2_with (first | (go_at_call 37; (with_reducible refine (V1.out _ b0).mono ?_); rintro e w1 ⟨rfl, hb⟩; have X := hide (X.out.next hb); obtain ⟨⟨x1, x2, x3, x4⟩, ⟨y1, y2, y3, y4⟩, z1, z2, z3, z4⟩ := X.out.flat; have b1 := bl_trans b0 hb; clear hb) | (go_at_call 37; (with_reducible refine (V2.out _ b1).mono ?_); rintro e w2 ⟨rfl, hb⟩; have X := hide (X.out.next hb); obtain ⟨⟨x1, x2, x3, x4⟩, ⟨y1, y2, y3, y4⟩, z1, z2, z3, z4⟩ := X.out.flat; have b2 := bl_trans b1 hb; clear hb) | (go_at_call 8; (with_reducible refine (D.out _ b2).mono ?_); rintro e w3 h; obtain ⟨A3, c3, B3, d3, rfl, s3, t3, hb⟩ := h.get; have X := hide (X.out.next hb); obtain ⟨⟨x1, x2, x3, x4⟩, ⟨y1, y2, y3, y4⟩, z1, z2, z3, z4⟩ := X.out.flat; have b3 := bl_trans b2 hb; clear h hb))
          go_region_held3 (fun w' => w'.cell? ⟨w.heap.size, 0, none⟩ = some (.bool s) ∧ w'.cell? ⟨w.heap.size, 1, none⟩ = some (.slice A n c) ∧ w'.cell? ⟨w.heap.size + 1, 0, none⟩ = some (.bool s) ∧ w'.cell? ⟨w.heap.size + 1, 1, none⟩ = some (.slice B m d))
            (first | exact ⟨x1, x2, x3, x4⟩ | exact S_store12 (by assumption) n2.out n2.out n1.out n1.out | exact S_store12 (by assumption) n4.out n4.out n3.out n3.out | exact S_next12 hbr (by assumption) | exact S_next12 hbq (by assumption) | go_keep)
            (first
              | (go_at_call 62; (with_reducible refine (signed_any _ A3 _ c3 _ LQ.out).mono ?_); rintro e w5 ⟨rfl, hbq⟩; (first | have Y5 := hide (Y6.out.next hbq) | have Y5 := hide (X.out.drew.next hbq)); obtain ⟨⟨x1, x2, x3, x4⟩, ⟨y1, y2, y3, y4⟩, z1, z2, z3, z4⟩ := Y5.out.flat)
              | (go_at_call 62; (with_reducible refine (signed_any _ B3 _ d3 _ LR.out).mono ?_); rintro e w6 ⟨rfl, hbr⟩; (first | have Y6 := hide (Y5.out.next hbr) | have Y6 := hide (X.out.drew.next hbr)); obtain ⟨⟨x1, x2, x3, x4⟩, ⟨y1, y2, y3, y4⟩, z1, z2, z3, z4⟩ := Y6.out.flat))
          all_goals
            first
            | (have hB := bl_trans hbq hbr
               have Y := hide (X.out.drew.next hB)
               obtain ⟨⟨x1, x2, x3, x4⟩, ⟨y1, y2, y3, y4⟩, z1, z2, z3, z4⟩ := Y.out.flat
               have sq := bl_keeps hB _ _ s3.drew
               have sr := bl_keeps hB _ _ t3.drew
               have b4 := bl_trans b3.drew hB
               clear hbq hbr hB X s3 t3
               go_wp2
               exact bodyPost_ret (v := .tuple #[.agg #[.bool (false && decide (0 < Q.length)), .slice A3 Q.length c3], .agg #[.bool (s && decide (0 < R.length)), .slice B3 R.length d3], .int .i64 0]) (by simp [results, Tryz.results40, go_sem, y1, y2, z1, z2]) rfl (IThree.mk E.out rfl rfl (sq.store4 Y.out.2.1 Y.out.2.2 (by omega) _ _ _ _) (sr.store4 Y.out.2.1 Y.out.2.2 (by omega) _ _ _ _) (Below.store2 (Below.store2 b4 (by omega) _ _) (by omega) _ _)))
            | (have hB := bl_trans hbr hbq
               have Y := hide (X.out.drew.next hB)
               obtain ⟨⟨x1, x2, x3, x4⟩, ⟨y1, y2, y3, y4⟩, z1, z2, z3, z4⟩ := Y.out.flat
               have sq := bl_keeps hB _ _ s3.drew
               have sr := bl_keeps hB _ _ t3.drew
               have b4 := bl_trans b3.drew hB
               clear hbq hbr hB X s3 t3
               go_wp2
               exact bodyPost_ret (v := .tuple #[.agg #[.bool (false && decide (0 < Q.length)), .slice A3 Q.length c3], .agg #[.bool (s && decide (0 < R.length)), .slice B3 R.length d3], .int .i64 0]) (by simp [results, Tryz.results40, go_sem, y1, y2, z1, z2]) rfl (IThree.mk E.out rfl rfl (sq.store4 Y.out.2.1 Y.out.2.2 (by omega) _ _ _ _) (sr.store4 Y.out.2.1 Y.out.2.2 (by omega) _ _ _ _) (Below.store2 (Below.store2 b4 (by omega) _ _) (by omega) _ _)))
        · cases s with
          | false => cases t with
            | false => exact absurd rfl hst
            | true =>
              have hne : (false != true) = true := rfl
              by_cases hr : 0 < val xs % val ys
              · obtain ⟨e1, e2⟩ := down_more (d := (false != true)) (m := val xs) (n := val ys) ⟨rfl, hr⟩
                rw [e1, e2, hne] at E0
                have E := hide E0
                have hyd := digs_val_norm ly (validB_iff.1 (validI_B hv2)).2
                have hle := Nat.le_of_lt (Nat.mod_lt (val xs) hnp)
                have hm1 : val xs / val ys + 1 < LB ^ 64 := by
                  have h2 : 2 ≤ val ys := by
                    rcases Nat.lt_or_ge (val ys) 2 with h2 | h2
                    · rw [show val ys = 1 by omega, Nat.mod_one] at hr; omega
                    · exact h2
                  have h3 : 0 < val xs := by
                    rcases Nat.eq_zero_or_pos (val xs) with h3 | h3
                    · rw [h3, Nat.zero_mod] at hr; omega
                    · exact h3
                  have := Nat.div_lt_self h3 h2
                  omega
                have hq65 : (digs (val xs / val ys + 1)).length ≤ 64 := length_digs_le.2 hm1
                have hr65 : (digs (val ys - val xs % val ys)).length ≤ 64 := length_digs_le.2 (by omega)
                have NX := hide (fun (A3 B3 : Option Addr) (c3 d3 : Nat) (W : World) (b : Below w.heap.size w W) (h1 : Sl W A3 (digs (val xs / val ys))) (h2 : Sl W B3 (digs (val xs % val ys))) => nextBelow_any A3 B3 B (digs (val xs / val ys)).length (digs (val xs % val ys)).length ys.length c3 d3 d (val xs / val ys) (val xs % val ys) (val ys) W rfl rfl (by rw [hyd]) h1 h2 (by rw [hyd]; exact bl_keeps b _ _ hy) (Nat.lt_of_le_of_lt (Nat.div_le_self _ _) hx64) (Nat.lt_of_le_of_lt hle hy64) hy64 hm1 hle)
                have hrl := digs_len_pos.2 hr
                clear ED E0 e1 e2 h0 hv hv2 hx hy lx ly hp hnp hx64 hy64 hst hr hyd hle hm1
                generalize digs (val xs / val ys) = Q0 at *
                generalize digs (val xs % val ys) = R0 at *
                generalize digs (val xs / val ys + 1) = Q at *
                generalize digs (val ys - val xs % val ys) = R at *
                have LQ := hide (show Q.length ≤ 9223372036854775807 by omega)
                have LR := hide (show R.length ≤ 9223372036854775807 by omega)
                generalize xs.length = n at *
                generalize ys.length = m at *
                go_enter Tryz.func40, Tryz.ntmps40
                go_wp2_with (first | (go_at_call 37; (with_reducible refine (V1.out _ b0).mono ?_); rintro e w1 ⟨rfl, hb⟩; have X := hide (X.out.next hb); obtain ⟨⟨x1, x2, x3, x4⟩, ⟨y1, y2, y3, y4⟩, z1, z2, z3, z4⟩ := X.out.flat; have b1 := bl_trans b0 hb; clear hb) | (go_at_call 37; (with_reducible refine (V2.out _ b1).mono ?_); rintro e w2 ⟨rfl, hb⟩; have X := hide (X.out.next hb); obtain ⟨⟨x1, x2, x3, x4⟩, ⟨y1, y2, y3, y4⟩, z1, z2, z3, z4⟩ := X.out.flat; have b2 := bl_trans b1 hb; clear hb) | (go_at_call 8; (with_reducible refine (D.out _ b2).mono ?_); rintro e w3 h; obtain ⟨A3, c3, B3, d3, rfl, s3, t3, hb⟩ := h.get; have X := hide (X.out.next hb); obtain ⟨⟨x1, x2, x3, x4⟩, ⟨y1, y2, y3, y4⟩, z1, z2, z3, z4⟩ := X.out.flat; have b3 := bl_trans b2 hb; clear h hb) | (go_at_call 71; (with_reducible refine (NX.out A3 B3 c3 d3 _ b3 s3 t3).mono ?_); rintro e w4 ⟨A4, c4, B4, d4, rfl, s3, t3, hb⟩; have X := hide (X.out.next hb); obtain ⟨⟨x1, x2, x3, x4⟩, ⟨y1, y2, y3, y4⟩, z1, z2, z3, z4⟩ := X.out.flat; have b3 := bl_trans b3 hb; clear hb))
                go_region_held3 (fun w' => w'.cell? ⟨w.heap.size, 0, none⟩ = some (.bool false) ∧ w'.cell? ⟨w.heap.size, 1, none⟩ = some (.slice A n c) ∧ w'.cell? ⟨w.heap.size + 1, 0, none⟩ = some (.bool true) ∧ w'.cell? ⟨w.heap.size + 1, 1, none⟩ = some (.slice B m d))
                  (first | exact ⟨x1, x2, x3, x4⟩ | exact S_store12 (by assumption) n2.out n2.out n1.out n1.out | exact S_store12 (by assumption) n4.out n4.out n3.out n3.out | exact S_next12 hbr (by assumption) | exact S_next12 hbq (by assumption) | go_keep)
                  (first
                    | (go_at_call 62; (with_reducible refine (signed_any _ A4 _ c4 _ LQ.out).mono ?_); rintro e w5 ⟨rfl, hbq⟩; (first | have Y5 := hide (Y6.out.next hbq) | have Y5 := hide (X.out.drew.next hbq)); obtain ⟨⟨x1, x2, x3, x4⟩, ⟨y1, y2, y3, y4⟩, z1, z2, z3, z4⟩ := Y5.out.flat)
                    | (go_at_call 62; (with_reducible refine (signed_any _ B4 _ d4 _ LR.out).mono ?_); rintro e w6 ⟨rfl, hbr⟩; (first | have Y6 := hide (Y5.out.next hbr) | have Y6 := hide (X.out.drew.next hbr)); obtain ⟨⟨x1, x2, x3, x4⟩, ⟨y1, y2, y3, y4⟩, z1, z2, z3, z4⟩ := Y6.out.flat))
                all_goals
                  first
                  | (have hB := bl_trans hbq hbr
                     have Y := hide (X.out.drew.next hB)
                     obtain ⟨⟨x1, x2, x3, x4⟩, ⟨y1, y2, y3, y4⟩, z1, z2, z3, z4⟩ := Y.out.flat
                     have sq := bl_keeps hB _ _ s3.drew
                     have sr := bl_keeps hB _ _ t3.drew
                     have b4 := bl_trans b3.drew hB
                     clear hbq hbr hB X s3 t3
                     go_wp2
                     exact bodyPost_ret (v := .tuple #[.agg #[.bool (true && decide (0 < Q.length)), .slice A4 Q.length c4], .agg #[.bool (true && decide (0 < R.length)), .slice B4 R.length d4], .int .i64 0]) (by simp [results, Tryz.results40, go_sem, y1, y2, z1, z2]) rfl (IThree.mk E.out rfl rfl (sq.store4 Y.out.2.1 Y.out.2.2 (by omega) _ _ _ _) (sr.store4 Y.out.2.1 Y.out.2.2 (by omega) _ _ _ _) (Below.store2 (Below.store2 b4 (by omega) _ _) (by omega) _ _)))
                  | (have hB := bl_trans hbr hbq
                     have Y := hide (X.out.drew.next hB)
                     obtain ⟨⟨x1, x2, x3, x4⟩, ⟨y1, y2, y3, y4⟩, z1, z2, z3, z4⟩ := Y.out.flat
                     have sq := bl_keeps hB _ _ s3.drew
                     have sr := bl_keeps hB _ _ t3.drew
                     have b4 := bl_trans b3.drew hB
                     clear hbq hbr hB X s3 t3
                     go_wp2
                     exact bodyPost_ret (v := .tuple #[.agg #[.bool (true && decide (0 < Q.length)), .slice A4 Q.length c4], .agg #[.bool (true && decide (0 < R.length)), .slice B4 R.length d4], .int .i64 0]) (by simp [results, Tryz.results40, go_sem, y1, y2, z1, z2]) rfl (IThree.mk E.out rfl rfl (sq.store4 Y.out.2.1 Y.out.2.2 (by omega) _ _ _ _) (sr.store4 Y.out.2.1 Y.out.2.2 (by omega) _ _ _ _) (Below.store2 (Below.store2 b4 (by omega) _ _) (by omega) _ _)))
              · obtain ⟨e1, e2⟩ := down_plain (d := (false != true)) (m := val xs) (n := val ys) (fun h => hr h.2)
                rw [e1, e2, hne] at E0
                have E := hide E0
                have hR : (digs (val xs % val ys)).length = 0 := by rw [show val xs % val ys = 0 by omega, digs_zero]; rfl
                clear ED E0 e1 e2 h0 hv hv2 hx hy lx ly hp hnp hx64 hy64 hst hr
                generalize digs (val xs / val ys) = Q at *
                generalize digs (val xs % val ys) = R at *
                have LQ := hide (show Q.length ≤ 9223372036854775807 by omega)
                have LR := hide (show R.length ≤ 9223372036854775807 by omega)
                generalize xs.length = n at *
                generalize ys.length = m at *
                obtain rfl : R = [] := List.eq_nil_of_length_eq_zero hR
                clear hR LR
                have LR := hide (show (0 : Nat) ≤ 9223372036854775807 by decide)
                go_enter Tryz.func40, Tryz.ntmps40
                go_wp2_with (first | (go_at_call 37; (with_reducible refine (V1.out _ b0).mono ?_); rintro e w1 ⟨rfl, hb⟩; have X := hide (X.out.next hb); obtain ⟨⟨x1, x2, x3, x4⟩, ⟨y1, y2, y3, y4⟩, z1, z2, z3, z4⟩ := X.out.flat; have b1 := bl_trans b0 hb; clear hb) | (go_at_call 37; (with_reducible refine (V2.out _ b1).mono ?_); rintro e w2 ⟨rfl, hb⟩; have X := hide (X.out.next hb); obtain ⟨⟨x1, x2, x3, x4⟩, ⟨y1, y2, y3, y4⟩, z1, z2, z3, z4⟩ := X.out.flat; have b2 := bl_trans b1 hb; clear hb) | (go_at_call 8; (with_reducible refine (D.out _ b2).mono ?_); rintro e w3 h; obtain ⟨A3, c3, B3, d3, rfl, s3, t3, hb⟩ := h.get; have X := hide (X.out.next hb); obtain ⟨⟨x1, x2, x3, x4⟩, ⟨y1, y2, y3, y4⟩, z1, z2, z3, z4⟩ := X.out.flat; have b3 := bl_trans b2 hb; clear h hb))
                go_region_held3 (fun w' => w'.cell? ⟨w.heap.size, 0, none⟩ = some (.bool false) ∧ w'.cell? ⟨w.heap.size, 1, none⟩ = some (.slice A n c) ∧ w'.cell? ⟨w.heap.size + 1, 0, none⟩ = some (.bool true) ∧ w'.cell? ⟨w.heap.size + 1, 1, none⟩ = some (.slice B m d))
                  (first | exact ⟨x1, x2, x3, x4⟩ | exact S_store12 (by assumption) n2.out n2.out n1.out n1.out | exact S_store12 (by assumption) n4.out n4.out n3.out n3.out | exact S_next12 hbr (by assumption) | exact S_next12 hbq (by assumption) | go_keep)
                  (first
                    | (go_at_call 62; (with_reducible refine (signed_any _ A3 _ c3 _ LQ.out).mono ?_); rintro e w5 ⟨rfl, hbq⟩; (first | have Y5 := hide (Y6.out.next hbq) | have Y5 := hide (X.out.drew.next hbq)); obtain ⟨⟨x1, x2, x3, x4⟩, ⟨y1, y2, y3, y4⟩, z1, z2, z3, z4⟩ := Y5.out.flat)
                    | (go_at_call 62; (with_reducible refine (signed_any _ B3 _ d3 _ LR.out).mono ?_); rintro e w6 ⟨rfl, hbr⟩; (first | have Y6 := hide (Y5.out.next hbr) | have Y6 := hide (X.out.drew.next hbr)); obtain ⟨⟨x1, x2, x3, x4⟩, ⟨y1, y2, y3, y4⟩, z1, z2, z3, z4⟩ := Y6.out.flat))
                all_goals
                  first
                  | (have hB := bl_trans hbq hbr
                     have Y := hide (X.out.drew.next hB)
                     obtain ⟨⟨x1, x2, x3, x4⟩, ⟨y1, y2, y3, y4⟩, z1, z2, z3, z4⟩ := Y.out.flat
                     have sq := bl_keeps hB _ _ s3.drew
                     have sr := bl_keeps hB _ _ t3.drew
                     have b4 := bl_trans b3.drew hB
                     clear hbq hbr hB X s3 t3
                     go_wp2
                     exact bodyPost_ret (v := .tuple #[.agg #[.bool (true && decide (0 < Q.length)), .slice A3 Q.length c3], .agg #[.bool (true && decide (0 < 0)), .slice B3 0 d3], .int .i64 0]) (by simp [results, Tryz.results40, go_sem, y1, y2, z1, z2]) rfl (IThree.mk E.out rfl rfl (sq.store4 Y.out.2.1 Y.out.2.2 (by omega) _ _ _ _) (sr.store4 Y.out.2.1 Y.out.2.2 (by omega) _ _ _ _) (Below.store2 (Below.store2 b4 (by omega) _ _) (by omega) _ _)))
                  | (have hB := bl_trans hbr hbq
                     have Y := hide (X.out.drew.next hB)
                     obtain ⟨⟨x1, x2, x3, x4⟩, ⟨y1, y2, y3, y4⟩, z1, z2, z3, z4⟩ := Y.out.flat
                     have sq := bl_keeps hB _ _ s3.drew
                     have sr := bl_keeps hB _ _ t3.drew
                     have b4 := bl_trans b3.drew hB
                     clear hbq hbr hB X s3 t3
                     go_wp2
                     exact bodyPost_ret (v := .tuple #[.agg #[.bool (true && decide (0 < Q.length)), .slice A3 Q.length c3], .agg #[.bool (true && decide (0 < 0)), .slice B3 0 d3], .int .i64 0]) (by simp [results, Tryz.results40, go_sem, y1, y2, z1, z2]) rfl (IThree.mk E.out rfl rfl (sq.store4 Y.out.2.1 Y.out.2.2 (by omega) _ _ _ _) (sr.store4 Y.out.2.1 Y.out.2.2 (by omega) _ _ _ _) (Below.store2 (Below.store2 b4 (by omega) _ _) (by omega) _ _)))
          | true => cases t with
            | true => exact absurd rfl hst
            | false =>
              have hne : (true != false) = true := rfl
              by_cases hr : 0 < val xs % val ys
              · obtain ⟨e1, e2⟩ := down_more (d := (true != false)) (m := val xs) (n := val ys) ⟨rfl, hr⟩
                rw [e1, e2, hne] at E0
                have E := hide E0
                have hyd := digs_val_norm ly (validB_iff.1 (validI_B hv2)).2
                have hle := Nat.le_of_lt (Nat.mod_lt (val xs) hnp)
                have hm1 : val xs / val ys + 1 < LB ^ 64 := by
                  have h2 : 2 ≤ val ys := by
                    rcases Nat.lt_or_ge (val ys) 2 with h2 | h2
                    · rw [show val ys = 1 by omega, Nat.mod_one] at hr; omega
                    · exact h2
                  have h3 : 0 < val xs := by
                    rcases Nat.eq_zero_or_pos (val xs) with h3 | h3
                    · rw [h3, Nat.zero_mod] at hr; omega
                    · exact h3
                  have := Nat.div_lt_self h3 h2
                  omega
                have hq65 : (digs (val xs / val ys + 1)).length ≤ 64 := length_digs_le.2 hm1
                have hr65 : (digs (val ys - val xs % val ys)).length ≤ 64 := length_digs_le.2 (by omega)
                have NX := hide (fun (A3 B3 : Option Addr) (c3 d3 : Nat) (W : World) (b : Below w.heap.size w W) (h1 : Sl W A3 (digs (val xs / val ys))) (h2 : Sl W B3 (digs (val xs % val ys))) => nextBelow_any A3 B3 B (digs (val xs / val ys)).length (digs (val xs % val ys)).length ys.length c3 d3 d (val xs / val ys) (val xs % val ys) (val ys) W rfl rfl (by rw [hyd]) h1 h2 (by rw [hyd]; exact bl_keeps b _ _ hy) (Nat.lt_of_le_of_lt (Nat.div_le_self _ _) hx64) (Nat.lt_of_le_of_lt hle hy64) hy64 hm1 hle)
                have hrl := digs_len_pos.2 hr
                clear ED E0 e1 e2 h0 hv hv2 hx hy lx ly hp hnp hx64 hy64 hst hr hyd hle hm1
                generalize digs (val xs / val ys) = Q0 at *
                generalize digs (val xs % val ys) = R0 at *
                generalize digs (val xs / val ys + 1) = Q at *
                generalize digs (val ys - val xs % val ys) = R at *
                have LQ := hide (show Q.length ≤ 9223372036854775807 by omega)
                have LR := hide (show R.length ≤ 9223372036854775807 by omega)
                generalize xs.length = n at *
                generalize ys.length = m at *
                go_enter Tryz.func40, Tryz.ntmps40
                go_wp2_with (first | (go_at_call 37; (with_reducible refine (V1.out _ b0).mono ?_); rintro e w1 ⟨rfl, hb⟩; have X := hide (X.out.next hb); obtain ⟨⟨x1, x2, x3, x4⟩, ⟨y1, y2, y3, y4⟩, z1, z2, z3, z4⟩ := X.out.flat; have b1 := bl_trans b0 hb; clear hb) | (go_at_call 37; (with_reducible refine (V2.out _ b1).mono ?_); rintro e w2 ⟨rfl, hb⟩; have X := hide (X.out.next hb); obtain ⟨⟨x1, x2, x3, x4⟩, ⟨y1, y2, y3, y4⟩, z1, z2, z3, z4⟩ := X.out.flat; have b2 := bl_trans b1 hb; clear hb) | (go_at_call 8; (with_reducible refine (D.out _ b2).mono ?_); rintro e w3 h; obtain ⟨A3, c3, B3, d3, rfl, s3, t3, hb⟩ := h.get; have X := hide (X.out.next hb); obtain ⟨⟨x1, x2, x3, x4⟩, ⟨y1, y2, y3, y4⟩, z1, z2, z3, z4⟩ := X.out.flat; have b3 := bl_trans b2 hb; clear h hb) | (go_at_call 71; (with_reducible refine (NX.out A3 B3 c3 d3 _ b3 s3 t3).mono ?_); rintro e w4 ⟨A4, c4, B4, d4, rfl, s3, t3, hb⟩; have X := hide (X.out.next hb); obtain ⟨⟨x1, x2, x3, x4⟩, ⟨y1, y2, y3, y4⟩, z1, z2, z3, z4⟩ := X.out.flat; have b3 := bl_trans b3 hb; clear hb))
                go_region_held3 (fun w' => w'.cell? ⟨w.heap.size, 0, none⟩ = some (.bool true) ∧ w'.cell? ⟨w.heap.size, 1, none⟩ = some (.slice A n c) ∧ w'.cell? ⟨w.heap.size + 1, 0, none⟩ = some (.bool false) ∧ w'.cell? ⟨w.heap.size + 1, 1, none⟩ = some (.slice B m d))
                  (first | exact ⟨x1, x2, x3, x4⟩ | exact S_store12 (by assumption) n2.out n2.out n1.out n1.out | exact S_store12 (by assumption) n4.out n4.out n3.out n3.out | exact S_next12 hbr (by assumption) | exact S_next12 hbq (by assumption) | go_keep)
                  (first
                    | (go_at_call 62; (with_reducible refine (signed_any _ A4 _ c4 _ LQ.out).mono ?_); rintro e w5 ⟨rfl, hbq⟩; (first | have Y5 := hide (Y6.out.next hbq) | have Y5 := hide (X.out.drew.next hbq)); obtain ⟨⟨x1, x2, x3, x4⟩, ⟨y1, y2, y3, y4⟩, z1, z2, z3, z4⟩ := Y5.out.flat)
                    | (go_at_call 62; (with_reducible refine (signed_any _ B4 _ d4 _ LR.out).mono ?_); rintro e w6 ⟨rfl, hbr⟩; (first | have Y6 := hide (Y5.out.next hbr) | have Y6 := hide (X.out.drew.next hbr)); obtain ⟨⟨x1, x2, x3, x4⟩, ⟨y1, y2, y3, y4⟩, z1, z2, z3, z4⟩ := Y6.out.flat))
                all_goals
                  first
                  | (have hB := bl_trans hbq hbr
                     have Y := hide (X.out.drew.next hB)
                     obtain ⟨⟨x1, x2, x3, x4⟩, ⟨y1, y2, y3, y4⟩, z1, z2, z3, z4⟩ := Y.out.flat
                     have sq := bl_keeps hB _ _ s3.drew
                     have sr := bl_keeps hB _ _ t3.drew
                     have b4 := bl_trans b3.drew hB
                     clear hbq hbr hB X s3 t3
                     go_wp2
                     exact bodyPost_ret (v := .tuple #[.agg #[.bool (true && decide (0 < Q.length)), .slice A4 Q.length c4], .agg #[.bool (false && decide (0 < R.length)), .slice B4 R.length d4], .int .i64 0]) (by simp [results, Tryz.results40, go_sem, y1, y2, z1, z2]) rfl (IThree.mk E.out rfl rfl (sq.store4 Y.out.2.1 Y.out.2.2 (by omega) _ _ _ _) (sr.store4 Y.out.2.1 Y.out.2.2 (by omega) _ _ _ _) (Below.store2 (Below.store2 b4 (by omega) _ _) (by omega) _ _)))
                  | (have hB := bl_trans hbr hbq
                     have Y := hide (X.out.drew.next hB)
                     obtain ⟨⟨x1, x2, x3, x4⟩, ⟨y1, y2, y3, y4⟩, z1, z2, z3, z4⟩ := Y.out.flat
                     have sq := bl_keeps hB _ _ s3.drew
                     have sr := bl_keeps hB _ _ t3.drew
                     have b4 := bl_trans b3.drew hB
                     clear hbq hbr hB X s3 t3
                     go_wp2
                     exact bodyPost_ret (v := .tuple #[.agg #[.bool (true && decide (0 < Q.length)), .slice A4 Q.length c4], .agg #[.bool (false && decide (0 < R.length)), .slice B4 R.length d4], .int .i64 0]) (by simp [results, Tryz.results40, go_sem, y1, y2, z1, z2]) rfl (IThree.mk E.out rfl rfl (sq.store4 Y.out.2.1 Y.out.2.2 (by omega) _ _ _ _) (sr.store4 Y.out.2.1 Y.out.2.2 (by omega) _ _ _ _) (Below.store2 (Below.store2 b4 (by omega) _ _) (by omega) _ _)))
              · obtain ⟨e1, e2⟩ := down_plain (d := (true != false)) (m := val xs) (n := val ys) (fun h => hr h.2)
                rw [e1, e2, hne] at E0
                have E := hide E0
                have hR : (digs (val xs % val ys)).length = 0 := by rw [show val xs % val ys = 0 by omega, digs_zero]; rfl
                clear ED E0 e1 e2 h0 hv hv2 hx hy lx ly hp hnp hx64 hy64 hst hr
                generalize digs (val xs / val ys) = Q at *
                generalize digs (val xs % val ys) = R at *
                have LQ := hide (show Q.length ≤ 9223372036854775807 by omega)
                have LR := hide (show R.length ≤ 9223372036854775807 by omega)
                generalize xs.length = n at *
                generalize ys.length = m at *
                obtain rfl : R = [] := List.eq_nil_of_length_eq_zero hR
                clear hR LR
                have LR := hide (show (0 : Nat) ≤ 9223372036854775807 by decide)
                go_enter Tryz.func40, Tryz.ntmps40
                go_wp2_with (first | (go_at_call 37; (with_reducible refine (V1.out _ b0).mono ?_); rintro e w1 ⟨rfl, hb⟩; have X := hide (X.out.next hb); obtain ⟨⟨x1, x2, x3, x4⟩, ⟨y1, y2, y3, y4⟩, z1, z2, z3, z4⟩ := X.out.flat; have b1 := bl_trans b0 hb; clear hb) | (go_at_call 37; (with_reducible refine (V2.out _ b1).mono ?_); rintro e w2 ⟨rfl, hb⟩; have X := hide (X.out.next hb); obtain ⟨⟨x1, x2, x3, x4⟩, ⟨y1, y2, y3, y4⟩, z1, z2, z3, z4⟩ := X.out.flat; have b2 := bl_trans b1 hb; clear hb) | (go_at_call 8; (with_reducible refine (D.out _ b2).mono ?_); rintro e w3 h; obtain ⟨A3, c3, B3, d3, rfl, s3, t3, hb⟩ := h.get; have X := hide (X.out.next hb); obtain ⟨⟨x1, x2, x3, x4⟩, ⟨y1, y2, y3, y4⟩, z1, z2, z3, z4⟩ := X.out.flat; have b3 := bl_trans b2 hb; clear h hb))
                go_region_held3 (fun w' => w'.cell? ⟨w.heap.size, 0, none⟩ = some (.bool true) ∧ w'.cell? ⟨w.heap.size, 1, none⟩ = some (.slice A n c) ∧ w'.cell? ⟨w.heap.size + 1, 0, none⟩ = some (.bool false) ∧ w'.cell? ⟨w.heap.size + 1, 1, none⟩ = some (.slice B m d))
                  (first | exact ⟨x1, x2, x3, x4⟩ | exact S_store12 (by assumption) n2.out n2.out n1.out n1.out | exact S_store12 (by assumption) n4.out n4.out n3.out n3.out | exact S_next12 hbr (by assumption) | exact S_next12 hbq (by assumption) | go_keep)
                  (first
                    | (go_at_call 62; (with_reducible refine (signed_any _ A3 _ c3 _ LQ.out).mono ?_); rintro e w5 ⟨rfl, hbq⟩; (first | have Y5 := hide (Y6.out.next hbq) | have Y5 := hide (X.out.drew.next hbq)); obtain ⟨⟨x1, x2, x3, x4⟩, ⟨y1, y2, y3, y4⟩, z1, z2, z3, z4⟩ := Y5.out.flat)
                    | (go_at_call 62; (with_reducible refine (signed_any _ B3 _ d3 _ LR.out).mono ?_); rintro e w6 ⟨rfl, hbr⟩; (first | have Y6 := hide (Y5.out.next hbr) | have Y6 := hide (X.out.drew.next hbr)); obtain ⟨⟨x1, x2, x3, x4⟩, ⟨y1, y2, y3, y4⟩, z1, z2, z3, z4⟩ := Y6.out.flat))
                all_goals
                  first
                  | (have hB := bl_trans hbq hbr
                     have Y := hide (X.out.drew.next hB)
                     obtain ⟨⟨x1, x2, x3, x4⟩, ⟨y1, y2, y3, y4⟩, z1, z2, z3, z4⟩ := Y.out.flat
                     have sq := bl_keeps hB _ _ s3.drew
                     have sr := bl_keeps hB _ _ t3.drew
                     have b4 := bl_trans b3.drew hB
                     clear hbq hbr hB X s3 t3
                     go_wp2
                     exact bodyPost_ret (v := .tuple #[.agg #[.bool (true && decide (0 < Q.length)), .slice A3 Q.length c3], .agg #[.bool (false && decide (0 < 0)), .slice B3 0 d3], .int .i64 0]) (by simp [results, Tryz.results40, go_sem, y1, y2, z1, z2]) rfl (IThree.mk E.out rfl rfl (sq.store4 Y.out.2.1 Y.out.2.2 (by omega) _ _ _ _) (sr.store4 Y.out.2.1 Y.out.2.2 (by omega) _ _ _ _) (Below.store2 (Below.store2 b4 (by omega) _ _) (by omega) _ _)))
                  | (have hB := bl_trans hbr hbq
                     have Y := hide (X.out.drew.next hB)
                     obtain ⟨⟨x1, x2, x3, x4⟩, ⟨y1, y2, y3, y4⟩, z1, z2, z3, z4⟩ := Y.out.flat
                     have sq := bl_keeps hB _ _ s3.drew
                     have sr := bl_keeps hB _ _ t3.drew
                     have b4 := bl_trans b3.drew hB
                     clear hbq hbr hB X s3 t3
                     go_wp2
                     exact bodyPost_ret (v := .tuple #[.agg #[.bool (true && decide (0 < Q.length)), .slice A3 Q.length c3], .agg #[.bool (false && decide (0 < 0)), .slice B3 0 d3], .int .i64 0]) (by simp [results, Tryz.results40, go_sem, y1, y2, z1, z2]) rfl (IThree.mk E.out rfl rfl (sq.store4 Y.out.2.1 Y.out.2.2 (by omega) _ _ _ _) (sr.store4 Y.out.2.1 Y.out.2.2 (by omega) _ _ _ _) (Below.store2 (Below.store2 b4 (by omega) _ _) (by omega) _ _)))
end Nt

end Go.Proofs.YtgmjdaallinicaaGreatDoor

namespace Go.Proofs.YtgmjdaallinicaaGreatDoor

open Go.RowKit

namespace Nt

/-- A whole number's cells. -/
def Ic (g : Nat) (s : Bool) (A : Option Addr) (n c : Nat) (w : World) : Prop := w.cell? ⟨g, 0, none⟩ = some (.bool s) ∧ w.cell? ⟨g, 1, none⟩ = some (.slice A n c)
theorem Ic.next {g : Nat} {s : Bool} {A : Option Addr} {n c : Nat} {w w' : World} (x : Ic g s A n c w) (hb : Below w.heap.size w w') : Ic g s A n c w' := ⟨cell_next hb x.1, cell_next hb x.2⟩
theorem Ic.new (s : Bool) (A : Option Addr) (n c : Nat) (w : World) : Ic w.heap.size s A n c (w.alloc (.cells #[.bool s, .slice A n c] 41)) := ⟨cell_new _ _ _ 0, cell_new _ _ _ 1⟩
theorem Ic.al {g : Nat} {s : Bool} {A : Option Addr} {n c : Nat} {w : World} (x : Ic g s A n c w) (y : Obj) : Ic g s A n c (w.alloc y) := x.next (bl_al (.refl _ _) y)
theorem Ic.new2 (s : Bool) (A : Option Addr) (n c : Nat) (w : World) (y : Obj) : Ic (w.heap.size + 1) s A n c ((w.alloc y).alloc (.cells #[.bool s, .slice A n c] 41)) := by
  have := Ic.new s A n c (w.alloc y)
  rwa [size1] at this

theorem of_at (z : Int) (s : Bool) (xs : List Nat) (n : Nat) (w : World) (h : mkI z = (s, xs)) (hn : xs.length = n) (h1 : -9223372036854775808 ≤ z) (h2 : z ≤ 9223372036854775807) :
    Calls Tryz.prog 39 #[.int .i64 z] w fun e w' => ∃ A c, e = .returned (.agg #[.bool s, .slice A n c]) ∧ Sl w' A xs ∧ Below w.heap.size w w' := by
  subst hn
  have := ofI_any z w h1 h2
  rw [h] at this
  exact this
theorem mkI_neg (n : Nat) (h0 : 0 < n) (h : n < 18446744073709551616) (z : Int) (hz : z = -(n : Int)) : mkI z = (true, [n]) := by
  subst hz
  unfold mkI
  rw [idg_one (by omega) (by rw [LB_eq]; omega), Int.natAbs_neg, Int.natAbs_natCast]
  unfold isg
  rw [decide_eq_true (by omega)]
theorem mkI_pos (n : Nat) (h0 : 0 < n) (h : n < 18446744073709551616) (z : Int) (hz : z = (n : Int)) : mkI z = (false, [n]) := by
  subst hz
  unfold mkI
  rw [idg_one (by omega) (by rw [LB_eq]; omega), Int.natAbs_natCast]
  unfold isg
  rw [decide_eq_false (by omega)]
theorem mkI_0 : mkI 0 = (false, []) := by unfold mkI isg idg; rw [show (0 : Int).natAbs = 0 from rfl, digs_zero]; rfl
theorem validI_1 (s : Bool) {x : Nat} (h : x ≠ 0) : validI s [x] = true := validI_iff.2 ⟨valid1 h, fun _ => Nat.zero_lt_one⟩
theorem div_l1 : divISp true [7] false [2] = ((true, [4]), (false, [1]), 0) := by
  have e1 : downQ (true != false) (val [7]) (val [2]) = 4 := by rw [val_one, val_one]; decide
  have e2 : downR (true != false) (val [7]) (val [2]) = 1 := by rw [val_one, val_one]; decide
  rw [divI_ok ⟨validI_1 _ (by decide), validI_1 _ (by decide), Nat.zero_lt_one⟩, e1, e2, digs1 (by decide) (by decide), digs1 (by decide) (by decide)]
  rfl
theorem div_l2 : divISp false [1] false [] = ((false, []), (false, []), 1) := divI_no (by rintro ⟨_, _, h⟩; exact absurd h (by decide))
theorem parse_l : parseISp [45, 48] = (false, [], 0) := by
  have h1 : cutD [45, 48] = [48] := by decide
  have h2 : parseSp [48] = ([], 0) := by
    unfold parseSp
    have hd : digitsB [48] = true := by decide
    have hv : decV [48] = 0 := by decide
    rw [hd, hv, if_pos rfl, if_pos (LB_pow_pos 64), digs_zero]
  unfold parseISp
  rw [h1, h2]
  simp
theorem value_l1 : valSp true [9223372036854775808] = (-9223372036854775808, true) := by
  have e : ival true [9223372036854775808] = -9223372036854775808 := by unfold ival; rw [val_one]; rfl
  rw [valSp_is (validI_1 _ (by decide)) (by rw [e]; decide) (by rw [e]; decide), e]
theorem value_l2 : valSp false [9223372036854775808] = (0, false) := by
  have e : ival false [9223372036854775808] = 9223372036854775808 := by unfold ival; rw [val_one]; rfl
  exact valSp_far (by rw [e]; decide)
theorem add_l : addISp false [4611686018427387904] false [4611686018427387904] = (false, [9223372036854775808], 0) := by
  have ha : addSp [4611686018427387904] [4611686018427387904] = ([9223372036854775808], 0) := by
    rw [addSp_ok (valid1 (by decide)) (valid1 (by decide)), val_one, show 4611686018427387904 + 4611686018427387904 = 9223372036854775808 by decide, digs1 (by decide) (by decide), if_pos (by decide)]
  rw [addI_one (validI_1 _ (by decide)) (validI_1 _ (by decide)), ha]
  rfl
theorem neg_l : negISp false [9223372036854775808] = (true, [9223372036854775808]) := by rw [negI_eq (limbs1 (by decide)) (validI_1 _ (by decide))]; rfl
theorem sign_l : sgnISp true [9223372036854775808] = -1 := by unfold sgnISp cmpZ; rw [validI_1 _ (by decide), if_pos rfl]; unfold ival; rw [val_one]; decide
theorem cmp_l : cmpISp true [3] false [2] = -1 := cmpI_np (limbs1 (by decide)) (validI_1 _ (by decide)) (validI_1 _ (by decide))
theorem text_l : textISp false [9223372036854775808] = [57, 50, 50, 51, 51, 55, 50, 48, 51, 54, 56, 53, 52, 55, 55, 53, 56, 48, 56] := by
  unfold textISp textSp
  rw [validI_1 _ (by decide), if_pos rfl, valid1 (by decide), val_one]
  simp [Lib.decDigits]
theorem valid_l : validI true [] = false := by decide

theorem ITwo.getn {w : World} {s : Bool} {xs : List Nat} {n k : Nat} {e : Ending} {w' : World} {r : Bool × List Nat × Nat} (h : ITwo w r e w') (hr : r = (s, xs, k)) (hn : xs.length = n) : ∃ A c, e = .returned (.tuple #[.agg #[.bool s, .slice A n c], .int .i64 (k : Int)]) ∧ Sl w' A xs ∧ Below w.heap.size w w' := by
  subst hr; subst hn; exact h
theorem IOne.getn {w : World} {s : Bool} {xs : List Nat} {n : Nat} {e : Ending} {w' : World} {r : Bool × List Nat} (h : IOne w r e w') (hr : r = (s, xs)) (hn : xs.length = n) : ∃ A c, e = .returned (.agg #[.bool s, .slice A n c]) ∧ Sl w' A xs ∧ Below w.heap.size w w' := by
  subst hr; subst hn; exact h
theorem IThree.getn {w : World} {s t : Bool} {xs ys : List Nat} {n m k : Nat} {e : Ending} {w' : World} {r : (Bool × List Nat) × (Bool × List Nat) × Nat} (h : IThree w r e w') (hr : r = ((s, xs), (t, ys), k)) (hn : xs.length = n) (hm : ys.length = m) :
    ∃ A c B d, e = .returned (.tuple #[.agg #[.bool s, .slice A n c], .agg #[.bool t, .slice B m d], .int .i64 (k : Int)]) ∧ Sl w' A xs ∧ Sl w' B ys ∧ Below w.heap.size w w' := by
  subst hr; subst hn; subst hm; exact h
theorem aw_div1 (A B : Option Addr) (c d : Nat) (w : World) (hx : Sl w A [7]) (hy : Sl w B [2]) : Calls Tryz.prog 40 #[.agg #[.bool true, .slice A 1 c], .agg #[.bool false, .slice B 1 d]] w fun e w' => ∃ A c B d, e = .returned (.tuple #[.agg #[.bool true, .slice A 1 c], .agg #[.bool false, .slice B 1 d], .int .i64 0]) ∧ Sl w' A [4] ∧ Sl w' B [1] ∧ Below w.heap.size w w' :=
  (divI_any true false A B c d [7] [2] w hx hy (limbs1 (by decide)) (limbs1 (by decide)) (by decide) (by decide)).mono fun _ _ h => h.getn div_l1 rfl rfl
theorem aw_div2 (A B : Option Addr) (c d : Nat) (w : World) (hx : Sl w A [1]) (hy : Sl w B []) : Calls Tryz.prog 40 #[.agg #[.bool false, .slice A 1 c], .agg #[.bool false, .slice B 0 d]] w fun e w' => ∃ A c B d, e = .returned (.tuple #[.agg #[.bool false, .slice A 0 c], .agg #[.bool false, .slice B 0 d], .int .i64 1]) ∧ Sl w' A [] ∧ Sl w' B [] ∧ Below w.heap.size w w' :=
  (divI_any false false A B c d [1] [] w hx hy (limbs1 (by decide)) .nil (by decide) (by decide)).mono fun _ _ h => h.getn div_l2 rfl rfl
theorem aw_parse (w : World) : Calls Tryz.prog 41 #[.string { data := #[45, 48] }] w fun e w' => ∃ A c, e = .returned (.tuple #[.agg #[.bool false, .slice A 0 c], .int .i64 0]) ∧ Sl w' A [] ∧ Below w.heap.size w w' :=
  (parseI_any { data := #[45, 48] } w (by decide)).mono fun _ _ h => h.getn parse_l rfl
theorem aw_value1 (A : Option Addr) (c : Nat) (w : World) (hx : Sl w A [9223372036854775808]) : Calls Tryz.prog 28 #[.agg #[.bool true, .slice A 1 c]] w fun e w' => e = .returned (.tuple #[.int .i64 (-9223372036854775808), .bool true]) ∧ Below w.heap.size w w' := by
  have := valueI_any true A c [9223372036854775808] w hx (limbs1 (by decide)) (by decide)
  rw [value_l1] at this
  exact this
theorem aw_value2 (A : Option Addr) (c : Nat) (w : World) (hx : Sl w A [9223372036854775808]) : Calls Tryz.prog 28 #[.agg #[.bool false, .slice A 1 c]] w fun e w' => e = .returned (.tuple #[.int .i64 0, .bool false]) ∧ Below w.heap.size w w' := by
  have := valueI_any false A c [9223372036854775808] w hx (limbs1 (by decide)) (by decide)
  rw [value_l2] at this
  exact this
theorem aw_add (A B : Option Addr) (c d : Nat) (w : World) (hx : Sl w A [4611686018427387904]) (hy : Sl w B [4611686018427387904]) : Calls Tryz.prog 22 #[.agg #[.bool false, .slice A 1 c], .agg #[.bool false, .slice B 1 d]] w fun e w' => ∃ A c, e = .returned (.tuple #[.agg #[.bool false, .slice A 1 c], .int .i64 0]) ∧ Sl w' A [9223372036854775808] ∧ Below w.heap.size w w' :=
  (addI_any false false A B c d [4611686018427387904] [4611686018427387904] w hx hy (limbs1 (by decide)) (limbs1 (by decide)) (by decide) (by decide)).mono fun _ _ h => h.getn add_l rfl
theorem aw_neg (A : Option Addr) (c : Nat) (w : World) (hx : Sl w A [9223372036854775808]) : Calls Tryz.prog 35 #[.agg #[.bool false, .slice A 1 c]] w fun e w' => ∃ A c, e = .returned (.agg #[.bool true, .slice A 1 c]) ∧ Sl w' A [9223372036854775808] ∧ Below w.heap.size w w' :=
  (negI_any false A c [9223372036854775808] w hx (limbs1 (by decide)) (by decide)).mono fun _ _ h => h.getn neg_l rfl
theorem aw_sign (A : Option Addr) (c : Nat) (w : World) (hx : Sl w A [9223372036854775808]) : Calls Tryz.prog 34 #[.agg #[.bool true, .slice A 1 c]] w fun e w' => e = .returned (.int .i64 (-1)) ∧ Below w.heap.size w w' := by
  have := signI_any true A c [9223372036854775808] w hx (limbs1 (by decide)) (by decide)
  rw [sign_l] at this
  exact this
theorem aw_text (A : Option Addr) (c : Nat) (w : World) (hx : Sl w A [9223372036854775808]) (ht : Pow10 w) : Calls Tryz.prog 42 #[.agg #[.bool false, .slice A 1 c]] w fun e w' => e = .returned (.string { data := #[57, 50, 50, 51, 51, 55, 50, 48, 51, 54, 56, 53, 52, 55, 55, 53, 56, 48, 56] }) ∧ Below w.heap.size w w' := by
  have := textI_any false A c [9223372036854775808] w hx (limbs1 (by decide)) (by decide) ht
  rw [text_l] at this
  exact this
theorem aw_cmp (A B : Option Addr) (c d : Nat) (w : World) (hx : Sl w A [3]) (hy : Sl w B [2]) : Calls Tryz.prog 32 #[.agg #[.bool true, .slice A 1 c], .agg #[.bool false, .slice B 1 d]] w fun e w' => e = .returned (.int .i64 (-1)) ∧ Below w.heap.size w w' := by
  have := cmpI_any true false A B c d [3] [2] w hx hy (limbs1 (by decide)) (limbs1 (by decide)) (by decide) (by decide)
  rw [cmp_l] at this
  exact this
theorem aw_valid (w : World) : Calls Tryz.prog 37 #[.agg #[.bool true, .slice none 0 0]] w fun e w' => e = .returned (.bool false) ∧ Below w.heap.size w w' := by
  have := validI_any true none 0 [] w .nil (by decide)
  rw [valid_l] at this
  exact this
/-- What stays to the end. -/
def Kz (w : World) (A3 B3 A7 A12 : Option Addr) (W : World) : Prop := Below w.heap.size w W ∧ Sl W A3 [4] ∧ Sl W B3 [1] ∧ Sl W A7 [] ∧ Sl W A12 [9223372036854775808]
theorem Kz.drew {w : World} {A3 B3 A7 A12 : Option Addr} {W : World} (k : Kz w A3 B3 A7 A12 W) : Kz w A3 B3 A7 A12 W.drew := ⟨k.1.drew, k.2⟩
theorem Kz.next {w : World} {A3 B3 A7 A12 : Option Addr} {W W' : World} (k : Kz w A3 B3 A7 A12 W) (hb : Below W.heap.size W W') : Kz w A3 B3 A7 A12 W' := ⟨bl_trans k.1 hb, bl_keeps hb _ _ k.2.1, bl_keeps hb _ _ k.2.2.1, bl_keeps hb _ _ k.2.2.2.1, bl_keeps hb _ _ k.2.2.2.2⟩
theorem S8_next {w w' : World} (hb : Below w.heap.size w w') {p1 p2 p3 p4 p5 p6 p7 p8 : Addr} {v1 v2 v3 v4 v5 v6 v7 v8 : Value} {w0 : World} {A3 B3 A7 A12 : Option Addr}
    (h : w.cell? p1 = some v1 ∧ w.cell? p2 = some v2 ∧ w.cell? p3 = some v3 ∧ w.cell? p4 = some v4 ∧ w.cell? p5 = some v5 ∧ w.cell? p6 = some v6 ∧ w.cell? p7 = some v7 ∧ w.cell? p8 = some v8 ∧ Kz w0 A3 B3 A7 A12 w) :
    w'.cell? p1 = some v1 ∧ w'.cell? p2 = some v2 ∧ w'.cell? p3 = some v3 ∧ w'.cell? p4 = some v4 ∧ w'.cell? p5 = some v5 ∧ w'.cell? p6 = some v6 ∧ w'.cell? p7 = some v7 ∧ w'.cell? p8 = some v8 ∧ Kz w0 A3 B3 A7 A12 w' := by
  obtain ⟨h1, h2, h3, h4, h5, h6, h7, h8, h9⟩ := h
  exact ⟨cell_next hb h1, cell_next hb h2, cell_next hb h3, cell_next hb h4, cell_next hb h5, cell_next hb h6, cell_next hb h7, cell_next hb h8, h9.next hb⟩
theorem kz_of {c1 c2 c3 c4 c5 c6 c7 c8 k : Prop} (h : c1 ∧ c2 ∧ c3 ∧ c4 ∧ c5 ∧ c6 ∧ c7 ∧ c8 ∧ k) : k := h.2.2.2.2.2.2.2.2

theorem Kz.q0 {w : World} {A3 B3 A7 A12 : Option Addr} {W : World} (k : Kz w A3 B3 A7 A12 W) : Below w.heap.size w W := k.1
theorem Kz.q1 {w : World} {A3 B3 A7 A12 : Option Addr} {W : World} (k : Kz w A3 B3 A7 A12 W) : Sl W A3 [4] := k.2.1
theorem Kz.q2 {w : World} {A3 B3 A7 A12 : Option Addr} {W : World} (k : Kz w A3 B3 A7 A12 W) : Sl W B3 [1] := k.2.2.1
theorem Kz.q3 {w : World} {A3 B3 A7 A12 : Option Addr} {W : World} (k : Kz w A3 B3 A7 A12 W) : Sl W A7 [] := k.2.2.2.1
theorem Kz.q4 {w : World} {A3 B3 A7 A12 : Option Addr} {W : World} (k : Kz w A3 B3 A7 A12 W) : Sl W A12 [9223372036854775808] := k.2.2.2.2

set_option maxRecDepth 100000 in
set_option maxHeartbeats 4000000 in
theorem awake2_any (w : World) (ht : Pow10 w) :
    Calls Tryz.prog 21 #[] w fun e w' => e = .returned (.bool true) ∧ Below w.heap.size w w' := by
  go_enter Tryz.func21, Tryz.ntmps21
  go_wp2_with (first
    | (go_at_call 39; (with_reducible refine (of_at (-7) true [7] 1 _ (mkI_neg 7 (by decide) (by decide) _ rfl) rfl (by decide) (by decide)).mono ?_); rintro e w1 ⟨A1, c1, rfl, s1, hb⟩; have g := hb; have b1 := g; clear hb g)
    | (go_at_call 39; (with_reducible refine (of_at (2) false [2] 1 _ (mkI_pos 2 (by decide) (by decide) _ rfl) rfl (by decide) (by decide)).mono ?_); rintro e w2 ⟨A2, c2, rfl, s2, hb⟩; have g := hb; have s1 := bl_keeps g _ _ s1; have b2 := bl_trans b1 g; clear hb g)
    | (go_at_call 40; (with_reducible refine (aw_div1 A1 A2 _ _ _ s1 s2).mono ?_); rintro e w3 ⟨A3, c3, B3, d3, rfl, s3, t3, hb⟩; have g := hb; have s1 := bl_keeps g _ _ s1; have s2 := bl_keeps g _ _ s2; have b3 := bl_trans b2 g; clear hb g)
    | (go_at_call 39; (with_reducible refine (of_at (1) false [1] 1 _ (mkI_pos 1 (by decide) (by decide) _ rfl) rfl (by decide) (by decide)).mono ?_); rintro e w4 ⟨A4, c4, rfl, s4, hb⟩; have g := (bl_two hb); have q1 := hide (((Ic.new true A3 1 c3 w3).al _).next hb); have q2 := hide ((Ic.new2 false B3 1 d3 w3 _).next hb); have s3 := bl_keeps g _ _ s3; have t3 := bl_keeps g _ _ t3; have b4 := bl_trans b3 g; clear hb g)
    | (go_at_call 39; (with_reducible refine (of_at (0) false [] 0 _ (mkI_0) rfl (by decide) (by decide)).mono ?_); rintro e w5 ⟨A5, c5, rfl, s5, hb⟩; have g := hb; have s3 := bl_keeps g _ _ s3; have t3 := bl_keeps g _ _ t3; have s4 := bl_keeps g _ _ s4; have q1 := hide (q1.out.next g); have q2 := hide (q2.out.next g); have b5 := bl_trans b4 g; clear hb g)
    | (go_at_call 40; (with_reducible refine (aw_div2 A4 A5 _ _ _ s4 s5).mono ?_); rintro e w6 ⟨A6, c6, B6, d6, rfl, s6, t6, hb⟩; have g := hb; have s3 := bl_keeps g _ _ s3; have t3 := bl_keeps g _ _ t3; have s4 := bl_keeps g _ _ s4; have s5 := bl_keeps g _ _ s5; have q1 := hide (q1.out.next g); have q2 := hide (q2.out.next g); have b6 := bl_trans b5 g; clear hb g)
    | (go_at_call 41; (with_reducible refine (aw_parse _).mono ?_); rintro e w7 ⟨A7, c7, rfl, s7, hb⟩; have g := (bl_two hb); have s3 := bl_keeps g _ _ s3; have t3 := bl_keeps g _ _ t3; have q1 := hide (q1.out.next g); have q2 := hide (q2.out.next g); have b7 := bl_trans b6 g; clear hb g)
    | (go_at_call 39; (with_reducible refine (of_at (-9223372036854775808) true [9223372036854775808] 1 _ (mkI_neg 9223372036854775808 (by decide) (by decide) _ rfl) rfl (by decide) (by decide)).mono ?_); rintro e w8 ⟨A8, c8, rfl, s8, hb⟩; have g := (bl_one hb); have q3 := hide ((Ic.new false A7 0 c7 w7).next hb); have s3 := bl_keeps g _ _ s3; have t3 := bl_keeps g _ _ t3; have s7 := bl_keeps g _ _ s7; have q1 := hide (q1.out.next g); have q2 := hide (q2.out.next g); have b8 := bl_trans b7 g; clear hb g)
    | (go_at_call 28; (with_reducible refine (aw_value1 A8 _ _ s8).mono ?_); rintro e w9 ⟨rfl, hb⟩; have g := hb; have s3 := bl_keeps g _ _ s3; have t3 := bl_keeps g _ _ t3; have s7 := bl_keeps g _ _ s7; have s8 := bl_keeps g _ _ s8; have q1 := hide (q1.out.next g); have q2 := hide (q2.out.next g); have q3 := hide (q3.out.next g); have b9 := bl_trans b8 g; clear hb g)
    | (go_at_call 39; (with_reducible refine (of_at (4611686018427387904) false [4611686018427387904] 1 _ (mkI_pos 4611686018427387904 (by decide) (by decide) _ rfl) rfl (by decide) (by decide)).mono ?_); rintro e w10 ⟨A10, c10, rfl, s10, hb⟩; have g := hb; have s3 := bl_keeps g _ _ s3; have t3 := bl_keeps g _ _ t3; have s7 := bl_keeps g _ _ s7; have q1 := hide (q1.out.next g); have q2 := hide (q2.out.next g); have q3 := hide (q3.out.next g); have b10 := bl_trans b9 g; clear hb g)
    | (go_at_call 39; (with_reducible refine (of_at (4611686018427387904) false [4611686018427387904] 1 _ (mkI_pos 4611686018427387904 (by decide) (by decide) _ rfl) rfl (by decide) (by decide)).mono ?_); rintro e w11 ⟨A11, c11, rfl, s11, hb⟩; have g := hb; have s3 := bl_keeps g _ _ s3; have t3 := bl_keeps g _ _ t3; have s7 := bl_keeps g _ _ s7; have s10 := bl_keeps g _ _ s10; have q1 := hide (q1.out.next g); have q2 := hide (q2.out.next g); have q3 := hide (q3.out.next g); have b11 := bl_trans b10 g; clear hb g)
    | (go_at_call 22; (with_reducible refine (aw_add A10 A11 _ _ _ s10 s11).mono ?_); rintro e w12 ⟨A12, c12, rfl, s12, hb⟩; have g := hb; have s3 := bl_keeps g _ _ s3; have t3 := bl_keeps g _ _ t3; have s7 := bl_keeps g _ _ s7; have s10 := bl_keeps g _ _ s10; have s11 := bl_keeps g _ _ s11; have q1 := hide (q1.out.next g); have q2 := hide (q2.out.next g); have q3 := hide (q3.out.next g); have b12 := bl_trans b11 g; clear hb g)
    | (go_at_call 28; (with_reducible refine (aw_value2 A12 _ _ (s12.alloc _)).mono ?_); rintro e w13 ⟨rfl, hb⟩; have g := (bl_one hb); have q4 := hide ((Ic.new false A12 1 c12 w12).next hb); have s3 := bl_keeps g _ _ s3; have t3 := bl_keeps g _ _ t3; have s7 := bl_keeps g _ _ s7; have s12 := bl_keeps g _ _ s12; have q1 := hide (q1.out.next g); have q2 := hide (q2.out.next g); have q3 := hide (q3.out.next g); have b13 := bl_trans b12 g; clear hb g))
  have kz := hide (show Kz w A3 B3 A7 A12 w13 from ⟨b13, s3, t3, s7, s12⟩)
  obtain ⟨x1, x2⟩ := q1.out
  obtain ⟨x3, x4⟩ := q2.out
  obtain ⟨x5, x6⟩ := q3.out
  obtain ⟨x7, x8⟩ := q4.out
  clear q1 q2 q3 q4 s3 t3 s7 s12 b1 b2 b3 b4 b5 b6 b7 b8 b9 b10 b11 b12 b13
  go_region_held3 (fun W => W.cell? ⟨w3.heap.size, 0, none⟩ = some (.bool true) ∧ W.cell? ⟨w3.heap.size, 1, none⟩ = some (.slice A3 1 c3) ∧ W.cell? ⟨w3.heap.size + 1, 0, none⟩ = some (.bool false) ∧ W.cell? ⟨w3.heap.size + 1, 1, none⟩ = some (.slice B3 1 d3) ∧ W.cell? ⟨w7.heap.size, 0, none⟩ = some (.bool false) ∧ W.cell? ⟨w7.heap.size, 1, none⟩ = some (.slice A7 0 c7) ∧ W.cell? ⟨w12.heap.size, 0, none⟩ = some (.bool false) ∧ W.cell? ⟨w12.heap.size, 1, none⟩ = some (.slice A12 1 c12) ∧ Kz w A3 B3 A7 A12 W)
    (first | exact ⟨x1, x2, x3, x4, x5, x6, x7, x8, kz.out.drew⟩ | exact ⟨x1, x2, x3, x4, x5, x6, x7, x8, kz.out⟩ | exact S8_next hb (by assumption) | assumption)
    (first
      | (go_at_call 39; (with_reducible refine (of_at (-4) true [4] 1 _ (mkI_neg 4 (by decide) (by decide) _ rfl) rfl (by decide) (by decide)).mono ?_); rintro e v21 ⟨A21, c21, rfl, s21, hb⟩)
      | (go_at_call 31; (with_reducible refine (same2_t true true A3 A21 _ _ 1 1 [4] [4] _ rfl rfl (Kz.q1 (kz_of (by assumption))) s21 (by decide) (by decide) rfl rfl).mono ?_); rintro e v22 ⟨rfl, hb⟩)
      | (go_at_call 39; (with_reducible refine (of_at (1) false [1] 1 _ (mkI_pos 1 (by decide) (by decide) _ rfl) rfl (by decide) (by decide)).mono ?_); rintro e v23 ⟨A23, c23, rfl, s23, hb⟩)
      | (go_at_call 31; (with_reducible refine (same2_t false false B3 A23 _ _ 1 1 [1] [1] _ rfl rfl (Kz.q2 (kz_of (by assumption))) s23 (by decide) (by decide) rfl rfl).mono ?_); rintro e v24 ⟨rfl, hb⟩)
      | (go_at_call 39; (with_reducible refine (of_at (0) false [] 0 _ (mkI_0) rfl (by decide) (by decide)).mono ?_); rintro e v25 ⟨A25, c25, rfl, s25, hb⟩)
      | (go_at_call 31; (with_reducible refine (same2_t false false A7 A25 _ _ 0 0 [] [] _ rfl rfl (Kz.q3 (kz_of (by assumption))) s25 (by decide) (by decide) rfl rfl).mono ?_); rintro e v26 ⟨rfl, hb⟩)
      | (go_at_call 42; (with_reducible refine (aw_text A12 _ _ (Kz.q4 (kz_of (by assumption))) (pow_below ht (Kz.q0 (kz_of (by assumption))))).mono ?_); rintro e v27 ⟨rfl, hb⟩)
      | (go_at_call 35; (with_reducible refine (aw_neg A12 _ _ (Kz.q4 (kz_of (by assumption)))).mono ?_); rintro e v28 ⟨A28, c28, rfl, s28, hb⟩)
      | (go_at_call 34; (with_reducible refine (aw_sign A28 _ _ s28).mono ?_); rintro e v29 ⟨rfl, hb⟩)
      | (go_at_call 39; (with_reducible refine (of_at (-3) true [3] 1 _ (mkI_neg 3 (by decide) (by decide) _ rfl) rfl (by decide) (by decide)).mono ?_); rintro e v31 ⟨A31, c31, rfl, s31, hb⟩; (try have s32 := bl_keeps hb _ _ s32))
      | (go_at_call 39; (with_reducible refine (of_at (2) false [2] 1 _ (mkI_pos 2 (by decide) (by decide) _ rfl) rfl (by decide) (by decide)).mono ?_); rintro e v32 ⟨A32, c32, rfl, s32, hb⟩; (try have s31 := bl_keeps hb _ _ s31))
      | (go_at_call 32; (with_reducible refine (aw_cmp A31 A32 _ _ _ s31 s32).mono ?_); rintro e v33 ⟨rfl, hb⟩)
      | (go_at_call 37; (with_reducible refine (aw_valid _).mono ?_); rintro e v34 ⟨rfl, hb⟩))
  all_goals
    go_wp2
    go_ret
    exact ⟨rfl, Kz.q0 (kz_of (by assumption))⟩
end Nt

end Go.Proofs.YtgmjdaallinicaaGreatDoor

namespace Go.Proofs.YtgmjdaallinicaaGreatDoor

open Go.RowKit

namespace Nt

theorem validI_num {x : Int} (h : x.natAbs < LB ^ 64) : validI (isg x) (idg x) = true := by
  refine validI_iff.2 ⟨validB_dg h, fun hs => ?_⟩
  unfold idg
  rw [digs_len_pos]
  have : x < 0 := by unfold isg at hs; simpa using hs
  omega
theorem idg_len {x : Int} (h : x.natAbs < LB ^ 64) : (idg x).length ≤ 64 := length_digs_le.2 h
theorem limbs_idg (x : Int) : Limbs (idg x) := limbs_digs _
theorem cmpISp_num {x y : Int} (hx : x.natAbs < LB ^ 64) (hy : y.natAbs < LB ^ 64) : cmpISp (isg x) (idg x) (isg y) (idg y) = cmpZ x y := by
  unfold cmpISp; rw [validI_num hx, validI_num hy, ival_mk, ival_mk]; rfl
theorem sgnISp_num {x : Int} (hx : x.natAbs < LB ^ 64) : sgnISp (isg x) (idg x) = cmpZ x 0 := by
  unfold sgnISp; rw [validI_num hx, ival_mk]; rfl
theorem negISp_num {x : Int} (hx : x.natAbs < LB ^ 64) : negISp (isg x) (idg x) = (isg (-x), idg (-x)) := by
  unfold negISp; rw [validI_num hx, ival_mk]; rfl
theorem addISp_num {x y : Int} (hx : x.natAbs < LB ^ 64) (hy : y.natAbs < LB ^ 64) (h : (x + y).natAbs < LB ^ 64) : addISp (isg x) (idg x) (isg y) (idg y) = (isg (x + y), idg (x + y), 0) := by
  unfold addISp fitI; rw [validI_num hx, validI_num hy, ival_mk, ival_mk]; simp [h]
theorem subISp_num {x y : Int} (hx : x.natAbs < LB ^ 64) (hy : y.natAbs < LB ^ 64) (h : (x - y).natAbs < LB ^ 64) : subISp (isg x) (idg x) (isg y) (idg y) = (isg (x - y), idg (x - y), 0) := by
  unfold subISp fitI; rw [validI_num hx, validI_num hy, ival_mk, ival_mk]; simp [h]
theorem mulISp_num {x y : Int} (hx : x.natAbs < LB ^ 64) (hy : y.natAbs < LB ^ 64) (h : (x * y).natAbs < LB ^ 64) : mulISp (isg x) (idg x) (isg y) (idg y) = (isg (x * y), idg (x * y), 0) := by
  unfold mulISp fitI; rw [validI_num hx, validI_num hy, ival_mk, ival_mk]; simp [h]
theorem row_eq {x y : Int} : (isg x = isg y ∧ idg x = idg y) ↔ x = y := by
  constructor
  · rintro ⟨h1, h2⟩
    rw [← ival_mk x, ← ival_mk y, h1, h2]
  · rintro rfl; exact ⟨rfl, rfl⟩

section

variable (A B : Option Addr) (n m c d : Nat) (x y : Int) (w : World) (hn : (idg x).length = n) (hm : (idg y).length = m) (sx : Sl w A (idg x)) (sy : Sl w B (idg y)) (hx : x.natAbs < LB ^ 64) (hy : y.natAbs < LB ^ 64)

include hn hm sx sy hx hy
theorem cmpI_num (k : Int) (hk : cmpZ x y = k) : Calls Tryz.prog 32 #[.agg #[.bool (isg x), .slice A n c], .agg #[.bool (isg y), .slice B m d]] w fun e w' => e = .returned (.int .i64 k) ∧ Below w.heap.size w w' := by
  subst hn hm hk
  have := cmpI_any (isg x) (isg y) A B c d (idg x) (idg y) w sx sy (limbs_idg x) (limbs_idg y) (Nat.le_trans (idg_len hx) (by decide)) (Nat.le_trans (idg_len hy) (by decide))
  rwa [cmpISp_num hx hy] at this
theorem addI_num (h : (x + y).natAbs < LB ^ 64) : Calls Tryz.prog 22 #[.agg #[.bool (isg x), .slice A n c], .agg #[.bool (isg y), .slice B m d]] w (ITwo w (isg (x + y), idg (x + y), 0)) := by
  subst hn hm
  have := addI_any (isg x) (isg y) A B c d (idg x) (idg y) w sx sy (limbs_idg x) (limbs_idg y) (Nat.le_trans (idg_len hx) (by decide)) (Nat.le_trans (idg_len hy) (by decide))
  rwa [addISp_num hx hy h] at this
theorem subI_num (h : (x - y).natAbs < LB ^ 64) : Calls Tryz.prog 24 #[.agg #[.bool (isg x), .slice A n c], .agg #[.bool (isg y), .slice B m d]] w (ITwo w (isg (x - y), idg (x - y), 0)) := by
  subst hn hm
  have := subI_any (isg x) (isg y) A B c d (idg x) (idg y) w sx sy (limbs_idg x) (limbs_idg y) (Nat.le_trans (idg_len hx) (by decide)) (Nat.le_trans (idg_len hy) (by decide))
  rwa [subISp_num hx hy h] at this
theorem mulI_num (h : (x * y).natAbs < LB ^ 64) : Calls Tryz.prog 26 #[.agg #[.bool (isg x), .slice A n c], .agg #[.bool (isg y), .slice B m d]] w (ITwo w (isg (x * y), idg (x * y), 0)) := by
  subst hn hm
  have := mulI_any (isg x) (isg y) A B c d (idg x) (idg y) w sx sy (limbs_idg x) (limbs_idg y) (Nat.le_trans (idg_len hx) (by decide)) (Nat.le_trans (idg_len hy) (by decide))
  rwa [mulISp_num hx hy h] at this
theorem same2_num (r : Bool) (hr : decide (x = y) = r) : Calls Tryz.prog 31 #[.agg #[.bool (isg x), .slice A n c], .agg #[.bool (isg y), .slice B m d]] w fun e w' => e = .returned (.bool r) ∧ Below w.heap.size w w' := by
  subst hr
  have := same2_any (isg x) (isg y) A B c d n m (idg x) (idg y) w hn hm sx sy (by rw [← hn]; exact Nat.le_trans (idg_len hx) (by decide)) (by rw [← hm]; exact Nat.le_trans (idg_len hy) (by decide))
  rwa [show decide (isg x = isg y ∧ idg x = idg y) = decide (x = y) from decide_eq_decide.2 row_eq] at this
end

section

variable (A : Option Addr) (n c : Nat) (x : Int) (w : World) (hn : (idg x).length = n) (sx : Sl w A (idg x)) (hx : x.natAbs < LB ^ 64)

include hn sx hx
theorem negI_num : Calls Tryz.prog 35 #[.agg #[.bool (isg x), .slice A n c]] w (IOne w (isg (-x), idg (-x))) := by
  subst hn
  have := negI_any (isg x) A c (idg x) w sx (limbs_idg x) (Nat.le_trans (idg_len hx) (by decide))
  rwa [negISp_num hx] at this
theorem signI_num (k : Int) (hk : cmpZ x 0 = k) : Calls Tryz.prog 34 #[.agg #[.bool (isg x), .slice A n c]] w fun e w' => e = .returned (.int .i64 k) ∧ Below w.heap.size w w' := by
  subst hn hk
  have := signI_any (isg x) A c (idg x) w sx (limbs_idg x) (Nat.le_trans (idg_len hx) (by decide))
  rwa [sgnISp_num hx] at this
end
/-- An argument that may be: a number. -/
theorem as_int {s : Bool} {xs : List Nat} {k : Nat} (l : Limbs xs) (v : validI s xs = true) (h : xs.length ≤ k) : ∃ x : Int, s = isg x ∧ xs = idg x ∧ x.natAbs < LB ^ k :=
  ⟨ival s xs, (isg_ival l v).symm, (idg_ival l (validI_B v)).symm, by rw [ival_abs]; exact Nat.lt_of_lt_of_le (val_lt l) (Nat.pow_le_pow_right LB_pos h)⟩
end Nt

end Go.Proofs.YtgmjdaallinicaaGreatDoor

namespace Go.Proofs.YtgmjdaallinicaaGreatDoor

open Go.RowKit

namespace Nt

/-- The quotient that goes down, and what is left. -/
def quoI (x y : Int) : Int := if (isg x != isg y) then -((downQ true x.natAbs y.natAbs : Nat) : Int) else ((downQ false x.natAbs y.natAbs : Nat) : Int)
def remI (x y : Int) : Int := if isg y then -((downR (isg x != isg y) x.natAbs y.natAbs : Nat) : Int) else ((downR (isg x != isg y) x.natAbs y.natAbs : Nat) : Int)
theorem val_idg (x : Int) : val (idg x) = x.natAbs := val_digs _
theorem divISp_num {x y : Int} (hx : x.natAbs < LB ^ 64) (hy : y.natAbs < LB ^ 64) (h0 : y ≠ 0) : divISp (isg x) (idg x) (isg y) (idg y) = ((isg (quoI x y), idg (quoI x y)), (isg (remI x y), idg (remI x y)), 0) := by
  have hp : 0 < (idg y).length := digs_len_pos.2 (by omega)
  rw [divI_ok ⟨validI_num hx, validI_num hy, hp⟩, val_idg, val_idg]
  have e1 : quoI x y = if (isg x != isg y) then -((downQ (isg x != isg y) x.natAbs y.natAbs : Nat) : Int) else ((downQ (isg x != isg y) x.natAbs y.natAbs : Nat) : Int) := by
    unfold quoI
    cases (isg x != isg y) <;> rfl
  have e2 : remI x y = if isg y then -((downR (isg x != isg y) x.natAbs y.natAbs : Nat) : Int) else ((downR (isg x != isg y) x.natAbs y.natAbs : Nat) : Int) := rfl
  rw [isg_sgn, isg_sgn, ← e1, ← e2, e1, idg_sgn, e2, idg_sgn]
theorem isg_cases (x : Int) : (isg x = true ∧ x < 0) ∨ (isg x = false ∧ 0 ≤ x) := by
  unfold isg
  rcases (show x < 0 ∨ 0 ≤ x by omega) with h | h
  · exact .inl ⟨decide_eq_true h, h⟩
  · exact .inr ⟨decide_eq_false (by omega), h⟩
/-- What is left: its size, its sign; with the quotient it makes the number again. -/
theorem quo_rem (x y : Int) (h0 : y ≠ 0) : quoI x y * y + remI x y = x ∧ (remI x y).natAbs < y.natAbs ∧ (remI x y = 0 ∨ cmpZ (remI x y) 0 = cmpZ y 0) := by
  have hn : 0 < y.natAbs := by omega
  have hd := Nat.div_add_mod x.natAbs y.natAbs
  have hm := Nat.mod_lt x.natAbs hn
  have hd' : (y.natAbs : Int) * ((x.natAbs / y.natAbs : Nat) : Int) + ((x.natAbs % y.natAbs : Nat) : Int) = (x.natAbs : Int) := by
    rw [← Int.natCast_mul, ← Int.natCast_add, hd]
  generalize hk : x.natAbs / y.natAbs = k at *
  generalize hr : x.natAbs % y.natAbs = r at *
  unfold quoI remI downQ downR
  rw [hk, hr]
  have c1 : ∀ a : Int, cmpZ a 0 = if a < 0 then -1 else if 0 < a then 1 else 0 := fun a => rfl
  rcases isg_cases x with ⟨ex, hx⟩ | ⟨ex, hx⟩ <;> rcases isg_cases y with ⟨ey, hy⟩ | ⟨ey, hy⟩ <;> rw [ex, ey]
  · have ea : (x.natAbs : Int) = -x := by omega
    have eb : (y.natAbs : Int) = -y := by omega
    rw [ea, eb] at hd'
    simp
    rw [Int.mul_comm (k : Int) y]
    rw [Int.neg_mul] at hd'
    refine ⟨by omega, hm, ?_⟩
    rw [c1, c1]
    by_cases h : r = 0
    · left; omega
    · right; rw [if_pos (by omega), if_pos (by omega)]
  · have ea : (x.natAbs : Int) = -x := by omega
    have eb : (y.natAbs : Int) = y := by omega
    rw [ea, eb] at hd'
    by_cases h : 0 < r
    · simp [h]
      rw [Int.neg_mul, Int.add_mul, Int.one_mul, Int.mul_comm (k : Int) y]
      refine ⟨by omega, by omega, ?_⟩
      rw [c1, c1]
      right
      rw [if_neg (by omega), if_pos (by omega), if_neg (by omega), if_pos (by omega)]
    · have : r = 0 := by omega
      subst this
      simp
      rw [Int.neg_mul, Int.mul_comm (k : Int) y]
      exact ⟨by omega, by omega⟩
  · have ea : (x.natAbs : Int) = x := by omega
    have eb : (y.natAbs : Int) = -y := by omega
    rw [ea, eb] at hd'
    rw [Int.neg_mul] at hd'
    by_cases h : 0 < r
    · simp [h]
      rw [Int.neg_mul, Int.add_mul, Int.one_mul, Int.mul_comm (k : Int) y]
      refine ⟨by omega, by omega, ?_⟩
      rw [c1, c1]
      right
      rw [if_pos (by omega), if_pos (by omega)]
    · have : r = 0 := by omega
      subst this
      simp
      rw [Int.neg_mul, Int.mul_comm (k : Int) y]
      exact ⟨by omega, by omega⟩
  · have ea : (x.natAbs : Int) = x := by omega
    have eb : (y.natAbs : Int) = y := by omega
    rw [ea, eb] at hd'
    simp
    rw [Int.mul_comm (k : Int) y]
    refine ⟨by omega, hm, ?_⟩
    rw [c1, c1]
    by_cases h : r = 0
    · left; omega
    · right; rw [if_neg (by omega), if_pos (by omega), if_neg (by omega), if_pos (by omega)]

theorem digit_chr {r : Nat} (h : r < 10) : isD (UInt8.ofNat (48 + r)) = true ∧ digD (UInt8.ofNat (48 + r)) = r := by
  have e : (UInt8.ofNat (48 + r)).toNat = 48 + r := by
    rw [UInt8.toNat_ofNat']
    exact Nat.mod_eq_of_lt (by omega)
  unfold isD digD
  rw [e]
  exact ⟨decide_eq_true (by omega), by omega⟩
/-- A text that was written is read as what was written. -/
theorem textp (n : Nat) : digitsB (Lib.decDigits n) = true ∧ decV (Lib.decDigits n) = n ∧ hasD (Lib.decDigits n) = false := by
  have key : decV (Lib.decDigits n) = n ∧ (Lib.decDigits n).all isD = true ∧ Lib.decDigits n ≠ [] := by
    induction n using Nat.strongRecOn with
    | _ n ih =>
      by_cases h : n < 10
      · rw [dec_small h]
        refine ⟨?_, ?_, by simp⟩
        · have := decV_snoc [] (UInt8.ofNat (48 + n))
          simp only [List.nil_append] at this
          rw [this]
          obtain ⟨_, h2⟩ := digit_chr h
          rw [h2]
          simp [decV, decF]
        · obtain ⟨h1, _⟩ := digit_chr h
          rw [List.all_cons, h1]; rfl
      · obtain ⟨i1, i2, i3⟩ := ih (n / 10) (by omega)
        obtain ⟨h1, h2⟩ := digit_chr (r := n % 10) (by omega)
        rw [dec_big h]
        refine ⟨?_, by rw [List.all_append, i2, List.all_cons, h1]; rfl, by simp⟩
        rw [decV_snoc, i1, h2]
        omega
  obtain ⟨k1, k2, k3⟩ := key
  refine ⟨by unfold digitsB; rw [k2]; simpa using k3, k1, ?_⟩
  generalize Lib.decDigits n = l at *
  cases l with
  | nil => exact absurd rfl k3
  | cons c l =>
    unfold hasD Lib.hasPrefix
    have hc : isD c = true := by simp at k2; exact k2.1
    have : c ≠ 45 := by rintro rfl; exact absurd hc (by decide)
    simp [List.isPrefixOf]
    exact fun e => this e.symm
theorem parse_text {x : Int} (hx : x.natAbs < LB ^ 64) : parseISp (textISp (isg x) (idg x)) = (isg x, idg x, 0) := by
  obtain ⟨t1, t2, t3⟩ := textp x.natAbs
  have hv := validI_num hx
  have ht : textSp (idg x) = Lib.decDigits x.natAbs := by unfold textSp; rw [validI_B hv, val_idg]; rfl
  have hp : parseSp (Lib.decDigits x.natAbs) = (idg x, 0) := by
    unfold parseSp
    rw [t1, t2, if_pos rfl, if_pos hx]; rfl
  unfold textISp
  rw [hv, ht]
  rcases isg_cases x with ⟨e, h⟩ | ⟨e, h⟩
  · rw [e]
    simp only [if_true]
    have c1 : cutD (45 :: Lib.decDigits x.natAbs) = Lib.decDigits x.natAbs := by
      unfold cutD Lib.trimPrefix Lib.hasPrefix
      simp [List.isPrefixOf]
    have c2 : hasD (45 :: Lib.decDigits x.natAbs) = true := by unfold hasD Lib.hasPrefix; simp [List.isPrefixOf]
    have hl : 0 < (idg x).length := digs_len_pos.2 (by omega)
    unfold parseISp
    rw [c1, c2, hp]
    simp [hl]
  · rw [e]
    simp only [if_true, Bool.false_eq_true, if_false]
    have c1 : cutD (Lib.decDigits x.natAbs) = Lib.decDigits x.natAbs := by
      unfold cutD Lib.trimPrefix
      rw [show Lib.hasPrefix (Lib.decDigits x.natAbs) [45] = false from t3]
      rfl
    unfold parseISp
    rw [c1, t3, hp]
    simp
end Nt

end Go.Proofs.YtgmjdaallinicaaGreatDoor
