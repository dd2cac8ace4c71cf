
/-
  Package decimal: isNumeral, tenTo, Parse.
  Package decimal: Parse.
  Package decimal: showSize, Show.
  Package decimal: dividesTens, word.
  Package decimal: places, Exact.
  Package decimal: Exact.
  The reference's Of; decimals are told by their numbers alone; the awake of the laws on decimals.
-/
import Derived.Test.YtfdeiejphlaokaaGreatDoorRatS

import Derived.Shelf.Strings.BuilderK

import Derived.Test.YtfdeiejphlaokaaGreatDoorRefQ

namespace Go.Proofs.YtfdeiejphlaokaaGreatDoor

open Go.RowKit

namespace Nt

/-- Is a text one numeral? -/
def numB (l : List UInt8) : Bool := decide (l = [48]) || (digitsB l && decide (l.head? ≠ some 48))
theorem numB_digits {l : List UInt8} (h : numB l = true) : l.all isD = true ∧ l ≠ [] := by
  unfold numB at h
  rw [Bool.or_eq_true, decide_eq_true_eq, Bool.and_eq_true] at h
  rcases h with rfl | ⟨h, _⟩
  · exact ⟨by decide, by decide⟩
  · unfold digitsB at h
    rw [Bool.and_eq_true, decide_eq_true_eq] at h
    exact h
theorem cat_list (a b : ByteArray) : (a ++ b).data.toList = a.data.toList ++ b.data.toList := by simp
theorem eq_s (t : TypeId) {a b : ByteArray} (h : a = b) : binOp .eql t (.string a) (.string b) = pure (.bool true) := by
  subst h
  rw [binOp_string_eql, beq_self_eq_true]
theorem eq_n (t : TypeId) {a b : ByteArray} (h : a ≠ b) : binOp .eql t (.string a) (.string b) = pure (.bool false) := by
  rw [binOp_string_eql, ByteArray.toList_eq, ByteArray.toList_eq, beq_eq_false_iff_ne.2]
  intro e
  apply h
  cases a with
  | mk a =>
    cases b with
    | mk b => simp at e; rw [e]
theorem decV_tens (k : Nat) : decV (49 :: List.replicate k 48) = 10 ^ k := by
  induction k with
  | zero => decide
  | succ k ih =>
    rw [List.replicate_succ', ← List.cons_append, decV_snoc, ih, show digD 48 = 0 from rfl, Nat.add_zero, Nat.pow_succ]
theorem all_tens (k : Nat) : (49 :: List.replicate k 48).all isD = true := by
  rw [List.all_eq_true]
  intro x hx
  rcases List.mem_cons.1 hx with rfl | hx
  · decide
  · rw [List.eq_of_mem_replicate hx]; decide
end Nt

end Go.Proofs.YtfdeiejphlaokaaGreatDoor

namespace Go.Proofs.YtfdeiejphlaokaaGreatDoor

open Go.RowKit

namespace Nt

/-- A text's number, as the document says: none, or the digits by a power of ten. -/
def decSp (l : List UInt8) : Option Rat :=
  match l.dropWhile (· != 46) with
  | [] => if numB l then some (qmk false (decV l) 1) else none
  | _ :: v => if numB (l.takeWhile (· != 46)) && digitsB v then some (qmk false (decV (l.takeWhile (· != 46) ++ v)) (10 ^ v.length)) else none

theorem dec_split (l : List UInt8) : (46 ∉ l ∧ l.dropWhile (· != 46) = []) ∨ ∃ v, l = l.takeWhile (· != 46) ++ 46 :: v ∧ 46 ∉ l.takeWhile (· != 46) ∧ l.dropWhile (· != 46) = 46 :: v := by
  induction l with
  | nil => exact .inl ⟨by simp, rfl⟩
  | cons c l ih =>
    by_cases hc : c = 46
    · subst hc
      exact .inr ⟨l, by simp, by simp, by simp⟩
    · have e1 : (c != 46) = true := by simpa using hc
      rw [List.takeWhile_cons, List.dropWhile_cons, if_pos e1, if_pos e1]
      rcases ih with ⟨h1, h2⟩ | ⟨v, h1, h2, h3⟩
      · exact .inl ⟨by simp [h1, Ne.symm hc], h2⟩
      · exact .inr ⟨v, by rw [List.cons_append, ← h1], by simp [h2, Ne.symm hc], h3⟩
theorem decSp_plain {l : List UInt8} (h : l.dropWhile (· != 46) = []) : decSp l = if numB l then some (qmk false (decV l) 1) else none := by
  unfold decSp; rw [h]
theorem decSp_point {l v : List UInt8} (h : l.dropWhile (· != 46) = 46 :: v) : decSp l = if numB (l.takeWhile (· != 46)) && digitsB v then some (qmk false (decV (l.takeWhile (· != 46) ++ v)) (10 ^ v.length)) else none := by
  unfold decSp; rw [h]
theorem trim_zeros (l : List UInt8) : ∃ z, l = Lib.trimRightB l 48 ++ List.replicate z 48 := by
  unfold Lib.trimRightB
  have h : ∀ m : List UInt8, ∃ z, m = List.replicate z 48 ++ m.dropWhile (· == 48) := by
    intro m
    induction m with
    | nil => exact ⟨0, rfl⟩
    | cons c m ih =>
      by_cases hc : c = 48
      · subst hc
        obtain ⟨z, hz⟩ := ih
        refine ⟨z + 1, ?_⟩
        rw [List.dropWhile_cons, if_pos (by decide), List.replicate_succ, List.cons_append, ← hz]
      · exact ⟨0, by rw [List.dropWhile_cons, if_neg (by simpa using hc)]; rfl⟩
  obtain ⟨z, hz⟩ := h l.reverse
  refine ⟨z, ?_⟩
  have := congrArg List.reverse hz
  rw [List.reverse_reverse, List.reverse_append, List.reverse_replicate] at this
  exact this
theorem decV_zeros' (l : List UInt8) (z : Nat) : decV (l ++ List.replicate z 48) = decV l * 10 ^ z := by
  induction z with
  | zero => simp
  | succ z ih => rw [List.replicate_succ', ← List.append_assoc, decV_snoc, ih, show digD 48 = 0 from rfl, Nat.pow_succ]; rw [Nat.add_zero, Nat.mul_assoc]
theorem qmk_scale (n d c : Nat) (hc : 0 < c) : qmk false (n * c) (d * c) = qmk false n d := by
  unfold qmk
  show mkRat ((n * c : Nat) : Int) (d * c) = mkRat (n : Int) d
  rw [Int.natCast_mul]
  exact Rat.mkRat_mul_right (by omega)
theorem trim_q (u v : List UInt8) : qmk false (decV (u ++ v)) (10 ^ v.length) = qmk false (decV (u ++ Lib.trimRightB v 48)) (10 ^ (Lib.trimRightB v 48).length) := by
  obtain ⟨z, hz⟩ := trim_zeros v
  have e1 : decV (u ++ v) = decV (u ++ Lib.trimRightB v 48) * 10 ^ z := by
    rw [← decV_zeros', List.append_assoc, ← hz]
  have e2 : v.length = (Lib.trimRightB v 48).length + z := by
    have := congrArg List.length hz
    rw [List.length_append, List.length_replicate] at this
    exact this
  rw [e1, e2, Nat.pow_add]
  exact qmk_scale _ _ _ (Nat.pow_pos (by decide))
theorem two_ten {k m : Nat} (h : k ≤ 1000) (hm : 4000 < m) : 10 ^ k < 2 ^ m := by
  have e1 : (10 : Nat) ^ k ≤ 2 ^ (4 * k) := by rw [Nat.pow_mul]; exact Nat.pow_le_pow_left (by decide) k
  exact Nat.lt_of_le_of_lt e1 (Nat.pow_lt_pow_right (by decide) (by omega))
theorem lbk (k : Nat) : LB ^ k = 2 ^ (64 * k) := by
  rw [Nat.pow_mul]
  exact congrArg (fun x => x ^ k) LB_eq
theorem ten_lt {k : Nat} (h : k ≤ 1000) : 10 ^ k < LB ^ 64 := Nat.lt_of_lt_of_eq (two_ten h (by decide)) (lbk 64).symm

theorem dec_fit {l : List UInt8} (k : Nat) (hl : l.length ≤ 1000) (ha : l.all isD = true) (hk : k ≤ 1000) : fitq (qmk false (decV l) (10 ^ k)) := by
  have h0 : 10 ^ k ≠ 0 := Nat.pos_iff_ne_zero.1 (Nat.pow_pos (by decide))
  have h1 : decV l < LB ^ 64 := Nat.lt_trans (decV_lt ha) (ten_lt hl)
  exact ⟨ln_le (by rw [qn_mk false _ h0]; exact Nat.lt_of_le_of_lt (Nat.div_le_self _ _) h1), ln_le (by rw [qd_mk false _ h0]; exact Nat.lt_of_le_of_lt (Nat.div_le_self _ _) (ten_lt hk))⟩
theorem digitsB_all {l : List UInt8} (h : digitsB l = true) : l.all isD = true := by
  unfold digitsB at h
  rw [Bool.and_eq_true] at h
  exact h.1
theorem trim_all {l : List UInt8} (h : l.all isD = true) : (Lib.trimRightB l 48).all isD = true := by
  obtain ⟨z, hz⟩ := trim_zeros l
  rw [hz, List.all_append, Bool.and_eq_true] at h
  exact h.1
theorem trim_len (l : List UInt8) : (Lib.trimRightB l 48).length ≤ l.length := by
  obtain ⟨z, hz⟩ := trim_zeros l
  have := congrArg List.length hz
  rw [List.length_append] at this
  omega
theorem arr_len (l : List UInt8) : (⟨l.toArray⟩ : ByteArray).size = l.length := by rw [Lib.size_eq]
end Nt

end Go.Proofs.YtfdeiejphlaokaaGreatDoor

namespace Go.Proofs.YtfdeiejphlaokaaGreatDoor

open Go.RowKit

namespace Nt

/-- A size as a term. -/
def sizeT (q : Rat) : List UInt8 := if qd q = 1 then Lib.decDigits (qn q) ++ [46, 48] else [40, 47, 32] ++ (Lib.decDigits (qn q) ++ [46, 48]) ++ [32] ++ Lib.decDigits (qd q) ++ [46, 48, 41]
/-- A number as a term. -/
def showT (q : Rat) : List UInt8 := if qs q then [40, 45, 32] ++ sizeT q ++ [41] else sizeT q
theorem sizeT_size {q : Rat} (f : fitq q) : (⟨(sizeT q).toArray⟩ : ByteArray).size ≤ 20100 := by
  have z1 := dec_size f.1
  have z2 := dec_size f.2
  rw [Lib.size_eq] at z1 z2
  have z1 : (Lib.decDigits (qn q)).length ≤ 10000 := z1
  have z2 : (Lib.decDigits (qd q)).length ≤ 10000 := z2
  rw [Lib.size_eq]
  show (sizeT q).length ≤ _
  unfold sizeT
  split <;> simp only [List.length_append, List.length_cons, List.length_nil] <;> omega
theorem bz1 (a b c : UInt8) : (⟨#[a, b, c]⟩ : ByteArray).size = 3 := rfl
theorem bz2 (a b : UInt8) : (⟨#[a, b]⟩ : ByteArray).size = 2 := rfl
theorem bz3 (a : UInt8) : (⟨#[a]⟩ : ByteArray).size = 1 := rfl
end Nt

end Go.Proofs.YtfdeiejphlaokaaGreatDoor

namespace Go.Proofs.YtfdeiejphlaokaaGreatDoor

open Go.RowKit

namespace Nt

/-- Does a number divide a power of ten? -/
def TenDiv (x : Nat) : Prop := ∃ k, x ∣ 10 ^ k
theorem GB_ten : GB = 10 ^ 19 := by decide
theorem tenDiv_step (x : Nat) : TenDiv (x / Nat.gcd x GB) ↔ TenDiv x := by
  have hx : x = Nat.gcd x GB * (x / Nat.gcd x GB) := (Nat.mul_div_cancel' (Nat.gcd_dvd_left x GB)).symm
  constructor
  · rintro ⟨k, hk⟩
    refine ⟨19 + k, ?_⟩
    rw [hx, Nat.pow_add, ← GB_ten]
    exact Nat.mul_dvd_mul (Nat.gcd_dvd_right x GB) hk
  · rintro ⟨k, hk⟩
    exact ⟨k, Nat.dvd_trans ⟨Nat.gcd x GB, by rw [Nat.mul_comm]; exact hx⟩ hk⟩
theorem tenDiv_end {x : Nat} (h : Nat.gcd x GB = 1) : TenDiv x ↔ x = 1 := by
  constructor
  · rintro ⟨k, hk⟩
    have h10 : Nat.Coprime x 10 := by
      have h' : Nat.Coprime x (10 * 10 ^ 18) := by rw [GB_ten] at h; exact h
      exact Nat.Coprime.coprime_mul_right_right h'
    have := Nat.Coprime.pow_right k h10
    exact Nat.Coprime.eq_one_of_dvd this hk
  · rintro rfl
    exact ⟨0, Nat.dvd_refl _⟩
theorem ln_GB : ln GB = 1 := by
  have : digs GB = [GB] := digs1 (by decide) (by decide)
  unfold ln; rw [this]; rfl
theorem digs_GB : digs GB = [GB] := digs1 (by decide) (by decide)

end Nt

end Go.Proofs.YtfdeiejphlaokaaGreatDoor

namespace Go.Proofs.YtfdeiejphlaokaaGreatDoor

open Go.RowKit

namespace Nt

/-! ### A builder among rows of words -/
/-- A row that a builder at block d leaves as it is: older than w0, or a row of words in another block. -/
def Lk (w0 d : Nat) (w : World) (A : Option Addr) (xs : List Nat) : Prop := Sl w A xs ∧ (xs = [] ∨ ∃ b o, A = some ⟨b, o, none⟩ ∧ (b < w0 ∨ (b ≠ d ∧ ∃ cur, w.heap[b]? = some (.cells cur 125 (0, 0)))))
theorem Lk.old {w : World} {A : Option Addr} {xs : List Nat} (d : Nat) (h : Sl w A xs) : Lk w.heap.size d w A xs := by
  refine ⟨h, ?_⟩
  rcases h with h | ⟨b, o, h1, h2⟩
  · exact .inl h
  · exact .inr ⟨b, o, h1, .inl h2.1⟩
theorem Lk.row {w : World} {base w0 d n c : Nat} {A : Option Addr} {xs : List Nat} (h : Row w base A n c xs) (hd : d < base) : Lk w0 d w A xs := by
  refine ⟨h.sl, ?_⟩
  rcases h.form with ⟨_, h2⟩ | ⟨g, h1, h2⟩
  · exact .inl h2
  · obtain ⟨cur, b1, b2, _⟩ := h2.form
    exact .inr ⟨g, 0, h1, .inr ⟨by omega, cur, b2⟩⟩
theorem Lk.next {w0 d : Nat} {w w' : World} {A : Option Addr} {xs : List Nat} (h : Lk w0 d w A xs) (hb : Below w.heap.size w w') : Lk w0 d w' A xs := by
  refine ⟨kp' hb h.1, ?_⟩
  rcases h.2 with h | ⟨b, o, h1, h2 | ⟨h2, cur, h3⟩⟩
  · exact .inl h
  · exact .inr ⟨b, o, h1, .inl h2⟩
  · exact .inr ⟨b, o, h1, .inr ⟨h2, cur, by rw [hb.block b (by have := Array.getElem?_eq_some_iff.1 h3; exact this.1)]; exact h3⟩⟩
theorem Lk.kept {w0 d : Nat} {w w' : World} {A : Option Addr} {xs : List Nat} (h : Lk w0 d w A xs) (hb : Below w0 w w') (ho : Lib.OthersKept 5 (some d) w w') : Lk w0 d w' A xs := by
  have hs := hb.size
  obtain ⟨h1, h2⟩ := h
  rcases h1 with h1 | ⟨b, o, h1, ha⟩
  · exact ⟨.inl h1, .inl h1⟩
  rcases h2 with h2 | ⟨b', o', e, h2⟩
  · exact ⟨.inl h2, .inl h2⟩
  obtain ⟨rfl, rfl⟩ : b = b' ∧ o = o' := by rw [h1] at e; injection e with e; injection e with e1 e2; exact ⟨e1, e2⟩
  rcases h2 with h2 | ⟨h2, cur, h3⟩
  · exact ⟨.inr ⟨b, o, h1, ha.keep hs (hb.block b h2)⟩, .inr ⟨b, o, h1, .inl h2⟩⟩
  · have h4 : w'.heap[b]? = some (.cells cur 125 (0, 0)) := ho b _ h3 (by intro e; injection e with e; exact h2 e) (by intro c fz e; injection e with _ e2 _; exact absurd e2 (by decide))
    exact ⟨.inr ⟨b, o, h1, ha.keep hs (by rw [h4, h3])⟩, .inr ⟨b, o, h1, .inr ⟨h2, cur, h4⟩⟩⟩
theorem ldivR (A B : Option Addr) (c d x y : Nat) (w : World) (sx : Sl w A (digs x)) (sy : Sl w B (digs y)) (hx : ln x ≤ 10000) (hy : ln y ≤ 10000) (h0 : 0 < y) (q r : Nat) (hq : x / y = q) (hr : x % y = r) :
    Calls Tryz.prog 80 #[.slice A (ln x) c, .slice B (ln y) d] w fun e w' => ∃ A' c' B' d', e = .returned (.tuple #[.slice A' (ln q) c', .slice B' (ln r) d']) ∧ Row w' w.heap.size A' (ln q) c' (digs q) ∧ Row w' w.heap.size B' (ln r) d' (digs r) ∧ Below w.heap.size w w' := by
  subst hq hr
  have h := divide_all A B c d (digs x) (digs y) w sx sy (limbs_digs _) (limbs_digs _) (norm_digs _) (norm_digs _) hx hy (digs_len_pos.2 h0)
  rw [val_digs, val_digs] at h
  refine h.mono fun _ _ h => ?_
  obtain ⟨A', n, c', B', m, d', e, r1, r2, b⟩ := h
  have e1 := r1.len
  have e2 := r2.len
  subst e1; subst e2
  exact ⟨A', c', B', d', e, r1, r2, b⟩

/-! ### How far the digits go -/
theorem gcd_step {x y : Nat} (yp : 0 < y) (xp : 0 < x) (hxy : x < y) (ht : TenDiv y) : 2 * (y / Nat.gcd (x * GB % y) y) ≤ y / Nat.gcd x y := by
  obtain ⟨g, hg⟩ : ∃ g, Nat.gcd x y = g := ⟨_, rfl⟩
  have gp : 0 < g := by rw [← hg]; exact Nat.gcd_pos_of_pos_left _ xp
  obtain ⟨m, hm⟩ : ∃ m, x = g * m := by rw [← hg]; exact Nat.gcd_dvd_left x y
  obtain ⟨d, hd⟩ : ∃ d, y = g * d := by rw [← hg]; exact Nat.gcd_dvd_right x y
  have hcop : Nat.gcd m d = 1 := by
    have h : g * Nat.gcd m d = g * 1 := by rw [← Nat.gcd_mul_left, ← hm, ← hd, hg, Nat.mul_one]
    exact Nat.eq_of_mul_eq_mul_left gp h
  have dp : 0 < d := by
    rcases Nat.eq_zero_or_pos d with h | h
    · rw [h, Nat.mul_zero] at hd; omega
    · exact h
  have d1 : d ≠ 1 := by
    rintro rfl
    rw [Nat.mul_one] at hd
    have : g ≤ x := by rw [← hg]; exact Nat.gcd_le_left _ xp
    omega
  obtain ⟨h, hh⟩ : ∃ h, Nat.gcd d GB = h := ⟨_, rfl⟩
  have hp : 0 < h := by rw [← hh]; exact Nat.gcd_pos_of_pos_left _ dp
  have h1 : h ≠ 1 := by
    intro e
    have td : TenDiv d := by
      obtain ⟨k, hk⟩ := ht
      exact ⟨k, Nat.dvd_trans ⟨g, by rw [hd, Nat.mul_comm]⟩ hk⟩
    exact d1 ((tenDiv_end (by rw [hh]; exact e)).1 td)
  have e1 : Nat.gcd (x * GB % y) y = g * h := by
    rw [← Nat.gcd_rec, Nat.gcd_comm y, hm, hd, Nat.mul_assoc, Nat.gcd_mul_left, ← hh]
    congr 1
    rw [Nat.gcd_comm (m * GB) d, Nat.Coprime.gcd_mul_left_cancel_right GB hcop]
  rw [e1, hg, hd, Nat.mul_div_mul_left _ _ gp, Nat.mul_div_cancel_left _ gp]
  have : d / h * h ≤ d := Nat.div_mul_le_self d h
  have h2 : d / h * 2 ≤ d / h * h := Nat.mul_le_mul_left _ (by omega)
  omega
theorem lt_two {y k m : Nat} (h : y < LB ^ k) (hm : m = 64 * k) : y < 2 ^ m := by
  subst hm
  rw [← lbk]
  exact h
theorem grp_all {q : Nat} : (grpD q).all isD = true := by
  unfold grpD
  rw [List.all_append, digitsB_all (textp q).1, Bool.and_true, List.all_eq_true]
  intro x hx
  rw [List.eq_of_mem_replicate hx]; decide
theorem grp_len {q : Nat} (h : q < GB) : (grpD q).length = 19 := by
  unfold grpD
  have := dec_len_le (k := 18) h
  rw [List.length_append, List.length_replicate]
  omega
theorem decV_front (z : Nat) (m : List UInt8) : decV (List.replicate z 48 ++ m) = decV m := by
  induction z with
  | zero => rfl
  | succ z ih => rw [List.replicate_succ, List.cons_append]; exact ih
theorem grp_val (q : Nat) : decV (grpD q) = q := by
  unfold grpD
  rw [decV_front, (textp q).2.1]
theorem grp_next {l : List UInt8} {x y z q r : Nat} (h : decV l * y + z = x * 10 ^ l.length) (hq : z * GB / y = q) (hr : z * GB % y = r) (hg : q < GB) : decV (l ++ grpD q) * y + r = x * 10 ^ (l ++ grpD q).length := by
  have e := Nat.div_add_mod (z * GB) y
  rw [hq, hr] at e
  rw [decV_append, grp_len hg, grp_val, List.length_append, grp_len hg, Nat.pow_add, ← Nat.mul_assoc, ← h, ← GB_ten, Nat.add_mul, Nat.add_mul, ← e, Nat.mul_right_comm, Nat.mul_comm y q, Nat.add_assoc]

end Nt

end Go.Proofs.YtfdeiejphlaokaaGreatDoor

namespace Go.Proofs.YtfdeiejphlaokaaGreatDoor

open Go.RowKit

namespace Nt

/-- What is written of a number as a decimal. -/
def ExactOf (q : Rat) (t : List UInt8) : Prop := ∃ P, t = Lib.decDigits (qn q / qd q) ++ 46 :: P ∧ P.all isD = true ∧ P ≠ [] ∧ (P = [48] ∨ P.getLast? ≠ some 48) ∧ decV P * qd q = (qn q % qd q) * 10 ^ P.length ∧ P.length ≤ 90000
theorem bz2' (a b : UInt8) : (⟨#[a, b]⟩ : ByteArray).size = 2 := rfl
theorem bz3' (a : UInt8) : (⟨#[a]⟩ : ByteArray).size = 1 := rfl
theorem trim_last (l : List UInt8) : (Lib.trimRightB l 48).getLast? ≠ some 48 := by
  unfold Lib.trimRightB
  rw [List.getLast?_reverse]
  exact fun h => by
    have := List.head?_dropWhile_not (· == (48 : UInt8)) l.reverse
    rw [h] at this
    simp at this
theorem trim_val {l : List UInt8} {x y : Nat} (h : decV l * y = x * 10 ^ l.length) : decV (Lib.trimRightB l 48) * y = x * 10 ^ (Lib.trimRightB l 48).length := by
  obtain ⟨z, hz⟩ := trim_zeros l
  have e1 : decV l = decV (Lib.trimRightB l 48) * 10 ^ z := by rw [← decV_zeros', ← hz]
  have e2 : l.length = (Lib.trimRightB l 48).length + z := by
    have := congrArg List.length hz
    rw [List.length_append, List.length_replicate] at this
    exact this
  rw [e1, e2, Nat.pow_add, Nat.mul_right_comm, ← Nat.mul_assoc] at h
  exact Nat.eq_of_mul_eq_mul_right (Nat.pow_pos (by decide)) h
theorem exactOf_zero {q : Rat} (h : qn q % qd q = 0) : ExactOf q (Lib.decDigits (qn q / qd q) ++ [46, 48]) := ⟨[48], rfl, by decide, by decide, .inl rfl, by rw [h, show decV [48] = 0 by decide]; simp, by decide⟩
theorem exactOf_pos {q : Rat} {l : List UInt8} (h0 : 0 < qn q % qd q) (h1 : l.all isD = true) (h2 : decV l * qd q = (qn q % qd q) * 10 ^ l.length) (h3 : l.length ≤ 90000) : ExactOf q (Lib.decDigits (qn q / qd q) ++ 46 :: Lib.trimRightB l 48) := by
  refine ⟨_, rfl, trim_all h1, ?_, .inr (trim_last l), trim_val h2, Nat.le_trans (trim_len l) h3⟩
  intro e
  have := trim_val h2
  rw [e, show decV [] = 0 from rfl] at this
  simp at this
  omega
theorem one_next {w w' : World} (hb : Below w.heap.size w w') {p : Addr} {v : Value} (h : w.cell? p = some v) : w'.cell? p = some v := cell_next hb h
end Nt

end Go.Proofs.YtfdeiejphlaokaaGreatDoor

namespace Go.Proofs.YtfdeiejphlaokaaGreatDoor

open Go.RowKit

namespace Nt

/-- What stays to the end: all that was there, and rows. -/
def K6 (w : World) (l : List (Option Addr × List Nat)) (W : World) : Prop := Below w.heap.size w W ∧ ∀ p, p ∈ l → Sl W p.1 p.2
theorem K6.next {w W W' : World} {l : List (Option Addr × List Nat)} (k : K6 w l W) (hb : Below W.heap.size W W') : K6 w l W' := ⟨bl_trans k.1 hb, fun p hp => kp' hb (k.2 p hp)⟩
theorem K6.drew {w W : World} {l : List (Option Addr × List Nat)} (k : K6 w l W) : K6 w l W.drew := ⟨k.1.drew, k.2⟩
theorem K6.b {w W : World} {l : List (Option Addr × List Nat)} (k : K6 w l W) : Below w.heap.size w W := k.1
theorem K6.sl {w W : World} {l : List (Option Addr × List Nat)} (k : K6 w l W) {A : Option Addr} {x : List Nat} (h : (A, x) ∈ l) : Sl W A x := k.2 _ h
theorem K6.nil {w W : World} (b : Below w.heap.size w W) : K6 w [] W := ⟨b, fun p hp => by cases hp⟩
theorem K6.cons {w W : World} {l : List (Option Addr × List Nat)} (k : K6 w l W) {A : Option Addr} {x : List Nat} (s : Sl W A x) : K6 w ((A, x) :: l) W := ⟨k.1, fun p hp => by
  rcases List.mem_cons.1 hp with e | e
  · rw [e]; exact s
  · exact k.2 p e⟩
theorem nem1 {T : Type} {p : T} {l : List T} : p ∈ p :: l := .head _
theorem nem2 {T : Type} {p x1 : T} {l : List T} : p ∈ x1 :: p :: l := .tail _ nem1
theorem nem3 {T : Type} {p x1 x2 : T} {l : List T} : p ∈ x1 :: x2 :: p :: l := .tail _ nem2
theorem nem4 {T : Type} {p x1 x2 x3 : T} {l : List T} : p ∈ x1 :: x2 :: x3 :: p :: l := .tail _ nem3
theorem k3k {c1 c2 c3 k : Prop} (h : c1 ∧ c2 ∧ c3 ∧ k) : k := h.2.2.2
theorem S3k_next {w w' : World} (hb : Below w.heap.size w w') {p1 p2 p3 : Addr} {v1 v2 v3 : Value} {w0 : World} {l : List (Option Addr × List Nat)}
    (h : w.cell? p1 = some v1 ∧ w.cell? p2 = some v2 ∧ w.cell? p3 = some v3 ∧ K6 w0 l w) : w'.cell? p1 = some v1 ∧ w'.cell? p2 = some v2 ∧ w'.cell? p3 = some v3 ∧ K6 w0 l w' := ⟨cell_next hb h.1, cell_next hb h.2.1, cell_next hb h.2.2.1, h.2.2.2.next hb⟩

/-! ### A decimal is told by its number alone -/
theorem decV_inj (n : Nat) : ∀ P Q : List UInt8, P.length = n → Q.length = n → P.all isD = true → Q.all isD = true → decV P = decV Q → P = Q := by
  induction n with
  | zero =>
    intro P Q h1 h2 _ _ _
    rw [List.eq_nil_of_length_eq_zero h1, List.eq_nil_of_length_eq_zero h2]
  | succ n ih =>
    intro P Q h1 h2 a1 a2 hv
    obtain ⟨P', c, rfl⟩ : ∃ P' c, P = P' ++ [c] := ⟨P.dropLast, P.getLast (by intro e; rw [e] at h1; simp at h1), (List.dropLast_concat_getLast _).symm⟩
    obtain ⟨Q', d, rfl⟩ : ∃ Q' d, Q = Q' ++ [d] := ⟨Q.dropLast, Q.getLast (by intro e; rw [e] at h2; simp at h2), (List.dropLast_concat_getLast _).symm⟩
    simp only [List.length_append, List.length_cons, List.length_nil] at h1 h2
    rw [List.all_append, Bool.and_eq_true] at a1 a2
    rw [decV_snoc, decV_snoc] at hv
    have c1 : isD c = true := by simpa using a1.2
    have d1 : isD d = true := by simpa using a2.2
    unfold isD at c1 d1
    simp only [decide_eq_true_eq] at c1 d1
    have hc : digD c < 10 ∧ digD c + 48 = c.toNat := by unfold digD; omega
    have hd : digD d < 10 ∧ digD d + 48 = d.toNat := by unfold digD; omega
    have e1 : digD c = digD d := by omega
    have e2 : c = d := UInt8.toNat_inj.1 (by omega)
    rw [ih P' Q' (by omega) (by omega) a1.1 a2.1 (by omega), e2]
theorem dec_le {P Q : List UInt8} {x y : Nat} (yp : 0 < y) (hl : P.length ≤ Q.length) (p0 : P ≠ []) (aP : P.all isD = true) (aQ : Q.all isD = true) (hP : decV P * y = x * 10 ^ P.length) (hQ : decV Q * y = x * 10 ^ Q.length) (lQ : Q = [48] ∨ Q.getLast? ≠ some 48) : P = Q := by
  obtain ⟨k, hk⟩ : ∃ k, Q.length = P.length + k := ⟨Q.length - P.length, by omega⟩
  have e1 : decV Q = decV (P ++ List.replicate k 48) := by
    rw [decV_zeros']
    apply Nat.eq_of_mul_eq_mul_right yp
    rw [hQ, Nat.mul_right_comm, hP, hk, Nat.pow_add, Nat.mul_assoc]
  have aR : (P ++ List.replicate k 48).all isD = true := by
    rw [List.all_append, aP, Bool.true_and, List.all_eq_true]
    intro z hz
    rw [List.eq_of_mem_replicate hz]; decide
  have e2 : Q = P ++ List.replicate k 48 := decV_inj Q.length _ _ rfl (by rw [List.length_append, List.length_replicate, hk]) aQ aR e1
  cases k with
  | zero => rw [e2]; simp
  | succ k =>
    rcases lQ with h | h
    · have hp : 0 < P.length := List.length_pos_iff.2 p0
      rw [h] at hk
      simp at hk
      omega
    · exfalso
      apply h
      rw [e2, List.replicate_succ', ← List.append_assoc, List.getLast?_concat]
theorem exact_unique {q : Rat} {s t : List UInt8} (hs : ExactOf q s) (ht : ExactOf q t) : s = t := by
  obtain ⟨P, rfl, a1, a2, a3, a4, _⟩ := hs
  obtain ⟨Q, rfl, b1, b2, b3, b4, _⟩ := ht
  have : P = Q := by
    rcases Nat.le_total P.length Q.length with h | h
    · exact dec_le (qd_pos q) h a2 a1 b1 a4 b4 b3
    · exact (dec_le (qd_pos q) h b2 b1 a1 b4 a4 a3).symm
  rw [this]
theorem int_ln {n : Int} (h1 : -9223372036854775808 ≤ n) (h2 : n ≤ 9223372036854775807) : ln n.natAbs ≤ 64 := Nat.le_trans (ln_le (k := 1) (by rw [Nat.pow_one, LB_eq]; omega)) (by decide)
set_option maxRecDepth 100000 in
set_option maxHeartbeats 4000000 in
theorem rof_q (n d : Int) (q : Rat) (w : World) (n1 : -9223372036854775808 ≤ n) (n2 : n ≤ 9223372036854775807) (d1 : -9223372036854775808 ≤ d) (d2 : d ≤ 9223372036854775807) (d0 : d ≠ 0) (hq' : qmk (isg n != isg d) n.natAbs d.natAbs = q) : Calls Tryz.prog 31 #[.int .i64 n, .int .i64 d] w (RQ w q) := by
  have R0 := hide (fun W (_ : Below w.heap.size w W) => rof_z n W n1 n2)
  have R1 := hide (fun W (_ : Below w.heap.size w W) => rof_z d W d1 d2)
  have NW := hide (fun X Y e g W (_ : Below w.heap.size w W) s1 s2 => rnew_q n d X Y e g q W s1 s2 (int_ln n1 n2) (int_ln d1 d2) d0 hq')
  clear hq' n1 n2 d1 d2
  generalize isg n = s0 at *
  generalize isg d = s1 at *
  generalize n.natAbs = k0 at *
  generalize d.natAbs = k1 at *
  have X3 := hide (Q3.new (.bool false) (.slice none 0 0) (.slice none 0 0) w)
  have kb := hide (bl_al (.refl w.heap.size w) (.cells #[.bool false, .slice none 0 0, .slice none 0 0] 36))
  have oe : binOp .eql 3 (.int .i64 d) (.int .i64 0) = pure (.bool false) := by
    show pure (Value.bool (d == 0)) = _
    rw [beq_eq_false_iff_ne.2 d0]
  have oe' : (d == 0) = false := beq_eq_false_iff_ne.2 d0
  clear d0
  go_enter Tryz.func31, Tryz.ntmps31
  go_wp2_with (first
    | (go_at_call 50; (with_reducible refine (R0.out _ kb.out).mono ?_); rintro e v1 ⟨P1, p1, rfl, z1, hb⟩; have X3 := hide (X3.out.next hb); have kb := hide (bl_trans kb.out hb))
    | (go_at_call 50; (with_reducible refine (R1.out _ kb.out).mono ?_); rintro e v2 ⟨P2, p2, rfl, z2, hb⟩; have X3 := hide (X3.out.next hb); have kb := hide (bl_trans kb.out hb); have z1 := kp' hb z1)
    | (go_at_call 49; (with_reducible refine (NW.out P1 P2 p1 p2 _ kb.out z1 z2).mono ?_); rintro e w3 ⟨A3, c3, B3, d3, rfl, s3, t3, hb⟩; have X3 := hide (X3.out.next hb); have kb := hide (bl_trans kb.out hb); obtain ⟨u1, u2, u3, u4, u5, u6⟩ := X3.out.al (.cells #[.bool (qs q), .slice A3 (ln (qn q)) c3, .slice B3 (ln (qd q)) d3] 36); obtain ⟨y1, y2, y3, y4, y5, y6⟩ := Q3.new (.bool (qs q)) (.slice A3 (ln (qn q)) c3) (.slice B3 (ln (qd q)) d3) w3; have lx := X3.out.lt; have XA := X3; have ne1 : (⟨w.heap.size, 0, none⟩ : Addr) ≠ ⟨w.heap.size, 1, none⟩ := (by intro e; injection e with _ e2 _; exact absurd e2 (by decide)); have ne2 : (⟨w.heap.size, 0, none⟩ : Addr) ≠ ⟨w.heap.size, 2, none⟩ := (by intro e; injection e with _ e2 _; exact absurd e2 (by decide)); have ne3 : (⟨w.heap.size, 1, none⟩ : Addr) ≠ ⟨w.heap.size, 2, none⟩ := (by intro e; injection e with _ e2 _; exact absurd e2 (by decide)); have h1 : (w3.setCell ⟨w.heap.size, 0, none⟩ (.bool (qs q))).cell? ⟨w.heap.size, 1, none⟩ = some (.slice none 0 0) := (by rw [World.cell?_setCell_other _ _ _ _ ne1]; exact XA.out.2.1); have h2 : ((w3.setCell ⟨w.heap.size, 0, none⟩ (.bool (qs q))).setCell ⟨w.heap.size, 1, none⟩ (.slice A3 (ln (qn q)) c3)).cell? ⟨w.heap.size, 2, none⟩ = some (.slice none 0 0) := (by rw [World.cell?_setCell_other _ _ _ _ ne3, World.cell?_setCell_other _ _ _ _ ne2]; exact XA.out.2.2.1); have i1 := cell_next (bl_al (.refl _ _) (.cells #[.bool (qs q), .slice A3 (ln (qn q)) c3, .slice B3 (ln (qd q)) d3] 36)) h1; have i2 := cell_next (bl_al (.refl _ _) (.cells #[.bool (qs q), .slice A3 (ln (qn q)) c3, .slice B3 (ln (qd q)) d3] 36)) h2; have i3 := frozen_next (bl_al (.refl _ _) (.cells #[.bool (qs q), .slice A3 (ln (qn q)) c3, .slice B3 (ln (qd q)) d3] 36)) h1 (by rw [World.frozen?_setCell]; exact XA.out.2.2.2.2.1); have i4 := frozen_next (bl_al (.refl _ _) (.cells #[.bool (qs q), .slice A3 (ln (qn q)) c3, .slice B3 (ln (qd q)) d3] 36)) h2 (by rw [World.frozen?_setCell, World.frozen?_setCell]; exact XA.out.2.2.2.2.2); obtain ⟨r1, r2, r3, r4, r5, r6⟩ := (q3_put XA.out (.bool (qs q)) (.slice A3 (ln (qn q)) c3) (.slice B3 (ln (qd q)) d3)).al (.cells #[.bool (qs q), .slice A3 (ln (qn q)) c3, .slice B3 (ln (qd q)) d3] 36); clear h1 h2 ne1 ne2 ne3))
  refine bodyPost_ret (v := .agg #[.bool (qs q), .slice A3 (ln (qn q)) c3, .slice B3 (ln (qd q)) d3]) (by simp [results, Tryz.results31, go_sem, r1, r2, r3]) rfl (RQ.mk rfl rfl rfl ((s3.over3 XA.out (.bool (qs q)) (.slice A3 (ln (qn q)) c3) (.slice B3 (ln (qd q)) d3)).alloc (.cells #[.bool (qs q), .slice A3 (ln (qn q)) c3, .slice B3 (ln (qd q)) d3] 36)) ((t3.over3 XA.out (.bool (qs q)) (.slice A3 (ln (qn q)) c3) (.slice B3 (ln (qd q)) d3)).alloc (.cells #[.bool (qs q), .slice A3 (ln (qn q)) c3, .slice B3 (ln (qd q)) d3] 36)) (bl_al (Below.over3 kb.out (Nat.le_refl _) (.bool (qs q)) (.slice A3 (ln (qn q)) c3) (.slice B3 (ln (qd q)) d3)) (.cells #[.bool (qs q), .slice A3 (ln (qn q)) c3, .slice B3 (ln (qd q)) d3] 36)))

theorem aw4_no1 : decSp [48, 49] = none := by decide
theorem aw4_no2 : decSp [49, 46] = none := by decide
theorem aw4_ok : decSp [48, 46, 49, 50, 53] = some (qmk false 125 1000) := rfl
theorem aw4_e1 : ExactOf (Rat.divInt 1 8) [48, 46, 49, 50, 53] := ⟨[49, 50, 53], by
  rw [show qn (Rat.divInt 1 8) / qd (Rat.divInt 1 8) = 0 by decide, dec_small (by decide)]; rfl, by decide, by decide, .inr (by decide), by decide, by decide⟩
theorem aw4_t3 : ¬ TenDiv (qd (Rat.divInt 1 3)) := by
  rw [show qd (Rat.divInt 1 3) = 3 by decide, tenDiv_end (by decide)]
  decide
theorem aw4_s3 : showT (Rat.divInt (-1) 3) = [40, 45, 32, 40, 47, 32, 49, 46, 48, 32, 51, 46, 48, 41, 41] := by
  unfold showT sizeT
  rw [show qs (Rat.divInt (-1) 3) = true by decide, show qd (Rat.divInt (-1) 3) = 3 by decide, show qn (Rat.divInt (-1) 3) = 1 by decide, dec_small (by decide), dec_small (by decide)]
  rfl
theorem aw4_s5 : showT (Rat.divInt 5 1) = [53, 46, 48] := by
  unfold showT sizeT
  rw [show qs (Rat.divInt 5 1) = false by decide, show qd (Rat.divInt 5 1) = 1 by decide, show qn (Rat.divInt 5 1) = 5 by decide, dec_small (by decide)]
  rfl
theorem fit4 {q : Rat} (h1 : qn q < LB) (h2 : qd q < LB) : fitq q := ⟨Nat.le_trans (ln_le (k := 1) (by rw [Nat.pow_one]; exact h1)) (by decide), Nat.le_trans (ln_le (k := 1) (by rw [Nat.pow_one]; exact h2)) (by decide)⟩
end Nt

end Go.Proofs.YtfdeiejphlaokaaGreatDoor
