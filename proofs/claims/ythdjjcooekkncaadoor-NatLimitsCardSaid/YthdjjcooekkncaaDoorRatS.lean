
/-
  strings.Cut at a separator of one byte.
  Comparisons, and sums that fit, in numbers.
  The reference's whole numbers: whole, OfInt, ValidInt, cmpInt, CmpInt.
  Package rat: next, nearest, Between, Text, Parse.
  Package rat: Between, Text, Parse.
  The small functions that the laws on fractions call: Same, same, few; rat.Of of 0 below, rat.Quo by 0.
-/
import Derived.Test.YthdjjcooekkncaaDoorShelf2

import Derived.Test.YthdjjcooekkncaaDoorBl

import Derived.Lib.CutLaws

import Derived.Test.YthdjjcooekkncaaDoorMathB

import Derived.Test.YthdjjcooekkncaaDoorWholeA

import Derived.Test.YthdjjcooekkncaaDoorWholeZ

import Derived.Test.YthdjjcooekkncaaDoorRefTrim

import Derived.Test.YthdjjcooekkncaaDoorRatP

namespace Go.Proofs.YthdjjcooekkncaaDoor

open Go.RowKit

namespace Nt

theorem ib_miss {c : UInt8} : ∀ {l : List UInt8}, c ∉ l → Lib.indexByte l c = -1
  | [], _ => rfl
  | b :: l, h => by
    have h1 : b ≠ c := fun e => h (by rw [e]; exact List.mem_cons_self)
    have h2 := ib_miss (l := l) (fun e => h (List.mem_cons_of_mem _ e))
    unfold Lib.indexByte
    rw [h2]
    simp [h1]
theorem ib_hit {c : UInt8} {v : List UInt8} : ∀ {u : List UInt8}, c ∉ u → Lib.indexByte (u ++ c :: v) c = (u.length : Int)
  | [], _ => by
    show Lib.indexByte (c :: v) c = 0
    unfold Lib.indexByte
    simp
  | b :: u, h => by
    have h1 : b ≠ c := fun e => h (by rw [e]; exact List.mem_cons_self)
    have h2 := ib_hit (u := u) (v := v) (fun e => h (List.mem_cons_of_mem _ e))
    show Lib.indexByte (b :: (u ++ c :: v)) c = _
    unfold Lib.indexByte
    rw [h2]
    have h3 : ((u.length : Int) == -1) = false := beq_eq_false_iff_ne.2 (by omega)
    simp [h1, h3]

end Nt

end Go.Proofs.YthdjjcooekkncaaDoor

namespace Go.Proofs.YthdjjcooekkncaaDoor

open Go.RowKit

namespace Nt

theorem cmpN_neg (a b : Nat) : cmpN a b = -cmpN b a := by
  unfold cmpN
  by_cases h : a < b
  · rw [if_pos h, if_neg (by omega), if_pos h]
  · by_cases h' : b < a
    · rw [if_neg h, if_pos h', if_pos h']; rfl
    · rw [if_neg h, if_neg h', if_neg h', if_neg h]; rfl
theorem cmpN_range (a b : Nat) : cmpN a b = -1 ∨ cmpN a b = 0 ∨ cmpN a b = 1 := by
  unfold cmpN; split
  · exact .inl rfl
  · split
    · exact .inr (.inr rfl)
    · exact .inr (.inl rfl)
theorem cmpN_zero {a b : Nat} : cmpN a b = 0 ↔ a = b := by
  unfold cmpN; split
  · constructor <;> intro h <;> omega
  · split <;> constructor <;> intro h <;> omega
theorem cmpN_nonneg {a b : Nat} : 0 ≤ cmpN a b ↔ b ≤ a := by
  unfold cmpN; split
  · constructor <;> intro h <;> omega
  · split <;> constructor <;> intro h <;> omega
theorem validB_digs {n : Nat} (h : n < LB ^ 64) : validB (digs n) = true := validB_iff.2 ⟨digs_64 h, norm_digs n⟩

/-- A valid row of so many words stays far below the limit. -/
theorem val_lt_pow {xs : List Nat} (l : Limbs xs) {k : Nat} (h : xs.length ≤ k) : val xs < LB ^ k := Nat.lt_of_lt_of_le (val_lt l) (Nat.pow_le_pow_right LB_pos h)
theorem add_lt_64 {xs ys : List Nat} (lx : Limbs xs) (ly : Limbs ys) (h : xs.length ≤ 63) (h' : ys.length ≤ 63) : val xs + val ys < LB ^ 64 := by
  have h1 := val_lt_pow lx h
  have h2 := val_lt_pow ly h'
  have : LB ^ 64 = LB * LB ^ 63 := by rw [Nat.pow_succ, Nat.mul_comm]
  rw [this]
  have := Nat.mul_le_mul_right (LB ^ 63) LB_two
  omega

theorem order_bits {xs ys : List Nat} (lx : Limbs xs) (ly : Limbs ys) (vx : validB xs = true) (vy : validB ys = true) (h : val xs ≤ val ys) : bitsSp xs ≤ bitsSp ys := by
  rw [bits_val lx vx, bits_val ly vy]; exact blen_mono h

end Nt

end Go.Proofs.YthdjjcooekkncaaDoor

namespace Go.Proofs.YthdjjcooekkncaaDoor

open Go.RowKit

namespace Nt

theorem litZ (w : World) (v : Int) (k : Nat) (h : v = (k : Int)) {g : Nat} (hg : w.heap.size = g) : Sl (w.alloc (.cells #[.int .u64 v] 40)) (some ⟨g, 0, none⟩) [k] := by
  subst h; exact litSl _ _ [k] rfl hg
theorem conv_pos {n : Nat} (h : n ≤ 9223372036854775807) : IntKind.u64.wrap (n : Int) = (n : Int) := by rw [IntKind.wrap_u64]; omega

/-- Comparing two of a sign each. -/
def cmpSg (s : Bool) (x : Nat) (t : Bool) (y : Nat) : Int := if s = t then (if s then -cmpN x y else cmpN x y) else (if s then -1 else 1)
theorem cmpSg_ok {s t : Bool} {xs ys : List Nat} (lx : Limbs xs) (ly : Limbs ys) (hs : validI s xs = true) (ht : validI t ys = true) : cmpSg s (val xs) t (val ys) = cmpISp s xs t ys := by
  unfold cmpSg
  cases s <;> cases t
  · rw [cmpI_pp hs ht, cmpSp_ok (validI_B hs) (validI_B ht)]; rfl
  · rw [cmpI_pn ly hs ht]; rfl
  · rw [cmpI_np lx hs ht]; rfl
  · rw [cmpI_nn hs ht, cmpSp_ok (validI_B ht) (validI_B hs), cmpN_neg]
    simp

end Nt

end Go.Proofs.YthdjjcooekkncaaDoor

namespace Go.Proofs.YthdjjcooekkncaaDoor

open Go.RowKit

namespace Nt

theorem pos_qs {r : Rat} : 0 < r ↔ qs r = false ∧ 0 < qn r := by
  rw [qn_pos_iff]
  constructor
  · intro h
    refine ⟨?_, fun e => ?_⟩
    · cases e : qs r
      · rfl
      · exact absurd (Rat.le_of_lt (lt0_qs.2 e)) (Rat.not_le.2 h)
    · subst e; exact Rat.lt_irrefl h
  · rintro ⟨h1, h2⟩
    refine Rat.lt_of_le_of_ne (Rat.not_lt.1 fun e => ?_) (fun e => h2 e.symm)
    rw [lt0_qs.1 e] at h1
    cases h1
theorem near_a {q r : Rat} (h : qs q = true) (h1 : qs r = false) (h2 : 0 < qn r) : near q r = 0 := near_zero (lt0_qs.2 h) (pos_qs.2 ⟨h1, h2⟩)
theorem near_b {q r : Rat} (h : qs q = true) (h1 : ¬ (qs r = false ∧ 0 < qn r)) : near q r = ((-(nxt r : Int) : Int) : Rat) := by
  unfold near
  rw [if_neg (fun e => h1 (pos_qs.1 e.2)), if_pos (lt0_qs.2 h)]
theorem near_c {q r : Rat} (h : qs q = false) : near q r = (((nxt q : Nat) : Int) : Rat) := by
  have h0 : ¬ q < 0 := fun e => by rw [lt0_qs.1 e] at h; cases h
  unfold near
  rw [if_neg (fun e => h0 e.1), if_neg h0]
theorem nxt_pos (q : Rat) : 0 < nxt q := Nat.succ_pos _
theorem nxt_len {q : Rat} {k : Nat} (h : ln (qn q) ≤ k) (hk : 0 < k) : ln (nxt q) ≤ k + 1 := by
  unfold nxt
  refine ln_add _ _ k (Nat.le_trans (ln_div _ _) h) ?_
  rw [ln_one]
  exact hk
end Nt

end Go.Proofs.YthdjjcooekkncaaDoor

namespace Go.Proofs.YthdjjcooekkncaaDoor

open Go.RowKit

namespace Nt

theorem cmpQ_lt {q r : Rat} (h : q < r) : cmpQ q r = -1 := by unfold cmpQ; rw [if_pos h]
theorem cmpQ_nlt {q r : Rat} (h : ¬ q < r) : 0 ≤ cmpQ q r := by unfold cmpQ; rw [if_neg h]; split <;> omega
theorem near_len {q r : Rat} (f1 : fitq q) (f2 : fitq r) : ln (qn (near q r)) ≤ 65 ∧ ln (qd (near q r)) ≤ 65 := by
  unfold near
  split
  · exact ⟨by rw [show qn (0 : Rat) = 0 from rfl, ln_zero]; decide, by rw [show qd (0 : Rat) = 1 from rfl, ln_one]; decide⟩
  · split
    · rw [qn_int, qd_int, ln_one]
      exact ⟨by rw [show (-(nxt r : Int)).natAbs = nxt r by omega]; exact nxt_len f2.1 (by decide), by decide⟩
    · rw [qn_int, qd_int, ln_one]
      exact ⟨by rw [show ((nxt q : Nat) : Int).natAbs = nxt q by omega]; exact nxt_len f1.1 (by decide), by decide⟩
theorem half_of : qmk (isg 1 != isg 2) (1 : Int).natAbs (2 : Int).natAbs = Rat.divInt 1 2 := qmk_divInt 1 2 (by decide)
theorem half_len : ln (qn (Rat.divInt 1 2)) ≤ 2000 ∧ ln (qd (Rat.divInt 1 2)) ≤ 2000 := by
  have h1 : qn (Rat.divInt 1 2) = 1 := by decide
  have h2 : qd (Rat.divInt 1 2) = 2 := by decide
  rw [h1, h2]
  exact ⟨Nat.le_trans (ln_le (k := 1) (by decide)) (by decide), Nat.le_trans (ln_le (k := 1) (by decide)) (by decide)⟩
/-- A fraction's text. -/
def textQ (q : Rat) : List UInt8 := textISp (qs q) (digs (qn q)) ++ (if qd q = 1 then [] else 47 :: Lib.decDigits (qd q))
theorem op_cat (t : TypeId) (x y : ByteArray) (h : x.size + y.size ≤ 1000000) : binOp .add t (.string x) (.string y) = pure (.string (x ++ y)) := by
  show (if ((x.size + y.size : Nat) : Int) > IntKind.i64.max then _ else pure (Value.string (x ++ y))) = _
  rw [if_neg]
  have : IntKind.i64.max = 9223372036854775807 := rfl
  omega
theorem textI_size (s : Bool) (x : Nat) : (⟨(textISp s (digs x)).toArray⟩ : ByteArray).size ≤ 10001 := by
  have h := text_size (limbs_digs x)
  have h' : (textSp (digs x)).length ≤ 10000 := by rwa [Lib.size_eq] at h
  rw [Lib.size_eq]
  show (textISp s (digs x)).length ≤ 10001
  unfold textISp
  split
  · split
    · simp only [List.length_cons]; omega
    · omega
  · simp
theorem dec_size {x : Nat} (h : ln x ≤ 64) : (⟨(Lib.decDigits x).toArray⟩ : ByteArray).size ≤ 10000 := by
  have h1 := text_size (limbs_digs x)
  have h2 : textSp (digs x) = Lib.decDigits x := by
    unfold textSp
    rw [valid_short h (norm_digs _), val_digs]; rfl
  rwa [h2] at h1
theorem nat_text (A : Option Addr) (c x : Nat) (w : World) (s : Sl w A (digs x)) (h : ln x ≤ 64) (ht : Pow10 w) :
    Calls Tryd.prog 26 #[.slice A (ln x) c] w fun e w' => e = .returned (.string ⟨(Lib.decDigits x).toArray⟩) ∧ Below w.heap.size w w' := by
  have t := text_ok A (ln x) c (digs x) w rfl s (limbs_digs _) (valid_short h (norm_digs _)) h ht
  rwa [val_digs] at t

end Nt

end Go.Proofs.YthdjjcooekkncaaDoor

namespace Go.Proofs.YthdjjcooekkncaaDoor

open Go.RowKit

namespace Nt

theorem lsame_z (A B : Option Addr) (c d n m : Nat) (xs ys : List Nat) (w : World) (hx : Sl w A xs) (hy : Sl w B ys) (hn : xs.length = n) (hm : ys.length = m) (hl : n ≤ 1000000) (hl' : m ≤ 1000000) (r : Bool) (hr : decide (xs = ys) = r) :
    Calls Tryd.prog 50 #[.slice A n c, .slice B m d] w fun e w' => e = .returned (.bool r) ∧ Below w.heap.size w w' := by
  subst hn hm hr
  exact (same_any A B c d xs ys w hx hy hl hl').mono fun e w' h => ⟨h.1, by obtain ⟨n, e⟩ := h.2; exact bl_q0 e⟩
theorem cq_t (t : TypeId) {x y : Int} (h : x ≤ y) : binOp .leq t (.int .i64 x) (.int .i64 y) = pure (.bool true) := by
  show pure (Value.bool (decide (x ≤ y))) = _
  rw [decide_eq_true h]
theorem cq_f (t : TypeId) {x y : Int} (h : y < x) : binOp .leq t (.int .i64 x) (.int .i64 y) = pure (.bool false) := by
  show pure (Value.bool (decide (x ≤ y))) = _
  rw [decide_eq_false (by omega)]
theorem sameInt_z (x y : Int) (A B : Option Addr) (c d : Nat) (w : World) (sx : Sl w A (digs x.natAbs)) (sy : Sl w B (digs y.natAbs)) (hx : ln x.natAbs ≤ 1000000) (hy : ln y.natAbs ≤ 1000000) (r : Bool) (hr : decide (x = y) = r) :
    Calls Tryd.prog 70 #[.agg #[.bool (isg x), .slice A (ln x.natAbs) c], .agg #[.bool (isg y), .slice B (ln y.natAbs) d]] w fun e w' => e = .returned (.bool r) ∧ Below w.heap.size w w' := by
  have h := sameInt_any (isg x) (isg y) A B c d (ln x.natAbs) (ln y.natAbs) (digs x.natAbs) (digs y.natAbs) w rfl rfl sx sy hx hy
  rw [show decide (isg x = isg y ∧ digs x.natAbs = digs y.natAbs) = r from hr ▸ decide_eq_decide.2 row_eq] at h
  exact h
end Nt

end Go.Proofs.YthdjjcooekkncaaDoor
