
/-
  strings.Cut at a separator of one byte.
  Comparisons, and sums that fit, in numbers.
  The reference's whole numbers: whole, OfInt, ValidInt, cmpInt, CmpInt.
  Package rat: next, nearest, Between, Text, Parse.
  Package rat: Between, Text, Parse.
  The small functions that the laws on fractions call: Same, same, few; rat.Of of 0 below, rat.Quo by 0.
  Package rat: Parse of a text of one number, and of what Text writes.
-/
import Derived.Test.YtgimmmmpollkhaaGreatShelf2

import Derived.Test.YtgimmmmpollkhaaGreatBl

import Derived.Lib.CutLaws

import Derived.Test.YtgimmmmpollkhaaGreatMathB

import Derived.Test.YtgimmmmpollkhaaGreatWholeA

import Derived.Test.YtgimmmmpollkhaaGreatWholeZ

import Derived.Test.YtgimmmmpollkhaaGreatRefTrim

import Derived.Test.YtgimmmmpollkhaaGreatRatP

namespace Go.Proofs.YtgimmmmpollkhaaGreat

open Go.RowKit

namespace Nt

theorem ib_miss {c : UInt8} : ∀ {l : List UInt8}, c ∉ l → Lib.indexByte l c = -1
  | [], _ => rfl
  | b :: l, h => by
    have h1 : b ≠ c := fun e => h (by rw [e]; exact List.mem_cons_self)
    have h2 := ib_miss (l := l) (fun e => h (List.mem_cons_of_mem _ e))
    unfold Lib.indexByte
    rw [h2]
    simp [h1]
theorem ib_hit {c : UInt8} {v : List UInt8} : ∀ {u : List UInt8}, c ∉ u → Lib.indexByte (u ++ c :: v) c = (u.length : Int)
  | [], _ => by
    show Lib.indexByte (c :: v) c = 0
    unfold Lib.indexByte
    simp
  | b :: u, h => by
    have h1 : b ≠ c := fun e => h (by rw [e]; exact List.mem_cons_self)
    have h2 := ib_hit (u := u) (v := v) (fun e => h (List.mem_cons_of_mem _ e))
    show Lib.indexByte (b :: (u ++ c :: v)) c = _
    unfold Lib.indexByte
    rw [h2]
    have h3 : ((u.length : Int) == -1) = false := beq_eq_false_iff_ne.2 (by omega)
    simp [h1, h3]

end Nt

end Go.Proofs.YtgimmmmpollkhaaGreat

namespace Go.Proofs.YtgimmmmpollkhaaGreat

open Go.RowKit

namespace Nt

theorem cmpN_neg (a b : Nat) : cmpN a b = -cmpN b a := by
  unfold cmpN
  by_cases h : a < b
  · rw [if_pos h, if_neg (by omega), if_pos h]
  · by_cases h' : b < a
    · rw [if_neg h, if_pos h', if_pos h']; rfl
    · rw [if_neg h, if_neg h', if_neg h', if_neg h]; rfl
theorem cmpN_range (a b : Nat) : cmpN a b = -1 ∨ cmpN a b = 0 ∨ cmpN a b = 1 := by
  unfold cmpN; split
  · exact .inl rfl
  · split
    · exact .inr (.inr rfl)
    · exact .inr (.inl rfl)
theorem cmpN_zero {a b : Nat} : cmpN a b = 0 ↔ a = b := by
  unfold cmpN; split
  · constructor <;> intro h <;> omega
  · split <;> constructor <;> intro h <;> omega
theorem cmpN_nonneg {a b : Nat} : 0 ≤ cmpN a b ↔ b ≤ a := by
  unfold cmpN; split
  · constructor <;> intro h <;> omega
  · split <;> constructor <;> intro h <;> omega
theorem validB_digs {n : Nat} (h : n < LB ^ 64) : validB (digs n) = true := validB_iff.2 ⟨digs_64 h, norm_digs n⟩

/-- A valid row of so many words stays far below the limit. -/
theorem val_lt_pow {xs : List Nat} (l : Limbs xs) {k : Nat} (h : xs.length ≤ k) : val xs < LB ^ k := Nat.lt_of_lt_of_le (val_lt l) (Nat.pow_le_pow_right LB_pos h)
theorem add_lt_64 {xs ys : List Nat} (lx : Limbs xs) (ly : Limbs ys) (h : xs.length ≤ 63) (h' : ys.length ≤ 63) : val xs + val ys < LB ^ 64 := by
  have h1 := val_lt_pow lx h
  have h2 := val_lt_pow ly h'
  have : LB ^ 64 = LB * LB ^ 63 := by rw [Nat.pow_succ, Nat.mul_comm]
  rw [this]
  have := Nat.mul_le_mul_right (LB ^ 63) LB_two
  omega

theorem order_bits {xs ys : List Nat} (lx : Limbs xs) (ly : Limbs ys) (vx : validB xs = true) (vy : validB ys = true) (h : val xs ≤ val ys) : bitsSp xs ≤ bitsSp ys := by
  rw [bits_val lx vx, bits_val ly vy]; exact blen_mono h

end Nt

end Go.Proofs.YtgimmmmpollkhaaGreat

namespace Go.Proofs.YtgimmmmpollkhaaGreat

open Go.RowKit

namespace Nt

set_option maxHeartbeats 400000 in
theorem rwhole_any (s : Bool) (A : Option Addr) (n c : Nat) (w : World) (hn : n ≤ 9223372036854775807) :
    Calls Tryz.prog 121 #[.bool s, .slice A n c] w fun e w' => e = .returned (.agg #[.bool (s && decide (0 < n)), .slice A n c]) ∧ Below w.heap.size w w' := by
  cases s with
  | false =>
    go_enter Tryz.func121, Tryz.ntmps121
    go_wp2
    exact bodyPost_ret (v := .agg #[.bool false, .slice A n c]) (by simp [results, Tryz.results121, go_sem]) rfl ⟨rfl, ((Below.refl _ _).alloc (Nat.le_refl _) _)⟩
  | true =>
    by_cases h0 : n = 0
    · subst h0
      go_enter Tryz.func121, Tryz.ntmps121
      go_wp2
      exact bodyPost_ret (v := .agg #[.bool false, .slice A 0 c]) (by simp [results, Tryz.results121, go_sem]) rfl ⟨rfl, ((Below.refl _ _).alloc (Nat.le_refl _) _)⟩
    · have hp : 0 < n := by omega
      have E := hide (show (true && decide (0 < n)) = true by simp [hp])
      clear h0
      go_enter Tryz.func121, Tryz.ntmps121
      go_wp2
      exact bodyPost_ret (v := .agg #[.bool true, .slice A n c]) (by simp [results, Tryz.results121, go_sem]) rfl ⟨by rw [E.out], ((Below.refl _ _).alloc (Nat.le_refl _) _)⟩

set_option maxHeartbeats 400000 in
theorem rvalidI_any (s : Bool) (A : Option Addr) (c : Nat) (xs : List Nat) (w : World) (hs : Sl w A xs) (hl : xs.length ≤ 9223372036854775807) :
    Calls Tryz.prog 120 #[.agg #[.bool s, .slice A xs.length c]] w fun e w' => e = .returned (.bool (validI s xs)) ∧ Below w.heap.size w w' := by
  have V := hide (fun W (h : Sl W A xs) => rvalid_any A c xs W h hl)
  have HS := hide hs
  clear hs
  cases hv : validB xs with
  | false =>
    have E := hide (show validI s xs = false by unfold validI; rw [hv]; rfl)
    rw [hv] at V
    clear hv
    generalize xs.length = n at *
    go_enter Tryz.func120, Tryz.ntmps120
    go_wp2_with (go_at_call 75; (with_reducible refine (V.out _ (HS.out.alloc _)).mono ?_); rintro e w' ⟨rfl, rfl⟩)
    go_ret
    exact ⟨ret_bool E.out.symm, ((Below.refl _ _).alloc (Nat.le_refl _) _)⟩
  | true =>
    have E := hide (show validI s xs = (!s || decide (0 < xs.length)) by unfold validI; rw [hv]; rfl)
    rw [hv] at V
    clear hv
    generalize xs.length = n at *
    by_cases h0 : n = 0
    · subst h0
      cases s <;>
      · go_enter Tryz.func120, Tryz.ntmps120
        go_wp2_with (go_at_call 75; (with_reducible refine (V.out _ (HS.out.alloc _)).mono ?_); rintro e w' ⟨rfl, rfl⟩)
        go_ret
        exact ⟨ret_bool (by rw [E.out]; rfl), ((Below.refl _ _).alloc (Nat.le_refl _) _)⟩
    · have hp : 0 < n := by omega
      have E2 := hide (show (!s || decide (0 < n)) = true by simp [hp])
      clear h0
      cases s <;>
      · go_enter Tryz.func120, Tryz.ntmps120
        go_wp2_with (go_at_call 75; (with_reducible refine (V.out _ (HS.out.alloc _)).mono ?_); rintro e w' ⟨rfl, rfl⟩)
        go_ret
        exact ⟨ret_bool (by rw [E.out, E2.out]), ((Below.refl _ _).alloc (Nat.le_refl _) _)⟩

theorem litZ (w : World) (v : Int) (k : Nat) (h : v = (k : Int)) {g : Nat} (hg : w.heap.size = g) : Sl (w.alloc (.cells #[.int .u64 v] 119)) (some ⟨g, 0, none⟩) [k] := by
  subst h; exact litSl _ _ [k] rfl hg
theorem conv_pos {n : Nat} (h : n ≤ 9223372036854775807) : IntKind.u64.wrap (n : Int) = (n : Int) := by rw [IntKind.wrap_u64]; omega

set_option maxRecDepth 100000 in
set_option maxHeartbeats 1000000 in
theorem rofI_any (z : Int) (w : World) (h1 : -9223372036854775808 ≤ z) (h2 : z ≤ 9223372036854775807) :
    Calls Tryz.prog 80 #[.int .i64 z] w (IOne w (mkI z)) := by
  have X := hide (cells2 w (.bool false) (.slice none 0 0) 104)
  by_cases h : z < 0
  · have hk : z.natAbs < LB := by rw [LB_eq]; omega
    have E := hide (show mkI z = (true && decide (0 < (trimz [z.natAbs]).length), trimz [z.natAbs]) by
      rw [← digs_word hk]
      have hp : 0 < (digs z.natAbs).length := digs_len_pos.2 (by omega)
      unfold mkI isg idg
      rw [decide_eq_true h, decide_eq_true hp]; rfl)
    have nw := neg_wrap h h1
    have T : Hid (∀ A W, Sl W A [z.natAbs] → Calls Tryz.prog 93 #[.slice A 1 1] W (Mk W (trimz [z.natAbs]))) := fun A W hs => rtrim_any A 1 [z.natAbs] W hs (Nat.le_refl _) (by simp)
    have L := hide (show (trimz [z.natAbs]).length ≤ 9223372036854775807 from Nat.le_trans (trimz_len_le _) (by simp))
    go_enter Tryz.func80, Tryz.ntmps80
    go_wp2_with (first
      | (go_at_call 93; (with_reducible refine (T.out _ _ (litZ _ _ _ rfl (size1 _ _))).mono ?_); rintro e w1 ⟨A3, c3, rfl, r3, hb⟩; have g := bl_one hb; have x1 := cell_next g X.out.1; have x2 := cell_next g X.out.2.1; have x3 := frozen_next g X.out.1 X.out.2.2.1; have x4 := frozen_next g X.out.2.1 X.out.2.2.2; have s3 := hide r3.sl; have b1 := bl_one g; clear r3 hb g)
      | (go_at_call 121; (with_reducible refine (rwhole_any true A3 _ c3 _ L.out).mono ?_); rintro e w2 ⟨rfl, hb⟩; have x3 := frozen_next hb x1 x3; have x4 := frozen_next hb x2 x4; have x1 := cell_next hb x1; have x2 := cell_next hb x2; have s4 := hide (bl_keeps hb _ _ s3.out); have b2 := bl_trans b1 hb; clear hb))
    exact bodyPost_ret (v := .agg #[.bool (true && decide (0 < (trimz [z.natAbs]).length)), .slice A3 (trimz [z.natAbs]).length c3]) (by simp [results, Tryz.results80, go_sem, x1, x2]) rfl (IOne.mk E.out rfl (s4.out.store2 x1 x2 _ _) (Below.store2 b2 (Nat.le_refl _) _ _))
  · obtain ⟨n, rfl⟩ : ∃ n : Nat, z = (n : Int) := ⟨z.toNat, by omega⟩
    have hk : n < LB := by rw [LB_eq]; omega
    have E := hide (show mkI (n : Int) = (false && decide (0 < (trimz [n]).length), trimz [n]) by
      rw [← digs_word hk]
      unfold mkI isg idg
      rw [decide_eq_false h, Int.natAbs_natCast]; rfl)
    have nw := conv_pos (show n ≤ 9223372036854775807 by omega)
    have T : Hid (∀ A W, Sl W A [n] → Calls Tryz.prog 93 #[.slice A 1 1] W (Mk W (trimz [n]))) := fun A W hs => rtrim_any A 1 [n] W hs (Nat.le_refl _) (by simp)
    have L := hide (show (trimz [n]).length ≤ 9223372036854775807 from Nat.le_trans (trimz_len_le _) (by simp))
    go_enter Tryz.func80, Tryz.ntmps80
    go_wp2_with (first
      | (go_at_call 93; (with_reducible refine (T.out _ _ (litZ _ _ _ rfl (size1 _ _))).mono ?_); rintro e w1 ⟨A3, c3, rfl, r3, hb⟩; have g := bl_one hb; have x1 := cell_next g X.out.1; have x2 := cell_next g X.out.2.1; have x3 := frozen_next g X.out.1 X.out.2.2.1; have x4 := frozen_next g X.out.2.1 X.out.2.2.2; have s3 := hide r3.sl; have b1 := bl_one g; clear r3 hb g)
      | (go_at_call 121; (with_reducible refine (rwhole_any false A3 _ c3 _ L.out).mono ?_); rintro e w2 ⟨rfl, hb⟩; have x3 := frozen_next hb x1 x3; have x4 := frozen_next hb x2 x4; have x1 := cell_next hb x1; have x2 := cell_next hb x2; have s4 := hide (bl_keeps hb _ _ s3.out); have b2 := bl_trans b1 hb; clear hb))
    exact bodyPost_ret (v := .agg #[.bool (false && decide (0 < (trimz [n]).length)), .slice A3 (trimz [n]).length c3]) (by simp [results, Tryz.results80, go_sem, x1, x2]) rfl (IOne.mk E.out rfl (s4.out.store2 x1 x2 _ _) (Below.store2 b2 (Nat.le_refl _) _ _))

/-- Comparing two of a sign each. -/
def cmpSg (s : Bool) (x : Nat) (t : Bool) (y : Nat) : Int := if s = t then (if s then -cmpN x y else cmpN x y) else (if s then -1 else 1)
theorem cmpSg_ok {s t : Bool} {xs ys : List Nat} (lx : Limbs xs) (ly : Limbs ys) (hs : validI s xs = true) (ht : validI t ys = true) : cmpSg s (val xs) t (val ys) = cmpISp s xs t ys := by
  unfold cmpSg
  cases s <;> cases t
  · rw [cmpI_pp hs ht, cmpSp_ok (validI_B hs) (validI_B ht)]; rfl
  · rw [cmpI_pn ly hs ht]; rfl
  · rw [cmpI_np lx hs ht]; rfl
  · rw [cmpI_nn hs ht, cmpSp_ok (validI_B ht) (validI_B hs), cmpN_neg]
    simp

set_option maxRecDepth 100000 in
set_option maxHeartbeats 1000000 in
theorem rcmpS_any (s t : Bool) (A B : Option Addr) (c d : Nat) (xs ys : List Nat) (w : World) (hx : Sl w A xs) (hy : Sl w B ys) (lx : Limbs xs) (ly : Limbs ys) (nx : Norm xs) (ny : Norm ys) (hl : xs.length ≤ 1000000) (hl' : ys.length ≤ 1000000) :
    Calls Tryz.prog 143 #[.agg #[.bool s, .slice A xs.length c], .agg #[.bool t, .slice B ys.length d]] w fun e w' => e = .returned (.int .i64 (cmpSg s (val xs) t (val ys))) ∧ Below w.heap.size w w' := by
  have M := hide (fun W (h : Below w.heap.size w W) => rcmp_any A B c d xs ys W (bl_keeps h _ _ hx) (bl_keeps h _ _ hy) lx ly nx ny hl hl')
  have b0 : Below w.heap.size w ((w.alloc (.cells #[.bool s, .slice A xs.length c] 104)).alloc (.cells #[.bool t, .slice B ys.length d] 104)) := bl_al (bl_al (.refl _ _) _) _
  obtain ⟨x1, x2, x3, x4⟩ := Bx2.start s A xs.length c t B ys.length d w
  have hz : -1 ≤ cmpN (val xs) (val ys) ∧ cmpN (val xs) (val ys) ≤ 1 := by rcases cmpN_range (val xs) (val ys) with h | h | h <;> omega
  have E := hide (show cmpSg s (val xs) t (val ys) = if s = t then (if s then -cmpN (val xs) (val ys) else cmpN (val xs) (val ys)) else (if s then -1 else 1) from rfl)
  clear hx hy lx ly nx ny
  generalize cmpN (val xs) (val ys) = z at *
  generalize cmpSg s (val xs) t (val ys) = k at *
  generalize xs.length = n at *
  generalize ys.length = m at *
  have hw : IntKind.i64.wrap (-z) = -z := by rw [IntKind.wrap_i64]; omega
  have e1 : ∀ W, (binOp .neq 4 (.bool false) (.bool false)).run Tryz.prog W = .ok (.bool false) W := fun _ => by kernel_rfl
  have e2 : ∀ W, (binOp .neq 4 (.bool true) (.bool false)).run Tryz.prog W = .ok (.bool true) W := fun _ => by kernel_rfl
  have e3 : ∀ W, (binOp .neq 4 (.bool false) (.bool true)).run Tryz.prog W = .ok (.bool true) W := fun _ => by kernel_rfl
  have e4 : ∀ W, (binOp .neq 4 (.bool true) (.bool true)).run Tryz.prog W = .ok (.bool false) W := fun _ => by kernel_rfl
  cases s <;> cases t
  · go_enter Tryz.func143, Tryz.ntmps143
    go_wp2_with (go_at_call 76; (with_reducible refine (M.out _ b0).mono ?_); rintro e w3 ⟨rfl, q0, h0⟩; have b3 := bl_trans b0 (bl_q0 h0); clear h0)
    go_ret
    exact ⟨ret_one E.out.symm, b3⟩
  · go_enter Tryz.func143, Tryz.ntmps143
    go_wp2
    go_ret
    exact ⟨ret_one E.out.symm, b0⟩
  · go_enter Tryz.func143, Tryz.ntmps143
    go_wp2
    go_ret
    exact ⟨ret_one E.out.symm, b0⟩
  · go_enter Tryz.func143, Tryz.ntmps143
    go_wp2_with (go_at_call 76; (with_reducible refine (M.out _ b0).mono ?_); rintro e w3 ⟨rfl, q0, h0⟩; have b3 := bl_trans b0 (bl_q0 h0); clear h0)
    go_ret
    exact ⟨ret_one E.out.symm, b3⟩

end Nt

end Go.Proofs.YtgimmmmpollkhaaGreat

namespace Go.Proofs.YtgimmmmpollkhaaGreat

open Go.RowKit

namespace Nt

theorem pos_qs {r : Rat} : 0 < r ↔ qs r = false ∧ 0 < qn r := by
  rw [qn_pos_iff]
  constructor
  · intro h
    refine ⟨?_, fun e => ?_⟩
    · cases e : qs r
      · rfl
      · exact absurd (Rat.le_of_lt (lt0_qs.2 e)) (Rat.not_le.2 h)
    · subst e; exact Rat.lt_irrefl h
  · rintro ⟨h1, h2⟩
    refine Rat.lt_of_le_of_ne (Rat.not_lt.1 fun e => ?_) (fun e => h2 e.symm)
    rw [lt0_qs.1 e] at h1
    cases h1
theorem near_a {q r : Rat} (h : qs q = true) (h1 : qs r = false) (h2 : 0 < qn r) : near q r = 0 := near_zero (lt0_qs.2 h) (pos_qs.2 ⟨h1, h2⟩)
theorem near_b {q r : Rat} (h : qs q = true) (h1 : ¬ (qs r = false ∧ 0 < qn r)) : near q r = ((-(nxt r : Int) : Int) : Rat) := by
  unfold near
  rw [if_neg (fun e => h1 (pos_qs.1 e.2)), if_pos (lt0_qs.2 h)]
theorem near_c {q r : Rat} (h : qs q = false) : near q r = (((nxt q : Nat) : Int) : Rat) := by
  have h0 : ¬ q < 0 := fun e => by rw [lt0_qs.1 e] at h; cases h
  unfold near
  rw [if_neg (fun e => h0 e.1), if_neg h0]
theorem nxt_pos (q : Rat) : 0 < nxt q := Nat.succ_pos _
theorem nxt_len {q : Rat} {k : Nat} (h : ln (qn q) ≤ k) (hk : 0 < k) : ln (nxt q) ≤ k + 1 := by
  unfold nxt
  refine ln_add _ _ k (Nat.le_trans (ln_div _ _) h) ?_
  rw [ln_one]
  exact hk
end Nt

end Go.Proofs.YtgimmmmpollkhaaGreat

namespace Go.Proofs.YtgimmmmpollkhaaGreat

open Go.RowKit

namespace Nt

theorem cmpQ_lt {q r : Rat} (h : q < r) : cmpQ q r = -1 := by unfold cmpQ; rw [if_pos h]
theorem cmpQ_nlt {q r : Rat} (h : ¬ q < r) : 0 ≤ cmpQ q r := by unfold cmpQ; rw [if_neg h]; split <;> omega
theorem near_len {q r : Rat} (f1 : fitq q) (f2 : fitq r) : ln (qn (near q r)) ≤ 65 ∧ ln (qd (near q r)) ≤ 65 := by
  unfold near
  split
  · exact ⟨by rw [show qn (0 : Rat) = 0 from rfl, ln_zero]; decide, by rw [show qd (0 : Rat) = 1 from rfl, ln_one]; decide⟩
  · split
    · rw [qn_int, qd_int, ln_one]
      exact ⟨by rw [show (-(nxt r : Int)).natAbs = nxt r by omega]; exact nxt_len f2.1 (by decide), by decide⟩
    · rw [qn_int, qd_int, ln_one]
      exact ⟨by rw [show ((nxt q : Nat) : Int).natAbs = nxt q by omega]; exact nxt_len f1.1 (by decide), by decide⟩
theorem half_of : qmk (isg 1 != isg 2) (1 : Int).natAbs (2 : Int).natAbs = Rat.divInt 1 2 := qmk_divInt 1 2 (by decide)
theorem half_len : ln (qn (Rat.divInt 1 2)) ≤ 2000 ∧ ln (qd (Rat.divInt 1 2)) ≤ 2000 := by
  have h1 : qn (Rat.divInt 1 2) = 1 := by decide
  have h2 : qd (Rat.divInt 1 2) = 2 := by decide
  rw [h1, h2]
  exact ⟨Nat.le_trans (ln_le (k := 1) (by decide)) (by decide), Nat.le_trans (ln_le (k := 1) (by decide)) (by decide)⟩
/-- A fraction's text. -/
def textQ (q : Rat) : List UInt8 := textISp (qs q) (digs (qn q)) ++ (if qd q = 1 then [] else 47 :: Lib.decDigits (qd q))
theorem op_cat (t : TypeId) (x y : ByteArray) (h : x.size + y.size ≤ 1000000) : binOp .add t (.string x) (.string y) = pure (.string (x ++ y)) := by
  show (if ((x.size + y.size : Nat) : Int) > IntKind.i64.max then _ else pure (Value.string (x ++ y))) = _
  rw [if_neg]
  have : IntKind.i64.max = 9223372036854775807 := rfl
  omega
theorem textI_size (s : Bool) (x : Nat) : (⟨(textISp s (digs x)).toArray⟩ : ByteArray).size ≤ 10001 := by
  have h := text_size (limbs_digs x)
  have h' : (textSp (digs x)).length ≤ 10000 := by rwa [Lib.size_eq] at h
  rw [Lib.size_eq]
  show (textISp s (digs x)).length ≤ 10001
  unfold textISp
  split
  · split
    · simp only [List.length_cons]; omega
    · omega
  · simp
theorem dec_size {x : Nat} (h : ln x ≤ 64) : (⟨(Lib.decDigits x).toArray⟩ : ByteArray).size ≤ 10000 := by
  have h1 := text_size (limbs_digs x)
  have h2 : textSp (digs x) = Lib.decDigits x := by
    unfold textSp
    rw [valid_short h (norm_digs _), val_digs]; rfl
  rwa [h2] at h1
end Nt

end Go.Proofs.YtgimmmmpollkhaaGreat

namespace Go.Proofs.YtgimmmmpollkhaaGreat

open Go.RowKit

namespace Nt

theorem lsame_z (A B : Option Addr) (c d n m : Nat) (xs ys : List Nat) (w : World) (hx : Sl w A xs) (hy : Sl w B ys) (hn : xs.length = n) (hm : ys.length = m) (hl : n ≤ 1000000) (hl' : m ≤ 1000000) (r : Bool) (hr : decide (xs = ys) = r) :
    Calls Tryz.prog 70 #[.slice A n c, .slice B m d] w fun e w' => e = .returned (.bool r) ∧ Below w.heap.size w w' := by
  subst hn hm hr
  exact (same_any A B c d xs ys w hx hy hl hl').mono fun e w' h => ⟨h.1, by obtain ⟨n, e⟩ := h.2; exact bl_q0 e⟩
set_option maxRecDepth 100000 in
set_option maxHeartbeats 4000000 in
theorem Same_any (s t : Bool) (A B C D : Option Addr) (a b c d i1 i2 i3 i4 : Nat) (xs ys us vs : List Nat) (w : World) (sA : Sl w A xs) (sB : Sl w B ys) (sC : Sl w C us) (sD : Sl w D vs) (h1 : xs.length = i1) (h2 : ys.length = i2) (h3 : us.length = i3) (h4 : vs.length = i4)
    (l1 : i1 ≤ 1000000) (l2 : i2 ≤ 1000000) (l3 : i3 ≤ 1000000) (l4 : i4 ≤ 1000000) (r : Bool) (hr : decide (s = t ∧ xs = us ∧ ys = vs) = r) :
    Calls Tryz.prog 24 #[.agg #[.bool s, .slice A i1 a, .slice B i2 b], .agg #[.bool t, .slice C i3 c, .slice D i4 d]] w fun e w' => e = .returned (.bool r) ∧ Below w.heap.size w w' := by
  obtain ⟨r0, hr0⟩ : ∃ r0, (s == t) = r0 := ⟨_, rfl⟩
  obtain ⟨r1, hr1⟩ : ∃ r1, decide (xs = us) = r1 := ⟨_, rfl⟩
  obtain ⟨r2, hr2⟩ : ∃ r2, decide (ys = vs) = r2 := ⟨_, rfl⟩
  have L1 := hide (fun W (k : Below w.heap.size w W) => lsame_z A C a c i1 i3 xs us W (kp' k sA) (kp' k sC) h1 h3 l1 l3 r1 hr1)
  have L2 := hide (fun W (k : Below w.heap.size w W) => lsame_z B D b d i2 i4 ys vs W (kp' k sB) (kp' k sD) h2 h4 l2 l4 r2 hr2)
  have on := op_beq s t r0 hr0
  have hr : r = (r0 && (r1 && r2)) := by
    rw [← hr, ← hr0, ← hr1, ← hr2]
    by_cases e1 : s = t <;> by_cases e2 : xs = us <;> by_cases e3 : ys = vs <;> simp [e1, e2, e3]
  clear hr0 hr1 hr2 sA sB sC sD h1 h2 h3 h4 l1 l2 l3 l4
  have X1 := hide ((Q3.new (.bool s) (.slice A i1 a) (.slice B i2 b) w).al (.cells #[.bool t, .slice C i3 c, .slice D i4 d] 25))
  have X2 := hide (Q3.new1 (.bool t) (.slice C i3 c) (.slice D i4 d) w (.cells #[.bool s, .slice A i1 a, .slice B i2 b] 25))
  have b0 : Below w.heap.size w ((w.alloc (.cells #[.bool s, .slice A i1 a, .slice B i2 b] 25)).alloc (.cells #[.bool t, .slice C i3 c, .slice D i4 d] 25)) := bl_al (bl_al (.refl _ _) _) _
  cases r0 with
  | false =>
    go_enter Tryz.func24, Tryz.ntmps24
    go_wp2
    go_ret
    exact ⟨by rw [hr]; rfl, b0⟩
  | true =>
    cases r1 with
    | false =>
      go_enter Tryz.func24, Tryz.ntmps24
      go_wp2_with (first
        | (go_at_call 70; (with_reducible refine (L1.out _ b0).mono ?_); rintro e w1 ⟨rfl, hb⟩; have X1 := hide (X1.out.next hb); have X2 := hide (X2.out.next hb); (try clear x1 x2 x3 x4 x5 x6 y1 y2 y3 y4 y5 y6); obtain ⟨x1, x2, x3, x4, x5, x6⟩ := X1.out; obtain ⟨y1, y2, y3, y4, y5, y6⟩ := X2.out; have b1 := bl_trans b0 hb; clear hb))
      go_ret
      exact ⟨by rw [hr]; rfl, b1⟩
    | true =>
      go_enter Tryz.func24, Tryz.ntmps24
      go_wp2_with (first
        | (go_at_call 70; (with_reducible refine (L1.out _ b0).mono ?_); rintro e w1 ⟨rfl, hb⟩; have X1 := hide (X1.out.next hb); have X2 := hide (X2.out.next hb); (try clear x1 x2 x3 x4 x5 x6 y1 y2 y3 y4 y5 y6); obtain ⟨x1, x2, x3, x4, x5, x6⟩ := X1.out; obtain ⟨y1, y2, y3, y4, y5, y6⟩ := X2.out; have b1 := bl_trans b0 hb; clear hb)
        | (go_at_call 70; (with_reducible refine (L2.out _ b1).mono ?_); rintro e w2 ⟨rfl, hb⟩; have b2 := bl_trans b1 hb; clear hb))
      go_ret
      exact ⟨by rw [hr]; rfl, b2⟩
set_option maxRecDepth 100000 in
set_option maxHeartbeats 4000000 in
theorem same_q (q r : Rat) (A B C D : Option Addr) (a b c d : Nat) (w : World) (sA : Sl w A (digs (qn q))) (sB : Sl w B (digs (qd q))) (sC : Sl w C (digs (qn r))) (sD : Sl w D (digs (qd r))) (f1 : fitq q) (f2 : fitq r) (z : Bool) (hz : decide (q = r) = z) :
    Calls Tryz.prog 24 #[.agg #[.bool (qs q), .slice A (ln (qn q)) a, .slice B (ln (qd q)) b], .agg #[.bool (qs r), .slice C (ln (qn r)) c, .slice D (ln (qd r)) d]] w fun e w' => e = .returned (.bool z) ∧ Below w.heap.size w w' :=
  Same_any _ _ A B C D a b c d _ _ _ _ _ _ _ _ w sA sB sC sD rfl rfl rfl rfl (Nat.le_trans f1.1 (by decide)) (Nat.le_trans f1.2 (by decide)) (Nat.le_trans f2.1 (by decide)) (Nat.le_trans f2.2 (by decide)) z (by
    rw [← hz, decide_eq_decide]
    constructor
    · rintro ⟨e1, e2, e3⟩
      exact q_ext e1 (by rw [← val_digs (qn q), e2, val_digs]) (by rw [← val_digs (qd q), e3, val_digs])
    · rintro rfl; exact ⟨rfl, rfl, rfl⟩)
theorem cq_t (t : TypeId) {x y : Int} (h : x ≤ y) : binOp .leq t (.int .i64 x) (.int .i64 y) = pure (.bool true) := by
  show pure (Value.bool (decide (x ≤ y))) = _
  rw [decide_eq_true h]
theorem cq_f (t : TypeId) {x y : Int} (h : y < x) : binOp .leq t (.int .i64 x) (.int .i64 y) = pure (.bool false) := by
  show pure (Value.bool (decide (x ≤ y))) = _
  rw [decide_eq_false (by omega)]
set_option maxRecDepth 100000 in
set_option maxHeartbeats 4000000 in
theorem of_zero (n : Int) (w : World) : Calls Tryz.prog 62 #[.int .i64 n, .int .i64 0] w (RQ w 0) := by
  have O1 := hide (fun W => whole_of 0 0 false W (by decide) (by decide) rfl rfl)
  have O2 := hide (fun W => whole_of 1 1 false W (by decide) (by decide) rfl rfl)
  have hq : qmk false 0 1 = 0 := by rw [qmk_one]; rfl
  have L := hide (fun A B c e W (sx : Sl W A (digs 0)) (sy : Sl W B (digs 1)) => lowest_q false A B c e 0 1 0 W sx sy (by rw [ln_zero]; decide) (by rw [ln_one]; decide) (by decide) hq)
  have on := op_bne false false false rfl
  clear hq
  have X := hide (Q3.new (.bool false) (.slice none 0 0) (.slice none 0 0) w)
  have b0 : Below w.heap.size w (w.alloc (.cells #[.bool false, .slice none 0 0, .slice none 0 0] 25)) := bl_al (.refl _ _) _
  generalize hz0 : ln 0 = z0 at *
  generalize hz1 : ln 1 = z1 at *
  clear hz0 hz1
  go_enter Tryz.func62, Tryz.ntmps62
  go_wp2_with (first
    | (go_at_call 111; (with_reducible refine (O1.out _).mono ?_); rintro e w1 ⟨A1, c1, rfl, s1, hb⟩; have X := hide (X.out.next hb); have b1 := bl_trans b0 hb; clear hb)
    | (go_at_call 111; (with_reducible refine (O2.out _).mono ?_); rintro e w2 ⟨A2, c2, rfl, s2, hb⟩; have X : Hid (Q3 w.heap.size (.bool false) (.slice none 0 0) (.slice none 0 0) ((w2.alloc (.cells #[.bool false, .slice A1 z0 c1] 104)).alloc (.cells #[.bool false, .slice A2 z1 c2] 104))) := hide (((X.out.next hb).al _).al _); have Y1 := hide ((Q2.new (.bool false) (.slice A1 z0 c1) w2).al (.cells #[.bool false, .slice A2 z1 c2] 104)); have Y2 := hide (Q2.new1 (.bool false) (.slice A2 z1 c2) w2 (.cells #[.bool false, .slice A1 z0 c1] 104)); have s1 := ((kp' hb s1).alloc (.cells #[.bool false, .slice A1 z0 c1] 104)).alloc (.cells #[.bool false, .slice A2 z1 c2] 104); have s2 := (s2.alloc (.cells #[.bool false, .slice A1 z0 c1] 104)).alloc (.cells #[.bool false, .slice A2 z1 c2] 104); have b2 : Below w.heap.size w ((w2.alloc (.cells #[.bool false, .slice A1 z0 c1] 104)).alloc (.cells #[.bool false, .slice A2 z1 c2] 104)) := bl_al (bl_al (bl_trans b1 hb) _) _; obtain ⟨y1, y2, y3, y4⟩ := Y1.out; obtain ⟨y5, y6, y7, y8⟩ := Y2.out; clear hb)
    | (go_at_call 112; (with_reducible refine (L.out A1 A2 c1 c2 _ s1 s2).mono ?_); rintro e w3 ⟨A3, c3, B3, d3, rfl, s3, t3, hb⟩; have X := hide (X.out.next hb); obtain ⟨x1, x2, x3, x4, x5, x6⟩ := X.out; have b3 := bl_trans b2 hb; clear hb))
  refine bodyPost_ret (v := .agg #[.bool (qs 0), .slice A3 (ln (qn 0)) c3, .slice B3 (ln (qd 0)) d3]) (by simp [results, Tryz.results62, go_sem, x1, x2, x3]) rfl (RQ.mk rfl rfl rfl (s3.over3 X.out _ _ _) (t3.over3 X.out _ _ _) (Below.over3 b3 (Nat.le_refl _) _ _ _))
set_option maxRecDepth 100000 in
set_option maxHeartbeats 4000000 in
theorem quo_zero (q r : Rat) (A B C D : Option Addr) (a b c d : Nat) (w : World) (sA : Sl w A (digs (qn q))) (sB : Sl w B (digs (qd q))) (sC : Sl w C (digs (qn r))) (sD : Sl w D (digs (qd r))) (f1 : fitq q) (f2 : fitq r) (h0 : r = 0) :
    Calls Tryz.prog 61 #[.agg #[.bool (qs q), .slice A (ln (qn q)) a, .slice B (ln (qd q)) b], .agg #[.bool (qs r), .slice C (ln (qn r)) c, .slice D (ln (qd r)) d]] w (RNo 1 w) := by
  have V1 := hide (fun W (k : Below w.heap.size w W) => valid_q q A B a b W (kp' k sA) (kp' k sB) f1.1 f1.2)
  have V2 := hide (fun W (k : Below w.heap.size w W) => valid_q r C D c d W (kp' k sC) (kp' k sD) f2.1 f2.2)
  have hi3 : ln (qn r) = 0 := ln_eq_zero.2 (qn_zero_iff.2 h0)
  rw [hi3] at V2 ⊢
  clear sA sB sC sD f1 f2 h0 hi3
  generalize qs q = s at *
  generalize qs r = t at *
  generalize ln (qn q) = i1 at *
  generalize ln (qd q) = i2 at *
  generalize ln (qd r) = i4 at *
  have X1 := hide (((Q3.new (.bool s) (.slice A i1 a) (.slice B i2 b) w).al (.cells #[.bool t, .slice C 0 c, .slice D i4 d] 25)).al (.cells #[.bool false, .slice none 0 0, .slice none 0 0] 25))
  have X2 := hide ((Q3.new1 (.bool t) (.slice C 0 c) (.slice D i4 d) w (.cells #[.bool s, .slice A i1 a, .slice B i2 b] 25)).al (.cells #[.bool false, .slice none 0 0, .slice none 0 0] 25))
  have X3 := hide (Q3.new2 (.bool false) (.slice none 0 0) (.slice none 0 0) w (.cells #[.bool s, .slice A i1 a, .slice B i2 b] 25) (.cells #[.bool t, .slice C 0 c, .slice D i4 d] 25))
  have b0 : Below w.heap.size w (((w.alloc (.cells #[.bool s, .slice A i1 a, .slice B i2 b] 25)).alloc (.cells #[.bool t, .slice C 0 c, .slice D i4 d] 25)).alloc (.cells #[.bool false, .slice none 0 0, .slice none 0 0] 25)) := bl_al (bl_al (bl_al (.refl _ _) _) _) _
  go_enter Tryz.func61, Tryz.ntmps61
  go_wp2_with (first
    | (go_at_call 56; (with_reducible refine (V1.out _ b0).mono ?_); rintro e w1 ⟨rfl, hb⟩; have X1 := hide (X1.out.next hb); have X2 := hide (X2.out.next hb); have X3 := hide (X3.out.next hb); (try clear x1 x2 x3 x4 x5 x6 y1 y2 y3 y4 y5 y6); obtain ⟨x1, x2, x3, x4, x5, x6⟩ := X1.out; obtain ⟨y1, y2, y3, y4, y5, y6⟩ := X2.out; have b1 := bl_trans b0 hb; clear hb)
    | (go_at_call 56; (with_reducible refine (V2.out _ b1).mono ?_); rintro e w2 ⟨rfl, hb⟩; have X1 := hide (X1.out.next hb); have X2 := hide (X2.out.next hb); have X3 := hide (X3.out.next hb); (try clear x1 x2 x3 x4 x5 x6 y1 y2 y3 y4 y5 y6); obtain ⟨x1, x2, x3, x4, x5, x6⟩ := X1.out; obtain ⟨y1, y2, y3, y4, y5, y6⟩ := X2.out; have b2 := bl_trans b1 hb; obtain ⟨z1, z2, z3, z4, z5, z6⟩ := X3.out; clear hb))
  exact bodyPost_ret (v := .tuple #[.agg #[.bool false, .slice none 0 0, .slice none 0 0], .int .i64 1]) (by simp [results, Tryz.results61, go_sem, z1, z2, z3]) rfl ⟨rfl, Below.over3 b2 (by omega) _ _ _⟩
theorem rof_z (z : Int) (w : World) (h1 : -9223372036854775808 ≤ z) (h2 : z ≤ 9223372036854775807) :
    Calls Tryz.prog 80 #[.int .i64 z] w fun e w' => ∃ A c, e = .returned (.agg #[.bool (isg z), .slice A (ln z.natAbs) c]) ∧ Sl w' A (digs z.natAbs) ∧ Below w.heap.size w w' := rofI_any z w h1 h2
theorem valid_none (w : World) : Calls Tryz.prog 56 #[.agg #[.bool false, .slice none 0 0, .slice none 0 0]] w fun e w' => e = .returned (.bool false) ∧ Below w.heap.size w w' :=
  validQ_any false none none 0 0 [] [] w .nil .nil .nil .nil (by decide) (by decide) false (validQ_c rfl)
end Nt

end Go.Proofs.YtgimmmmpollkhaaGreat

namespace Go.Proofs.YtgimmmmpollkhaaGreat

open Go.RowKit

namespace Nt

theorem isD_47 {c : UInt8} (h : isD c = true) : c ≠ 47 := by rintro rfl; exact absurd h (by decide)
theorem dec_47 (n : Nat) : (47 : UInt8) ∉ Lib.decDigits n := by
  intro h
  have t := (textp n).1
  unfold digitsB at t
  simp only [Bool.and_eq_true] at t
  exact isD_47 (List.all_eq_true.1 t.1 47 h) rfl
theorem parse_dec {n : Nat} (h : n < LB ^ 64) : parseSp (Lib.decDigits n) = (digs n, 0) := by
  obtain ⟨t1, t2, t3⟩ := textp n
  unfold parseSp
  rw [t1, t2, if_pos rfl, if_pos h]
theorem parse_one : parseSp [49] = (digs 1, 0) := by
  unfold parseSp
  rw [show digitsB [49] = true by decide, show decV [49] = 1 by decide, if_pos rfl, if_pos (by decide)]
theorem textI_47 {x : Int} (hx : x.natAbs < LB ^ 64) : (47 : UInt8) ∉ textISp (isg x) (idg x) := by
  have ht : textSp (idg x) = Lib.decDigits x.natAbs := by unfold textSp; rw [validI_B (validI_num hx), val_idg]; rfl
  have hn := dec_47 x.natAbs
  unfold textISp
  rw [validI_num hx, ht]
  cases isg x <;> simp [hn]
end Nt

end Go.Proofs.YtgimmmmpollkhaaGreat
