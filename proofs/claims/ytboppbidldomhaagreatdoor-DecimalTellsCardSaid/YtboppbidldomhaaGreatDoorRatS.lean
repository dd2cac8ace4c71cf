
/-
  strings.Cut at a separator of one byte.
  Comparisons, and sums that fit, in numbers.
  The reference's whole numbers: whole, OfInt, ValidInt, cmpInt, CmpInt.
  Package rat: next, nearest, Between, Text, Parse.
  Package rat: Between, Text, Parse.
  The small functions that the laws on fractions call: Same, same, few; rat.Of of 0 below, rat.Quo by 0.
-/
import Derived.Test.YtboppbidldomhaaGreatDoorShelf2

import Derived.Test.YtboppbidldomhaaGreatDoorBl

import Derived.Lib.CutLaws

import Derived.Test.YtboppbidldomhaaGreatDoorMathB

import Derived.Test.YtboppbidldomhaaGreatDoorWholeA

import Derived.Test.YtboppbidldomhaaGreatDoorWholeZ

import Derived.Test.YtboppbidldomhaaGreatDoorRefTrim

import Derived.Test.YtboppbidldomhaaGreatDoorRatP

namespace Go.Proofs.YtboppbidldomhaaGreatDoor

open Go.RowKit

namespace Nt

theorem ib_miss {c : UInt8} : ∀ {l : List UInt8}, c ∉ l → Lib.indexByte l c = -1
  | [], _ => rfl
  | b :: l, h => by
    have h1 : b ≠ c := fun e => h (by rw [e]; exact List.mem_cons_self)
    have h2 := ib_miss (l := l) (fun e => h (List.mem_cons_of_mem _ e))
    unfold Lib.indexByte
    rw [h2]
    simp [h1]
theorem ib_hit {c : UInt8} {v : List UInt8} : ∀ {u : List UInt8}, c ∉ u → Lib.indexByte (u ++ c :: v) c = (u.length : Int)
  | [], _ => by
    show Lib.indexByte (c :: v) c = 0
    unfold Lib.indexByte
    simp
  | b :: u, h => by
    have h1 : b ≠ c := fun e => h (by rw [e]; exact List.mem_cons_self)
    have h2 := ib_hit (u := u) (v := v) (fun e => h (List.mem_cons_of_mem _ e))
    show Lib.indexByte (b :: (u ++ c :: v)) c = _
    unfold Lib.indexByte
    rw [h2]
    have h3 : ((u.length : Int) == -1) = false := beq_eq_false_iff_ne.2 (by omega)
    simp [h1, h3]

set_option maxHeartbeats 400000 in
theorem lcut_miss (s : ByteArray) (c : UInt8) (w : World) (h : c ∉ s.data.toList) :
    Calls Tryz.prog 110 #[.string s, .string ⟨#[c]⟩] w fun e w' => e = .returned (.tuple #[.string s, .string { data := #[] }, .bool false]) ∧ w = w' := by
  have I := hide (Tryz.stringslite_Index_one s c w)
  rw [ib_miss h] at I
  clear h
  go_enter Tryz.func110, Tryz.ntmps110
  go_wp2_with (go_at_call 145; (with_reducible refine (I.out).mono ?_); rintro e w' ⟨rfl, rfl⟩)
  go_ret3
  exact ⟨rfl, rfl⟩
set_option maxHeartbeats 400000 in
theorem lcut_hit (s : ByteArray) (c : UInt8) (u v : List UInt8) (w : World) (hs : s.data.toList = u ++ c :: v) (hu : c ∉ u) (hl : s.size ≤ 1000000) :
    Calls Tryz.prog 110 #[.string s, .string ⟨#[c]⟩] w fun e w' => e = .returned (.tuple #[.string ⟨u.toArray⟩, .string ⟨v.toArray⟩, .bool true]) ∧ Below w.heap.size w w' := by
  have I := hide (Tryz.stringslite_Index_one s c w)
  rw [hs, ib_hit hu] at I
  have hsz : s.size = u.length + 1 + v.length := by
    rw [Lib.size_eq, hs, List.length_append, List.length_cons]; omega
  have E1 := hide (show s.extract 0 u.length = ⟨u.toArray⟩ by
    rw [Lib.extract_eq, hs]
    simp)
  have E2 := hide (show s.extract (u.length + 1) s.size = ⟨v.toArray⟩ by
    rw [Lib.extract_eq, hs, hsz]
    simp)
  clear hs hu
  generalize u.length = i at *
  have c1 : (0 : Int) ≤ ↑i := by omega
  have c2 : (↑i : Int) ≤ ↑s.size := by omega
  have c3 : (0 : Int) ≤ ↑i + 1 := by omega
  have c4 : (↑i + 1 : Int) ≤ ↑s.size := by omega
  clear hsz
  go_enter Tryz.func110, Tryz.ntmps110
  go_wp2_with (go_at_call 145; (with_reducible refine (I.out).mono ?_); rintro e w' ⟨rfl, rfl⟩)
  go_region
  all_goals
    go_wp2
    go_ret3
    exact ⟨by rw [E1.out, E2.out]; rfl, bl_q0 (q := 1) rfl⟩
set_option maxHeartbeats 400000 in
theorem cut_miss (s : ByteArray) (c : UInt8) (w : World) (h : c ∉ s.data.toList) :
    Calls Tryz.prog 69 #[.string s, .string ⟨#[c]⟩] w fun e w' => e = .returned (.tuple #[.string s, .string { data := #[] }, .bool false]) ∧ w = w' := by
  have I := hide (lcut_miss s c w h)
  clear h
  go_enter Tryz.func69, Tryz.ntmps69
  go_wp2_with (go_at_call 110; (with_reducible refine (I.out).mono ?_); rintro e w' ⟨rfl, rfl⟩)
  go_ret3
  exact ⟨rfl, rfl⟩
set_option maxHeartbeats 400000 in
theorem cut_hit (s : ByteArray) (c : UInt8) (u v : List UInt8) (w : World) (hs : s.data.toList = u ++ c :: v) (hu : c ∉ u) (hl : s.size ≤ 1000000) :
    Calls Tryz.prog 69 #[.string s, .string ⟨#[c]⟩] w fun e w' => e = .returned (.tuple #[.string ⟨u.toArray⟩, .string ⟨v.toArray⟩, .bool true]) ∧ Below w.heap.size w w' := by
  have I := hide (lcut_hit s c u v w hs hu hl)
  clear hs hu hl
  go_enter Tryz.func69, Tryz.ntmps69
  go_wp2_with (go_at_call 110; (with_reducible refine (I.out).mono ?_); rintro e w' ⟨rfl, hb⟩)
  go_ret3
  exact ⟨rfl, hb⟩
end Nt

end Go.Proofs.YtboppbidldomhaaGreatDoor

namespace Go.Proofs.YtboppbidldomhaaGreatDoor

open Go.RowKit

namespace Nt

theorem cmpN_neg (a b : Nat) : cmpN a b = -cmpN b a := by
  unfold cmpN
  by_cases h : a < b
  · rw [if_pos h, if_neg (by omega), if_pos h]
  · by_cases h' : b < a
    · rw [if_neg h, if_pos h', if_pos h']; rfl
    · rw [if_neg h, if_neg h', if_neg h', if_neg h]; rfl
theorem cmpN_range (a b : Nat) : cmpN a b = -1 ∨ cmpN a b = 0 ∨ cmpN a b = 1 := by
  unfold cmpN; split
  · exact .inl rfl
  · split
    · exact .inr (.inr rfl)
    · exact .inr (.inl rfl)
theorem cmpN_zero {a b : Nat} : cmpN a b = 0 ↔ a = b := by
  unfold cmpN; split
  · constructor <;> intro h <;> omega
  · split <;> constructor <;> intro h <;> omega
theorem cmpN_nonneg {a b : Nat} : 0 ≤ cmpN a b ↔ b ≤ a := by
  unfold cmpN; split
  · constructor <;> intro h <;> omega
  · split <;> constructor <;> intro h <;> omega
theorem validB_digs {n : Nat} (h : n < LB ^ 64) : validB (digs n) = true := validB_iff.2 ⟨digs_64 h, norm_digs n⟩

/-- A valid row of so many words stays far below the limit. -/
theorem val_lt_pow {xs : List Nat} (l : Limbs xs) {k : Nat} (h : xs.length ≤ k) : val xs < LB ^ k := Nat.lt_of_lt_of_le (val_lt l) (Nat.pow_le_pow_right LB_pos h)
theorem add_lt_64 {xs ys : List Nat} (lx : Limbs xs) (ly : Limbs ys) (h : xs.length ≤ 63) (h' : ys.length ≤ 63) : val xs + val ys < LB ^ 64 := by
  have h1 := val_lt_pow lx h
  have h2 := val_lt_pow ly h'
  have : LB ^ 64 = LB * LB ^ 63 := by rw [Nat.pow_succ, Nat.mul_comm]
  rw [this]
  have := Nat.mul_le_mul_right (LB ^ 63) LB_two
  omega

theorem order_bits {xs ys : List Nat} (lx : Limbs xs) (ly : Limbs ys) (vx : validB xs = true) (vy : validB ys = true) (h : val xs ≤ val ys) : bitsSp xs ≤ bitsSp ys := by
  rw [bits_val lx vx, bits_val ly vy]; exact blen_mono h

end Nt

end Go.Proofs.YtboppbidldomhaaGreatDoor

namespace Go.Proofs.YtboppbidldomhaaGreatDoor

open Go.RowKit

namespace Nt

set_option maxHeartbeats 400000 in
theorem rwhole_any (s : Bool) (A : Option Addr) (n c : Nat) (w : World) (hn : n ≤ 9223372036854775807) :
    Calls Tryz.prog 90 #[.bool s, .slice A n c] w fun e w' => e = .returned (.agg #[.bool (s && decide (0 < n)), .slice A n c]) ∧ Below w.heap.size w w' := by
  cases s with
  | false =>
    go_enter Tryz.func90, Tryz.ntmps90
    go_wp2
    exact bodyPost_ret (v := .agg #[.bool false, .slice A n c]) (by simp [results, Tryz.results90, go_sem]) rfl ⟨rfl, ((Below.refl _ _).alloc (Nat.le_refl _) _)⟩
  | true =>
    by_cases h0 : n = 0
    · subst h0
      go_enter Tryz.func90, Tryz.ntmps90
      go_wp2
      exact bodyPost_ret (v := .agg #[.bool false, .slice A 0 c]) (by simp [results, Tryz.results90, go_sem]) rfl ⟨rfl, ((Below.refl _ _).alloc (Nat.le_refl _) _)⟩
    · have hp : 0 < n := by omega
      have E := hide (show (true && decide (0 < n)) = true by simp [hp])
      clear h0
      go_enter Tryz.func90, Tryz.ntmps90
      go_wp2
      exact bodyPost_ret (v := .agg #[.bool true, .slice A n c]) (by simp [results, Tryz.results90, go_sem]) rfl ⟨by rw [E.out], ((Below.refl _ _).alloc (Nat.le_refl _) _)⟩

set_option maxHeartbeats 400000 in
theorem rvalidI_any (s : Bool) (A : Option Addr) (c : Nat) (xs : List Nat) (w : World) (hs : Sl w A xs) (hl : xs.length ≤ 9223372036854775807) :
    Calls Tryz.prog 89 #[.agg #[.bool s, .slice A xs.length c]] w fun e w' => e = .returned (.bool (validI s xs)) ∧ Below w.heap.size w w' := by
  have V := hide (fun W (h : Sl W A xs) => rvalid_any A c xs W h hl)
  have HS := hide hs
  clear hs
  cases hv : validB xs with
  | false =>
    have E := hide (show validI s xs = false by unfold validI; rw [hv]; rfl)
    rw [hv] at V
    clear hv
    generalize xs.length = n at *
    go_enter Tryz.func89, Tryz.ntmps89
    go_wp2_with (go_at_call 65; (with_reducible refine (V.out _ (HS.out.alloc _)).mono ?_); rintro e w' ⟨rfl, rfl⟩)
    go_ret
    exact ⟨ret_bool E.out.symm, ((Below.refl _ _).alloc (Nat.le_refl _) _)⟩
  | true =>
    have E := hide (show validI s xs = (!s || decide (0 < xs.length)) by unfold validI; rw [hv]; rfl)
    rw [hv] at V
    clear hv
    generalize xs.length = n at *
    by_cases h0 : n = 0
    · subst h0
      cases s <;>
      · go_enter Tryz.func89, Tryz.ntmps89
        go_wp2_with (go_at_call 65; (with_reducible refine (V.out _ (HS.out.alloc _)).mono ?_); rintro e w' ⟨rfl, rfl⟩)
        go_ret
        exact ⟨ret_bool (by rw [E.out]; rfl), ((Below.refl _ _).alloc (Nat.le_refl _) _)⟩
    · have hp : 0 < n := by omega
      have E2 := hide (show (!s || decide (0 < n)) = true by simp [hp])
      clear h0
      cases s <;>
      · go_enter Tryz.func89, Tryz.ntmps89
        go_wp2_with (go_at_call 65; (with_reducible refine (V.out _ (HS.out.alloc _)).mono ?_); rintro e w' ⟨rfl, rfl⟩)
        go_ret
        exact ⟨ret_bool (by rw [E.out, E2.out]), ((Below.refl _ _).alloc (Nat.le_refl _) _)⟩

theorem litZ (w : World) (v : Int) (k : Nat) (h : v = (k : Int)) {g : Nat} (hg : w.heap.size = g) : Sl (w.alloc (.cells #[.int .u64 v] 45)) (some ⟨g, 0, none⟩) [k] := by
  subst h; exact litSl _ _ [k] rfl hg
theorem conv_pos {n : Nat} (h : n ≤ 9223372036854775807) : IntKind.u64.wrap (n : Int) = (n : Int) := by rw [IntKind.wrap_u64]; omega

set_option maxRecDepth 100000 in
set_option maxHeartbeats 1000000 in
theorem rofI_any (z : Int) (w : World) (h1 : -9223372036854775808 ≤ z) (h2 : z ≤ 9223372036854775807) :
    Calls Tryz.prog 39 #[.int .i64 z] w (IOne w (mkI z)) := by
  have X := hide (cells2 w (.bool false) (.slice none 0 0) 50)
  by_cases h : z < 0
  · have hk : z.natAbs < LB := by rw [LB_eq]; omega
    have E := hide (show mkI z = (true && decide (0 < (trimz [z.natAbs]).length), trimz [z.natAbs]) by
      rw [← digs_word hk]
      have hp : 0 < (digs z.natAbs).length := digs_len_pos.2 (by omega)
      unfold mkI isg idg
      rw [decide_eq_true h, decide_eq_true hp]; rfl)
    have nw := neg_wrap h h1
    have T : Hid (∀ A W, Sl W A [z.natAbs] → Calls Tryz.prog 60 #[.slice A 1 1] W (Mk W (trimz [z.natAbs]))) := fun A W hs => rtrim_any A 1 [z.natAbs] W hs (Nat.le_refl _) (by simp)
    have L := hide (show (trimz [z.natAbs]).length ≤ 9223372036854775807 from Nat.le_trans (trimz_len_le _) (by simp))
    go_enter Tryz.func39, Tryz.ntmps39
    go_wp2_with (first
      | (go_at_call 60; (with_reducible refine (T.out _ _ (litZ _ _ _ rfl (size1 _ _))).mono ?_); rintro e w1 ⟨A3, c3, rfl, r3, hb⟩; have g := bl_one hb; have x1 := cell_next g X.out.1; have x2 := cell_next g X.out.2.1; have x3 := frozen_next g X.out.1 X.out.2.2.1; have x4 := frozen_next g X.out.2.1 X.out.2.2.2; have s3 := hide r3.sl; have b1 := bl_one g; clear r3 hb g)
      | (go_at_call 90; (with_reducible refine (rwhole_any true A3 _ c3 _ L.out).mono ?_); rintro e w2 ⟨rfl, hb⟩; have x3 := frozen_next hb x1 x3; have x4 := frozen_next hb x2 x4; have x1 := cell_next hb x1; have x2 := cell_next hb x2; have s4 := hide (bl_keeps hb _ _ s3.out); have b2 := bl_trans b1 hb; clear hb))
    exact bodyPost_ret (v := .agg #[.bool (true && decide (0 < (trimz [z.natAbs]).length)), .slice A3 (trimz [z.natAbs]).length c3]) (by simp [results, Tryz.results39, go_sem, x1, x2]) rfl (IOne.mk E.out rfl (s4.out.store2 x1 x2 _ _) (Below.store2 b2 (Nat.le_refl _) _ _))
  · obtain ⟨n, rfl⟩ : ∃ n : Nat, z = (n : Int) := ⟨z.toNat, by omega⟩
    have hk : n < LB := by rw [LB_eq]; omega
    have E := hide (show mkI (n : Int) = (false && decide (0 < (trimz [n]).length), trimz [n]) by
      rw [← digs_word hk]
      unfold mkI isg idg
      rw [decide_eq_false h, Int.natAbs_natCast]; rfl)
    have nw := conv_pos (show n ≤ 9223372036854775807 by omega)
    have T : Hid (∀ A W, Sl W A [n] → Calls Tryz.prog 60 #[.slice A 1 1] W (Mk W (trimz [n]))) := fun A W hs => rtrim_any A 1 [n] W hs (Nat.le_refl _) (by simp)
    have L := hide (show (trimz [n]).length ≤ 9223372036854775807 from Nat.le_trans (trimz_len_le _) (by simp))
    go_enter Tryz.func39, Tryz.ntmps39
    go_wp2_with (first
      | (go_at_call 60; (with_reducible refine (T.out _ _ (litZ _ _ _ rfl (size1 _ _))).mono ?_); rintro e w1 ⟨A3, c3, rfl, r3, hb⟩; have g := bl_one hb; have x1 := cell_next g X.out.1; have x2 := cell_next g X.out.2.1; have x3 := frozen_next g X.out.1 X.out.2.2.1; have x4 := frozen_next g X.out.2.1 X.out.2.2.2; have s3 := hide r3.sl; have b1 := bl_one g; clear r3 hb g)
      | (go_at_call 90; (with_reducible refine (rwhole_any false A3 _ c3 _ L.out).mono ?_); rintro e w2 ⟨rfl, hb⟩; have x3 := frozen_next hb x1 x3; have x4 := frozen_next hb x2 x4; have x1 := cell_next hb x1; have x2 := cell_next hb x2; have s4 := hide (bl_keeps hb _ _ s3.out); have b2 := bl_trans b1 hb; clear hb))
    exact bodyPost_ret (v := .agg #[.bool (false && decide (0 < (trimz [n]).length)), .slice A3 (trimz [n]).length c3]) (by simp [results, Tryz.results39, go_sem, x1, x2]) rfl (IOne.mk E.out rfl (s4.out.store2 x1 x2 _ _) (Below.store2 b2 (Nat.le_refl _) _ _))

/-- Comparing two of a sign each. -/
def cmpSg (s : Bool) (x : Nat) (t : Bool) (y : Nat) : Int := if s = t then (if s then -cmpN x y else cmpN x y) else (if s then -1 else 1)
theorem cmpSg_ok {s t : Bool} {xs ys : List Nat} (lx : Limbs xs) (ly : Limbs ys) (hs : validI s xs = true) (ht : validI t ys = true) : cmpSg s (val xs) t (val ys) = cmpISp s xs t ys := by
  unfold cmpSg
  cases s <;> cases t
  · rw [cmpI_pp hs ht, cmpSp_ok (validI_B hs) (validI_B ht)]; rfl
  · rw [cmpI_pn ly hs ht]; rfl
  · rw [cmpI_np lx hs ht]; rfl
  · rw [cmpI_nn hs ht, cmpSp_ok (validI_B ht) (validI_B hs), cmpN_neg]
    simp

set_option maxRecDepth 100000 in
set_option maxHeartbeats 1000000 in
theorem rcmpS_any (s t : Bool) (A B : Option Addr) (c d : Nat) (xs ys : List Nat) (w : World) (hx : Sl w A xs) (hy : Sl w B ys) (lx : Limbs xs) (ly : Limbs ys) (nx : Norm xs) (ny : Norm ys) (hl : xs.length ≤ 1000000) (hl' : ys.length ≤ 1000000) :
    Calls Tryz.prog 105 #[.agg #[.bool s, .slice A xs.length c], .agg #[.bool t, .slice B ys.length d]] w fun e w' => e = .returned (.int .i64 (cmpSg s (val xs) t (val ys))) ∧ Below w.heap.size w w' := by
  have M := hide (fun W (h : Below w.heap.size w W) => rcmp_any A B c d xs ys W (bl_keeps h _ _ hx) (bl_keeps h _ _ hy) lx ly nx ny hl hl')
  have b0 : Below w.heap.size w ((w.alloc (.cells #[.bool s, .slice A xs.length c] 50)).alloc (.cells #[.bool t, .slice B ys.length d] 50)) := bl_al (bl_al (.refl _ _) _) _
  obtain ⟨x1, x2, x3, x4⟩ := Bx2.start s A xs.length c t B ys.length d w
  have hz : -1 ≤ cmpN (val xs) (val ys) ∧ cmpN (val xs) (val ys) ≤ 1 := by rcases cmpN_range (val xs) (val ys) with h | h | h <;> omega
  have E := hide (show cmpSg s (val xs) t (val ys) = if s = t then (if s then -cmpN (val xs) (val ys) else cmpN (val xs) (val ys)) else (if s then -1 else 1) from rfl)
  clear hx hy lx ly nx ny
  generalize cmpN (val xs) (val ys) = z at *
  generalize cmpSg s (val xs) t (val ys) = k at *
  generalize xs.length = n at *
  generalize ys.length = m at *
  have hw : IntKind.i64.wrap (-z) = -z := by rw [IntKind.wrap_i64]; omega
  have e1 : ∀ W, (binOp .neq 4 (.bool false) (.bool false)).run Tryz.prog W = .ok (.bool false) W := fun _ => by kernel_rfl
  have e2 : ∀ W, (binOp .neq 4 (.bool true) (.bool false)).run Tryz.prog W = .ok (.bool true) W := fun _ => by kernel_rfl
  have e3 : ∀ W, (binOp .neq 4 (.bool false) (.bool true)).run Tryz.prog W = .ok (.bool true) W := fun _ => by kernel_rfl
  have e4 : ∀ W, (binOp .neq 4 (.bool true) (.bool true)).run Tryz.prog W = .ok (.bool false) W := fun _ => by kernel_rfl
  cases s <;> cases t
  · go_enter Tryz.func105, Tryz.ntmps105
    go_wp2_with (go_at_call 66; (with_reducible refine (M.out _ b0).mono ?_); rintro e w3 ⟨rfl, q0, h0⟩; have b3 := bl_trans b0 (bl_q0 h0); clear h0)
    go_ret
    exact ⟨ret_one E.out.symm, b3⟩
  · go_enter Tryz.func105, Tryz.ntmps105
    go_wp2
    go_ret
    exact ⟨ret_one E.out.symm, b0⟩
  · go_enter Tryz.func105, Tryz.ntmps105
    go_wp2
    go_ret
    exact ⟨ret_one E.out.symm, b0⟩
  · go_enter Tryz.func105, Tryz.ntmps105
    go_wp2_with (go_at_call 66; (with_reducible refine (M.out _ b0).mono ?_); rintro e w3 ⟨rfl, q0, h0⟩; have b3 := bl_trans b0 (bl_q0 h0); clear h0)
    go_ret
    exact ⟨ret_one E.out.symm, b3⟩

end Nt

end Go.Proofs.YtboppbidldomhaaGreatDoor

namespace Go.Proofs.YtboppbidldomhaaGreatDoor

open Go.RowKit

namespace Nt

theorem one_q (w : World) : Calls Tryz.prog 136 #[] w (Rd w 1) := by
  have e1 : digs 1 = [1] := digs1 (by decide) (by decide)
  have s := litSl w #[.int .u64 1] [1] rfl rfl
  have b : Below w.heap.size w (w.alloc (.cells #[.int .u64 1] 45)) := bl_al (.refl _ _) _
  have R := fun c => Rd.mk (x := 1) (c := c) (by rw [e1]; exact s) b
  rw [ln_one] at R
  have R := hide R
  clear s b e1
  go_enter Tryz.func136, Tryz.ntmps136
  go_wp2
  go_ret
  exact R.out _
set_option maxRecDepth 100000 in
set_option maxHeartbeats 4000000 in
theorem next_q (q : Rat) (A B : Option Addr) (a b : Nat) (w : World) (sA : Sl w A (digs (qn q))) (sB : Sl w B (digs (qd q))) (h1 : ln (qn q) ≤ 2000) (h2 : ln (qd q) ≤ 2000) :
    Calls Tryz.prog 135 #[.agg #[.bool (qs q), .slice A (ln (qn q)) a, .slice B (ln (qd q)) b]] w (Rd w (nxt q)) := by
  obtain ⟨k, hk⟩ : ∃ k, qn q / qd q = k := ⟨_, rfl⟩
  obtain ⟨z, hz⟩ : ∃ z, nxt q = z := ⟨_, rfl⟩
  have hz' : k + 1 = z := by rw [← hz, ← hk]; rfl
  have kl : ln k ≤ 2000 := Nat.le_trans (by rw [← hk]; exact ln_div _ _) h1
  have D := hide (fun W (b' : Below w.heap.size w W) => ldiv_z A B a b (qn q) (qd q) W (kp' b' sA) (kp' b' sB) (by omega) (by omega) (qd_pos q) k _ hk rfl)
  have AD := hide (fun X Y e f W (sx : Sl W X (digs k)) (sy : Sl W Y (digs 1)) => ladd_z X Y e f k 1 z W sx sy (by omega) (by rw [ln_one]; decide) hz')
  rw [ln_one] at AD
  rw [hz]
  clear sA sB h1 h2 hk hz hz' kl
  generalize qs q = s at *
  generalize ln (qn q) = i1 at *
  generalize ln (qd q) = i2 at *
  have b0 : Below w.heap.size w (w.alloc (.cells #[.bool s, .slice A i1 a, .slice B i2 b] 24)) := bl_al (.refl _ _) _
  go_enter Tryz.func135, Tryz.ntmps135
  go_wp2_with (first
    | (go_at_call 81; (with_reducible refine (D.out _ b0).mono ?_); rintro e w1 ⟨A1, c1, B1, d1, rfl, s1, t1, hb⟩; have b1 := bl_trans b0 hb; clear hb)
    | (go_at_call 136; (with_reducible refine (one_q _).mono ?_); rintro e w2 ⟨A2, c2, he, s2, hb⟩; rw [ln_one] at he; subst he; have b2 := bl_trans b1 hb; have s1 := kp' hb s1; clear hb)
    | (go_at_call 141; (with_reducible refine (AD.out A1 A2 c1 c2 _ s1 s2).mono ?_); rintro e w3 ⟨A3, c3, rfl, s3, hb⟩; have b3 := bl_trans b2 hb; clear hb))
  go_ret
  exact Rd.mk s3 b3
theorem pos_qs {r : Rat} : 0 < r ↔ qs r = false ∧ 0 < qn r := by
  rw [qn_pos_iff]
  constructor
  · intro h
    refine ⟨?_, fun e => ?_⟩
    · cases e : qs r
      · rfl
      · exact absurd (Rat.le_of_lt (lt0_qs.2 e)) (Rat.not_le.2 h)
    · subst e; exact Rat.lt_irrefl h
  · rintro ⟨h1, h2⟩
    refine Rat.lt_of_le_of_ne (Rat.not_lt.1 fun e => ?_) (fun e => h2 e.symm)
    rw [lt0_qs.1 e] at h1
    cases h1
theorem near_a {q r : Rat} (h : qs q = true) (h1 : qs r = false) (h2 : 0 < qn r) : near q r = 0 := near_zero (lt0_qs.2 h) (pos_qs.2 ⟨h1, h2⟩)
theorem near_b {q r : Rat} (h : qs q = true) (h1 : ¬ (qs r = false ∧ 0 < qn r)) : near q r = ((-(nxt r : Int) : Int) : Rat) := by
  unfold near
  rw [if_neg (fun e => h1 (pos_qs.1 e.2)), if_pos (lt0_qs.2 h)]
theorem near_c {q r : Rat} (h : qs q = false) : near q r = (((nxt q : Nat) : Int) : Rat) := by
  have h0 : ¬ q < 0 := fun e => by rw [lt0_qs.1 e] at h; cases h
  unfold near
  rw [if_neg (fun e => h0 e.1), if_neg h0]
theorem nxt_pos (q : Rat) : 0 < nxt q := Nat.succ_pos _
theorem nxt_len {q : Rat} {k : Nat} (h : ln (qn q) ≤ k) (hk : 0 < k) : ln (nxt q) ≤ k + 1 := by
  unfold nxt
  refine ln_add _ _ k (Nat.le_trans (ln_div _ _) h) ?_
  rw [ln_one]
  exact hk
set_option maxRecDepth 100000 in
set_option maxHeartbeats 4000000 in
theorem nearest_q (q r : Rat) (A B C D : Option Addr) (a b c d : Nat) (w : World) (sA : Sl w A (digs (qn q))) (sB : Sl w B (digs (qd q))) (sC : Sl w C (digs (qn r))) (sD : Sl w D (digs (qd r))) (f1 : fitq q) (f2 : fitq r) :
    Calls Tryz.prog 94 #[.agg #[.bool (qs q), .slice A (ln (qn q)) a, .slice B (ln (qd q)) b], .agg #[.bool (qs r), .slice C (ln (qn r)) c, .slice D (ln (qd r)) d]] w (RQ w (near q r)) := by
  cases hs : qs q with
  | true =>
    by_cases hc : qs r = false ∧ 0 < qn r
    · obtain ⟨ht, hp⟩ := hc
      have O := hide (fun W => of_pos 0 1 0 W (by decide) (by decide) (by decide) (by decide) (by decide) (by rw [qmk_divInt 0 1 (by decide)]; simp))
      rw [near_a hs ht hp]
      have hi3 : 0 < ln (qn r) := ln_pos.2 hp
      rw [ht]
      clear sA sB sC sD f1 f2 hs ht hp
      generalize ln (qn q) = i1 at *
      generalize ln (qd q) = i2 at *
      generalize ln (qn r) = i3 at *
      generalize ln (qd r) = i4 at *
      have X1 := hide (((Q3.new (.bool true) (.slice A i1 a) (.slice B i2 b) w).al (.cells #[.bool false, .slice C i3 c, .slice D i4 d] 24)).al (.cells #[.bool false, .slice none 0 0, .slice none 0 0] 24))
      have X2 := hide ((Q3.new1 (.bool false) (.slice C i3 c) (.slice D i4 d) w (.cells #[.bool true, .slice A i1 a, .slice B i2 b] 24)).al (.cells #[.bool false, .slice none 0 0, .slice none 0 0] 24))
      have X3 := hide (Q3.new2 (.bool false) (.slice none 0 0) (.slice none 0 0) w (.cells #[.bool true, .slice A i1 a, .slice B i2 b] 24) (.cells #[.bool false, .slice C i3 c, .slice D i4 d] 24))
      have b0 : Below w.heap.size w (((w.alloc (.cells #[.bool true, .slice A i1 a, .slice B i2 b] 24)).alloc (.cells #[.bool false, .slice C i3 c, .slice D i4 d] 24)).alloc (.cells #[.bool false, .slice none 0 0, .slice none 0 0] 24)) := bl_al (bl_al (bl_al (.refl _ _) _) _) _
      go_enter Tryz.func94, Tryz.ntmps94
      go_wp2_with ((go_at_call 42; (with_reducible refine (O.out _).mono ?_); rintro e w1 ⟨A3, c3, B3, d3, rfl, s3, t3, hb⟩; have X3 := hide (X3.out.next hb); obtain ⟨z1, z2, z3, z4, z5, z6⟩ := X3.out; have b1 := bl_trans b0 hb; clear hb))
      refine bodyPost_ret (v := .agg #[.bool (qs 0), .slice A3 (ln (qn 0)) c3, .slice B3 (ln (qd 0)) d3]) (by simp [results, Tryz.results94, go_sem, z1, z2, z3]) rfl (RQ.mk rfl rfl rfl (s3.over3 X3.out _ _ _) (t3.over3 X3.out _ _ _) (Below.over3 b1 (by omega) _ _ _))
    · skip
      have N := hide (fun W (k : Below w.heap.size w W) => next_q r C D c d W (kp' k sC) (kp' k sD) (Nat.le_trans f2.1 (by decide)) (Nat.le_trans f2.2 (by decide)))
      have SG := hide (fun X Y e f W => signed_q true X Y (ln (nxt r)) e 1 f W (Nat.le_trans (nxt_len f2.1 (by decide)) (by decide)))
      have E := near_b hs hc
      have E1 := hide (show qs (near q r) = (true && decide (0 < ln (nxt r))) by rw [E, qs_int, ← dec_ln]; unfold isg; have := nxt_pos r; rw [decide_eq_true (show (-(nxt r : Int)) < 0 by omega), decide_eq_true this]; rfl)
      have E2 := hide (show qn (near q r) = nxt r by rw [E, qn_int]; omega)
      have E3 := hide (show qd (near q r) = 1 by rw [E, qd_int])
      have hi3 : ¬ (qs r = false ∧ 0 < ln (qn r)) := by rw [ln_pos]; exact hc
      clear E sA sB sC sD f1 f2 hs hc
      generalize nxt r = nx at *
      cases ht : qs r with
      | true =>
        clear hi3
        rw [ht] at N
        clear ht
        generalize ln (qn q) = i1 at *
        generalize ln (qd q) = i2 at *
        generalize ln (qn r) = i3 at *
        generalize ln (qd r) = i4 at *
        have X1 := hide (((Q3.new (.bool true) (.slice A i1 a) (.slice B i2 b) w).al (.cells #[.bool true, .slice C i3 c, .slice D i4 d] 24)).al (.cells #[.bool false, .slice none 0 0, .slice none 0 0] 24))
        have X2 := hide ((Q3.new1 (.bool true) (.slice C i3 c) (.slice D i4 d) w (.cells #[.bool true, .slice A i1 a, .slice B i2 b] 24)).al (.cells #[.bool false, .slice none 0 0, .slice none 0 0] 24))
        have X3 := hide (Q3.new2 (.bool false) (.slice none 0 0) (.slice none 0 0) w (.cells #[.bool true, .slice A i1 a, .slice B i2 b] 24) (.cells #[.bool true, .slice C i3 c, .slice D i4 d] 24))
        have b0 : Below w.heap.size w (((w.alloc (.cells #[.bool true, .slice A i1 a, .slice B i2 b] 24)).alloc (.cells #[.bool true, .slice C i3 c, .slice D i4 d] 24)).alloc (.cells #[.bool false, .slice none 0 0, .slice none 0 0] 24)) := bl_al (bl_al (bl_al (.refl _ _) _) _) _
        go_enter Tryz.func94, Tryz.ntmps94
        go_wp2_with (first
          | (go_at_call 135; (with_reducible refine (N.out _ b0).mono ?_); rintro e w1 ⟨A1, c1, rfl, s1, hb⟩; have X3 := hide (X3.out.next hb); have b1 := bl_trans b0 hb; clear hb)
          | (go_at_call 136; (with_reducible refine (one_q _).mono ?_); rintro e w2 ⟨A2, c2, he, s2, hb⟩; rw [ln_one] at he; subst he; have X3 := hide (X3.out.next hb); have b2 := bl_trans b1 hb; have s1 := kp' hb s1; clear hb)
          | (go_at_call 51; (with_reducible refine (SG.out A1 A2 c1 c2 _).mono ?_); rintro e w3 ⟨rfl, hb⟩; have X3 := hide (X3.out.next hb); obtain ⟨z1, z2, z3, z4, z5, z6⟩ := X3.out; have b3 := bl_trans b2 hb; have s1 := kp' hb s1; have s2 := kp' hb s2; clear hb))
        refine bodyPost_ret (v := .agg #[.bool (true && decide (0 < ln nx)), .slice A1 (ln nx) c1, .slice A2 1 c2]) (by simp [results, Tryz.results94, go_sem, z1, z2, z3]) rfl (by
          have h := RQ.mk (c := c1) (d := c2) E1.out E2.out E3.out (s1.over3 X3.out (.bool (true && decide (0 < ln nx))) (.slice A1 (ln nx) c1) (.slice A2 1 c2)) (s2.over3 X3.out _ _ _) (Below.over3 b3 (by omega) _ _ _)
          rw [ln_one] at h
          exact h)
      | false =>
        have hi3 : ln (qn r) = 0 := by
          rcases Nat.eq_zero_or_pos (ln (qn r)) with e | e
          · exact e
          · exact absurd ⟨ht, e⟩ hi3
        rw [ht, hi3] at N
        rw [hi3]
        clear ht hi3
        generalize ln (qn q) = i1 at *
        generalize ln (qd q) = i2 at *
        generalize ln (qd r) = i4 at *
        have X1 := hide (((Q3.new (.bool true) (.slice A i1 a) (.slice B i2 b) w).al (.cells #[.bool false, .slice C 0 c, .slice D i4 d] 24)).al (.cells #[.bool false, .slice none 0 0, .slice none 0 0] 24))
        have X2 := hide ((Q3.new1 (.bool false) (.slice C 0 c) (.slice D i4 d) w (.cells #[.bool true, .slice A i1 a, .slice B i2 b] 24)).al (.cells #[.bool false, .slice none 0 0, .slice none 0 0] 24))
        have X3 := hide (Q3.new2 (.bool false) (.slice none 0 0) (.slice none 0 0) w (.cells #[.bool true, .slice A i1 a, .slice B i2 b] 24) (.cells #[.bool false, .slice C 0 c, .slice D i4 d] 24))
        have b0 : Below w.heap.size w (((w.alloc (.cells #[.bool true, .slice A i1 a, .slice B i2 b] 24)).alloc (.cells #[.bool false, .slice C 0 c, .slice D i4 d] 24)).alloc (.cells #[.bool false, .slice none 0 0, .slice none 0 0] 24)) := bl_al (bl_al (bl_al (.refl _ _) _) _) _
        go_enter Tryz.func94, Tryz.ntmps94
        go_wp2_with (first
          | (go_at_call 135; (with_reducible refine (N.out _ b0).mono ?_); rintro e w1 ⟨A1, c1, rfl, s1, hb⟩; have X3 := hide (X3.out.next hb); have b1 := bl_trans b0 hb; clear hb)
          | (go_at_call 136; (with_reducible refine (one_q _).mono ?_); rintro e w2 ⟨A2, c2, he, s2, hb⟩; rw [ln_one] at he; subst he; have X3 := hide (X3.out.next hb); have b2 := bl_trans b1 hb; have s1 := kp' hb s1; clear hb)
          | (go_at_call 51; (with_reducible refine (SG.out A1 A2 c1 c2 _).mono ?_); rintro e w3 ⟨rfl, hb⟩; have X3 := hide (X3.out.next hb); obtain ⟨z1, z2, z3, z4, z5, z6⟩ := X3.out; have b3 := bl_trans b2 hb; have s1 := kp' hb s1; have s2 := kp' hb s2; clear hb))
        refine bodyPost_ret (v := .agg #[.bool (true && decide (0 < ln nx)), .slice A1 (ln nx) c1, .slice A2 1 c2]) (by simp [results, Tryz.results94, go_sem, z1, z2, z3]) rfl (by
          have h := RQ.mk (c := c1) (d := c2) E1.out E2.out E3.out (s1.over3 X3.out (.bool (true && decide (0 < ln nx))) (.slice A1 (ln nx) c1) (.slice A2 1 c2)) (s2.over3 X3.out _ _ _) (Below.over3 b3 (by omega) _ _ _)
          rw [ln_one] at h
          exact h)
  | false =>
    have N := hide (fun W (k : Below w.heap.size w W) => next_q q A B a b W (kp' k sA) (kp' k sB) (Nat.le_trans f1.1 (by decide)) (Nat.le_trans f1.2 (by decide)))
    have SG := hide (fun X Y e f W => signed_q false X Y (ln (nxt q)) e 1 f W (Nat.le_trans (nxt_len f1.1 (by decide)) (by decide)))
    have E := near_c (r := r) hs
    have E1 := hide (show qs (near q r) = (false && decide (0 < ln (nxt q))) by rw [E, qs_int]; unfold isg; rw [decide_eq_false (by omega)]; rfl)
    have E2 := hide (show qn (near q r) = nxt q by rw [E, qn_int]; omega)
    have E3 := hide (show qd (near q r) = 1 by rw [E, qd_int])
    clear E sA sB sC sD f1 f2
    rw [hs] at N
    clear hs
    generalize nxt q = nx at *
    generalize qs r = t at *
    generalize ln (qn q) = i1 at *
    generalize ln (qd q) = i2 at *
    generalize ln (qn r) = i3 at *
    generalize ln (qd r) = i4 at *
    have X1 := hide (((Q3.new (.bool false) (.slice A i1 a) (.slice B i2 b) w).al (.cells #[.bool t, .slice C i3 c, .slice D i4 d] 24)).al (.cells #[.bool false, .slice none 0 0, .slice none 0 0] 24))
    have X2 := hide ((Q3.new1 (.bool t) (.slice C i3 c) (.slice D i4 d) w (.cells #[.bool false, .slice A i1 a, .slice B i2 b] 24)).al (.cells #[.bool false, .slice none 0 0, .slice none 0 0] 24))
    have X3 := hide (Q3.new2 (.bool false) (.slice none 0 0) (.slice none 0 0) w (.cells #[.bool false, .slice A i1 a, .slice B i2 b] 24) (.cells #[.bool t, .slice C i3 c, .slice D i4 d] 24))
    have b0 : Below w.heap.size w (((w.alloc (.cells #[.bool false, .slice A i1 a, .slice B i2 b] 24)).alloc (.cells #[.bool t, .slice C i3 c, .slice D i4 d] 24)).alloc (.cells #[.bool false, .slice none 0 0, .slice none 0 0] 24)) := bl_al (bl_al (bl_al (.refl _ _) _) _) _
    go_enter Tryz.func94, Tryz.ntmps94
    go_wp2_with (first
      | (go_at_call 135; (with_reducible refine (N.out _ b0).mono ?_); rintro e w1 ⟨A1, c1, rfl, s1, hb⟩; have X3 := hide (X3.out.next hb); have b1 := bl_trans b0 hb; clear hb)
      | (go_at_call 136; (with_reducible refine (one_q _).mono ?_); rintro e w2 ⟨A2, c2, he, s2, hb⟩; rw [ln_one] at he; subst he; have X3 := hide (X3.out.next hb); have b2 := bl_trans b1 hb; have s1 := kp' hb s1; clear hb)
      | (go_at_call 51; (with_reducible refine (SG.out A1 A2 c1 c2 _).mono ?_); rintro e w3 ⟨rfl, hb⟩; have X3 := hide (X3.out.next hb); obtain ⟨z1, z2, z3, z4, z5, z6⟩ := X3.out; have b3 := bl_trans b2 hb; have s1 := kp' hb s1; have s2 := kp' hb s2; clear hb))
    refine bodyPost_ret (v := .agg #[.bool (false && decide (0 < ln nx)), .slice A1 (ln nx) c1, .slice A2 1 c2]) (by simp [results, Tryz.results94, go_sem, z1, z2, z3]) rfl (by
      have h := RQ.mk (c := c1) (d := c2) E1.out E2.out E3.out (s1.over3 X3.out (.bool (false && decide (0 < ln nx))) (.slice A1 (ln nx) c1) (.slice A2 1 c2)) (s2.over3 X3.out _ _ _) (Below.over3 b3 (by omega) _ _ _)
      rw [ln_one] at h
      exact h)
end Nt

end Go.Proofs.YtboppbidldomhaaGreatDoor

namespace Go.Proofs.YtboppbidldomhaaGreatDoor

open Go.RowKit

namespace Nt

theorem cmpQ_lt {q r : Rat} (h : q < r) : cmpQ q r = -1 := by unfold cmpQ; rw [if_pos h]
theorem cmpQ_nlt {q r : Rat} (h : ¬ q < r) : 0 ≤ cmpQ q r := by unfold cmpQ; rw [if_neg h]; split <;> omega
theorem near_len {q r : Rat} (f1 : fitq q) (f2 : fitq r) : ln (qn (near q r)) ≤ 65 ∧ ln (qd (near q r)) ≤ 65 := by
  unfold near
  split
  · exact ⟨by rw [show qn (0 : Rat) = 0 from rfl, ln_zero]; decide, by rw [show qd (0 : Rat) = 1 from rfl, ln_one]; decide⟩
  · split
    · rw [qn_int, qd_int, ln_one]
      exact ⟨by rw [show (-(nxt r : Int)).natAbs = nxt r by omega]; exact nxt_len f2.1 (by decide), by decide⟩
    · rw [qn_int, qd_int, ln_one]
      exact ⟨by rw [show ((nxt q : Nat) : Int).natAbs = nxt q by omega]; exact nxt_len f1.1 (by decide), by decide⟩
theorem half_of : qmk (isg 1 != isg 2) (1 : Int).natAbs (2 : Int).natAbs = Rat.divInt 1 2 := qmk_divInt 1 2 (by decide)
theorem half_len : ln (qn (Rat.divInt 1 2)) ≤ 2000 ∧ ln (qd (Rat.divInt 1 2)) ≤ 2000 := by
  have h1 : qn (Rat.divInt 1 2) = 1 := by decide
  have h2 : qd (Rat.divInt 1 2) = 2 := by decide
  rw [h1, h2]
  exact ⟨Nat.le_trans (ln_le (k := 1) (by decide)) (by decide), Nat.le_trans (ln_le (k := 1) (by decide)) (by decide)⟩
set_option maxRecDepth 100000 in
set_option maxHeartbeats 4000000 in
theorem between_q (q r N Z : Rat) (h : q < r) (hN : near q r = N) (hZ : btw q r = Z) (A B C D : Option Addr) (a b c d : Nat) (w : World) (sA : Sl w A (digs (qn q))) (sB : Sl w B (digs (qd q))) (sC : Sl w C (digs (qn r))) (sD : Sl w D (digs (qd r))) (f1 : fitq q) (f2 : fitq r) (f3 : fitq Z) :
    Calls Tryz.prog 43 #[.agg #[.bool (qs q), .slice A (ln (qn q)) a, .slice B (ln (qd q)) b], .agg #[.bool (qs r), .slice C (ln (qn r)) c, .slice D (ln (qd r)) d]] w (RQE w Z) := by
  have V1 := hide (fun W (k : Below w.heap.size w W) => valid_q q A B a b W (kp' k sA) (kp' k sB) f1.1 f1.2)
  have V2 := hide (fun W (k : Below w.heap.size w W) => valid_q r C D c d W (kp' k sC) (kp' k sD) f2.1 f2.2)
  have nl := near_len f1 f2
  rw [hN] at nl
  have CM := hide (fun W (k : Below w.heap.size w W) => compare_q q r A B C D a b c d W (kp' k sA) (kp' k sB) (kp' k sC) (kp' k sD) (Nat.le_trans f1.1 (by decide)) (Nat.le_trans f1.2 (by decide)) (Nat.le_trans f2.1 (by decide)) (Nat.le_trans f2.2 (by decide)) (-1) (cmpQ_lt h))
  have NR := hide (fun W (k : Below w.heap.size w W) => nearest_q q r A B C D a b c d W (kp' k sA) (kp' k sB) (kp' k sC) (kp' k sD) f1 f2)
  rw [hN] at NR
  have C1 := hide (fun z X Y e f W (k : Below w.heap.size w W) (sx : Sl W X (digs (qn N))) (sy : Sl W Y (digs (qd N))) (hz : cmpQ q N = z) => compare_q q N A B X Y a b e f W (kp' k sA) (kp' k sB) sx sy (Nat.le_trans f1.1 (by decide)) (Nat.le_trans f1.2 (by decide)) (Nat.le_trans nl.1 (by decide)) (Nat.le_trans nl.2 (by decide)) z hz)
  have C2 := hide (fun z X Y e f W (k : Below w.heap.size w W) (sx : Sl W X (digs (qn N))) (sy : Sl W Y (digs (qd N))) (hz : cmpQ N r = z) => compare_q N r X Y C D e f c d W sx sy (kp' k sC) (kp' k sD) (Nat.le_trans nl.1 (by decide)) (Nat.le_trans nl.2 (by decide)) (Nat.le_trans f2.1 (by decide)) (Nat.le_trans f2.2 (by decide)) z hz)
  have SM := hide (fun W (k : Below w.heap.size w W) => sum_q q r A B C D a b c d W (kp' k sA) (kp' k sB) (kp' k sC) (kp' k sD) (Nat.le_trans f1.1 (by decide)) (Nat.le_trans f1.2 (by decide)) (Nat.le_trans f2.1 (by decide)) (Nat.le_trans f2.2 (by decide)))
  have lb := bnd_add (q := q) (r := r) (j := 64) (k := 64) ⟨lt_of_ln f1.1, lt_of_ln f1.2⟩ ⟨lt_of_ln f2.1, lt_of_ln f2.2⟩
  have O := hide (fun W => of_pos 1 2 (Rat.divInt 1 2) W (by decide) (by decide) (by decide) (by decide) (by decide) half_of)
  have PR := hide (fun X Y e f U V e' f' W (s1 : Sl W X (digs (qn (q + r)))) (s2 : Sl W Y (digs (qd (q + r)))) (s3 : Sl W U (digs (qn (Rat.divInt 1 2)))) (s4 : Sl W V (digs (qd (Rat.divInt 1 2)))) => product_q (q + r) (Rat.divInt 1 2) X Y U V e f e' f' W s1 s2 s3 s4 (Nat.le_trans (ln_le lb.1) (by decide)) (Nat.le_trans (ln_le lb.2) (by decide)) half_len.1 half_len.2)
  have hM : (q + r) * Rat.divInt 1 2 = mid q r := rfl
  rw [hM] at PR
  have BD := hide (fun X Y e f W => bounded_ok (qs Z) X Y (ln (qn Z)) e (ln (qd Z)) f W f3.1 f3.2)
  have HB := hide hZ
  unfold btw at hZ
  rw [hN] at hZ
  clear sA sB sC sD f1 f2 f3 nl lb hM h hN HB
  generalize hH : Rat.divInt 1 2 = H at *
  generalize q + r = S at *
  generalize mid q r = M at *
  clear hH
  by_cases h1 : q < N
  · have K1 := cmpQ_lt h1
    by_cases h2 : N < r
    · have K2 := cmpQ_lt h2
      rw [if_pos ⟨h1, h2⟩] at hZ
      subst hZ
      have K1 := hide K1
      have K2 := hide K2
      clear h1 h2 SM O PR BD
      generalize qs q = s at *
      generalize qs r = t at *
      generalize ln (qn q) = i1 at *
      generalize ln (qd q) = i2 at *
      generalize ln (qn r) = i3 at *
      generalize ln (qd r) = i4 at *
      have X1 := hide (((Q3.new (.bool s) (.slice A i1 a) (.slice B i2 b) w).al (.cells #[.bool t, .slice C i3 c, .slice D i4 d] 24)).al (.cells #[.bool false, .slice none 0 0, .slice none 0 0] 24))
      have X2 := hide ((Q3.new1 (.bool t) (.slice C i3 c) (.slice D i4 d) w (.cells #[.bool s, .slice A i1 a, .slice B i2 b] 24)).al (.cells #[.bool false, .slice none 0 0, .slice none 0 0] 24))
      have X3 := hide (Q3.new2 (.bool false) (.slice none 0 0) (.slice none 0 0) w (.cells #[.bool s, .slice A i1 a, .slice B i2 b] 24) (.cells #[.bool t, .slice C i3 c, .slice D i4 d] 24))
      have b0 : Below w.heap.size w (((w.alloc (.cells #[.bool s, .slice A i1 a, .slice B i2 b] 24)).alloc (.cells #[.bool t, .slice C i3 c, .slice D i4 d] 24)).alloc (.cells #[.bool false, .slice none 0 0, .slice none 0 0] 24)) := bl_al (bl_al (bl_al (.refl _ _) _) _) _
      go_enter Tryz.func43, Tryz.ntmps43
      go_wp2_with (first
        | (go_at_call 25; (with_reducible refine (V1.out _ b0).mono ?_); rintro e w1 ⟨rfl, hb⟩; have X1 := hide (X1.out.next hb); have X2 := hide (X2.out.next hb); have X3 := hide (X3.out.next hb); (try clear x1 x2 x3 x4 x5 x6 y1 y2 y3 y4 y5 y6); obtain ⟨x1, x2, x3, x4, x5, x6⟩ := X1.out; obtain ⟨y1, y2, y3, y4, y5, y6⟩ := X2.out; have b1 := bl_trans b0 hb; clear hb)
        | (go_at_call 25; (with_reducible refine (V2.out _ b1).mono ?_); rintro e w2 ⟨rfl, hb⟩; have X1 := hide (X1.out.next hb); have X2 := hide (X2.out.next hb); have X3 := hide (X3.out.next hb); (try clear x1 x2 x3 x4 x5 x6 y1 y2 y3 y4 y5 y6); obtain ⟨x1, x2, x3, x4, x5, x6⟩ := X1.out; obtain ⟨y1, y2, y3, y4, y5, y6⟩ := X2.out; have b2 := bl_trans b1 hb; clear hb)
        | (go_at_call 55; (with_reducible refine (CM.out _ b2).mono ?_); rintro e w3 ⟨rfl, hb⟩; have X1 := hide (X1.out.next hb); have X2 := hide (X2.out.next hb); have X3 := hide (X3.out.next hb); (try clear x1 x2 x3 x4 x5 x6 y1 y2 y3 y4 y5 y6); obtain ⟨x1, x2, x3, x4, x5, x6⟩ := X1.out; obtain ⟨y1, y2, y3, y4, y5, y6⟩ := X2.out; have b3 := bl_trans b2 hb; clear hb)
        | (go_at_call 94; (with_reducible refine (NR.out _ b3).mono ?_); rintro e w4 ⟨A4, c4, B4, d4, rfl, s4, t4, hb⟩; have X1 := hide ((X1.out.next hb).al (.cells #[.bool (qs N), .slice A4 (ln (qn N)) c4, .slice B4 (ln (qd N)) d4] 24)); have X2 := hide ((X2.out.next hb).al (.cells #[.bool (qs N), .slice A4 (ln (qn N)) c4, .slice B4 (ln (qd N)) d4] 24)); have X3 := hide ((X3.out.next hb).al (.cells #[.bool (qs N), .slice A4 (ln (qn N)) c4, .slice B4 (ln (qd N)) d4] 24)); have X4 := hide (Q3.new (.bool (qs N)) (.slice A4 (ln (qn N)) c4) (.slice B4 (ln (qd N)) d4) w4); (try clear x1 x2 x3 x4 x5 x6 y1 y2 y3 y4 y5 y6); obtain ⟨x1, x2, x3, x4, x5, x6⟩ := X1.out; obtain ⟨y1, y2, y3, y4, y5, y6⟩ := X2.out; obtain ⟨v1, v2, v3, v4, v5, v6⟩ := X4.out; have b4 : Below w.heap.size w (w4.alloc (.cells #[.bool (qs N), .slice A4 (ln (qn N)) c4, .slice B4 (ln (qd N)) d4] 24)) := bl_al (bl_trans b3 hb) _; have s4 := s4.alloc (.cells #[.bool (qs N), .slice A4 (ln (qn N)) c4, .slice B4 (ln (qd N)) d4] 24); have t4 := t4.alloc (.cells #[.bool (qs N), .slice A4 (ln (qn N)) c4, .slice B4 (ln (qd N)) d4] 24); clear hb)
        | (go_at_call 55; (with_reducible refine (C1.out (-1) A4 B4 c4 d4 _ b4 s4 t4 K1.out).mono ?_); rintro e w5 ⟨rfl, hb⟩; have X1 := hide (X1.out.next hb); have X2 := hide (X2.out.next hb); have X3 := hide (X3.out.next hb); (try clear x1 x2 x3 x4 x5 x6 y1 y2 y3 y4 y5 y6); obtain ⟨x1, x2, x3, x4, x5, x6⟩ := X1.out; obtain ⟨y1, y2, y3, y4, y5, y6⟩ := X2.out; have X4 := hide (X4.out.next hb); clear v1 v2 v3 v4 v5 v6; obtain ⟨v1, v2, v3, v4, v5, v6⟩ := X4.out; have s4 := kp' hb s4; have t4 := kp' hb t4; have b5 := bl_trans b4 hb; clear hb)
        | (go_at_call 55; (with_reducible refine (C2.out (-1) A4 B4 c4 d4 _ b5 s4 t4 K2.out).mono ?_); rintro e w6 ⟨rfl, hb⟩; have X1 := hide (X1.out.next hb); have X2 := hide (X2.out.next hb); have X3 := hide (X3.out.next hb); (try clear x1 x2 x3 x4 x5 x6 y1 y2 y3 y4 y5 y6); obtain ⟨x1, x2, x3, x4, x5, x6⟩ := X1.out; obtain ⟨y1, y2, y3, y4, y5, y6⟩ := X2.out; have X4 := hide (X4.out.next hb); clear v1 v2 v3 v4 v5 v6; obtain ⟨v1, v2, v3, v4, v5, v6⟩ := X4.out; have s4 := kp' hb s4; have t4 := kp' hb t4; have b6 := bl_trans b5 hb; obtain ⟨z1, z2, z3, z4, z5, z6⟩ := X3.out; clear hb))
      refine bodyPost_ret (v := .tuple #[.agg #[.bool (qs N), .slice A4 (ln (qn N)) c4, .slice B4 (ln (qd N)) d4], .int .i64 0]) (by simp [results, Tryz.results43, go_sem, z1, z2, z3]) rfl (RQE.mk rfl rfl rfl (s4.over3 X3.out _ _ _) (t4.over3 X3.out _ _ _) (Below.over3 b6 (by omega) _ _ _))
    · have K2' := cmpQ_nlt h2
      obtain ⟨k2, hk2⟩ : ∃ k, cmpQ N r = k := ⟨_, rfl⟩
      rw [hk2] at K2'
      rw [if_neg (fun e => h2 e.2)] at hZ
      subst hZ
      have K1 := hide K1
      have K2 := hide hk2
      clear h1 h2 hk2
      generalize qs q = s at *
      generalize qs r = t at *
      generalize ln (qn q) = i1 at *
      generalize ln (qd q) = i2 at *
      generalize ln (qn r) = i3 at *
      generalize ln (qd r) = i4 at *
      have X1 := hide (((Q3.new (.bool s) (.slice A i1 a) (.slice B i2 b) w).al (.cells #[.bool t, .slice C i3 c, .slice D i4 d] 24)).al (.cells #[.bool false, .slice none 0 0, .slice none 0 0] 24))
      have X2 := hide ((Q3.new1 (.bool t) (.slice C i3 c) (.slice D i4 d) w (.cells #[.bool s, .slice A i1 a, .slice B i2 b] 24)).al (.cells #[.bool false, .slice none 0 0, .slice none 0 0] 24))
      have X3 := hide (Q3.new2 (.bool false) (.slice none 0 0) (.slice none 0 0) w (.cells #[.bool s, .slice A i1 a, .slice B i2 b] 24) (.cells #[.bool t, .slice C i3 c, .slice D i4 d] 24))
      have b0 : Below w.heap.size w (((w.alloc (.cells #[.bool s, .slice A i1 a, .slice B i2 b] 24)).alloc (.cells #[.bool t, .slice C i3 c, .slice D i4 d] 24)).alloc (.cells #[.bool false, .slice none 0 0, .slice none 0 0] 24)) := bl_al (bl_al (bl_al (.refl _ _) _) _) _
      go_enter Tryz.func43, Tryz.ntmps43
      go_wp2_with (first
        | (go_at_call 25; (with_reducible refine (V1.out _ b0).mono ?_); rintro e w1 ⟨rfl, hb⟩; have X1 := hide (X1.out.next hb); have X2 := hide (X2.out.next hb); have X3 := hide (X3.out.next hb); (try clear x1 x2 x3 x4 x5 x6 y1 y2 y3 y4 y5 y6); obtain ⟨x1, x2, x3, x4, x5, x6⟩ := X1.out; obtain ⟨y1, y2, y3, y4, y5, y6⟩ := X2.out; have b1 := bl_trans b0 hb; clear hb)
        | (go_at_call 25; (with_reducible refine (V2.out _ b1).mono ?_); rintro e w2 ⟨rfl, hb⟩; have X1 := hide (X1.out.next hb); have X2 := hide (X2.out.next hb); have X3 := hide (X3.out.next hb); (try clear x1 x2 x3 x4 x5 x6 y1 y2 y3 y4 y5 y6); obtain ⟨x1, x2, x3, x4, x5, x6⟩ := X1.out; obtain ⟨y1, y2, y3, y4, y5, y6⟩ := X2.out; have b2 := bl_trans b1 hb; clear hb)
        | (go_at_call 55; (with_reducible refine (CM.out _ b2).mono ?_); rintro e w3 ⟨rfl, hb⟩; have X1 := hide (X1.out.next hb); have X2 := hide (X2.out.next hb); have X3 := hide (X3.out.next hb); (try clear x1 x2 x3 x4 x5 x6 y1 y2 y3 y4 y5 y6); obtain ⟨x1, x2, x3, x4, x5, x6⟩ := X1.out; obtain ⟨y1, y2, y3, y4, y5, y6⟩ := X2.out; have b3 := bl_trans b2 hb; clear hb)
        | (go_at_call 94; (with_reducible refine (NR.out _ b3).mono ?_); rintro e w4 ⟨A4, c4, B4, d4, rfl, s4, t4, hb⟩; have X1 := hide ((X1.out.next hb).al (.cells #[.bool (qs N), .slice A4 (ln (qn N)) c4, .slice B4 (ln (qd N)) d4] 24)); have X2 := hide ((X2.out.next hb).al (.cells #[.bool (qs N), .slice A4 (ln (qn N)) c4, .slice B4 (ln (qd N)) d4] 24)); have X3 := hide ((X3.out.next hb).al (.cells #[.bool (qs N), .slice A4 (ln (qn N)) c4, .slice B4 (ln (qd N)) d4] 24)); have X4 := hide (Q3.new (.bool (qs N)) (.slice A4 (ln (qn N)) c4) (.slice B4 (ln (qd N)) d4) w4); (try clear x1 x2 x3 x4 x5 x6 y1 y2 y3 y4 y5 y6); obtain ⟨x1, x2, x3, x4, x5, x6⟩ := X1.out; obtain ⟨y1, y2, y3, y4, y5, y6⟩ := X2.out; obtain ⟨v1, v2, v3, v4, v5, v6⟩ := X4.out; have b4 : Below w.heap.size w (w4.alloc (.cells #[.bool (qs N), .slice A4 (ln (qn N)) c4, .slice B4 (ln (qd N)) d4] 24)) := bl_al (bl_trans b3 hb) _; have s4 := s4.alloc (.cells #[.bool (qs N), .slice A4 (ln (qn N)) c4, .slice B4 (ln (qd N)) d4] 24); have t4 := t4.alloc (.cells #[.bool (qs N), .slice A4 (ln (qn N)) c4, .slice B4 (ln (qd N)) d4] 24); clear hb)
        | (go_at_call 55; (with_reducible refine (C1.out (-1) A4 B4 c4 d4 _ b4 s4 t4 K1.out).mono ?_); rintro e w5 ⟨rfl, hb⟩; have X1 := hide (X1.out.next hb); have X2 := hide (X2.out.next hb); have X3 := hide (X3.out.next hb); (try clear x1 x2 x3 x4 x5 x6 y1 y2 y3 y4 y5 y6); obtain ⟨x1, x2, x3, x4, x5, x6⟩ := X1.out; obtain ⟨y1, y2, y3, y4, y5, y6⟩ := X2.out; have X4 := hide (X4.out.next hb); clear v1 v2 v3 v4 v5 v6; obtain ⟨v1, v2, v3, v4, v5, v6⟩ := X4.out; have s4 := kp' hb s4; have t4 := kp' hb t4; have b5 := bl_trans b4 hb; clear hb)
        | (go_at_call 55; (with_reducible refine (C2.out k2 A4 B4 c4 d4 _ b5 s4 t4 K2.out).mono ?_); rintro e w6 ⟨rfl, hb⟩; have X1 := hide (X1.out.next hb); have X2 := hide (X2.out.next hb); have X3 := hide (X3.out.next hb); (try clear x1 x2 x3 x4 x5 x6 y1 y2 y3 y4 y5 y6); obtain ⟨x1, x2, x3, x4, x5, x6⟩ := X1.out; obtain ⟨y1, y2, y3, y4, y5, y6⟩ := X2.out; have X4 := hide (X4.out.next hb); clear v1 v2 v3 v4 v5 v6; obtain ⟨v1, v2, v3, v4, v5, v6⟩ := X4.out; have s4 := kp' hb s4; have t4 := kp' hb t4; have b6 := bl_trans b5 hb; obtain ⟨z1, z2, z3, z4, z5, z6⟩ := X3.out; clear hb)
        | (go_at_call 48; (with_reducible refine (SM.out _ b6).mono ?_); rintro e w7 ⟨A7, c7, B7, d7, rfl, s7, t7, hb⟩; have X3 := hide (X3.out.next hb); have b7 := bl_trans b6 hb; clear hb)
        | (go_at_call 42; (with_reducible refine (O.out _).mono ?_); rintro e w8 ⟨A8, c8, B8, d8, rfl, s8, t8, hb⟩; have X3 := hide (X3.out.next hb); have b8 := bl_trans b7 hb; have s7 := kp' hb s7; have t7 := kp' hb t7; clear hb)
        | (go_at_call 52; (with_reducible refine (PR.out A7 B7 c7 d7 A8 B8 c8 d8 _ s7 t7 s8 t8).mono ?_); rintro e w9 ⟨A9, c9, B9, d9, rfl, s9, t9, hb⟩; have X3 := hide (X3.out.next hb); have b9 := bl_trans b8 hb; clear hb)
        | (go_at_call 47; (with_reducible refine (BD.out A9 B9 c9 d9 _).mono ?_); rintro e w10 ⟨rfl, hb⟩; have X3 := hide (X3.out.next hb); obtain ⟨z1, z2, z3, z4, z5, z6⟩ := X3.out; have b10 := bl_trans b9 hb; have s9 := kp' hb s9; have t9 := kp' hb t9; clear hb))
      refine bodyPost_ret (v := .tuple #[.agg #[.bool (qs M), .slice A9 (ln (qn M)) c9, .slice B9 (ln (qd M)) d9], .int .i64 0]) (by simp [results, Tryz.results43, go_sem, z1, z2, z3]) rfl (RQE.mk rfl rfl rfl (s9.over3 X3.out _ _ _) (t9.over3 X3.out _ _ _) (Below.over3 b10 (by omega) _ _ _))
  · have K1' := cmpQ_nlt h1
    obtain ⟨k1, hk1⟩ : ∃ k, cmpQ q N = k := ⟨_, rfl⟩
    rw [hk1] at K1'
    rw [if_neg (fun e => h1 e.1)] at hZ
    subst hZ
    have K1 := hide hk1
    clear h1 hk1
    generalize qs q = s at *
    generalize qs r = t at *
    generalize ln (qn q) = i1 at *
    generalize ln (qd q) = i2 at *
    generalize ln (qn r) = i3 at *
    generalize ln (qd r) = i4 at *
    have X1 := hide (((Q3.new (.bool s) (.slice A i1 a) (.slice B i2 b) w).al (.cells #[.bool t, .slice C i3 c, .slice D i4 d] 24)).al (.cells #[.bool false, .slice none 0 0, .slice none 0 0] 24))
    have X2 := hide ((Q3.new1 (.bool t) (.slice C i3 c) (.slice D i4 d) w (.cells #[.bool s, .slice A i1 a, .slice B i2 b] 24)).al (.cells #[.bool false, .slice none 0 0, .slice none 0 0] 24))
    have X3 := hide (Q3.new2 (.bool false) (.slice none 0 0) (.slice none 0 0) w (.cells #[.bool s, .slice A i1 a, .slice B i2 b] 24) (.cells #[.bool t, .slice C i3 c, .slice D i4 d] 24))
    have b0 : Below w.heap.size w (((w.alloc (.cells #[.bool s, .slice A i1 a, .slice B i2 b] 24)).alloc (.cells #[.bool t, .slice C i3 c, .slice D i4 d] 24)).alloc (.cells #[.bool false, .slice none 0 0, .slice none 0 0] 24)) := bl_al (bl_al (bl_al (.refl _ _) _) _) _
    go_enter Tryz.func43, Tryz.ntmps43
    go_wp2_with (first
      | (go_at_call 25; (with_reducible refine (V1.out _ b0).mono ?_); rintro e w1 ⟨rfl, hb⟩; have X1 := hide (X1.out.next hb); have X2 := hide (X2.out.next hb); have X3 := hide (X3.out.next hb); (try clear x1 x2 x3 x4 x5 x6 y1 y2 y3 y4 y5 y6); obtain ⟨x1, x2, x3, x4, x5, x6⟩ := X1.out; obtain ⟨y1, y2, y3, y4, y5, y6⟩ := X2.out; have b1 := bl_trans b0 hb; clear hb)
      | (go_at_call 25; (with_reducible refine (V2.out _ b1).mono ?_); rintro e w2 ⟨rfl, hb⟩; have X1 := hide (X1.out.next hb); have X2 := hide (X2.out.next hb); have X3 := hide (X3.out.next hb); (try clear x1 x2 x3 x4 x5 x6 y1 y2 y3 y4 y5 y6); obtain ⟨x1, x2, x3, x4, x5, x6⟩ := X1.out; obtain ⟨y1, y2, y3, y4, y5, y6⟩ := X2.out; have b2 := bl_trans b1 hb; clear hb)
      | (go_at_call 55; (with_reducible refine (CM.out _ b2).mono ?_); rintro e w3 ⟨rfl, hb⟩; have X1 := hide (X1.out.next hb); have X2 := hide (X2.out.next hb); have X3 := hide (X3.out.next hb); (try clear x1 x2 x3 x4 x5 x6 y1 y2 y3 y4 y5 y6); obtain ⟨x1, x2, x3, x4, x5, x6⟩ := X1.out; obtain ⟨y1, y2, y3, y4, y5, y6⟩ := X2.out; have b3 := bl_trans b2 hb; clear hb)
      | (go_at_call 94; (with_reducible refine (NR.out _ b3).mono ?_); rintro e w4 ⟨A4, c4, B4, d4, rfl, s4, t4, hb⟩; have X1 := hide ((X1.out.next hb).al (.cells #[.bool (qs N), .slice A4 (ln (qn N)) c4, .slice B4 (ln (qd N)) d4] 24)); have X2 := hide ((X2.out.next hb).al (.cells #[.bool (qs N), .slice A4 (ln (qn N)) c4, .slice B4 (ln (qd N)) d4] 24)); have X3 := hide ((X3.out.next hb).al (.cells #[.bool (qs N), .slice A4 (ln (qn N)) c4, .slice B4 (ln (qd N)) d4] 24)); have X4 := hide (Q3.new (.bool (qs N)) (.slice A4 (ln (qn N)) c4) (.slice B4 (ln (qd N)) d4) w4); (try clear x1 x2 x3 x4 x5 x6 y1 y2 y3 y4 y5 y6); obtain ⟨x1, x2, x3, x4, x5, x6⟩ := X1.out; obtain ⟨y1, y2, y3, y4, y5, y6⟩ := X2.out; obtain ⟨v1, v2, v3, v4, v5, v6⟩ := X4.out; have b4 : Below w.heap.size w (w4.alloc (.cells #[.bool (qs N), .slice A4 (ln (qn N)) c4, .slice B4 (ln (qd N)) d4] 24)) := bl_al (bl_trans b3 hb) _; have s4 := s4.alloc (.cells #[.bool (qs N), .slice A4 (ln (qn N)) c4, .slice B4 (ln (qd N)) d4] 24); have t4 := t4.alloc (.cells #[.bool (qs N), .slice A4 (ln (qn N)) c4, .slice B4 (ln (qd N)) d4] 24); clear hb)
      | (go_at_call 55; (with_reducible refine (C1.out k1 A4 B4 c4 d4 _ b4 s4 t4 K1.out).mono ?_); rintro e w5 ⟨rfl, hb⟩; have X1 := hide (X1.out.next hb); have X2 := hide (X2.out.next hb); have X3 := hide (X3.out.next hb); (try clear x1 x2 x3 x4 x5 x6 y1 y2 y3 y4 y5 y6); obtain ⟨x1, x2, x3, x4, x5, x6⟩ := X1.out; obtain ⟨y1, y2, y3, y4, y5, y6⟩ := X2.out; have X4 := hide (X4.out.next hb); clear v1 v2 v3 v4 v5 v6; obtain ⟨v1, v2, v3, v4, v5, v6⟩ := X4.out; have s4 := kp' hb s4; have t4 := kp' hb t4; have b5 := bl_trans b4 hb; clear hb)
      | (go_at_call 48; (with_reducible refine (SM.out _ b5).mono ?_); rintro e w7 ⟨A7, c7, B7, d7, rfl, s7, t7, hb⟩; have X3 := hide (X3.out.next hb); have b7 := bl_trans b5 hb; clear hb)
      | (go_at_call 42; (with_reducible refine (O.out _).mono ?_); rintro e w8 ⟨A8, c8, B8, d8, rfl, s8, t8, hb⟩; have X3 := hide (X3.out.next hb); have b8 := bl_trans b7 hb; have s7 := kp' hb s7; have t7 := kp' hb t7; clear hb)
      | (go_at_call 52; (with_reducible refine (PR.out A7 B7 c7 d7 A8 B8 c8 d8 _ s7 t7 s8 t8).mono ?_); rintro e w9 ⟨A9, c9, B9, d9, rfl, s9, t9, hb⟩; have X3 := hide (X3.out.next hb); have b9 := bl_trans b8 hb; clear hb)
      | (go_at_call 47; (with_reducible refine (BD.out A9 B9 c9 d9 _).mono ?_); rintro e w10 ⟨rfl, hb⟩; have X3 := hide (X3.out.next hb); obtain ⟨z1, z2, z3, z4, z5, z6⟩ := X3.out; have b10 := bl_trans b9 hb; have s9 := kp' hb s9; have t9 := kp' hb t9; clear hb))
    refine bodyPost_ret (v := .tuple #[.agg #[.bool (qs M), .slice A9 (ln (qn M)) c9, .slice B9 (ln (qd M)) d9], .int .i64 0]) (by simp [results, Tryz.results43, go_sem, z1, z2, z3]) rfl (RQE.mk rfl rfl rfl (s9.over3 X3.out _ _ _) (t9.over3 X3.out _ _ _) (Below.over3 b10 (by omega) _ _ _))

/-- A fraction's text. -/
def textQ (q : Rat) : List UInt8 := textISp (qs q) (digs (qn q)) ++ (if qd q = 1 then [] else 47 :: Lib.decDigits (qd q))
theorem op_cat (t : TypeId) (x y : ByteArray) (h : x.size + y.size ≤ 1000000) : binOp .add t (.string x) (.string y) = pure (.string (x ++ y)) := by
  show (if ((x.size + y.size : Nat) : Int) > IntKind.i64.max then _ else pure (Value.string (x ++ y))) = _
  rw [if_neg]
  have : IntKind.i64.max = 9223372036854775807 := rfl
  omega
theorem textI_size (s : Bool) (x : Nat) : (⟨(textISp s (digs x)).toArray⟩ : ByteArray).size ≤ 10001 := by
  have h := text_size (limbs_digs x)
  have h' : (textSp (digs x)).length ≤ 10000 := by rwa [Lib.size_eq] at h
  rw [Lib.size_eq]
  show (textISp s (digs x)).length ≤ 10001
  unfold textISp
  split
  · split
    · simp only [List.length_cons]; omega
    · omega
  · simp
theorem dec_size {x : Nat} (h : ln x ≤ 64) : (⟨(Lib.decDigits x).toArray⟩ : ByteArray).size ≤ 10000 := by
  have h1 := text_size (limbs_digs x)
  have h2 : textSp (digs x) = Lib.decDigits x := by
    unfold textSp
    rw [valid_short h (norm_digs _), val_digs]; rfl
  rwa [h2] at h1
theorem nat_text (A : Option Addr) (c x : Nat) (w : World) (s : Sl w A (digs x)) (h : ln x ≤ 64) (ht : Pow10 w) :
    Calls Tryz.prog 82 #[.slice A (ln x) c] w fun e w' => e = .returned (.string ⟨(Lib.decDigits x).toArray⟩) ∧ Below w.heap.size w w' := by
  have t := text_ok A (ln x) c (digs x) w rfl s (limbs_digs _) (valid_short h (norm_digs _)) h ht
  rwa [val_digs] at t

set_option maxRecDepth 100000 in
set_option maxHeartbeats 4000000 in
theorem text_q (q : Rat) (A B : Option Addr) (a b : Nat) (w : World) (sA : Sl w A (digs (qn q))) (sB : Sl w B (digs (qd q))) (f1 : fitq q) (ht : Pow10 w) (l : List UInt8) (hl : textQ q = l) :
    Calls Tryz.prog 45 #[.agg #[.bool (qs q), .slice A (ln (qn q)) a, .slice B (ln (qd q)) b]] w fun e w' => e = .returned (.string ⟨l.toArray⟩) ∧ Below w.heap.size w w' := by
  subst hl
  have V1 := hide (fun W (k : Below w.heap.size w W) => valid_q q A B a b W (kp' k sA) (kp' k sB) f1.1 f1.2)
  have T := hide (fun W => top_q (qs q) A B (ln (qn q)) a (ln (qd q)) b W)
  have WT := hide (fun W (k : Below w.heap.size w W) => textI_any (qs q) A a (digs (qn q)) W (kp' k sA) (limbs_digs _) (Nat.le_trans f1.1 (by decide)) (pow_below ht k))
  have WT : Hid (∀ W, Below w.heap.size w W → Calls Tryz.prog 96 #[.agg #[.bool (qs q), .slice A (ln (qn q)) a]] W fun e w' => e = .returned (.string ⟨(textISp (qs q) (digs (qn q))).toArray⟩) ∧ Below W.heap.size W w') := WT
  have NT := hide (fun W (k : Below w.heap.size w W) => nat_text B b (qd q) W (kp' k sB) f1.2 (pow_below ht k))
  have z1 := textI_size (qs q) (qn q)
  have z2 := dec_size f1.2
  obtain ⟨D1, hD1⟩ : ∃ D : ByteArray, D = ⟨(textISp (qs q) (digs (qn q))).toArray⟩ := ⟨_, rfl⟩
  obtain ⟨D2, hD2⟩ : ∃ D : ByteArray, D = ⟨(Lib.decDigits (qd q)).toArray⟩ := ⟨_, rfl⟩
  have l1 : D1.data.toList = textISp (qs q) (digs (qn q)) := by rw [hD1]
  have l2 : D2.data.toList = Lib.decDigits (qd q) := by rw [hD2]
  rw [← hD1] at WT z1
  rw [← hD2] at NT z2
  by_cases h1 : qd q = 1
  · have E := hide (show (⟨(textQ q).toArray⟩ : ByteArray) = D1 by
      unfold textQ
      rw [if_pos h1, List.append_nil, hD1])
    have I := hide (fun W (k : Below w.heap.size w W) => isOne_any B b (qd q) W (kp' k sB) true (decide_eq_true h1))
    rw [E.out]
    clear NT l1 l2 hD1 hD2 sA sB f1 ht E
    generalize qs q = s at *
    generalize ln (qn q) = i1 at *
    generalize ln (qd q) = i2 at *
    have X1 := hide (Q3.new (.bool s) (.slice A i1 a) (.slice B i2 b) w)
    have b0 : Below w.heap.size w (w.alloc (.cells #[.bool s, .slice A i1 a, .slice B i2 b] 24)) := bl_al (.refl _ _) _
    go_enter Tryz.func45, Tryz.ntmps45
    go_wp2_with (first
      | (go_at_call 25; (with_reducible refine (V1.out _ b0).mono ?_); rintro e w1 ⟨rfl, hb⟩; have X1 := hide (X1.out.next hb); obtain ⟨x1, x2, x3, x4, x5, x6⟩ := X1.out; have b1 := bl_trans b0 hb; clear hb)
      | (go_at_call 63; (with_reducible refine (I.out _ b1).mono ?_); rintro e w' ⟨rfl, rfl⟩)
      | (go_at_call 58; (with_reducible refine (T.out _).mono ?_); rintro e w2 ⟨rfl, hb⟩; have b2 := bl_trans b1 hb; clear hb)
      | (go_at_call 96; (with_reducible refine (WT.out _ b2).mono ?_); rintro e w3 ⟨rfl, hb⟩; have b3 := bl_trans b2 hb; clear hb))
    go_ret
    exact ⟨rfl, b3⟩
  · have E := hide (show (⟨(textQ q).toArray⟩ : ByteArray) = D1 ++ ⟨#[47]⟩ ++ D2 by
      unfold textQ
      rw [if_neg h1, ← l1, ← l2]
      apply ByteArray.ext
      simp)
    have I := hide (fun W (k : Below w.heap.size w W) => isOne_any B b (qd q) W (kp' k sB) false (decide_eq_false h1))
    rw [E.out]
    have o1 := op_cat 9 D1 ⟨#[47]⟩ (by have : (⟨#[47]⟩ : ByteArray).size = 1 := rfl; omega)
    have o2 := op_cat 9 (D1 ++ ⟨#[47]⟩) D2 (by rw [ByteArray.size_append]; have : (⟨#[47]⟩ : ByteArray).size = 1 := rfl; omega)
    clear l1 l2 hD1 hD2 sA sB f1 ht E
    generalize qs q = s at *
    generalize ln (qn q) = i1 at *
    generalize ln (qd q) = i2 at *
    have X1 := hide (Q3.new (.bool s) (.slice A i1 a) (.slice B i2 b) w)
    have b0 : Below w.heap.size w (w.alloc (.cells #[.bool s, .slice A i1 a, .slice B i2 b] 24)) := bl_al (.refl _ _) _
    go_enter Tryz.func45, Tryz.ntmps45
    go_wp2_with (first
      | (go_at_call 25; (with_reducible refine (V1.out _ b0).mono ?_); rintro e w1 ⟨rfl, hb⟩; have X1 := hide (X1.out.next hb); obtain ⟨x1, x2, x3, x4, x5, x6⟩ := X1.out; have b1 := bl_trans b0 hb; clear hb)
      | (go_at_call 63; (with_reducible refine (I.out _ b1).mono ?_); rintro e w' ⟨rfl, rfl⟩))
    have kb := hide b1.drew
    go_region_held3 (fun W => W.cell? ⟨w.heap.size, 0, none⟩ = some (.bool s) ∧ W.cell? ⟨w.heap.size, 1, none⟩ = some (.slice A i1 a) ∧ W.cell? ⟨w.heap.size, 2, none⟩ = some (.slice B i2 b))
      (first | exact ⟨x1, x2, x3⟩ | exact S3_next hb (by assumption) | assumption)
      (first
        | (go_at_call 58; (with_reducible refine (T.out _).mono ?_); rintro e w2 ⟨rfl, hb⟩; have kb := hide (bl_trans kb.out hb))
        | (go_at_call 96; (with_reducible refine (WT.out _ kb.out).mono ?_); rintro e w3 ⟨rfl, hb⟩; have kb := hide (bl_trans kb.out hb))
        | (go_at_call 82; (with_reducible refine (NT.out _ kb.out).mono ?_); rintro e w4 ⟨rfl, hb⟩; have kb := hide (bl_trans kb.out hb)))
    go_wp2
    go_ret
    exact ⟨rfl, kb.out⟩

set_option maxRecDepth 100000 in
set_option maxHeartbeats 4000000 in
/-- A text of two numbers' texts is read. -/
theorem parse_q (s : ByteArray) (u v : List UInt8) (x : Int) (y : Nat) (q : Rat) (w : World) (hs : s.size ≤ 100000) (hsl : s.data.toList = u ++ 47 :: v) (hu : (47 : UInt8) ∉ u)
    (h1 : parseISp u = (isg x, idg x, 0)) (h2 : parseSp v = (digs y, 0)) (hy : 0 < y) (hx : ln x.natAbs ≤ 64) (hyl : ln y ≤ 64) (hq : qmk (isg x) x.natAbs y = q) :
    Calls Tryz.prog 44 #[.string s] w (RQE w q) := by
  have hlen : u.length ≤ 100000 ∧ v.length ≤ 100000 := by
    have := Lib.size_eq s
    rw [hsl, List.length_append, List.length_cons] at this
    omega
  have CU := hide (fun W => cut_hit s 47 u v W hsl hu (by omega))
  have IP0 := fun W => parseI_any ⟨u.toArray⟩ W (by rw [Lib.size_eq]; show u.length ≤ _; omega)
  have NP0 := fun W => parse_any ⟨v.toArray⟩ W (by rw [Lib.size_eq]; show v.length ≤ _; omega)
  have IP : Hid (∀ W, Calls Tryz.prog 95 #[.string ⟨u.toArray⟩] W (ITwo W (isg x, idg x, 0))) := fun W => by rw [← h1]; exact IP0 W
  have NP : Hid (∀ W, Calls Tryz.prog 73 #[.string ⟨v.toArray⟩] W (Two W (digs y, 0))) := fun W => by rw [← h2]; exact NP0 W
  have L := hide (fun X Y e f W (s1 : Sl W X (digs x.natAbs)) (s2 : Sl W Y (digs y)) => lowest_q (isg x) X Y e f x.natAbs y q W s1 s2 (by omega) (by omega) hy hq)
  have hj : ((ln y : Int) == 0) = false := beq_eq_false_iff_ne.2 (by have := ln_pos.2 hy; omega)
  have e0 : binOp .eql 27 (.int .i64 0) (.int .i64 0) = pure (.bool true) := rfl
  obtain ⟨t, ht⟩ : ∃ t, isg x = t := ⟨_, rfl⟩
  obtain ⟨n, hn⟩ : ∃ n, x.natAbs = n := ⟨_, rfl⟩
  have IP2 : Hid (∀ W, Calls Tryz.prog 95 #[.string ⟨u.toArray⟩] W fun e w' => ∃ A c, e = .returned (.tuple #[.agg #[.bool t, .slice A (ln n) c], .int .i64 0]) ∧ Sl w' A (digs n) ∧ Below W.heap.size W w') := fun W => (IP.out W).mono fun e w' h => by
    obtain ⟨A, c, he, s1, b1⟩ := h
    refine ⟨A, c, ?_, ?_, b1⟩
    · rw [he, ← ht, ← hn]; rfl
    · rw [← hn]; exact s1
  have NP2 : Hid (∀ W, Calls Tryz.prog 73 #[.string ⟨v.toArray⟩] W fun e w' => ∃ A c, e = .returned (.tuple #[.slice A (ln y) c, .int .i64 0]) ∧ Sl w' A (digs y) ∧ Below W.heap.size W w') := fun W => (NP.out W).mono fun e w' h => by
    obtain ⟨A, c, he, s1, b1⟩ := h.get
    exact ⟨A, c, he, s1, b1⟩
  rw [ht, hn] at L
  clear IP NP IP0 NP0 h1 h2 hu hsl hs hlen hx hyl hq ht hn hy
  generalize (⟨u.toArray⟩ : ByteArray) = U at *
  generalize (⟨v.toArray⟩ : ByteArray) = V at *
  have X := hide (Q3.new (.bool false) (.slice none 0 0) (.slice none 0 0) w)
  have b0 : Below w.heap.size w (w.alloc (.cells #[.bool false, .slice none 0 0, .slice none 0 0] 24)) := bl_al (.refl _ _) _
  go_enter Tryz.func44, Tryz.ntmps44
  go_wp2_with (first
    | (go_at_call 69; (with_reducible refine (CU.out _).mono ?_); rintro e w1 ⟨rfl, hb⟩; have X := hide (X.out.next hb); have b1 := bl_trans b0 hb; clear hb)
    | (go_at_call 95; (with_reducible refine (IP2.out _).mono ?_); rintro e w2 ⟨A2, c2, rfl, s2, hb⟩; have X := hide ((X.out.next hb).al (.cells #[.bool t, .slice A2 (ln n) c2] 50)); have Y := hide (Q2.new (.bool t) (.slice A2 (ln n) c2) w2); have b2 : Below w.heap.size w (w2.alloc (.cells #[.bool t, .slice A2 (ln n) c2] 50)) := bl_al (bl_trans b1 hb) _; have s2 := s2.alloc (.cells #[.bool t, .slice A2 (ln n) c2] 50); obtain ⟨y1, y2, y3, y4⟩ := Y.out; clear hb)
    | (go_at_call 73; (with_reducible refine (NP2.out _).mono ?_); rintro e w3 ⟨A3, c3, rfl, s3, hb⟩; have X := hide (X.out.next hb); have Y := hide (Y.out.next hb); clear y1 y2 y3 y4; obtain ⟨y1, y2, y3, y4⟩ := Y.out; have b3 := bl_trans b2 hb; have s2 := kp' hb s2; clear hb)
    | (go_at_call 93; (with_reducible refine (L.out A2 A3 c2 c3 _ s2 s3).mono ?_); rintro e w4 ⟨A4, c4, B4, d4, rfl, s4, t4, hb⟩; have X := hide (X.out.next hb); obtain ⟨z1, z2, z3, z4, z5, z6⟩ := X.out; have b4 := bl_trans b3 hb; clear hb))
  refine bodyPost_ret (v := .tuple #[.agg #[.bool (qs q), .slice A4 (ln (qn q)) c4, .slice B4 (ln (qd q)) d4], .int .i64 0]) (by simp [results, Tryz.results44, go_sem, z1, z2, z3]) rfl (RQE.mk rfl rfl rfl (s4.over3 X.out _ _ _) (t4.over3 X.out _ _ _) (Below.over3 b4 (Nat.le_refl _) _ _ _))
end Nt

end Go.Proofs.YtboppbidldomhaaGreatDoor

namespace Go.Proofs.YtboppbidldomhaaGreatDoor

open Go.RowKit

namespace Nt

theorem lsame_z (A B : Option Addr) (c d n m : Nat) (xs ys : List Nat) (w : World) (hx : Sl w A xs) (hy : Sl w B ys) (hn : xs.length = n) (hm : ys.length = m) (hl : n ≤ 1000000) (hl' : m ≤ 1000000) (r : Bool) (hr : decide (xs = ys) = r) :
    Calls Tryz.prog 37 #[.slice A n c, .slice B m d] w fun e w' => e = .returned (.bool r) ∧ Below w.heap.size w w' := by
  subst hn hm hr
  exact (same_any A B c d xs ys w hx hy hl hl').mono fun e w' h => ⟨h.1, by obtain ⟨n, e⟩ := h.2; exact bl_q0 e⟩
set_option maxRecDepth 100000 in
set_option maxHeartbeats 4000000 in
theorem Same_any (s t : Bool) (A B C D : Option Addr) (a b c d i1 i2 i3 i4 : Nat) (xs ys us vs : List Nat) (w : World) (sA : Sl w A xs) (sB : Sl w B ys) (sC : Sl w C us) (sD : Sl w D vs) (h1 : xs.length = i1) (h2 : ys.length = i2) (h3 : us.length = i3) (h4 : vs.length = i4)
    (l1 : i1 ≤ 1000000) (l2 : i2 ≤ 1000000) (l3 : i3 ≤ 1000000) (l4 : i4 ≤ 1000000) (r : Bool) (hr : decide (s = t ∧ xs = us ∧ ys = vs) = r) :
    Calls Tryz.prog 32 #[.agg #[.bool s, .slice A i1 a, .slice B i2 b], .agg #[.bool t, .slice C i3 c, .slice D i4 d]] w fun e w' => e = .returned (.bool r) ∧ Below w.heap.size w w' := by
  obtain ⟨r0, hr0⟩ : ∃ r0, (s == t) = r0 := ⟨_, rfl⟩
  obtain ⟨r1, hr1⟩ : ∃ r1, decide (xs = us) = r1 := ⟨_, rfl⟩
  obtain ⟨r2, hr2⟩ : ∃ r2, decide (ys = vs) = r2 := ⟨_, rfl⟩
  have L1 := hide (fun W (k : Below w.heap.size w W) => lsame_z A C a c i1 i3 xs us W (kp' k sA) (kp' k sC) h1 h3 l1 l3 r1 hr1)
  have L2 := hide (fun W (k : Below w.heap.size w W) => lsame_z B D b d i2 i4 ys vs W (kp' k sB) (kp' k sD) h2 h4 l2 l4 r2 hr2)
  have on := op_beq s t r0 hr0
  have hr : r = (r0 && (r1 && r2)) := by
    rw [← hr, ← hr0, ← hr1, ← hr2]
    by_cases e1 : s = t <;> by_cases e2 : xs = us <;> by_cases e3 : ys = vs <;> simp [e1, e2, e3]
  clear hr0 hr1 hr2 sA sB sC sD h1 h2 h3 h4 l1 l2 l3 l4
  have X1 := hide ((Q3.new (.bool s) (.slice A i1 a) (.slice B i2 b) w).al (.cells #[.bool t, .slice C i3 c, .slice D i4 d] 24))
  have X2 := hide (Q3.new1 (.bool t) (.slice C i3 c) (.slice D i4 d) w (.cells #[.bool s, .slice A i1 a, .slice B i2 b] 24))
  have b0 : Below w.heap.size w ((w.alloc (.cells #[.bool s, .slice A i1 a, .slice B i2 b] 24)).alloc (.cells #[.bool t, .slice C i3 c, .slice D i4 d] 24)) := bl_al (bl_al (.refl _ _) _) _
  cases r0 with
  | false =>
    go_enter Tryz.func32, Tryz.ntmps32
    go_wp2
    go_ret
    exact ⟨by rw [hr]; rfl, b0⟩
  | true =>
    cases r1 with
    | false =>
      go_enter Tryz.func32, Tryz.ntmps32
      go_wp2_with (first
        | (go_at_call 37; (with_reducible refine (L1.out _ b0).mono ?_); rintro e w1 ⟨rfl, hb⟩; have X1 := hide (X1.out.next hb); have X2 := hide (X2.out.next hb); (try clear x1 x2 x3 x4 x5 x6 y1 y2 y3 y4 y5 y6); obtain ⟨x1, x2, x3, x4, x5, x6⟩ := X1.out; obtain ⟨y1, y2, y3, y4, y5, y6⟩ := X2.out; have b1 := bl_trans b0 hb; clear hb))
      go_ret
      exact ⟨by rw [hr]; rfl, b1⟩
    | true =>
      go_enter Tryz.func32, Tryz.ntmps32
      go_wp2_with (first
        | (go_at_call 37; (with_reducible refine (L1.out _ b0).mono ?_); rintro e w1 ⟨rfl, hb⟩; have X1 := hide (X1.out.next hb); have X2 := hide (X2.out.next hb); (try clear x1 x2 x3 x4 x5 x6 y1 y2 y3 y4 y5 y6); obtain ⟨x1, x2, x3, x4, x5, x6⟩ := X1.out; obtain ⟨y1, y2, y3, y4, y5, y6⟩ := X2.out; have b1 := bl_trans b0 hb; clear hb)
        | (go_at_call 37; (with_reducible refine (L2.out _ b1).mono ?_); rintro e w2 ⟨rfl, hb⟩; have b2 := bl_trans b1 hb; clear hb))
      go_ret
      exact ⟨by rw [hr]; rfl, b2⟩
set_option maxRecDepth 100000 in
set_option maxHeartbeats 4000000 in
theorem same_q (q r : Rat) (A B C D : Option Addr) (a b c d : Nat) (w : World) (sA : Sl w A (digs (qn q))) (sB : Sl w B (digs (qd q))) (sC : Sl w C (digs (qn r))) (sD : Sl w D (digs (qd r))) (f1 : fitq q) (f2 : fitq r) (z : Bool) (hz : decide (q = r) = z) :
    Calls Tryz.prog 32 #[.agg #[.bool (qs q), .slice A (ln (qn q)) a, .slice B (ln (qd q)) b], .agg #[.bool (qs r), .slice C (ln (qn r)) c, .slice D (ln (qd r)) d]] w fun e w' => e = .returned (.bool z) ∧ Below w.heap.size w w' :=
  Same_any _ _ A B C D a b c d _ _ _ _ _ _ _ _ w sA sB sC sD rfl rfl rfl rfl (Nat.le_trans f1.1 (by decide)) (Nat.le_trans f1.2 (by decide)) (Nat.le_trans f2.1 (by decide)) (Nat.le_trans f2.2 (by decide)) z (by
    rw [← hz, decide_eq_decide]
    constructor
    · rintro ⟨e1, e2, e3⟩
      exact q_ext e1 (by rw [← val_digs (qn q), e2, val_digs]) (by rw [← val_digs (qd q), e3, val_digs])
    · rintro rfl; exact ⟨rfl, rfl, rfl⟩)
set_option maxRecDepth 100000 in
set_option maxHeartbeats 4000000 in
theorem same3_any (s t : Bool) (A B C D : Option Addr) (a b c d i1 i2 i3 i4 : Nat) (w : World) (z : Bool) (H : ∀ W, Below w.heap.size w W → Calls Tryz.prog 32 #[.agg #[.bool s, .slice A i1 a, .slice B i2 b], .agg #[.bool t, .slice C i3 c, .slice D i4 d]] W fun e w' => e = .returned (.bool z) ∧ Below W.heap.size W w') :
    Calls Tryz.prog 18 #[.agg #[.bool s, .slice A i1 a, .slice B i2 b], .agg #[.bool t, .slice C i3 c, .slice D i4 d]] w fun e w' => e = .returned (.bool z) ∧ Below w.heap.size w w' := by
  have H := hide H
  have X1 := hide ((Q3.new (.bool s) (.slice A i1 a) (.slice B i2 b) w).al (.cells #[.bool t, .slice C i3 c, .slice D i4 d] 24))
  have X2 := hide (Q3.new1 (.bool t) (.slice C i3 c) (.slice D i4 d) w (.cells #[.bool s, .slice A i1 a, .slice B i2 b] 24))
  have b0 : Below w.heap.size w ((w.alloc (.cells #[.bool s, .slice A i1 a, .slice B i2 b] 24)).alloc (.cells #[.bool t, .slice C i3 c, .slice D i4 d] 24)) := bl_al (bl_al (.refl _ _) _) _
  go_enter Tryz.func18, Tryz.ntmps18
  go_wp2_with ((go_at_call 32; (with_reducible refine (H.out _ b0).mono ?_); rintro e w1 ⟨rfl, hb⟩; have b1 := bl_trans b0 hb; clear hb))
  go_ret
  exact ⟨rfl, b1⟩
theorem same3_q (q r : Rat) (A B C D : Option Addr) (a b c d : Nat) (w : World) (sA : Sl w A (digs (qn q))) (sB : Sl w B (digs (qd q))) (sC : Sl w C (digs (qn r))) (sD : Sl w D (digs (qd r))) (f1 : fitq q) (f2 : fitq r) (z : Bool) (hz : decide (q = r) = z) :
    Calls Tryz.prog 18 #[.agg #[.bool (qs q), .slice A (ln (qn q)) a, .slice B (ln (qd q)) b], .agg #[.bool (qs r), .slice C (ln (qn r)) c, .slice D (ln (qd r)) d]] w fun e w' => e = .returned (.bool z) ∧ Below w.heap.size w w' :=
  same3_any _ _ A B C D a b c d _ _ _ _ w z (fun W k => same_q q r A B C D a b c d W (kp' k sA) (kp' k sB) (kp' k sC) (kp' k sD) f1 f2 z hz)
theorem cq_t (t : TypeId) {x y : Int} (h : x ≤ y) : binOp .leq t (.int .i64 x) (.int .i64 y) = pure (.bool true) := by
  show pure (Value.bool (decide (x ≤ y))) = _
  rw [decide_eq_true h]
theorem cq_f (t : TypeId) {x y : Int} (h : y < x) : binOp .leq t (.int .i64 x) (.int .i64 y) = pure (.bool false) := by
  show pure (Value.bool (decide (x ≤ y))) = _
  rw [decide_eq_false (by omega)]
set_option maxRecDepth 100000 in
set_option maxHeartbeats 4000000 in
theorem few_any (s t : Bool) (A B C D : Option Addr) (a b c d i1 i2 i3 i4 : Nat) (w : World) (r : Bool) (hr : decide (i1 ≤ 10 ∧ i2 ≤ 10 ∧ i3 ≤ 10 ∧ i4 ≤ 10) = r) :
    Calls Tryz.prog 8 #[.agg #[.bool s, .slice A i1 a, .slice B i2 b], .agg #[.bool t, .slice C i3 c, .slice D i4 d]] w fun e w' => e = .returned (.bool r) ∧ Below w.heap.size w w' := by
  have X1 := hide ((Q3.new (.bool s) (.slice A i1 a) (.slice B i2 b) w).al (.cells #[.bool t, .slice C i3 c, .slice D i4 d] 24))
  have X2 := hide (Q3.new1 (.bool t) (.slice C i3 c) (.slice D i4 d) w (.cells #[.bool s, .slice A i1 a, .slice B i2 b] 24))
  have b0 : Below w.heap.size w ((w.alloc (.cells #[.bool s, .slice A i1 a, .slice B i2 b] 24)).alloc (.cells #[.bool t, .slice C i3 c, .slice D i4 d] 24)) := bl_al (bl_al (.refl _ _) _) _
  clear X1 X2
  by_cases h1 : i1 ≤ 10
  · have o1 := cq_t 3 (x := (i1 : Int)) (y := 10) (by omega)
    by_cases h2 : i2 ≤ 10
    · have o2 := cq_t 3 (x := (i2 : Int)) (y := 10) (by omega)
      by_cases h3 : i3 ≤ 10
      · have o3 := cq_t 3 (x := (i3 : Int)) (y := 10) (by omega)
        by_cases h4 : i4 ≤ 10
        · have o4 := cq_t 3 (x := (i4 : Int)) (y := 10) (by omega)
          go_enter Tryz.func8, Tryz.ntmps8
          go_wp2
          go_ret
          exact ⟨ret_bool (by rw [← hr]; simp [h1, h2, h3, h4]), b0⟩
        · have o4 := cq_f 3 (x := (i4 : Int)) (y := 10) (by omega)
          go_enter Tryz.func8, Tryz.ntmps8
          go_wp2
          go_ret
          exact ⟨ret_bool (by rw [← hr]; simp; omega), b0⟩
      · have o3 := cq_f 3 (x := (i3 : Int)) (y := 10) (by omega)
        go_enter Tryz.func8, Tryz.ntmps8
        go_wp2
        go_ret
        exact ⟨ret_bool (by rw [← hr]; simp; omega), b0⟩
    · have o2 := cq_f 3 (x := (i2 : Int)) (y := 10) (by omega)
      go_enter Tryz.func8, Tryz.ntmps8
      go_wp2
      go_ret
      exact ⟨ret_bool (by rw [← hr]; simp; omega), b0⟩
  · have o1 := cq_f 3 (x := (i1 : Int)) (y := 10) (by omega)
    go_enter Tryz.func8, Tryz.ntmps8
    go_wp2
    go_ret
    exact ⟨ret_bool (by rw [← hr]; simp; omega), b0⟩
set_option maxRecDepth 100000 in
set_option maxHeartbeats 4000000 in
theorem of_zero (n : Int) (w : World) : Calls Tryz.prog 42 #[.int .i64 n, .int .i64 0] w (RQ w 0) := by
  have O1 := hide (fun W => whole_of 0 0 false W (by decide) (by decide) rfl rfl)
  have O2 := hide (fun W => whole_of 1 1 false W (by decide) (by decide) rfl rfl)
  have hq : qmk false 0 1 = 0 := by rw [qmk_one]; rfl
  have L := hide (fun A B c e W (sx : Sl W A (digs 0)) (sy : Sl W B (digs 1)) => lowest_q false A B c e 0 1 0 W sx sy (by rw [ln_zero]; decide) (by rw [ln_one]; decide) (by decide) hq)
  have on := op_bne false false false rfl
  clear hq
  have X := hide (Q3.new (.bool false) (.slice none 0 0) (.slice none 0 0) w)
  have b0 : Below w.heap.size w (w.alloc (.cells #[.bool false, .slice none 0 0, .slice none 0 0] 24)) := bl_al (.refl _ _) _
  generalize hz0 : ln 0 = z0 at *
  generalize hz1 : ln 1 = z1 at *
  clear hz0 hz1
  go_enter Tryz.func42, Tryz.ntmps42
  go_wp2_with (first
    | (go_at_call 92; (with_reducible refine (O1.out _).mono ?_); rintro e w1 ⟨A1, c1, rfl, s1, hb⟩; have X := hide (X.out.next hb); have b1 := bl_trans b0 hb; clear hb)
    | (go_at_call 92; (with_reducible refine (O2.out _).mono ?_); rintro e w2 ⟨A2, c2, rfl, s2, hb⟩; have X : Hid (Q3 w.heap.size (.bool false) (.slice none 0 0) (.slice none 0 0) ((w2.alloc (.cells #[.bool false, .slice A1 z0 c1] 50)).alloc (.cells #[.bool false, .slice A2 z1 c2] 50))) := hide (((X.out.next hb).al _).al _); have Y1 := hide ((Q2.new (.bool false) (.slice A1 z0 c1) w2).al (.cells #[.bool false, .slice A2 z1 c2] 50)); have Y2 := hide (Q2.new1 (.bool false) (.slice A2 z1 c2) w2 (.cells #[.bool false, .slice A1 z0 c1] 50)); have s1 := ((kp' hb s1).alloc (.cells #[.bool false, .slice A1 z0 c1] 50)).alloc (.cells #[.bool false, .slice A2 z1 c2] 50); have s2 := (s2.alloc (.cells #[.bool false, .slice A1 z0 c1] 50)).alloc (.cells #[.bool false, .slice A2 z1 c2] 50); have b2 : Below w.heap.size w ((w2.alloc (.cells #[.bool false, .slice A1 z0 c1] 50)).alloc (.cells #[.bool false, .slice A2 z1 c2] 50)) := bl_al (bl_al (bl_trans b1 hb) _) _; obtain ⟨y1, y2, y3, y4⟩ := Y1.out; obtain ⟨y5, y6, y7, y8⟩ := Y2.out; clear hb)
    | (go_at_call 93; (with_reducible refine (L.out A1 A2 c1 c2 _ s1 s2).mono ?_); rintro e w3 ⟨A3, c3, B3, d3, rfl, s3, t3, hb⟩; have X := hide (X.out.next hb); obtain ⟨x1, x2, x3, x4, x5, x6⟩ := X.out; have b3 := bl_trans b2 hb; clear hb))
  refine bodyPost_ret (v := .agg #[.bool (qs 0), .slice A3 (ln (qn 0)) c3, .slice B3 (ln (qd 0)) d3]) (by simp [results, Tryz.results42, go_sem, x1, x2, x3]) rfl (RQ.mk rfl rfl rfl (s3.over3 X.out _ _ _) (t3.over3 X.out _ _ _) (Below.over3 b3 (Nat.le_refl _) _ _ _))
set_option maxRecDepth 100000 in
set_option maxHeartbeats 4000000 in
theorem quo_zero (q r : Rat) (A B C D : Option Addr) (a b c d : Nat) (w : World) (sA : Sl w A (digs (qn q))) (sB : Sl w B (digs (qd q))) (sC : Sl w C (digs (qn r))) (sD : Sl w D (digs (qd r))) (f1 : fitq q) (f2 : fitq r) (h0 : r = 0) :
    Calls Tryz.prog 16 #[.agg #[.bool (qs q), .slice A (ln (qn q)) a, .slice B (ln (qd q)) b], .agg #[.bool (qs r), .slice C (ln (qn r)) c, .slice D (ln (qd r)) d]] w (RNo 1 w) := by
  have V1 := hide (fun W (k : Below w.heap.size w W) => valid_q q A B a b W (kp' k sA) (kp' k sB) f1.1 f1.2)
  have V2 := hide (fun W (k : Below w.heap.size w W) => valid_q r C D c d W (kp' k sC) (kp' k sD) f2.1 f2.2)
  have hi3 : ln (qn r) = 0 := ln_eq_zero.2 (qn_zero_iff.2 h0)
  rw [hi3] at V2 ⊢
  clear sA sB sC sD f1 f2 h0 hi3
  generalize qs q = s at *
  generalize qs r = t at *
  generalize ln (qn q) = i1 at *
  generalize ln (qd q) = i2 at *
  generalize ln (qd r) = i4 at *
  have X1 := hide (((Q3.new (.bool s) (.slice A i1 a) (.slice B i2 b) w).al (.cells #[.bool t, .slice C 0 c, .slice D i4 d] 24)).al (.cells #[.bool false, .slice none 0 0, .slice none 0 0] 24))
  have X2 := hide ((Q3.new1 (.bool t) (.slice C 0 c) (.slice D i4 d) w (.cells #[.bool s, .slice A i1 a, .slice B i2 b] 24)).al (.cells #[.bool false, .slice none 0 0, .slice none 0 0] 24))
  have X3 := hide (Q3.new2 (.bool false) (.slice none 0 0) (.slice none 0 0) w (.cells #[.bool s, .slice A i1 a, .slice B i2 b] 24) (.cells #[.bool t, .slice C 0 c, .slice D i4 d] 24))
  have b0 : Below w.heap.size w (((w.alloc (.cells #[.bool s, .slice A i1 a, .slice B i2 b] 24)).alloc (.cells #[.bool t, .slice C 0 c, .slice D i4 d] 24)).alloc (.cells #[.bool false, .slice none 0 0, .slice none 0 0] 24)) := bl_al (bl_al (bl_al (.refl _ _) _) _) _
  go_enter Tryz.func16, Tryz.ntmps16
  go_wp2_with (first
    | (go_at_call 25; (with_reducible refine (V1.out _ b0).mono ?_); rintro e w1 ⟨rfl, hb⟩; have X1 := hide (X1.out.next hb); have X2 := hide (X2.out.next hb); have X3 := hide (X3.out.next hb); (try clear x1 x2 x3 x4 x5 x6 y1 y2 y3 y4 y5 y6); obtain ⟨x1, x2, x3, x4, x5, x6⟩ := X1.out; obtain ⟨y1, y2, y3, y4, y5, y6⟩ := X2.out; have b1 := bl_trans b0 hb; clear hb)
    | (go_at_call 25; (with_reducible refine (V2.out _ b1).mono ?_); rintro e w2 ⟨rfl, hb⟩; have X1 := hide (X1.out.next hb); have X2 := hide (X2.out.next hb); have X3 := hide (X3.out.next hb); (try clear x1 x2 x3 x4 x5 x6 y1 y2 y3 y4 y5 y6); obtain ⟨x1, x2, x3, x4, x5, x6⟩ := X1.out; obtain ⟨y1, y2, y3, y4, y5, y6⟩ := X2.out; have b2 := bl_trans b1 hb; obtain ⟨z1, z2, z3, z4, z5, z6⟩ := X3.out; clear hb))
  exact bodyPost_ret (v := .tuple #[.agg #[.bool false, .slice none 0 0, .slice none 0 0], .int .i64 1]) (by simp [results, Tryz.results16, go_sem, z1, z2, z3]) rfl ⟨rfl, Below.over3 b2 (by omega) _ _ _⟩
theorem sameInt_z (x y : Int) (A B : Option Addr) (c d : Nat) (w : World) (sx : Sl w A (digs x.natAbs)) (sy : Sl w B (digs y.natAbs)) (hx : ln x.natAbs ≤ 1000000) (hy : ln y.natAbs ≤ 1000000) (r : Bool) (hr : decide (x = y) = r) :
    Calls Tryz.prog 41 #[.agg #[.bool (isg x), .slice A (ln x.natAbs) c], .agg #[.bool (isg y), .slice B (ln y.natAbs) d]] w fun e w' => e = .returned (.bool r) ∧ Below w.heap.size w w' := by
  have h := sameInt_any (isg x) (isg y) A B c d (ln x.natAbs) (ln y.natAbs) (digs x.natAbs) (digs y.natAbs) w rfl rfl sx sy hx hy
  rw [show decide (isg x = isg y ∧ digs x.natAbs = digs y.natAbs) = r from hr ▸ decide_eq_decide.2 row_eq] at h
  exact h
theorem rof_z (z : Int) (w : World) (h1 : -9223372036854775808 ≤ z) (h2 : z ≤ 9223372036854775807) :
    Calls Tryz.prog 39 #[.int .i64 z] w fun e w' => ∃ A c, e = .returned (.agg #[.bool (isg z), .slice A (ln z.natAbs) c]) ∧ Sl w' A (digs z.natAbs) ∧ Below w.heap.size w w' := rofI_any z w h1 h2
theorem valid_none (w : World) : Calls Tryz.prog 25 #[.agg #[.bool false, .slice none 0 0, .slice none 0 0]] w fun e w' => e = .returned (.bool false) ∧ Below w.heap.size w w' :=
  validQ_any false none none 0 0 [] [] w .nil .nil .nil .nil (by decide) (by decide) false (validQ_c rfl)
end Nt

end Go.Proofs.YtboppbidldomhaaGreatDoor
