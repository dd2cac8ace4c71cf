
/-
  strings.Cut at a separator of one byte.
  Comparisons, and sums that fit, in numbers.
  The reference's whole numbers: whole, OfInt, ValidInt, cmpInt, CmpInt.
  Package rat: next, nearest, Between, Text, Parse.
  Package rat: Between, Text, Parse.
  The small functions that the laws on fractions call: Same, same, few; rat.Of of 0 below, rat.Quo by 0.
  Package rat: Parse of a text of one number, and of what Text writes.
-/
import Derived.Test.YtgimmmmpollkhaaGreatShelf2
import Derived.Test.YtgimmmmpollkhaaGreatNBl
import Derived.Lib.CutLaws
import Derived.Test.YtgimmmmpollkhaaGreatNMathB
import Derived.Test.YtgimmmmpollkhaaGreatNWholeA
import Derived.Test.YtgimmmmpollkhaaGreatNWholeZ
import Derived.Test.YtgimmmmpollkhaaGreatNRefTrim
import Derived.Test.YtgimmmmpollkhaaGreatNRatP
namespace Go.Proofs.YtgimmmmpollkhaaGreat

open Go.RowKit

namespace Nt

end Nt

end Go.Proofs.YtgimmmmpollkhaaGreat

namespace Go.Proofs.YtgimmmmpollkhaaGreat

open Go.RowKit

namespace Nt

theorem cmpN_neg (a b : Nat) : cmpN a b = -cmpN b a := by
  unfold cmpN
  by_cases h : a < b
  · rw [if_pos h, if_neg (by omega), if_pos h]
  · by_cases h' : b < a
    · rw [if_neg h, if_pos h', if_pos h']; rfl
    · rw [if_neg h, if_neg h', if_neg h', if_neg h]; rfl
theorem cmpN_range (a b : Nat) : cmpN a b = -1 ∨ cmpN a b = 0 ∨ cmpN a b = 1 := by
  unfold cmpN; split
  · exact .inl rfl
  · split
    · exact .inr (.inr rfl)
    · exact .inr (.inl rfl)
theorem cmpN_nonneg {a b : Nat} : 0 ≤ cmpN a b ↔ b ≤ a := by
  unfold cmpN; split
  · constructor <;> intro h <;> omega
  · split <;> constructor <;> intro h <;> omega
end Nt

end Go.Proofs.YtgimmmmpollkhaaGreat

namespace Go.Proofs.YtgimmmmpollkhaaGreat

open Go.RowKit

namespace Nt

set_option maxHeartbeats 400000 in
theorem rwhole_any (s : Bool) (A : Option Addr) (n c : Nat) (w : World) (hn : n ≤ 9223372036854775807) :
    Calls Tryz.prog 121 #[.bool s, .slice A n c] w fun e w' => e = .returned (.agg #[.bool (s && decide (0 < n)), .slice A n c]) ∧ Below w.heap.size w w' := by
  cases s with
  | false =>
    go_enter Tryz.func121, Tryz.ntmps121
    go_wp2
    exact bodyPost_ret (v := .agg #[.bool false, .slice A n c]) (by simp [results, Tryz.results121, go_sem]) rfl ⟨rfl, ((Below.refl _ _).alloc (Nat.le_refl _) _)⟩
  | true =>
    by_cases h0 : n = 0
    · subst h0
      go_enter Tryz.func121, Tryz.ntmps121
      go_wp2
      exact bodyPost_ret (v := .agg #[.bool false, .slice A 0 c]) (by simp [results, Tryz.results121, go_sem]) rfl ⟨rfl, ((Below.refl _ _).alloc (Nat.le_refl _) _)⟩
    · have hp : 0 < n := by omega
      have E := hide (show (true && decide (0 < n)) = true by simp [hp])
      clear h0
      go_enter Tryz.func121, Tryz.ntmps121
      go_wp2
      exact bodyPost_ret (v := .agg #[.bool true, .slice A n c]) (by simp [results, Tryz.results121, go_sem]) rfl ⟨by rw [E.out], ((Below.refl _ _).alloc (Nat.le_refl _) _)⟩

set_option maxHeartbeats 400000 in
theorem rvalidI_any (s : Bool) (A : Option Addr) (c : Nat) (xs : List Nat) (w : World) (hs : Sl w A xs) (hl : xs.length ≤ 9223372036854775807) :
    Calls Tryz.prog 120 #[.agg #[.bool s, .slice A xs.length c]] w fun e w' => e = .returned (.bool (validI s xs)) ∧ Below w.heap.size w w' := by
  have V := hide (fun W (h : Sl W A xs) => rvalid_any A c xs W h hl)
  have HS := hide hs
  clear hs
  cases hv : validB xs with
  | false =>
    have E := hide (show validI s xs = false by unfold validI; rw [hv]; rfl)
    rw [hv] at V
    clear hv
    generalize xs.length = n at *
    go_enter Tryz.func120, Tryz.ntmps120
    go_wp2_with (go_at_call 75; (with_reducible refine (V.out _ (HS.out.alloc _)).mono ?_); rintro e w' ⟨rfl, rfl⟩)
    go_ret
    exact ⟨ret_bool E.out.symm, ((Below.refl _ _).alloc (Nat.le_refl _) _)⟩
  | true =>
    have E := hide (show validI s xs = (!s || decide (0 < xs.length)) by unfold validI; rw [hv]; rfl)
    rw [hv] at V
    clear hv
    generalize xs.length = n at *
    by_cases h0 : n = 0
    · subst h0
      cases s <;>
      · go_enter Tryz.func120, Tryz.ntmps120
        go_wp2_with (go_at_call 75; (with_reducible refine (V.out _ (HS.out.alloc _)).mono ?_); rintro e w' ⟨rfl, rfl⟩)
        go_ret
        exact ⟨ret_bool (by rw [E.out]; rfl), ((Below.refl _ _).alloc (Nat.le_refl _) _)⟩
    · have hp : 0 < n := by omega
      have E2 := hide (show (!s || decide (0 < n)) = true by simp [hp])
      clear h0
      cases s <;>
      · go_enter Tryz.func120, Tryz.ntmps120
        go_wp2_with (go_at_call 75; (with_reducible refine (V.out _ (HS.out.alloc _)).mono ?_); rintro e w' ⟨rfl, rfl⟩)
        go_ret
        exact ⟨ret_bool (by rw [E.out, E2.out]), ((Below.refl _ _).alloc (Nat.le_refl _) _)⟩

theorem litZ (w : World) (v : Int) (k : Nat) (h : v = (k : Int)) {g : Nat} (hg : w.heap.size = g) : Sl (w.alloc (.cells #[.int .u64 v] 119)) (some ⟨g, 0, none⟩) [k] := by
  subst h; exact litSl _ _ [k] rfl hg
theorem conv_pos {n : Nat} (h : n ≤ 9223372036854775807) : IntKind.u64.wrap (n : Int) = (n : Int) := by rw [IntKind.wrap_u64]; omega

set_option maxRecDepth 100000 in
set_option maxHeartbeats 1000000 in
theorem rofI_any (z : Int) (w : World) (h1 : -9223372036854775808 ≤ z) (h2 : z ≤ 9223372036854775807) :
    Calls Tryz.prog 80 #[.int .i64 z] w (IOne w (mkI z)) := by
  have X := hide (cells2 w (.bool false) (.slice none 0 0) 104)
  by_cases h : z < 0
  · have hk : z.natAbs < LB := by rw [LB_eq]; omega
    have E := hide (show mkI z = (true && decide (0 < (trimz [z.natAbs]).length), trimz [z.natAbs]) by
      rw [← digs_word hk]
      have hp : 0 < (digs z.natAbs).length := digs_len_pos.2 (by omega)
      unfold mkI isg idg
      rw [decide_eq_true h, decide_eq_true hp]; rfl)
    have nw := neg_wrap h h1
    have T : Hid (∀ A W, Sl W A [z.natAbs] → Calls Tryz.prog 93 #[.slice A 1 1] W (Mk W (trimz [z.natAbs]))) := fun A W hs => rtrim_any A 1 [z.natAbs] W hs (Nat.le_refl _) (by simp)
    have L := hide (show (trimz [z.natAbs]).length ≤ 9223372036854775807 from Nat.le_trans (trimz_len_le _) (by simp))
    go_enter Tryz.func80, Tryz.ntmps80
    go_wp2_with (first
      | (go_at_call 93; (with_reducible refine (T.out _ _ (litZ _ _ _ rfl (size1 _ _))).mono ?_); rintro e w1 ⟨A3, c3, rfl, r3, hb⟩; have g := bl_one hb; have x1 := cell_next g X.out.1; have x2 := cell_next g X.out.2.1; have x3 := frozen_next g X.out.1 X.out.2.2.1; have x4 := frozen_next g X.out.2.1 X.out.2.2.2; have s3 := hide r3.sl; have b1 := bl_one g; clear r3 hb g)
      | (go_at_call 121; (with_reducible refine (rwhole_any true A3 _ c3 _ L.out).mono ?_); rintro e w2 ⟨rfl, hb⟩; have x3 := frozen_next hb x1 x3; have x4 := frozen_next hb x2 x4; have x1 := cell_next hb x1; have x2 := cell_next hb x2; have s4 := hide (bl_keeps hb _ _ s3.out); have b2 := bl_trans b1 hb; clear hb))
    exact bodyPost_ret (v := .agg #[.bool (true && decide (0 < (trimz [z.natAbs]).length)), .slice A3 (trimz [z.natAbs]).length c3]) (by simp [results, Tryz.results80, go_sem, x1, x2]) rfl (IOne.mk E.out rfl (s4.out.store2 x1 x2 _ _) (Below.store2 b2 (Nat.le_refl _) _ _))
  · obtain ⟨n, rfl⟩ : ∃ n : Nat, z = (n : Int) := ⟨z.toNat, by omega⟩
    have hk : n < LB := by rw [LB_eq]; omega
    have E := hide (show mkI (n : Int) = (false && decide (0 < (trimz [n]).length), trimz [n]) by
      rw [← digs_word hk]
      unfold mkI isg idg
      rw [decide_eq_false h, Int.natAbs_natCast]; rfl)
    have nw := conv_pos (show n ≤ 9223372036854775807 by omega)
    have T : Hid (∀ A W, Sl W A [n] → Calls Tryz.prog 93 #[.slice A 1 1] W (Mk W (trimz [n]))) := fun A W hs => rtrim_any A 1 [n] W hs (Nat.le_refl _) (by simp)
    have L := hide (show (trimz [n]).length ≤ 9223372036854775807 from Nat.le_trans (trimz_len_le _) (by simp))
    go_enter Tryz.func80, Tryz.ntmps80
    go_wp2_with (first
      | (go_at_call 93; (with_reducible refine (T.out _ _ (litZ _ _ _ rfl (size1 _ _))).mono ?_); rintro e w1 ⟨A3, c3, rfl, r3, hb⟩; have g := bl_one hb; have x1 := cell_next g X.out.1; have x2 := cell_next g X.out.2.1; have x3 := frozen_next g X.out.1 X.out.2.2.1; have x4 := frozen_next g X.out.2.1 X.out.2.2.2; have s3 := hide r3.sl; have b1 := bl_one g; clear r3 hb g)
      | (go_at_call 121; (with_reducible refine (rwhole_any false A3 _ c3 _ L.out).mono ?_); rintro e w2 ⟨rfl, hb⟩; have x3 := frozen_next hb x1 x3; have x4 := frozen_next hb x2 x4; have x1 := cell_next hb x1; have x2 := cell_next hb x2; have s4 := hide (bl_keeps hb _ _ s3.out); have b2 := bl_trans b1 hb; clear hb))
    exact bodyPost_ret (v := .agg #[.bool (false && decide (0 < (trimz [n]).length)), .slice A3 (trimz [n]).length c3]) (by simp [results, Tryz.results80, go_sem, x1, x2]) rfl (IOne.mk E.out rfl (s4.out.store2 x1 x2 _ _) (Below.store2 b2 (Nat.le_refl _) _ _))

def cmpSg (s : Bool) (x : Nat) (t : Bool) (y : Nat) : Int := if s = t then (if s then -cmpN x y else cmpN x y) else (if s then -1 else 1)
set_option maxRecDepth 100000 in
set_option maxHeartbeats 1000000 in
theorem rcmpS_any (s t : Bool) (A B : Option Addr) (c d : Nat) (xs ys : List Nat) (w : World) (hx : Sl w A xs) (hy : Sl w B ys) (lx : Limbs xs) (ly : Limbs ys) (nx : Norm xs) (ny : Norm ys) (hl : xs.length ≤ 1000000) (hl' : ys.length ≤ 1000000) :
    Calls Tryz.prog 143 #[.agg #[.bool s, .slice A xs.length c], .agg #[.bool t, .slice B ys.length d]] w fun e w' => e = .returned (.int .i64 (cmpSg s (val xs) t (val ys))) ∧ Below w.heap.size w w' := by
  have M := hide (fun W (h : Below w.heap.size w W) => rcmp_any A B c d xs ys W (bl_keeps h _ _ hx) (bl_keeps h _ _ hy) lx ly nx ny hl hl')
  have b0 : Below w.heap.size w ((w.alloc (.cells #[.bool s, .slice A xs.length c] 104)).alloc (.cells #[.bool t, .slice B ys.length d] 104)) := bl_al (bl_al (.refl _ _) _) _
  obtain ⟨x1, x2, x3, x4⟩ := Bx2.start s A xs.length c t B ys.length d w
  have hz : -1 ≤ cmpN (val xs) (val ys) ∧ cmpN (val xs) (val ys) ≤ 1 := by rcases cmpN_range (val xs) (val ys) with h | h | h <;> omega
  have E := hide (show cmpSg s (val xs) t (val ys) = if s = t then (if s then -cmpN (val xs) (val ys) else cmpN (val xs) (val ys)) else (if s then -1 else 1) from rfl)
  clear hx hy lx ly nx ny
  generalize cmpN (val xs) (val ys) = z at *
  generalize cmpSg s (val xs) t (val ys) = k at *
  generalize xs.length = n at *
  generalize ys.length = m at *
  have hw : IntKind.i64.wrap (-z) = -z := by rw [IntKind.wrap_i64]; omega
  have e1 : ∀ W, (binOp .neq 4 (.bool false) (.bool false)).run Tryz.prog W = .ok (.bool false) W := fun _ => by kernel_rfl
  have e2 : ∀ W, (binOp .neq 4 (.bool true) (.bool false)).run Tryz.prog W = .ok (.bool true) W := fun _ => by kernel_rfl
  have e3 : ∀ W, (binOp .neq 4 (.bool false) (.bool true)).run Tryz.prog W = .ok (.bool true) W := fun _ => by kernel_rfl
  have e4 : ∀ W, (binOp .neq 4 (.bool true) (.bool true)).run Tryz.prog W = .ok (.bool false) W := fun _ => by kernel_rfl
  cases s <;> cases t
  · go_enter Tryz.func143, Tryz.ntmps143
    go_wp2_with (go_at_call 76; (with_reducible refine (M.out _ b0).mono ?_); rintro e w3 ⟨rfl, q0, h0⟩; have b3 := bl_trans b0 (bl_q0 h0); clear h0)
    go_ret
    exact ⟨ret_one E.out.symm, b3⟩
  · go_enter Tryz.func143, Tryz.ntmps143
    go_wp2
    go_ret
    exact ⟨ret_one E.out.symm, b0⟩
  · go_enter Tryz.func143, Tryz.ntmps143
    go_wp2
    go_ret
    exact ⟨ret_one E.out.symm, b0⟩
  · go_enter Tryz.func143, Tryz.ntmps143
    go_wp2_with (go_at_call 76; (with_reducible refine (M.out _ b0).mono ?_); rintro e w3 ⟨rfl, q0, h0⟩; have b3 := bl_trans b0 (bl_q0 h0); clear h0)
    go_ret
    exact ⟨ret_one E.out.symm, b3⟩

end Nt

end Go.Proofs.YtgimmmmpollkhaaGreat

namespace Go.Proofs.YtgimmmmpollkhaaGreat

open Go.RowKit

namespace Nt

end Nt

end Go.Proofs.YtgimmmmpollkhaaGreat

namespace Go.Proofs.YtgimmmmpollkhaaGreat

open Go.RowKit

namespace Nt

end Nt

end Go.Proofs.YtgimmmmpollkhaaGreat

namespace Go.Proofs.YtgimmmmpollkhaaGreat

open Go.RowKit

namespace Nt

theorem lsame_z (A B : Option Addr) (c d n m : Nat) (xs ys : List Nat) (w : World) (hx : Sl w A xs) (hy : Sl w B ys) (hn : xs.length = n) (hm : ys.length = m) (hl : n ≤ 1000000) (hl' : m ≤ 1000000) (r : Bool) (hr : decide (xs = ys) = r) :
    Calls Tryz.prog 70 #[.slice A n c, .slice B m d] w fun e w' => e = .returned (.bool r) ∧ Below w.heap.size w w' := by
  subst hn hm hr
  exact (same_any A B c d xs ys w hx hy hl hl').mono fun e w' h => ⟨h.1, by obtain ⟨n, e⟩ := h.2; exact bl_q0 e⟩
set_option maxRecDepth 100000 in
set_option maxHeartbeats 4000000 in
theorem Same_any (s t : Bool) (A B C D : Option Addr) (a b c d i1 i2 i3 i4 : Nat) (xs ys us vs : List Nat) (w : World) (sA : Sl w A xs) (sB : Sl w B ys) (sC : Sl w C us) (sD : Sl w D vs) (h1 : xs.length = i1) (h2 : ys.length = i2) (h3 : us.length = i3) (h4 : vs.length = i4)
    (l1 : i1 ≤ 1000000) (l2 : i2 ≤ 1000000) (l3 : i3 ≤ 1000000) (l4 : i4 ≤ 1000000) (r : Bool) (hr : decide (s = t ∧ xs = us ∧ ys = vs) = r) :
    Calls Tryz.prog 24 #[.agg #[.bool s, .slice A i1 a, .slice B i2 b], .agg #[.bool t, .slice C i3 c, .slice D i4 d]] w fun e w' => e = .returned (.bool r) ∧ Below w.heap.size w w' := by
  obtain ⟨r0, hr0⟩ : ∃ r0, (s == t) = r0 := ⟨_, rfl⟩
  obtain ⟨r1, hr1⟩ : ∃ r1, decide (xs = us) = r1 := ⟨_, rfl⟩
  obtain ⟨r2, hr2⟩ : ∃ r2, decide (ys = vs) = r2 := ⟨_, rfl⟩
  have L1 := hide (fun W (k : Below w.heap.size w W) => lsame_z A C a c i1 i3 xs us W (kp' k sA) (kp' k sC) h1 h3 l1 l3 r1 hr1)
  have L2 := hide (fun W (k : Below w.heap.size w W) => lsame_z B D b d i2 i4 ys vs W (kp' k sB) (kp' k sD) h2 h4 l2 l4 r2 hr2)
  have on := op_beq s t r0 hr0
  have hr : r = (r0 && (r1 && r2)) := by
    rw [← hr, ← hr0, ← hr1, ← hr2]
    by_cases e1 : s = t <;> by_cases e2 : xs = us <;> by_cases e3 : ys = vs <;> simp [e1, e2, e3]
  clear hr0 hr1 hr2 sA sB sC sD h1 h2 h3 h4 l1 l2 l3 l4
  have X1 := hide ((Q3.new (.bool s) (.slice A i1 a) (.slice B i2 b) w).al (.cells #[.bool t, .slice C i3 c, .slice D i4 d] 25))
  have X2 := hide (Q3.new1 (.bool t) (.slice C i3 c) (.slice D i4 d) w (.cells #[.bool s, .slice A i1 a, .slice B i2 b] 25))
  have b0 : Below w.heap.size w ((w.alloc (.cells #[.bool s, .slice A i1 a, .slice B i2 b] 25)).alloc (.cells #[.bool t, .slice C i3 c, .slice D i4 d] 25)) := bl_al (bl_al (.refl _ _) _) _
  cases r0 with
  | false =>
    go_enter Tryz.func24, Tryz.ntmps24
    go_wp2
    go_ret
    exact ⟨by rw [hr]; rfl, b0⟩
  | true =>
    cases r1 with
    | false =>
      go_enter Tryz.func24, Tryz.ntmps24
      go_wp2_with (first
        | (go_at_call 70; (with_reducible refine (L1.out _ b0).mono ?_); rintro e w1 ⟨rfl, hb⟩; have X1 := hide (X1.out.next hb); have X2 := hide (X2.out.next hb); (try clear x1 x2 x3 x4 x5 x6 y1 y2 y3 y4 y5 y6); obtain ⟨x1, x2, x3, x4, x5, x6⟩ := X1.out; obtain ⟨y1, y2, y3, y4, y5, y6⟩ := X2.out; have b1 := bl_trans b0 hb; clear hb))
      go_ret
      exact ⟨by rw [hr]; rfl, b1⟩
    | true =>
      go_enter Tryz.func24, Tryz.ntmps24
      go_wp2_with (first
        | (go_at_call 70; (with_reducible refine (L1.out _ b0).mono ?_); rintro e w1 ⟨rfl, hb⟩; have X1 := hide (X1.out.next hb); have X2 := hide (X2.out.next hb); (try clear x1 x2 x3 x4 x5 x6 y1 y2 y3 y4 y5 y6); obtain ⟨x1, x2, x3, x4, x5, x6⟩ := X1.out; obtain ⟨y1, y2, y3, y4, y5, y6⟩ := X2.out; have b1 := bl_trans b0 hb; clear hb)
        | (go_at_call 70; (with_reducible refine (L2.out _ b1).mono ?_); rintro e w2 ⟨rfl, hb⟩; have b2 := bl_trans b1 hb; clear hb))
      go_ret
      exact ⟨by rw [hr]; rfl, b2⟩
set_option maxRecDepth 100000 in
set_option maxHeartbeats 4000000 in
theorem same_q (q r : Rat) (A B C D : Option Addr) (a b c d : Nat) (w : World) (sA : Sl w A (digs (qn q))) (sB : Sl w B (digs (qd q))) (sC : Sl w C (digs (qn r))) (sD : Sl w D (digs (qd r))) (f1 : fitq q) (f2 : fitq r) (z : Bool) (hz : decide (q = r) = z) :
    Calls Tryz.prog 24 #[.agg #[.bool (qs q), .slice A (ln (qn q)) a, .slice B (ln (qd q)) b], .agg #[.bool (qs r), .slice C (ln (qn r)) c, .slice D (ln (qd r)) d]] w fun e w' => e = .returned (.bool z) ∧ Below w.heap.size w w' :=
  Same_any _ _ A B C D a b c d _ _ _ _ _ _ _ _ w sA sB sC sD rfl rfl rfl rfl (Nat.le_trans f1.1 (by decide)) (Nat.le_trans f1.2 (by decide)) (Nat.le_trans f2.1 (by decide)) (Nat.le_trans f2.2 (by decide)) z (by
    rw [← hz, decide_eq_decide]
    constructor
    · rintro ⟨e1, e2, e3⟩
      exact q_ext e1 (by rw [← val_digs (qn q), e2, val_digs]) (by rw [← val_digs (qd q), e3, val_digs])
    · rintro rfl; exact ⟨rfl, rfl, rfl⟩)
theorem cq_t (t : TypeId) {x y : Int} (h : x ≤ y) : binOp .leq t (.int .i64 x) (.int .i64 y) = pure (.bool true) := by
  show pure (Value.bool (decide (x ≤ y))) = _
  rw [decide_eq_true h]
theorem cq_f (t : TypeId) {x y : Int} (h : y < x) : binOp .leq t (.int .i64 x) (.int .i64 y) = pure (.bool false) := by
  show pure (Value.bool (decide (x ≤ y))) = _
  rw [decide_eq_false (by omega)]
theorem rof_z (z : Int) (w : World) (h1 : -9223372036854775808 ≤ z) (h2 : z ≤ 9223372036854775807) :
    Calls Tryz.prog 80 #[.int .i64 z] w fun e w' => ∃ A c, e = .returned (.agg #[.bool (isg z), .slice A (ln z.natAbs) c]) ∧ Sl w' A (digs z.natAbs) ∧ Below w.heap.size w w' := rofI_any z w h1 h2
end Nt

end Go.Proofs.YtgimmmmpollkhaaGreat

namespace Go.Proofs.YtgimmmmpollkhaaGreat

open Go.RowKit

namespace Nt

end Nt

end Go.Proofs.YtgimmmmpollkhaaGreat
