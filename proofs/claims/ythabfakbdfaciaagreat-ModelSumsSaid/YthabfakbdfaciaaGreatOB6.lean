import Derived.Test.YthabfakbdfaciaaGreatShelf2
import Derived.Test.YthabfakbdfaciaaGreatOB2
import Derived.Lib.CutLaws
import Derived.Test.YthabfakbdfaciaaGreatOB3
import Derived.Test.YthabfakbdfaciaaGreatOB0
import Derived.Test.YthabfakbdfaciaaGreatOB5
import Derived.Test.YthabfakbdfaciaaGreatOB4
import Derived.Test.YthabfakbdfaciaaGreatOB1
import Derived.Deep.RegionHeld3
namespace Go.Proofs.YthabfakbdfaciaaGreat
namespace Nt
set_option maxRecDepth 100000
set_option maxHeartbeats 16000000
section
open Go.RowKit
theorem cmpN_nonneg {a b : Nat} : 0 ≤ cmpN a b ↔ b ≤ a := by
  unfold cmpN; split
  · constructor <;> intro h <;> omega
  · split <;> constructor <;> intro h <;> omega
theorem rwhole_any (s : Bool) (A : Option Addr) (n c : Nat) (w : World) (hn : n ≤ 9223372036854775807) :
    Calls Tryz.prog 87 #[.bool s, .slice A n c] w fun e w' => e = .returned (.agg #[.bool (s && decide (0 < n)), .slice A n c]) ∧ Below w.heap.size w w' := by
  cases s with
  | false =>
    go_enter Tryz.func87, Tryz.ntmps87
    go_wp2
    exact bodyPost_ret (v := .agg #[.bool false, .slice A n c]) (by simp [results, Tryz.results87, go_sem]) rfl ⟨rfl, ((Below.refl _ _).alloc (Nat.le_refl _) _)⟩
  | true =>
    by_cases h0 : n = 0
    · subst h0
      go_enter Tryz.func87, Tryz.ntmps87
      go_wp2
      exact bodyPost_ret (v := .agg #[.bool false, .slice A 0 c]) (by simp [results, Tryz.results87, go_sem]) rfl ⟨rfl, ((Below.refl _ _).alloc (Nat.le_refl _) _)⟩
    · have hp : 0 < n := by omega
      have E := hide (show (true && decide (0 < n)) = true by simp [hp])
      clear h0
      go_enter Tryz.func87, Tryz.ntmps87
      go_wp2
      exact bodyPost_ret (v := .agg #[.bool true, .slice A n c]) (by simp [results, Tryz.results87, go_sem]) rfl ⟨by rw [E.out], ((Below.refl _ _).alloc (Nat.le_refl _) _)⟩
theorem rvalidI_any (s : Bool) (A : Option Addr) (c : Nat) (xs : List Nat) (w : World) (hs : Sl w A xs) (hl : xs.length ≤ 9223372036854775807) :
    Calls Tryz.prog 85 #[.agg #[.bool s, .slice A xs.length c]] w fun e w' => e = .returned (.bool (validI s xs)) ∧ Below w.heap.size w w' := by
  have V := hide (fun W (h : Sl W A xs) => rvalid_any A c xs W h hl)
  have HS := hide hs
  clear hs
  cases hv : validB xs with
  | false =>
    have E := hide (show validI s xs = false by unfold validI; rw [hv]; rfl)
    rw [hv] at V
    clear hv
    generalize xs.length = n at *
    go_enter Tryz.func85, Tryz.ntmps85
    go_wp2_with (go_at_call 108; (with_reducible refine (V.out _ (HS.out.alloc _)).mono ?_); rintro e w' ⟨rfl, rfl⟩)
    go_ret
    exact ⟨ret_bool E.out.symm, ((Below.refl _ _).alloc (Nat.le_refl _) _)⟩
  | true =>
    have E := hide (show validI s xs = (!s || decide (0 < xs.length)) by unfold validI; rw [hv]; rfl)
    rw [hv] at V
    clear hv
    generalize xs.length = n at *
    by_cases h0 : n = 0
    · subst h0
      cases s <;>
      · go_enter Tryz.func85, Tryz.ntmps85
        go_wp2_with (go_at_call 108; (with_reducible refine (V.out _ (HS.out.alloc _)).mono ?_); rintro e w' ⟨rfl, rfl⟩)
        go_ret
        exact ⟨ret_bool (by rw [E.out]; rfl), ((Below.refl _ _).alloc (Nat.le_refl _) _)⟩
    · have hp : 0 < n := by omega
      have E2 := hide (show (!s || decide (0 < n)) = true by simp [hp])
      clear h0
      cases s <;>
      · go_enter Tryz.func85, Tryz.ntmps85
        go_wp2_with (go_at_call 108; (with_reducible refine (V.out _ (HS.out.alloc _)).mono ?_); rintro e w' ⟨rfl, rfl⟩)
        go_ret
        exact ⟨ret_bool (by rw [E.out, E2.out]), ((Below.refl _ _).alloc (Nat.le_refl _) _)⟩
theorem litZ (w : World) (v : Int) (k : Nat) (h : v = (k : Int)) {g : Nat} (hg : w.heap.size = g) : Sl (w.alloc (.cells #[.int .u64 v] 128)) (some ⟨g, 0, none⟩) [k] := by
  subst h; exact litSl _ _ [k] rfl hg
theorem conv_pos {n : Nat} (h : n ≤ 9223372036854775807) : IntKind.u64.wrap (n : Int) = (n : Int) := by rw [IntKind.wrap_u64]; omega
theorem rofI_any (z : Int) (w : World) (h1 : -9223372036854775808 ≤ z) (h2 : z ≤ 9223372036854775807) :
    Calls Tryz.prog 61 #[.int .i64 z] w (IOne w (mkI z)) := by
  have X := hide (cells2 w (.bool false) (.slice none 0 0) 125)
  by_cases h : z < 0
  · have hk : z.natAbs < LB := by rw [LB_eq]; omega
    have E := hide (show mkI z = (true && decide (0 < (trimz [z.natAbs]).length), trimz [z.natAbs]) by
      rw [← digs_word hk]
      have hp : 0 < (digs z.natAbs).length := digs_len_pos.2 (by omega)
      unfold mkI isg idg
      rw [decide_eq_true h, decide_eq_true hp]; rfl)
    have nw := neg_wrap h h1
    have T : Hid (∀ A W, Sl W A [z.natAbs] → Calls Tryz.prog 88 #[.slice A 1 1] W (Mk W (trimz [z.natAbs]))) := fun A W hs => rtrim_any A 1 [z.natAbs] W hs (Nat.le_refl _) (by simp)
    have L := hide (show (trimz [z.natAbs]).length ≤ 9223372036854775807 from Nat.le_trans (trimz_len_le _) (by simp))
    go_enter Tryz.func61, Tryz.ntmps61
    go_wp2_with (first
      | (go_at_call 88; (with_reducible refine (T.out _ _ (litZ _ _ _ rfl (size1 _ _))).mono ?_); rintro e w1 ⟨A3, c3, rfl, r3, hb⟩; have g := bl_one hb; have x1 := cell_next g X.out.1; have x2 := cell_next g X.out.2.1; have x3 := frozen_next g X.out.1 X.out.2.2.1; have x4 := frozen_next g X.out.2.1 X.out.2.2.2; have s3 := hide r3.sl; have b1 := bl_one g; clear r3 hb g)
      | (go_at_call 87; (with_reducible refine (rwhole_any true A3 _ c3 _ L.out).mono ?_); rintro e w2 ⟨rfl, hb⟩; have x3 := frozen_next hb x1 x3; have x4 := frozen_next hb x2 x4; have x1 := cell_next hb x1; have x2 := cell_next hb x2; have s4 := hide (bl_keeps hb _ _ s3.out); have b2 := bl_trans b1 hb; clear hb))
    exact bodyPost_ret (v := .agg #[.bool (true && decide (0 < (trimz [z.natAbs]).length)), .slice A3 (trimz [z.natAbs]).length c3]) (by simp [results, Tryz.results61, go_sem, x1, x2]) rfl (IOne.mk E.out rfl (s4.out.store2 x1 x2 _ _) (Below.store2 b2 (Nat.le_refl _) _ _))
  · obtain ⟨n, rfl⟩ : ∃ n : Nat, z = (n : Int) := ⟨z.toNat, by omega⟩
    have hk : n < LB := by rw [LB_eq]; omega
    have E := hide (show mkI (n : Int) = (false && decide (0 < (trimz [n]).length), trimz [n]) by
      rw [← digs_word hk]
      unfold mkI isg idg
      rw [decide_eq_false h, Int.natAbs_natCast]; rfl)
    have nw := conv_pos (show n ≤ 9223372036854775807 by omega)
    have T : Hid (∀ A W, Sl W A [n] → Calls Tryz.prog 88 #[.slice A 1 1] W (Mk W (trimz [n]))) := fun A W hs => rtrim_any A 1 [n] W hs (Nat.le_refl _) (by simp)
    have L := hide (show (trimz [n]).length ≤ 9223372036854775807 from Nat.le_trans (trimz_len_le _) (by simp))
    go_enter Tryz.func61, Tryz.ntmps61
    go_wp2_with (first
      | (go_at_call 88; (with_reducible refine (T.out _ _ (litZ _ _ _ rfl (size1 _ _))).mono ?_); rintro e w1 ⟨A3, c3, rfl, r3, hb⟩; have g := bl_one hb; have x1 := cell_next g X.out.1; have x2 := cell_next g X.out.2.1; have x3 := frozen_next g X.out.1 X.out.2.2.1; have x4 := frozen_next g X.out.2.1 X.out.2.2.2; have s3 := hide r3.sl; have b1 := bl_one g; clear r3 hb g)
      | (go_at_call 87; (with_reducible refine (rwhole_any false A3 _ c3 _ L.out).mono ?_); rintro e w2 ⟨rfl, hb⟩; have x3 := frozen_next hb x1 x3; have x4 := frozen_next hb x2 x4; have x1 := cell_next hb x1; have x2 := cell_next hb x2; have s4 := hide (bl_keeps hb _ _ s3.out); have b2 := bl_trans b1 hb; clear hb))
    exact bodyPost_ret (v := .agg #[.bool (false && decide (0 < (trimz [n]).length)), .slice A3 (trimz [n]).length c3]) (by simp [results, Tryz.results61, go_sem, x1, x2]) rfl (IOne.mk E.out rfl (s4.out.store2 x1 x2 _ _) (Below.store2 b2 (Nat.le_refl _) _ _))
theorem lsame_z (A B : Option Addr) (c d n m : Nat) (xs ys : List Nat) (w : World) (hx : Sl w A xs) (hy : Sl w B ys) (hn : xs.length = n) (hm : ys.length = m) (hl : n ≤ 1000000) (hl' : m ≤ 1000000) (r : Bool) (hr : decide (xs = ys) = r) :
    Calls Tryz.prog 63 #[.slice A n c, .slice B m d] w fun e w' => e = .returned (.bool r) ∧ Below w.heap.size w w' := by
  subst hn hm hr
  exact (same_any A B c d xs ys w hx hy hl hl').mono fun e w' h => ⟨h.1, by obtain ⟨n, e⟩ := h.2; exact bl_q0 e⟩
theorem Same_any (s t : Bool) (A B C D : Option Addr) (a b c d i1 i2 i3 i4 : Nat) (xs ys us vs : List Nat) (w : World) (sA : Sl w A xs) (sB : Sl w B ys) (sC : Sl w C us) (sD : Sl w D vs) (h1 : xs.length = i1) (h2 : ys.length = i2) (h3 : us.length = i3) (h4 : vs.length = i4)
    (l1 : i1 ≤ 1000000) (l2 : i2 ≤ 1000000) (l3 : i3 ≤ 1000000) (l4 : i4 ≤ 1000000) (r : Bool) (hr : decide (s = t ∧ xs = us ∧ ys = vs) = r) :
    Calls Tryz.prog 35 #[.agg #[.bool s, .slice A i1 a, .slice B i2 b], .agg #[.bool t, .slice C i3 c, .slice D i4 d]] w fun e w' => e = .returned (.bool r) ∧ Below w.heap.size w w' := by
  obtain ⟨r0, hr0⟩ : ∃ r0, (s == t) = r0 := ⟨_, rfl⟩
  obtain ⟨r1, hr1⟩ : ∃ r1, decide (xs = us) = r1 := ⟨_, rfl⟩
  obtain ⟨r2, hr2⟩ : ∃ r2, decide (ys = vs) = r2 := ⟨_, rfl⟩
  have L1 := hide (fun W (k : Below w.heap.size w W) => lsame_z A C a c i1 i3 xs us W (kp' k sA) (kp' k sC) h1 h3 l1 l3 r1 hr1)
  have L2 := hide (fun W (k : Below w.heap.size w W) => lsame_z B D b d i2 i4 ys vs W (kp' k sB) (kp' k sD) h2 h4 l2 l4 r2 hr2)
  have on := op_beq s t r0 hr0
  have hr : r = (r0 && (r1 && r2)) := by
    rw [← hr, ← hr0, ← hr1, ← hr2]
    by_cases e1 : s = t <;> by_cases e2 : xs = us <;> by_cases e3 : ys = vs <;> simp [e1, e2, e3]
  clear hr0 hr1 hr2 sA sB sC sD h1 h2 h3 h4 l1 l2 l3 l4
  have X1 := hide ((Q3.new (.bool s) (.slice A i1 a) (.slice B i2 b) w).al (.cells #[.bool t, .slice C i3 c, .slice D i4 d] 28))
  have X2 := hide (Q3.new1 (.bool t) (.slice C i3 c) (.slice D i4 d) w (.cells #[.bool s, .slice A i1 a, .slice B i2 b] 28))
  have b0 : Below w.heap.size w ((w.alloc (.cells #[.bool s, .slice A i1 a, .slice B i2 b] 28)).alloc (.cells #[.bool t, .slice C i3 c, .slice D i4 d] 28)) := bl_al (bl_al (.refl _ _) _) _
  cases r0 with
  | false =>
    go_enter Tryz.func35, Tryz.ntmps35
    go_wp2
    go_ret
    exact ⟨by rw [hr]; rfl, b0⟩
  | true =>
    cases r1 with
    | false =>
      go_enter Tryz.func35, Tryz.ntmps35
      go_wp2_with (first
        | (go_at_call 63; (with_reducible refine (L1.out _ b0).mono ?_); rintro e w1 ⟨rfl, hb⟩; have X1 := hide (X1.out.next hb); have X2 := hide (X2.out.next hb); (try clear x1 x2 x3 x4 x5 x6 y1 y2 y3 y4 y5 y6); obtain ⟨x1, x2, x3, x4, x5, x6⟩ := X1.out; obtain ⟨y1, y2, y3, y4, y5, y6⟩ := X2.out; have b1 := bl_trans b0 hb; clear hb))
      go_ret
      exact ⟨by rw [hr]; rfl, b1⟩
    | true =>
      go_enter Tryz.func35, Tryz.ntmps35
      go_wp2_with (first
        | (go_at_call 63; (with_reducible refine (L1.out _ b0).mono ?_); rintro e w1 ⟨rfl, hb⟩; have X1 := hide (X1.out.next hb); have X2 := hide (X2.out.next hb); (try clear x1 x2 x3 x4 x5 x6 y1 y2 y3 y4 y5 y6); obtain ⟨x1, x2, x3, x4, x5, x6⟩ := X1.out; obtain ⟨y1, y2, y3, y4, y5, y6⟩ := X2.out; have b1 := bl_trans b0 hb; clear hb)
        | (go_at_call 63; (with_reducible refine (L2.out _ b1).mono ?_); rintro e w2 ⟨rfl, hb⟩; have b2 := bl_trans b1 hb; clear hb))
      go_ret
      exact ⟨by rw [hr]; rfl, b2⟩
theorem rof_z (z : Int) (w : World) (h1 : -9223372036854775808 ≤ z) (h2 : z ≤ 9223372036854775807) :
    Calls Tryz.prog 61 #[.int .i64 z] w fun e w' => ∃ A c, e = .returned (.agg #[.bool (isg z), .slice A (ln z.natAbs) c]) ∧ Sl w' A (digs z.natAbs) ∧ Below w.heap.size w w' := rofI_any z w h1 h2
end
section
open Go.RowKit
def RsInv (xs : List Nat) (l r k cc : Nat) (cs : List Nat) : Prop :=
  cs.length = l + k ∧ Limbs cs ∧ cc < 2 ^ r ∧ val cs + LB ^ (l + k) * cc = LB ^ l * (2 ^ r * val (xs.take k))
theorem RsInv.zero (xs : List Nat) (l r : Nat) : RsInv xs l r 0 0 (List.replicate l 0) :=
  ⟨by simp, .replicate _, Nat.two_pow_pos r, by rw [val_replicate]; simp⟩
theorem RsInv.or {xs cs : List Nat} {l r s k cc : Nat} (h : RsInv xs l r k cc cs) (hrs : r + s = 64) (x : Nat) : orW (shlW x r) cc = cc + shlW x r ∧ cc + shlW x r < LB := by
  have h1 := h.2.2.1
  constructor
  · have := or_low (a := cc) (r := r) (x % 2 ^ s) h1
    rw [shl_form hrs]
    rw [← this]
    unfold orW
    exact Nat.or_comm _ _
  · rw [shl_form hrs, LB_split hrs]
    have : x % 2 ^ s + 1 ≤ 2 ^ s := Nat.mod_lt _ (Nat.two_pow_pos s)
    have := Nat.mul_le_mul_left (2 ^ r) this
    rw [Nat.mul_add, Nat.mul_one, Nat.mul_comm (2 ^ r) (2 ^ s)] at this
    omega
theorem RsInv.step {xs cs : List Nat} {l r s k cc : Nat} (lx : Limbs xs) (hrs : r + s = 64) (h : RsInv xs l r k cc cs) :
    RsInv xs l r (k + 1) (shrW (lim xs k) s) (cs ++ [cc + shlW (lim xs k) r]) := by
  obtain ⟨_, hv⟩ := h.or hrs (lim xs k)
  obtain ⟨h1, h2, h3, h4⟩ := h
  refine ⟨by simp [h1]; omega, h2.append (.one hv), shr_lt hrs (lx.get k), ?_⟩
  have e := shl_split (x := lim xs k) hrs
  have e1 : LB ^ (l + k) * (shlW (lim xs k) r + LB * shrW (lim xs k) s) = LB ^ (l + k) * (lim xs k * 2 ^ r) := by rw [e]
  rw [Nat.mul_add, ← Nat.mul_assoc] at e1
  have e2 : LB ^ (l + k) * (lim xs k * 2 ^ r) = LB ^ l * (2 ^ r * (LB ^ k * lim xs k)) := by
    rw [Nat.pow_add, Nat.mul_assoc]
    congr 1
    rw [Nat.mul_comm (lim xs k), Nat.mul_left_comm]
  rw [val_append, val_one, val_take_succ, h1, Nat.mul_add, Nat.mul_add, Nat.mul_add, show l + (k + 1) = l + k + 1 by omega, Nat.pow_succ]
  omega
theorem RsInv.done {xs cs : List Nat} {l r n cc : Nat} (hr : r < 64) (hn : n = 64 * l + r) (h : RsInv xs l r xs.length cc cs) : digs (val xs * 2 ^ n) = trimz (cs ++ [cc]) := by
  obtain ⟨h1, h2, h3, h4⟩ := h
  have hc : cc < LB := Nat.lt_of_lt_of_le h3 (by rw [show LB = 2 ^ 64 from rfl]; exact Nat.pow_le_pow_right (by decide) (by omega))
  rw [← digs_val (h2.append (.one hc)), val_append, val_one, h1, h4, List.take_length]
  congr 1
  rw [hn, Nat.pow_add, ← LB_two_pow, Nat.mul_left_comm, Nat.mul_comm (2 ^ r)]
theorem rshift_up (A : Option Addr) (c n : Nat) (xs : List Nat) (w : World) (hx : Sl w A xs) (lx : Limbs xs) (hl : xs.length ≤ 10000) (hn : n ≤ 100000) :
    Calls Tryz.prog 141 #[.slice A xs.length c, .int .i64 (n : Int)] w (Mk w (digs (val xs * 2 ^ n))) := by
  obtain ⟨l, hL⟩ : ∃ l, l = n / 64 := ⟨_, rfl⟩
  obtain ⟨r, hR⟩ : ∃ r, r = n % 64 := ⟨_, rfl⟩
  obtain ⟨s, hs⟩ : ∃ s, r + s = 64 := ⟨64 - r, by omega⟩
  have q1 : binOp .quo 3 (.int .i64 (n : Int)) (.int .i64 64) = pure (.int .i64 (l : Int)) := by
    rw [hL]; exact i64_quo _ n 64 (by omega) (by omega)
  have q2 : binOp .rem 3 (.int .i64 (n : Int)) (.int .i64 64) = pure (.int .i64 (r : Int)) := by
    rw [hR]; exact i64_rem _ n 64 (by omega)
  have hmk : ∀ W : World, (Instr.makeSlice 26 (.int .i64 (l : Int)) (.int .i64 (l : Int))).run Tryz.prog W = .ok (.slice (some ⟨W.heap.size, 0, none⟩) l l) (W.alloc (.cells (madeCells #[.int .u64 0] l) 128)) :=
    fun W => run_make_u64 .i64 .i64 l l (by omega) (by omega) W
  have wr0 : IntKind.u64.wrap (r : Int) = (r : Int) := by rw [IntKind.wrap_u64]; omega
  have r64 : r ≤ 63 := by omega
  have lb : l ≤ 10000 := by omega
  have HS := hide hs
  have HN := hide (show n = 64 * l + r by omega)
  clear hL hR hs
  go_enter Tryz.func141, Tryz.ntmps141
  go_wp2
  have M := hide ((Own.made (n := l) w (Nat.le_refl w.heap.size) (Nat.le_refl l) (by unfold maxLen; omega)).row (List.length_replicate ..))
  clear hmk
  go_loopw [9, 11, 12] (fun o cy i wr => ∃ (k cc e : Nat) (C : Option Addr) (cs : List Nat), k ≤ xs.length ∧ i = .int .i64 (k : Nat) ∧ cy = .int .u64 (cc : Nat) ∧ o = .slice C (l + k) e ∧ RsInv xs l r k cc cs ∧ Row wr w.heap.size C (l + k) e cs ∧ Below w.heap.size w wr) (fun _ _ i _ => xs.length - (intOf i).toNat)
  case atStart => exact ⟨0, 0, l, some ⟨w.heap.size, 0, none⟩, _, Nat.zero_le _, rfl, rfl, rfl, RsInv.zero _ _ _, M.out, (Below.refl _ _).alloc (Nat.le_refl _) _⟩
  case round =>
    obtain ⟨k, cc, e, C, cs, hk, rfl, rfl, rfl, ri, ho, hb⟩ := hrel
    by_cases hlt : k < xs.length
    · obtain ⟨b, o, rfl, ha0⟩ := hx.at_ (by omega)
      have hcx := (ha0.below hb ha0.lt).cell (j := k) (by omega)
      obtain ⟨or1, or2⟩ := ri.or HS.out (lim xs k)
      have o1 := op_shl 128 .u64 (lim xs k) r (by omega)
      have o2 := op_or 128 (shlW (lim xs k) r) cc (shlW_lt _ _) (by omega)
      rw [or1] at o2
      obtain ⟨vv, hvv⟩ : ∃ v, v = cc + shlW (lim xs k) r := ⟨_, rfl⟩
      have I0 := ri.step lx HS.out
      rw [← hvv] at o2 I0
      have I := hide I0
      clear I0 hvv
      have O := hide ho
      have BB := hide hb
      by_cases r0 : r = 0
      · have e0 : shrW (lim xs k) s = 0 := by
          have : s = 64 := by have := HS.out; omega
          unfold shrW
          rw [this]
          exact Nat.div_eq_of_lt (lx.get k)
        rw [e0] at I
        have og : binOp .gtr 165 (.int .u64 (r : Int)) (.int .u64 0) = pure (.bool false) := by
          show pure (Value.bool (decide ((0 : Int) < (r : Int)))) = _
          rw [decide_eq_false (by omega)]
        clear ri ho hb ha0 or1 or2 e0 r0
        generalize shlW (lim xs k) r = sh at *
        generalize lim xs k = x at *
        go_wp2_with (at_builtin; refine app_one _ rfl (.tmp 85) (.tmp 94) rfl w.heap.size (l + k) e vv C cs rfl (O.out.alloc _) ⟨wr.heap.size, 0, none⟩ 1 rfl (by rw [World.cell?_alloc_at _ _ _ _ rfl]; rfl) (by omega) (by simp; have := BB.out.size; omega) ?_; intro g1 c1 w1 hr1 hg1)
        go_roundw
        case rel => exact ⟨k + 1, 0, c1, some ⟨g1, 0, none⟩, _, by omega, by go_num, rfl, rfl, I.out, hr1, (BB.out.alloc BB.out.size _).grown hg1 (by simp; have := BB.out.size; omega) O.out.ownBlock⟩
        case measure => simp [intOf]; omega
      · have og : binOp .gtr 165 (.int .u64 (r : Int)) (.int .u64 0) = pure (.bool true) := by
          show pure (Value.bool (decide ((0 : Int) < (r : Int)))) = _
          rw [decide_eq_true (by omega)]
        have o3 : binOp .sub 165 (.int .u64 64) (.int .u64 (r : Int)) = pure (.int .u64 (s : Int)) := op_sub_le _ 64 r s (by have := HS.out; omega) (by rw [LB_eq]; omega)
        have o4 := op_shr 128 .u64 (lim xs k) s (by have := HS.out; omega)
        have HC := hide (fun W (h : Below w.heap.size w W) => (ha0.below h ha0.lt).cell (j := k) (by omega))
        clear ri ho hb ha0 or1 or2 r0
        generalize shlW (lim xs k) r = sh at *
        generalize shrW (lim xs k) s = sr at *
        generalize lim xs k = x at *
        go_wp2_with (at_builtin; refine app_one _ rfl (.tmp 85) (.tmp 94) rfl w.heap.size (l + k) e vv C cs rfl (O.out.alloc _) ⟨wr.heap.size, 0, none⟩ 1 rfl (by rw [World.cell?_alloc_at _ _ _ _ rfl]; rfl) (by omega) (by simp; have := BB.out.size; omega) ?_; intro g1 c1 w1 hr1 hg1; have bb1 := (BB.out.alloc BB.out.size (.cells #[.int .u64 (vv : Int)] 128)).grown hg1 (by simp; have := BB.out.size; omega) O.out.ownBlock; have hcx1 := HC.out _ bb1)
        go_roundw
        case rel => exact ⟨k + 1, sr, c1, some ⟨g1, 0, none⟩, _, by omega, by go_num, rfl, rfl, I.out, hr1, bb1⟩
        case measure => simp [intOf]; omega
    · obtain rfl : k = xs.length := by omega
      have D := hide (ri.done (by omega) HN.out)
      have O := hide ho
      have BB := hide hb
      have hcl := ho.len
      clear ri ho hb
      have T := hide (fun (C' : Option Addr) (c' : Nat) W (h : Row W w.heap.size C' (l + xs.length + 1) c' (cs ++ [cc])) => (show Calls Tryz.prog 88 #[.slice C' (l + xs.length + 1) c'] W (Mk W (trimz (cs ++ [cc]))) from by
        have := rtrim_any C' c' (cs ++ [cc]) W h.sl (by rw [h.len]; exact h.le) (by rw [h.len]; omega)
        rwa [h.len] at this))
      go_wp2_with (first
        | (at_builtin; refine app_one _ rfl (.tmp 105) (.tmp 107) rfl w.heap.size (l + xs.length) e cc C cs rfl (O.out.alloc _) ⟨wr.heap.size, 0, none⟩ 1 rfl (by rw [World.cell?_alloc_at _ _ _ _ rfl]; rfl) (by omega) (by simp; have := BB.out.size; omega) ?_; intro g1 c1 w1 hr1 hg1)
        | (go_at_call 88; (with_reducible refine (T.out _ _ _ hr1).mono ?_); rintro ee w2 ⟨A2, c2, rfl, hr2, hb2⟩))
      go_ret
      rw [D.out]
      have bb1 := (BB.out.alloc BB.out.size (.cells #[.int .u64 (cc : Int)] 128)).grown hg1 (by simp; have := BB.out.size; omega) O.out.ownBlock
      exact Mk.trans bb1 ⟨A2, c2, rfl, hr2, hb2⟩
theorem rbits_any (A : Option Addr) (n c : Nat) (xs : List Nat) (w : World) (hn : xs.length = n) (hs : Sl w A xs) (lx : Limbs xs) (hl : n ≤ 1000000) :
    Calls Tryz.prog 140 #[.slice A n c] w fun e w' => e = .returned (.int .i64 ((rbitsSp xs : Nat) : Int)) ∧ w = w' := by
  by_cases h0 : n = 0
  · have E : Hid (rbitsSp xs = 0) := by
      subst h0
      have : xs = [] := List.eq_nil_of_length_eq_zero hn
      subst this; rfl
    rw [E.out]
    clear hs E hn
    subst h0
    go_enter Tryz.func140, Tryz.ntmps140
    go_wp2
    go_ret
    exact ⟨rfl, rfl⟩
  · subst hn
    have hne : xs ≠ [] := by rintro rfl; simp at h0
    obtain ⟨b, o, rfl, ha⟩ := hs.at_ (by omega)
    have hc := ha.cell (j := xs.length - 1) (by omega)
    have hL := lx.get (xs.length - 1)
    have E : Hid (rbitsSp xs = 64 * (xs.length - 1) + lenW (lim xs (xs.length - 1))) := by
      unfold rbitsSp
      exact if_neg hne
    rw [E.out]
    have hw := lenW_le _ hL
    have Z := hide (fun W => len64 _ hL W)
    clear E ha hs hL
    generalize lenW (lim xs (xs.length - 1)) = l at *
    generalize lim xs (xs.length - 1) = x at *
    clear lx hne
    generalize xs.length = n at *
    have h5 : ((n : Int) == 0) = false := by simp; omega
    have F := hide (show ((64 * (n - 1) + l : Nat) : Int) = 64 * ((n : Int) - 1) + (l : Int) by omega)
    go_enter Tryz.func140, Tryz.ntmps140
    go_wp2_with (go_at_call 121; (with_reducible refine (Z.out _).mono ?_); rintro e w' ⟨rfl, rfl⟩)
    go_ret
    exact ⟨ret_one F.out.symm, rfl⟩
theorem lim_val {xs : List Nat} (l : Limbs xs) (i : Nat) : lim xs i = val xs / LB ^ i % LB := by
  rcases Nat.lt_or_ge i xs.length with h | h
  · have h1 := val_split h
    have h2 := val_lt (l.take i)
    rw [List.length_take, Nat.min_eq_left (by omega)] at h2
    rw [h1, Nat.add_mul_div_left _ _ (LB_pow_pos i), Nat.div_eq_of_lt h2, Nat.zero_add, Nat.add_mul_mod_self_left, Nat.mod_eq_of_lt (l.get i)]
  · have h1 := val_lt l
    have h2 : LB ^ xs.length ≤ LB ^ i := Nat.pow_le_pow_right LB_pos h
    rw [lim_none h, Nat.div_eq_of_lt (by omega), Nat.zero_mod]
theorem or_bit {L p : Nat} (h : L % 2 ^ (p + 1) = 0) : orW L (2 ^ p) = L + 2 ^ p := by
  have e : L = 2 ^ (p + 1) * (L / 2 ^ (p + 1)) := by
    have := Nat.div_add_mod L (2 ^ (p + 1))
    omega
  have h1 : 2 ^ p < 2 ^ (p + 1) := by rw [Nat.pow_succ]; have := Nat.two_pow_pos p; omega
  have := or_low (L / 2 ^ (p + 1)) h1
  rw [← e] at this
  rw [Nat.add_comm, ← this]
  unfold orW
  exact Nat.or_comm _ _
structure DvI (X Y j N R : Nat) (qs : List Nat) : Prop where
  len : qs.length = N
  limbs : Limbs qs
  eq : X = val qs * Y + R
  lt : R < Y * 2 ^ j
  low : val qs % 2 ^ j = 0
theorem DvI.start {X Y N j : Nat} (h : X < Y * 2 ^ j) : DvI X Y j N X (List.replicate N 0) :=
  ⟨by simp, .replicate _, by rw [val_replicate]; omega, h, by rw [val_replicate]; simp⟩
theorem DvI.bit {X Y k N R : Nat} {qs : List Nat} (h : DvI X Y (k + 1) N R qs) : lim qs (k / 64) % 2 ^ (k % 64 + 1) = 0 := by
  have e : k + 1 = 64 * (k / 64) + (k % 64 + 1) := by omega
  have h1 := h.low
  have h2 := Nat.div_add_mod (val qs) (2 ^ (k + 1))
  rw [h1, Nat.add_zero] at h2
  rw [lim_val h.limbs, ← h2, LB_two_pow, e, Nat.pow_add, Nat.mul_assoc, Nat.mul_div_cancel_left _ (Nat.two_pow_pos _)]
  have hd : 2 ^ (k % 64 + 1) ∣ LB := by
    rw [show LB = 2 ^ 64 from rfl]
    exact Nat.pow_dvd_pow 2 (by omega)
  rw [Nat.mod_mod_of_dvd _ hd, Nat.mul_mod_right]
theorem DvI.take {X Y k N R : Nat} {qs : List Nat} (h : DvI X Y (k + 1) N R qs) (hk : k / 64 < N) (hR : Y * 2 ^ k ≤ R) :
    DvI X Y k N (R - Y * 2 ^ k) (qs.set (k / 64) (lim qs (k / 64) + 2 ^ (k % 64))) := by
  have hb := h.bit
  have ho := or_bit hb
  have hlt : lim qs (k / 64) + 2 ^ (k % 64) < LB := by
    rw [← ho]
    unfold orW
    refine Nat.or_lt_two_pow (n := 64) (h.limbs.get _) ?_
    exact Nat.pow_lt_pow_right (by decide) (by omega)
  have hv := val_set (xs := qs) (j := k / 64) (lim qs (k / 64) + 2 ^ (k % 64)) (by rw [h.len]; exact hk)
  have e : LB ^ (k / 64) * 2 ^ (k % 64) = 2 ^ k := by
    rw [LB_two_pow, ← Nat.pow_add]
    congr 1
    omega
  rw [Nat.mul_add, e] at hv
  have hv' : val (qs.set (k / 64) (lim qs (k / 64) + 2 ^ (k % 64))) = val qs + 2 ^ k := by omega
  have hl := h.lt
  rw [Nat.pow_succ, ← Nat.mul_assoc] at hl
  refine ⟨by simpa using h.len, h.limbs.set _ _ hlt, ?_, by omega, ?_⟩
  · have := h.eq
    rw [hv', Nat.add_mul, Nat.mul_comm (2 ^ k) Y]
    omega
  · have h1 := h.low
    rw [hv']
    have h2 := Nat.div_add_mod (val qs) (2 ^ (k + 1))
    rw [h1, Nat.add_zero, Nat.pow_succ, Nat.mul_assoc] at h2
    rw [← h2, Nat.add_mod_right, Nat.mul_mod_right]
theorem DvI.skip {X Y k N R : Nat} {qs : List Nat} (h : DvI X Y (k + 1) N R qs) (hR : R < Y * 2 ^ k) : DvI X Y k N R qs := by
  refine ⟨h.len, h.limbs, h.eq, hR, ?_⟩
  have h1 := h.low
  have h2 := Nat.div_add_mod (val qs) (2 ^ (k + 1))
  rw [h1, Nat.add_zero, Nat.pow_succ, Nat.mul_assoc] at h2
  rw [← h2, Nat.mul_mod_right]
theorem DvI.done {X Y N R : Nat} {qs : List Nat} (h : DvI X Y 0 N R qs) : X / Y = val qs ∧ X % Y = R := by
  have h1 := h.lt
  rw [Nat.pow_zero, Nat.mul_one] at h1
  have h2 := h.eq
  have hp : 0 < Y := by omega
  constructor
  · rw [h2, Nat.mul_comm, Nat.mul_add_div hp, Nat.div_eq_of_lt h1, Nat.add_zero]
  · rw [h2, Nat.mul_comm, Nat.mul_add_mod, Nat.mod_eq_of_lt h1]
theorem dv_start {X Y : Nat} (hy : 0 < Y) (h : Y ≤ X) : blen Y ≤ blen X ∧ X < Y * 2 ^ (blen X - blen Y + 1) := by
  have h1 := blen_mono h
  have h2 := blen_hi X
  obtain ⟨h3, h4⟩ := blen_lo (n := Y) (by omega)
  refine ⟨h1, Nat.lt_of_lt_of_le h2 ?_⟩
  refine Nat.le_trans ?_ (Nat.mul_le_mul_right _ h4)
  rw [← Nat.pow_add]
  exact Nat.pow_le_pow_right (by decide) (by omega)
theorem Row.set_far {w : World} {base n c : Nat} {A : Option Addr} {xs : List Nat} (h : Row w base A n c xs) {g j : Nat} (hg : g < base) (u : Value) : Row (w.setCell ⟨g, j, none⟩ u) base A n c xs :=
  h.keep fun a ha => Below.heap_setCell w ⟨g, j, none⟩ u a.block (by have := (h.lt a ha).1; intro e; simp at e; omega)
theorem kb {w w' : World} {A : Option Addr} {xs : List Nat} (b : Below w.heap.size w w') (h : Sl w A xs) : Sl w' A xs := bl_keeps b _ _ h
def RTwo (w : World) (q r : Nat) (e : Ending) (w' : World) : Prop := ∃ A c B d, e = .returned (.tuple #[.slice A (digs q).length c, .slice B (digs r).length d]) ∧ Sl w' A (digs q) ∧ Sl w' B (digs r) ∧ Below w.heap.size w w'
def RTwoC (w : World) (q r : Nat) (e : Ending) (w' : World) : Prop := ∃ A c B d, e = .returned (.tuple #[.slice A (digs q).length c, .slice B (digs r).length d]) ∧ Sl w' A (digs q) ∧ Sl w' B (digs r) ∧ (digs q).length ≤ c ∧ Below w.heap.size w w'
theorem RTwoC.mk {w w' : World} {q r n m c d : Nat} {A B : Option Addr} (hn : (digs q).length = n) (hm : (digs r).length = m) (hc : n ≤ c) (hq : Sl w' A (digs q)) (hr : Sl w' B (digs r)) (hb : Below w.heap.size w w') : RTwoC w q r (.returned (.tuple #[.slice A n c, .slice B m d])) w' := by
  subst hn hm; exact ⟨A, c, B, d, rfl, hq, hr, hc, hb⟩
theorem RTwoC.two {w w' : World} {q r : Nat} {e : Ending} (h : RTwoC w q r e w') : RTwo w q r e w' := by
  obtain ⟨A, c, B, d, he, h1, h2, _, h4⟩ := h
  exact ⟨A, c, B, d, he, h1, h2, h4⟩
theorem rdivmod_cap (A B : Option Addr) (c d x y N M : Nat) (w : World) (hxn : (digs x).length = N) (hyn : (digs y).length = M) (hx : Sl w A (digs x)) (hy : Sl w B (digs y)) (hl : N ≤ 1000) (hl' : M ≤ 1000) (hp : 0 < y) :
    Calls Tryz.prog 110 #[.slice A N c, .slice B M d] w (RTwoC w (x / y) (x % y)) := by
  have hM : y ≤ x → M ≤ N := fun h => by
    rw [← hxn, ← hyn]; exact len_le_of_val (limbs_digs x) (norm_digs y) (by rw [val_digs, val_digs]; exact h)
  by_cases hlt : x < y
  · have C := rcmp_any A B c d (digs x) (digs y) w hx hy (limbs_digs x) (limbs_digs y) (norm_digs x) (norm_digs y) (by omega) (by omega)
    rw [hxn, hyn, val_digs, val_digs, cmpN_lt hlt] at C
    have C := hide C
    have HX := hide (fun q => hx.drewN q)
    have E1 := hide (show x / y = 0 from Nat.div_eq_of_lt hlt)
    have E2 := hide (show x % y = x from Nat.mod_eq_of_lt hlt)
    have L0 := hide (show (digs (x / y)).length = 0 by rw [E1.out, digs_zero]; rfl)
    have L1 := hide (show (digs (x % y)).length = N by rw [E2.out]; exact hxn)
    clear hx hy hM
    go_enter Tryz.func110, Tryz.ntmps110
    go_wp2_with (go_at_call 139; (with_reducible refine (C.out).mono ?_); rintro e w1 ⟨rfl, q0, rfl⟩)
    go_ret2
    exact RTwoC.mk L0.out L1.out (Nat.le_refl 0) (by rw [E1.out, digs_zero]; exact .nil) (by rw [E2.out]; exact HX.out _) (bl_q0 rfl)
  · have hle : y ≤ x := by omega
    have mn := hM hle
    have C := rcmp_any A B c d (digs x) (digs y) w hx hy (limbs_digs x) (limbs_digs y) (norm_digs x) (norm_digs y) (by omega) (by omega)
    rw [hxn, hyn, val_digs, val_digs] at C
    have C := hide C
    have cz : 0 ≤ cmpN x y := cmpN_nonneg.2 hle
    obtain ⟨b1, b2⟩ := dv_start hp hle
    have hxN : blen x ≤ 64 * N := by rw [blen_le_iff, ← LB_two_pow]; exact length_digs_le.1 (Nat.le_of_eq hxn)
    have by1 : 0 < blen y := by have := (blen_lo (n := y) (by omega)).1; omega
    have BX := fun q => rbits_any A N c (digs x) (w.drewN q) hxn (hx.drewN q) (limbs_digs x) (by omega)
    have BY := fun q => rbits_any B M d (digs y) (w.drewN q) hyn (hy.drewN q) (limbs_digs y) (by omega)
    have BX' := hide (fun W (h : Below w.heap.size w W) => rbits_any A N c (digs x) W hxn (bl_keeps h _ _ hx) (limbs_digs x) (by omega))
    have BY' := hide (fun W (h : Below w.heap.size w W) => rbits_any B M d (digs y) W hyn (bl_keeps h _ _ hy) (limbs_digs y) (by omega))
    rw [rbits_val (limbs_digs x) (norm_digs x), val_digs] at BX'
    rw [rbits_val (limbs_digs y) (norm_digs y), val_digs] at BY'
    obtain ⟨K, hK⟩ : ∃ K, K + blen y = blen x := ⟨blen x - blen y, by omega⟩
    have q1 : binOp .sub 3 (.int .i64 (blen x : Int)) (.int .i64 (blen y : Int)) = pure (.int .i64 (K : Int)) := i64_sub _ (blen x) (blen y) K hK (by omega)
    have hmk : ∀ W : World, (Instr.makeSlice 26 (.int .i64 (N : Int)) (.int .i64 (N : Int))).run Tryz.prog W = .ok (.slice (some ⟨W.heap.size, 0, none⟩) N N) (W.alloc (.cells (madeCells #[.int .u64 0] N) 128)) :=
      fun W => run_make_u64 .i64 .i64 N N (by omega) (by omega) W
    have ST : Hid (DvI x y (K + 1) N x (List.replicate N 0)) := DvI.start (by rw [show K + 1 = blen x - blen y + 1 by omega]; exact b2)
    have KB := hide (show K < 64 * N by omega)
    have SH := hide (fun W (h : Below w.heap.size w W) k (hk : k ≤ 100000) => rshift_up B d k (digs y) W (bl_keeps h _ _ hy) (limbs_digs y) (by omega) hk)
    rw [hyn, val_digs] at SH
    have HX := hide hx
    have HY := hide hy
    have k0 : K ≤ 64000 := by omega
    clear BX BY hM hle hlt b1 b2 hxN by1 hK hp
    generalize blen x = bx at *
    generalize blen y = bY at *
    generalize cmpN x y = z0 at *
    go_enter Tryz.func110, Tryz.ntmps110
    go_wp2_with (first
      | (go_at_call 139; (with_reducible refine (C.out).mono ?_); rintro e w1 ⟨rfl, q0, rfl⟩; have M0 := hide (Own.made (n := N) (w.drewN q0) (Nat.le_refl _) (Nat.le_refl N) (by unfold maxLen; omega)); have B0 := hide (bl_allocs (bl_q0 (w := w) (q := q0) rfl) (.cells (madeCells #[.int .u64 0] N) 128)))
      | (go_at_call 140; (first | with_reducible refine (BX'.out _ B0.out).mono ?_ | with_reducible refine (BY'.out _ B0.out).mono ?_); rintro e w2 ⟨rfl, rfl⟩))
    clear hmk C BX' BY'
    go_loopw [7, 8] (fun r kk wr => ∃ (j : Nat) (D : Option Addr) (m e R : Nat) (qs : List Nat), j ≤ K + 1 ∧ kk = .int .i64 ((j : Int) - 1) ∧ r = .slice D m e ∧ (digs R).length = m ∧ R ≤ x ∧ Sl wr D (digs R) ∧ DvI x y j N R qs ∧ Own wr w.heap.size w.heap.size N qs ∧ Below w.heap.size w wr) (fun _ kk _ => (intOf kk + 1).toNat)
    case atStart => exact ⟨K + 1, A, N, c, x, _, Nat.le_refl _, by simp, rfl, hxn, Nat.le_refl _, bl_keeps B0.out _ _ HX.out, ST.out, M0.out, B0.out⟩
    case round =>
      obtain ⟨j, D, m, e, R, qs, hj, rfl, rfl, hm, hRx, hr, di, ho, hb⟩ := hrel
      have mN : m ≤ N := by rw [← hm, ← hxn]; exact len_le_of_val (limbs_digs x) (norm_digs R) (by rw [val_digs, val_digs]; exact hRx)
      cases j with
      | zero =>
        obtain ⟨d1, d2⟩ := di.done
        have T := hide (show Calls Tryz.prog 88 #[.slice (some ⟨w.heap.size, 0, none⟩) N N] wr (Mk wr (digs (x / y))) from by
          have := rtrim_any (some ⟨w.heap.size, 0, none⟩) N qs wr ho.sl (by rw [di.len]; exact Nat.le_refl _) (by rw [di.len]; omega)
          rwa [di.len, ← digs_val di.limbs, ← d1] at this)
        have E2 := hide d2
        have HR := hide hr
        have HM := hide hm
        have H := hide hb
        clear di ho hr hb d1 d2 hm
        go_wp2_with (go_at_call 88; (with_reducible refine (T.out).mono ?_); rintro ee w3 ⟨A3, c3, rfl, r3, hb3⟩)
        go_ret2
        exact RTwoC.mk rfl (by rw [E2.out]; exact HM.out) r3.le r3.sl (by rw [E2.out]; exact bl_keeps hb3 _ _ HR.out) (bl_trans H.out hb3)
      | succ k =>
        have SHk := hide (SH.out wr hb k (by omega))
        have H := hide hb
        have kn : k / 64 < N := by have := KB.out; omega
        have sl : (digs (y * 2 ^ k)).length ≤ 10000 := by
          have h1 : y < LB ^ M := length_digs_le.1 (Nat.le_of_eq hyn)
          have h2 : 2 ^ k ≤ LB ^ (k / 64 + 1) := by
            rw [LB_two_pow]
            exact Nat.pow_le_pow_right (by decide) (by omega)
          have h3 : y * 2 ^ k < LB ^ (M + (k / 64 + 1)) := by
            rw [Nat.pow_add]
            exact Nat.lt_of_lt_of_le (Nat.mul_lt_mul_of_pos_right h1 (Nat.two_pow_pos k)) (Nat.mul_le_mul_left _ h2)
          exact Nat.le_trans (length_digs_le.2 h3) (by omega)
        have RC := hide (fun (S : Option Addr) (sc : Nat) W (hs : Sl W S (digs (y * 2 ^ k))) (hr' : Sl W D (digs R)) => rcmp_any D S e sc (digs R) (digs (y * 2 ^ k)) W hr' hs (limbs_digs _) (limbs_digs _) (norm_digs _) (norm_digs _) (by omega) (by omega))
        rw [hm, val_digs, val_digs] at RC
        have HR := hide hr
        have HM := hide hm
        have OO := hide ho
        by_cases hc : y * 2 ^ k ≤ R
        · have cz1 : 0 ≤ cmpN R (y * 2 ^ k) := cmpN_nonneg.2 hc
          have DT := hide (di.take kn hc)
          have OB := or_bit di.bit
          have hLL := di.limbs.get (k / 64)
          have RS := hide (fun (S : Option Addr) (sc : Nat) W (hs : Sl W S (digs (y * 2 ^ k))) (hr' : Sl W D (digs R)) => rsub_any D S e sc (digs R) (digs (y * 2 ^ k)) W hr' hs (limbs_digs _) (limbs_digs _) (by omega) (len_le_of_val (limbs_digs R) (norm_digs _) (by rw [val_digs, val_digs]; exact hc)) (by rw [val_digs, val_digs]; exact hc))
          rw [hm, val_digs, val_digs] at RS
          have RX := hide (show R - y * 2 ^ k ≤ x by omega)
          obtain ⟨i, hi⟩ : ∃ i, i = k / 64 := ⟨_, rfl⟩
          obtain ⟨p, hpp⟩ : ∃ p, p = k % 64 := ⟨_, rfl⟩
          obtain ⟨pw, hpw⟩ : ∃ v, v = 2 ^ p := ⟨_, rfl⟩
          rw [← hi, ← hpp] at OB DT
          rw [← hi] at hLL kn
          rw [← hpw] at OB DT
          have pL : pw < LB := by
            rw [hpw, show LB = 2 ^ 64 from rfl]
            exact Nat.pow_lt_pow_right (by decide) (by omega)
          have o0 : binOp .quo 3 (.int .i64 (k : Int)) (.int .i64 64) = pure (.int .i64 (i : Int)) := by rw [hi]; exact i64_quo _ k 64 (by omega) (by omega)
          have o1 : binOp .rem 3 (.int .i64 (k : Int)) (.int .i64 64) = pure (.int .i64 (p : Int)) := by rw [hpp]; exact i64_rem _ k 64 (by omega)
          have wp : IntKind.u64.wrap (p : Int) = (p : Int) := by rw [IntKind.wrap_u64]; omega
          have o2 : binOp .shl 128 (.int .u64 1) (.int .u64 (p : Int)) = pure (.int .u64 (pw : Int)) := by
            have h := op_shl 128 .u64 1 p (by omega)
            have h2 : shlW 1 p = pw := by
              unfold shlW
              rw [Nat.one_mul, ← hpw]
              exact Nat.mod_eq_of_lt pL
            rw [h2] at h
            exact h
          have o3 := op_or 128 (lim qs i) pw hLL pL
          rw [OB] at o3
          obtain ⟨nv, hnv⟩ : ∃ v, v = lim qs i + pw := ⟨_, rfl⟩
          rw [← hnv] at o3 DT
          have QL := hide di.len
          clear di hr hm ho hb hc hi hpp hpw OB pL hLL hnv sl
          generalize cmpN R (y * 2 ^ k) = z1 at *
          generalize y * 2 ^ k = sv at *
          go_wp2_with (first
            | (go_at_call 141; (with_reducible refine (SHk.out).mono ?_); rintro ee w3 ⟨S3, c3, rfl, r3, hb3⟩)
            | (go_at_call 139; (with_reducible refine (RC.out S3 c3 _ r3.sl (kb hb3 HR.out)).mono ?_); rintro ee w4 ⟨rfl, q4, h4⟩; have hb4 := bl_trans hb3 (bl_q0 h4); have s4 := hide (kb (bl_q0 h4) r3.sl); clear h4)
            | (go_at_call 142; (with_reducible refine (RS.out S3 c3 _ s4.out (kb hb4 HR.out)).mono ?_); rintro ee w5 ⟨D5, c5, rfl, r5, hb5⟩; have hb6 := bl_trans hb4 hb5; have ho6 := OO.out.below hb6 OO.out.lt; have hcell := ho6.cell (j := i) (by rw [QL.out]; exact kn); have hfr := ho6.frozen i; have O6 := hide (ho6.set i nv); clear ho6))
          have hs5 := hide ((r5.set_far (g := w.heap.size) (j := i) (Nat.lt_of_lt_of_le OO.out.lt hb4.size) (.int .u64 (nv : Int))).sl)
          have BB := hide ((bl_trans H.out hb6).setCell (Nat.le_refl _) (p := ⟨w.heap.size, i, none⟩) (.int .u64 (nv : Int)))
          clear hcell hfr hb3 hb4 hb5 hb6 r3 r5 s4
          go_roundw
          case rel => exact ⟨k, D5, _, c5, _, _, by omega, rfl, rfl, rfl, RX.out, hs5.out, DT.out, O6.out, BB.out⟩
          case measure => simp [intOf]
        · have DS := hide (di.skip (Nat.lt_of_not_le hc))
          have HRX := hide hRx
          rw [cmpN_lt (Nat.lt_of_not_le hc)] at RC
          clear di hr hm ho hb hc sl hRx
          generalize y * 2 ^ k = sv at *
          go_wp2_with (first
            | (go_at_call 141; (with_reducible refine (SHk.out).mono ?_); rintro ee w3 ⟨S3, c3, rfl, r3, hb3⟩)
            | (go_at_call 139; (with_reducible refine (RC.out S3 c3 _ r3.sl (kb hb3 HR.out)).mono ?_); rintro ee w4 ⟨rfl, q4, h4⟩; have hb4 := bl_trans hb3 (bl_q0 h4); clear h4))
          go_roundw
          case rel => exact ⟨k, D, m, e, R, qs, by omega, by go_num, rfl, HM.out, HRX.out, kb hb4 HR.out, DS.out, OO.out.below hb4 OO.out.lt, bl_trans H.out hb4⟩
          case measure => simp [intOf]
theorem rdivmod_num (A B : Option Addr) (c d x y N M : Nat) (w : World) (hxn : (digs x).length = N) (hyn : (digs y).length = M) (hx : Sl w A (digs x)) (hy : Sl w B (digs y)) (hl : N ≤ 1000) (hl' : M ≤ 1000) (hp : 0 < y) :
    Calls Tryz.prog 110 #[.slice A N c, .slice B M d] w (RTwo w (x / y) (x % y)) :=
  (rdivmod_cap A B c d x y N M w hxn hyn hx hy hl hl' hp).mono fun _ _ h => h.two
theorem rgcd_num (A B : Option Addr) (c d x y N M : Nat) (w : World) (hxn : (digs x).length = N) (hyn : (digs y).length = M) (hx : Sl w A (digs x)) (hy : Sl w B (digs y)) (hl : N ≤ 1000) (hl' : M ≤ 1000) :
    Calls Tryz.prog 109 #[.slice A N c, .slice B M d] w fun e w' => ∃ A' c', e = .returned (.slice A' (digs (Nat.gcd x y)).length c') ∧ Sl w' A' (digs (Nat.gcd x y)) ∧ Below w.heap.size w w' := by
  have HX := hide hx
  have HY := hide hy
  clear hx hy
  go_enter Tryz.func109, Tryz.ntmps109
  go_wp2
  go_loopw [0, 1] (fun X Y wr => ∃ (A : Option Addr) (n a : Nat) (B : Option Addr) (m b p r : Nat), X = .slice A n a ∧ Y = .slice B m b ∧ Sl wr A (digs p) ∧ Sl wr B (digs r) ∧ (digs p).length = n ∧ (digs r).length = m ∧ n ≤ 1000 ∧ m ≤ 1000 ∧ Nat.gcd p r = Nat.gcd x y ∧ Below w.heap.size w wr) (fun _ Y wr => readV wr Y)
  case atStart => exact ⟨A, N, c, B, M, d, x, y, rfl, rfl, HX.out, HY.out, hxn, hyn, hl, hl', rfl, .refl _ _⟩
  case round =>
    obtain ⟨A3, n, a, B3, m, b, p, r, rfl, rfl, hx, hy, hn, hm, hnb, hmb, hg, hb⟩ := hrel
    by_cases h0 : m = 0
    · have hr0 : r = 0 := by
        rcases Nat.eq_zero_or_pos r with h | h
        · exact h
        · have := digs_lp.2 h; omega
      have F := hide (show Nat.gcd x y = p by rw [← hg, hr0, Nat.gcd_zero_right])
      have HN := hide hn
      have H := hide hb
      have HP := hide hx
      clear hx hy hg hb hn hm hr0
      subst h0
      go_wp2
      go_ret
      exact ⟨A3, a, by rw [F.out, HN.out]; rfl, by rw [F.out]; exact HP.out, H.out⟩
    · have rp : 0 < r := digs_lp.1 (by omega)
      have DV := hide (rdivmod_num A3 B3 a b p r n m wr hn hm hx hy hnb hmb rp)
      have M1 := hide (readV_sl hy m b hm)
      have HR := hide hy
      have HM := hide hm
      have G := hide hg
      have H := hide hb
      have RP := hide rp
      have h0' : 0 < m := by omega
      have LM := hide (show (digs (p % r)).length ≤ 1000 from Nat.le_trans (by rw [← hm]; exact len_le_of_val (limbs_digs r) (norm_digs _) (by rw [val_digs, val_digs]; exact Nat.le_of_lt (Nat.mod_lt _ rp))) hmb)
      have MB := hide hmb
      clear hx hy hg hb hn hm rp h0 hmb
      go_wp2_with (go_at_call 110; (with_reducible refine (DV.out).mono ?_); rintro e w3 ⟨A4, c4, B4, d4, rfl, hq, hr, hb3⟩)
      go_roundw
      case rel => exact ⟨B3, m, b, B4, _, d4, r, p % r, rfl, rfl, kb hb3 HR.out, hr, HM.out, rfl, MB.out, LM.out, by rw [← G.out, Nat.gcd_comm p r, Nat.gcd_rec r p, Nat.gcd_comm], bl_trans H.out hb3⟩
      case measure =>
        have M2 := readV_sl hr (digs (p % r)).length d4 rfl
        rw [M1.out, M2, val_digs, val_digs]
        exact Nat.mod_lt _ RP.out
def R2 (w : World) (r : List Nat × Nat) (e : Ending) (w' : World) : Prop := ∃ A c, e = .returned (.tuple #[.slice A r.1.length c, .int .i64 (r.2 : Int)]) ∧ Sl w' A r.1 ∧ Below w.heap.size w w'
def R3 (w : World) (r : List Nat × List Nat × Nat) (e : Ending) (w' : World) : Prop := ∃ A c B d, e = .returned (.tuple #[.slice A r.1.length c, .slice B r.2.1.length d, .int .i64 (r.2.2 : Int)]) ∧ Sl w' A r.1 ∧ Sl w' B r.2.1 ∧ Below w.heap.size w w'
theorem rgcd_z (A B : Option Addr) (c d x y g : Nat) (w : World) (sx : Sl w A (digs x)) (sy : Sl w B (digs y)) (hx : ln x ≤ 1000) (hy : ln y ≤ 1000) (hg : Nat.gcd x y = g) :
    Calls Tryz.prog 109 #[.slice A (ln x) c, .slice B (ln y) d] w (Rd w g) := by
  subst hg
  exact rgcd_num A B c d x y (ln x) (ln y) w rfl rfl sx sy hx hy
theorem rtrim_z (A : Option Addr) (c x : Nat) (w : World) (sx : Sl w A (digs x)) (hx : ln x ≤ 5000) (hc : ln x ≤ c) :
    Calls Tryz.prog 88 #[.slice A (ln x) c] w (Rd w x) :=
  (rtrim_any A c (digs x) w sx hc (Nat.le_trans hx (by decide))).mono fun _ _ h => by
    rw [← digs_val (limbs_digs x), val_digs] at h
    exact h.rd rfl
theorem rmade_q (s : Bool) (A B : Option Addr) (c d x y : Nat) (q : Rat) (w : World) (sx : Sl w A (digs x)) (sy : Sl w B (digs y)) (hx : ln x ≤ 1000) (hy : ln y ≤ 1000) (hp : 0 < y) (hq : qmk s x y = q) :
    Calls Tryz.prog 86 #[.bool s, .slice A (ln x) c, .slice B (ln y) d] w (RQ w q) := by
  obtain ⟨g, hg⟩ : ∃ g, Nat.gcd x y = g := ⟨_, rfl⟩
  have gp : 0 < g := by rw [← hg]; exact Nat.gcd_pos_of_pos_right _ hp
  have gl : ln g ≤ 1000 := by rw [← hg]; exact Nat.le_trans (ln_mono (Nat.gcd_le_right _ hp)) hy
  obtain ⟨u, hu⟩ : ∃ u, x / g = u := ⟨_, rfl⟩
  obtain ⟨v, hv⟩ : ∃ v, y / g = v := ⟨_, rfl⟩
  have ul : ln u ≤ 1000 := by rw [← hu]; exact Nat.le_trans (ln_div _ _) hx
  have vl : ln v ≤ 1000 := by rw [← hv]; exact Nat.le_trans (ln_div _ _) hy
  have E1 := hide (show qs q = (s && decide (0 < ln u)) by rw [← hq, qs_mk s x (Nat.ne_of_gt hp), hg, hu, dec_ln])
  have E2 := hide (show qn q = u by rw [← hq, qn_mk s x (Nat.ne_of_gt hp), hg, hu])
  have E3 := hide (show qd q = v by rw [← hq, qd_mk s x (Nat.ne_of_gt hp), hg, hv])
  have G := hide (fun W (k : Below w.heap.size w W) => rgcd_z A B c d x y g W (kp' k sx) (kp' k sy) hx hy hg)
  have D1 := hide (fun X e W (k : Below w.heap.size w W) s3 => rdivmod_cap A X c e x g (ln x) (ln g) W rfl rfl (kp' k sx) s3 hx gl gp)
  have D2 := hide (fun X e W (k : Below w.heap.size w W) s3 => rdivmod_cap B X d e y g (ln y) (ln g) W rfl rfl (kp' k sy) s3 hy gl gp)
  rw [hu] at D1
  rw [hv] at D2
  obtain ⟨m1, hm1⟩ : ∃ m, x % g = m := ⟨_, rfl⟩
  obtain ⟨m2, hm2⟩ : ∃ m, y % g = m := ⟨_, rfl⟩
  rw [hm1] at D1
  rw [hm2] at D2
  have T1 := hide (fun X e W s3 h => rtrim_z X e u W s3 (by omega) h)
  have T2 := hide (fun X e W s3 h => rtrim_z X e v W s3 (by omega) h)
  obtain ⟨i, hi⟩ : ∃ i, i = ln u := ⟨_, rfl⟩
  have D1 : Hid (∀ X e W, Below w.heap.size w W → Sl W X (digs g) → Calls Tryz.prog 110 #[.slice A (ln x) c, .slice X (ln g) e] W fun e w' => ∃ A c B d, e = .returned (.tuple #[.slice A i c, .slice B (ln m1) d]) ∧ Sl w' A (digs u) ∧ Sl w' B (digs m1) ∧ i ≤ c ∧ Below W.heap.size W w') := by rw [hi]; exact D1
  have T1 : Hid (∀ X e W, Sl W X (digs u) → i ≤ e → Calls Tryz.prog 88 #[.slice X i e] W fun e w' => ∃ A c, e = .returned (.slice A i c) ∧ Sl w' A (digs u) ∧ Below W.heap.size W w') := by rw [hi]; exact T1
  obtain ⟨j, hj⟩ : ∃ j, j = ln v := ⟨_, rfl⟩
  have D2 : Hid (∀ X e W, Below w.heap.size w W → Sl W X (digs g) → Calls Tryz.prog 110 #[.slice B (ln y) d, .slice X (ln g) e] W fun e w' => ∃ A c B d, e = .returned (.tuple #[.slice A j c, .slice B (ln m2) d]) ∧ Sl w' A (digs v) ∧ Sl w' B (digs m2) ∧ j ≤ c ∧ Below W.heap.size W w') := by rw [hj]; exact D2
  have T2 : Hid (∀ X e W, Sl W X (digs v) → j ≤ e → Calls Tryz.prog 88 #[.slice X j e] W fun e w' => ∃ A c, e = .returned (.slice A j c) ∧ Sl w' A (digs v) ∧ Below W.heap.size W w') := by rw [hj]; exact T2
  rw [← hi] at E1
  have MK := hide (fun (A B : Option Addr) (c d : Nat) (W : World) (sa : Sl W A (digs u)) (sb : Sl W B (digs v)) (b : Below w.heap.size w W) => (RQ.mk E1.out E2.out E3.out sa sb b : RQ w q (.returned (.agg #[.bool (s && decide (0 < i)), .slice A (ln u) c, .slice B (ln v) d])) W))
  rw [← hi, ← hj] at MK
  have i0 : i ≤ 1000 := by omega
  clear sx sy hx hy hp hq hg gp gl hu hv ul vl E1 E2 E3 hm1 hm2 hi hj
  generalize ln x = n at *
  generalize ln y = m at *
  have X := hide (Q3.new (.bool false) (.slice none 0 0) (.slice none 0 0) w)
  have b0 : Below w.heap.size w (w.alloc (.cells #[.bool false, .slice none 0 0, .slice none 0 0] 28)) := bl_al (.refl _ _) _
  obtain ⟨z, hz⟩ : ∃ z, (s && decide (0 < i)) = z := ⟨_, rfl⟩
  rw [hz] at MK
  cases s with
  | false =>
    obtain rfl : z = false := by rw [← hz]; rfl
    clear hz
    go_enter Tryz.func86, Tryz.ntmps86
    go_wp2_with (first
      | (go_at_call 109; (with_reducible refine (G.out _ b0).mono ?_); rintro e w1 ⟨A1, c1, rfl, s1, hb⟩; have X := hide (X.out.next hb); (try clear x1 x2 x3 x4 x5 x6); obtain ⟨x1, x2, x3, x4, x5, x6⟩ := X.out; have b1 := bl_trans b0 hb; clear hb)
      | (go_at_call 110; (with_reducible refine (D1.out A1 c1 _ b1 s1).mono ?_); rintro e w2 ⟨A2, c2, B2, d2, rfl, s2, _, h2, hb⟩; have X := hide (X.out.next hb); (try clear x1 x2 x3 x4 x5 x6); obtain ⟨x1, x2, x3, x4, x5, x6⟩ := X.out; have b2 := bl_trans b1 hb; have s1 := kp' hb s1; clear hb)
      | (go_at_call 110; (with_reducible refine (D2.out A1 c1 _ b2 s1).mono ?_); rintro e w3 ⟨A3, c3, B3, d3, rfl, s3, _, h3, hb⟩; have X := hide (X.out.next hb); (try clear x1 x2 x3 x4 x5 x6); obtain ⟨x1, x2, x3, x4, x5, x6⟩ := X.out; have b3 := bl_trans b2 hb; have s2 := kp' hb s2; clear hb)
      | (go_at_call 88; (with_reducible refine (T1.out A2 c2 _ s2 h2).mono ?_); rintro e w4 ⟨A4, c4, rfl, s4, hb⟩; have X := hide (X.out.next hb); (try clear x1 x2 x3 x4 x5 x6); obtain ⟨x1, x2, x3, x4, x5, x6⟩ := X.out; have b4 := bl_trans b3 hb; have s3 := kp' hb s3; clear hb)
      | (go_at_call 88; (with_reducible refine (T2.out A3 c3 _ s3 h3).mono ?_); rintro e w5 ⟨A5, c5, rfl, s5, hb⟩; have X := hide (X.out.next hb); (try clear x1 x2 x3 x4 x5 x6); obtain ⟨x1, x2, x3, x4, x5, x6⟩ := X.out; have b5 := bl_trans b4 hb; have s4 := kp' hb s4; clear hb))
    refine bodyPost_ret (v := .agg #[.bool false, .slice A4 i c4, .slice A5 j c5]) (by simp [results, Tryz.results86, go_sem, x1, x2, x3]) rfl (MK.out A4 A5 c4 c5 _ (s4.over3 X.out _ _ _) (s5.over3 X.out _ _ _) (Below.over3 b5 (Nat.le_refl _) _ _ _))
  | true =>
    have hz' : decide (0 < i) = z := by rw [← hz]; rfl
    have oz : binOp .gtr 3 (.int .i64 (i : Int)) (.int .i64 0) = pure (.bool z) := by
      show pure (Value.bool (decide ((i : Int) > 0))) = _
      rw [← hz']; congr 2; exact decide_eq_decide.2 (by omega)
    clear hz hz'
    go_enter Tryz.func86, Tryz.ntmps86
    go_wp2_with (first
      | (go_at_call 109; (with_reducible refine (G.out _ b0).mono ?_); rintro e w1 ⟨A1, c1, rfl, s1, hb⟩; have X := hide (X.out.next hb); (try clear x1 x2 x3 x4 x5 x6); obtain ⟨x1, x2, x3, x4, x5, x6⟩ := X.out; have b1 := bl_trans b0 hb; clear hb)
      | (go_at_call 110; (with_reducible refine (D1.out A1 c1 _ b1 s1).mono ?_); rintro e w2 ⟨A2, c2, B2, d2, rfl, s2, _, h2, hb⟩; have X := hide (X.out.next hb); (try clear x1 x2 x3 x4 x5 x6); obtain ⟨x1, x2, x3, x4, x5, x6⟩ := X.out; have b2 := bl_trans b1 hb; have s1 := kp' hb s1; clear hb)
      | (go_at_call 110; (with_reducible refine (D2.out A1 c1 _ b2 s1).mono ?_); rintro e w3 ⟨A3, c3, B3, d3, rfl, s3, _, h3, hb⟩; have X := hide (X.out.next hb); (try clear x1 x2 x3 x4 x5 x6); obtain ⟨x1, x2, x3, x4, x5, x6⟩ := X.out; have b3 := bl_trans b2 hb; have s2 := kp' hb s2; clear hb)
      | (go_at_call 88; (with_reducible refine (T1.out A2 c2 _ s2 h2).mono ?_); rintro e w4 ⟨A4, c4, rfl, s4, hb⟩; have X := hide (X.out.next hb); (try clear x1 x2 x3 x4 x5 x6); obtain ⟨x1, x2, x3, x4, x5, x6⟩ := X.out; have b4 := bl_trans b3 hb; have s3 := kp' hb s3; clear hb)
      | (go_at_call 88; (with_reducible refine (T2.out A3 c3 _ s3 h3).mono ?_); rintro e w5 ⟨A5, c5, rfl, s5, hb⟩; have X := hide (X.out.next hb); (try clear x1 x2 x3 x4 x5 x6); obtain ⟨x1, x2, x3, x4, x5, x6⟩ := X.out; have b5 := bl_trans b4 hb; have s4 := kp' hb s4; clear hb))
    refine bodyPost_ret (v := .agg #[.bool z, .slice A4 i c4, .slice A5 j c5]) (by simp [results, Tryz.results86, go_sem, x1, x2, x3]) rfl (MK.out A4 A5 c4 c5 _ (s4.over3 X.out _ _ _) (s5.over3 X.out _ _ _) (Below.over3 b5 (Nat.le_refl _) _ _ _))
theorem add_no (s t : Bool) (A B C D : Option Addr) (a b c d : Nat) (xs ys us vs : List Nat) (w : World) (sA : Sl w A xs) (sB : Sl w B ys) (sC : Sl w C us) (sD : Sl w D vs) (lx : Limbs xs) (ly : Limbs ys) (lu : Limbs us) (lv : Limbs vs) (m1 : xs.length ≤ 1000000) (m2 : ys.length ≤ 1000000) (m3 : us.length ≤ 1000000) (m4 : vs.length ≤ 1000000) (h : validQ s xs ys = false ∨ validQ t us vs = false) :
    Calls Tryz.prog 156 #[.agg #[.bool s, .slice A xs.length a, .slice B ys.length b], .agg #[.bool t, .slice C us.length c, .slice D vs.length d]] w (RNo 1 w) := by
  obtain ⟨r1, h1⟩ : ∃ r, validQ s xs ys = r := ⟨_, rfl⟩
  obtain ⟨r2, h2⟩ : ∃ r, validQ t us vs = r := ⟨_, rfl⟩
  rw [h1, h2] at h
  have V1 := hide (fun W (k : Below w.heap.size w W) => validQ_any s A B a b xs ys W (kp' k sA) (kp' k sB) lx ly m1 m2 r1 h1)
  have V2 := hide (fun W (k : Below w.heap.size w W) => validQ_any t C D c d us vs W (kp' k sC) (kp' k sD) lu lv m3 m4 r2 h2)
  clear sA sB sC sD lx ly lu lv m1 m2 m3 m4 h1 h2
  generalize xs.length = i1 at *
  generalize ys.length = i2 at *
  generalize us.length = i3 at *
  generalize vs.length = i4 at *
  have X1 := hide (((Q3.new (.bool s) (.slice A i1 a) (.slice B i2 b) w).al (.cells #[.bool t, .slice C i3 c, .slice D i4 d] 28)).al (.cells #[.bool false, .slice none 0 0, .slice none 0 0] 28))
  have X2 := hide ((Q3.new1 (.bool t) (.slice C i3 c) (.slice D i4 d) w (.cells #[.bool s, .slice A i1 a, .slice B i2 b] 28)).al (.cells #[.bool false, .slice none 0 0, .slice none 0 0] 28))
  have X3 := hide (Q3.new2 (.bool false) (.slice none 0 0) (.slice none 0 0) w (.cells #[.bool s, .slice A i1 a, .slice B i2 b] 28) (.cells #[.bool t, .slice C i3 c, .slice D i4 d] 28))
  have b0 : Below w.heap.size w (((w.alloc (.cells #[.bool s, .slice A i1 a, .slice B i2 b] 28)).alloc (.cells #[.bool t, .slice C i3 c, .slice D i4 d] 28)).alloc (.cells #[.bool false, .slice none 0 0, .slice none 0 0] 28)) := bl_al (bl_al (bl_al (.refl _ _) _) _) _
  cases r1 with
  | false =>
    go_enter Tryz.func156, Tryz.ntmps156
    go_wp2_with (first
      | (go_at_call 75; (with_reducible refine (V1.out _ b0).mono ?_); rintro e w1 ⟨rfl, hb⟩; have X1 := hide (X1.out.next hb); have X2 := hide (X2.out.next hb); have X3 := hide (X3.out.next hb); (try clear x1 x2 x3 x4 x5 x6 y1 y2 y3 y4 y5 y6 z1 z2 z3 z4 z5 z6); obtain ⟨x1, x2, x3, x4, x5, x6⟩ := X1.out; obtain ⟨y1, y2, y3, y4, y5, y6⟩ := X2.out; obtain ⟨z1, z2, z3, z4, z5, z6⟩ := X3.out; have b1 := bl_trans b0 hb; clear hb))
    exact bodyPost_ret (v := .tuple #[.agg #[.bool false, .slice none 0 0, .slice none 0 0], .int .i64 1]) (by simp [results, Tryz.results156, go_sem, z1, z2, z3]) rfl ⟨rfl, Below.over3 b1 (by omega) _ _ _⟩
  | true =>
    obtain rfl : r2 = false := by rcases h with h | h; exact absurd h (by decide); exact h
    go_enter Tryz.func156, Tryz.ntmps156
    go_wp2_with (first
      | (go_at_call 75; (with_reducible refine (V1.out _ b0).mono ?_); rintro e w1 ⟨rfl, hb⟩; have X1 := hide (X1.out.next hb); have X2 := hide (X2.out.next hb); have X3 := hide (X3.out.next hb); (try clear x1 x2 x3 x4 x5 x6 y1 y2 y3 y4 y5 y6 z1 z2 z3 z4 z5 z6); obtain ⟨x1, x2, x3, x4, x5, x6⟩ := X1.out; obtain ⟨y1, y2, y3, y4, y5, y6⟩ := X2.out; obtain ⟨z1, z2, z3, z4, z5, z6⟩ := X3.out; have b1 := bl_trans b0 hb; clear hb)
      | (go_at_call 75; (with_reducible refine (V2.out _ b1).mono ?_); rintro e w2 ⟨rfl, hb⟩; have X1 := hide (X1.out.next hb); have X2 := hide (X2.out.next hb); have X3 := hide (X3.out.next hb); (try clear x1 x2 x3 x4 x5 x6 y1 y2 y3 y4 y5 y6 z1 z2 z3 z4 z5 z6); obtain ⟨x1, x2, x3, x4, x5, x6⟩ := X1.out; obtain ⟨y1, y2, y3, y4, y5, y6⟩ := X2.out; obtain ⟨z1, z2, z3, z4, z5, z6⟩ := X3.out; have b2 := bl_trans b1 hb; clear hb))
    exact bodyPost_ret (v := .tuple #[.agg #[.bool false, .slice none 0 0, .slice none 0 0], .int .i64 1]) (by simp [results, Tryz.results156, go_sem, z1, z2, z3]) rfl ⟨rfl, Below.over3 b2 (by omega) _ _ _⟩
theorem rnew_q (x y : Int) (A B : Option Addr) (c d : Nat) (q : Rat) (w : World) (sx : Sl w A (digs x.natAbs)) (sy : Sl w B (digs y.natAbs)) (hx : ln x.natAbs ≤ 64) (hy : ln y.natAbs ≤ 64) (h0 : y ≠ 0) (hq : qmk (isg x != isg y) x.natAbs y.natAbs = q) :
    Calls Tryz.prog 60 #[.agg #[.bool (isg x), .slice A (ln x.natAbs) c], .agg #[.bool (isg y), .slice B (ln y.natAbs) d]] w (RQE w q) := by
  have yp : 0 < y.natAbs := Int.natAbs_pos.2 h0
  have V1 := hide (fun W (k : Below w.heap.size w W) => rvalidI_any (isg x) A c (digs x.natAbs) W (kp' k sx) (Nat.le_trans hx (by decide)))
  have V2 := hide (fun W (k : Below w.heap.size w W) => rvalidI_any (isg y) B d (digs y.natAbs) W (kp' k sy) (Nat.le_trans hy (by decide)))
  rw [show validI (isg x) (digs x.natAbs) = true from validI_num (lt_of_ln hx)] at V1
  rw [show validI (isg y) (digs y.natAbs) = true from validI_num (lt_of_ln hy)] at V2
  obtain ⟨n, hn⟩ : ∃ n, ln x.natAbs = n := ⟨_, rfl⟩
  obtain ⟨m, hm⟩ : ∃ n, ln y.natAbs = n := ⟨_, rfl⟩
  have V1 : Hid (∀ W, Below w.heap.size w W → Calls Tryz.prog 85 #[.agg #[.bool (isg x), .slice A n c]] W fun e w' => e = .returned (.bool true) ∧ Below W.heap.size W w') := by rw [← hn]; exact V1
  have V2 : Hid (∀ W, Below w.heap.size w W → Calls Tryz.prog 85 #[.agg #[.bool (isg y), .slice B m d]] W fun e w' => e = .returned (.bool true) ∧ Below W.heap.size W w') := by rw [← hm]; exact V2
  obtain ⟨s2, hs2⟩ : ∃ z, (isg x != isg y) = z := ⟨_, rfl⟩
  rw [hs2] at hq
  have MD := hide (fun W (k : Below w.heap.size w W) => rmade_q s2 A B c d x.natAbs y.natAbs q W (kp' k sx) (kp' k sy) (Nat.le_trans hx (by decide)) (Nat.le_trans hy (by decide)) yp hq)
  rw [hn, hm] at MD
  rw [hn, hm]
  have hj : ((m : Int) == 0) = false := beq_eq_false_iff_ne.2 (by rw [← hm]; have := ln_pos.2 yp; omega)
  have on : ∀ W : World, (binOp .neq 4 (.bool (isg x)) (.bool (isg y))).run Tryz.prog W = .ok (.bool s2) W := fun W => by
    rw [← hs2]
    cases isg x <;> cases isg y <;> kernel_rfl
  clear sx sy hx hy h0 hq yp hs2 hn hm
  generalize isg x = s at *
  generalize isg y = t at *
  have X1 := hide (((Q2.new (.bool s) (.slice A n c) w).al (.cells #[.bool t, .slice B m d] 125)).al (.cells #[.bool false, .slice none 0 0, .slice none 0 0] 28))
  have X2 := hide ((Q2.new1 (.bool t) (.slice B m d) w (.cells #[.bool s, .slice A n c] 125)).al (.cells #[.bool false, .slice none 0 0, .slice none 0 0] 28))
  have X3 := hide (Q3.new2 (.bool false) (.slice none 0 0) (.slice none 0 0) w (.cells #[.bool s, .slice A n c] 125) (.cells #[.bool t, .slice B m d] 125))
  have b0 : Below w.heap.size w (((w.alloc (.cells #[.bool s, .slice A n c] 125)).alloc (.cells #[.bool t, .slice B m d] 125)).alloc (.cells #[.bool false, .slice none 0 0, .slice none 0 0] 28)) := bl_al (bl_al (bl_al (.refl _ _) _) _) _
  go_enter Tryz.func60, Tryz.ntmps60
  go_wp2_with (first
    | (go_at_call 85; (with_reducible refine (V1.out _ b0).mono ?_); rintro e w1 ⟨rfl, hb⟩; have X1 := hide (X1.out.next hb); have X2 := hide (X2.out.next hb); have X3 := hide (X3.out.next hb); (try clear x1 x2 x3 x4 y1 y2 y3 y4 u1 u2 u3 u4 u5 u6); obtain ⟨x1, x2, x3, x4⟩ := X1.out; obtain ⟨y1, y2, y3, y4⟩ := X2.out; obtain ⟨u1, u2, u3, u4, u5, u6⟩ := X3.out; have b1 := bl_trans b0 hb; clear hb)
    | (go_at_call 85; (with_reducible refine (V2.out _ b1).mono ?_); rintro e w2 ⟨rfl, hb⟩; have X1 := hide (X1.out.next hb); have X2 := hide (X2.out.next hb); have X3 := hide (X3.out.next hb); (try clear x1 x2 x3 x4 y1 y2 y3 y4 u1 u2 u3 u4 u5 u6); obtain ⟨x1, x2, x3, x4⟩ := X1.out; obtain ⟨y1, y2, y3, y4⟩ := X2.out; obtain ⟨u1, u2, u3, u4, u5, u6⟩ := X3.out; have b2 := bl_trans b1 hb; clear hb)
    | (go_at_call 86; (with_reducible refine (MD.out _ b2).mono ?_); rintro e w3 ⟨A3, c3, B3, d3, rfl, s3, t3, hb⟩; have X1 := hide (X1.out.next hb); have X2 := hide (X2.out.next hb); have X3 := hide (X3.out.next hb); (try clear x1 x2 x3 x4 y1 y2 y3 y4 u1 u2 u3 u4 u5 u6); obtain ⟨x1, x2, x3, x4⟩ := X1.out; obtain ⟨y1, y2, y3, y4⟩ := X2.out; obtain ⟨u1, u2, u3, u4, u5, u6⟩ := X3.out; have b3 := bl_trans b2 hb; clear hb))
  exact bodyPost_ret (v := .tuple #[.agg #[.bool (qs q), .slice A3 (ln (qn q)) c3, .slice B3 (ln (qd q)) d3], .int .i64 0]) (by simp [results, Tryz.results60, go_sem, u1, u2, u3]) rfl (RQE.mk rfl rfl rfl (s3.over3 X3.out _ _ _) (t3.over3 X3.out _ _ _) (Below.over3 b3 (by omega) _ _ _))
theorem q3_frozen3 {g h k : Nat} {w : World} (f : w.frozen? ⟨h, k, none⟩ = false) (a b c : Value) : (((w.setCell ⟨g, 0, none⟩ a).setCell ⟨g, 1, none⟩ b).setCell ⟨g, 2, none⟩ c).frozen? ⟨h, k, none⟩ = false := by
  rw [World.frozen?_setCell, World.frozen?_setCell, World.frozen?_setCell]; exact f
theorem q3_put {g : Nat} {u v x : Value} {w : World} (k : Q3 g u v x w) (a b c : Value) : Q3 g a b c (((w.setCell ⟨g, 0, none⟩ a).setCell ⟨g, 1, none⟩ b).setCell ⟨g, 2, none⟩ c) := by
  have ne : ∀ {i j : Nat}, i ≠ j → (⟨g, i, none⟩ : Addr) ≠ ⟨g, j, none⟩ := by
    intro i j hh e
    injection e with _ e2 _
    exact hh e2
  refine ⟨?_, ?_, ?_, q3_frozen3 k.2.2.2.1 a b c, q3_frozen3 k.2.2.2.2.1 a b c, q3_frozen3 k.2.2.2.2.2 a b c⟩
  · rw [World.cell?_setCell_other _ _ _ _ (ne (by decide)), World.cell?_setCell_other _ _ _ _ (ne (by decide))]
    exact World.cell?_setCell_same _ _ _ k.1
  · rw [World.cell?_setCell_other _ _ _ _ (ne (by decide))]
    exact World.cell?_setCell_same _ _ _ (by rw [World.cell?_setCell_other _ _ _ _ (ne (by decide))]; exact k.2.1)
  · exact World.cell?_setCell_same _ _ _ (by rw [World.cell?_setCell_other _ _ _ _ (ne (by decide)), World.cell?_setCell_other _ _ _ _ (ne (by decide))]; exact k.2.2.1)
theorem k3' {c1 c2 c3 k : Prop} (h : c1 ∧ c2 ∧ c3 ∧ k) : k := h.2.2.2
end
end Nt
end Go.Proofs.YthabfakbdfaciaaGreat
