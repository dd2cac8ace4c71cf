
/-
  The reference's shift, up.
  The reference's OfNat, BitsNat.
  The reference's divmod, by binary digits.
  The reference's gcd, DivNat, GcdNat.
  The reference's whole numbers: addInt, fitsInt, AddInt, SubInt, MulInt, NegInt, ValueInt.
  The reference's fractions: Valid, made.
  The reference's fractions: cmpRat, Cmp.
  The reference's fractions: fitsRat, Mul, Quo.
  What the calls say of what is no fraction, ours and the reference's.
  The reference's fractions: New, Of of 0, Sign.
-/
import Derived.Test.YtgimmmmpollkhaaGreatNRefTrim
import Derived.Test.YtgimmmmpollkhaaGreatNMathS
import Derived.Test.YtgimmmmpollkhaaGreatNBl
import Derived.Test.YtgimmmmpollkhaaGreatNMathB
import Derived.Test.YtgimmmmpollkhaaGreatNRefAdd
import Derived.Test.YtgimmmmpollkhaaGreatNCmp
import Derived.Test.YtgimmmmpollkhaaGreatNRatS
import Derived.Test.YtgimmmmpollkhaaGreatNGcdZ
import Derived.Test.YtgimmmmpollkhaaGreatNDivide
import Derived.Test.YtgimmmmpollkhaaGreatNRefMul
import Derived.Deep.RegionHeld3
namespace Go.Proofs.YtgimmmmpollkhaaGreat

open Go.RowKit

namespace Nt

def RsInv (xs : List Nat) (l r k cc : Nat) (cs : List Nat) : Prop :=
  cs.length = l + k ∧ Limbs cs ∧ cc < 2 ^ r ∧ val cs + LB ^ (l + k) * cc = LB ^ l * (2 ^ r * val (xs.take k))
theorem RsInv.zero (xs : List Nat) (l r : Nat) : RsInv xs l r 0 0 (List.replicate l 0) :=
  ⟨by simp, .replicate _, Nat.two_pow_pos r, by rw [val_replicate]; simp⟩
theorem RsInv.or {xs cs : List Nat} {l r s k cc : Nat} (h : RsInv xs l r k cc cs) (hrs : r + s = 64) (x : Nat) : orW (shlW x r) cc = cc + shlW x r ∧ cc + shlW x r < LB := by
  have h1 := h.2.2.1
  constructor
  · have := or_low (a := cc) (r := r) (x % 2 ^ s) h1
    rw [shl_form hrs]
    rw [← this]
    unfold orW
    exact Nat.or_comm _ _
  · rw [shl_form hrs, LB_split hrs]
    have : x % 2 ^ s + 1 ≤ 2 ^ s := Nat.mod_lt _ (Nat.two_pow_pos s)
    have := Nat.mul_le_mul_left (2 ^ r) this
    rw [Nat.mul_add, Nat.mul_one, Nat.mul_comm (2 ^ r) (2 ^ s)] at this
    omega
theorem RsInv.step {xs cs : List Nat} {l r s k cc : Nat} (lx : Limbs xs) (hrs : r + s = 64) (h : RsInv xs l r k cc cs) :
    RsInv xs l r (k + 1) (shrW (lim xs k) s) (cs ++ [cc + shlW (lim xs k) r]) := by
  obtain ⟨_, hv⟩ := h.or hrs (lim xs k)
  obtain ⟨h1, h2, h3, h4⟩ := h
  refine ⟨by simp [h1]; omega, h2.append (.one hv), shr_lt hrs (lx.get k), ?_⟩
  have e := shl_split (x := lim xs k) hrs
  have e1 : LB ^ (l + k) * (shlW (lim xs k) r + LB * shrW (lim xs k) s) = LB ^ (l + k) * (lim xs k * 2 ^ r) := by rw [e]
  rw [Nat.mul_add, ← Nat.mul_assoc] at e1
  have e2 : LB ^ (l + k) * (lim xs k * 2 ^ r) = LB ^ l * (2 ^ r * (LB ^ k * lim xs k)) := by
    rw [Nat.pow_add, Nat.mul_assoc]
    congr 1
    rw [Nat.mul_comm (lim xs k), Nat.mul_left_comm]
  rw [val_append, val_one, val_take_succ, h1, Nat.mul_add, Nat.mul_add, Nat.mul_add, show l + (k + 1) = l + k + 1 by omega, Nat.pow_succ]
  omega
theorem RsInv.done {xs cs : List Nat} {l r n cc : Nat} (hr : r < 64) (hn : n = 64 * l + r) (h : RsInv xs l r xs.length cc cs) : digs (val xs * 2 ^ n) = trimz (cs ++ [cc]) := by
  obtain ⟨h1, h2, h3, h4⟩ := h
  have hc : cc < LB := Nat.lt_of_lt_of_le h3 (by rw [show LB = 2 ^ 64 from rfl]; exact Nat.pow_le_pow_right (by decide) (by omega))
  rw [← digs_val (h2.append (.one hc)), val_append, val_one, h1, h4, List.take_length]
  congr 1
  rw [hn, Nat.pow_add, ← LB_two_pow, Nat.mul_left_comm, Nat.mul_comm (2 ^ r)]

set_option maxRecDepth 100000 in
set_option maxHeartbeats 2000000 in
theorem rshift_up (A : Option Addr) (c n : Nat) (xs : List Nat) (w : World) (hx : Sl w A xs) (lx : Limbs xs) (hl : xs.length ≤ 10000) (hn : n ≤ 100000) :
    Calls Tryz.prog 141 #[.slice A xs.length c, .int .i64 (n : Int)] w (Mk w (digs (val xs * 2 ^ n))) := by
  obtain ⟨l, hL⟩ : ∃ l, l = n / 64 := ⟨_, rfl⟩
  obtain ⟨r, hR⟩ : ∃ r, r = n % 64 := ⟨_, rfl⟩
  obtain ⟨s, hs⟩ : ∃ s, r + s = 64 := ⟨64 - r, by omega⟩
  have q1 : binOp .quo 3 (.int .i64 (n : Int)) (.int .i64 64) = pure (.int .i64 (l : Int)) := by
    rw [hL]; exact i64_quo _ n 64 (by omega) (by omega)
  have q2 : binOp .rem 3 (.int .i64 (n : Int)) (.int .i64 64) = pure (.int .i64 (r : Int)) := by
    rw [hR]; exact i64_rem _ n 64 (by omega)
  have hmk : ∀ W : World, (Instr.makeSlice 23 (.int .i64 (l : Int)) (.int .i64 (l : Int))).run Tryz.prog W = .ok (.slice (some ⟨W.heap.size, 0, none⟩) l l) (W.alloc (.cells (madeCells #[.int .u64 0] l) 119)) :=
    fun W => run_make_u64 .i64 .i64 l l (by omega) (by omega) W
  have wr0 : IntKind.u64.wrap (r : Int) = (r : Int) := by rw [IntKind.wrap_u64]; omega
  have r64 : r ≤ 63 := by omega
  have lb : l ≤ 10000 := by omega
  have HS := hide hs
  have HN := hide (show n = 64 * l + r by omega)
  clear hL hR hs
  go_enter Tryz.func141, Tryz.ntmps141
  go_wp2
  have M := hide ((Own.made (n := l) w (Nat.le_refl w.heap.size) (Nat.le_refl l) (by unfold maxLen; omega)).row (List.length_replicate ..))
  clear hmk
  go_loopw [9, 11, 12] (fun o cy i wr => ∃ (k cc e : Nat) (C : Option Addr) (cs : List Nat), k ≤ xs.length ∧ i = .int .i64 (k : Nat) ∧ cy = .int .u64 (cc : Nat) ∧ o = .slice C (l + k) e ∧ RsInv xs l r k cc cs ∧ Row wr w.heap.size C (l + k) e cs ∧ Below w.heap.size w wr) (fun _ _ i _ => xs.length - (intOf i).toNat)
  case atStart => exact ⟨0, 0, l, some ⟨w.heap.size, 0, none⟩, _, Nat.zero_le _, rfl, rfl, rfl, RsInv.zero _ _ _, M.out, (Below.refl _ _).alloc (Nat.le_refl _) _⟩
  case round =>
    obtain ⟨k, cc, e, C, cs, hk, rfl, rfl, rfl, ri, ho, hb⟩ := hrel
    by_cases hlt : k < xs.length
    · obtain ⟨b, o, rfl, ha0⟩ := hx.at_ (by omega)
      have hcx := (ha0.below hb ha0.lt).cell (j := k) (by omega)
      obtain ⟨or1, or2⟩ := ri.or HS.out (lim xs k)
      have o1 := op_shl 119 .u64 (lim xs k) r (by omega)
      have o2 := op_or 119 (shlW (lim xs k) r) cc (shlW_lt _ _) (by omega)
      rw [or1] at o2
      obtain ⟨vv, hvv⟩ : ∃ v, v = cc + shlW (lim xs k) r := ⟨_, rfl⟩
      have I0 := ri.step lx HS.out
      rw [← hvv] at o2 I0
      have I := hide I0
      clear I0 hvv
      have O := hide ho
      have BB := hide hb
      by_cases r0 : r = 0
      · have e0 : shrW (lim xs k) s = 0 := by
          have : s = 64 := by have := HS.out; omega
          unfold shrW
          rw [this]
          exact Nat.div_eq_of_lt (lx.get k)
        rw [e0] at I
        have og : binOp .gtr 143 (.int .u64 (r : Int)) (.int .u64 0) = pure (.bool false) := by
          show pure (Value.bool (decide ((0 : Int) < (r : Int)))) = _
          rw [decide_eq_false (by omega)]
        clear ri ho hb ha0 or1 or2 e0 r0
        generalize shlW (lim xs k) r = sh at *
        generalize lim xs k = x at *
        go_wp2_with (at_builtin; refine app_one _ rfl (.tmp 85) (.tmp 94) rfl w.heap.size (l + k) e vv C cs rfl (O.out.alloc _) ⟨wr.heap.size, 0, none⟩ 1 rfl (by rw [World.cell?_alloc_at _ _ _ _ rfl]; rfl) (by omega) (by simp; have := BB.out.size; omega) ?_; intro g1 c1 w1 hr1 hg1)
        go_roundw
        case rel => exact ⟨k + 1, 0, c1, some ⟨g1, 0, none⟩, _, by omega, by go_num, rfl, rfl, I.out, hr1, (BB.out.alloc BB.out.size _).grown hg1 (by simp; have := BB.out.size; omega) O.out.ownBlock⟩
        case measure => simp [intOf]; omega
      · have og : binOp .gtr 143 (.int .u64 (r : Int)) (.int .u64 0) = pure (.bool true) := by
          show pure (Value.bool (decide ((0 : Int) < (r : Int)))) = _
          rw [decide_eq_true (by omega)]
        have o3 : binOp .sub 143 (.int .u64 64) (.int .u64 (r : Int)) = pure (.int .u64 (s : Int)) := op_sub_le _ 64 r s (by have := HS.out; omega) (by rw [LB_eq]; omega)
        have o4 := op_shr 119 .u64 (lim xs k) s (by have := HS.out; omega)
        have HC := hide (fun W (h : Below w.heap.size w W) => (ha0.below h ha0.lt).cell (j := k) (by omega))
        clear ri ho hb ha0 or1 or2 r0
        generalize shlW (lim xs k) r = sh at *
        generalize shrW (lim xs k) s = sr at *
        generalize lim xs k = x at *
        go_wp2_with (at_builtin; refine app_one _ rfl (.tmp 85) (.tmp 94) rfl w.heap.size (l + k) e vv C cs rfl (O.out.alloc _) ⟨wr.heap.size, 0, none⟩ 1 rfl (by rw [World.cell?_alloc_at _ _ _ _ rfl]; rfl) (by omega) (by simp; have := BB.out.size; omega) ?_; intro g1 c1 w1 hr1 hg1; have bb1 := (BB.out.alloc BB.out.size (.cells #[.int .u64 (vv : Int)] 119)).grown hg1 (by simp; have := BB.out.size; omega) O.out.ownBlock; have hcx1 := HC.out _ bb1)
        go_roundw
        case rel => exact ⟨k + 1, sr, c1, some ⟨g1, 0, none⟩, _, by omega, by go_num, rfl, rfl, I.out, hr1, bb1⟩
        case measure => simp [intOf]; omega
    · obtain rfl : k = xs.length := by omega
      have D := hide (ri.done (by omega) HN.out)
      have O := hide ho
      have BB := hide hb
      have hcl := ho.len
      clear ri ho hb
      have T := hide (fun (C' : Option Addr) (c' : Nat) W (h : Row W w.heap.size C' (l + xs.length + 1) c' (cs ++ [cc])) => (show Calls Tryz.prog 93 #[.slice C' (l + xs.length + 1) c'] W (Mk W (trimz (cs ++ [cc]))) from by
        have := rtrim_any C' c' (cs ++ [cc]) W h.sl (by rw [h.len]; exact h.le) (by rw [h.len]; omega)
        rwa [h.len] at this))
      go_wp2_with (first
        | (at_builtin; refine app_one _ rfl (.tmp 105) (.tmp 107) rfl w.heap.size (l + xs.length) e cc C cs rfl (O.out.alloc _) ⟨wr.heap.size, 0, none⟩ 1 rfl (by rw [World.cell?_alloc_at _ _ _ _ rfl]; rfl) (by omega) (by simp; have := BB.out.size; omega) ?_; intro g1 c1 w1 hr1 hg1)
        | (go_at_call 93; (with_reducible refine (T.out _ _ _ hr1).mono ?_); rintro ee w2 ⟨A2, c2, rfl, hr2, hb2⟩))
      go_ret
      rw [D.out]
      have bb1 := (BB.out.alloc BB.out.size (.cells #[.int .u64 (cc : Int)] 119)).grown hg1 (by simp; have := BB.out.size; omega) O.out.ownBlock
      exact Mk.trans bb1 ⟨A2, c2, rfl, hr2, hb2⟩
end Nt

end Go.Proofs.YtgimmmmpollkhaaGreat

namespace Go.Proofs.YtgimmmmpollkhaaGreat

open Go.RowKit

namespace Nt
set_option maxRecDepth 100000 in
set_option maxHeartbeats 400000 in
theorem rbits_any (A : Option Addr) (n c : Nat) (xs : List Nat) (w : World) (hn : xs.length = n) (hs : Sl w A xs) (lx : Limbs xs) (hl : n ≤ 1000000) :
    Calls Tryz.prog 140 #[.slice A n c] w fun e w' => e = .returned (.int .i64 ((rbitsSp xs : Nat) : Int)) ∧ w = w' := by
  by_cases h0 : n = 0
  · have E : Hid (rbitsSp xs = 0) := by
      subst h0
      have : xs = [] := List.eq_nil_of_length_eq_zero hn
      subst this; rfl
    rw [E.out]
    clear hs E hn
    subst h0
    go_enter Tryz.func140, Tryz.ntmps140
    go_wp2
    go_ret
    exact ⟨rfl, rfl⟩
  · subst hn
    have hne : xs ≠ [] := by rintro rfl; simp at h0
    obtain ⟨b, o, rfl, ha⟩ := hs.at_ (by omega)
    have hc := ha.cell (j := xs.length - 1) (by omega)
    have hL := lx.get (xs.length - 1)
    have E : Hid (rbitsSp xs = 64 * (xs.length - 1) + lenW (lim xs (xs.length - 1))) := by
      unfold rbitsSp
      exact if_neg hne
    rw [E.out]
    have hw := lenW_le _ hL
    have Z := hide (fun W => len64 _ hL W)
    clear E ha hs hL
    generalize lenW (lim xs (xs.length - 1)) = l at *
    generalize lim xs (xs.length - 1) = x at *
    clear lx hne
    generalize xs.length = n at *
    have h5 : ((n : Int) == 0) = false := by simp; omega
    have F := hide (show ((64 * (n - 1) + l : Nat) : Int) = 64 * ((n : Int) - 1) + (l : Int) by omega)
    go_enter Tryz.func140, Tryz.ntmps140
    go_wp2_with (go_at_call 156; (with_reducible refine (Z.out _).mono ?_); rintro e w' ⟨rfl, rfl⟩)
    go_ret
    exact ⟨ret_one F.out.symm, rfl⟩

end Nt

end Go.Proofs.YtgimmmmpollkhaaGreat

namespace Go.Proofs.YtgimmmmpollkhaaGreat

open Go.RowKit

namespace Nt

theorem lim_val {xs : List Nat} (l : Limbs xs) (i : Nat) : lim xs i = val xs / LB ^ i % LB := by
  rcases Nat.lt_or_ge i xs.length with h | h
  · have h1 := val_split h
    have h2 := val_lt (l.take i)
    rw [List.length_take, Nat.min_eq_left (by omega)] at h2
    rw [h1, Nat.add_mul_div_left _ _ (LB_pow_pos i), Nat.div_eq_of_lt h2, Nat.zero_add, Nat.add_mul_mod_self_left, Nat.mod_eq_of_lt (l.get i)]
  · have h1 := val_lt l
    have h2 : LB ^ xs.length ≤ LB ^ i := Nat.pow_le_pow_right LB_pos h
    rw [lim_none h, Nat.div_eq_of_lt (by omega), Nat.zero_mod]
theorem or_bit {L p : Nat} (h : L % 2 ^ (p + 1) = 0) : orW L (2 ^ p) = L + 2 ^ p := by
  have e : L = 2 ^ (p + 1) * (L / 2 ^ (p + 1)) := by
    have := Nat.div_add_mod L (2 ^ (p + 1))
    omega
  have h1 : 2 ^ p < 2 ^ (p + 1) := by rw [Nat.pow_succ]; have := Nat.two_pow_pos p; omega
  have := or_low (L / 2 ^ (p + 1)) h1
  rw [← e] at this
  rw [Nat.add_comm, ← this]
  unfold orW
  exact Nat.or_comm _ _

structure DvI (X Y j N R : Nat) (qs : List Nat) : Prop where
  len : qs.length = N
  limbs : Limbs qs
  eq : X = val qs * Y + R
  lt : R < Y * 2 ^ j
  low : val qs % 2 ^ j = 0
theorem DvI.start {X Y N j : Nat} (h : X < Y * 2 ^ j) : DvI X Y j N X (List.replicate N 0) :=
  ⟨by simp, .replicate _, by rw [val_replicate]; omega, h, by rw [val_replicate]; simp⟩
theorem DvI.bit {X Y k N R : Nat} {qs : List Nat} (h : DvI X Y (k + 1) N R qs) : lim qs (k / 64) % 2 ^ (k % 64 + 1) = 0 := by
  have e : k + 1 = 64 * (k / 64) + (k % 64 + 1) := by omega
  have h1 := h.low
  have h2 := Nat.div_add_mod (val qs) (2 ^ (k + 1))
  rw [h1, Nat.add_zero] at h2
  rw [lim_val h.limbs, ← h2, LB_two_pow, e, Nat.pow_add, Nat.mul_assoc, Nat.mul_div_cancel_left _ (Nat.two_pow_pos _)]
  have hd : 2 ^ (k % 64 + 1) ∣ LB := by
    rw [show LB = 2 ^ 64 from rfl]
    exact Nat.pow_dvd_pow 2 (by omega)
  rw [Nat.mod_mod_of_dvd _ hd, Nat.mul_mod_right]
theorem DvI.take {X Y k N R : Nat} {qs : List Nat} (h : DvI X Y (k + 1) N R qs) (hk : k / 64 < N) (hR : Y * 2 ^ k ≤ R) :
    DvI X Y k N (R - Y * 2 ^ k) (qs.set (k / 64) (lim qs (k / 64) + 2 ^ (k % 64))) := by
  have hb := h.bit
  have ho := or_bit hb
  have hlt : lim qs (k / 64) + 2 ^ (k % 64) < LB := by
    rw [← ho]
    unfold orW
    refine Nat.or_lt_two_pow (n := 64) (h.limbs.get _) ?_
    exact Nat.pow_lt_pow_right (by decide) (by omega)
  have hv := val_set (xs := qs) (j := k / 64) (lim qs (k / 64) + 2 ^ (k % 64)) (by rw [h.len]; exact hk)
  have e : LB ^ (k / 64) * 2 ^ (k % 64) = 2 ^ k := by
    rw [LB_two_pow, ← Nat.pow_add]
    congr 1
    omega
  rw [Nat.mul_add, e] at hv
  have hv' : val (qs.set (k / 64) (lim qs (k / 64) + 2 ^ (k % 64))) = val qs + 2 ^ k := by omega
  have hl := h.lt
  rw [Nat.pow_succ, ← Nat.mul_assoc] at hl
  refine ⟨by simpa using h.len, h.limbs.set _ _ hlt, ?_, by omega, ?_⟩
  · have := h.eq
    rw [hv', Nat.add_mul, Nat.mul_comm (2 ^ k) Y]
    omega
  · have h1 := h.low
    rw [hv']
    have h2 := Nat.div_add_mod (val qs) (2 ^ (k + 1))
    rw [h1, Nat.add_zero, Nat.pow_succ, Nat.mul_assoc] at h2
    rw [← h2, Nat.add_mod_right, Nat.mul_mod_right]
theorem DvI.skip {X Y k N R : Nat} {qs : List Nat} (h : DvI X Y (k + 1) N R qs) (hR : R < Y * 2 ^ k) : DvI X Y k N R qs := by
  refine ⟨h.len, h.limbs, h.eq, hR, ?_⟩
  have h1 := h.low
  have h2 := Nat.div_add_mod (val qs) (2 ^ (k + 1))
  rw [h1, Nat.add_zero, Nat.pow_succ, Nat.mul_assoc] at h2
  rw [← h2, Nat.mul_mod_right]
theorem DvI.done {X Y N R : Nat} {qs : List Nat} (h : DvI X Y 0 N R qs) : X / Y = val qs ∧ X % Y = R := by
  have h1 := h.lt
  rw [Nat.pow_zero, Nat.mul_one] at h1
  have h2 := h.eq
  have hp : 0 < Y := by omega
  constructor
  · rw [h2, Nat.mul_comm, Nat.mul_add_div hp, Nat.div_eq_of_lt h1, Nat.add_zero]
  · rw [h2, Nat.mul_comm, Nat.mul_add_mod, Nat.mod_eq_of_lt h1]
theorem dv_start {X Y : Nat} (hy : 0 < Y) (h : Y ≤ X) : blen Y ≤ blen X ∧ X < Y * 2 ^ (blen X - blen Y + 1) := by
  have h1 := blen_mono h
  have h2 := blen_hi X
  obtain ⟨h3, h4⟩ := blen_lo (n := Y) (by omega)
  refine ⟨h1, Nat.lt_of_lt_of_le h2 ?_⟩
  refine Nat.le_trans ?_ (Nat.mul_le_mul_right _ h4)
  rw [← Nat.pow_add]
  exact Nat.pow_le_pow_right (by decide) (by omega)

theorem Row.set_far {w : World} {base n c : Nat} {A : Option Addr} {xs : List Nat} (h : Row w base A n c xs) {g j : Nat} (hg : g < base) (u : Value) : Row (w.setCell ⟨g, j, none⟩ u) base A n c xs :=
  h.keep fun a ha => Below.heap_setCell w ⟨g, j, none⟩ u a.block (by have := (h.lt a ha).1; intro e; simp at e; omega)
theorem kb {w w' : World} {A : Option Addr} {xs : List Nat} (b : Below w.heap.size w w') (h : Sl w A xs) : Sl w' A xs := bl_keeps b _ _ h
def RTwo (w : World) (q r : Nat) (e : Ending) (w' : World) : Prop := ∃ A c B d, e = .returned (.tuple #[.slice A (digs q).length c, .slice B (digs r).length d]) ∧ Sl w' A (digs q) ∧ Sl w' B (digs r) ∧ Below w.heap.size w w'
theorem RTwo.mk {w w' : World} {q r n m c d : Nat} {A B : Option Addr} (hn : (digs q).length = n) (hm : (digs r).length = m) (hq : Sl w' A (digs q)) (hr : Sl w' B (digs r)) (hb : Below w.heap.size w w') : RTwo w q r (.returned (.tuple #[.slice A n c, .slice B m d])) w' := by
  subst hn hm; exact ⟨A, c, B, d, rfl, hq, hr, hb⟩
def RTwoC (w : World) (q r : Nat) (e : Ending) (w' : World) : Prop := ∃ A c B d, e = .returned (.tuple #[.slice A (digs q).length c, .slice B (digs r).length d]) ∧ Sl w' A (digs q) ∧ Sl w' B (digs r) ∧ (digs q).length ≤ c ∧ Below w.heap.size w w'
theorem RTwoC.mk {w w' : World} {q r n m c d : Nat} {A B : Option Addr} (hn : (digs q).length = n) (hm : (digs r).length = m) (hc : n ≤ c) (hq : Sl w' A (digs q)) (hr : Sl w' B (digs r)) (hb : Below w.heap.size w w') : RTwoC w q r (.returned (.tuple #[.slice A n c, .slice B m d])) w' := by
  subst hn hm; exact ⟨A, c, B, d, rfl, hq, hr, hc, hb⟩
theorem RTwoC.two {w w' : World} {q r : Nat} {e : Ending} (h : RTwoC w q r e w') : RTwo w q r e w' := by
  obtain ⟨A, c, B, d, he, h1, h2, _, h4⟩ := h
  exact ⟨A, c, B, d, he, h1, h2, h4⟩

set_option maxRecDepth 100000 in
set_option maxHeartbeats 4000000 in
theorem rdivmod_cap (A B : Option Addr) (c d x y N M : Nat) (w : World) (hxn : (digs x).length = N) (hyn : (digs y).length = M) (hx : Sl w A (digs x)) (hy : Sl w B (digs y)) (hl : N ≤ 1000) (hl' : M ≤ 1000) (hp : 0 < y) :
    Calls Tryz.prog 119 #[.slice A N c, .slice B M d] w (RTwoC w (x / y) (x % y)) := by
  have hM : y ≤ x → M ≤ N := fun h => by
    rw [← hxn, ← hyn]; exact len_le_of_val (limbs_digs x) (norm_digs y) (by rw [val_digs, val_digs]; exact h)
  by_cases hlt : x < y
  · have C := rcmp_any A B c d (digs x) (digs y) w hx hy (limbs_digs x) (limbs_digs y) (norm_digs x) (norm_digs y) (by omega) (by omega)
    rw [hxn, hyn, val_digs, val_digs, cmpN_lt hlt] at C
    have C := hide C
    have HX := hide (fun q => hx.drewN q)
    have E1 := hide (show x / y = 0 from Nat.div_eq_of_lt hlt)
    have E2 := hide (show x % y = x from Nat.mod_eq_of_lt hlt)
    have L0 := hide (show (digs (x / y)).length = 0 by rw [E1.out, digs_zero]; rfl)
    have L1 := hide (show (digs (x % y)).length = N by rw [E2.out]; exact hxn)
    clear hx hy hM
    go_enter Tryz.func119, Tryz.ntmps119
    go_wp2_with (go_at_call 76; (with_reducible refine (C.out).mono ?_); rintro e w1 ⟨rfl, q0, rfl⟩)
    go_ret2
    exact RTwoC.mk L0.out L1.out (Nat.le_refl 0) (by rw [E1.out, digs_zero]; exact .nil) (by rw [E2.out]; exact HX.out _) (bl_q0 rfl)
  · have hle : y ≤ x := by omega
    have mn := hM hle
    have C := rcmp_any A B c d (digs x) (digs y) w hx hy (limbs_digs x) (limbs_digs y) (norm_digs x) (norm_digs y) (by omega) (by omega)
    rw [hxn, hyn, val_digs, val_digs] at C
    have C := hide C
    have cz : 0 ≤ cmpN x y := cmpN_nonneg.2 hle
    obtain ⟨b1, b2⟩ := dv_start hp hle
    have hxN : blen x ≤ 64 * N := by rw [blen_le_iff, ← LB_two_pow]; exact length_digs_le.1 (Nat.le_of_eq hxn)
    have by1 : 0 < blen y := by have := (blen_lo (n := y) (by omega)).1; omega
    have BX := fun q => rbits_any A N c (digs x) (w.drewN q) hxn (hx.drewN q) (limbs_digs x) (by omega)
    have BY := fun q => rbits_any B M d (digs y) (w.drewN q) hyn (hy.drewN q) (limbs_digs y) (by omega)
    have BX' := hide (fun W (h : Below w.heap.size w W) => rbits_any A N c (digs x) W hxn (bl_keeps h _ _ hx) (limbs_digs x) (by omega))
    have BY' := hide (fun W (h : Below w.heap.size w W) => rbits_any B M d (digs y) W hyn (bl_keeps h _ _ hy) (limbs_digs y) (by omega))
    rw [rbits_val (limbs_digs x) (norm_digs x), val_digs] at BX'
    rw [rbits_val (limbs_digs y) (norm_digs y), val_digs] at BY'
    obtain ⟨K, hK⟩ : ∃ K, K + blen y = blen x := ⟨blen x - blen y, by omega⟩
    have q1 : binOp .sub 3 (.int .i64 (blen x : Int)) (.int .i64 (blen y : Int)) = pure (.int .i64 (K : Int)) := i64_sub _ (blen x) (blen y) K hK (by omega)
    have hmk : ∀ W : World, (Instr.makeSlice 23 (.int .i64 (N : Int)) (.int .i64 (N : Int))).run Tryz.prog W = .ok (.slice (some ⟨W.heap.size, 0, none⟩) N N) (W.alloc (.cells (madeCells #[.int .u64 0] N) 119)) :=
      fun W => run_make_u64 .i64 .i64 N N (by omega) (by omega) W
    have ST : Hid (DvI x y (K + 1) N x (List.replicate N 0)) := DvI.start (by rw [show K + 1 = blen x - blen y + 1 by omega]; exact b2)
    have KB := hide (show K < 64 * N by omega)
    have SH := hide (fun W (h : Below w.heap.size w W) k (hk : k ≤ 100000) => rshift_up B d k (digs y) W (bl_keeps h _ _ hy) (limbs_digs y) (by omega) hk)
    rw [hyn, val_digs] at SH
    have HX := hide hx
    have HY := hide hy
    have k0 : K ≤ 64000 := by omega
    clear BX BY hM hle hlt b1 b2 hxN by1 hK hp
    generalize blen x = bx at *
    generalize blen y = bY at *
    generalize cmpN x y = z0 at *
    go_enter Tryz.func119, Tryz.ntmps119
    go_wp2_with (first
      | (go_at_call 76; (with_reducible refine (C.out).mono ?_); rintro e w1 ⟨rfl, q0, rfl⟩; have M0 := hide (Own.made (n := N) (w.drewN q0) (Nat.le_refl _) (Nat.le_refl N) (by unfold maxLen; omega)); have B0 := hide (bl_allocs (bl_q0 (w := w) (q := q0) rfl) (.cells (madeCells #[.int .u64 0] N) 119)))
      | (go_at_call 140; (first | with_reducible refine (BX'.out _ B0.out).mono ?_ | with_reducible refine (BY'.out _ B0.out).mono ?_); rintro e w2 ⟨rfl, rfl⟩))
    clear hmk C BX' BY'
    go_loopw [7, 8] (fun r kk wr => ∃ (j : Nat) (D : Option Addr) (m e R : Nat) (qs : List Nat), j ≤ K + 1 ∧ kk = .int .i64 ((j : Int) - 1) ∧ r = .slice D m e ∧ (digs R).length = m ∧ R ≤ x ∧ Sl wr D (digs R) ∧ DvI x y j N R qs ∧ Own wr w.heap.size w.heap.size N qs ∧ Below w.heap.size w wr) (fun _ kk _ => (intOf kk + 1).toNat)
    case atStart => exact ⟨K + 1, A, N, c, x, _, Nat.le_refl _, by simp, rfl, hxn, Nat.le_refl _, bl_keeps B0.out _ _ HX.out, ST.out, M0.out, B0.out⟩
    case round =>
      obtain ⟨j, D, m, e, R, qs, hj, rfl, rfl, hm, hRx, hr, di, ho, hb⟩ := hrel
      have mN : m ≤ N := by rw [← hm, ← hxn]; exact len_le_of_val (limbs_digs x) (norm_digs R) (by rw [val_digs, val_digs]; exact hRx)
      cases j with
      | zero =>
        obtain ⟨d1, d2⟩ := di.done
        have T := hide (show Calls Tryz.prog 93 #[.slice (some ⟨w.heap.size, 0, none⟩) N N] wr (Mk wr (digs (x / y))) from by
          have := rtrim_any (some ⟨w.heap.size, 0, none⟩) N qs wr ho.sl (by rw [di.len]; exact Nat.le_refl _) (by rw [di.len]; omega)
          rwa [di.len, ← digs_val di.limbs, ← d1] at this)
        have E2 := hide d2
        have HR := hide hr
        have HM := hide hm
        have H := hide hb
        clear di ho hr hb d1 d2 hm
        go_wp2_with (go_at_call 93; (with_reducible refine (T.out).mono ?_); rintro ee w3 ⟨A3, c3, rfl, r3, hb3⟩)
        go_ret2
        exact RTwoC.mk rfl (by rw [E2.out]; exact HM.out) r3.le r3.sl (by rw [E2.out]; exact bl_keeps hb3 _ _ HR.out) (bl_trans H.out hb3)
      | succ k =>
        have SHk := hide (SH.out wr hb k (by omega))
        have H := hide hb
        have kn : k / 64 < N := by have := KB.out; omega
        have sl : (digs (y * 2 ^ k)).length ≤ 10000 := by
          have h1 : y < LB ^ M := length_digs_le.1 (Nat.le_of_eq hyn)
          have h2 : 2 ^ k ≤ LB ^ (k / 64 + 1) := by
            rw [LB_two_pow]
            exact Nat.pow_le_pow_right (by decide) (by omega)
          have h3 : y * 2 ^ k < LB ^ (M + (k / 64 + 1)) := by
            rw [Nat.pow_add]
            exact Nat.lt_of_lt_of_le (Nat.mul_lt_mul_of_pos_right h1 (Nat.two_pow_pos k)) (Nat.mul_le_mul_left _ h2)
          exact Nat.le_trans (length_digs_le.2 h3) (by omega)
        have RC := hide (fun (S : Option Addr) (sc : Nat) W (hs : Sl W S (digs (y * 2 ^ k))) (hr' : Sl W D (digs R)) => rcmp_any D S e sc (digs R) (digs (y * 2 ^ k)) W hr' hs (limbs_digs _) (limbs_digs _) (norm_digs _) (norm_digs _) (by omega) (by omega))
        rw [hm, val_digs, val_digs] at RC
        have HR := hide hr
        have HM := hide hm
        have OO := hide ho
        by_cases hc : y * 2 ^ k ≤ R
        · have cz1 : 0 ≤ cmpN R (y * 2 ^ k) := cmpN_nonneg.2 hc
          have DT := hide (di.take kn hc)
          have OB := or_bit di.bit
          have hLL := di.limbs.get (k / 64)
          have RS := hide (fun (S : Option Addr) (sc : Nat) W (hs : Sl W S (digs (y * 2 ^ k))) (hr' : Sl W D (digs R)) => rsub_any D S e sc (digs R) (digs (y * 2 ^ k)) W hr' hs (limbs_digs _) (limbs_digs _) (by omega) (len_le_of_val (limbs_digs R) (norm_digs _) (by rw [val_digs, val_digs]; exact hc)) (by rw [val_digs, val_digs]; exact hc))
          rw [hm, val_digs, val_digs] at RS
          have RX := hide (show R - y * 2 ^ k ≤ x by omega)
          obtain ⟨i, hi⟩ : ∃ i, i = k / 64 := ⟨_, rfl⟩
          obtain ⟨p, hpp⟩ : ∃ p, p = k % 64 := ⟨_, rfl⟩
          obtain ⟨pw, hpw⟩ : ∃ v, v = 2 ^ p := ⟨_, rfl⟩
          rw [← hi, ← hpp] at OB DT
          rw [← hi] at hLL kn
          rw [← hpw] at OB DT
          have pL : pw < LB := by
            rw [hpw, show LB = 2 ^ 64 from rfl]
            exact Nat.pow_lt_pow_right (by decide) (by omega)
          have o0 : binOp .quo 3 (.int .i64 (k : Int)) (.int .i64 64) = pure (.int .i64 (i : Int)) := by rw [hi]; exact i64_quo _ k 64 (by omega) (by omega)
          have o1 : binOp .rem 3 (.int .i64 (k : Int)) (.int .i64 64) = pure (.int .i64 (p : Int)) := by rw [hpp]; exact i64_rem _ k 64 (by omega)
          have wp : IntKind.u64.wrap (p : Int) = (p : Int) := by rw [IntKind.wrap_u64]; omega
          have o2 : binOp .shl 119 (.int .u64 1) (.int .u64 (p : Int)) = pure (.int .u64 (pw : Int)) := by
            have h := op_shl 119 .u64 1 p (by omega)
            have h2 : shlW 1 p = pw := by
              unfold shlW
              rw [Nat.one_mul, ← hpw]
              exact Nat.mod_eq_of_lt pL
            rw [h2] at h
            exact h
          have o3 := op_or 119 (lim qs i) pw hLL pL
          rw [OB] at o3
          obtain ⟨nv, hnv⟩ : ∃ v, v = lim qs i + pw := ⟨_, rfl⟩
          rw [← hnv] at o3 DT
          have QL := hide di.len
          clear di hr hm ho hb hc hi hpp hpw OB pL hLL hnv sl
          generalize cmpN R (y * 2 ^ k) = z1 at *
          generalize y * 2 ^ k = sv at *
          go_wp2_with (first
            | (go_at_call 141; (with_reducible refine (SHk.out).mono ?_); rintro ee w3 ⟨S3, c3, rfl, r3, hb3⟩)
            | (go_at_call 76; (with_reducible refine (RC.out S3 c3 _ r3.sl (kb hb3 HR.out)).mono ?_); rintro ee w4 ⟨rfl, q4, h4⟩; have hb4 := bl_trans hb3 (bl_q0 h4); have s4 := hide (kb (bl_q0 h4) r3.sl); clear h4)
            | (go_at_call 142; (with_reducible refine (RS.out S3 c3 _ s4.out (kb hb4 HR.out)).mono ?_); rintro ee w5 ⟨D5, c5, rfl, r5, hb5⟩; have hb6 := bl_trans hb4 hb5; have ho6 := OO.out.below hb6 OO.out.lt; have hcell := ho6.cell (j := i) (by rw [QL.out]; exact kn); have hfr := ho6.frozen i; have O6 := hide (ho6.set i nv); clear ho6))
          have hs5 := hide ((r5.set_far (g := w.heap.size) (j := i) (Nat.lt_of_lt_of_le OO.out.lt hb4.size) (.int .u64 (nv : Int))).sl)
          have BB := hide ((bl_trans H.out hb6).setCell (Nat.le_refl _) (p := ⟨w.heap.size, i, none⟩) (.int .u64 (nv : Int)))
          clear hcell hfr hb3 hb4 hb5 hb6 r3 r5 s4
          go_roundw
          case rel => exact ⟨k, D5, _, c5, _, _, by omega, rfl, rfl, rfl, RX.out, hs5.out, DT.out, O6.out, BB.out⟩
          case measure => simp [intOf]
        · have DS := hide (di.skip (Nat.lt_of_not_le hc))
          have HRX := hide hRx
          rw [cmpN_lt (Nat.lt_of_not_le hc)] at RC
          clear di hr hm ho hb hc sl hRx
          generalize y * 2 ^ k = sv at *
          go_wp2_with (first
            | (go_at_call 141; (with_reducible refine (SHk.out).mono ?_); rintro ee w3 ⟨S3, c3, rfl, r3, hb3⟩)
            | (go_at_call 76; (with_reducible refine (RC.out S3 c3 _ r3.sl (kb hb3 HR.out)).mono ?_); rintro ee w4 ⟨rfl, q4, h4⟩; have hb4 := bl_trans hb3 (bl_q0 h4); clear h4))
          go_roundw
          case rel => exact ⟨k, D, m, e, R, qs, by omega, by go_num, rfl, HM.out, HRX.out, kb hb4 HR.out, DS.out, OO.out.below hb4 OO.out.lt, bl_trans H.out hb4⟩
          case measure => simp [intOf]
theorem rdivmod_num (A B : Option Addr) (c d x y N M : Nat) (w : World) (hxn : (digs x).length = N) (hyn : (digs y).length = M) (hx : Sl w A (digs x)) (hy : Sl w B (digs y)) (hl : N ≤ 1000) (hl' : M ≤ 1000) (hp : 0 < y) :
    Calls Tryz.prog 119 #[.slice A N c, .slice B M d] w (RTwo w (x / y) (x % y)) :=
  (rdivmod_cap A B c d x y N M w hxn hyn hx hy hl hl' hp).mono fun _ _ h => h.two
end Nt

end Go.Proofs.YtgimmmmpollkhaaGreat

namespace Go.Proofs.YtgimmmmpollkhaaGreat

open Go.RowKit

namespace Nt

set_option maxRecDepth 100000 in
set_option maxHeartbeats 2000000 in
theorem rgcd_num (A B : Option Addr) (c d x y N M : Nat) (w : World) (hxn : (digs x).length = N) (hyn : (digs y).length = M) (hx : Sl w A (digs x)) (hy : Sl w B (digs y)) (hl : N ≤ 1000) (hl' : M ≤ 1000) :
    Calls Tryz.prog 77 #[.slice A N c, .slice B M d] w fun e w' => ∃ A' c', e = .returned (.slice A' (digs (Nat.gcd x y)).length c') ∧ Sl w' A' (digs (Nat.gcd x y)) ∧ Below w.heap.size w w' := by
  have HX := hide hx
  have HY := hide hy
  clear hx hy
  go_enter Tryz.func77, Tryz.ntmps77
  go_wp2
  go_loopw [0, 1] (fun X Y wr => ∃ (A : Option Addr) (n a : Nat) (B : Option Addr) (m b p r : Nat), X = .slice A n a ∧ Y = .slice B m b ∧ Sl wr A (digs p) ∧ Sl wr B (digs r) ∧ (digs p).length = n ∧ (digs r).length = m ∧ n ≤ 1000 ∧ m ≤ 1000 ∧ Nat.gcd p r = Nat.gcd x y ∧ Below w.heap.size w wr) (fun _ Y wr => readV wr Y)
  case atStart => exact ⟨A, N, c, B, M, d, x, y, rfl, rfl, HX.out, HY.out, hxn, hyn, hl, hl', rfl, .refl _ _⟩
  case round =>
    obtain ⟨A3, n, a, B3, m, b, p, r, rfl, rfl, hx, hy, hn, hm, hnb, hmb, hg, hb⟩ := hrel
    by_cases h0 : m = 0
    · have hr0 : r = 0 := by
        rcases Nat.eq_zero_or_pos r with h | h
        · exact h
        · have := digs_lp.2 h; omega
      have F := hide (show Nat.gcd x y = p by rw [← hg, hr0, Nat.gcd_zero_right])
      have HN := hide hn
      have H := hide hb
      have HP := hide hx
      clear hx hy hg hb hn hm hr0
      subst h0
      go_wp2
      go_ret
      exact ⟨A3, a, by rw [F.out, HN.out]; rfl, by rw [F.out]; exact HP.out, H.out⟩
    · have rp : 0 < r := digs_lp.1 (by omega)
      have DV := hide (rdivmod_num A3 B3 a b p r n m wr hn hm hx hy hnb hmb rp)
      have M1 := hide (readV_sl hy m b hm)
      have HR := hide hy
      have HM := hide hm
      have G := hide hg
      have H := hide hb
      have RP := hide rp
      have h0' : 0 < m := by omega
      have LM := hide (show (digs (p % r)).length ≤ 1000 from Nat.le_trans (by rw [← hm]; exact len_le_of_val (limbs_digs r) (norm_digs _) (by rw [val_digs, val_digs]; exact Nat.le_of_lt (Nat.mod_lt _ rp))) hmb)
      have MB := hide hmb
      clear hx hy hg hb hn hm rp h0 hmb
      go_wp2_with (go_at_call 119; (with_reducible refine (DV.out).mono ?_); rintro e w3 ⟨A4, c4, B4, d4, rfl, hq, hr, hb3⟩)
      go_roundw
      case rel => exact ⟨B3, m, b, B4, _, d4, r, p % r, rfl, rfl, kb hb3 HR.out, hr, HM.out, rfl, MB.out, LM.out, by rw [← G.out, Nat.gcd_comm p r, Nat.gcd_rec r p, Nat.gcd_comm], bl_trans H.out hb3⟩
      case measure =>
        have M2 := readV_sl hr (digs (p % r)).length d4 rfl
        rw [M1.out, M2, val_digs, val_digs]
        exact Nat.mod_lt _ RP.out

def R2 (w : World) (r : List Nat × Nat) (e : Ending) (w' : World) : Prop := ∃ A c, e = .returned (.tuple #[.slice A r.1.length c, .int .i64 (r.2 : Int)]) ∧ Sl w' A r.1 ∧ Below w.heap.size w w'
theorem R2.mk {w w' : World} {r : List Nat × Nat} {A : Option Addr} {l : List Nat} {n c e : Nat} (hr : r = (l, e)) (hn : l.length = n) (hs : Sl w' A l) (hb : Below w.heap.size w w') : R2 w r (.returned (.tuple #[.slice A n c, .int .i64 (e : Int)])) w' := by
  subst hr hn; exact ⟨A, c, rfl, hs, hb⟩
def R3 (w : World) (r : List Nat × List Nat × Nat) (e : Ending) (w' : World) : Prop := ∃ A c B d, e = .returned (.tuple #[.slice A r.1.length c, .slice B r.2.1.length d, .int .i64 (r.2.2 : Int)]) ∧ Sl w' A r.1 ∧ Sl w' B r.2.1 ∧ Below w.heap.size w w'
theorem R3.mk {w w' : World} {r : List Nat × List Nat × Nat} {A B : Option Addr} {l k : List Nat} {n m c d e : Nat} (hr : r = (l, k, e)) (hn : l.length = n) (hm : k.length = m) (hs : Sl w' A l) (ht : Sl w' B k) (hb : Below w.heap.size w w') : R3 w r (.returned (.tuple #[.slice A n c, .slice B m d, .int .i64 (e : Int)])) w' := by
  subst hr hn hm; exact ⟨A, c, B, d, rfl, hs, ht, hb⟩

end Nt

end Go.Proofs.YtgimmmmpollkhaaGreat

namespace Go.Proofs.YtgimmmmpollkhaaGreat

open Go.RowKit

namespace Nt

theorem sgn_pair {s : Bool} {n : Nat} {z : Int} (h : z = if s then -(n : Int) else n) : (isg z, idg z) = (s && decide (0 < (digs n).length), digs n) := by rw [h, isg_sgn, idg_sgn]
theorem isg_t {x : Int} (h : isg x = true) : x < 0 := by unfold isg at h; simpa using h
theorem isg_f {x : Int} (h : isg x = false) : 0 ≤ x := by unfold isg at h; simpa using h
theorem val_id (x : Int) : val (idg x) = x.natAbs := val_digs _
theorem add_lenI {x y : Int} {k : Nat} (hx : (idg x).length ≤ k) (hy : (idg y).length ≤ k) : (idg (x + y)).length ≤ k + 1 := by
  have h1 := length_digs_le.1 hx
  have h2 := length_digs_le.1 hy
  have h3 : LB ^ k + LB ^ k ≤ LB ^ (k + 1) := by
    rw [Nat.pow_succ, ← Nat.mul_two]
    exact Nat.mul_le_mul_left _ LB_two
  exact length_digs_le.2 (by omega)

set_option maxRecDepth 100000 in
set_option maxHeartbeats 4000000 in
theorem raddS_num (A B : Option Addr) (n m c d : Nat) (x y : Int) (w : World) (hn : (idg x).length = n) (hm : (idg y).length = m) (sx : Sl w A (idg x)) (sy : Sl w B (idg y)) (hl : (idg x).length ≤ 1000) (hl' : (idg y).length ≤ 1000) :
    Calls Tryz.prog 139 #[.agg #[.bool (isg x), .slice A n c], .agg #[.bool (isg y), .slice B m d]] w (IOne w (isg (x + y), idg (x + y))) := by
  subst hn hm
  have n1 := hide (show w.heap.size + 1 ≠ w.heap.size + 1 + 1 by omega)
  have n2 := hide (show w.heap.size ≠ w.heap.size + 1 + 1 by omega)
  have e1 : ∀ W, (binOp .eql 4 (.bool false) (.bool false)).run Tryz.prog W = .ok (.bool true) W := fun _ => by kernel_rfl
  have e2 : ∀ W, (binOp .eql 4 (.bool true) (.bool false)).run Tryz.prog W = .ok (.bool false) W := fun _ => by kernel_rfl
  have e3 : ∀ W, (binOp .eql 4 (.bool false) (.bool true)).run Tryz.prog W = .ok (.bool false) W := fun _ => by kernel_rfl
  have e4 : ∀ W, (binOp .eql 4 (.bool true) (.bool true)).run Tryz.prog W = .ok (.bool true) W := fun _ => by kernel_rfl
  cases hs : isg x with
  | false =>
    cases ht : isg y with
    | false =>
      have hx := isg_f hs
      have hy := isg_f ht
      have C := hide (fun W (h : Below w.heap.size w W) => radd_any A B c d (idg x) (idg y) W (bl_keeps h _ _ sx) (bl_keeps h _ _ sy) (limbs_idg x) (limbs_idg y) (by omega) (by omega) _ rfl)
      have E := hide (sgn_pair (s := false) (n := val (idg x) + val (idg y)) (z := x + y) (by rw [val_id, val_id]; simp only [Bool.false_eq_true, if_false]; omega))
      have L := hide (show (digs (val (idg x) + val (idg y))).length ≤ 9223372036854775807 from Nat.le_trans (add_len (limbs_idg x) (limbs_idg y) hl hl') (by decide))
      have X := hide (Bx3.start false A (idg x).length c false B (idg y).length d w)
      have b0 : Below w.heap.size w (((w.alloc (.cells #[.bool false, .slice A (idg x).length c] 104)).alloc (.cells #[.bool false, .slice B (idg y).length d] 104)).alloc (.cells #[.bool false, .slice none 0 0] 104)) := bl_al (bl_al (bl_al (.refl _ _) _) _) _
      clear sx sy hx hy hs ht
      obtain ⟨x1, x2, x3, x4, x5, x6, _⟩ := X.out
      have bb := b0
      go_enter Tryz.func139, Tryz.ntmps139
      go_wp2
      go_region_held3 (fun W => W.cell? ⟨w.heap.size, 0, none⟩ = some (.bool false) ∧ W.cell? ⟨w.heap.size, 1, none⟩ = some (.slice A (idg x).length c) ∧ W.cell? ⟨w.heap.size + 1, 0, none⟩ = some (.bool false) ∧ W.cell? ⟨w.heap.size + 1, 1, none⟩ = some (.slice B (idg y).length d))
        (first | exact ⟨x1, x2, x3, x4⟩ | exact S_store12 (by assumption) n2.out n2.out n1.out n1.out | exact S_next12 hb4 (by assumption) | exact S_next12 hb (by assumption) | go_keep)
        (first
          | (go_at_call 155; (with_reducible refine (C.out _ (by first | exact bb.drew | exact bb)).mono ?_); rintro e w2 ⟨A3, c3, rfl, r3, hb⟩; have yb := hide ((X.out.drew).next hb); have s3 := r3.sl; have b2 := bl_trans (by first | exact bb.drew | exact bb) hb)
          | (go_at_call 121; (with_reducible refine (rwhole_any _ A3 _ c3 _ L.out).mono ?_); rintro e w4 ⟨rfl, hb4⟩; obtain ⟨y1, y2, y3, y4, y5, y6, y7, y8, _⟩ := (yb.out).next hb4; have s4 := bl_keeps hb4 _ _ s3; have b4 := bl_trans b2 hb4))
      go_wp2
      refine bodyPost_ret (v := .agg #[.bool (false && decide (0 < (digs (val (idg x) + val (idg y))).length)), .slice A3 (digs (val (idg x) + val (idg y))).length c3]) (by simp [results, Tryz.results139, go_sem, y5, y6]) rfl (IOne.mk E.out rfl (s4.store2 y5 y6 _ _) (Below.store2 b4 (by omega) _ _))
    | true =>
      have hx := isg_f hs
      have hy := isg_t ht
      have X := hide (Bx3.start false A (idg x).length c true B (idg y).length d w)
      have b0 : Below w.heap.size w (((w.alloc (.cells #[.bool false, .slice A (idg x).length c] 104)).alloc (.cells #[.bool true, .slice B (idg y).length d] 104)).alloc (.cells #[.bool false, .slice none 0 0] 104)) := bl_al (bl_al (bl_al (.refl _ _) _) _) _
      have M := hide (fun W (h : Below w.heap.size w W) => rcmp_any A B c d (idg x) (idg y) W (bl_keeps h _ _ sx) (bl_keeps h _ _ sy) (limbs_idg x) (limbs_idg y) (norm_digs _) (norm_digs _) (by omega) (by omega))
      by_cases hc : val (idg y) ≤ val (idg x)
      · have C := hide (fun W (h : Below w.heap.size w W) => rsub_any A B c d (idg x) (idg y) W (bl_keeps h _ _ sx) (bl_keeps h _ _ sy) (limbs_idg x) (limbs_idg y) (by omega) (len_le_of_val (limbs_idg x) (norm_digs _) hc) hc)
        have E := hide (sgn_pair (s := false) (n := val (idg x) - val (idg y)) (z := x + y) (by rw [val_id, val_id] at *; simp only [Bool.false_eq_true, if_false]; omega))
        have L := hide (show (digs (val (idg x) - val (idg y))).length ≤ 9223372036854775807 from Nat.le_trans (sub_len (limbs_idg x)) (by omega))
        have CZ : 0 ≤ cmpN (val (idg x)) (val (idg y)) := cmpN_nonneg.2 hc
        generalize cmpN (val (idg x)) (val (idg y)) = z at *
        clear sx sy hx hy hs ht hc
        obtain ⟨x1, x2, x3, x4, x5, x6, _⟩ := X.out
        go_enter Tryz.func139, Tryz.ntmps139
        go_wp2_with (go_at_call 76; (with_reducible refine (M.out _ b0).mono ?_); rintro e w1 ⟨rfl, q0, h0⟩; have g := bl_q0 h0; have X := hide (X.out.next g); obtain ⟨x1, x2, x3, x4, x5, x6, _⟩ := X.out; have bb := bl_trans b0 g; clear h0 g)
        go_region_held3 (fun W => W.cell? ⟨w.heap.size, 0, none⟩ = some (.bool false) ∧ W.cell? ⟨w.heap.size, 1, none⟩ = some (.slice A (idg x).length c) ∧ W.cell? ⟨w.heap.size + 1, 0, none⟩ = some (.bool true) ∧ W.cell? ⟨w.heap.size + 1, 1, none⟩ = some (.slice B (idg y).length d))
          (first | exact ⟨x1, x2, x3, x4⟩ | exact S_store12 (by assumption) n2.out n2.out n1.out n1.out | exact S_next12 hb4 (by assumption) | exact S_next12 hb (by assumption) | go_keep)
          (first
            | (go_at_call 142; (with_reducible refine (C.out _ (by first | exact bb.drew | exact bb)).mono ?_); rintro e w2 ⟨A3, c3, rfl, r3, hb⟩; have yb := hide ((X.out.drew).next hb); have s3 := r3.sl; have b2 := bl_trans (by first | exact bb.drew | exact bb) hb)
            | (go_at_call 121; (with_reducible refine (rwhole_any _ A3 _ c3 _ L.out).mono ?_); rintro e w4 ⟨rfl, hb4⟩; obtain ⟨y1, y2, y3, y4, y5, y6, y7, y8, _⟩ := (yb.out).next hb4; have s4 := bl_keeps hb4 _ _ s3; have b4 := bl_trans b2 hb4))
        go_wp2
        refine bodyPost_ret (v := .agg #[.bool (false && decide (0 < (digs (val (idg x) - val (idg y))).length)), .slice A3 (digs (val (idg x) - val (idg y))).length c3]) (by simp [results, Tryz.results139, go_sem, y5, y6]) rfl (IOne.mk E.out rfl (s4.store2 y5 y6 _ _) (Below.store2 b4 (by omega) _ _))
      · have C := hide (fun W (h : Below w.heap.size w W) => rsub_any B A d c (idg y) (idg x) W (bl_keeps h _ _ sy) (bl_keeps h _ _ sx) (limbs_idg y) (limbs_idg x) (by omega) (len_le_of_val (limbs_idg y) (norm_digs _) (by omega)) (by omega))
        have E := hide (sgn_pair (s := true) (n := val (idg y) - val (idg x)) (z := x + y) (by rw [val_id, val_id] at *; simp only [if_true]; omega))
        have L := hide (show (digs (val (idg y) - val (idg x))).length ≤ 9223372036854775807 from Nat.le_trans (sub_len (limbs_idg y)) (by omega))
        rw [cmpN_lt (show val (idg x) < val (idg y) by omega)] at M
        clear sx sy hx hy hs ht hc
        obtain ⟨x1, x2, x3, x4, x5, x6, _⟩ := X.out
        go_enter Tryz.func139, Tryz.ntmps139
        go_wp2_with (go_at_call 76; (with_reducible refine (M.out _ b0).mono ?_); rintro e w1 ⟨rfl, q0, h0⟩; have g := bl_q0 h0; have X := hide (X.out.next g); obtain ⟨x1, x2, x3, x4, x5, x6, _⟩ := X.out; have bb := bl_trans b0 g; clear h0 g)
        go_region_held3 (fun W => W.cell? ⟨w.heap.size, 0, none⟩ = some (.bool false) ∧ W.cell? ⟨w.heap.size, 1, none⟩ = some (.slice A (idg x).length c) ∧ W.cell? ⟨w.heap.size + 1, 0, none⟩ = some (.bool true) ∧ W.cell? ⟨w.heap.size + 1, 1, none⟩ = some (.slice B (idg y).length d))
          (first | exact ⟨x1, x2, x3, x4⟩ | exact S_store12 (by assumption) n2.out n2.out n1.out n1.out | exact S_next12 hb4 (by assumption) | exact S_next12 hb (by assumption) | go_keep)
          (first
            | (go_at_call 142; (with_reducible refine (C.out _ (by first | exact bb.drew | exact bb)).mono ?_); rintro e w2 ⟨A3, c3, rfl, r3, hb⟩; have yb := hide ((X.out.drew).next hb); have s3 := r3.sl; have b2 := bl_trans (by first | exact bb.drew | exact bb) hb)
            | (go_at_call 121; (with_reducible refine (rwhole_any _ A3 _ c3 _ L.out).mono ?_); rintro e w4 ⟨rfl, hb4⟩; obtain ⟨y1, y2, y3, y4, y5, y6, y7, y8, _⟩ := (yb.out).next hb4; have s4 := bl_keeps hb4 _ _ s3; have b4 := bl_trans b2 hb4))
        go_wp2
        refine bodyPost_ret (v := .agg #[.bool (true && decide (0 < (digs (val (idg y) - val (idg x))).length)), .slice A3 (digs (val (idg y) - val (idg x))).length c3]) (by simp [results, Tryz.results139, go_sem, y5, y6]) rfl (IOne.mk E.out rfl (s4.store2 y5 y6 _ _) (Below.store2 b4 (by omega) _ _))
  | true =>
    cases ht : isg y with
    | false =>
      have hx := isg_t hs
      have hy := isg_f ht
      have X := hide (Bx3.start true A (idg x).length c false B (idg y).length d w)
      have b0 : Below w.heap.size w (((w.alloc (.cells #[.bool true, .slice A (idg x).length c] 104)).alloc (.cells #[.bool false, .slice B (idg y).length d] 104)).alloc (.cells #[.bool false, .slice none 0 0] 104)) := bl_al (bl_al (bl_al (.refl _ _) _) _) _
      have M := hide (fun W (h : Below w.heap.size w W) => rcmp_any A B c d (idg x) (idg y) W (bl_keeps h _ _ sx) (bl_keeps h _ _ sy) (limbs_idg x) (limbs_idg y) (norm_digs _) (norm_digs _) (by omega) (by omega))
      by_cases hc : val (idg y) ≤ val (idg x)
      · have C := hide (fun W (h : Below w.heap.size w W) => rsub_any A B c d (idg x) (idg y) W (bl_keeps h _ _ sx) (bl_keeps h _ _ sy) (limbs_idg x) (limbs_idg y) (by omega) (len_le_of_val (limbs_idg x) (norm_digs _) hc) hc)
        have E := hide (sgn_pair (s := true) (n := val (idg x) - val (idg y)) (z := x + y) (by rw [val_id, val_id] at *; simp only [if_true]; omega))
        have L := hide (show (digs (val (idg x) - val (idg y))).length ≤ 9223372036854775807 from Nat.le_trans (sub_len (limbs_idg x)) (by omega))
        have CZ : 0 ≤ cmpN (val (idg x)) (val (idg y)) := cmpN_nonneg.2 hc
        generalize cmpN (val (idg x)) (val (idg y)) = z at *
        clear sx sy hx hy hs ht hc
        obtain ⟨x1, x2, x3, x4, x5, x6, _⟩ := X.out
        go_enter Tryz.func139, Tryz.ntmps139
        go_wp2_with (go_at_call 76; (with_reducible refine (M.out _ b0).mono ?_); rintro e w1 ⟨rfl, q0, h0⟩; have g := bl_q0 h0; have X := hide (X.out.next g); obtain ⟨x1, x2, x3, x4, x5, x6, _⟩ := X.out; have bb := bl_trans b0 g; clear h0 g)
        go_region_held3 (fun W => W.cell? ⟨w.heap.size, 0, none⟩ = some (.bool true) ∧ W.cell? ⟨w.heap.size, 1, none⟩ = some (.slice A (idg x).length c) ∧ W.cell? ⟨w.heap.size + 1, 0, none⟩ = some (.bool false) ∧ W.cell? ⟨w.heap.size + 1, 1, none⟩ = some (.slice B (idg y).length d))
          (first | exact ⟨x1, x2, x3, x4⟩ | exact S_store12 (by assumption) n2.out n2.out n1.out n1.out | exact S_next12 hb4 (by assumption) | exact S_next12 hb (by assumption) | go_keep)
          (first
            | (go_at_call 142; (with_reducible refine (C.out _ (by first | exact bb.drew | exact bb)).mono ?_); rintro e w2 ⟨A3, c3, rfl, r3, hb⟩; have yb := hide ((X.out.drew).next hb); have s3 := r3.sl; have b2 := bl_trans (by first | exact bb.drew | exact bb) hb)
            | (go_at_call 121; (with_reducible refine (rwhole_any _ A3 _ c3 _ L.out).mono ?_); rintro e w4 ⟨rfl, hb4⟩; obtain ⟨y1, y2, y3, y4, y5, y6, y7, y8, _⟩ := (yb.out).next hb4; have s4 := bl_keeps hb4 _ _ s3; have b4 := bl_trans b2 hb4))
        go_wp2
        refine bodyPost_ret (v := .agg #[.bool (true && decide (0 < (digs (val (idg x) - val (idg y))).length)), .slice A3 (digs (val (idg x) - val (idg y))).length c3]) (by simp [results, Tryz.results139, go_sem, y5, y6]) rfl (IOne.mk E.out rfl (s4.store2 y5 y6 _ _) (Below.store2 b4 (by omega) _ _))
      · have C := hide (fun W (h : Below w.heap.size w W) => rsub_any B A d c (idg y) (idg x) W (bl_keeps h _ _ sy) (bl_keeps h _ _ sx) (limbs_idg y) (limbs_idg x) (by omega) (len_le_of_val (limbs_idg y) (norm_digs _) (by omega)) (by omega))
        have E := hide (sgn_pair (s := false) (n := val (idg y) - val (idg x)) (z := x + y) (by rw [val_id, val_id] at *; simp only [Bool.false_eq_true, if_false]; omega))
        have L := hide (show (digs (val (idg y) - val (idg x))).length ≤ 9223372036854775807 from Nat.le_trans (sub_len (limbs_idg y)) (by omega))
        rw [cmpN_lt (show val (idg x) < val (idg y) by omega)] at M
        clear sx sy hx hy hs ht hc
        obtain ⟨x1, x2, x3, x4, x5, x6, _⟩ := X.out
        go_enter Tryz.func139, Tryz.ntmps139
        go_wp2_with (go_at_call 76; (with_reducible refine (M.out _ b0).mono ?_); rintro e w1 ⟨rfl, q0, h0⟩; have g := bl_q0 h0; have X := hide (X.out.next g); obtain ⟨x1, x2, x3, x4, x5, x6, _⟩ := X.out; have bb := bl_trans b0 g; clear h0 g)
        go_region_held3 (fun W => W.cell? ⟨w.heap.size, 0, none⟩ = some (.bool true) ∧ W.cell? ⟨w.heap.size, 1, none⟩ = some (.slice A (idg x).length c) ∧ W.cell? ⟨w.heap.size + 1, 0, none⟩ = some (.bool false) ∧ W.cell? ⟨w.heap.size + 1, 1, none⟩ = some (.slice B (idg y).length d))
          (first | exact ⟨x1, x2, x3, x4⟩ | exact S_store12 (by assumption) n2.out n2.out n1.out n1.out | exact S_next12 hb4 (by assumption) | exact S_next12 hb (by assumption) | go_keep)
          (first
            | (go_at_call 142; (with_reducible refine (C.out _ (by first | exact bb.drew | exact bb)).mono ?_); rintro e w2 ⟨A3, c3, rfl, r3, hb⟩; have yb := hide ((X.out.drew).next hb); have s3 := r3.sl; have b2 := bl_trans (by first | exact bb.drew | exact bb) hb)
            | (go_at_call 121; (with_reducible refine (rwhole_any _ A3 _ c3 _ L.out).mono ?_); rintro e w4 ⟨rfl, hb4⟩; obtain ⟨y1, y2, y3, y4, y5, y6, y7, y8, _⟩ := (yb.out).next hb4; have s4 := bl_keeps hb4 _ _ s3; have b4 := bl_trans b2 hb4))
        go_wp2
        refine bodyPost_ret (v := .agg #[.bool (false && decide (0 < (digs (val (idg y) - val (idg x))).length)), .slice A3 (digs (val (idg y) - val (idg x))).length c3]) (by simp [results, Tryz.results139, go_sem, y5, y6]) rfl (IOne.mk E.out rfl (s4.store2 y5 y6 _ _) (Below.store2 b4 (by omega) _ _))
    | true =>
      have hx := isg_t hs
      have hy := isg_t ht
      have C := hide (fun W (h : Below w.heap.size w W) => radd_any A B c d (idg x) (idg y) W (bl_keeps h _ _ sx) (bl_keeps h _ _ sy) (limbs_idg x) (limbs_idg y) (by omega) (by omega) _ rfl)
      have E := hide (sgn_pair (s := true) (n := val (idg x) + val (idg y)) (z := x + y) (by rw [val_id, val_id]; simp only [if_true]; omega))
      have L := hide (show (digs (val (idg x) + val (idg y))).length ≤ 9223372036854775807 from Nat.le_trans (add_len (limbs_idg x) (limbs_idg y) hl hl') (by decide))
      have X := hide (Bx3.start true A (idg x).length c true B (idg y).length d w)
      have b0 : Below w.heap.size w (((w.alloc (.cells #[.bool true, .slice A (idg x).length c] 104)).alloc (.cells #[.bool true, .slice B (idg y).length d] 104)).alloc (.cells #[.bool false, .slice none 0 0] 104)) := bl_al (bl_al (bl_al (.refl _ _) _) _) _
      clear sx sy hx hy hs ht
      obtain ⟨x1, x2, x3, x4, x5, x6, _⟩ := X.out
      have bb := b0
      go_enter Tryz.func139, Tryz.ntmps139
      go_wp2
      go_region_held3 (fun W => W.cell? ⟨w.heap.size, 0, none⟩ = some (.bool true) ∧ W.cell? ⟨w.heap.size, 1, none⟩ = some (.slice A (idg x).length c) ∧ W.cell? ⟨w.heap.size + 1, 0, none⟩ = some (.bool true) ∧ W.cell? ⟨w.heap.size + 1, 1, none⟩ = some (.slice B (idg y).length d))
        (first | exact ⟨x1, x2, x3, x4⟩ | exact S_store12 (by assumption) n2.out n2.out n1.out n1.out | exact S_next12 hb4 (by assumption) | exact S_next12 hb (by assumption) | go_keep)
        (first
          | (go_at_call 155; (with_reducible refine (C.out _ (by first | exact bb.drew | exact bb)).mono ?_); rintro e w2 ⟨A3, c3, rfl, r3, hb⟩; have yb := hide ((X.out.drew).next hb); have s3 := r3.sl; have b2 := bl_trans (by first | exact bb.drew | exact bb) hb)
          | (go_at_call 121; (with_reducible refine (rwhole_any _ A3 _ c3 _ L.out).mono ?_); rintro e w4 ⟨rfl, hb4⟩; obtain ⟨y1, y2, y3, y4, y5, y6, y7, y8, _⟩ := (yb.out).next hb4; have s4 := bl_keeps hb4 _ _ s3; have b4 := bl_trans b2 hb4))
      go_wp2
      refine bodyPost_ret (v := .agg #[.bool (true && decide (0 < (digs (val (idg x) + val (idg y))).length)), .slice A3 (digs (val (idg x) + val (idg y))).length c3]) (by simp [results, Tryz.results139, go_sem, y5, y6]) rfl (IOne.mk E.out rfl (s4.store2 y5 y6 _ _) (Below.store2 b4 (by omega) _ _))

end Nt

end Go.Proofs.YtgimmmmpollkhaaGreat

namespace Go.Proofs.YtgimmmmpollkhaaGreat

open Go.RowKit

namespace Nt

theorem gt_z (t : TypeId) {x y : Int} (h : y < x) : binOp .gtr t (.int .i64 x) (.int .i64 y) = pure (.bool true) := by
  show pure (Value.bool (decide (x > y))) = _
  rw [decide_eq_true h]
theorem rone_z (w : World) : Calls Tryz.prog 78 #[] w (Rd w 1) := by
  have e1 : digs 1 = [1] := digs1 (by decide) (by decide)
  have s := litSl w #[.int .u64 1] [1] rfl rfl
  have b : Below w.heap.size w (w.alloc (.cells #[.int .u64 1] 119)) := bl_al (.refl _ _) _
  have R := fun c => Rd.mk (x := 1) (c := c) (by rw [e1]; exact s) b
  rw [ln_one] at R
  have R := hide R
  clear s b e1
  go_enter Tryz.func78, Tryz.ntmps78
  go_wp2
  go_ret
  exact R.out _
theorem rgcd_z (A B : Option Addr) (c d x y g : Nat) (w : World) (sx : Sl w A (digs x)) (sy : Sl w B (digs y)) (hx : ln x ≤ 1000) (hy : ln y ≤ 1000) (hg : Nat.gcd x y = g) :
    Calls Tryz.prog 77 #[.slice A (ln x) c, .slice B (ln y) d] w (Rd w g) := by
  subst hg
  exact rgcd_num A B c d x y (ln x) (ln y) w rfl rfl sx sy hx hy
theorem rmul_z (A B : Option Addr) (c d x y z : Nat) (w : World) (sx : Sl w A (digs x)) (sy : Sl w B (digs y)) (hx : ln x ≤ 5000) (hy : ln y ≤ 5000) (hz : x * y = z) :
    Calls Tryz.prog 104 #[.slice A (ln x) c, .slice B (ln y) d] w (Rd w z) :=
  (rmul_any A B c d (digs x) (digs y) w sx sy (limbs_digs x) (limbs_digs y) (Nat.le_trans hx (by decide)) (Nat.le_trans hy (by decide)) _ rfl).mono fun _ _ h => h.rd (by rw [val_digs, val_digs]; exact hz)
theorem rcmp_z (A B : Option Addr) (c d x y : Nat) (k : Int) (w : World) (sx : Sl w A (digs x)) (sy : Sl w B (digs y)) (hx : ln x ≤ 5000) (hy : ln y ≤ 5000) (hk : cmpN x y = k) :
    Calls Tryz.prog 76 #[.slice A (ln x) c, .slice B (ln y) d] w fun e w' => e = .returned (.int .i64 k) ∧ Below w.heap.size w w' := by
  have := rcmp_any A B c d (digs x) (digs y) w sx sy (limbs_digs x) (limbs_digs y) (norm_digs x) (norm_digs y) (Nat.le_trans hx (by decide)) (Nat.le_trans hy (by decide))
  rw [val_digs, val_digs, hk] at this
  exact this.mono fun e w' h => by obtain ⟨h1, q, h2⟩ := h; exact ⟨h1, bl_q0 h2⟩
theorem rtrim_z (A : Option Addr) (c x : Nat) (w : World) (sx : Sl w A (digs x)) (hx : ln x ≤ 5000) (hc : ln x ≤ c) :
    Calls Tryz.prog 93 #[.slice A (ln x) c] w (Rd w x) :=
  (rtrim_any A c (digs x) w sx hc (Nat.le_trans hx (by decide))).mono fun _ _ h => by
    rw [← digs_val (limbs_digs x), val_digs] at h
    exact h.rd rfl

set_option maxRecDepth 100000 in
set_option maxHeartbeats 4000000 in
theorem rvalidQ_any (s : Bool) (A B : Option Addr) (c d : Nat) (xs ys : List Nat) (w : World) (hx : Sl w A xs) (hy : Sl w B ys) (lx : Limbs xs) (ly : Limbs ys) (hl : xs.length ≤ 1000000) (hl' : ys.length ≤ 1000000) (r : Bool) (hr : validQ s xs ys = r) :
    Calls Tryz.prog 30 #[.agg #[.bool s, .slice A xs.length c, .slice B ys.length d]] w fun e w' => e = .returned (.bool r) ∧ Below w.heap.size w w' := by
  subst hr
  have V1 := hide (fun W (b : Below w.heap.size w W) => rvalid_any A c xs W (kp' b hx) (by omega))
  have V2 := hide (fun W (b : Below w.heap.size w W) => rvalid_any B d ys W (kp' b hy) (by omega))
  have X := hide (Q3.new (.bool s) (.slice A xs.length c) (.slice B ys.length d) w)
  have b0 : Below w.heap.size w (w.alloc (.cells #[.bool s, .slice A xs.length c, .slice B ys.length d] 25)) := bl_al (.refl _ _) _
  obtain ⟨x1, x2, x3, x4, x5, x6⟩ := X.out
  cases h1 : validB xs with
  | false =>
    have E := hide (show validQ s xs ys = false from validQ_a (by unfold validI; rw [h1]; rfl))
    rw [h1] at V1
    clear h1 V2 hx hy lx ly
    generalize xs.length = n at *
    generalize ys.length = m at *
    go_enter Tryz.func30, Tryz.ntmps30
    go_wp2_with (first
      | (go_at_call 75; (with_reducible refine (V1.out _ b0).mono ?_); rintro e w1 ⟨rfl, rfl⟩))
    go_ret
    exact ⟨ret_bool E.out.symm, b0⟩
  | true =>
    rw [h1] at V1
    cases h2 : validB ys with
    | false =>
      have E := hide (validQ_b (s := s) (xs := xs) h2)
      rw [h2] at V2
      clear h1 h2 hx hy lx ly
      generalize xs.length = n at *
      generalize ys.length = m at *
      go_enter Tryz.func30, Tryz.ntmps30
      go_wp2_with (first
        | (go_at_call 75; (with_reducible refine (V1.out _ b0).mono ?_); rintro e w1 ⟨rfl, rfl⟩)
        | (go_at_call 75; (with_reducible refine (V2.out _ b0).mono ?_); rintro e w2 ⟨rfl, rfl⟩))
      go_ret
      exact ⟨ret_bool E.out.symm, b0⟩
    | true =>
      rw [h2] at V2
      by_cases h3 : ys.length = 0
      · have E := hide (validQ_c (s := s) (xs := xs) h3)
        clear h1 h2 hx hy lx ly
        generalize xs.length = n at *
        generalize ys.length = m at *
        subst h3
        go_enter Tryz.func30, Tryz.ntmps30
        go_wp2_with (first
          | (go_at_call 75; (with_reducible refine (V1.out _ b0).mono ?_); rintro e w1 ⟨rfl, rfl⟩)
          | (go_at_call 75; (with_reducible refine (V2.out _ b0).mono ?_); rintro e w2 ⟨rfl, rfl⟩))
        go_ret
        exact ⟨ret_bool E.out.symm, b0⟩
      · have hp : 0 < ys.length := by omega
        by_cases h4 : s = true ∧ xs.length = 0
        · have E := hide (show validQ s xs ys = false from validQ_a (by unfold validI; rw [h4.1, h4.2]; simp))
          obtain ⟨rfl, h4⟩ := h4
          clear h1 h2 hx hy lx ly h3
          generalize xs.length = n at *
          generalize ys.length = m at *
          subst h4
          have hc : binOp .gtr 3 (.int .i64 (m : Int)) (.int .i64 0) = pure (.bool true) := gt_z _ (by omega)
          go_enter Tryz.func30, Tryz.ntmps30
          go_wp2_with (first
            | (go_at_call 75; (with_reducible refine (V1.out _ b0).mono ?_); rintro e w1 ⟨rfl, rfl⟩)
            | (go_at_call 75; (with_reducible refine (V2.out _ b0).mono ?_); rintro e w2 ⟨rfl, rfl⟩))
          go_ret
          exact ⟨ret_bool E.out.symm, b0⟩
        · have h1' : validI s xs = true := by
            unfold validI; rw [h1]
            cases s
            · rfl
            · simp only [true_and] at h4; simp; omega
          have E := hide (validQ_d h1' h2 hp)
          have n1 := digs_val_norm lx (validB_iff.1 h1).2
          have n2 := digs_val_norm ly (validB_iff.1 h2).2
          have k1 := (validB_iff.1 h1).1
          have k2 := (validB_iff.1 h2).1
          obtain ⟨x, hxe⟩ : ∃ x, x = val xs := ⟨_, rfl⟩
          obtain ⟨y, hye⟩ : ∃ y, y = val ys := ⟨_, rfl⟩
          rw [← hxe] at n1 E
          rw [← hye] at n2 E
          obtain ⟨g, hg⟩ : ∃ g, Nat.gcd x y = g := ⟨_, rfl⟩
          rw [hg] at E
          have e1 : ln x = xs.length := by unfold ln; rw [n1]
          have e2 : ln y = ys.length := by unfold ln; rw [n2]
          have G := hide (fun W (b : Below w.heap.size w W) => rgcd_z A B c d x y g W (by rw [n1]; exact kp' b hx) (by rw [n2]; exact kp' b hy) (by omega) (by omega) hg)
          rw [e1, e2] at G
          have gl : ln g ≤ 64 := by
            rw [← hg]
            exact Nat.le_trans (ln_mono (Nat.gcd_le_right _ (by
              rcases Nat.eq_zero_or_pos y with h | h
              · rw [h, digs_zero] at n2; rw [← n2] at hp; exact absurd hp (by decide)
              · exact h))) (by omega)
          obtain ⟨k, hk⟩ : ∃ k, cmpN g 1 = k := ⟨_, rfl⟩
          have hk0 : (k == 0) = (g == 1) := by
            rw [← hk]; unfold cmpN
            rcases (show g < 1 ∨ g = 1 ∨ 1 < g by omega) with h | h | h
            · rw [if_pos h, show (g == 1) = false from beq_eq_false_iff_ne.2 (by omega)]; rfl
            · subst h; rfl
            · rw [if_neg (by omega), if_pos h, show (g == 1) = false from beq_eq_false_iff_ne.2 (by omega)]; rfl
          rw [← hk0] at E
          have CM := hide (fun A B c d W (s : Sl W A (digs g)) (t : Sl W B (digs 1)) => rcmp_z A B c d g 1 k W s t (by omega) (by rw [ln_one]; decide) hk)
          rw [ln_one] at CM
          obtain ⟨r, hr⟩ : ∃ r, (k == 0) = r := ⟨_, rfl⟩
          rw [hr] at E
          have oe : binOp .eql 3 (.int .i64 k) (.int .i64 0) = pure (.bool r) := by
            show pure (Value.bool (k == 0)) = _
            rw [hr]
          have hc : binOp .gtr 3 (.int .i64 (ys.length : Int)) (.int .i64 0) = pure (.bool true) := gt_z _ (by omega)
          have hd : s = true → binOp .gtr 3 (.int .i64 (xs.length : Int)) (.int .i64 0) = pure (.bool true) := fun e => gt_z _ (by simp only [e, true_and] at h4; omega)
          clear h1 h1' h2 hx hy lx ly n1 n2 k1 k2 hxe hye hg e1 e2 hr hk hk0 gl h3 hp h4
          generalize xs.length = n at *
          generalize ys.length = m at *
          cases s with
          | false =>
            clear hd
            go_enter Tryz.func30, Tryz.ntmps30
            go_wp2_with (first
              | (go_at_call 75; (with_reducible refine (V1.out _ b0).mono ?_); rintro e w1 ⟨rfl, rfl⟩)
              | (go_at_call 75; (with_reducible refine (V2.out _ b0).mono ?_); rintro e w2 ⟨rfl, rfl⟩)
              | (go_at_call 77; (with_reducible refine (G.out _ b0).mono ?_); rintro e w3 ⟨A3, c3, rfl, s3, hb⟩; have b1 := bl_trans b0 hb; clear hb)
              | (go_at_call 78; (with_reducible refine (rone_z _).mono ?_); rintro e w4 ⟨A4, c4, he, s4, hb⟩; rw [ln_one] at he; subst he; have s3 := kp' hb s3; have b2 := bl_trans b1 hb; clear hb)
              | (go_at_call 76; (with_reducible refine (CM.out A3 A4 c3 c4 _ s3 s4).mono ?_); rintro e w5 ⟨rfl, hb⟩; have b3 := bl_trans b2 hb; clear hb))
            go_ret
            exact ⟨ret_bool E.out.symm, b3⟩
          | true =>
            have hd := hd rfl
            go_enter Tryz.func30, Tryz.ntmps30
            go_wp2_with (first
              | (go_at_call 75; (with_reducible refine (V1.out _ b0).mono ?_); rintro e w1 ⟨rfl, rfl⟩)
              | (go_at_call 75; (with_reducible refine (V2.out _ b0).mono ?_); rintro e w2 ⟨rfl, rfl⟩)
              | (go_at_call 77; (with_reducible refine (G.out _ b0).mono ?_); rintro e w3 ⟨A3, c3, rfl, s3, hb⟩; have b1 := bl_trans b0 hb; clear hb)
              | (go_at_call 78; (with_reducible refine (rone_z _).mono ?_); rintro e w4 ⟨A4, c4, he, s4, hb⟩; rw [ln_one] at he; subst he; have s3 := kp' hb s3; have b2 := bl_trans b1 hb; clear hb)
              | (go_at_call 76; (with_reducible refine (CM.out A3 A4 c3 c4 _ s3 s4).mono ?_); rintro e w5 ⟨rfl, hb⟩; have b3 := bl_trans b2 hb; clear hb))
            go_ret
            exact ⟨ret_bool E.out.symm, b3⟩

set_option maxRecDepth 100000 in
set_option maxHeartbeats 4000000 in
theorem rmade_q (s : Bool) (A B : Option Addr) (c d x y : Nat) (q : Rat) (w : World) (sx : Sl w A (digs x)) (sy : Sl w B (digs y)) (hx : ln x ≤ 1000) (hy : ln y ≤ 1000) (hp : 0 < y) (hq : qmk s x y = q) :
    Calls Tryz.prog 103 #[.bool s, .slice A (ln x) c, .slice B (ln y) d] w (RQ w q) := by
  obtain ⟨g, hg⟩ : ∃ g, Nat.gcd x y = g := ⟨_, rfl⟩
  have gp : 0 < g := by rw [← hg]; exact Nat.gcd_pos_of_pos_right _ hp
  have gl : ln g ≤ 1000 := by rw [← hg]; exact Nat.le_trans (ln_mono (Nat.gcd_le_right _ hp)) hy
  obtain ⟨u, hu⟩ : ∃ u, x / g = u := ⟨_, rfl⟩
  obtain ⟨v, hv⟩ : ∃ v, y / g = v := ⟨_, rfl⟩
  have ul : ln u ≤ 1000 := by rw [← hu]; exact Nat.le_trans (ln_div _ _) hx
  have vl : ln v ≤ 1000 := by rw [← hv]; exact Nat.le_trans (ln_div _ _) hy
  have E1 := hide (show qs q = (s && decide (0 < ln u)) by rw [← hq, qs_mk s x (Nat.ne_of_gt hp), hg, hu, dec_ln])
  have E2 := hide (show qn q = u by rw [← hq, qn_mk s x (Nat.ne_of_gt hp), hg, hu])
  have E3 := hide (show qd q = v by rw [← hq, qd_mk s x (Nat.ne_of_gt hp), hg, hv])
  have G := hide (fun W (k : Below w.heap.size w W) => rgcd_z A B c d x y g W (kp' k sx) (kp' k sy) hx hy hg)
  have D1 := hide (fun X e W (k : Below w.heap.size w W) s3 => rdivmod_cap A X c e x g (ln x) (ln g) W rfl rfl (kp' k sx) s3 hx gl gp)
  have D2 := hide (fun X e W (k : Below w.heap.size w W) s3 => rdivmod_cap B X d e y g (ln y) (ln g) W rfl rfl (kp' k sy) s3 hy gl gp)
  rw [hu] at D1
  rw [hv] at D2
  obtain ⟨m1, hm1⟩ : ∃ m, x % g = m := ⟨_, rfl⟩
  obtain ⟨m2, hm2⟩ : ∃ m, y % g = m := ⟨_, rfl⟩
  rw [hm1] at D1
  rw [hm2] at D2
  have T1 := hide (fun X e W s3 h => rtrim_z X e u W s3 (by omega) h)
  have T2 := hide (fun X e W s3 h => rtrim_z X e v W s3 (by omega) h)
  obtain ⟨i, hi⟩ : ∃ i, i = ln u := ⟨_, rfl⟩
  have D1 : Hid (∀ X e W, Below w.heap.size w W → Sl W X (digs g) → Calls Tryz.prog 119 #[.slice A (ln x) c, .slice X (ln g) e] W fun e w' => ∃ A c B d, e = .returned (.tuple #[.slice A i c, .slice B (ln m1) d]) ∧ Sl w' A (digs u) ∧ Sl w' B (digs m1) ∧ i ≤ c ∧ Below W.heap.size W w') := by rw [hi]; exact D1
  have T1 : Hid (∀ X e W, Sl W X (digs u) → i ≤ e → Calls Tryz.prog 93 #[.slice X i e] W fun e w' => ∃ A c, e = .returned (.slice A i c) ∧ Sl w' A (digs u) ∧ Below W.heap.size W w') := by rw [hi]; exact T1
  obtain ⟨j, hj⟩ : ∃ j, j = ln v := ⟨_, rfl⟩
  have D2 : Hid (∀ X e W, Below w.heap.size w W → Sl W X (digs g) → Calls Tryz.prog 119 #[.slice B (ln y) d, .slice X (ln g) e] W fun e w' => ∃ A c B d, e = .returned (.tuple #[.slice A j c, .slice B (ln m2) d]) ∧ Sl w' A (digs v) ∧ Sl w' B (digs m2) ∧ j ≤ c ∧ Below W.heap.size W w') := by rw [hj]; exact D2
  have T2 : Hid (∀ X e W, Sl W X (digs v) → j ≤ e → Calls Tryz.prog 93 #[.slice X j e] W fun e w' => ∃ A c, e = .returned (.slice A j c) ∧ Sl w' A (digs v) ∧ Below W.heap.size W w') := by rw [hj]; exact T2
  rw [← hi] at E1
  have MK := hide (fun (A B : Option Addr) (c d : Nat) (W : World) (sa : Sl W A (digs u)) (sb : Sl W B (digs v)) (b : Below w.heap.size w W) => (RQ.mk E1.out E2.out E3.out sa sb b : RQ w q (.returned (.agg #[.bool (s && decide (0 < i)), .slice A (ln u) c, .slice B (ln v) d])) W))
  rw [← hi, ← hj] at MK
  have i0 : i ≤ 1000 := by omega
  clear sx sy hx hy hp hq hg gp gl hu hv ul vl E1 E2 E3 hm1 hm2 hi hj
  generalize ln x = n at *
  generalize ln y = m at *
  have X := hide (Q3.new (.bool false) (.slice none 0 0) (.slice none 0 0) w)
  have b0 : Below w.heap.size w (w.alloc (.cells #[.bool false, .slice none 0 0, .slice none 0 0] 25)) := bl_al (.refl _ _) _
  obtain ⟨z, hz⟩ : ∃ z, (s && decide (0 < i)) = z := ⟨_, rfl⟩
  rw [hz] at MK
  cases s with
  | false =>
    obtain rfl : z = false := by rw [← hz]; rfl
    clear hz
    go_enter Tryz.func103, Tryz.ntmps103
    go_wp2_with (first
      | (go_at_call 77; (with_reducible refine (G.out _ b0).mono ?_); rintro e w1 ⟨A1, c1, rfl, s1, hb⟩; have X := hide (X.out.next hb); (try clear x1 x2 x3 x4 x5 x6); obtain ⟨x1, x2, x3, x4, x5, x6⟩ := X.out; have b1 := bl_trans b0 hb; clear hb)
      | (go_at_call 119; (with_reducible refine (D1.out A1 c1 _ b1 s1).mono ?_); rintro e w2 ⟨A2, c2, B2, d2, rfl, s2, _, h2, hb⟩; have X := hide (X.out.next hb); (try clear x1 x2 x3 x4 x5 x6); obtain ⟨x1, x2, x3, x4, x5, x6⟩ := X.out; have b2 := bl_trans b1 hb; have s1 := kp' hb s1; clear hb)
      | (go_at_call 119; (with_reducible refine (D2.out A1 c1 _ b2 s1).mono ?_); rintro e w3 ⟨A3, c3, B3, d3, rfl, s3, _, h3, hb⟩; have X := hide (X.out.next hb); (try clear x1 x2 x3 x4 x5 x6); obtain ⟨x1, x2, x3, x4, x5, x6⟩ := X.out; have b3 := bl_trans b2 hb; have s2 := kp' hb s2; clear hb)
      | (go_at_call 93; (with_reducible refine (T1.out A2 c2 _ s2 h2).mono ?_); rintro e w4 ⟨A4, c4, rfl, s4, hb⟩; have X := hide (X.out.next hb); (try clear x1 x2 x3 x4 x5 x6); obtain ⟨x1, x2, x3, x4, x5, x6⟩ := X.out; have b4 := bl_trans b3 hb; have s3 := kp' hb s3; clear hb)
      | (go_at_call 93; (with_reducible refine (T2.out A3 c3 _ s3 h3).mono ?_); rintro e w5 ⟨A5, c5, rfl, s5, hb⟩; have X := hide (X.out.next hb); (try clear x1 x2 x3 x4 x5 x6); obtain ⟨x1, x2, x3, x4, x5, x6⟩ := X.out; have b5 := bl_trans b4 hb; have s4 := kp' hb s4; clear hb))
    refine bodyPost_ret (v := .agg #[.bool false, .slice A4 i c4, .slice A5 j c5]) (by simp [results, Tryz.results103, go_sem, x1, x2, x3]) rfl (MK.out A4 A5 c4 c5 _ (s4.over3 X.out _ _ _) (s5.over3 X.out _ _ _) (Below.over3 b5 (Nat.le_refl _) _ _ _))
  | true =>
    have hz' : decide (0 < i) = z := by rw [← hz]; rfl
    have oz : binOp .gtr 3 (.int .i64 (i : Int)) (.int .i64 0) = pure (.bool z) := by
      show pure (Value.bool (decide ((i : Int) > 0))) = _
      rw [← hz']; congr 2; exact decide_eq_decide.2 (by omega)
    clear hz hz'
    go_enter Tryz.func103, Tryz.ntmps103
    go_wp2_with (first
      | (go_at_call 77; (with_reducible refine (G.out _ b0).mono ?_); rintro e w1 ⟨A1, c1, rfl, s1, hb⟩; have X := hide (X.out.next hb); (try clear x1 x2 x3 x4 x5 x6); obtain ⟨x1, x2, x3, x4, x5, x6⟩ := X.out; have b1 := bl_trans b0 hb; clear hb)
      | (go_at_call 119; (with_reducible refine (D1.out A1 c1 _ b1 s1).mono ?_); rintro e w2 ⟨A2, c2, B2, d2, rfl, s2, _, h2, hb⟩; have X := hide (X.out.next hb); (try clear x1 x2 x3 x4 x5 x6); obtain ⟨x1, x2, x3, x4, x5, x6⟩ := X.out; have b2 := bl_trans b1 hb; have s1 := kp' hb s1; clear hb)
      | (go_at_call 119; (with_reducible refine (D2.out A1 c1 _ b2 s1).mono ?_); rintro e w3 ⟨A3, c3, B3, d3, rfl, s3, _, h3, hb⟩; have X := hide (X.out.next hb); (try clear x1 x2 x3 x4 x5 x6); obtain ⟨x1, x2, x3, x4, x5, x6⟩ := X.out; have b3 := bl_trans b2 hb; have s2 := kp' hb s2; clear hb)
      | (go_at_call 93; (with_reducible refine (T1.out A2 c2 _ s2 h2).mono ?_); rintro e w4 ⟨A4, c4, rfl, s4, hb⟩; have X := hide (X.out.next hb); (try clear x1 x2 x3 x4 x5 x6); obtain ⟨x1, x2, x3, x4, x5, x6⟩ := X.out; have b4 := bl_trans b3 hb; have s3 := kp' hb s3; clear hb)
      | (go_at_call 93; (with_reducible refine (T2.out A3 c3 _ s3 h3).mono ?_); rintro e w5 ⟨A5, c5, rfl, s5, hb⟩; have X := hide (X.out.next hb); (try clear x1 x2 x3 x4 x5 x6); obtain ⟨x1, x2, x3, x4, x5, x6⟩ := X.out; have b5 := bl_trans b4 hb; have s4 := kp' hb s4; clear hb))
    refine bodyPost_ret (v := .agg #[.bool z, .slice A4 i c4, .slice A5 j c5]) (by simp [results, Tryz.results103, go_sem, x1, x2, x3]) rfl (MK.out A4 A5 c4 c5 _ (s4.over3 X.out _ _ _) (s5.over3 X.out _ _ _) (Below.over3 b5 (Nat.le_refl _) _ _ _))
end Nt

end Go.Proofs.YtgimmmmpollkhaaGreat

namespace Go.Proofs.YtgimmmmpollkhaaGreat

open Go.RowKit

namespace Nt

theorem rvalid_q (q : Rat) (A B : Option Addr) (c d : Nat) (w : World) (sx : Sl w A (digs (qn q))) (sy : Sl w B (digs (qd q))) (f : fitq q) :
    Calls Tryz.prog 30 #[.agg #[.bool (qs q), .slice A (ln (qn q)) c, .slice B (ln (qd q)) d]] w fun e w' => e = .returned (.bool true) ∧ Below w.heap.size w w' :=
  rvalidQ_any (qs q) A B c d _ _ w sx sy (limbs_digs _) (limbs_digs _) (Nat.le_trans f.1 (by decide)) (Nat.le_trans f.2 (by decide)) true (validQ_q q f.1 f.2)
theorem cmpSg_q (q r : Rat) : cmpSg (qs q && decide (0 < ln (qn q * qd r))) (qn q * qd r) (qs r && decide (0 < ln (qn r * qd q))) (qn r * qd q) = cmpQ q r := by
  rw [← dec_ln, ← dec_ln]
  have p1 : qs q = true → 0 < qn q * qd r := fun h => Nat.mul_pos (qn_pos_of_neg h) (qd_pos r)
  have p2 : qs r = true → 0 < qn r * qd q := fun h => Nat.mul_pos (qn_pos_of_neg h) (qd_pos q)
  cases h1 : qs q <;> cases h2 : qs r
  · rw [cmpQ_pp h1 h2]; rfl
  · rw [cmpQ_pn h1 h2, decide_eq_true (p2 h2)]; rfl
  · rw [cmpQ_np h1 h2, decide_eq_true (p1 h1)]; rfl
  · rw [cmpQ_nn h1 h2, decide_eq_true (p1 h1), decide_eq_true (p2 h2), cmpN_neg]; rfl
theorem ln_mul2 {x y : Nat} (hx : ln x ≤ 64) (hy : ln y ≤ 64) : ln (x * y) ≤ 128 := ln_le (lt_pow_mul (lt_of_ln hx) (lt_of_ln hy))
theorem k6' {c1 c2 c3 c4 c5 c6 k : Prop} (h : c1 ∧ c2 ∧ c3 ∧ c4 ∧ c5 ∧ c6 ∧ k) : k := h.2.2.2.2.2.2
theorem S6b_next {w w' : World} (hb : Below w.heap.size w w') {p1 p2 p3 p4 p5 p6 : Addr} {v1 v2 v3 v4 v5 v6 : Value} {w0 : World}
    (h : w.cell? p1 = some v1 ∧ w.cell? p2 = some v2 ∧ w.cell? p3 = some v3 ∧ w.cell? p4 = some v4 ∧ w.cell? p5 = some v5 ∧ w.cell? p6 = some v6 ∧ Below w0.heap.size w0 w) :
    w'.cell? p1 = some v1 ∧ w'.cell? p2 = some v2 ∧ w'.cell? p3 = some v3 ∧ w'.cell? p4 = some v4 ∧ w'.cell? p5 = some v5 ∧ w'.cell? p6 = some v6 ∧ Below w0.heap.size w0 w' := by
  obtain ⟨h1, h2, h3, h4, h5, h6, h7⟩ := h
  exact ⟨cell_next hb h1, cell_next hb h2, cell_next hb h3, cell_next hb h4, cell_next hb h5, cell_next hb h6, bl_trans h7 hb⟩

set_option maxRecDepth 100000 in
set_option maxHeartbeats 4000000 in
theorem rcmpRat_q (q r : Rat) (A B C D : Option Addr) (a b c d : Nat) (w : World) (sA : Sl w A (digs (qn q))) (sB : Sl w B (digs (qd q))) (sC : Sl w C (digs (qn r))) (sD : Sl w D (digs (qd r))) (f1 : fitq q) (f2 : fitq r) (k : Int) (hk : cmpQ q r = k) :
    Calls Tryz.prog 122 #[.agg #[.bool (qs q), .slice A (ln (qn q)) a, .slice B (ln (qd q)) b], .agg #[.bool (qs r), .slice C (ln (qn r)) c, .slice D (ln (qd r)) d]] w fun e w' => e = .returned (.int .i64 k) ∧ Below w.heap.size w w' := by
  have hk' := cmpSg_q q r
  rw [hk] at hk'
  obtain ⟨u, hu⟩ : ∃ u, qn q * qd r = u := ⟨_, rfl⟩
  obtain ⟨v, hv⟩ : ∃ v, qn r * qd q = v := ⟨_, rfl⟩
  have ul : ln u ≤ 128 := by rw [← hu]; exact ln_mul2 f1.1 f2.2
  have vl : ln v ≤ 128 := by rw [← hv]; exact ln_mul2 f2.1 f1.2
  have M1 := hide (fun W (h : Below w.heap.size w W) => rmul_z A D a d (qn q) (qd r) u W (kp' h sA) (kp' h sD) (Nat.le_trans f1.1 (by decide)) (Nat.le_trans f2.2 (by decide)) hu)
  have M2 := hide (fun W (h : Below w.heap.size w W) => rmul_z C B c b (qn r) (qd q) v W (kp' h sC) (kp' h sB) (Nat.le_trans f2.1 (by decide)) (Nat.le_trans f1.2 (by decide)) hv)
  rw [hu, hv] at hk'
  have W1 := hide (fun X e W => rwhole_any (qs q) X (ln u) e W (by omega))
  have W2 := hide (fun X e W => rwhole_any (qs r) X (ln v) e W (by omega))
  obtain ⟨s2, hs2⟩ : ∃ x, (qs q && decide (0 < ln u)) = x := ⟨_, rfl⟩
  obtain ⟨t2, ht2⟩ : ∃ x, (qs r && decide (0 < ln v)) = x := ⟨_, rfl⟩
  rw [hs2] at W1 hk'
  rw [ht2] at W2 hk'
  have CI := hide (fun X Y e f W (sx : Sl W X (digs u)) (sy : Sl W Y (digs v)) => rcmpS_any s2 t2 X Y e f (digs u) (digs v) W sx sy (limbs_digs u) (limbs_digs v) (norm_digs u) (norm_digs v) (Nat.le_trans ul (by decide)) (Nat.le_trans vl (by decide)))
  rw [val_digs, val_digs, hk'] at CI
  have CI : Hid (∀ X Y e f W, Sl W X (digs u) → Sl W Y (digs v) → Calls Tryz.prog 143 #[.agg #[.bool s2, .slice X (ln u) e], .agg #[.bool t2, .slice Y (ln v) f]] W fun e w' => e = .returned (.int .i64 k) ∧ Below W.heap.size W w') := CI
  clear sA sB sC sD f1 f2 hk hk' hu hv ul vl hs2 ht2
  generalize qs q = s at *
  generalize qs r = t at *
  generalize ln (qn q) = i1 at *
  generalize ln (qd q) = i2 at *
  generalize ln (qn r) = i3 at *
  generalize ln (qd r) = i4 at *
  have X1 := hide ((Q3.new (.bool s) (.slice A i1 a) (.slice B i2 b) w).al (.cells #[.bool t, .slice C i3 c, .slice D i4 d] 25))
  have X2 := hide (Q3.new1 (.bool t) (.slice C i3 c) (.slice D i4 d) w (.cells #[.bool s, .slice A i1 a, .slice B i2 b] 25))
  have b0 : Below w.heap.size w ((w.alloc (.cells #[.bool s, .slice A i1 a, .slice B i2 b] 25)).alloc (.cells #[.bool t, .slice C i3 c, .slice D i4 d] 25)) := bl_al (bl_al (.refl _ _) _) _
  obtain ⟨x1, x2, x3, x4, x5, x6⟩ := X1.out
  obtain ⟨y1, y2, y3, y4, y5, y6⟩ := X2.out
  have bd := hide b0.drew
  go_enter Tryz.func122, Tryz.ntmps122
  go_wp2
  go_region_held3 (fun W => W.cell? ⟨w.heap.size, 0, none⟩ = some (.bool s) ∧ W.cell? ⟨w.heap.size, 1, none⟩ = some (.slice A i1 a) ∧ W.cell? ⟨w.heap.size, 2, none⟩ = some (.slice B i2 b) ∧ W.cell? ⟨w.heap.size + 1, 0, none⟩ = some (.bool t) ∧ W.cell? ⟨w.heap.size + 1, 1, none⟩ = some (.slice C i3 c) ∧ W.cell? ⟨w.heap.size + 1, 2, none⟩ = some (.slice D i4 d) ∧ Below w.heap.size w W)
    (first | exact ⟨x1, x2, x3, y1, y2, y3, b0⟩ | exact ⟨x1, x2, x3, y1, y2, y3, bd.out⟩ | with_reducible exact S6b_next hb (by assumption) | with_reducible assumption)
    (first
      | (go_at_call 104; (with_reducible refine (M1.out _ (k6' (by assumption))).mono ?_); rintro e v1 ⟨P1, p1, rfl, z1, hb⟩; (try have z2 := kp' hb z2))
      | (go_at_call 104; (with_reducible refine (M2.out _ (k6' (by assumption))).mono ?_); rintro e v2 ⟨P2, p2, rfl, z2, hb⟩; (try have z1 := kp' hb z1))
      | (go_at_call 121; (with_reducible refine (W1.out P1 p1 _).mono ?_); rintro e v3 ⟨rfl, hb⟩; have z1 := kp' hb z1; (try have z2 := kp' hb z2))
      | (go_at_call 121; (with_reducible refine (W2.out P2 p2 _).mono ?_); rintro e v4 ⟨rfl, hb⟩; have z2 := kp' hb z2; (try have z1 := kp' hb z1))
      | (go_at_call 143; (with_reducible refine (CI.out P1 P2 p1 p2 _ z1 z2).mono ?_); rintro e v5 ⟨rfl, hb⟩))
  all_goals
    go_wp2
    go_ret
    exact ⟨rfl, (k6' (by assumption))⟩

set_option maxRecDepth 100000 in
set_option maxHeartbeats 4000000 in
theorem rcmp_q (q r : Rat) (A B C D : Option Addr) (a b c d : Nat) (w : World) (sA : Sl w A (digs (qn q))) (sB : Sl w B (digs (qd q))) (sC : Sl w C (digs (qn r))) (sD : Sl w D (digs (qd r))) (f1 : fitq q) (f2 : fitq r) (k : Int) (hk : cmpQ q r = k) :
    Calls Tryz.prog 81 #[.agg #[.bool (qs q), .slice A (ln (qn q)) a, .slice B (ln (qd q)) b], .agg #[.bool (qs r), .slice C (ln (qn r)) c, .slice D (ln (qd r)) d]] w fun e w' => e = .returned (.int .i64 k) ∧ Below w.heap.size w w' := by
  have V1 := hide (fun W (k : Below w.heap.size w W) => rvalid_q q A B a b W (kp' k sA) (kp' k sB) f1)
  have V2 := hide (fun W (k : Below w.heap.size w W) => rvalid_q r C D c d W (kp' k sC) (kp' k sD) f2)
  have OP := hide (fun W (k' : Below w.heap.size w W) => rcmpRat_q q r A B C D a b c d W (kp' k' sA) (kp' k' sB) (kp' k' sC) (kp' k' sD) f1 f2 k hk)
  clear sA sB sC sD f1 f2 hk
  generalize qs q = s at *
  generalize qs r = t at *
  generalize ln (qn q) = i1 at *
  generalize ln (qd q) = i2 at *
  generalize ln (qn r) = i3 at *
  generalize ln (qd r) = i4 at *
  have X1 := hide ((Q3.new (.bool s) (.slice A i1 a) (.slice B i2 b) w).al (.cells #[.bool t, .slice C i3 c, .slice D i4 d] 25))
  have X2 := hide (Q3.new1 (.bool t) (.slice C i3 c) (.slice D i4 d) w (.cells #[.bool s, .slice A i1 a, .slice B i2 b] 25))
  have b0 : Below w.heap.size w ((w.alloc (.cells #[.bool s, .slice A i1 a, .slice B i2 b] 25)).alloc (.cells #[.bool t, .slice C i3 c, .slice D i4 d] 25)) := bl_al (bl_al (.refl _ _) _) _
  go_enter Tryz.func81, Tryz.ntmps81
  go_wp2_with (first
    | (go_at_call 30; (with_reducible refine (V1.out _ b0).mono ?_); rintro e w1 ⟨rfl, hb⟩; have X1 := hide (X1.out.next hb); have X2 := hide (X2.out.next hb); (try clear x1 x2 x3 x4 x5 x6 y1 y2 y3 y4 y5 y6); obtain ⟨x1, x2, x3, x4, x5, x6⟩ := X1.out; obtain ⟨y1, y2, y3, y4, y5, y6⟩ := X2.out; have b1 := bl_trans b0 hb; clear hb)
    | (go_at_call 30; (with_reducible refine (V2.out _ b1).mono ?_); rintro e w2 ⟨rfl, hb⟩; have X1 := hide (X1.out.next hb); have X2 := hide (X2.out.next hb); (try clear x1 x2 x3 x4 x5 x6 y1 y2 y3 y4 y5 y6); obtain ⟨x1, x2, x3, x4, x5, x6⟩ := X1.out; obtain ⟨y1, y2, y3, y4, y5, y6⟩ := X2.out; have b2 := bl_trans b1 hb; clear hb)
    | (go_at_call 122; (with_reducible refine (OP.out _ b2).mono ?_); rintro e w3 ⟨rfl, hb⟩; have b3 := bl_trans b2 hb; clear hb))
  go_ret
  exact ⟨rfl, b3⟩
end Nt

end Go.Proofs.YtgimmmmpollkhaaGreat

namespace Go.Proofs.YtgimmmmpollkhaaGreat

open Go.RowKit

namespace Nt

theorem qn_pos0 {r : Rat} (h : r ≠ 0) : 0 < qn r := Int.natAbs_pos.2 (fun e => h (Rat.num_eq_zero.1 e))
theorem quo_qmk (q r : Rat) (h : r ≠ 0) : qmk (qs q != qs r) (qn q * qd r) (qd q * qn r) = q / r := by
  rw [Rat.div_def, mul_qmk, qs_inv h, qn_inv h, qd_inv h]
theorem T6c_next {w w' : World} (hb : Below w.heap.size w w') {p1 p2 p3 p4 p5 p6 : Addr} {v1 v2 v3 v4 v5 v6 : Value}
    (h : w.cell? p1 = some v1 ∧ w.cell? p2 = some v2 ∧ w.cell? p3 = some v3 ∧ w.cell? p4 = some v4 ∧ w.cell? p5 = some v5 ∧ w.cell? p6 = some v6) :
    w'.cell? p1 = some v1 ∧ w'.cell? p2 = some v2 ∧ w'.cell? p3 = some v3 ∧ w'.cell? p4 = some v4 ∧ w'.cell? p5 = some v5 ∧ w'.cell? p6 = some v6 := by
  obtain ⟨h1, h2, h3, h4, h5, h6⟩ := h
  exact ⟨cell_next hb h1, cell_next hb h2, cell_next hb h3, cell_next hb h4, cell_next hb h5, cell_next hb h6⟩
theorem T6c_over {w : World} {g h k : Nat} {v1 v2 v3 v4 v5 v6 a b c : Value} (n1 : h ≠ g) (n2 : k ≠ g)
    (x : w.cell? ⟨h, 0, none⟩ = some v1 ∧ w.cell? ⟨h, 1, none⟩ = some v2 ∧ w.cell? ⟨h, 2, none⟩ = some v3 ∧ w.cell? ⟨k, 0, none⟩ = some v4 ∧ w.cell? ⟨k, 1, none⟩ = some v5 ∧ w.cell? ⟨k, 2, none⟩ = some v6) :
    let W := (((w.setCell ⟨g, 0, none⟩ a).setCell ⟨g, 1, none⟩ b).setCell ⟨g, 2, none⟩ c)
    W.cell? ⟨h, 0, none⟩ = some v1 ∧ W.cell? ⟨h, 1, none⟩ = some v2 ∧ W.cell? ⟨h, 2, none⟩ = some v3 ∧ W.cell? ⟨k, 0, none⟩ = some v4 ∧ W.cell? ⟨k, 1, none⟩ = some v5 ∧ W.cell? ⟨k, 2, none⟩ = some v6 :=
  ⟨cell_over3 x.1 n1 a b c, cell_over3 x.2.1 n1 a b c, cell_over3 x.2.2.1 n1 a b c, cell_over3 x.2.2.2.1 n2 a b c, cell_over3 x.2.2.2.2.1 n2 a b c, cell_over3 x.2.2.2.2.2 n2 a b c⟩
theorem leI (t : TypeId) {x y : Int} (h : x ≤ y) : binOp .gtr t (.int .i64 x) (.int .i64 y) = pure (.bool false) := by
  show pure (Value.bool (decide (x > y))) = _
  rw [decide_eq_false (by omega)]
set_option maxRecDepth 100000 in
set_option maxHeartbeats 1000000 in
theorem rfits_q (q : Rat) (A B : Option Addr) (a b : Nat) (w : World) (sA : Sl w A (digs (qn q))) (sB : Sl w B (digs (qd q))) (f : fitq q) :
    Calls Tryz.prog 102 #[.agg #[.bool (qs q), .slice A (ln (qn q)) a, .slice B (ln (qd q)) b]] w (RQE w q) := by
  have e1 := leI 3 (show (ln (qn q) : Int) ≤ 64 by have := f.1; omega)
  have e2 := leI 3 (show (ln (qd q) : Int) ≤ 64 by have := f.2; omega)
  have X := hide (Q3.new1 (.bool false) (.slice none 0 0) (.slice none 0 0) w (.cells #[.bool (qs q), .slice A (ln (qn q)) a, .slice B (ln (qd q)) b] 25))
  have b0 : Below w.heap.size w ((w.alloc (.cells #[.bool (qs q), .slice A (ln (qn q)) a, .slice B (ln (qd q)) b] 25)).alloc (.cells #[.bool false, .slice none 0 0, .slice none 0 0] 25)) := bl_al (bl_al (.refl _ _) _) _
  have R := hide (fun (W : World) (k : Below w.heap.size w W) => (RQE.mk rfl rfl rfl (kp' k sA) (kp' k sB) k : RQE w q (.returned (.tuple #[.agg #[.bool (qs q), .slice A (ln (qn q)) a, .slice B (ln (qd q)) b], .int .i64 0])) W))
  clear sA sB f
  generalize qs q = s at *
  generalize ln (qn q) = i1 at *
  generalize ln (qd q) = i2 at *
  have X1 := hide ((Q3.new (.bool s) (.slice A i1 a) (.slice B i2 b) w).al (.cells #[.bool false, .slice none 0 0, .slice none 0 0] 25))
  obtain ⟨x1, x2, x3, x4, x5, x6⟩ := X.out
  obtain ⟨y1, y2, y3, y4, y5, y6⟩ := X1.out
  go_enter Tryz.func102, Tryz.ntmps102
  go_wp2
  exact bodyPost_ret (v := .tuple #[.agg #[.bool s, .slice A i1 a, .slice B i2 b], .int .i64 0]) (by simp [results, Tryz.results102, go_sem]) rfl (R.out _ (bl_al (bl_al (.refl _ _) _) _))

set_option maxRecDepth 100000 in
set_option maxHeartbeats 4000000 in
theorem rmul_q (q r Z : Rat) (hZ : q * r = Z) (A B C D : Option Addr) (a b c d : Nat) (w : World) (sA : Sl w A (digs (qn q))) (sB : Sl w B (digs (qd q))) (sC : Sl w C (digs (qn r))) (sD : Sl w D (digs (qd r))) (f1 : fitq q) (f2 : fitq r) (f3 : fitq Z) :
    Calls Tryz.prog 59 #[.agg #[.bool (qs q), .slice A (ln (qn q)) a, .slice B (ln (qd q)) b], .agg #[.bool (qs r), .slice C (ln (qn r)) c, .slice D (ln (qd r)) d]] w (RQE w Z) := by
  have V1 := hide (fun W (k : Below w.heap.size w W) => rvalid_q q A B a b W (kp' k sA) (kp' k sB) f1)
  have V2 := hide (fun W (k : Below w.heap.size w W) => rvalid_q r C D c d W (kp' k sC) (kp' k sD) f2)
  obtain ⟨u, hu⟩ : ∃ x, qn q * qn r = x := ⟨_, rfl⟩
  have ul : ln u ≤ 128 := by rw [← hu]; exact ln_mul2 f1.1 f2.1
  obtain ⟨v, hv⟩ : ∃ x, qd q * qd r = x := ⟨_, rfl⟩
  have vl : ln v ≤ 128 := by rw [← hv]; exact ln_mul2 f1.2 f2.2
  have M1 := hide (fun W (h : Below w.heap.size w W) => rmul_z A C a c (qn q) (qn r) u W (kp' h sA) (kp' h sC) (Nat.le_trans f1.1 (by decide)) (Nat.le_trans f2.1 (by decide)) hu)
  have M2 := hide (fun W (h : Below w.heap.size w W) => rmul_z B D b d (qd q) (qd r) v W (kp' h sB) (kp' h sD) (Nat.le_trans f1.2 (by decide)) (Nat.le_trans f2.2 (by decide)) hv)
  have vp : 0 < v := by rw [← hv]; exact Nat.mul_pos (qd_pos q) (qd_pos r)
  obtain ⟨s2, hs2⟩ : ∃ x, (qs q != qs r) = x := ⟨_, rfl⟩
  have hq : qmk s2 u v = Z := by rw [← hs2, ← hu, ← hv, ← hZ]; exact (mul_qmk q r).symm
  have MD := hide (fun X Y e f W (sx : Sl W X (digs u)) (sy : Sl W Y (digs v)) => rmade_q s2 X Y e f u v Z W sx sy (by omega) (by omega) vp hq)
  have FT := hide (fun X Y e f W (sx : Sl W X (digs (qn Z))) (sy : Sl W Y (digs (qd Z))) => rfits_q Z X Y e f W sx sy f3)
  have on : ∀ W : World, (binOp .neq 4 (.bool (qs q)) (.bool (qs r))).run Tryz.prog W = .ok (.bool s2) W := fun W => by
    rw [← hs2]
    cases qs q <;> cases qs r <;> kernel_rfl
  clear sA sB sC sD f1 f2 f3 hZ hu hv ul vl vp hq hs2
  generalize qs q = s at *
  generalize qs r = t at *
  generalize ln (qn q) = i1 at *
  generalize ln (qd q) = i2 at *
  generalize ln (qn r) = i3 at *
  generalize ln (qd r) = i4 at *
  have X1 := hide (((Q3.new (.bool s) (.slice A i1 a) (.slice B i2 b) w).al (.cells #[.bool t, .slice C i3 c, .slice D i4 d] 25)).al (.cells #[.bool false, .slice none 0 0, .slice none 0 0] 25))
  have X2 := hide ((Q3.new1 (.bool t) (.slice C i3 c) (.slice D i4 d) w (.cells #[.bool s, .slice A i1 a, .slice B i2 b] 25)).al (.cells #[.bool false, .slice none 0 0, .slice none 0 0] 25))
  have X3 := hide (Q3.new2 (.bool false) (.slice none 0 0) (.slice none 0 0) w (.cells #[.bool s, .slice A i1 a, .slice B i2 b] 25) (.cells #[.bool t, .slice C i3 c, .slice D i4 d] 25))
  have b0 : Below w.heap.size w (((w.alloc (.cells #[.bool s, .slice A i1 a, .slice B i2 b] 25)).alloc (.cells #[.bool t, .slice C i3 c, .slice D i4 d] 25)).alloc (.cells #[.bool false, .slice none 0 0, .slice none 0 0] 25)) := bl_al (bl_al (bl_al (.refl _ _) _) _) _
  obtain ⟨x1, x2, x3, x4, x5, x6⟩ := X1.out
  obtain ⟨y1, y2, y3, y4, y5, y6⟩ := X2.out
  obtain ⟨u1, u2, u3, u4, u5, u6⟩ := X3.out
  go_enter Tryz.func59, Tryz.ntmps59
  go_wp2_with (first
    | (go_at_call 30; (with_reducible refine (V1.out _ b0).mono ?_); rintro e w1 ⟨rfl, hb⟩; have X1 := hide (X1.out.next hb); have X2 := hide (X2.out.next hb); have X3 := hide (X3.out.next hb); (try clear x1 x2 x3 x4 x5 x6 y1 y2 y3 y4 y5 y6 u1 u2 u3 u4 u5 u6); obtain ⟨x1, x2, x3, x4, x5, x6⟩ := X1.out; obtain ⟨y1, y2, y3, y4, y5, y6⟩ := X2.out; obtain ⟨u1, u2, u3, u4, u5, u6⟩ := X3.out; have b1 := bl_trans b0 hb; clear hb)
    | (go_at_call 30; (with_reducible refine (V2.out _ b1).mono ?_); rintro e w2 ⟨rfl, hb⟩; have X1 := hide (X1.out.next hb); have X2 := hide (X2.out.next hb); have X3 := hide (X3.out.next hb); (try clear x1 x2 x3 x4 x5 x6 y1 y2 y3 y4 y5 y6 u1 u2 u3 u4 u5 u6); obtain ⟨x1, x2, x3, x4, x5, x6⟩ := X1.out; obtain ⟨y1, y2, y3, y4, y5, y6⟩ := X2.out; obtain ⟨u1, u2, u3, u4, u5, u6⟩ := X3.out; have b2 := bl_trans b1 hb; clear hb))
  have kb := hide b2.drew
  have X3 := hide X3.out.drew
  go_region_held3 (fun W => W.cell? ⟨w.heap.size, 0, none⟩ = some (.bool s) ∧ W.cell? ⟨w.heap.size, 1, none⟩ = some (.slice A i1 a) ∧ W.cell? ⟨w.heap.size, 2, none⟩ = some (.slice B i2 b) ∧ W.cell? ⟨w.heap.size + 1, 0, none⟩ = some (.bool t) ∧ W.cell? ⟨w.heap.size + 1, 1, none⟩ = some (.slice C i3 c) ∧ W.cell? ⟨w.heap.size + 1, 2, none⟩ = some (.slice D i4 d))
    (first | exact ⟨x1, x2, x3, y1, y2, y3⟩ | with_reducible exact T6c_next hb (by assumption) | with_reducible exact T6c_over (by omega) (by omega) (by assumption) | with_reducible assumption)
    (first
      | (go_at_call 104; (with_reducible refine (M1.out _ kb.out).mono ?_); rintro e v1 ⟨P1, p1, rfl, z1, hb⟩; have X3 := hide (X3.out.next hb); have kb := hide (bl_trans kb.out hb); (try have z2 := kp' hb z2))
      | (go_at_call 104; (with_reducible refine (M2.out _ kb.out).mono ?_); rintro e v2 ⟨P2, p2, rfl, z2, hb⟩; have X3 := hide (X3.out.next hb); have kb := hide (bl_trans kb.out hb); (try have z1 := kp' hb z1))
      | (go_at_call 103; (with_reducible refine (MD.out P1 P2 p1 p2 _ z1 z2).mono ?_); rintro e v3 ⟨P3, p3, P4, p4, rfl, z3, z4, hb⟩; have X3 := hide (X3.out.next hb); have kb := hide (bl_trans kb.out hb))
      | (go_at_call 102; (with_reducible refine (FT.out P3 P4 p3 p4 _ z3 z4).mono ?_); rintro e v4 ⟨P5, p5, P6, p6, rfl, z5, z6, hb⟩; have X3 := hide (X3.out.next hb); have kb := hide (bl_trans kb.out hb); obtain ⟨k1, k2, k3, k4, k5, k6⟩ := X3.out))
  all_goals
    go_wp2
    exact bodyPost_ret (v := .tuple #[.agg #[.bool (qs Z), .slice P5 (ln (qn Z)) p5, .slice P6 (ln (qd Z)) p6], .int .i64 0]) (by simp [results, Tryz.results59, go_sem, k1, k2, k3]) rfl (RQE.mk rfl rfl rfl (z5.over3 X3.out _ _ _) (z6.over3 X3.out _ _ _) (Below.over3 kb.out (by omega) _ _ _))

set_option maxRecDepth 100000 in
set_option maxHeartbeats 4000000 in
theorem rquo_q (q r Z : Rat) (hZ : q / r = Z) (A B C D : Option Addr) (a b c d : Nat) (w : World) (sA : Sl w A (digs (qn q))) (sB : Sl w B (digs (qd q))) (sC : Sl w C (digs (qn r))) (sD : Sl w D (digs (qd r))) (f1 : fitq q) (f2 : fitq r) (h0 : r ≠ 0) (f3 : fitq Z) :
    Calls Tryz.prog 64 #[.agg #[.bool (qs q), .slice A (ln (qn q)) a, .slice B (ln (qd q)) b], .agg #[.bool (qs r), .slice C (ln (qn r)) c, .slice D (ln (qd r)) d]] w (RQE w Z) := by
  have V1 := hide (fun W (k : Below w.heap.size w W) => rvalid_q q A B a b W (kp' k sA) (kp' k sB) f1)
  have V2 := hide (fun W (k : Below w.heap.size w W) => rvalid_q r C D c d W (kp' k sC) (kp' k sD) f2)
  obtain ⟨u, hu⟩ : ∃ x, qn q * qd r = x := ⟨_, rfl⟩
  have ul : ln u ≤ 128 := by rw [← hu]; exact ln_mul2 f1.1 f2.2
  obtain ⟨v, hv⟩ : ∃ x, qd q * qn r = x := ⟨_, rfl⟩
  have vl : ln v ≤ 128 := by rw [← hv]; exact ln_mul2 f1.2 f2.1
  have M1 := hide (fun W (h : Below w.heap.size w W) => rmul_z A D a d (qn q) (qd r) u W (kp' h sA) (kp' h sD) (Nat.le_trans f1.1 (by decide)) (Nat.le_trans f2.2 (by decide)) hu)
  have M2 := hide (fun W (h : Below w.heap.size w W) => rmul_z B C b c (qd q) (qn r) v W (kp' h sB) (kp' h sC) (Nat.le_trans f1.2 (by decide)) (Nat.le_trans f2.1 (by decide)) hv)
  have vp : 0 < v := by rw [← hv]; exact Nat.mul_pos (qd_pos q) (qn_pos0 h0)
  obtain ⟨s2, hs2⟩ : ∃ x, (qs q != qs r) = x := ⟨_, rfl⟩
  have hq : qmk s2 u v = Z := by rw [← hs2, ← hu, ← hv, ← hZ]; exact quo_qmk q r h0
  have MD := hide (fun X Y e f W (sx : Sl W X (digs u)) (sy : Sl W Y (digs v)) => rmade_q s2 X Y e f u v Z W sx sy (by omega) (by omega) vp hq)
  have FT := hide (fun X Y e f W (sx : Sl W X (digs (qn Z))) (sy : Sl W Y (digs (qd Z))) => rfits_q Z X Y e f W sx sy f3)
  have on : ∀ W : World, (binOp .neq 4 (.bool (qs q)) (.bool (qs r))).run Tryz.prog W = .ok (.bool s2) W := fun W => by
    rw [← hs2]
    cases qs q <;> cases qs r <;> kernel_rfl
  have hj : ((ln (qn r) : Int) == 0) = false := beq_eq_false_iff_ne.2 (by have := ln_pos.2 (qn_pos0 h0); omega)
  clear sA sB sC sD f1 f2 f3 hZ hu hv ul vl vp hq hs2 h0
  generalize qs q = s at *
  generalize qs r = t at *
  generalize ln (qn q) = i1 at *
  generalize ln (qd q) = i2 at *
  generalize ln (qn r) = i3 at *
  generalize ln (qd r) = i4 at *
  have X1 := hide (((Q3.new (.bool s) (.slice A i1 a) (.slice B i2 b) w).al (.cells #[.bool t, .slice C i3 c, .slice D i4 d] 25)).al (.cells #[.bool false, .slice none 0 0, .slice none 0 0] 25))
  have X2 := hide ((Q3.new1 (.bool t) (.slice C i3 c) (.slice D i4 d) w (.cells #[.bool s, .slice A i1 a, .slice B i2 b] 25)).al (.cells #[.bool false, .slice none 0 0, .slice none 0 0] 25))
  have X3 := hide (Q3.new2 (.bool false) (.slice none 0 0) (.slice none 0 0) w (.cells #[.bool s, .slice A i1 a, .slice B i2 b] 25) (.cells #[.bool t, .slice C i3 c, .slice D i4 d] 25))
  have b0 : Below w.heap.size w (((w.alloc (.cells #[.bool s, .slice A i1 a, .slice B i2 b] 25)).alloc (.cells #[.bool t, .slice C i3 c, .slice D i4 d] 25)).alloc (.cells #[.bool false, .slice none 0 0, .slice none 0 0] 25)) := bl_al (bl_al (bl_al (.refl _ _) _) _) _
  obtain ⟨x1, x2, x3, x4, x5, x6⟩ := X1.out
  obtain ⟨y1, y2, y3, y4, y5, y6⟩ := X2.out
  obtain ⟨u1, u2, u3, u4, u5, u6⟩ := X3.out
  go_enter Tryz.func64, Tryz.ntmps64
  go_wp2_with (first
    | (go_at_call 30; (with_reducible refine (V1.out _ b0).mono ?_); rintro e w1 ⟨rfl, hb⟩; have X1 := hide (X1.out.next hb); have X2 := hide (X2.out.next hb); have X3 := hide (X3.out.next hb); (try clear x1 x2 x3 x4 x5 x6 y1 y2 y3 y4 y5 y6 u1 u2 u3 u4 u5 u6); obtain ⟨x1, x2, x3, x4, x5, x6⟩ := X1.out; obtain ⟨y1, y2, y3, y4, y5, y6⟩ := X2.out; obtain ⟨u1, u2, u3, u4, u5, u6⟩ := X3.out; have b1 := bl_trans b0 hb; clear hb)
    | (go_at_call 30; (with_reducible refine (V2.out _ b1).mono ?_); rintro e w2 ⟨rfl, hb⟩; have X1 := hide (X1.out.next hb); have X2 := hide (X2.out.next hb); have X3 := hide (X3.out.next hb); (try clear x1 x2 x3 x4 x5 x6 y1 y2 y3 y4 y5 y6 u1 u2 u3 u4 u5 u6); obtain ⟨x1, x2, x3, x4, x5, x6⟩ := X1.out; obtain ⟨y1, y2, y3, y4, y5, y6⟩ := X2.out; obtain ⟨u1, u2, u3, u4, u5, u6⟩ := X3.out; have b2 := bl_trans b1 hb; clear hb))
  have kb := hide b2.drew
  have X3 := hide X3.out.drew
  go_region_held3 (fun W => W.cell? ⟨w.heap.size, 0, none⟩ = some (.bool s) ∧ W.cell? ⟨w.heap.size, 1, none⟩ = some (.slice A i1 a) ∧ W.cell? ⟨w.heap.size, 2, none⟩ = some (.slice B i2 b) ∧ W.cell? ⟨w.heap.size + 1, 0, none⟩ = some (.bool t) ∧ W.cell? ⟨w.heap.size + 1, 1, none⟩ = some (.slice C i3 c) ∧ W.cell? ⟨w.heap.size + 1, 2, none⟩ = some (.slice D i4 d))
    (first | exact ⟨x1, x2, x3, y1, y2, y3⟩ | with_reducible exact T6c_next hb (by assumption) | with_reducible exact T6c_over (by omega) (by omega) (by assumption) | with_reducible assumption)
    (first
      | (go_at_call 104; (with_reducible refine (M1.out _ kb.out).mono ?_); rintro e v1 ⟨P1, p1, rfl, z1, hb⟩; have X3 := hide (X3.out.next hb); have kb := hide (bl_trans kb.out hb); (try have z2 := kp' hb z2))
      | (go_at_call 104; (with_reducible refine (M2.out _ kb.out).mono ?_); rintro e v2 ⟨P2, p2, rfl, z2, hb⟩; have X3 := hide (X3.out.next hb); have kb := hide (bl_trans kb.out hb); (try have z1 := kp' hb z1))
      | (go_at_call 103; (with_reducible refine (MD.out P1 P2 p1 p2 _ z1 z2).mono ?_); rintro e v3 ⟨P3, p3, P4, p4, rfl, z3, z4, hb⟩; have X3 := hide (X3.out.next hb); have kb := hide (bl_trans kb.out hb))
      | (go_at_call 102; (with_reducible refine (FT.out P3 P4 p3 p4 _ z3 z4).mono ?_); rintro e v4 ⟨P5, p5, P6, p6, rfl, z5, z6, hb⟩; have X3 := hide (X3.out.next hb); have kb := hide (bl_trans kb.out hb); obtain ⟨k1, k2, k3, k4, k5, k6⟩ := X3.out))
  all_goals
    go_wp2
    exact bodyPost_ret (v := .tuple #[.agg #[.bool (qs Z), .slice P5 (ln (qn Z)) p5, .slice P6 (ln (qd Z)) p6], .int .i64 0]) (by simp [results, Tryz.results64, go_sem, k1, k2, k3]) rfl (RQE.mk rfl rfl rfl (z5.over3 X3.out _ _ _) (z6.over3 X3.out _ _ _) (Below.over3 kb.out (by omega) _ _ _))
end Nt

end Go.Proofs.YtgimmmmpollkhaaGreat

namespace Go.Proofs.YtgimmmmpollkhaaGreat

open Go.RowKit

namespace Nt

set_option maxRecDepth 100000 in
set_option maxHeartbeats 4000000 in
theorem sign_no (s : Bool) (A B : Option Addr) (a b : Nat) (xs ys : List Nat) (w : World) (sA : Sl w A xs) (sB : Sl w B ys) (lx : Limbs xs) (ly : Limbs ys) (m1 : xs.length ≤ 1000000) (m2 : ys.length ≤ 1000000) (h : validQ s xs ys = false) :
    Calls Tryz.prog 71 #[.agg #[.bool s, .slice A xs.length a, .slice B ys.length b]] w fun e w' => e = .returned (.int .i64 0) ∧ Below w.heap.size w w' := by
  have V1 := hide (fun W (k : Below w.heap.size w W) => validQ_any s A B a b xs ys W (kp' k sA) (kp' k sB) lx ly m1 m2 false h)
  clear sA sB lx ly m1 m2 h
  generalize xs.length = i1 at *
  generalize ys.length = i2 at *
  have X1 := hide (Q3.new (.bool s) (.slice A i1 a) (.slice B i2 b) w)
  have b0 : Below w.heap.size w (w.alloc (.cells #[.bool s, .slice A i1 a, .slice B i2 b] 25)) := bl_al (.refl _ _) _
  go_enter Tryz.func71, Tryz.ntmps71
  go_wp2_with (first
    | (go_at_call 56; (with_reducible refine (V1.out _ b0).mono ?_); rintro e w1 ⟨rfl, hb⟩; have X1 := hide (X1.out.next hb); obtain ⟨x1, x2, x3, x4, x5, x6⟩ := X1.out; have b1 := bl_trans b0 hb; clear hb))
  go_ret
  exact ⟨rfl, b1⟩
end Nt

end Go.Proofs.YtgimmmmpollkhaaGreat

namespace Go.Proofs.YtgimmmmpollkhaaGreat

open Go.RowKit

namespace Nt

set_option maxRecDepth 100000 in
set_option maxHeartbeats 4000000 in
theorem rnew_q (x y : Int) (A B : Option Addr) (c d : Nat) (q : Rat) (w : World) (sx : Sl w A (digs x.natAbs)) (sy : Sl w B (digs y.natAbs)) (hx : ln x.natAbs ≤ 64) (hy : ln y.natAbs ≤ 64) (h0 : y ≠ 0) (hq : qmk (isg x != isg y) x.natAbs y.natAbs = q) :
    Calls Tryz.prog 79 #[.agg #[.bool (isg x), .slice A (ln x.natAbs) c], .agg #[.bool (isg y), .slice B (ln y.natAbs) d]] w (RQE w q) := by
  have yp : 0 < y.natAbs := Int.natAbs_pos.2 h0
  have V1 := hide (fun W (k : Below w.heap.size w W) => rvalidI_any (isg x) A c (digs x.natAbs) W (kp' k sx) (Nat.le_trans hx (by decide)))
  have V2 := hide (fun W (k : Below w.heap.size w W) => rvalidI_any (isg y) B d (digs y.natAbs) W (kp' k sy) (Nat.le_trans hy (by decide)))
  rw [show validI (isg x) (digs x.natAbs) = true from validI_num (lt_of_ln hx)] at V1
  rw [show validI (isg y) (digs y.natAbs) = true from validI_num (lt_of_ln hy)] at V2
  obtain ⟨n, hn⟩ : ∃ n, ln x.natAbs = n := ⟨_, rfl⟩
  obtain ⟨m, hm⟩ : ∃ n, ln y.natAbs = n := ⟨_, rfl⟩
  have V1 : Hid (∀ W, Below w.heap.size w W → Calls Tryz.prog 120 #[.agg #[.bool (isg x), .slice A n c]] W fun e w' => e = .returned (.bool true) ∧ Below W.heap.size W w') := by rw [← hn]; exact V1
  have V2 : Hid (∀ W, Below w.heap.size w W → Calls Tryz.prog 120 #[.agg #[.bool (isg y), .slice B m d]] W fun e w' => e = .returned (.bool true) ∧ Below W.heap.size W w') := by rw [← hm]; exact V2
  obtain ⟨s2, hs2⟩ : ∃ z, (isg x != isg y) = z := ⟨_, rfl⟩
  rw [hs2] at hq
  have MD := hide (fun W (k : Below w.heap.size w W) => rmade_q s2 A B c d x.natAbs y.natAbs q W (kp' k sx) (kp' k sy) (Nat.le_trans hx (by decide)) (Nat.le_trans hy (by decide)) yp hq)
  rw [hn, hm] at MD
  rw [hn, hm]
  have hj : ((m : Int) == 0) = false := beq_eq_false_iff_ne.2 (by rw [← hm]; have := ln_pos.2 yp; omega)
  have on : ∀ W : World, (binOp .neq 4 (.bool (isg x)) (.bool (isg y))).run Tryz.prog W = .ok (.bool s2) W := fun W => by
    rw [← hs2]
    cases isg x <;> cases isg y <;> kernel_rfl
  clear sx sy hx hy h0 hq yp hs2 hn hm
  generalize isg x = s at *
  generalize isg y = t at *
  have X1 := hide (((Q2.new (.bool s) (.slice A n c) w).al (.cells #[.bool t, .slice B m d] 104)).al (.cells #[.bool false, .slice none 0 0, .slice none 0 0] 25))
  have X2 := hide ((Q2.new1 (.bool t) (.slice B m d) w (.cells #[.bool s, .slice A n c] 104)).al (.cells #[.bool false, .slice none 0 0, .slice none 0 0] 25))
  have X3 := hide (Q3.new2 (.bool false) (.slice none 0 0) (.slice none 0 0) w (.cells #[.bool s, .slice A n c] 104) (.cells #[.bool t, .slice B m d] 104))
  have b0 : Below w.heap.size w (((w.alloc (.cells #[.bool s, .slice A n c] 104)).alloc (.cells #[.bool t, .slice B m d] 104)).alloc (.cells #[.bool false, .slice none 0 0, .slice none 0 0] 25)) := bl_al (bl_al (bl_al (.refl _ _) _) _) _
  go_enter Tryz.func79, Tryz.ntmps79
  go_wp2_with (first
    | (go_at_call 120; (with_reducible refine (V1.out _ b0).mono ?_); rintro e w1 ⟨rfl, hb⟩; have X1 := hide (X1.out.next hb); have X2 := hide (X2.out.next hb); have X3 := hide (X3.out.next hb); (try clear x1 x2 x3 x4 y1 y2 y3 y4 u1 u2 u3 u4 u5 u6); obtain ⟨x1, x2, x3, x4⟩ := X1.out; obtain ⟨y1, y2, y3, y4⟩ := X2.out; obtain ⟨u1, u2, u3, u4, u5, u6⟩ := X3.out; have b1 := bl_trans b0 hb; clear hb)
    | (go_at_call 120; (with_reducible refine (V2.out _ b1).mono ?_); rintro e w2 ⟨rfl, hb⟩; have X1 := hide (X1.out.next hb); have X2 := hide (X2.out.next hb); have X3 := hide (X3.out.next hb); (try clear x1 x2 x3 x4 y1 y2 y3 y4 u1 u2 u3 u4 u5 u6); obtain ⟨x1, x2, x3, x4⟩ := X1.out; obtain ⟨y1, y2, y3, y4⟩ := X2.out; obtain ⟨u1, u2, u3, u4, u5, u6⟩ := X3.out; have b2 := bl_trans b1 hb; clear hb)
    | (go_at_call 103; (with_reducible refine (MD.out _ b2).mono ?_); rintro e w3 ⟨A3, c3, B3, d3, rfl, s3, t3, hb⟩; have X1 := hide (X1.out.next hb); have X2 := hide (X2.out.next hb); have X3 := hide (X3.out.next hb); (try clear x1 x2 x3 x4 y1 y2 y3 y4 u1 u2 u3 u4 u5 u6); obtain ⟨x1, x2, x3, x4⟩ := X1.out; obtain ⟨y1, y2, y3, y4⟩ := X2.out; obtain ⟨u1, u2, u3, u4, u5, u6⟩ := X3.out; have b3 := bl_trans b2 hb; clear hb))
  exact bodyPost_ret (v := .tuple #[.agg #[.bool (qs q), .slice A3 (ln (qn q)) c3, .slice B3 (ln (qd q)) d3], .int .i64 0]) (by simp [results, Tryz.results79, go_sem, u1, u2, u3]) rfl (RQE.mk rfl rfl rfl (s3.over3 X3.out _ _ _) (t3.over3 X3.out _ _ _) (Below.over3 b3 (by omega) _ _ _))

theorem q3_frozen3 {g h k : Nat} {w : World} (f : w.frozen? ⟨h, k, none⟩ = false) (a b c : Value) : (((w.setCell ⟨g, 0, none⟩ a).setCell ⟨g, 1, none⟩ b).setCell ⟨g, 2, none⟩ c).frozen? ⟨h, k, none⟩ = false := by
  rw [World.frozen?_setCell, World.frozen?_setCell, World.frozen?_setCell]; exact f
theorem q3_put {g : Nat} {u v x : Value} {w : World} (k : Q3 g u v x w) (a b c : Value) : Q3 g a b c (((w.setCell ⟨g, 0, none⟩ a).setCell ⟨g, 1, none⟩ b).setCell ⟨g, 2, none⟩ c) := by
  have ne : ∀ {i j : Nat}, i ≠ j → (⟨g, i, none⟩ : Addr) ≠ ⟨g, j, none⟩ := by
    intro i j hh e
    injection e with _ e2 _
    exact hh e2
  refine ⟨?_, ?_, ?_, q3_frozen3 k.2.2.2.1 a b c, q3_frozen3 k.2.2.2.2.1 a b c, q3_frozen3 k.2.2.2.2.2 a b c⟩
  · rw [World.cell?_setCell_other _ _ _ _ (ne (by decide)), World.cell?_setCell_other _ _ _ _ (ne (by decide))]
    exact World.cell?_setCell_same _ _ _ k.1
  · rw [World.cell?_setCell_other _ _ _ _ (ne (by decide))]
    exact World.cell?_setCell_same _ _ _ (by rw [World.cell?_setCell_other _ _ _ _ (ne (by decide))]; exact k.2.1)
  · exact World.cell?_setCell_same _ _ _ (by rw [World.cell?_setCell_other _ _ _ _ (ne (by decide)), World.cell?_setCell_other _ _ _ _ (ne (by decide))]; exact k.2.2.1)
set_option maxRecDepth 100000 in
set_option maxHeartbeats 4000000 in
theorem rof0_q (q : Rat) (hq : q = 0) (w : World) : Calls Tryz.prog 31 #[.int .i64 0, .int .i64 1] w (RQ w q) := by
  have hq' : qmk (isg 0 != isg 1) (0 : Int).natAbs (1 : Int).natAbs = q := by rw [hq]; decide
  have R0 := hide (fun W (_ : Below w.heap.size w W) => rof_z 0 W (by decide) (by decide))
  have R1 := hide (fun W (_ : Below w.heap.size w W) => rof_z 1 W (by decide) (by decide))
  have NW := hide (fun X Y e g W (_ : Below w.heap.size w W) s1 s2 => rnew_q 0 1 X Y e g q W s1 s2 (by rw [show (0 : Int).natAbs = 0 from rfl, ln_zero]; decide) (by rw [show (1 : Int).natAbs = 1 from rfl, ln_one]; decide) (by decide) hq')
  clear hq hq'
  generalize isg 0 = s0 at *
  generalize isg 1 = s1 at *
  generalize (0 : Int).natAbs = k0 at *
  generalize (1 : Int).natAbs = k1 at *
  have X3 := hide (Q3.new (.bool false) (.slice none 0 0) (.slice none 0 0) w)
  have kb := hide (bl_al (.refl w.heap.size w) (.cells #[.bool false, .slice none 0 0, .slice none 0 0] 25))
  have oe : binOp .eql 3 (.int .i64 1) (.int .i64 0) = pure (.bool false) := rfl
  go_enter Tryz.func31, Tryz.ntmps31
  go_wp2_with (first
    | (go_at_call 80; (with_reducible refine (R0.out _ kb.out).mono ?_); rintro e v1 ⟨P1, p1, rfl, z1, hb⟩; have X3 := hide (X3.out.next hb); have kb := hide (bl_trans kb.out hb))
    | (go_at_call 80; (with_reducible refine (R1.out _ kb.out).mono ?_); rintro e v2 ⟨P2, p2, rfl, z2, hb⟩; have X3 := hide (X3.out.next hb); have kb := hide (bl_trans kb.out hb); have z1 := kp' hb z1)
    | (go_at_call 79; (with_reducible refine (NW.out P1 P2 p1 p2 _ kb.out z1 z2).mono ?_); rintro e w3 ⟨A3, c3, B3, d3, rfl, s3, t3, hb⟩; have X3 := hide (X3.out.next hb); have kb := hide (bl_trans kb.out hb); obtain ⟨u1, u2, u3, u4, u5, u6⟩ := X3.out.al (.cells #[.bool (qs q), .slice A3 (ln (qn q)) c3, .slice B3 (ln (qd q)) d3] 25); obtain ⟨y1, y2, y3, y4, y5, y6⟩ := Q3.new (.bool (qs q)) (.slice A3 (ln (qn q)) c3) (.slice B3 (ln (qd q)) d3) w3; have lx := X3.out.lt; have XA := X3; have ne1 : (⟨w.heap.size, 0, none⟩ : Addr) ≠ ⟨w.heap.size, 1, none⟩ := (by intro e; injection e with _ e2 _; exact absurd e2 (by decide)); have ne2 : (⟨w.heap.size, 0, none⟩ : Addr) ≠ ⟨w.heap.size, 2, none⟩ := (by intro e; injection e with _ e2 _; exact absurd e2 (by decide)); have ne3 : (⟨w.heap.size, 1, none⟩ : Addr) ≠ ⟨w.heap.size, 2, none⟩ := (by intro e; injection e with _ e2 _; exact absurd e2 (by decide)); have h1 : (w3.setCell ⟨w.heap.size, 0, none⟩ (.bool (qs q))).cell? ⟨w.heap.size, 1, none⟩ = some (.slice none 0 0) := (by rw [World.cell?_setCell_other _ _ _ _ ne1]; exact XA.out.2.1); have h2 : ((w3.setCell ⟨w.heap.size, 0, none⟩ (.bool (qs q))).setCell ⟨w.heap.size, 1, none⟩ (.slice A3 (ln (qn q)) c3)).cell? ⟨w.heap.size, 2, none⟩ = some (.slice none 0 0) := (by rw [World.cell?_setCell_other _ _ _ _ ne3, World.cell?_setCell_other _ _ _ _ ne2]; exact XA.out.2.2.1); have i1 := cell_next (bl_al (.refl _ _) (.cells #[.bool (qs q), .slice A3 (ln (qn q)) c3, .slice B3 (ln (qd q)) d3] 25)) h1; have i2 := cell_next (bl_al (.refl _ _) (.cells #[.bool (qs q), .slice A3 (ln (qn q)) c3, .slice B3 (ln (qd q)) d3] 25)) h2; have i3 := frozen_next (bl_al (.refl _ _) (.cells #[.bool (qs q), .slice A3 (ln (qn q)) c3, .slice B3 (ln (qd q)) d3] 25)) h1 (by rw [World.frozen?_setCell]; exact XA.out.2.2.2.2.1); have i4 := frozen_next (bl_al (.refl _ _) (.cells #[.bool (qs q), .slice A3 (ln (qn q)) c3, .slice B3 (ln (qd q)) d3] 25)) h2 (by rw [World.frozen?_setCell, World.frozen?_setCell]; exact XA.out.2.2.2.2.2); obtain ⟨r1, r2, r3, r4, r5, r6⟩ := (q3_put XA.out (.bool (qs q)) (.slice A3 (ln (qn q)) c3) (.slice B3 (ln (qd q)) d3)).al (.cells #[.bool (qs q), .slice A3 (ln (qn q)) c3, .slice B3 (ln (qd q)) d3] 25); clear h1 h2 ne1 ne2 ne3))
  refine bodyPost_ret (v := .agg #[.bool (qs q), .slice A3 (ln (qn q)) c3, .slice B3 (ln (qd q)) d3]) (by simp [results, Tryz.results31, go_sem, r1, r2, r3]) rfl (RQ.mk rfl rfl rfl ((s3.over3 XA.out (.bool (qs q)) (.slice A3 (ln (qn q)) c3) (.slice B3 (ln (qd q)) d3)).alloc (.cells #[.bool (qs q), .slice A3 (ln (qn q)) c3, .slice B3 (ln (qd q)) d3] 25)) ((t3.over3 XA.out (.bool (qs q)) (.slice A3 (ln (qn q)) c3) (.slice B3 (ln (qd q)) d3)).alloc (.cells #[.bool (qs q), .slice A3 (ln (qn q)) c3, .slice B3 (ln (qd q)) d3] 25)) (bl_al (Below.over3 kb.out (Nat.le_refl _) (.bool (qs q)) (.slice A3 (ln (qn q)) c3) (.slice B3 (ln (qd q)) d3)) (.cells #[.bool (qs q), .slice A3 (ln (qn q)) c3, .slice B3 (ln (qd q)) d3] 25)))

theorem sign_cmpQ0 (z : Rat) : cmpZ z.num 0 = cmpQ z 0 := by
  rw [cmpQ_Z, show qd 0 = 1 from rfl, show (0 : Rat).num = 0 from rfl, Int.zero_mul, show ((1 : Nat) : Int) = 1 from rfl, Int.mul_one]
theorem S3b_next {w w' : World} (hb : Below w.heap.size w w') {p1 p2 p3 : Addr} {v1 v2 v3 : Value} {w0 : World} (h : w.cell? p1 = some v1 ∧ w.cell? p2 = some v2 ∧ w.cell? p3 = some v3 ∧ Below w0.heap.size w0 w) :
    w'.cell? p1 = some v1 ∧ w'.cell? p2 = some v2 ∧ w'.cell? p3 = some v3 ∧ Below w0.heap.size w0 w' := ⟨cell_next hb h.1, cell_next hb h.2.1, cell_next hb h.2.2.1, bl_trans h.2.2.2 hb⟩
theorem k3' {c1 c2 c3 k : Prop} (h : c1 ∧ c2 ∧ c3 ∧ k) : k := h.2.2.2

set_option maxRecDepth 100000 in
set_option maxHeartbeats 4000000 in
theorem rsign_in (s : Bool) (A B : Option Addr) (i1 a i2 b : Nat) (O : Rat) (hO : O = 0) (k : Int) (w : World)
    (CM : Hid (∀ (P Q : Option Addr) (e f : Nat) (W : World), Below w.heap.size w W → Sl W P (digs (qn O)) → Sl W Q (digs (qd O)) → Calls Tryz.prog 81 #[.agg #[.bool s, .slice A i1 a, .slice B i2 b], .agg #[.bool (qs O), .slice P (ln (qn O)) e, .slice Q (ln (qd O)) f]] W fun e w' => e = .returned (.int .i64 k) ∧ Below W.heap.size W w')) :
    Calls Tryz.prog 32 #[.agg #[.bool s, .slice A i1 a, .slice B i2 b]] w fun e w' => e = .returned (.int .i64 k) ∧ Below w.heap.size w w' := by
  have O0 := hide (fun W => rof0_q O hO W)
  clear hO
  have X1 := hide (Q3.new (.bool s) (.slice A i1 a) (.slice B i2 b) w)
  have b0 : Below w.heap.size w (w.alloc (.cells #[.bool s, .slice A i1 a, .slice B i2 b] 25)) := bl_al (.refl _ _) _
  obtain ⟨x1, x2, x3, x4, x5, x6⟩ := X1.out
  have bd := hide b0.drew
  go_enter Tryz.func32, Tryz.ntmps32
  go_wp2
  go_region_held3 (fun W => W.cell? ⟨w.heap.size, 0, none⟩ = some (.bool s) ∧ W.cell? ⟨w.heap.size, 1, none⟩ = some (.slice A i1 a) ∧ W.cell? ⟨w.heap.size, 2, none⟩ = some (.slice B i2 b) ∧ Below w.heap.size w W)
    (first | exact ⟨x1, x2, x3, b0⟩ | exact ⟨x1, x2, x3, bd.out⟩ | with_reducible exact S3b_next hb (by assumption) | with_reducible assumption)
    (first
      | (go_at_call 31; (with_reducible refine (O0.out _).mono ?_); rintro e v1 ⟨P1, p1, Q1, h1, rfl, z1, z2, hb⟩)
      | (go_at_call 81; (with_reducible refine (CM.out P1 Q1 p1 h1 _ (k3' (by assumption)) z1 z2).mono ?_); rintro e v2 ⟨rfl, hb⟩))
  all_goals
    go_wp2
    go_ret
    exact ⟨rfl, k3' (by assumption)⟩
theorem rsign_q (q : Rat) (A B : Option Addr) (a b : Nat) (w : World) (sA : Sl w A (digs (qn q))) (sB : Sl w B (digs (qd q))) (f1 : fitq q) (k : Int) (hk : cmpZ q.num 0 = k) :
    Calls Tryz.prog 32 #[.agg #[.bool (qs q), .slice A (ln (qn q)) a, .slice B (ln (qd q)) b]] w fun e w' => e = .returned (.int .i64 k) ∧ Below w.heap.size w w' := by
  have f0 : fitq 0 := ⟨by rw [show qn 0 = 0 from rfl, ln_zero]; decide, by rw [show qd 0 = 1 from rfl, ln_one]; decide⟩
  exact rsign_in (qs q) A B _ a _ b 0 rfl k w (fun P Q e f W h s1 s2 => rcmp_q q 0 A B P Q a b e f W (kp' h sA) (kp' h sB) s1 s2 f1 f0 k (by rw [← sign_cmpQ0]; exact hk))
end Nt

end Go.Proofs.YtgimmmmpollkhaaGreat
