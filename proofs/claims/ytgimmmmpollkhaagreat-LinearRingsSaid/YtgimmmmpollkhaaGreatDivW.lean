
/-
  nat.divideWord (in place), nat.wordGcd.
-/
import Derived.Test.YtgimmmmpollkhaaGreatDiv64b

import Derived.Test.YtgimmmmpollkhaaGreatMath2

namespace Go.Proofs.YtgimmmmpollkhaaGreat

open Go.RowKit

namespace Nt

/-- Division of a row by a word, from the top: the quotient's row, the rest. -/
def dwR : List Nat → Nat → Nat
  | [], _ => 0
  | x :: xs, d => dvR (dwR xs d) x d
def dwQ : List Nat → Nat → List Nat
  | [], _ => []
  | x :: xs, d => dvQ (dwR xs d) x d :: dwQ xs d
theorem dwR_lt (xs : List Nat) {d : Nat} (hd : 0 < d) : dwR xs d < d := by
  cases xs with
  | nil => exact hd
  | cons x xs => exact Nat.mod_lt _ hd
theorem dwQ_len (xs : List Nat) (d : Nat) : (dwQ xs d).length = xs.length := by
  induction xs with
  | nil => rfl
  | cons x xs ih => simp [dwQ, ih]
theorem dwQ_limbs {xs : List Nat} {d : Nat} (hd : 0 < d) (h : Limbs xs) : Limbs (dwQ xs d) := by
  induction xs with
  | nil => exact .nil
  | cons x xs ih => exact .cons (dvQ_lt (dwR_lt xs hd) h.head) (ih h.tail)
theorem dw_eq (xs : List Nat) (d : Nat) : d * val (dwQ xs d) + dwR xs d = val xs := by
  induction xs with
  | nil => simp [dwQ, dwR]
  | cons x xs ih =>
    have h := dv_eq (dwR xs d) x d
    rw [dwQ, dwR, val_cons, val_cons, Nat.mul_add, Nat.mul_left_comm, ← ih, Nat.mul_add]
    rw [Nat.mul_comm (dwR xs d)] at h
    omega
theorem dw_val {xs : List Nat} {d : Nat} (hd : 0 < d) : val (dwQ xs d) = val xs / d ∧ dwR xs d = val xs % d := by
  have h := dw_eq xs d
  have h2 := dwR_lt xs hd
  have : val xs / d = val (dwQ xs d) := by
    refine Nat.div_eq_of_lt_le ?_ ?_
    · rw [Nat.mul_comm]; omega
    · rw [Nat.add_mul, Nat.one_mul, Nat.mul_comm]; omega
  refine ⟨this.symm, ?_⟩
  have h3 := Nat.div_add_mod (val xs) d
  rw [this] at h3
  omega
theorem drop_cons_lim {xs : List Nat} {k : Nat} (h : k < xs.length) : xs.drop k = lim xs k :: xs.drop (k + 1) := by rw [lim_some h, List.getElem_cons_drop]
theorem set_mid (us bs : List Nat) (x y : Nat) : (us ++ x :: bs).set us.length y = us ++ y :: bs := by
  rw [List.set_append_right _ _ (Nat.le_refl _), Nat.sub_self, List.set_cons_zero]
theorem dw_set {xs : List Nat} {d k : Nat} (h : k < xs.length) : (xs.take (k + 1) ++ dwQ (xs.drop (k + 1)) d).set k (dvQ (dwR (xs.drop (k + 1)) d) (lim xs k) d) = xs.take k ++ dwQ (xs.drop k) d := by
  have e : (xs.take k).length = k := by rw [List.length_take]; omega
  rw [take_succ_lim h, drop_cons_lim h, dwQ, List.append_assoc, List.singleton_append]
  have := set_mid (xs.take k) (dwQ (xs.drop (k + 1)) d) (lim xs k) (dvQ (dwR (xs.drop (k + 1)) d) (lim xs k) d)
  rwa [e] at this
theorem dw_lim {xs : List Nat} {d k : Nat} (h : k < xs.length) : lim (xs.take (k + 1) ++ dwQ (xs.drop (k + 1)) d) k = lim xs k := by
  rw [lim_append_left (by rw [List.length_take]; omega), lim_take (by omega)]

theorem dword_nil (A : Option Addr) (c d : Nat) (w : World) :
    Calls Tryz.prog 148 #[.slice A 0 c, .int .u64 (d : Int)] w fun e w' => e = .returned (.int .u64 0) ∧ w = w' := by
  go_enter Tryz.func148, Tryz.ntmps148
  go_wp2
  refine wp_loop_rounds 1 ?_
  rw [rounds_succ]
  go_wp2
  go_ret
  exact ⟨rfl, rfl⟩

set_option maxRecDepth 100000 in
set_option maxHeartbeats 400000 in
theorem dword_at (b o c d n : Nat) (xs : List Nat) (w : World) (hn : xs.length = n) (h : At w b o xs) (hf : Free w b o n) (lx : Limbs xs) (hd : 0 < d) (hdL : d < LB) (hl : n ≤ 100000) :
    Calls Tryz.prog 148 #[.slice (some ⟨b, o, none⟩) n c, .int .u64 (d : Int)] w fun e w' => e = .returned (.int .u64 ((dwR xs d : Nat) : Int)) ∧ At w' b o (dwQ xs d) ∧ Wrote w w' b o n := by
  have H := hide hn
  clear hn
  go_enter Tryz.func148, Tryz.ntmps148
  go_wp2
  go_loopw [4, 5] (fun re i wr => ∃ k : Nat, k ≤ n ∧ i = .int .i64 ((k : Int) - 1) ∧ re = .int .u64 ((dwR (xs.drop k) d : Nat) : Int) ∧ At wr b o (xs.take k ++ dwQ (xs.drop k) d) ∧ Wrote w wr b o n) (fun _ i _ => (intOf i + 1).toNat)
  case atStart =>
    have e1 : xs.drop n = [] := List.drop_of_length_le (by rw [H.out]; exact Nat.le_refl _)
    have e2 : xs.take n = xs := List.take_of_length_le (by rw [H.out]; exact Nat.le_refl _)
    exact ⟨n, Nat.le_refl _, rfl, by rw [e1]; rfl, by rw [e1, e2, dwQ, List.append_nil]; exact h, Wrote.refl _ _ _ _⟩
  case round =>
    obtain ⟨k, hk, rfl, rfl, ha, hw⟩ := hrel
    cases k with
    | zero =>
      have R := hide ha
      have W := hide hw
      clear ha hw
      go_wp2
      go_ret
      refine ⟨rfl, ?_, W.out⟩
      have := R.out
      rwa [List.take_zero, List.nil_append, List.drop_zero] at this
    | succ k =>
      have hkl : k < xs.length := by rw [H.out]; omega
      have hcell := ha.cell (j := k) (by rw [List.length_append, List.length_take, dwQ_len, List.length_drop]; omega)
      have hfr := (hf.wrote hw) k (by omega)
      have hst := ha.set (i := k) (by rw [List.length_append, List.length_take, dwQ_len, List.length_drop]; omega) (dvQ (dwR (xs.drop (k + 1)) d) (lim xs k) d)
      rw [dw_set hkl] at hst
      rw [dw_lim hkl] at hcell
      have S := hide hst
      have W := hide hw
      have D := hide (fun W => div64 (dwR (xs.drop (k + 1)) d) (lim xs k) d (dwR_lt _ hd) hdL (lx.get k) W)
      have E := hide (show dwR (xs.drop k) d = dvR (dwR (xs.drop (k + 1)) d) (lim xs k) d by rw [drop_cons_lim hkl]; rfl)
      clear hst ha hw hf
      generalize dwR (xs.drop (k + 1)) d = re at *
      generalize lim xs k = x at *
      go_wp2_with (go_at_call 151; (with_reducible refine (D.out _).mono ?_); rintro ee w2 ⟨rfl, q0, rfl⟩)
      go_roundw
      case rel => exact ⟨k, by omega, by go_num, by rw [E.out], S.out, (W.out.setCell (by omega) _).drewN _⟩
      case measure => simp [intOf]

set_option maxRecDepth 100000 in
set_option maxHeartbeats 400000 in
theorem wordGcd_any (x y : Nat) (hx : x < LB) (hy : y < LB) (w : World) :
    Calls Tryz.prog 129 #[.int .u64 (x : Int), .int .u64 (y : Int)] w (Quiet w (.int .u64 ((Nat.gcd x y : Nat) : Int))) := by
  go_enter Tryz.func129, Tryz.ntmps129
  go_wp2
  go_loopw [0, 1] (fun a b wr => ∃ p r : Nat, a = .int .u64 (p : Int) ∧ b = .int .u64 (r : Int) ∧ p < LB ∧ r < LB ∧ Nat.gcd p r = Nat.gcd x y ∧ ∃ q, wr = w.drewN q) (fun _ b _ => (intOf b).toNat)
  case atStart => exact ⟨x, y, rfl, rfl, hx, hy, rfl, 0, rfl⟩
  case round =>
    obtain ⟨p, r, rfl, rfl, hp, hr, hg, q, rfl⟩ := hrel
    by_cases h0 : r = 0
    · subst h0
      have E := hide hg
      clear hg hp hr
      go_wp2
      go_ret
      exact ⟨ret_one (by rw [← E.out, Nat.gcd_zero_right]), q, rfl⟩
    · have e0 : ((r : Int) != 0) = true := by simp; omega
      have hrp : 0 < r := by omega
      obtain ⟨m, hm⟩ : ∃ m, m = p % r := ⟨_, rfl⟩
      have o1 : binOp .rem 119 (.int .u64 (p : Int)) (.int .u64 (r : Int)) = pure (.int .u64 (m : Int)) := by rw [hm]; exact op_rem _ p r hrp
      have E := hide (show Nat.gcd r m = Nat.gcd x y by rw [hm, ← hg, Nat.gcd_comm p r, Nat.gcd_rec r p, Nat.gcd_comm])
      have ML := hide (show m < r by rw [hm]; exact Nat.mod_lt _ hrp)
      have PL := hide hr
      clear hg hm h0 hr hp
      go_wp2
      go_quiet (fail)
      go_wp2
      go_roundw
      case rel => exact ⟨r, m, rfl, rfl, PL.out, Nat.lt_trans ML.out PL.out, E.out, dr2 _ _ _⟩
      case measure => (have := ML.out; simp [intOf]; omega)
end Nt

end Go.Proofs.YtgimmmmpollkhaaGreat
