
/-
  nat.divideWord (in place), nat.wordGcd.
-/
import Derived.Test.YtgimmmmpollkhaaGreatNDiv64b
import Derived.Test.YtgimmmmpollkhaaGreatNMath2
namespace Go.Proofs.YtgimmmmpollkhaaGreat

open Go.RowKit

namespace Nt

def dwR : List Nat → Nat → Nat
  | [], _ => 0
  | x :: xs, d => dvR (dwR xs d) x d
def dwQ : List Nat → Nat → List Nat
  | [], _ => []
  | x :: xs, d => dvQ (dwR xs d) x d :: dwQ xs d
theorem dwR_lt (xs : List Nat) {d : Nat} (hd : 0 < d) : dwR xs d < d := by
  cases xs with
  | nil => exact hd
  | cons x xs => exact Nat.mod_lt _ hd
theorem dwQ_len (xs : List Nat) (d : Nat) : (dwQ xs d).length = xs.length := by
  induction xs with
  | nil => rfl
  | cons x xs ih => simp [dwQ, ih]
theorem dwQ_limbs {xs : List Nat} {d : Nat} (hd : 0 < d) (h : Limbs xs) : Limbs (dwQ xs d) := by
  induction xs with
  | nil => exact .nil
  | cons x xs ih => exact .cons (dvQ_lt (dwR_lt xs hd) h.head) (ih h.tail)
theorem dw_eq (xs : List Nat) (d : Nat) : d * val (dwQ xs d) + dwR xs d = val xs := by
  induction xs with
  | nil => simp [dwQ, dwR]
  | cons x xs ih =>
    have h := dv_eq (dwR xs d) x d
    rw [dwQ, dwR, val_cons, val_cons, Nat.mul_add, Nat.mul_left_comm, ← ih, Nat.mul_add]
    rw [Nat.mul_comm (dwR xs d)] at h
    omega
theorem dw_val {xs : List Nat} {d : Nat} (hd : 0 < d) : val (dwQ xs d) = val xs / d ∧ dwR xs d = val xs % d := by
  have h := dw_eq xs d
  have h2 := dwR_lt xs hd
  have : val xs / d = val (dwQ xs d) := by
    refine Nat.div_eq_of_lt_le ?_ ?_
    · rw [Nat.mul_comm]; omega
    · rw [Nat.add_mul, Nat.one_mul, Nat.mul_comm]; omega
  refine ⟨this.symm, ?_⟩
  have h3 := Nat.div_add_mod (val xs) d
  rw [this] at h3
  omega
theorem drop_cons_lim {xs : List Nat} {k : Nat} (h : k < xs.length) : xs.drop k = lim xs k :: xs.drop (k + 1) := by rw [lim_some h, List.getElem_cons_drop]
theorem set_mid (us bs : List Nat) (x y : Nat) : (us ++ x :: bs).set us.length y = us ++ y :: bs := by
  rw [List.set_append_right _ _ (Nat.le_refl _), Nat.sub_self, List.set_cons_zero]
theorem dw_set {xs : List Nat} {d k : Nat} (h : k < xs.length) : (xs.take (k + 1) ++ dwQ (xs.drop (k + 1)) d).set k (dvQ (dwR (xs.drop (k + 1)) d) (lim xs k) d) = xs.take k ++ dwQ (xs.drop k) d := by
  have e : (xs.take k).length = k := by rw [List.length_take]; omega
  rw [take_succ_lim h, drop_cons_lim h, dwQ, List.append_assoc, List.singleton_append]
  have := set_mid (xs.take k) (dwQ (xs.drop (k + 1)) d) (lim xs k) (dvQ (dwR (xs.drop (k + 1)) d) (lim xs k) d)
  rwa [e] at this
theorem dw_lim {xs : List Nat} {d k : Nat} (h : k < xs.length) : lim (xs.take (k + 1) ++ dwQ (xs.drop (k + 1)) d) k = lim xs k := by
  rw [lim_append_left (by rw [List.length_take]; omega), lim_take (by omega)]

set_option maxRecDepth 100000 in
set_option maxHeartbeats 400000 in
theorem wordGcd_any (x y : Nat) (hx : x < LB) (hy : y < LB) (w : World) :
    Calls Tryz.prog 129 #[.int .u64 (x : Int), .int .u64 (y : Int)] w (Quiet w (.int .u64 ((Nat.gcd x y : Nat) : Int))) := by
  go_enter Tryz.func129, Tryz.ntmps129
  go_wp2
  go_loopw [0, 1] (fun a b wr => ∃ p r : Nat, a = .int .u64 (p : Int) ∧ b = .int .u64 (r : Int) ∧ p < LB ∧ r < LB ∧ Nat.gcd p r = Nat.gcd x y ∧ ∃ q, wr = w.drewN q) (fun _ b _ => (intOf b).toNat)
  case atStart => exact ⟨x, y, rfl, rfl, hx, hy, rfl, 0, rfl⟩
  case round =>
    obtain ⟨p, r, rfl, rfl, hp, hr, hg, q, rfl⟩ := hrel
    by_cases h0 : r = 0
    · subst h0
      have E := hide hg
      clear hg hp hr
      go_wp2
      go_ret
      exact ⟨ret_one (by rw [← E.out, Nat.gcd_zero_right]), q, rfl⟩
    · have e0 : ((r : Int) != 0) = true := by simp; omega
      have hrp : 0 < r := by omega
      obtain ⟨m, hm⟩ : ∃ m, m = p % r := ⟨_, rfl⟩
      have o1 : binOp .rem 119 (.int .u64 (p : Int)) (.int .u64 (r : Int)) = pure (.int .u64 (m : Int)) := by rw [hm]; exact op_rem _ p r hrp
      have E := hide (show Nat.gcd r m = Nat.gcd x y by rw [hm, ← hg, Nat.gcd_comm p r, Nat.gcd_rec r p, Nat.gcd_comm])
      have ML := hide (show m < r by rw [hm]; exact Nat.mod_lt _ hrp)
      have PL := hide hr
      clear hg hm h0 hr hp
      go_wp2
      go_quiet (fail)
      go_wp2
      go_roundw
      case rel => exact ⟨r, m, rfl, rfl, PL.out, Nat.lt_trans ML.out PL.out, E.out, dr2 _ _ _⟩
      case measure => (have := ML.out; simp [intOf]; omega)
end Nt

end Go.Proofs.YtgimmmmpollkhaaGreat
