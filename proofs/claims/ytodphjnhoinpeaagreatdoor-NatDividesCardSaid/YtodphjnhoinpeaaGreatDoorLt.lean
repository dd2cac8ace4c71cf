/-
  limbs.lessTimes: some times one, less some times another; limbs.modWord.
-/
import Derived.Test.YtodphjnhoinpeaaGreatDoorDivW
import Derived.Test.YtodphjnhoinpeaaGreatDoorSub
import Derived.Test.YtodphjnhoinpeaaGreatDoorWord
namespace Go.Proofs.YtodphjnhoinpeaaGreatDoor
open Go.RowKit
namespace Nt

def LtInv (xs ys : List Nat) (p q k ca le bo : Nat) (cs : List Nat) : Prop :=
  cs.length = k ∧ Limbs cs ∧ ca < LB ∧ le < LB ∧ bo ≤ 1 ∧ val cs + q * val (ys.take k) + LB ^ k * ca = p * val (xs.take k) + LB ^ k * (le + bo)
theorem LtInv.zero (xs ys : List Nat) (p q : Nat) : LtInv xs ys p q 0 0 0 0 [] := ⟨rfl, .nil, LB_pos, LB_pos, by omega, by simp⟩
theorem LtInv.step {xs ys cs : List Nat} {p q k ca le bo : Nat} (lx : Limbs xs) (ly : Limbs ys) (hp : p < LB) (hq : q < LB) (h : LtInv xs ys p q k ca le bo cs) :
    LtInv xs ys p q (k + 1) (maHi p (lim xs k) ca 0) (maHi q (lim ys k) le 0) (borL (maLo p (lim xs k) ca 0) (maLo q (lim ys k) le 0) bo) (cs ++ [difL (maLo p (lim xs k) ca 0) (maLo q (lim ys k) le 0) bo]) := by
  obtain ⟨h1, h2, h3, h4, h5, h6⟩ := h
  refine ⟨by simp [h1], h2.append (.one (difL_lt _ _ _)), maHi_lt _ _ _ _ hp (lx.get k) h3 LB_pos, maHi_lt _ _ _ _ hq (ly.get k) h4 LB_pos, borL_le _ _ _, ?_⟩
  have e1 := ma_eq p (lim xs k) ca 0
  have e2 := ma_eq q (lim ys k) le 0
  have e3 := dif_eq (maLo p (lim xs k) ca 0) (maLo q (lim ys k) le 0) bo (maLo_lt _ _ _ _) (maLo_lt _ _ _ _) h5
  rw [val_append, val_one, val_take_succ, val_take_succ, h1, Nat.pow_succ, Nat.mul_add, Nat.mul_add, Nat.mul_add, Nat.mul_left_comm q, Nat.mul_left_comm p]
  generalize difL (maLo p (lim xs k) ca 0) (maLo q (lim ys k) le 0) bo = d at *
  generalize borL (maLo p (lim xs k) ca 0) (maLo q (lim ys k) le 0) bo = b at *
  generalize maLo p (lim xs k) ca 0 = m at *
  generalize maHi p (lim xs k) ca 0 = mh at *
  generalize maLo q (lim ys k) le 0 = l at *
  generalize maHi q (lim ys k) le 0 = lh at *
  generalize lim xs k = x at *
  generalize lim ys k = y at *
  have f1 : LB ^ k * (m + LB * mh) = LB ^ k * (p * x + ca + 0) := by rw [e1]
  have f2 : LB ^ k * (l + LB * lh) = LB ^ k * (q * y + le + 0) := by rw [e2]
  have f3 : LB ^ k * (d + l + bo) = LB ^ k * (m + LB * b) := by rw [e3]
  rw [Nat.add_zero, Nat.mul_add, Nat.mul_add, ← Nat.mul_assoc] at f1
  rw [Nat.add_zero, Nat.mul_add, Nat.mul_add, ← Nat.mul_assoc] at f2
  rw [Nat.mul_add, Nat.mul_add, Nat.mul_add, ← Nat.mul_assoc] at f3
  rw [Nat.mul_add] at h6
  omega
theorem LtInv.done {xs ys cs : List Nat} {p q n ca le bo : Nat} (h : LtInv xs ys p q n ca le bo cs) (hn : max xs.length ys.length = n) (hle : q * val ys ≤ p * val xs) (hlt : p * val xs - q * val ys < LB ^ n) :
    digs (p * val xs - q * val ys) = trimz cs := by
  obtain ⟨h1, h2, _, _, _, h6⟩ := h
  rw [List.take_of_length_le (by omega), List.take_of_length_le (by omega)] at h6
  have hv := val_lt h2
  rw [h1] at hv
  have e : (val cs + LB ^ n * ca) % LB ^ n = (p * val xs - q * val ys + LB ^ n * (le + bo)) % LB ^ n := by
    congr 1
    omega
  rw [Nat.add_mul_mod_self_left, Nat.add_mul_mod_self_left, Nat.mod_eq_of_lt hv, Nat.mod_eq_of_lt hlt] at e
  rw [← e]
  exact digs_val h2

set_option maxRecDepth 100000 in
set_option maxHeartbeats 1000000 in
theorem lessTimes_ok (A B : Option Addr) (c d p q : Nat) (xs ys : List Nat) (w : World) (hx : Sl w A xs) (hy : Sl w B ys) (lx : Limbs xs) (ly : Limbs ys) (hl : xs.length ≤ 10000) (hl' : ys.length ≤ 10000) (hp : p < LB) (hq : q < LB)
    (n : Nat) (hn : max xs.length ys.length = n) (hle : q * val ys ≤ p * val xs) (hlt : p * val xs - q * val ys < LB ^ n) :
    Calls Tryz.prog 111 #[.slice A xs.length c, .int .u64 (p : Int), .slice B ys.length d, .int .u64 (q : Int)] w (New w (digs (p * val xs - q * val ys))) := by
  have hmk : ∀ W : World, (Instr.makeSlice 22 (.int .i64 (n : Int)) (.int .i64 (n : Int))).run Tryz.prog W = .ok (.slice (some ⟨W.heap.size, 0, none⟩) n n) (W.alloc (.cells (madeCells #[.int .u64 0] n) 56)) :=
    fun W => run_make_u64 .i64 .i64 n n (by omega) (by omega) W
  have hmx : ∀ ts t W, (Builtin.max_ ts t #[.int .i64 (xs.length : Int), .int .i64 (ys.length : Int)]).run Tryz.prog W = .ok (.int .i64 (n : Int)) W := fun ts t W => by
    rw [run_max_int2]
    congr 2
    split <;> omega
  have nb : n ≤ 10000 := by omega
  have H := hide hn
  have HLE := hide hle
  have HLT := hide hlt
  clear hn hle hlt
  go_enter Tryz.func111, Tryz.ntmps111
  go_wp2
  have M := hide (Own.made (n := n) w (Nat.le_refl _) (Nat.le_refl n) (by unfold maxLen; omega))
  clear hmk hmx
  go_loopw [10, 11, 12, 13, 14, 24] (fun mo se cy ln bo i wr => ∃ (mo' se' k ca le b : Nat) (cs : List Nat), k ≤ n ∧ mo = .int .u64 (mo' : Nat) ∧ se = .int .u64 (se' : Nat) ∧ i = .int .i64 (k : Nat) ∧ cy = .int .u64 (ca : Nat) ∧ ln = .int .u64 (le : Nat) ∧ bo = .int .u64 (b : Nat) ∧ LtInv xs ys p q k ca le b cs ∧ Own wr w.heap.size w.heap.size n (cs ++ List.replicate (n - k) 0) ∧ Below w.heap.size w wr) (fun _ _ _ _ _ i _ => n - (intOf i).toNat)
  case atStart => exact ⟨0, 0, 0, 0, 0, 0, [], Nat.zero_le _, rfl, rfl, rfl, rfl, rfl, rfl, LtInv.zero _ _ _ _, by simpa using M.out, (Below.refl _ _).alloc (Nat.le_refl _) _⟩
  case round =>
    obtain ⟨mo', se', k, ca, le, b, cs, hk, rfl, rfl, rfl, rfl, rfl, rfl, li, ho, hb⟩ := hrel
    by_cases hlt : k < n
    · have hxr := hx.below hb (Nat.le_refl _)
      have hyr := hy.below hb (Nat.le_refl _)
      obtain ⟨hlen, _, hca, hlen', hbo, _⟩ := id li
      have hcell := ho.cell (j := k) (by simp; omega)
      have hfr := ho.frozen k
      have hst := ho.set k (difL (maLo p (lim xs k) ca 0) (maLo q (lim ys k) le 0) b)
      rw [set_grow' _ hlen hlt] at hst
      have S := hide hst
      have I := hide (li.step lx ly hp hq)
      have BB := hide hb
      have LX := hide (limb_any A c xs k wr hxr (by omega) (by omega))
      have LY := hide (limb_any B d ys k wr hyr (by omega) (by omega))
      have MX : Hid (Calls Tryz.prog 96 #[.int .u64 (p : Int), .int .u64 ((lim xs k : Nat) : Int), .int .u64 (ca : Int), .int .u64 0] wr fun e w' =>
          e = .returned (.tuple #[.int .u64 ((maLo p (lim xs k) ca 0 : Nat) : Int), .int .u64 ((maHi p (lim xs k) ca 0 : Nat) : Int)]) ∧ wr = w') := mulAdd_any p (lim xs k) ca 0 hp (lx.get k) hca LB_pos wr
      have MY : Hid (Calls Tryz.prog 96 #[.int .u64 (q : Int), .int .u64 ((lim ys k : Nat) : Int), .int .u64 (le : Int), .int .u64 0] wr fun e w' =>
          e = .returned (.tuple #[.int .u64 ((maLo q (lim ys k) le 0 : Nat) : Int), .int .u64 ((maHi q (lim ys k) le 0 : Nat) : Int)]) ∧ wr = w') := mulAdd_any q (lim ys k) le 0 hq (ly.get k) hlen' LB_pos wr
      clear hst hlen ho li hb hxr hyr hca hlen'
      generalize maLo p (lim xs k) ca 0 = ml at *
      generalize maHi p (lim xs k) ca 0 = mh at *
      generalize maLo q (lim ys k) le 0 = ll at *
      generalize maHi q (lim ys k) le 0 = lh at *
      generalize lim xs k = x at *
      generalize lim ys k = y at *
      go_wp2_with (first
        | (go_at_call 89; (first | with_reducible refine (LX.out).mono ?_ | with_reducible refine (LY.out).mono ?_); rintro e w' ⟨rfl, rfl⟩)
        | (go_at_call 96; (first | with_reducible refine (MX.out).mono ?_ | with_reducible refine (MY.out).mono ?_); rintro e w' ⟨rfl, rfl⟩)
        | simp only [sub64 _ _ b hbo])
      go_roundw
      case rel => exact ⟨ml, ll, k + 1, _, _, _, _, by omega, rfl, rfl, by go_num, rfl, rfl, rfl, I.out, S.out, BB.out.setCell (Nat.le_refl _) _⟩
      case measure => simp [intOf]; omega
    · obtain rfl : k = n := by omega
      rw [Nat.sub_self, List.replicate_zero, List.append_nil] at ho
      have D := hide (li.done H.out HLE.out HLT.out)
      have T := hide (trim_n _ k k cs wr li.1 ho.sl (Nat.le_refl _) (by omega))
      have RR := hide ho.trim
      have BB := hide hb
      clear ho li hb
      go_wp2_with (go_at_call 49; (with_reducible refine (T.out).mono ?_); rintro ee w2 ⟨rfl, rfl⟩)
      go_ret
      exact New.mk D.out rfl RR.out BB.out

theorem modWord_nil (A : Option Addr) (c d : Nat) (w : World) :
    Calls Tryz.prog 88 #[.slice A 0 c, .int .u64 (d : Int)] w (Quiet w (.int .u64 0)) := by
  go_enter Tryz.func88, Tryz.ntmps88
  go_wp2
  refine wp_loop_rounds 1 ?_
  rw [rounds_succ]
  go_wp2
  go_ret
  exact ⟨rfl, 0, rfl⟩

set_option maxRecDepth 100000 in
set_option maxHeartbeats 400000 in
theorem modWord_any (A : Option Addr) (c d n : Nat) (xs : List Nat) (w : World) (hn : xs.length = n) (h : Sl w A xs) (lx : Limbs xs) (hd : 0 < d) (hdL : d < LB) (hl : n ≤ 100000) :
    Calls Tryz.prog 88 #[.slice A n c, .int .u64 (d : Int)] w (Quiet w (.int .u64 ((dwR xs d : Nat) : Int))) := by
  have H := hide hn
  clear hn
  go_enter Tryz.func88, Tryz.ntmps88
  go_wp2
  go_loopw [4, 5] (fun re i wr => ∃ k : Nat, k ≤ n ∧ i = .int .i64 ((k : Int) - 1) ∧ re = .int .u64 ((dwR (xs.drop k) d : Nat) : Int) ∧ ∃ q, wr = w.drewN q) (fun _ i _ => (intOf i + 1).toNat)
  case atStart =>
    have e1 : xs.drop n = [] := List.drop_of_length_le (by rw [H.out]; exact Nat.le_refl _)
    exact ⟨n, Nat.le_refl _, rfl, by rw [e1]; rfl, 0, rfl⟩
  case round =>
    obtain ⟨k, hk, rfl, rfl, q, rfl⟩ := hrel
    cases k with
    | zero =>
      go_wp2
      go_ret
      exact ⟨ret_one (by rw [List.drop_zero]), q, rfl⟩
    | succ k =>
      have hkl : k < xs.length := by rw [H.out]; omega
      obtain ⟨b, o, rfl, ha⟩ := h.at_ (by omega)
      have hcell := ha.cell (j := k) hkl
      have D := hide (fun W => div64 (dwR (xs.drop (k + 1)) d) (lim xs k) d (dwR_lt _ hd) hdL (lx.get k) W)
      have E := hide (show dwR (xs.drop k) d = dvR (dwR (xs.drop (k + 1)) d) (lim xs k) d by rw [drop_cons_lim hkl]; rfl)
      clear ha
      generalize dwR (xs.drop (k + 1)) d = re at *
      generalize lim xs k = x at *
      go_wp2_with (go_at_call 108; (with_reducible refine (D.out _).mono ?_); rintro ee w2 ⟨rfl, q0, rfl⟩)
      go_roundw
      case rel => exact ⟨k, by omega, by go_num, by rw [E.out], _, rfl⟩
      case measure => simp [intOf]
end Nt
end Go.Proofs.YtodphjnhoinpeaaGreatDoor
