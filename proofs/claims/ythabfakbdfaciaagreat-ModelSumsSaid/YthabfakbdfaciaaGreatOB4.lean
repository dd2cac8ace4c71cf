import Derived.Test.YthabfakbdfaciaaGreatOB2
import Derived.Test.YthabfakbdfaciaaGreatOB1
import Derived.Test.YthabfakbdfaciaaGreatOB0
import Derived.Test.YthabfakbdfaciaaGreatOB3
import Derived.Deep.RegionHeld3
namespace Go.Proofs.YthabfakbdfaciaaGreat
namespace Nt
set_option maxRecDepth 100000
set_option maxHeartbeats 16000000
section
open Go.RowKit
def LtInv (xs ys : List Nat) (p q k ca le bo : Nat) (cs : List Nat) : Prop :=
  cs.length = k ∧ Limbs cs ∧ ca < LB ∧ le < LB ∧ bo ≤ 1 ∧ val cs + q * val (ys.take k) + LB ^ k * ca = p * val (xs.take k) + LB ^ k * (le + bo)
theorem LtInv.zero (xs ys : List Nat) (p q : Nat) : LtInv xs ys p q 0 0 0 0 [] := ⟨rfl, .nil, LB_pos, LB_pos, by omega, by simp⟩
theorem LtInv.step {xs ys cs : List Nat} {p q k ca le bo : Nat} (lx : Limbs xs) (ly : Limbs ys) (hp : p < LB) (hq : q < LB) (h : LtInv xs ys p q k ca le bo cs) :
    LtInv xs ys p q (k + 1) (maHi p (lim xs k) ca 0) (maHi q (lim ys k) le 0) (borL (maLo p (lim xs k) ca 0) (maLo q (lim ys k) le 0) bo) (cs ++ [difL (maLo p (lim xs k) ca 0) (maLo q (lim ys k) le 0) bo]) := by
  obtain ⟨h1, h2, h3, h4, h5, h6⟩ := h
  refine ⟨by simp [h1], h2.append (.one (difL_lt _ _ _)), maHi_lt _ _ _ _ hp (lx.get k) h3 LB_pos, maHi_lt _ _ _ _ hq (ly.get k) h4 LB_pos, borL_le _ _ _, ?_⟩
  have e1 := ma_eq p (lim xs k) ca 0
  have e2 := ma_eq q (lim ys k) le 0
  have e3 := dif_eq (maLo p (lim xs k) ca 0) (maLo q (lim ys k) le 0) bo (maLo_lt _ _ _ _) (maLo_lt _ _ _ _) h5
  rw [val_append, val_one, val_take_succ, val_take_succ, h1, Nat.pow_succ, Nat.mul_add, Nat.mul_add, Nat.mul_add, Nat.mul_left_comm q, Nat.mul_left_comm p]
  generalize difL (maLo p (lim xs k) ca 0) (maLo q (lim ys k) le 0) bo = d at *
  generalize borL (maLo p (lim xs k) ca 0) (maLo q (lim ys k) le 0) bo = b at *
  generalize maLo p (lim xs k) ca 0 = m at *
  generalize maHi p (lim xs k) ca 0 = mh at *
  generalize maLo q (lim ys k) le 0 = l at *
  generalize maHi q (lim ys k) le 0 = lh at *
  generalize lim xs k = x at *
  generalize lim ys k = y at *
  have f1 : LB ^ k * (m + LB * mh) = LB ^ k * (p * x + ca + 0) := by rw [e1]
  have f2 : LB ^ k * (l + LB * lh) = LB ^ k * (q * y + le + 0) := by rw [e2]
  have f3 : LB ^ k * (d + l + bo) = LB ^ k * (m + LB * b) := by rw [e3]
  rw [Nat.add_zero, Nat.mul_add, Nat.mul_add, ← Nat.mul_assoc] at f1
  rw [Nat.add_zero, Nat.mul_add, Nat.mul_add, ← Nat.mul_assoc] at f2
  rw [Nat.mul_add, Nat.mul_add, Nat.mul_add, ← Nat.mul_assoc] at f3
  rw [Nat.mul_add] at h6
  omega
theorem LtInv.done {xs ys cs : List Nat} {p q n ca le bo : Nat} (h : LtInv xs ys p q n ca le bo cs) (hn : max xs.length ys.length = n) (hle : q * val ys ≤ p * val xs) (hlt : p * val xs - q * val ys < LB ^ n) :
    digs (p * val xs - q * val ys) = trimz cs := by
  obtain ⟨h1, h2, _, _, _, h6⟩ := h
  rw [List.take_of_length_le (by omega), List.take_of_length_le (by omega)] at h6
  have hv := val_lt h2
  rw [h1] at hv
  have e : (val cs + LB ^ n * ca) % LB ^ n = (p * val xs - q * val ys + LB ^ n * (le + bo)) % LB ^ n := by
    congr 1
    omega
  rw [Nat.add_mul_mod_self_left, Nat.add_mul_mod_self_left, Nat.mod_eq_of_lt hv, Nat.mod_eq_of_lt hlt] at e
  rw [← e]
  exact digs_val h2
theorem lessTimes_ok (A B : Option Addr) (c d p q : Nat) (xs ys : List Nat) (w : World) (hx : Sl w A xs) (hy : Sl w B ys) (lx : Limbs xs) (ly : Limbs ys) (hl : xs.length ≤ 10000) (hl' : ys.length ≤ 10000) (hp : p < LB) (hq : q < LB)
    (n : Nat) (hn : max xs.length ys.length = n) (hle : q * val ys ≤ p * val xs) (hlt : p * val xs - q * val ys < LB ^ n) :
    Calls Tryz.prog 152 #[.slice A xs.length c, .int .u64 (p : Int), .slice B ys.length d, .int .u64 (q : Int)] w (New w (digs (p * val xs - q * val ys))) := by
  have hmk : ∀ W : World, (Instr.makeSlice 26 (.int .i64 (n : Int)) (.int .i64 (n : Int))).run Tryz.prog W = .ok (.slice (some ⟨W.heap.size, 0, none⟩) n n) (W.alloc (.cells (madeCells #[.int .u64 0] n) 128)) :=
    fun W => run_make_u64 .i64 .i64 n n (by omega) (by omega) W
  have hmx : ∀ ts t W, (Builtin.max_ ts t #[.int .i64 (xs.length : Int), .int .i64 (ys.length : Int)]).run Tryz.prog W = .ok (.int .i64 (n : Int)) W := fun ts t W => by
    rw [run_max_int2]
    congr 2
    split <;> omega
  have nb : n ≤ 10000 := by omega
  have H := hide hn
  have HLE := hide hle
  have HLT := hide hlt
  clear hn hle hlt
  go_enter Tryz.func152, Tryz.ntmps152
  go_wp2
  have M := hide (Own.made (n := n) w (Nat.le_refl _) (Nat.le_refl n) (by unfold maxLen; omega))
  clear hmk hmx
  go_loopw [10, 11, 12, 13, 14, 24] (fun mo se cy ln bo i wr => ∃ (mo' se' k ca le b : Nat) (cs : List Nat), k ≤ n ∧ mo = .int .u64 (mo' : Nat) ∧ se = .int .u64 (se' : Nat) ∧ i = .int .i64 (k : Nat) ∧ cy = .int .u64 (ca : Nat) ∧ ln = .int .u64 (le : Nat) ∧ bo = .int .u64 (b : Nat) ∧ LtInv xs ys p q k ca le b cs ∧ Own wr w.heap.size w.heap.size n (cs ++ List.replicate (n - k) 0) ∧ Below w.heap.size w wr) (fun _ _ _ _ _ i _ => n - (intOf i).toNat)
  case atStart => exact ⟨0, 0, 0, 0, 0, 0, [], Nat.zero_le _, rfl, rfl, rfl, rfl, rfl, rfl, LtInv.zero _ _ _ _, by simpa using M.out, (Below.refl _ _).alloc (Nat.le_refl _) _⟩
  case round =>
    obtain ⟨mo', se', k, ca, le, b, cs, hk, rfl, rfl, rfl, rfl, rfl, rfl, li, ho, hb⟩ := hrel
    by_cases hlt : k < n
    · have hxr := hx.below hb (Nat.le_refl _)
      have hyr := hy.below hb (Nat.le_refl _)
      obtain ⟨hlen, _, hca, hlen', hbo, _⟩ := id li
      have hcell := ho.cell (j := k) (by simp; omega)
      have hfr := ho.frozen k
      have hst := ho.set k (difL (maLo p (lim xs k) ca 0) (maLo q (lim ys k) le 0) b)
      rw [set_grow' _ hlen hlt] at hst
      have S := hide hst
      have I := hide (li.step lx ly hp hq)
      have BB := hide hb
      have LX := hide (limb_any A c xs k wr hxr (by omega) (by omega))
      have LY := hide (limb_any B d ys k wr hyr (by omega) (by omega))
      have MX : Hid (Calls Tryz.prog 167 #[.int .u64 (p : Int), .int .u64 ((lim xs k : Nat) : Int), .int .u64 (ca : Int), .int .u64 0] wr fun e w' =>
          e = .returned (.tuple #[.int .u64 ((maLo p (lim xs k) ca 0 : Nat) : Int), .int .u64 ((maHi p (lim xs k) ca 0 : Nat) : Int)]) ∧ wr = w') := mulAdd_any p (lim xs k) ca 0 hp (lx.get k) hca LB_pos wr
      have MY : Hid (Calls Tryz.prog 167 #[.int .u64 (q : Int), .int .u64 ((lim ys k : Nat) : Int), .int .u64 (le : Int), .int .u64 0] wr fun e w' =>
          e = .returned (.tuple #[.int .u64 ((maLo q (lim ys k) le 0 : Nat) : Int), .int .u64 ((maHi q (lim ys k) le 0 : Nat) : Int)]) ∧ wr = w') := mulAdd_any q (lim ys k) le 0 hq (ly.get k) hlen' LB_pos wr
      clear hst hlen ho li hb hxr hyr hca hlen'
      generalize maLo p (lim xs k) ca 0 = ml at *
      generalize maHi p (lim xs k) ca 0 = mh at *
      generalize maLo q (lim ys k) le 0 = ll at *
      generalize maHi q (lim ys k) le 0 = lh at *
      generalize lim xs k = x at *
      generalize lim ys k = y at *
      go_wp2_with (first
        | (go_at_call 166; (first | with_reducible refine (LX.out).mono ?_ | with_reducible refine (LY.out).mono ?_); rintro e w' ⟨rfl, rfl⟩)
        | (go_at_call 167; (first | with_reducible refine (MX.out).mono ?_ | with_reducible refine (MY.out).mono ?_); rintro e w' ⟨rfl, rfl⟩)
        | simp only [sub64 _ _ b hbo])
      go_roundw
      case rel => exact ⟨ml, ll, k + 1, _, _, _, _, by omega, rfl, rfl, by go_num, rfl, rfl, rfl, I.out, S.out, BB.out.setCell (Nat.le_refl _) _⟩
      case measure => simp [intOf]; omega
    · obtain rfl : k = n := by omega
      rw [Nat.sub_self, List.replicate_zero, List.append_nil] at ho
      have D := hide (li.done H.out HLE.out HLT.out)
      have T := hide (trim_n _ k k cs wr li.1 ho.sl (Nat.le_refl _) (by omega))
      have RR := hide ho.trim
      have BB := hide hb
      clear ho li hb
      go_wp2_with (go_at_call 144; (with_reducible refine (T.out).mono ?_); rintro ee w2 ⟨rfl, rfl⟩)
      go_ret
      exact New.mk D.out rfl RR.out BB.out
theorem modWord_any (A : Option Addr) (c d n : Nat) (xs : List Nat) (w : World) (hn : xs.length = n) (h : Sl w A xs) (lx : Limbs xs) (hd : 0 < d) (hdL : d < LB) (hl : n ≤ 100000) :
    Calls Tryz.prog 128 #[.slice A n c, .int .u64 (d : Int)] w (Quiet w (.int .u64 ((dwR xs d : Nat) : Int))) := by
  have H := hide hn
  clear hn
  go_enter Tryz.func128, Tryz.ntmps128
  go_wp2
  go_loopw [4, 5] (fun re i wr => ∃ k : Nat, k ≤ n ∧ i = .int .i64 ((k : Int) - 1) ∧ re = .int .u64 ((dwR (xs.drop k) d : Nat) : Int) ∧ ∃ q, wr = w.drewN q) (fun _ i _ => (intOf i + 1).toNat)
  case atStart =>
    have e1 : xs.drop n = [] := List.drop_of_length_le (by rw [H.out]; exact Nat.le_refl _)
    exact ⟨n, Nat.le_refl _, rfl, by rw [e1]; rfl, 0, rfl⟩
  case round =>
    obtain ⟨k, hk, rfl, rfl, q, rfl⟩ := hrel
    cases k with
    | zero =>
      go_wp2
      go_ret
      exact ⟨ret_one (by rw [List.drop_zero]), q, rfl⟩
    | succ k =>
      have hkl : k < xs.length := by rw [H.out]; omega
      obtain ⟨b, o, rfl, ha⟩ := h.at_ (by omega)
      have hcell := ha.cell (j := k) hkl
      have D := hide (fun W => div64 (dwR (xs.drop (k + 1)) d) (lim xs k) d (dwR_lt _ hd) hdL (lx.get k) W)
      have E := hide (show dwR (xs.drop k) d = dvR (dwR (xs.drop (k + 1)) d) (lim xs k) d by rw [drop_cons_lim hkl]; rfl)
      clear ha
      generalize dwR (xs.drop (k + 1)) d = re at *
      generalize lim xs k = x at *
      go_wp2_with (go_at_call 153; (with_reducible refine (D.out _).mono ?_); rintro ee w2 ⟨rfl, q0, rfl⟩)
      go_roundw
      case rel => exact ⟨k, by omega, by go_num, by rw [E.out], _, rfl⟩
      case measure => simp [intOf]
theorem quiet_of {P : Program} {f : FuncId} {args : Array Value} {w : World} {v : Value} (h : Calls P f args w fun e w' => e = .returned v ∧ w = w') : Calls P f args w (Quiet w v) :=
  h.mono fun _ _ ⟨he, hw⟩ => ⟨he, 0, hw.symm⟩
def hiW (zs : List Nat) (m u t : Nat) : Nat := orW (shlW (lim zs (m + 1)) u) (shrW (lim zs m) t)
theorem hi_form {zs : List Nat} {m u t : Nat} (h : t + u = 64) (lz : Limbs zs) (hl : zs.length ≤ m + 2) (h2 : lim zs (m + 1) < 2 ^ t) :
    hiW zs m u t < LB ∧ ∃ z0, val zs = hiW zs m u t * (LB ^ m * 2 ^ t) + z0 ∧ z0 < LB ^ m * 2 ^ t := by
  have e : hiW zs m u t = lim zs m / 2 ^ t + 2 ^ u * lim zs (m + 1) := by
    unfold hiW
    have := dn_at (x := lim zs m) (t := lim zs (m + 1)) h (lz.get m)
    rw [Nat.mod_eq_of_lt h2] at this
    rw [← this]
    unfold orW
    exact Nat.or_comm _ _
  have k1 : lim zs m / 2 ^ t < 2 ^ u := shr_lt (by omega) (lz.get m)
  have k2 : val zs = val (zs.take m) + LB ^ m * lim zs m + LB ^ (m + 1) * lim zs (m + 1) := by
    have h1 := val_take_succ zs m
    have h2 := val_take_succ zs (m + 1)
    rw [List.take_of_length_le hl, h1] at h2
    exact h2
  have k3 : val (zs.take m) < LB ^ m := by
    have h1 := val_lt (lz.take m)
    have : LB ^ (zs.take m).length ≤ LB ^ m := Nat.pow_le_pow_right LB_pos (by rw [List.length_take]; omega)
    omega
  have hLB : LB = 2 ^ u * 2 ^ t := LB_split h
  have k4 := Nat.div_add_mod (lim zs m) (2 ^ t)
  have k5 := Nat.mod_lt (lim zs m) (Nat.two_pow_pos t)
  rw [e]
  refine ⟨?_, val (zs.take m) + LB ^ m * (lim zs m % 2 ^ t), ?_, ?_⟩
  · have := Nat.mul_le_mul_left (2 ^ u) h2
    rw [Nat.mul_succ, ← hLB] at this
    omega
  · rw [k2, Nat.pow_succ]
    generalize LB ^ m = Q at *
    generalize lim zs (m + 1) = b at *
    generalize lim zs m % 2 ^ t = r at *
    generalize lim zs m / 2 ^ t = q at *
    rw [← k4, hLB]
    generalize 2 ^ t = T at *
    generalize 2 ^ u = U at *
    have e1 : (q + U * b) * (Q * T) = Q * (T * q) + Q * (U * T) * b := by
      rw [Nat.add_mul]
      congr 1
      · rw [Nat.mul_comm q, Nat.mul_assoc]
      · rw [Nat.mul_comm (U * b), Nat.mul_assoc, Nat.mul_assoc, ← Nat.mul_assoc T U b, Nat.mul_comm T U]
    rw [e1, Nat.mul_add]
    omega
  · have := Nat.mul_le_mul_left (LB ^ m) k5
    rw [Nat.mul_succ] at this
    omega
theorem top_le2 {xs ys : List Nat} {m : Nat} (lx : Limbs xs) (hxl : xs.length = m + 2) (h : val ys ≤ val xs) : lim ys (m + 1) ≤ lim xs (m + 1) := by
  have h1 := val_take_succ xs (m + 1)
  have h2 := val_take_succ ys (m + 1)
  have h3 := val_take_le ys (m + 1 + 1)
  rw [List.take_of_length_le (by omega)] at h1
  have h4 := val_lt (lx.take (m + 1))
  have h5 : LB ^ (xs.take (m + 1)).length ≤ LB ^ (m + 1) := Nat.pow_le_pow_right LB_pos (by rw [List.length_take]; omega)
  rcases Nat.lt_or_ge (lim xs (m + 1)) (lim ys (m + 1)) with h6 | h6
  · have := Nat.mul_le_mul_left (LB ^ (m + 1)) h6
    rw [Nat.mul_succ] at this
    omega
  · exact h6
theorem highest_any (A B : Option Addr) (c d m : Nat) (xs ys : List Nat) (w : World) (hx : Sl w A xs) (hy : Sl w B ys) (lx : Limbs xs) (ly : Limbs ys) (hxl : xs.length = m + 2) (hyl : ys.length ≤ m + 2) (hm : m ≤ 10000) (h0 : lim xs (m + 1) ≠ 0) (hle : val ys ≤ val xs) :
    Calls Tryz.prog 151 #[.slice A xs.length c, .slice B ys.length d] w fun e w' => ∃ H L P x0 y0 : Nat, e = .returned (.tuple #[.int .u64 (H : Int), .int .u64 (L : Int)]) ∧ val xs = H * P + x0 ∧ val ys = L * P + y0 ∧ x0 < P ∧ y0 < P ∧ H < LB ∧ L < LB ∧ ∃ q, w' = w.drewN q := by
  obtain ⟨s1, s2, _⟩ := lzW_shift h0 (lx.get (m + 1))
  obtain ⟨t, ht⟩ : ∃ t, t + lzW (lim xs (m + 1)) = 64 := ⟨64 - lzW (lim xs (m + 1)), by omega⟩
  have hx2 : lim xs (m + 1) < 2 ^ t := by
    rw [LB_split ht, Nat.mul_comm] at s2
    exact Nat.lt_of_mul_lt_mul_left s2
  obtain ⟨f1, x0, f2, f3⟩ := hi_form ht lx (by omega) hx2
  obtain ⟨g1, y0, g2, g3⟩ := hi_form ht ly (by omega) (Nat.lt_of_le_of_lt (top_le2 lx hxl hle) hx2)
  have FF := hide (show ∃ H L P x0 y0 : Nat, hiW xs m (lzW (lim xs (m + 1))) t = H ∧ hiW ys m (lzW (lim xs (m + 1))) t = L ∧ val xs = H * P + x0 ∧ val ys = L * P + y0 ∧ x0 < P ∧ y0 < P ∧ H < LB ∧ L < LB from ⟨_, _, _, x0, y0, rfl, rfl, f2, g2, f3, g3, f1, g1⟩)
  unfold hiW at FF
  obtain ⟨b, o, rfl, ha⟩ := hx.at_ (by omega)
  have c1 := ha.cell (j := m + 1) (by omega)
  have c2 := ha.cell (j := m) (by omega)
  have LZ := hide (fun W => lz64 (lim xs (m + 1)) (lx.get (m + 1)) W)
  generalize lzW (lim xs (m + 1)) = u at *
  have o1 := op_shl 128 .i64 (lim xs (m + 1)) u (by omega)
  have o2 := op_shr 128 .i64 (lim xs m) t (by omega)
  have o3 := op_or 128 (shlW (lim xs (m + 1)) u) (shrW (lim xs m) t) (shlW_lt _ _) (shrW_lt _ (lx.get m))
  have o4 := op_shl 128 .i64 (lim ys (m + 1)) u (by omega)
  have o5 := op_shr 128 .i64 (lim ys m) t (by omega)
  have o6 := op_or 128 (shlW (lim ys (m + 1)) u) (shrW (lim ys m) t) (shlW_lt _ _) (shrW_lt _ (ly.get m))
  have p1 : binOp .sub 3 (.int .i64 (xs.length : Int)) (.int .i64 1) = pure (.int .i64 ((m + 1 : Nat) : Int)) := i64_sub _ xs.length 1 (m + 1) (by omega) (by omega)
  have p2 : binOp .sub 3 (.int .i64 ((m + 1 : Nat) : Int)) (.int .i64 1) = pure (.int .i64 (m : Int)) := i64_sub _ (m + 1) 1 m (by omega) (by omega)
  have p3 : binOp .sub 3 (.int .i64 64) (.int .i64 (u : Int)) = pure (.int .i64 (t : Int)) := i64_sub _ 64 u t (by omega) (by omega)
  have L1 := hide (fun k => quiet_of (limb_any B d ys (m + 1) (w.drewN k) (hy.drewN k) (by omega) (by omega)))
  have L2 := hide (fun k => quiet_of (limb_any B d ys m (w.drewN k) (hy.drewN k) (by omega) (by omega)))
  have k1 : m + 1 < xs.length := by omega
  have k2 : m < xs.length := by omega
  have k3 : xs.length ≤ 10002 := by omega
  clear hx hy ha f1 f2 f3 g1 g2 g3 s1 s2 hx2 ht h0 hle lx ly hxl hyl
  generalize xs.length = n at *
  generalize lim xs (m + 1) = x2 at *
  generalize lim xs m = x1 at *
  generalize lim ys (m + 1) = y2 at *
  generalize lim ys m = y1 at *
  generalize shlW x2 u = a1 at *
  generalize shrW x1 t = a2 at *
  generalize orW a1 a2 = a3 at *
  generalize shlW y2 u = b1 at *
  generalize shrW y1 t = b2 at *
  generalize orW b1 b2 = b3 at *
  obtain ⟨m1, hm1⟩ : ∃ m1, m1 = m + 1 := ⟨_, rfl⟩
  rw [← hm1] at p1 p2 k1 c1 L1
  clear hm1
  go_enter Tryz.func151, Tryz.ntmps151
  go_wp2_with (go_at_call 161; (with_reducible refine (LZ.out _).mono ?_); rintro e w' ⟨rfl, rfl⟩)
  go_quiet (fail)
  go_wp2
  go_quiet (first
    | (go_at_call 166; with_reducible exact quiet_add (L1.out _))
    | (go_at_call 166; with_reducible exact quiet_add (L2.out _)))
  go_wp2
  go_ret2
  obtain ⟨H, L, P, x0, y0, rfl, rfl, h1, h2, h3, h4, h5, h6⟩ := FF.out
  exact ⟨_, _, P, x0, y0, rfl, h1, h2, h3, h4, h5, h6, dr2 _ _ _⟩
structure Lh (H L a b c d h l : Nat) (odd : Bool) : Prop where
  even : odd = false → a * H = h + b * L ∧ d * L = l + c * H ∧ a * d = 1 + b * c
  odds : odd = true → b * L = h + a * H ∧ c * H = l + d * L ∧ b * c = 1 + a * d
  hH : H = d * h + b * l
  hL : L = c * h + a * l
  le : l ≤ h
  one : 1 ≤ d
  first : (a = 1 ∧ b = 0 ∧ c = 0 ∧ d = 1) ∨ (1 ≤ c ∧ a ≤ b ∧ c ≤ d ∧ 1 ≤ b ∧ d ≤ l ∧ b + d + l ≤ h)
theorem Lh.start {H L : Nat} (h : L ≤ H) : Lh H L 1 0 0 1 H L false where
  even := fun _ => ⟨by simp, by simp, by simp⟩
  odds := fun e => by cases e
  hH := by simp
  hL := by simp
  le := h
  one := Nat.le_refl _
  first := .inl ⟨rfl, rfl, rfl, rfl⟩
theorem Lh.room {H L a b c d h l : Nat} {odd : Bool} (s : Lh H L a b c d h l odd) (hl : 0 < l) : b + h / l * d ≤ H ∧ a + h / l * c ≤ L ∧ 1 ≤ h / l ∧ d ≤ b + h / l * d := by
  have hq : h / l * l ≤ h := Nat.div_mul_le_self h l
  have h1 : 1 ≤ h / l := (Nat.one_le_div_iff hl).2 s.le
  have k1 : (b + h / l * d) * l ≤ H := by
    rw [s.hH, Nat.add_mul, Nat.mul_right_comm]
    have := Nat.mul_le_mul_right d hq
    rw [Nat.mul_comm h d] at this
    omega
  have k2 : (a + h / l * c) * l ≤ L := by
    rw [s.hL, Nat.add_mul, Nat.mul_right_comm]
    have := Nat.mul_le_mul_right c hq
    rw [Nat.mul_comm h c] at this
    omega
  refine ⟨Nat.le_trans (Nat.le_mul_of_pos_right _ hl) k1, Nat.le_trans (Nat.le_mul_of_pos_right _ hl) k2, h1, ?_⟩
  have := Nat.le_mul_of_pos_left d h1
  omega
theorem Lh.room2 {H L a b c d h l : Nat} {odd : Bool} (s : Lh H L a b c d h l odd) (hl : 0 < l) (k : b + h / l * d < l) : d + (b + h / l * d) ≤ H ∨ d + (b + h / l * d) ≤ 2 := by
  have hq : h / l * l ≤ h := Nat.div_mul_le_self h l
  obtain ⟨_, _, _, r4⟩ := s.room hl
  have k1 : (b + h / l * d) * l ≤ H := by
    rw [s.hH, Nat.add_mul, Nat.mul_right_comm]
    have := Nat.mul_le_mul_right d hq
    rw [Nat.mul_comm h d] at this
    omega
  generalize b + h / l * d = e at *
  rcases Nat.lt_or_ge 1 e with h1 | h1
  · left
    have : e * 2 ≤ e * l := Nat.mul_le_mul_left _ (by omega)
    omega
  · right; omega
theorem Lh.step {H L a b c d h l : Nat} {odd : Bool} (s : Lh H L a b c d h l odd) (hl : 0 < l) (k1 : b + h / l * d ≤ h % l) (k2 : d + (b + h / l * d) + h % l ≤ l) :
    Lh H L c d (a + h / l * c) (b + h / l * d) l (h % l) (!odd) := by
  obtain ⟨_, _, hq, hd⟩ := s.room hl
  have e := Nat.div_add_mod h l
  generalize h / l = q at *
  generalize h % l = r at *
  have e' : h = q * l + r := by rw [Nat.mul_comm q l]; exact e.symm
  refine ⟨fun ho => ?_, fun ho => ?_, ?_, ?_, by omega, by have := s.one; omega, .inr ⟨?_, ?_, ?_, s.one, by omega, by omega⟩⟩
  · have hodd : odd = true := by cases odd <;> simp_all
    obtain ⟨h1, h2, h3⟩ := s.odds hodd
    refine ⟨by omega, ?_, ?_⟩
    · -- (b + q d) L = r + (a + q c) H
      have : q * (c * H) = q * (l + d * L) := by rw [h2]
      rw [Nat.mul_add, ← Nat.mul_assoc, ← Nat.mul_assoc] at this
      rw [Nat.add_mul, Nat.add_mul]
      omega
    · rw [Nat.mul_add, Nat.mul_add, Nat.mul_left_comm d q c, Nat.mul_left_comm c q d, Nat.mul_comm c b, Nat.mul_comm d a, Nat.mul_comm d c]
      omega
  · have hodd : odd = false := by cases odd <;> simp_all
    obtain ⟨h1, h2, h3⟩ := s.even hodd
    refine ⟨by omega, ?_, ?_⟩
    · have : q * (d * L) = q * (l + c * H) := by rw [h2]
      rw [Nat.mul_add, ← Nat.mul_assoc, ← Nat.mul_assoc] at this
      rw [Nat.add_mul, Nat.add_mul]
      omega
    · rw [Nat.mul_add, Nat.mul_add, Nat.mul_left_comm d q c, Nat.mul_left_comm c q d, Nat.mul_comm c b, Nat.mul_comm d a, Nat.mul_comm d c]
      omega
  · rw [s.hH, Nat.add_mul, e', Nat.mul_add, Nat.mul_right_comm q d l, Nat.mul_comm d (q * l)]
    omega
  · rw [s.hL, Nat.add_mul, e', Nat.mul_add, Nat.mul_right_comm q c l, Nat.mul_comm c (q * l)]
    omega
  · rcases s.first with ⟨rfl, rfl, rfl, rfl⟩ | ⟨h1, _⟩
    · omega
    · have := Nat.le_mul_of_pos_left c hq
      omega
  · rcases s.first with ⟨rfl, rfl, rfl, rfl⟩ | ⟨_, _, h1, _⟩
    · omega
    · exact h1
  · rcases s.first with ⟨rfl, rfl, rfl, rfl⟩ | ⟨_, h1, h2, _⟩
    · omega
    · have := Nat.mul_le_mul_left q h2
      omega
def lhX (a b X Y : Nat) (odd : Bool) : Nat := if odd then b * Y - a * X else a * X - b * Y
def lhY (c d X Y : Nat) (odd : Bool) : Nat := if odd then c * X - d * Y else d * Y - c * X
theorem comb_gcd {X Y x y a b c d : Nat} (h1 : X = d * x + b * y) (h2 : Y = c * x + a * y) (k1 : ∀ g, g ∣ X → g ∣ Y → g ∣ x) (k2 : ∀ g, g ∣ X → g ∣ Y → g ∣ y) : Nat.gcd x y = Nat.gcd X Y := by
  apply Nat.dvd_antisymm
  · have l := Nat.gcd_dvd_left x y
    have r := Nat.gcd_dvd_right x y
    refine Nat.dvd_gcd ?_ ?_
    · rw [h1]; exact Nat.dvd_add (Nat.dvd_mul_left_of_dvd l d) (Nat.dvd_mul_left_of_dvd r b)
    · rw [h2]; exact Nat.dvd_add (Nat.dvd_mul_left_of_dvd l c) (Nat.dvd_mul_left_of_dvd r a)
  · exact Nat.dvd_gcd (k1 _ (Nat.gcd_dvd_left _ _) (Nat.gcd_dvd_right _ _)) (k2 _ (Nat.gcd_dvd_left _ _) (Nat.gcd_dvd_right _ _))
theorem Lh.leads {H L a b c d h l P x0 y0 X Y : Nat} {odd : Bool} (s : Lh H L a b c d h l odd) (hb : b ≠ 0) (hX : X = H * P + x0) (hY : Y = L * P + y0) (hx : x0 < P) (hy : y0 < P) :
    (odd = false → b * Y ≤ a * X ∧ c * X ≤ d * Y) ∧ (odd = true → a * X ≤ b * Y ∧ d * Y ≤ c * X) ∧
      lhY c d X Y odd < lhX a b X Y odd ∧ lhX a b X Y odd ≤ Y ∧ Nat.gcd (lhX a b X Y odd) (lhY c d X Y odd) = Nat.gcd X Y := by
  obtain ⟨c1, ab, cd, b1, dl, bdl⟩ : 1 ≤ c ∧ a ≤ b ∧ c ≤ d ∧ 1 ≤ b ∧ d ≤ l ∧ b + d + l ≤ h := by
    rcases s.first with ⟨_, h0, _⟩ | h1
    · exact absurd h0 hb
    · exact h1
  have m1 := Nat.mul_le_mul_right P bdl
  have m2 := Nat.mul_le_mul_right P dl
  have m3 := Nat.mul_le_mul_right P cd
  have m4 := Nat.mul_le_mul_right P ab
  rw [Nat.add_mul, Nat.add_mul] at m1
  have n1 : b * y0 + b ≤ b * P := by rw [← Nat.mul_succ]; exact Nat.mul_le_mul_left _ hy
  have n2 : d * y0 ≤ d * P := Nat.mul_le_mul_left _ (by omega)
  have n3 : c * x0 + c ≤ c * P := by rw [← Nat.mul_succ]; exact Nat.mul_le_mul_left _ hx
  have n4 : a * x0 ≤ a * P := Nat.mul_le_mul_left _ (by omega)
  have eX : ∀ k, k * X = k * H * P + k * x0 := fun k => by rw [hX, Nat.mul_add, Nat.mul_assoc]
  have eY : ∀ k, k * Y = k * L * P + k * y0 := fun k => by rw [hY, Nat.mul_add, Nat.mul_assoc]
  cases odd with
  | false =>
    obtain ⟨h1, h2, h3⟩ := s.even rfl
    have a1 := eX a
    have a2 := eY d
    rw [h1, Nat.add_mul] at a1
    rw [h2, Nat.add_mul] at a2
    have a3 := eY b
    have a4 := eX c
    have p1 : b * Y ≤ a * X := by omega
    have p2 : c * X ≤ d * Y := by omega
    have q1 : lhX a b X Y false + b * Y = a * X := by simp only [lhX, Bool.false_eq_true, if_false]; omega
    have q2 : lhY c d X Y false + c * X = d * Y := by simp only [lhY, Bool.false_eq_true, if_false]; omega
    generalize lhX a b X Y false = x at *
    generalize lhY c d X Y false = y at *
    have r1 : X = d * x + b * y := by
      have t1 : d * (x + b * Y) = d * (a * X) := by rw [q1]
      have t2 : b * (y + c * X) = b * (d * Y) := by rw [q2]
      have t3 : (a * d) * X = (1 + b * c) * X := by rw [h3]
      rw [Nat.mul_add, ← Nat.mul_assoc, ← Nat.mul_assoc, Nat.mul_comm d b, Nat.mul_comm d a] at t1
      rw [Nat.mul_add, ← Nat.mul_assoc, ← Nat.mul_assoc] at t2
      rw [Nat.add_mul, Nat.one_mul] at t3
      omega
    have r2 : Y = c * x + a * y := by
      have t1 : c * (x + b * Y) = c * (a * X) := by rw [q1]
      have t2 : a * (y + c * X) = a * (d * Y) := by rw [q2]
      have t3 : (a * d) * Y = (1 + b * c) * Y := by rw [h3]
      rw [Nat.mul_add, ← Nat.mul_assoc, ← Nat.mul_assoc, Nat.mul_comm c b, Nat.mul_comm c a] at t1
      rw [Nat.mul_add, ← Nat.mul_assoc, ← Nat.mul_assoc] at t2
      rw [Nat.add_mul, Nat.one_mul] at t3
      omega
    refine ⟨fun _ => ⟨p1, p2⟩, fun e => (by cases e), by omega, ?_, ?_⟩
    · have := Nat.le_mul_of_pos_left x c1
      omega
    · refine comb_gcd r1 r2 (fun g gx gy => ?_) (fun g gx gy => ?_)
      · have : g ∣ x + b * Y := by rw [q1]; exact Nat.dvd_mul_left_of_dvd gx a
        exact (Nat.dvd_add_left (Nat.dvd_mul_left_of_dvd gy b)).1 this
      · have : g ∣ y + c * X := by rw [q2]; exact Nat.dvd_mul_left_of_dvd gy d
        exact (Nat.dvd_add_left (Nat.dvd_mul_left_of_dvd gx c)).1 this
  | true =>
    obtain ⟨h1, h2, h3⟩ := s.odds rfl
    have a1 := eY b
    have a2 := eX c
    rw [h1, Nat.add_mul] at a1
    rw [h2, Nat.add_mul] at a2
    have a3 := eX a
    have a4 := eY d
    have p1 : a * X ≤ b * Y := by omega
    have p2 : d * Y ≤ c * X := by omega
    have q1 : lhX a b X Y true + a * X = b * Y := by simp only [lhX, if_true]; omega
    have q2 : lhY c d X Y true + d * Y = c * X := by simp only [lhY, if_true]; omega
    generalize lhX a b X Y true = x at *
    generalize lhY c d X Y true = y at *
    have r1 : X = d * x + b * y := by
      have t1 : d * (x + a * X) = d * (b * Y) := by rw [q1]
      have t2 : b * (y + d * Y) = b * (c * X) := by rw [q2]
      have t3 : (b * c) * X = (1 + a * d) * X := by rw [h3]
      rw [Nat.mul_add, ← Nat.mul_assoc, ← Nat.mul_assoc, Nat.mul_comm d b, Nat.mul_comm d a] at t1
      rw [Nat.mul_add, ← Nat.mul_assoc, ← Nat.mul_assoc] at t2
      rw [Nat.add_mul, Nat.one_mul] at t3
      omega
    have r2 : Y = c * x + a * y := by
      have t1 : c * (x + a * X) = c * (b * Y) := by rw [q1]
      have t2 : a * (y + d * Y) = a * (c * X) := by rw [q2]
      have t3 : (b * c) * Y = (1 + a * d) * Y := by rw [h3]
      rw [Nat.mul_add, ← Nat.mul_assoc, ← Nat.mul_assoc, Nat.mul_comm c b, Nat.mul_comm c a] at t1
      rw [Nat.mul_add, ← Nat.mul_assoc, ← Nat.mul_assoc] at t2
      rw [Nat.add_mul, Nat.one_mul] at t3
      omega
    refine ⟨fun e => (by cases e), fun _ => ⟨p1, p2⟩, by omega, ?_, ?_⟩
    · have := Nat.le_mul_of_pos_left x c1
      omega
    · refine comb_gcd r1 r2 (fun g gx gy => ?_) (fun g gx gy => ?_)
      · have : g ∣ x + a * X := by rw [q1]; exact Nat.dvd_mul_left_of_dvd gy b
        exact (Nat.dvd_add_left (Nat.dvd_mul_left_of_dvd gx a)).1 this
      · have : g ∣ y + d * Y := by rw [q2]; exact Nat.dvd_mul_left_of_dvd gx c
        exact (Nat.dvd_add_left (Nat.dvd_mul_left_of_dvd gy d)).1 this
def Sc (g a b c d : Nat) (o : Bool) (w : World) : Prop :=
  w.cell? ⟨g, 0, none⟩ = some (.int .u64 (a : Int)) ∧ w.cell? ⟨g, 1, none⟩ = some (.int .u64 (b : Int)) ∧ w.cell? ⟨g, 2, none⟩ = some (.int .u64 (c : Int)) ∧ w.cell? ⟨g, 3, none⟩ = some (.int .u64 (d : Int)) ∧ w.cell? ⟨g, 4, none⟩ = some (.bool o) ∧
  w.frozen? ⟨g, 0, none⟩ = false ∧ w.frozen? ⟨g, 1, none⟩ = false ∧ w.frozen? ⟨g, 2, none⟩ = false ∧ w.frozen? ⟨g, 3, none⟩ = false ∧ w.frozen? ⟨g, 4, none⟩ = false
theorem Sc.next {g a b c d : Nat} {o : Bool} {w w' : World} (x : Sc g a b c d o w) (hb : Below w.heap.size w w') : Sc g a b c d o w' := by
  obtain ⟨h1, h2, h3, h4, h5, f1, f2, f3, f4, f5⟩ := x
  exact ⟨cell_next hb h1, cell_next hb h2, cell_next hb h3, cell_next hb h4, cell_next hb h5, frozen_next hb h1 f1, frozen_next hb h2 f2, frozen_next hb h3 f3, frozen_next hb h4 f4, frozen_next hb h5 f5⟩
theorem Sc.lt {g a b c d : Nat} {o : Bool} {w : World} (x : Sc g a b c d o w) : g < w.heap.size := by
  have h := x.1
  unfold World.cell? at h
  cases hh : w.heap[g]? with
  | none => rw [hh] at h; cases h
  | some y => exact (Array.getElem?_eq_some_iff.1 hh).1
theorem cs_same {w : World} {p : Addr} {v : Value} (h : w.cell? p = some v) (u : Value) : (w.setCell p u).cell? p = some u := World.cell?_setCell_same _ _ _ h
theorem cs_other {w : World} {g h j k : Nat} {v : Value} (hc : w.cell? ⟨g, k, none⟩ = some v) (u : Value) (hne : g ≠ h ∨ k ≠ j) : (w.setCell ⟨h, j, none⟩ u).cell? ⟨g, k, none⟩ = some v :=
  (World.cell?_setCell_other _ _ _ _ (by intro e; injection e with e1 e2; omega)).trans hc
theorem cs_fr {w : World} {p q : Addr} (hf : w.frozen? q = false) (u : Value) : (w.setCell p u).frozen? q = false := (World.frozen?_setCell _ _ _ _).trans hf
theorem Sc.far {g h a b c d j : Nat} {o : Bool} {w : World} (x : Sc g a b c d o w) (hne : g ≠ h) (u : Value) : Sc g a b c d o (w.setCell ⟨h, j, none⟩ u) := by
  obtain ⟨h1, h2, h3, h4, h5, f1, f2, f3, f4, f5⟩ := x
  exact ⟨cs_other h1 u (.inl hne), cs_other h2 u (.inl hne), cs_other h3 u (.inl hne), cs_other h4 u (.inl hne), cs_other h5 u (.inl hne), cs_fr f1 u, cs_fr f2 u, cs_fr f3 u, cs_fr f4 u, cs_fr f5 u⟩
def put5 (w : World) (g : Nat) (a b c d : Nat) (o : Bool) : World :=
  ((((w.setCell ⟨g, 0, none⟩ (.int .u64 (a : Int))).setCell ⟨g, 1, none⟩ (.int .u64 (b : Int))).setCell ⟨g, 2, none⟩ (.int .u64 (c : Int))).setCell ⟨g, 3, none⟩ (.int .u64 (d : Int))).setCell ⟨g, 4, none⟩ (.bool o)
theorem Sc.store {g a b c d : Nat} {o : Bool} {w : World} (x : Sc g a b c d o w) (a' b' c' d' : Nat) (o' : Bool) : Sc g a' b' c' d' o' (put5 w g a' b' c' d' o') := by
  obtain ⟨h1, h2, h3, h4, h5, f1, f2, f3, f4, f5⟩ := x
  unfold put5
  refine ⟨?_, ?_, ?_, ?_, ?_, cs_fr (cs_fr (cs_fr (cs_fr (cs_fr f1 _) _) _) _) _, cs_fr (cs_fr (cs_fr (cs_fr (cs_fr f2 _) _) _) _) _, cs_fr (cs_fr (cs_fr (cs_fr (cs_fr f3 _) _) _) _) _, cs_fr (cs_fr (cs_fr (cs_fr (cs_fr f4 _) _) _) _) _, cs_fr (cs_fr (cs_fr (cs_fr (cs_fr f5 _) _) _) _) _⟩
  · exact cs_other (cs_other (cs_other (cs_other (cs_same h1 _) _ (.inr (by decide))) _ (.inr (by decide))) _ (.inr (by decide))) _ (.inr (by decide))
  · exact cs_other (cs_other (cs_other (cs_same (cs_other h2 _ (.inr (by decide))) _) _ (.inr (by decide))) _ (.inr (by decide))) _ (.inr (by decide))
  · exact cs_other (cs_other (cs_same (cs_other (cs_other h3 _ (.inr (by decide))) _ (.inr (by decide))) _) _ (.inr (by decide))) _ (.inr (by decide))
  · exact cs_other (cs_same (cs_other (cs_other (cs_other h4 _ (.inr (by decide))) _ (.inr (by decide))) _ (.inr (by decide))) _) _ (.inr (by decide))
  · exact cs_same (cs_other (cs_other (cs_other (cs_other h5 _ (.inr (by decide))) _ (.inr (by decide))) _ (.inr (by decide))) _ (.inr (by decide))) _
theorem Sc.put_far {g h a b c d a' b' c' d' : Nat} {o o' : Bool} {w : World} (x : Sc g a b c d o w) (hne : g ≠ h) : Sc g a b c d o (put5 w h a' b' c' d' o') :=
  ((((x.far hne _).far hne _).far hne _).far hne _).far hne _
theorem put_below {w w' : World} {h a b c d : Nat} {o : Bool} (b' : Below w.heap.size w w') (hh : w.heap.size ≤ h) : Below w.heap.size w (put5 w' h a b c d o) :=
  ((((b'.setCell hh _).setCell hh _).setCell hh _).setCell hh _).setCell hh _
theorem Sc.new (a b c d : Nat) (o : Bool) (w : World) : Sc w.heap.size a b c d o (w.alloc (.cells #[.int .u64 (a : Int), .int .u64 (b : Int), .int .u64 (c : Int), .int .u64 (d : Int), .bool o] 189)) := by
  have h := cell_new w #[.int .u64 (a : Int), .int .u64 (b : Int), .int .u64 (c : Int), .int .u64 (d : Int), .bool o] 189
  have hn := heap_alloc_new w (.cells #[.int .u64 (a : Int), .int .u64 (b : Int), .int .u64 (c : Int), .int .u64 (d : Int), .bool o] 189)
  exact ⟨h 0, h 1, h 2, h 3, h 4, by unfold World.frozen?; rw [hn]; rfl, by unfold World.frozen?; rw [hn]; rfl, by unfold World.frozen?; rw [hn]; rfl, by unfold World.frozen?; rw [hn]; rfl, by unfold World.frozen?; rw [hn]; rfl⟩
theorem ulss_t (t : TypeId) {x y : Nat} (h : x < y) : binOp .lss t (.int .u64 (x : Int)) (.int .u64 (y : Int)) = pure (.bool true) := by
  show pure (Value.bool (decide ((x : Int) < (y : Int)))) = _
  rw [decide_eq_true (by omega)]
theorem ulss_f (t : TypeId) {x y : Nat} (h : y ≤ x) : binOp .lss t (.int .u64 (x : Int)) (.int .u64 (y : Int)) = pure (.bool false) := by
  show pure (Value.bool (decide ((x : Int) < (y : Int)))) = _
  rw [decide_eq_false (by omega)]
theorem SLE {H L a b c d h l : Nat} {odd : Bool} (s : Lh H L a b c d h l odd) : c * h + a * l ≤ d * h + b * l := by
  rcases s.first with ⟨rfl, rfl, rfl, rfl⟩ | ⟨_, h1, h2, _⟩
  · have := s.le; omega
  · exact Nat.add_le_add (Nat.mul_le_mul_right _ h2) (Nat.mul_le_mul_right _ h1)
theorem sure_any (A B : Option Addr) (c d m : Nat) (xs ys : List Nat) (w : World) (hx : Sl w A xs) (hy : Sl w B ys) (lx : Limbs xs) (ly : Limbs ys) (hxl : xs.length = m + 2) (hyl : ys.length ≤ m + 2) (hm : m ≤ 10000) (h0 : lim xs (m + 1) ≠ 0) (hle : val ys ≤ val xs) :
    Calls Tryz.prog 124 #[.slice A xs.length c, .slice B ys.length d] w fun e w' => ∃ (a b c d h l H L P x0 y0 : Nat) (odd : Bool), e = .returned (.agg #[.int .u64 (a : Int), .int .u64 (b : Int), .int .u64 (c : Int), .int .u64 (d : Int), .bool odd]) ∧
      Lh H L a b c d h l odd ∧ a < LB ∧ b < LB ∧ c < LB ∧ d < LB ∧ val xs = H * P + x0 ∧ val ys = L * P + y0 ∧ x0 < P ∧ y0 < P ∧ Below w.heap.size w w' := by
  have HI := hide (fun W (h : Below w.heap.size w W) => highest_any A B c d m xs ys W (bl_keeps h _ _ hx) (bl_keeps h _ _ hy) lx ly hxl hyl hm h0 hle)
  have HLE := hide hle
  clear hx hy lx ly h0 hle hxl
  go_enter Tryz.func124, Tryz.ntmps124
  go_wp2_with (go_at_call 151; (with_reducible refine (HI.out _ (bl_al (.refl _ _) _)).mono ?_); rintro e w1 ⟨H, L, P, x0, y0, rfl, e1, e2, e3, e4, e5, e6, q, rfl⟩)
  have hLH : L ≤ H := by
    have := HLE.out
    rw [e1, e2] at this
    rcases Nat.lt_or_ge H L with h | h
    · have := Nat.mul_le_mul_right P h
      rw [Nat.succ_mul] at this
      omega
    · exact h
  have F := hide (show val xs = H * P + x0 ∧ val ys = L * P + y0 ∧ x0 < P ∧ y0 < P from ⟨e1, e2, e3, e4⟩)
  have HL := hide e5
  have ST := hide (Lh.start hLH)
  clear e1 e2 e3 e4 HLE HI hLH hyl e6
  have S0 : Sc w.heap.size 0 0 0 0 false (((w.alloc (.cells #[.int .u64 0, .int .u64 0, .int .u64 0, .int .u64 0, .bool false] 189)).drewN q).alloc (.cells #[.int .u64 1, .int .u64 0, .int .u64 0, .int .u64 1, .bool false] 189)) :=
    Sc.next (w := (w.alloc (.cells #[.int .u64 0, .int .u64 0, .int .u64 0, .int .u64 0, .bool false] 189)).drewN q) (Sc.new 0 0 0 0 false w) (bl_al (.refl _ _) _)
  have S1 : Sc (w.heap.size + 1) 1 0 0 1 false (((w.alloc (.cells #[.int .u64 0, .int .u64 0, .int .u64 0, .int .u64 0, .bool false] 189)).drewN q).alloc (.cells #[.int .u64 1, .int .u64 0, .int .u64 0, .int .u64 1, .bool false] 189)) := by
    have := Sc.new 1 0 0 1 false ((w.alloc (.cells #[.int .u64 0, .int .u64 0, .int .u64 0, .int .u64 0, .bool false] 189)).drewN q)
    rwa [show ((w.alloc (.cells #[.int .u64 0, .int .u64 0, .int .u64 0, .int .u64 0, .bool false] 189)).drewN q).heap.size = w.heap.size + 1 from size1 _ _] at this
  have B0 : Below w.heap.size w (((w.alloc (.cells #[.int .u64 0, .int .u64 0, .int .u64 0, .int .u64 0, .bool false] 189)).drewN q).alloc (.cells #[.int .u64 1, .int .u64 0, .int .u64 0, .int .u64 1, .bool false] 189)) :=
    bl_al (Below.drewN' (bl_al (.refl _ _) _) _) _
  generalize ((w.alloc (.cells #[.int .u64 0, .int .u64 0, .int .u64 0, .int .u64 0, .bool false] 189)).drewN q).alloc (.cells #[.int .u64 1, .int .u64 0, .int .u64 0, .int .u64 1, .bool false] 189) = W0 at *
  have S0 := hide S0
  have S1 := hide S1
  have B0 := hide B0
  go_loopw [5, 6] (fun hi lo wr => ∃ (a b c d h l : Nat) (odd : Bool), hi = .int .u64 (h : Nat) ∧ lo = .int .u64 (l : Nat) ∧ Lh H L a b c d h l odd ∧ a < LB ∧ b < LB ∧ c < LB ∧ d < LB ∧ h < LB ∧ Sc w.heap.size 0 0 0 0 false wr ∧ Sc (w.heap.size + 1) a b c d odd wr ∧ Below w.heap.size w wr) (fun _ lo _ => (intOf lo).toNat)
  case atStart => exact ⟨1, 0, 0, 1, H, L, false, rfl, rfl, ST.out, by rw [LB_eq]; omega, LB_pos, LB_pos, by rw [LB_eq]; omega, HL.out, S0.out, S1.out, B0.out⟩
  case round =>
    obtain ⟨a, b, c, d, h, l, odd, rfl, rfl, lh, ha, hb, hc, hd, hh, s0, s1, bb⟩ := hrel
    have END : Hid (∀ W, Sc w.heap.size a b c d odd W → Below w.heap.size w W → ∃ (a' b' c' d' h l H L P x0 y0 : Nat) (odd' : Bool), Ending.returned (.agg #[.int .u64 (a : Int), .int .u64 (b : Int), .int .u64 (c : Int), .int .u64 (d : Int), .bool odd]) = .returned (.agg #[.int .u64 (a' : Int), .int .u64 (b' : Int), .int .u64 (c' : Int), .int .u64 (d' : Int), .bool odd']) ∧
      Lh H L a' b' c' d' h l odd' ∧ a' < LB ∧ b' < LB ∧ c' < LB ∧ d' < LB ∧ val xs = H * P + x0 ∧ val ys = L * P + y0 ∧ x0 < P ∧ y0 < P ∧ Below w.heap.size w W) :=
      fun W _ hB => ⟨a, b, c, d, h, l, H, L, P, x0, y0, odd, rfl, lh, ha, hb, hc, hd, F.out.1, F.out.2.1, F.out.2.2.1, F.out.2.2.2, hB⟩
    obtain ⟨x1, x2, x3, x4, x5, f1, f2, f3, f4, f5⟩ := id s1
    obtain ⟨z1, z2, z3, z4, z5, g1, g2, g3, g4, g5⟩ := id s0
    have S0 := hide s0
    have S1 := hide s1
    have BB := hide bb
    clear s0 s1 bb
    by_cases hl0 : l = 0
    · subst hl0
      clear lh ha hb hc hd hh
      go_wp2
      have Z := S0.out.store a b c d odd
      have ZB := put_below (a := a) (b := b) (c := c) (d := d) (o := odd) BB.out (Nat.le_refl _)
      change bodyPost _ _ _ _ _ (put5 _ w.heap.size a b c d odd)
      generalize put5 _ w.heap.size a b c d odd = W at Z ZB ⊢
      obtain ⟨y1, y2, y3, y4, y5, _⟩ := id Z
      exact bodyPost_ret (v := .agg #[.int .u64 (a : Int), .int .u64 (b : Int), .int .u64 (c : Int), .int .u64 (d : Int), .bool odd]) (by simp [results, Tryz.results124, go_sem, y1, y2, y3, y4, y5]) rfl (END.out W Z ZB)
    · have hlp : 0 < l := by omega
      have e0 : ((l : Int) != 0) = true := by simp; omega
      obtain ⟨r1, r2, r3, r4⟩ := lh.room hlp
      have r5 := lh.room2 hlp
      have STEP := hide (fun k1 k2 => lh.step hlp k1 k2)
      have hcL : a + h / l * c < LB := by
        have := lh.le
        have h1 := HL.out
        have : L ≤ H := by rw [lh.hH, lh.hL]; exact SLE lh
        omega
      have hdL : b + h / l * d < LB := by (have h1 := HL.out; omega)
      obtain ⟨n, hn⟩ : ∃ n, n = h / l := ⟨_, rfl⟩
      obtain ⟨r, hr⟩ : ∃ r, r = h % l := ⟨_, rfl⟩
      have o1 : binOp .quo 128 (.int .u64 (h : Int)) (.int .u64 (l : Int)) = pure (.int .u64 (n : Int)) := by rw [hn]; exact op_quo _ h l hh hlp
      have o2 : binOp .rem 128 (.int .u64 (h : Int)) (.int .u64 (l : Int)) = pure (.int .u64 (r : Int)) := by rw [hr]; exact op_rem _ h l hlp
      have rl : r < l := by rw [hr]; exact Nat.mod_lt _ hlp
      rw [← hn, ← hr] at STEP
      rw [← hn] at hcL hdL r1 r2 r3 r4 r5
      obtain ⟨p1, hp1⟩ : ∃ p, p = n * c := ⟨_, rfl⟩
      obtain ⟨p2, hp2⟩ : ∃ p, p = n * d := ⟨_, rfl⟩
      rw [← hp1] at STEP hcL r2
      rw [← hp2] at STEP hdL r1 r4 r5
      obtain ⟨c2, hc2⟩ : ∃ p, p = a + p1 := ⟨_, rfl⟩
      obtain ⟨d2, hd2⟩ : ∃ p, p = b + p2 := ⟨_, rfl⟩
      rw [← hc2] at STEP hcL
      rw [← hd2] at STEP hdL r4 r5
      have o3 : binOp .mul 128 (.int .u64 (n : Int)) (.int .u64 (c : Int)) = pure (.int .u64 (p1 : Int)) := op_mul_lt _ n c p1 hp1 (by omega)
      have o4 : binOp .mul 128 (.int .u64 (n : Int)) (.int .u64 (d : Int)) = pure (.int .u64 (p2 : Int)) := op_mul_lt _ n d p2 hp2 (by omega)
      have o5 : binOp .add 128 (.int .u64 (a : Int)) (.int .u64 (p1 : Int)) = pure (.int .u64 (c2 : Int)) := op_add_lt _ a p1 c2 hc2 hcL
      have o6 : binOp .add 128 (.int .u64 (b : Int)) (.int .u64 (p2 : Int)) = pure (.int .u64 (d2 : Int)) := op_add_lt _ b p2 d2 hd2 hdL
      obtain ⟨z, hz⟩ : ∃ z, z + r = l := ⟨l - r, by omega⟩
      have lL : l < LB := Nat.lt_of_le_of_lt lh.le hh
      have o7 : binOp .sub 128 (.int .u64 (l : Int)) (.int .u64 (r : Int)) = pure (.int .u64 (z : Int)) := op_sub_le _ l r z hz lL
      have FACT := hide (show c2 < LB ∧ d2 < LB ∧ l < LB ∧ r < l ∧ z + r = l from ⟨hcL, hdL, lL, rl, hz⟩)
      have CD := hide (show c < LB ∧ d < LB from ⟨hc, hd⟩)
      have S2 := hide (fun k => (show Sc w.heap.size 0 0 0 0 false (wr.drewN k) ∧ Sc (w.heap.size + 1) a b c d odd (wr.drewN k) ∧ Below w.heap.size w (wr.drewN k) from ⟨S0.out, S1.out, Below.drewN' BB.out k⟩))
      clear S0 S1 BB x1 x2 x3 x4 x5 f1 f2 f3 f4 f5 z1 z2 z3 z4 z5 g1 g2 g3 g4 g5
      by_cases k1 : r < d2
      · have ob : binOp .lss 128 (.int .u64 (r : Int)) (.int .u64 (d2 : Int)) = pure (.bool true) := ulss_t _ k1
        clear hl0 hlp lh ha hb hc hd hh r1 r2 r3 r4 r5 hcL hdL hn hr rl hp1 hp2 hc2 hd2 hz lL STEP FACT CD k1
        go_wp2
        go_quiet (fail)
        generalize hW : wr.drewN _ = w2
        obtain ⟨s0, s1, bb⟩ : Sc w.heap.size 0 0 0 0 false w2 ∧ Sc (w.heap.size + 1) a b c d odd w2 ∧ Below w.heap.size w w2 := by rw [← hW]; exact S2.out _
        clear hW S2
        have hsz : w.heap.size + 1 < w2.heap.size := s1.lt
        obtain ⟨x1, x2, x3, x4, x5, f1, f2, f3, f4, f5⟩ := id s1
        have N0 := hide (s0.next (bl_al (.refl _ _) (.cells #[.int .u64 (c : Int), .int .u64 (d : Int), .int .u64 (c2 : Int), .int .u64 (d2 : Int), .bool !odd] 189)))
        have N1 := hide (s1.next (bl_al (.refl _ _) (.cells #[.int .u64 (c : Int), .int .u64 (d : Int), .int .u64 (c2 : Int), .int .u64 (d2 : Int), .bool !odd] 189)))
        have N2 := hide (Sc.new c d c2 d2 (!odd) w2)
        have NB := hide (bl_al bb (.cells #[.int .u64 (c : Int), .int .u64 (d : Int), .int .u64 (c2 : Int), .int .u64 (d2 : Int), .bool !odd] 189))
        obtain ⟨y1, y2, y3, y4, y5, h1, h2, h3, h4, h5⟩ := N1.out
        obtain ⟨z1, z2, z3, z4, z5, g1, g2, g3, g4, g5⟩ := N0.out
        have H0 := hide s0
        have H1 := hide s1
        have HB := hide bb
        clear s0 s1 bb
        go_wp2
        have Z := N0.out.store a b c d odd
        have ZB := put_below (a := a) (b := b) (c := c) (d := d) (o := odd) NB.out (Nat.le_refl _)
        change bodyPost _ _ _ _ _ (put5 _ w.heap.size a b c d odd)
        generalize put5 _ w.heap.size a b c d odd = W at Z ZB ⊢
        obtain ⟨y1, y2, y3, y4, y5, _⟩ := id Z
        exact bodyPost_ret (v := .agg #[.int .u64 (a : Int), .int .u64 (b : Int), .int .u64 (c : Int), .int .u64 (d : Int), .bool odd]) (by simp [results, Tryz.results124, go_sem, y1, y2, y3, y4, y5]) rfl (END.out W Z ZB)
      · have ob : binOp .lss 128 (.int .u64 (r : Int)) (.int .u64 (d2 : Int)) = pure (.bool false) := ulss_f _ (by omega)
        obtain ⟨e, he⟩ : ∃ e, e = d + d2 := ⟨_, rfl⟩
        have eL : e < LB := by
          have := HL.out
          rcases r5 (by omega) with h1 | h1
          · omega
          · rw [LB_eq]; omega
        have o8 : binOp .add 128 (.int .u64 (d : Int)) (.int .u64 (d2 : Int)) = pure (.int .u64 (e : Int)) := op_add_lt _ d d2 e he eL
        by_cases k2 : z < e
        · have oc : binOp .lss 128 (.int .u64 (z : Int)) (.int .u64 (e : Int)) = pure (.bool true) := ulss_t _ k2
          clear hl0 hlp lh ha hb hc hd hh r1 r2 r3 r4 r5 hcL hdL hn hr rl hp1 hp2 hc2 hd2 hz lL STEP FACT CD k1 k2 he eL
          go_wp2
          go_quiet (fail)
          generalize hW : wr.drewN _ = w2
          obtain ⟨s0, s1, bb⟩ : Sc w.heap.size 0 0 0 0 false w2 ∧ Sc (w.heap.size + 1) a b c d odd w2 ∧ Below w.heap.size w w2 := by rw [← hW]; exact S2.out _
          clear hW S2
          have hsz : w.heap.size + 1 < w2.heap.size := s1.lt
          obtain ⟨x1, x2, x3, x4, x5, f1, f2, f3, f4, f5⟩ := id s1
          have N0 := hide (s0.next (bl_al (.refl _ _) (.cells #[.int .u64 (c : Int), .int .u64 (d : Int), .int .u64 (c2 : Int), .int .u64 (d2 : Int), .bool !odd] 189)))
          have N1 := hide (s1.next (bl_al (.refl _ _) (.cells #[.int .u64 (c : Int), .int .u64 (d : Int), .int .u64 (c2 : Int), .int .u64 (d2 : Int), .bool !odd] 189)))
          have N2 := hide (Sc.new c d c2 d2 (!odd) w2)
          have NB := hide (bl_al bb (.cells #[.int .u64 (c : Int), .int .u64 (d : Int), .int .u64 (c2 : Int), .int .u64 (d2 : Int), .bool !odd] 189))
          obtain ⟨y1, y2, y3, y4, y5, h1, h2, h3, h4, h5⟩ := N1.out
          obtain ⟨z1, z2, z3, z4, z5, g1, g2, g3, g4, g5⟩ := N0.out
          have H0 := hide s0
          have H1 := hide s1
          have HB := hide bb
          clear s0 s1 bb
          go_wp2
          have Z := N0.out.store a b c d odd
          have ZB := put_below (a := a) (b := b) (c := c) (d := d) (o := odd) NB.out (Nat.le_refl _)
          change bodyPost _ _ _ _ _ (put5 _ w.heap.size a b c d odd)
          generalize put5 _ w.heap.size a b c d odd = W at Z ZB ⊢
          obtain ⟨y1, y2, y3, y4, y5, _⟩ := id Z
          exact bodyPost_ret (v := .agg #[.int .u64 (a : Int), .int .u64 (b : Int), .int .u64 (c : Int), .int .u64 (d : Int), .bool odd]) (by simp [results, Tryz.results124, go_sem, y1, y2, y3, y4, y5]) rfl (END.out W Z ZB)
        · have oc : binOp .lss 128 (.int .u64 (z : Int)) (.int .u64 (e : Int)) = pure (.bool false) := ulss_f _ (by omega)
          have K1 := hide (show d2 ≤ r by omega)
          have K2 := hide (show d + d2 + r ≤ l by omega)
          clear hl0 hlp lh ha hb hc hd hh r1 r2 r3 r4 r5 hcL hdL hn hr rl hp1 hp2 hc2 hd2 hz lL k1 k2 he eL
          go_wp2
          go_quiet (fail)
          generalize hW : wr.drewN _ = w2
          obtain ⟨s0, s1, bb⟩ : Sc w.heap.size 0 0 0 0 false w2 ∧ Sc (w.heap.size + 1) a b c d odd w2 ∧ Below w.heap.size w w2 := by rw [← hW]; exact S2.out _
          clear hW S2
          have hsz : w.heap.size + 1 < w2.heap.size := s1.lt
          obtain ⟨x1, x2, x3, x4, x5, f1, f2, f3, f4, f5⟩ := id s1
          have N0 := hide (s0.next (bl_al (.refl _ _) (.cells #[.int .u64 (c : Int), .int .u64 (d : Int), .int .u64 (c2 : Int), .int .u64 (d2 : Int), .bool !odd] 189)))
          have N1 := hide (s1.next (bl_al (.refl _ _) (.cells #[.int .u64 (c : Int), .int .u64 (d : Int), .int .u64 (c2 : Int), .int .u64 (d2 : Int), .bool !odd] 189)))
          have N2 := hide (Sc.new c d c2 d2 (!odd) w2)
          have NB := hide (bl_al bb (.cells #[.int .u64 (c : Int), .int .u64 (d : Int), .int .u64 (c2 : Int), .int .u64 (d2 : Int), .bool !odd] 189))
          obtain ⟨y1, y2, y3, y4, y5, h1, h2, h3, h4, h5⟩ := N1.out
          obtain ⟨z1, z2, z3, z4, z5, g1, g2, g3, g4, g5⟩ := N0.out
          have H0 := hide s0
          have H1 := hide s1
          have HB := hide bb
          clear s0 s1 bb
          go_wp2
          go_roundw
          case rel =>
            have AL := bl_al (.refl _ (put5 w2 (w.heap.size + 1) c d c2 d2 (!odd))) (.cells #[.int .u64 (c : Int), .int .u64 (d : Int), .int .u64 (c2 : Int), .int .u64 (d2 : Int), .bool !odd] 189)
            have Z1 := (H1.out.store c d c2 d2 (!odd)).next AL
            have Z0 := (H0.out.put_far (h := w.heap.size + 1) (a' := c) (b' := d) (c' := c2) (d' := d2) (o' := !odd) (by omega)).next AL
            have ZB := bl_al (put_below (h := w.heap.size + 1) (a := c) (b := d) (c := c2) (d := d2) (o := !odd) HB.out (by omega)) (.cells #[.int .u64 (c : Int), .int .u64 (d : Int), .int .u64 (c2 : Int), .int .u64 (d2 : Int), .bool !odd] 189)
            exact ⟨c, d, c2, d2, l, r, !odd, rfl, rfl, STEP.out K1.out K2.out, CD.out.1, CD.out.2, FACT.out.1, FACT.out.2.1, FACT.out.2.2.1, Z0, Z1, ZB⟩
          case measure => (have := FACT.out.2.2.2.1; simp [intOf]; omega)
def Kd (w W : World) : Prop := Below w.heap.size w W
theorem Kd.b {w W : World} (k : Kd w W) : Below w.heap.size w W := k
theorem Kd.drew {w W : World} (k : Kd w W) : Kd w W.drew := Below.drew k
theorem D_next {w w' w0 : World} {g : Nat} {v0 v1 v2 v3 v4 : Value} (hb : Below w.heap.size w w')
    (h : w.cell? ⟨g, 0, none⟩ = some v0 ∧ w.cell? ⟨g, 1, none⟩ = some v1 ∧ w.cell? ⟨g, 2, none⟩ = some v2 ∧ w.cell? ⟨g, 3, none⟩ = some v3 ∧ w.cell? ⟨g, 4, none⟩ = some v4 ∧ Kd w0 w) :
    w'.cell? ⟨g, 0, none⟩ = some v0 ∧ w'.cell? ⟨g, 1, none⟩ = some v1 ∧ w'.cell? ⟨g, 2, none⟩ = some v2 ∧ w'.cell? ⟨g, 3, none⟩ = some v3 ∧ w'.cell? ⟨g, 4, none⟩ = some v4 ∧ Kd w0 w' := by
  obtain ⟨h1, h2, h3, h4, h5, h6⟩ := h
  exact ⟨cell_next hb h1, cell_next hb h2, cell_next hb h3, cell_next hb h4, cell_next hb h5, bl_trans h6 hb⟩
theorem kd_of {c1 c2 c3 c4 c5 k : Prop} (h : c1 ∧ c2 ∧ c3 ∧ c4 ∧ c5 ∧ k) : k := h.2.2.2.2.2
theorem done_any (A B : Option Addr) (n m ca cb a b c d : Nat) (odd : Bool) (xs ys : List Nat) (w : World) (hn : xs.length = n) (hm : ys.length = m) (hx : Sl w A xs) (hy : Sl w B ys) (lx : Limbs xs) (ly : Limbs ys) (hl : n ≤ 10000) (hl' : m ≤ n) (ha : a < LB) (hb : b < LB) (hc : c < LB) (hd : d < LB)
    (f0 : odd = false → b * val ys ≤ a * val xs ∧ c * val xs ≤ d * val ys) (f1 : odd = true → a * val xs ≤ b * val ys ∧ d * val ys ≤ c * val xs) (f2 : lhX a b (val xs) (val ys) odd < LB ^ n) (f3 : lhY c d (val xs) (val ys) odd < LB ^ n) :
    Calls Tryz.prog 125 #[.agg #[.int .u64 (a : Int), .int .u64 (b : Int), .int .u64 (c : Int), .int .u64 (d : Int), .bool odd], .slice A n ca, .slice B m cb] w (Two2 w (digs (lhX a b (val xs) (val ys) odd)) (digs (lhY c d (val xs) (val ys) odd))) := by
  subst hn hm
  have hmx : max xs.length ys.length = xs.length := Nat.max_eq_left hl'
  have hmy : max ys.length xs.length = xs.length := Nat.max_eq_right hl'
  obtain ⟨x1, x2, x3, x4, x5, _⟩ := Sc.new a b c d odd w
  have ks := hide (show Kd w (w.alloc (.cells #[.int .u64 (a : Int), .int .u64 (b : Int), .int .u64 (c : Int), .int .u64 (d : Int), .bool odd] 189)) from bl_al (.refl _ _) _)
  cases odd with
  | true =>
    obtain ⟨p1, p2⟩ := f1 rfl
    have L1 := hide (fun W (h : Below w.heap.size w W) => lessTimes_ok B A cb ca b a ys xs W (bl_keeps h _ _ hy) (bl_keeps h _ _ hx) ly lx (Nat.le_trans hl' hl) hl hb ha _ hmy p1 (by simpa [lhX] using f2))
    have L2 := hide (fun W (h : Below w.heap.size w W) => lessTimes_ok A B ca cb c d xs ys W (bl_keeps h _ _ hx) (bl_keeps h _ _ hy) lx ly hl (Nat.le_trans hl' hl) hc hd _ hmx p2 (by simpa [lhY] using f3))
    have E1 := hide (show lhX a b (val xs) (val ys) true = b * val ys - a * val xs from rfl)
    have E2 := hide (show lhY c d (val xs) (val ys) true = c * val xs - d * val ys from rfl)
    clear f0 f1 f2 f3 p1 p2 hx hy lx ly ha hb hc hd hmx hmy
    generalize b * val ys - a * val xs = r1 at *
    generalize c * val xs - d * val ys = r2 at *
    go_enter Tryz.func125, Tryz.ntmps125
    go_wp2
    go_region_held3 (fun W => W.cell? ⟨w.heap.size, 0, none⟩ = some (.int .u64 (a : Int)) ∧ W.cell? ⟨w.heap.size, 1, none⟩ = some (.int .u64 (b : Int)) ∧ W.cell? ⟨w.heap.size, 2, none⟩ = some (.int .u64 (c : Int)) ∧ W.cell? ⟨w.heap.size, 3, none⟩ = some (.int .u64 (d : Int)) ∧ W.cell? ⟨w.heap.size, 4, none⟩ = some (.bool true) ∧ Kd w W)
      (first | exact ⟨x1, x2, x3, x4, x5, ks.out.drew⟩ | exact D_next hb (by assumption) | assumption)
      (first
        | (go_at_call 152; (with_reducible refine (L1.out _ (Kd.b (kd_of (by assumption)))).mono ?_); rintro e w1 ⟨g1, c1, rfl, o1, hb1⟩; have hb := hb1)
        | (go_at_call 152; (with_reducible refine (L2.out _ (Kd.b (kd_of (by assumption)))).mono ?_); rintro e w2 ⟨g2, c2, rfl, o2, hb2⟩; have hb := hb2))
    all_goals
      have r1' := hide (((o1.below hb2 o1.lt).rebase (Nat.le_trans ks.out.drew.b.size o1.base_le)).row rfl)
      have r2' := hide ((o2.rebase (Nat.le_trans (Nat.le_trans ks.out.drew.b.size hb1.size) o2.base_le)).row rfl)
      have bb := hide (bl_trans (bl_trans ks.out.drew hb1) hb2)
      clear o1 o2 hb hb1 hb2
      go_wp2
      go_ret2
      exact Two2.mk r1'.out r2'.out bb.out (by rw [E1.out]) (by rw [E2.out])
  | false =>
    obtain ⟨p1, p2⟩ := f0 rfl
    have L1 := hide (fun W (h : Below w.heap.size w W) => lessTimes_ok A B ca cb a b xs ys W (bl_keeps h _ _ hx) (bl_keeps h _ _ hy) lx ly hl (Nat.le_trans hl' hl) ha hb _ hmx p1 (by simpa [lhX] using f2))
    have L2 := hide (fun W (h : Below w.heap.size w W) => lessTimes_ok B A cb ca d c ys xs W (bl_keeps h _ _ hy) (bl_keeps h _ _ hx) ly lx (Nat.le_trans hl' hl) hl hd hc _ hmy p2 (by simpa [lhY] using f3))
    have E1 := hide (show lhX a b (val xs) (val ys) false = a * val xs - b * val ys from rfl)
    have E2 := hide (show lhY c d (val xs) (val ys) false = d * val ys - c * val xs from rfl)
    clear f0 f1 f2 f3 p1 p2 hx hy lx ly ha hb hc hd hmx hmy
    generalize a * val xs - b * val ys = r1 at *
    generalize d * val ys - c * val xs = r2 at *
    go_enter Tryz.func125, Tryz.ntmps125
    go_wp2
    go_region_held3 (fun W => W.cell? ⟨w.heap.size, 0, none⟩ = some (.int .u64 (a : Int)) ∧ W.cell? ⟨w.heap.size, 1, none⟩ = some (.int .u64 (b : Int)) ∧ W.cell? ⟨w.heap.size, 2, none⟩ = some (.int .u64 (c : Int)) ∧ W.cell? ⟨w.heap.size, 3, none⟩ = some (.int .u64 (d : Int)) ∧ W.cell? ⟨w.heap.size, 4, none⟩ = some (.bool false) ∧ Kd w W)
      (first | exact ⟨x1, x2, x3, x4, x5, ks.out.drew⟩ | exact D_next hb (by assumption) | assumption)
      (first
        | (go_at_call 152; (with_reducible refine (L1.out _ (Kd.b (kd_of (by assumption)))).mono ?_); rintro e w1 ⟨g1, c1, rfl, o1, hb1⟩; have hb := hb1)
        | (go_at_call 152; (with_reducible refine (L2.out _ (Kd.b (kd_of (by assumption)))).mono ?_); rintro e w2 ⟨g2, c2, rfl, o2, hb2⟩; have hb := hb2))
    all_goals
      have r1' := hide (((o1.below hb2 o1.lt).rebase (Nat.le_trans ks.out.drew.b.size o1.base_le)).row rfl)
      have r2' := hide ((o2.rebase (Nat.le_trans (Nat.le_trans ks.out.drew.b.size hb1.size) o2.base_le)).row rfl)
      have bb := hide (bl_trans (bl_trans ks.out.drew hb1) hb2)
      clear o1 o2 hb hb1 hb2
      go_wp2
      go_ret2
      exact Two2.mk r1'.out r2'.out bb.out (by rw [E1.out]) (by rw [E2.out])
def readV (w : World) : Value → Nat
  | .slice (some ⟨b, o, none⟩) n _ => val ((List.range n).map fun j => match w.cell? ⟨b, o + j, none⟩ with
    | some (.int .u64 z) => z.toNat
    | _ => 0)
  | _ => 0
theorem readV_sl {w : World} {A : Option Addr} {xs : List Nat} (h : Sl w A xs) (n c : Nat) (hn : xs.length = n) : readV w (.slice A n c) = val xs := by
  subst hn
  rcases h with rfl | ⟨b, o, rfl, h⟩
  · rcases A with _ | ⟨b, o, s⟩
    · rfl
    · cases s <;> rfl
  · have e : ((List.range xs.length).map fun j => match w.cell? ⟨b, o + j, none⟩ with
        | some (.int .u64 z) => z.toNat
        | _ => 0) = xs := by
      apply List.ext_getElem
      · rw [List.length_map, List.length_range]
      · intro j h1 h2
        simp only [List.getElem_map, List.getElem_range]
        rw [h.2 j h2, lim_some h2]
        simp
    exact congrArg val e
theorem digs_lp {n : Nat} : 0 < (digs n).length ↔ 0 < n := by
  constructor
  · intro h
    rcases Nat.eq_zero_or_pos n with h0 | h0
    · subst h0; rw [digs_zero] at h; simp at h
    · exact h0
  · intro h
    rcases Nat.eq_zero_or_pos (digs n).length with h0 | h0
    · have := digs_eq_nil.1 (List.eq_nil_of_length_eq_zero h0); omega
    · exact h0
theorem digs_one_len {y : Nat} (h : (digs y).length = 1) : 0 < y ∧ y < LB ∧ digs y = [y] := by
  have h1 : y < LB ^ 1 := length_digs_le.1 (by omega)
  rw [Nat.pow_one] at h1
  have h0 : y ≠ 0 := by rintro rfl; rw [digs_zero] at h; simp at h
  exact ⟨by omega, h1, digs1 h1 h0⟩
theorem Kd.q (w : World) (k : Nat) : Kd w (w.drewN k) := bl_q0 rfl
theorem Kd.qa (w : World) (k : Nat) (X : Obj) : Below w.heap.size w ((w.drewN k).alloc X) := bl_al (bl_q0 rfl) X
theorem K_next {w w' w0 : World} {p : Addr} {v : Value} (hb : Below w.heap.size w w') (h : w.cell? p = some v ∧ Kd w0 w) : w'.cell? p = some v ∧ Kd w0 w' := ⟨cell_next hb h.1, bl_trans h.2 hb⟩
theorem lgcd_less (A B : Option Addr) (c d : Nat) (xs ys : List Nat) (w : World) (hx : Sl w A xs) (hy : Sl w B ys) (lx : Limbs xs) (ly : Limbs ys) (nx : Norm xs) (ny : Norm ys) (hl : xs.length ≤ 10000) (hl' : ys.length ≤ 10000) (ho : val xs < val ys) :
    Calls Tryz.prog 100 #[.slice A xs.length c, .slice B ys.length d] w (Mk w (digs (Nat.gcd (val xs) (val ys)))) := by
  have C := hide (lcmp_any A B c d xs ys w hx hy lx ly nx ny (by omega) (by omega))
  have DX := hide (digs_val_norm lx nx)
  have DY := hide (digs_val_norm ly ny)
  rw [cmpN_lt ho] at C
  have HO := hide ho
  have SX := hide (fun q => hx.drewN q)
  have SY := hide (fun q => hy.drewN q)
  clear hx hy lx ly nx ny ho
  go_enter Tryz.func100, Tryz.ntmps100
  go_wp2_with (go_at_call 123; (with_reducible refine (C.out).mono ?_); rintro e w1 ⟨rfl, q0, rfl⟩)
  clear C
  go_loopw [5, 6] (fun X Y wr => ∃ (A : Option Addr) (n a : Nat) (B : Option Addr) (m b x y : Nat), X = .slice A n a ∧ Y = .slice B m b ∧ Sl wr A (digs x) ∧ Sl wr B (digs y) ∧ (digs x).length = n ∧ (digs y).length = m ∧ n ≤ 10000 ∧ y ≤ x ∧ Nat.gcd x y = Nat.gcd (val xs) (val ys) ∧ Below w.heap.size w wr) (fun _ Y wr => readV wr Y)
  case atStart => exact ⟨B, ys.length, d, A, xs.length, c, val ys, val xs, rfl, rfl, by rw [DY.out]; exact SY.out _, by rw [DX.out]; exact SX.out _, by rw [DY.out], by rw [DX.out], hl', Nat.le_of_lt HO.out, Nat.gcd_comm _ _, bl_q0 rfl⟩
  case round =>
    obtain ⟨A3, n, a, B3, m, b, x, y, rfl, rfl, hx, hy, hn, hm, hnb, hxy, hg, hb⟩ := hrel
    have hmn : m ≤ n := by rw [← hm, ← hn]; exact len_le_of_val (limbs_digs x) (norm_digs y) (by rw [val_digs, val_digs]; exact hxy)
    have mb : m ≤ 10000 := by omega
    by_cases h1 : 1 < m
    · obtain ⟨k, hk⟩ : ∃ k, n = k + 2 := ⟨n - 2, by omega⟩
      have yp : 0 < y := digs_lp.1 (by omega)
      have top : lim (digs x) (k + 1) ≠ 0 := by
        rcases norm_digs x with h | h
        · rw [h] at hn; simp at hn; omega
        · rwa [hn, hk, show k + 2 - 1 = k + 1 by omega] at h
      have SU := hide (fun W (h : Below wr.heap.size wr W) => sure_any A3 B3 a b k (digs x) (digs y) W (bl_keeps h _ _ hx) (bl_keeps h _ _ hy) (limbs_digs x) (limbs_digs y) (by omega) (by omega) (by omega) top (by rw [val_digs, val_digs]; exact hxy))
      rw [hn, hm, val_digs, val_digs] at SU
      have DV := fun W (h : Below wr.heap.size wr W) => divide_all A3 B3 a b (digs x) (digs y) W (bl_keeps h _ _ hx) (bl_keeps h _ _ hy) (limbs_digs x) (limbs_digs y) (norm_digs x) (norm_digs y) (by omega) (by omega) (by omega)
      rw [hn, hm, val_digs, val_digs] at DV
      have DV := hide DV
      have DN : Hid (∀ W, Below wr.heap.size wr W → ∀ (a' b' c' d' : Nat) (odd : Bool), a' < LB → b' < LB → c' < LB → d' < LB → (odd = false → b' * y ≤ a' * x ∧ c' * x ≤ d' * y) → (odd = true → a' * x ≤ b' * y ∧ d' * y ≤ c' * x) → lhX a' b' x y odd ≤ y → lhY c' d' x y odd ≤ y →
          Calls Tryz.prog 125 #[.agg #[.int .u64 (a' : Int), .int .u64 (b' : Int), .int .u64 (c' : Int), .int .u64 (d' : Int), .bool odd], .slice A3 n a, .slice B3 m b] W (Two2 W (digs (lhX a' b' x y odd)) (digs (lhY c' d' x y odd)))) := by
        intro W h a' b' c' d' odd h1 h2 h3 h4 f0 f1 f2 f3
        have hyl : y < LB ^ n := Nat.lt_of_lt_of_le (length_digs_le.1 (Nat.le_of_eq hm)) (Nat.pow_le_pow_right LB_pos hmn)
        have := done_any A3 B3 n m a b a' b' c' d' odd (digs x) (digs y) W hn hm (bl_keeps h _ _ hx) (bl_keeps h _ _ hy) (limbs_digs x) (limbs_digs y) hnb hmn h1 h2 h3 h4
        rw [val_digs, val_digs] at this
        exact this f0 f1 (Nat.lt_of_le_of_lt f2 hyl) (Nat.lt_of_le_of_lt f3 hyl)
      have M1 := hide (readV_sl hy m b hm)
      have YS := hide hy
      have G := hide hg
      have H := hide hb
      have YP := hide yp
      have XY := hide hxy
      have HM := hide hm
      have HN := hide hnb
      have HMN := hide hmn
      have HNN := hide hn
      clear hx hy hxy hg hb hn hm yp top hk hnb hmn mb
      go_wp2_with (first
        | (go_at_call 124; (with_reducible refine (SU.out _ (.refl _ _)).mono ?_); rintro e w1 ⟨a', b', c', d', h, l, HH, LL, P, x0, y0, odd, rfl, lh, ba, bb, bc, bd, e1, e2, e3, e4, hb1⟩; have B1 := hide (fun X => bl_al hb1 X); have LE := hide (fun h0 => lh.leads h0 e1 e2 e3 e4); have BA := hide (show a' < LB ∧ b' < LB ∧ c' < LB ∧ d' < LB from ⟨ba, bb, bc, bd⟩); clear lh ba bb bc bd e1 e2 e3 e4 hb1; rcases Nat.eq_zero_or_pos b' with rfl | hb0)
        | (go_at_call 111; (with_reducible refine (DV.out _ (B1.out _)).mono ?_); rintro e w3 ⟨A4, n4, c4', B4, m4, d4, rfl, hq, hr, hb3⟩; have HQ := hide hq; have HR := hide hr; have HB3 := hide (bl_trans (B1.out _) hb3); clear hq hr hb3)
        | (go_at_call 125; (with_reducible refine (DN.out _ (B1.out _) a' b' c' d' odd BA.out.1 BA.out.2.1 BA.out.2.2.1 BA.out.2.2.2 (LE.out (Nat.ne_of_gt hb0)).1 (LE.out (Nat.ne_of_gt hb0)).2.1 (LE.out (Nat.ne_of_gt hb0)).2.2.2.1 (Nat.le_trans (Nat.le_of_lt (LE.out (Nat.ne_of_gt hb0)).2.2.1) (LE.out (Nat.ne_of_gt hb0)).2.2.2.1)).mono ?_); rintro e w3 ⟨A4, n4, c4', B4, m4, d4, rfl, hq, hr, hb3⟩; have HQ := hide hq; have HR := hide hr; have HB3 := hide (bl_trans (B1.out _) hb3); clear hq hr hb3))
      · clear DN SU DV LE BA B1
        go_roundw
        case rel => exact ⟨B3, m, b, B4, m4, d4, y, x % y, rfl, rfl, bl_keeps HB3.out _ _ YS.out, HR.out.sl, HM.out, HR.out.len, Nat.le_trans HMN.out HN.out, Nat.le_of_lt (Nat.mod_lt _ YP.out), by rw [← G.out, Nat.gcd_comm x y, Nat.gcd_rec y x, Nat.gcd_comm], bl_trans H.out HB3.out⟩
        case measure =>
          have M2 := readV_sl HR.out.sl m4 d4 HR.out.len
          rw [M1.out, M2, val_digs, val_digs]
          exact Nat.mod_lt _ YP.out
      · have LE := hide (LE.out (Nat.ne_of_gt hb0))
        clear DN SU DV BA B1 hb0
        have NL := hide (show n4 ≤ 10000 from by
          rw [← HQ.out.len]
          refine Nat.le_trans (length_digs_le.2 (Nat.lt_of_le_of_lt LE.out.2.2.2.1 (length_digs_le.1 (Nat.le_of_eq HM.out)))) (Nat.le_trans HMN.out HN.out))
        go_roundw
        case rel => exact ⟨A4, n4, c4', B4, m4, d4, _, _, rfl, rfl, HQ.out.sl, HR.out.sl, HQ.out.len, HR.out.len, NL.out, Nat.le_of_lt LE.out.2.2.1, LE.out.2.2.2.2.trans G.out, bl_trans H.out HB3.out⟩
        case measure =>
          have M2 := readV_sl HR.out.sl m4 d4 HR.out.len
          rw [M1.out, M2, val_digs, val_digs]
          exact Nat.lt_of_lt_of_le LE.out.2.2.1 LE.out.2.2.2.1
    · by_cases h0 : m = 0
      · have hy0 : y = 0 := by
          rcases Nat.eq_zero_or_pos y with h | h
          · exact h
          · have := digs_lp.2 h; omega
        have F := hide (show digs (Nat.gcd (val xs) (val ys)) = digs x by rw [← hg, hy0, Nat.gcd_zero_right])
        have K := hide (clone_any A3 n a (digs x) wr hn hx (by omega))
        have H := hide hb
        clear hx hy hxy hg hb hn hm hy0 hmn
        subst h0
        go_wp2_with (go_at_call 126; (with_reducible refine (K.out).mono ?_); rintro e w2 ⟨A5, c5, rfl, hr5, hb5⟩)
        go_ret
        rw [F.out]
        exact Mk.trans H.out ⟨A5, c5, rfl, hr5, hb5⟩
      · obtain rfl : m = 1 := by omega
        obtain ⟨yp, yL, hy1⟩ := digs_one_len hm
        rw [hy1] at hy
        obtain ⟨g2, o2, rfl, ho2⟩ := hy.at_ (by simp)
        have hc2 : wr.cell? ⟨g2, o2, none⟩ = some (.int .u64 (y : Int)) := ho2.cell (j := 0) (by simp)
        have gl : Nat.gcd y (x % y) = Nat.gcd (val xs) (val ys) := by rw [← hg, Nat.gcd_comm x y, Nat.gcd_rec y x, Nat.gcd_comm]
        have gp : 0 < Nat.gcd (val xs) (val ys) := by rw [← gl]; exact Nat.gcd_pos_of_pos_left _ yp
        have gb : Nat.gcd (val xs) (val ys) < LB := by rw [← gl]; exact Nat.lt_of_le_of_lt (Nat.gcd_le_left _ yp) yL
        have F := hide (show digs (Nat.gcd (val xs) (val ys)) = [Nat.gcd (val xs) (val ys)] from digs1 gb (by omega))
        have H := hide hb
        have DR : dwR (digs x) y = x % y := by rw [(dw_val (xs := digs x) yp).2, val_digs]
        have MW := hide (fun W (h : Below wr.heap.size wr W) => modWord_any A3 a y n (digs x) W hn (bl_keeps h _ _ hx) (limbs_digs x) yp yL (by omega))
        rw [DR] at MW
        have WG := hide (fun W => wordGcd_any y (x % y) yL (Nat.lt_trans (Nat.mod_lt _ yp) yL) W)
        rw [gl] at WG
        have cl := hide (fun W (h : Below wr.heap.size wr W) => cell_next h hc2)
        clear hx hy hxy hg hb hn hm gl gp gb ho2 hy1 h0 h1 hmn DR
        generalize x % y = dr at *
        generalize Nat.gcd (val xs) (val ys) = gg at *
        go_wp2
        go_region_held3 (fun W => W.cell? ⟨g2, o2, none⟩ = some (.int .u64 (y : Int)) ∧ Kd wr W)
          (first | exact ⟨hc2, Kd.drew (.refl _ _)⟩ | exact ⟨hc2, Kd.q _ _⟩ | exact ⟨cl.out _ (Kd.qa _ _ _), Kd.qa _ _ _⟩ | exact K_next hb (by assumption) | assumption)
          (first
            | (go_at_call 128; (with_reducible refine (MW.out _ (Kd.b (And.right (by assumption)))).mono ?_); rintro e w5 ⟨rfl, q5, h5⟩; have hb := bl_q0 h5)
            | (go_at_call 127; (with_reducible refine (WG.out _).mono ?_); rintro e w6 ⟨rfl, q6, h6⟩; have hb := bl_q0 h6))
        all_goals
          clear MW WG cl h5 h6
          go_wp2
          go_ret
          rw [F.out]
          exact Mk.trans H.out (Mk.intro ((Row.litW _ _ (Nat.le_refl _)).row rfl) (Kd.qa _ _ _) rfl)
theorem lgcd_more (A B : Option Addr) (c d : Nat) (xs ys : List Nat) (w : World) (hx : Sl w A xs) (hy : Sl w B ys) (lx : Limbs xs) (ly : Limbs ys) (nx : Norm xs) (ny : Norm ys) (hl : xs.length ≤ 10000) (hl' : ys.length ≤ 10000) (ho : val ys ≤ val xs) :
    Calls Tryz.prog 100 #[.slice A xs.length c, .slice B ys.length d] w (Mk w (digs (Nat.gcd (val xs) (val ys)))) := by
  have C := hide (lcmp_any A B c d xs ys w hx hy lx ly nx ny (by omega) (by omega))
  have DX := hide (digs_val_norm lx nx)
  have DY := hide (digs_val_norm ly ny)
  have CZ : 0 ≤ cmpN (val xs) (val ys) := by
    unfold cmpN
    rw [if_neg (by omega)]
    split <;> omega
  generalize cmpN (val xs) (val ys) = z at *
  have HO := hide ho
  have SX := hide (fun q => hx.drewN q)
  have SY := hide (fun q => hy.drewN q)
  clear hx hy lx ly nx ny ho
  go_enter Tryz.func100, Tryz.ntmps100
  go_wp2_with (go_at_call 123; (with_reducible refine (C.out).mono ?_); rintro e w1 ⟨rfl, q0, rfl⟩)
  clear C
  go_loopw [5, 6] (fun X Y wr => ∃ (A : Option Addr) (n a : Nat) (B : Option Addr) (m b x y : Nat), X = .slice A n a ∧ Y = .slice B m b ∧ Sl wr A (digs x) ∧ Sl wr B (digs y) ∧ (digs x).length = n ∧ (digs y).length = m ∧ n ≤ 10000 ∧ y ≤ x ∧ Nat.gcd x y = Nat.gcd (val xs) (val ys) ∧ Below w.heap.size w wr) (fun _ Y wr => readV wr Y)
  case atStart => exact ⟨A, xs.length, c, B, ys.length, d, val xs, val ys, rfl, rfl, by rw [DX.out]; exact SX.out _, by rw [DY.out]; exact SY.out _, by rw [DX.out], by rw [DY.out], hl, HO.out, rfl, bl_q0 rfl⟩
  case round =>
    obtain ⟨A3, n, a, B3, m, b, x, y, rfl, rfl, hx, hy, hn, hm, hnb, hxy, hg, hb⟩ := hrel
    have hmn : m ≤ n := by rw [← hm, ← hn]; exact len_le_of_val (limbs_digs x) (norm_digs y) (by rw [val_digs, val_digs]; exact hxy)
    have mb : m ≤ 10000 := by omega
    by_cases h1 : 1 < m
    · obtain ⟨k, hk⟩ : ∃ k, n = k + 2 := ⟨n - 2, by omega⟩
      have yp : 0 < y := digs_lp.1 (by omega)
      have top : lim (digs x) (k + 1) ≠ 0 := by
        rcases norm_digs x with h | h
        · rw [h] at hn; simp at hn; omega
        · rwa [hn, hk, show k + 2 - 1 = k + 1 by omega] at h
      have SU := hide (fun W (h : Below wr.heap.size wr W) => sure_any A3 B3 a b k (digs x) (digs y) W (bl_keeps h _ _ hx) (bl_keeps h _ _ hy) (limbs_digs x) (limbs_digs y) (by omega) (by omega) (by omega) top (by rw [val_digs, val_digs]; exact hxy))
      rw [hn, hm, val_digs, val_digs] at SU
      have DV := fun W (h : Below wr.heap.size wr W) => divide_all A3 B3 a b (digs x) (digs y) W (bl_keeps h _ _ hx) (bl_keeps h _ _ hy) (limbs_digs x) (limbs_digs y) (norm_digs x) (norm_digs y) (by omega) (by omega) (by omega)
      rw [hn, hm, val_digs, val_digs] at DV
      have DV := hide DV
      have DN : Hid (∀ W, Below wr.heap.size wr W → ∀ (a' b' c' d' : Nat) (odd : Bool), a' < LB → b' < LB → c' < LB → d' < LB → (odd = false → b' * y ≤ a' * x ∧ c' * x ≤ d' * y) → (odd = true → a' * x ≤ b' * y ∧ d' * y ≤ c' * x) → lhX a' b' x y odd ≤ y → lhY c' d' x y odd ≤ y →
          Calls Tryz.prog 125 #[.agg #[.int .u64 (a' : Int), .int .u64 (b' : Int), .int .u64 (c' : Int), .int .u64 (d' : Int), .bool odd], .slice A3 n a, .slice B3 m b] W (Two2 W (digs (lhX a' b' x y odd)) (digs (lhY c' d' x y odd)))) := by
        intro W h a' b' c' d' odd h1 h2 h3 h4 f0 f1 f2 f3
        have hyl : y < LB ^ n := Nat.lt_of_lt_of_le (length_digs_le.1 (Nat.le_of_eq hm)) (Nat.pow_le_pow_right LB_pos hmn)
        have := done_any A3 B3 n m a b a' b' c' d' odd (digs x) (digs y) W hn hm (bl_keeps h _ _ hx) (bl_keeps h _ _ hy) (limbs_digs x) (limbs_digs y) hnb hmn h1 h2 h3 h4
        rw [val_digs, val_digs] at this
        exact this f0 f1 (Nat.lt_of_le_of_lt f2 hyl) (Nat.lt_of_le_of_lt f3 hyl)
      have M1 := hide (readV_sl hy m b hm)
      have YS := hide hy
      have G := hide hg
      have H := hide hb
      have YP := hide yp
      have XY := hide hxy
      have HM := hide hm
      have HN := hide hnb
      have HMN := hide hmn
      have HNN := hide hn
      clear hx hy hxy hg hb hn hm yp top hk hnb hmn mb
      go_wp2_with (first
        | (go_at_call 124; (with_reducible refine (SU.out _ (.refl _ _)).mono ?_); rintro e w1 ⟨a', b', c', d', h, l, HH, LL, P, x0, y0, odd, rfl, lh, ba, bb, bc, bd, e1, e2, e3, e4, hb1⟩; have B1 := hide (fun X => bl_al hb1 X); have LE := hide (fun h0 => lh.leads h0 e1 e2 e3 e4); have BA := hide (show a' < LB ∧ b' < LB ∧ c' < LB ∧ d' < LB from ⟨ba, bb, bc, bd⟩); clear lh ba bb bc bd e1 e2 e3 e4 hb1; rcases Nat.eq_zero_or_pos b' with rfl | hb0)
        | (go_at_call 111; (with_reducible refine (DV.out _ (B1.out _)).mono ?_); rintro e w3 ⟨A4, n4, c4', B4, m4, d4, rfl, hq, hr, hb3⟩; have HQ := hide hq; have HR := hide hr; have HB3 := hide (bl_trans (B1.out _) hb3); clear hq hr hb3)
        | (go_at_call 125; (with_reducible refine (DN.out _ (B1.out _) a' b' c' d' odd BA.out.1 BA.out.2.1 BA.out.2.2.1 BA.out.2.2.2 (LE.out (Nat.ne_of_gt hb0)).1 (LE.out (Nat.ne_of_gt hb0)).2.1 (LE.out (Nat.ne_of_gt hb0)).2.2.2.1 (Nat.le_trans (Nat.le_of_lt (LE.out (Nat.ne_of_gt hb0)).2.2.1) (LE.out (Nat.ne_of_gt hb0)).2.2.2.1)).mono ?_); rintro e w3 ⟨A4, n4, c4', B4, m4, d4, rfl, hq, hr, hb3⟩; have HQ := hide hq; have HR := hide hr; have HB3 := hide (bl_trans (B1.out _) hb3); clear hq hr hb3))
      · clear DN SU DV LE BA B1
        go_roundw
        case rel => exact ⟨B3, m, b, B4, m4, d4, y, x % y, rfl, rfl, bl_keeps HB3.out _ _ YS.out, HR.out.sl, HM.out, HR.out.len, Nat.le_trans HMN.out HN.out, Nat.le_of_lt (Nat.mod_lt _ YP.out), by rw [← G.out, Nat.gcd_comm x y, Nat.gcd_rec y x, Nat.gcd_comm], bl_trans H.out HB3.out⟩
        case measure =>
          have M2 := readV_sl HR.out.sl m4 d4 HR.out.len
          rw [M1.out, M2, val_digs, val_digs]
          exact Nat.mod_lt _ YP.out
      · have LE := hide (LE.out (Nat.ne_of_gt hb0))
        clear DN SU DV BA B1 hb0
        have NL := hide (show n4 ≤ 10000 from by
          rw [← HQ.out.len]
          refine Nat.le_trans (length_digs_le.2 (Nat.lt_of_le_of_lt LE.out.2.2.2.1 (length_digs_le.1 (Nat.le_of_eq HM.out)))) (Nat.le_trans HMN.out HN.out))
        go_roundw
        case rel => exact ⟨A4, n4, c4', B4, m4, d4, _, _, rfl, rfl, HQ.out.sl, HR.out.sl, HQ.out.len, HR.out.len, NL.out, Nat.le_of_lt LE.out.2.2.1, LE.out.2.2.2.2.trans G.out, bl_trans H.out HB3.out⟩
        case measure =>
          have M2 := readV_sl HR.out.sl m4 d4 HR.out.len
          rw [M1.out, M2, val_digs, val_digs]
          exact Nat.lt_of_lt_of_le LE.out.2.2.1 LE.out.2.2.2.1
    · by_cases h0 : m = 0
      · have hy0 : y = 0 := by
          rcases Nat.eq_zero_or_pos y with h | h
          · exact h
          · have := digs_lp.2 h; omega
        have F := hide (show digs (Nat.gcd (val xs) (val ys)) = digs x by rw [← hg, hy0, Nat.gcd_zero_right])
        have K := hide (clone_any A3 n a (digs x) wr hn hx (by omega))
        have H := hide hb
        clear hx hy hxy hg hb hn hm hy0 hmn
        subst h0
        go_wp2_with (go_at_call 126; (with_reducible refine (K.out).mono ?_); rintro e w2 ⟨A5, c5, rfl, hr5, hb5⟩)
        go_ret
        rw [F.out]
        exact Mk.trans H.out ⟨A5, c5, rfl, hr5, hb5⟩
      · obtain rfl : m = 1 := by omega
        obtain ⟨yp, yL, hy1⟩ := digs_one_len hm
        rw [hy1] at hy
        obtain ⟨g2, o2, rfl, ho2⟩ := hy.at_ (by simp)
        have hc2 : wr.cell? ⟨g2, o2, none⟩ = some (.int .u64 (y : Int)) := ho2.cell (j := 0) (by simp)
        have gl : Nat.gcd y (x % y) = Nat.gcd (val xs) (val ys) := by rw [← hg, Nat.gcd_comm x y, Nat.gcd_rec y x, Nat.gcd_comm]
        have gp : 0 < Nat.gcd (val xs) (val ys) := by rw [← gl]; exact Nat.gcd_pos_of_pos_left _ yp
        have gb : Nat.gcd (val xs) (val ys) < LB := by rw [← gl]; exact Nat.lt_of_le_of_lt (Nat.gcd_le_left _ yp) yL
        have F := hide (show digs (Nat.gcd (val xs) (val ys)) = [Nat.gcd (val xs) (val ys)] from digs1 gb (by omega))
        have H := hide hb
        have DR : dwR (digs x) y = x % y := by rw [(dw_val (xs := digs x) yp).2, val_digs]
        have MW := hide (fun W (h : Below wr.heap.size wr W) => modWord_any A3 a y n (digs x) W hn (bl_keeps h _ _ hx) (limbs_digs x) yp yL (by omega))
        rw [DR] at MW
        have WG := hide (fun W => wordGcd_any y (x % y) yL (Nat.lt_trans (Nat.mod_lt _ yp) yL) W)
        rw [gl] at WG
        have cl := hide (fun W (h : Below wr.heap.size wr W) => cell_next h hc2)
        clear hx hy hxy hg hb hn hm gl gp gb ho2 hy1 h0 h1 hmn DR
        generalize x % y = dr at *
        generalize Nat.gcd (val xs) (val ys) = gg at *
        go_wp2
        go_region_held3 (fun W => W.cell? ⟨g2, o2, none⟩ = some (.int .u64 (y : Int)) ∧ Kd wr W)
          (first | exact ⟨hc2, Kd.drew (.refl _ _)⟩ | exact ⟨hc2, Kd.q _ _⟩ | exact ⟨cl.out _ (Kd.qa _ _ _), Kd.qa _ _ _⟩ | exact K_next hb (by assumption) | assumption)
          (first
            | (go_at_call 128; (with_reducible refine (MW.out _ (Kd.b (And.right (by assumption)))).mono ?_); rintro e w5 ⟨rfl, q5, h5⟩; have hb := bl_q0 h5)
            | (go_at_call 127; (with_reducible refine (WG.out _).mono ?_); rintro e w6 ⟨rfl, q6, h6⟩; have hb := bl_q0 h6))
        all_goals
          clear MW WG cl h5 h6
          go_wp2
          go_ret
          rw [F.out]
          exact Mk.trans H.out (Mk.intro ((Row.litW _ _ (Nat.le_refl _)).row rfl) (Kd.qa _ _ _) rfl)
theorem lgcd_any (A B : Option Addr) (c d : Nat) (xs ys : List Nat) (w : World) (hx : Sl w A xs) (hy : Sl w B ys) (lx : Limbs xs) (ly : Limbs ys) (nx : Norm xs) (ny : Norm ys) (hl : xs.length ≤ 10000) (hl' : ys.length ≤ 10000) :
    Calls Tryz.prog 100 #[.slice A xs.length c, .slice B ys.length d] w (Mk w (digs (Nat.gcd (val xs) (val ys)))) := by
  rcases Nat.lt_or_ge (val xs) (val ys) with h | h
  · exact lgcd_less A B c d xs ys w hx hy lx ly nx ny hl hl' h
  · exact lgcd_more A B c d xs ys w hx hy lx ly nx ny hl hl' h
end
end Nt
end Go.Proofs.YthabfakbdfaciaaGreat
