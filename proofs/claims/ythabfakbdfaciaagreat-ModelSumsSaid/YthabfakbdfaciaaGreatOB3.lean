import Derived.Test.YthabfakbdfaciaaGreatOB2
import Derived.Test.YthabfakbdfaciaaGreatOB1
import Derived.Test.YthabfakbdfaciaaGreatOB0
import Derived.RegionTactic
import Derived.ChangeAlike
import Derived.BigRegion
import Derived.Deep.RegionHeld3
import Derived.Lib.AppendIntMem
import Derived.Lib.Hide
import Derived.Laws.IdiomStrings
namespace Go.Proofs.YthabfakbdfaciaaGreat
namespace Nt
set_option maxRecDepth 100000
set_option maxHeartbeats 16000000
section
open Go.RowKit
theorem lim_mid {cs xs : List Nat} {k : Nat} (h : cs.length = k) : lim (cs ++ xs.drop k) k = lim xs k := by
  have h1 := lim_append_right (xs := cs) (ys := xs.drop k) (i := 0)
  rw [h, Nat.add_zero] at h1
  rw [h1, lim_drop, Nat.add_zero]
theorem giveBack_any (g o n c d : Nat) (B : Option Addr) (xs ys : List Nat) (w : World) (hr : At w g o xs) (hf : Free w g o n) (hx : xs.length = n) (hy : ys.length = n) (hs : Sl w B ys) (hB : ∀ b o', B = some ⟨b, o', none⟩ → b ≠ g) (lx : Limbs xs) (ly : Limbs ys) (hn : n ≤ 1000000) :
    Calls Tryz.prog 175 #[.slice (some ⟨g, o, none⟩) n c, .slice B n d] w fun e w' => e = .returned (.tuple #[]) ∧ ∃ cs cc, AddInv xs ys n cc cs ∧ At w' g o cs ∧ Wrote w w' g o n := by
  have HX := hide hx
  have HY := hide hy
  clear hx hy
  go_enter Tryz.func175, Tryz.ntmps175
  go_wp2
  go_loopw [4, 9] (fun cy i wr => ∃ k cc cs, k ≤ n ∧ i = .int .i64 (k : Nat) ∧ cy = .int .u64 (cc : Nat) ∧ AddInv xs ys k cc cs ∧ At wr g o (cs ++ xs.drop k) ∧ Wrote w wr g o n) (fun _ i _ => n - (intOf i).toNat)
  case atStart => exact ⟨0, 0, [], Nat.zero_le _, rfl, rfl, AddInv.zero _ _, by simpa using hr, Wrote.refl _ _ _ _⟩
  case round =>
    obtain ⟨k, cc, cs, hk, rfl, rfl, ai, ha, hw⟩ := hrel
    by_cases hlt : k < n
    · obtain ⟨b, o', rfl, hb⟩ := hs.at_ (by rw [HY.out]; omega)
      have hcy := (hb.wrote hw (hB _ _ rfl)).cell (j := k) (by rw [HY.out]; omega)
      have hlen := ai.1
      have hcc := ai.2.2.1
      have hcell := ha.cell (j := k) (by rw [List.length_append, List.length_drop, hlen, HX.out]; omega)
      rw [lim_mid hlen] at hcell
      have hfr := (hf.wrote hw) k hlt
      have hst := ha.set (i := k) (by rw [List.length_append, List.length_drop, hlen, HX.out]; omega) (sumL (lim xs k) (lim ys k) cc)
      rw [set_drop _ hlen (by rw [HX.out]; exact hlt)] at hst
      have S := hide hst
      have I := hide (ai.step lx ly)
      have W := hide hw
      clear hst hlen ai ha hw hb
      generalize lim xs k = x at *
      generalize lim ys k = y at *
      go_wp2_with (simp only [add64 _ _ cc hcc])
      go_roundw
      case rel => exact ⟨k + 1, _, _, by omega, by go_num, rfl, I.out, S.out, W.out.setCell (by omega) _⟩
      case measure => simp [intOf]; omega
    · obtain rfl : k = n := by omega
      rw [List.drop_of_length_le (by rw [HX.out]; exact Nat.le_refl _), List.append_nil] at ha
      have A := hide ha
      have W := hide hw
      have I := hide ai
      clear ha hw ai
      go_wp2
      go_end0
      exact ⟨rfl, cs, cc, I.out, A.out, W.out⟩
def TakeInv (xs ys : List Nat) (t k bo : Nat) (cs : List Nat) : Prop := cs.length = k ∧ Limbs cs ∧ bo ≤ t ∧ val cs + t * val (ys.take k) = val (xs.take k) + LB ^ k * bo
theorem TakeInv.zero (xs ys : List Nat) (t : Nat) : TakeInv xs ys t 0 0 [] := ⟨rfl, .nil, Nat.zero_le _, by simp⟩
theorem TakeInv.bo {x y t bo : Nat} (hx : x < LB) (hy : y < LB) (hb : bo ≤ t) : borL x (maLo t y bo 0) 0 + maHi t y bo 0 ≤ t ∧ difL x (maLo t y bo 0) 0 + t * y + bo = x + LB * (borL x (maLo t y bo 0) 0 + maHi t y bo 0) := by
  have e1 := ma_eq t y bo 0
  have e2 := dif_eq x (maLo t y bo 0) 0 hx (maLo_lt _ _ _ _) (by omega)
  have h1 := difL_lt x (maLo t y bo 0) 0
  generalize maLo t y bo 0 = lo at *
  generalize maHi t y bo 0 = hi at *
  generalize difL x lo 0 = df at *
  generalize borL x lo 0 = br at *
  have e3 : df + t * y + bo = x + LB * (br + hi) := by rw [Nat.mul_add]; omega
  refine ⟨?_, e3⟩
  have h2 : t * y + t ≤ t * LB := by
    rw [← Nat.mul_succ]; exact Nat.mul_le_mul_left _ hy
  have h3 : LB * (br + hi) < LB * (t + 1) := by
    rw [Nat.mul_add LB t 1, Nat.mul_comm LB t]; omega
  have := Nat.lt_of_mul_lt_mul_left h3
  omega
theorem TakeInv.step {xs ys cs : List Nat} {t k bo : Nat} (lx : Limbs xs) (ly : Limbs ys) (h : TakeInv xs ys t k bo cs) :
    TakeInv xs ys t (k + 1) (borL (lim xs k) (maLo t (lim ys k) bo 0) 0 + maHi t (lim ys k) bo 0) (cs ++ [difL (lim xs k) (maLo t (lim ys k) bo 0) 0]) := by
  obtain ⟨h1, h2, h3, h4⟩ := h
  obtain ⟨b1, b2⟩ := TakeInv.bo (lx.get k) (ly.get k) h3
  refine ⟨by simp [h1], h2.append (.one (difL_lt _ _ _)), b1, ?_⟩
  rw [val_append, val_one, val_take_succ, val_take_succ, h1, Nat.pow_succ]
  have e : LB ^ k * (difL (lim xs k) (maLo t (lim ys k) bo 0) 0 + t * lim ys k + bo) = LB ^ k * (lim xs k + LB * (borL (lim xs k) (maLo t (lim ys k) bo 0) 0 + maHi t (lim ys k) bo 0)) := by rw [b2]
  have e2 : t * (LB ^ k * lim ys k) = LB ^ k * (t * lim ys k) := Nat.mul_left_comm _ _ _
  rw [Nat.mul_add, Nat.mul_add, Nat.mul_add (LB ^ k) (lim xs k), ← Nat.mul_assoc (LB ^ k) LB] at e
  rw [Nat.mul_add t, e2]
  omega
theorem takeAway_any (g o n c d t : Nat) (B : Option Addr) (xs ys : List Nat) (w : World) (hr : At w g o xs) (hf : Free w g o n) (hx : xs.length = n) (hy : ys.length = n) (hs : Sl w B ys) (hB : ∀ b o', B = some ⟨b, o', none⟩ → b ≠ g) (lx : Limbs xs) (ly : Limbs ys) (hn : n ≤ 1000000) (ht : t < LB) :
    Calls Tryz.prog 174 #[.slice (some ⟨g, o, none⟩) n c, .slice B n d, .int .u64 (t : Int)] w fun e w' => ∃ (cs : List Nat) (bo : Nat), e = .returned (.int .u64 (bo : Int)) ∧ TakeInv xs ys t n bo cs ∧ At w' g o cs ∧ Wrote w w' g o n := by
  have HX := hide hx
  have HY := hide hy
  clear hx hy
  go_enter Tryz.func174, Tryz.ntmps174
  go_wp2
  go_loopw [6, 13] (fun cy i wr => ∃ k bo cs, k ≤ n ∧ i = .int .i64 (k : Nat) ∧ cy = .int .u64 (bo : Nat) ∧ TakeInv xs ys t k bo cs ∧ At wr g o (cs ++ xs.drop k) ∧ Wrote w wr g o n) (fun _ i _ => n - (intOf i).toNat)
  case atStart => exact ⟨0, 0, [], Nat.zero_le _, rfl, rfl, TakeInv.zero _ _ _, by simpa using hr, Wrote.refl _ _ _ _⟩
  case round =>
    obtain ⟨k, bo, cs, hk, rfl, rfl, ti, ha, hw⟩ := hrel
    by_cases hlt : k < n
    · obtain ⟨b, o', rfl, hb⟩ := hs.at_ (by rw [HY.out]; omega)
      have hcy := (hb.wrote hw (hB _ _ rfl)).cell (j := k) (by rw [HY.out]; omega)
      have hlen := ti.1
      have hbo := ti.2.2.1
      have hcell := ha.cell (j := k) (by rw [List.length_append, List.length_drop, hlen, HX.out]; omega)
      rw [lim_mid hlen] at hcell
      have hfr := (hf.wrote hw) k hlt
      have hst := ha.set (i := k) (by rw [List.length_append, List.length_drop, hlen, HX.out]; omega) (difL (lim xs k) (maLo t (lim ys k) bo 0) 0)
      rw [set_drop _ hlen (by rw [HX.out]; exact hlt)] at hst
      have S := hide hst
      have I := hide (ti.step lx ly)
      have MX : Hid (∀ W, Calls Tryz.prog 167 #[.int .u64 (t : Int), .int .u64 ((lim ys k : Nat) : Int), .int .u64 (bo : Int), .int .u64 0] W fun e w' =>
          e = .returned (.tuple #[.int .u64 ((maLo t (lim ys k) bo 0 : Nat) : Int), .int .u64 ((maHi t (lim ys k) bo 0 : Nat) : Int)]) ∧ W = w') := fun W => mulAdd_any t (lim ys k) bo 0 ht (ly.get k) (by omega) LB_pos W
      have o1 := op_add_lt 128 (borL (lim xs k) (maLo t (lim ys k) bo 0) 0) (maHi t (lim ys k) bo 0) _ rfl (Nat.lt_of_le_of_lt (TakeInv.bo (lx.get k) (ly.get k) hbo).1 ht)
      obtain ⟨b2, hb2⟩ : ∃ b2, b2 = borL (lim xs k) (maLo t (lim ys k) bo 0) 0 + maHi t (lim ys k) bo 0 := ⟨_, rfl⟩
      rw [← hb2] at o1 I
      have W := hide hw
      clear hst hlen ti ha hw hb hb2
      generalize maHi t (lim ys k) bo 0 = hi at *
      generalize maLo t (lim ys k) bo 0 = lo at *
      generalize lim xs k = x at *
      generalize lim ys k = y at *
      go_wp2_with (first
        | (go_at_call 167; (with_reducible refine (MX.out _).mono ?_); rintro ee w2 ⟨rfl, rfl⟩)
        | simp only [sub64_0])
      go_roundw
      case rel => exact ⟨k + 1, _, _, by omega, by go_num, rfl, I.out, S.out, W.out.setCell (by omega) _⟩
      case measure => simp [intOf]; omega
    · obtain rfl : k = n := by omega
      rw [List.drop_of_length_le (by rw [HX.out]; exact Nat.le_refl _), List.append_nil] at ha
      have A := hide ha
      have W := hide hw
      have I := hide ti
      clear ha hw ti
      go_wp2
      go_ret
      exact ⟨cs, bo, rfl, I.out, A.out, W.out⟩
theorem guess_main {R V P r b g : Nat} (hP : 0 < P) (h1 : R * P ≤ r) (h2 : r < (R + 1) * P) (h3 : V * P ≤ b) (h4 : b < (V + 1) * P) (hV : 0 < V) (hg : g = R / V) (hgV : g ≤ V + 1) :
    r / b ≤ g ∧ g ≤ r / b + 1 := by
  have hb : 0 < b := Nat.lt_of_lt_of_le (Nat.mul_pos hV hP) h3
  constructor
  · have q1 : r / b * b ≤ r := Nat.div_mul_le_self r b
    have q2 : r / b * (V * P) ≤ r / b * b := Nat.mul_le_mul_left _ h3
    have q3 : (r / b * V) * P < (R + 1) * P := by rw [Nat.mul_assoc]; omega
    have q4 := Nat.lt_of_mul_lt_mul_right q3
    rw [hg]
    exact (Nat.le_div_iff_mul_le hV).2 (by omega)
  · rcases Nat.eq_zero_or_pos g with h0 | h0
    · rw [h0]; exact Nat.zero_le _
    · obtain ⟨k, hk⟩ : ∃ k, g = k + 1 := ⟨g - 1, by omega⟩
      have q1 : g * V ≤ R := by rw [hg]; exact Nat.div_mul_le_self R V
      have q2 : k * (V + 1) ≤ R := by
        rw [hk, Nat.add_mul, Nat.one_mul] at q1
        rw [Nat.mul_add, Nat.mul_one]
        omega
      have q3 : k * b ≤ k * ((V + 1) * P) := Nat.mul_le_mul_left _ (Nat.le_of_lt h4)
      have q4 : k * ((V + 1) * P) ≤ R * P := by rw [← Nat.mul_assoc]; exact Nat.mul_le_mul_right _ q2
      have q5 : k ≤ r / b := (Nat.le_div_iff_mul_le hb).2 (by omega)
      rw [hk]
      exact Nat.succ_le_succ q5
theorem guess_top {v P B' R' r b : Nat} (hb : b = v * P + B') (hB : B' < P) (hr : r = v * (LB * P) + R') (hq : r < LB * b) (hv : LB ≤ 2 * v) :
    r / b ≤ LB - 1 ∧ LB - 1 ≤ r / b + 1 := by
  have hP : 0 < P := by omega
  have hL := LB_two
  have hvp : 0 < v := by omega
  have hbp : 0 < b := by have := Nat.mul_pos hvp hP; omega
  constructor
  · have := (Nat.div_lt_iff_lt_mul hbp).2 hq
    omega
  · have e1 : LB * b = v * (LB * P) + LB * B' := by rw [hb, Nat.mul_add, Nat.mul_left_comm]
    have e2 : LB * B' ≤ LB * P := Nat.mul_le_mul_left _ (Nat.le_of_lt hB)
    have e3 : LB * P ≤ 2 * v * P := Nat.mul_le_mul_right _ hv
    have e4 : 2 * v * P ≤ 2 * b := by rw [Nat.mul_assoc]; exact Nat.mul_le_mul_left _ (by omega)
    have e5 : (LB - 2) * b + 2 * b = LB * b := by rw [← Nat.add_mul]; congr 1
    have q5 : LB - 2 ≤ r / b := (Nat.le_div_iff_mul_le hbp).2 (by omega)
    omega
theorem take_test {M lo rn b g cs bo : Nat} (h : cs + g * b = lo + M * bo) (hcs : cs < M) : bo ≤ rn ↔ g * b ≤ lo + M * rn := by
  constructor
  · intro hle
    have := Nat.mul_le_mul_left M hle
    omega
  · intro hle
    rcases Nat.lt_or_ge rn bo with h1 | h1
    · have := Nat.mul_le_mul_left M h1
      rw [Nat.mul_succ] at this
      omega
    · exact h1
theorem take_left {M lo rn b g cs bo : Nat} (h : cs + g * b = lo + M * bo) (hcs : cs < M) (hb : b ≤ M) (hq : (lo + M * rn) / b = g) (hbp : 0 < b) : cs = (lo + M * rn) % b := by
  have e := Nat.div_add_mod (lo + M * rn) b
  rw [hq, Nat.mul_comm] at e
  have hm := Nat.mod_lt (lo + M * rn) hbp
  have h1 := (take_test h hcs (rn := rn)).2 (by omega)
  have h2 : rn ≤ bo := by
    rcases Nat.lt_or_ge bo rn with h3 | h3
    · have := Nat.mul_le_mul_left M h3
      rw [Nat.mul_succ] at this
      omega
    · exact h3
  have : rn = bo := Nat.le_antisymm h2 h1
  subst this
  omega
theorem give_left {M lo rn b q cs bo cs2 cc : Nat} (h : cs + (q + 1) * b = lo + M * bo) (_hcs : cs < M) (hb : b ≤ M) (hq : (lo + M * rn) / b = q) (hbp : 0 < b) (h2 : cs2 + M * cc = cs + b) (hcs2 : cs2 < M) : cs2 = (lo + M * rn) % b := by
  have e := Nat.div_add_mod (lo + M * rn) b
  rw [hq, Nat.mul_comm] at e
  have hm := Nat.mod_lt (lo + M * rn) hbp
  rw [Nat.add_mul, Nat.one_mul] at h
  have e2 : cs2 + M * cc + M * rn = (lo + M * rn) % b + M * bo := by omega
  have e3 : cs2 + M * (cc + rn) = (lo + M * rn) % b + M * bo := by rw [Nat.mul_add]; omega
  have m1 : (cs2 + M * (cc + rn)) % M = cs2 := by rw [Nat.add_mul_mod_self_left, Nat.mod_eq_of_lt hcs2]
  have m2 : ((lo + M * rn) % b + M * bo) % M = (lo + M * rn) % b := by rw [Nat.add_mul_mod_self_left, Nat.mod_eq_of_lt (by omega)]
  rw [← m1, e3, m2]
def gF (rn r1 r2 v1 v2 : Nat) : Nat := (rn * LB * LB + r1 * LB + r2) / (v1 * LB + v2)
def Gs (rn r1 r2 v1 v2 g l : Nat) : Prop := g * v1 + l = rn * LB + r1 ∧ l < LB ∧ g < LB ∧ gF rn r1 r2 v1 v2 ≤ g
theorem Gs.start {rn r1 r2 v1 v2 : Nat} (h : rn < v1) (h1 : r1 < LB) (h2 : r2 < LB) (hv : v1 < LB) : Gs rn r1 r2 v1 v2 (dvQ rn r1 v1) (dvR rn r1 v1) := by
  have e := dv_eq rn r1 v1
  have hl := dvR_lt (lo := r1) h
  have hg := dvQ_lt h h1
  refine ⟨by rw [Nat.mul_comm]; exact e, Nat.lt_trans hl hv, hg, ?_⟩
  have hp : 0 < v1 * LB := Nat.mul_pos (by omega) LB_pos
  have q1 : gF rn r1 r2 v1 v2 ≤ (rn * LB * LB + r1 * LB + r2) / (v1 * LB) := Nat.div_le_div_left (by omega) hp
  have q2 : (rn * LB * LB + r1 * LB + r2) / (v1 * LB) = (rn * LB + r1) / v1 := by
    rw [Nat.mul_comm v1 LB, ← Nat.div_div_eq_div_mul]
    congr 1
    rw [← Nat.add_mul, Nat.add_comm, Nat.add_mul_div_right _ _ LB_pos, Nat.div_eq_of_lt h2, Nat.zero_add]
  have q3 : (rn * LB + r1) / v1 = dvQ rn r1 v1 := rfl
  omega
theorem gF_le {rn r1 r2 v1 v2 g l : Nat} (h : g * v1 + l = rn * LB + r1) (hV : 0 < v1) (hs : g * v2 ≤ l * LB + r2) : g ≤ gF rn r1 r2 v1 v2 := by
  have hp : 0 < v1 * LB + v2 := Nat.lt_of_lt_of_le (Nat.mul_pos hV LB_pos) (Nat.le_add_right _ _)
  refine (Nat.le_div_iff_mul_le hp).2 ?_
  have e : (g * v1 + l) * LB = (rn * LB + r1) * LB := by rw [h]
  rw [Nat.add_mul, Nat.add_mul] at e
  rw [Nat.mul_add, ← Nat.mul_assoc]
  omega
theorem gF_lt {rn r1 r2 v1 v2 g l : Nat} (h : g * v1 + l = rn * LB + r1) (hV : 0 < v1) (hs : l * LB + r2 < g * v2) : gF rn r1 r2 v1 v2 < g := by
  have hp : 0 < v1 * LB + v2 := Nat.lt_of_lt_of_le (Nat.mul_pos hV LB_pos) (Nat.le_add_right _ _)
  refine (Nat.div_lt_iff_lt_mul hp).2 ?_
  have e : (g * v1 + l) * LB = (rn * LB + r1) * LB := by rw [h]
  rw [Nat.add_mul, Nat.add_mul] at e
  rw [Nat.mul_add, ← Nat.mul_assoc]
  omega
theorem Gs.stop {rn r1 r2 v1 v2 g l : Nat} (h : Gs rn r1 r2 v1 v2 g l) (hV : 0 < v1) (hs : mulHi g v2 < l ∨ mulHi g v2 = l ∧ mulLo g v2 ≤ r2) : g = gF rn r1 r2 v1 v2 := by
  refine Nat.le_antisymm (gF_le h.1 hV ?_) h.2.2.2
  have e := mul_eq g v2
  have hlo := mulLo_lt g v2
  rcases hs with hs | ⟨hs, h2⟩
  · have := Nat.mul_le_mul_left LB hs
    rw [Nat.mul_succ] at this
    rw [Nat.mul_comm l LB]
    omega
  · rw [Nat.mul_comm l LB]
    rw [hs] at e
    omega
theorem Gs.far {rn r1 r2 v1 v2 g l : Nat} (h : Gs rn r1 r2 v1 v2 g l) (hV : 0 < v1) (h2 : r2 < LB) (hs : l < mulHi g v2 ∨ mulHi g v2 = l ∧ r2 < mulLo g v2) : gF rn r1 r2 v1 v2 < g := by
  refine gF_lt h.1 hV ?_
  have e := mul_eq g v2
  rcases hs with hs | ⟨hs, h3⟩
  · have := Nat.mul_le_mul_left LB hs
    rw [Nat.mul_succ] at this
    rw [Nat.mul_comm l LB]
    omega
  · rw [Nat.mul_comm l LB]
    rw [hs] at e
    omega
theorem Gs.step {rn r1 r2 v1 v2 g k l : Nat} (h : Gs rn r1 r2 v1 v2 g l) (hk : k + 1 = g) (hf : gF rn r1 r2 v1 v2 < g) (hc : carL l v1 0 = 0) : Gs rn r1 r2 v1 v2 k (sumL l v1 0) := by
  obtain ⟨h1, h2, h3, h4⟩ := h
  have e := sum_eq l v1 0
  rw [hc] at e
  subst hk
  rw [Nat.add_mul, Nat.one_mul] at h1
  exact ⟨by omega, sumL_lt _ _ _, by omega, by omega⟩
theorem Gs.over {rn r1 r2 v1 v2 g k l : Nat} (h : Gs rn r1 r2 v1 v2 g l) (hk : k + 1 = g) (hf : gF rn r1 r2 v1 v2 < g) (hV : 0 < v1) (hv2 : v2 < LB) (hc : carL l v1 0 ≠ 0) : k = gF rn r1 r2 v1 v2 := by
  obtain ⟨h1, h2, h3, h4⟩ := h
  have hov : LB ≤ l + v1 := by
    rcases Nat.lt_or_ge (l + v1) LB with h5 | h5
    · exact absurd (Nat.div_eq_of_lt (by omega)) hc
    · exact h5
  subst hk
  rw [Nat.add_mul, Nat.one_mul] at h1
  refine Nat.le_antisymm (gF_le (l := l + v1) (by omega) hV ?_) (by omega)
  have q1 : k * v2 ≤ LB * LB := Nat.mul_le_mul (by omega) (by omega)
  have q2 := Nat.mul_le_mul_right LB hov
  omega
def gsp (rn r1 r2 v1 v2 : Nat) : Nat := if rn = v1 then LB - 1 else gF rn r1 r2 v1 v2
theorem gsp_lt {rn r1 r2 v1 v2 g l : Nat} (h : Gs rn r1 r2 v1 v2 g l) : gF rn r1 r2 v1 v2 < LB := Nat.lt_of_le_of_lt h.2.2.2 h.2.2.1
theorem top3 {xs : List Nat} {m : Nat} (hx : xs.length = m + 3) : val xs = val (xs.take m) + LB ^ m * (lim xs (m + 2) * LB * LB + lim xs (m + 1) * LB + lim xs m) := by
  have e : val xs = val (xs.take (m + 3)) := by rw [List.take_of_length_le (by omega)]
  rw [e, val_take_succ, val_take_succ, val_take_succ, Nat.pow_succ, Nat.pow_succ, Nat.mul_add, Nat.mul_add]
  have a1 : LB ^ m * LB * lim xs (m + 1) = LB ^ m * (lim xs (m + 1) * LB) := by rw [Nat.mul_assoc, Nat.mul_comm LB]
  have a2 : LB ^ (m + 1) * LB * lim xs (m + 2) = LB ^ m * (lim xs (m + 2) * LB * LB) := by
    rw [Nat.pow_succ, Nat.mul_assoc, Nat.mul_assoc, Nat.mul_assoc]
    congr 1
    rw [← Nat.mul_assoc, Nat.mul_comm]
  rw [a1, a2]; omega
theorem top2 {ys : List Nat} {m : Nat} (hy : ys.length = m + 2) : val ys = val (ys.take m) + LB ^ m * (lim ys (m + 1) * LB + lim ys m) := by
  have e : val ys = val (ys.take (m + 2)) := by rw [List.take_of_length_le (by omega)]
  rw [e, val_take_succ, val_take_succ, Nat.pow_succ, Nat.mul_add]
  have a1 : LB ^ m * LB * lim ys (m + 1) = LB ^ m * (lim ys (m + 1) * LB) := by rw [Nat.mul_assoc, Nat.mul_comm LB]
  rw [a1]; omega
theorem top1 {xs : List Nat} {n : Nat} (hx : xs.length = n + 1) : val xs = val (xs.take n) + LB ^ n * lim xs n := by
  have e : val xs = val (xs.take (n + 1)) := by rw [List.take_of_length_le (by omega)]
  rw [e, val_take_succ]
theorem take_lt {xs : List Nat} (l : Limbs xs) {m : Nat} (h : m ≤ xs.length) : val (xs.take m) < LB ^ m := by
  have := val_lt (l.take m)
  rwa [List.length_take, Nat.min_eq_left h] at this
theorem top_le {xs ys : List Nat} {n : Nat} (hx : xs.length = n + 2) (hy : ys.length = n + 1) (ly : Limbs ys) (hq : val xs < LB * val ys) : lim xs (n + 1) ≤ lim ys n := by
  have e1 := top1 hx
  have e2 := top1 hy
  have h1 := take_lt ly (m := n) (by omega)
  have h2 : LB ^ (n + 1) * lim xs (n + 1) < LB ^ (n + 1) * (lim ys n + 1) := by
    have : LB * val ys < LB ^ (n + 1) * (lim ys n + 1) := by
      rw [Nat.pow_succ, Nat.mul_comm (LB ^ n), Nat.mul_assoc]
      refine Nat.mul_lt_mul_of_pos_left ?_ LB_pos
      rw [Nat.mul_add, Nat.mul_one]; omega
    omega
  have := Nat.lt_of_mul_lt_mul_left h2
  omega
theorem gsp_ok {xs ys : List Nat} {m : Nat} (hx : xs.length = m + 3) (hy : ys.length = m + 2) (lx : Limbs xs) (ly : Limbs ys) (hq : val xs < LB * val ys) (hv : LB ≤ 2 * lim ys (m + 1)) :
    val xs / val ys ≤ gsp (lim xs (m + 2)) (lim xs (m + 1)) (lim xs m) (lim ys (m + 1)) (lim ys m) ∧ gsp (lim xs (m + 2)) (lim xs (m + 1)) (lim xs m) (lim ys (m + 1)) (lim ys m) ≤ val xs / val ys + 1 := by
  have hL := LB_two
  have hle : lim xs (m + 2) ≤ lim ys (m + 1) := top_le hx hy ly hq
  unfold gsp
  by_cases he : lim xs (m + 2) = lim ys (m + 1)
  · rw [if_pos he]
    have e1 := top1 (n := m + 2) hx
    have e2 := top1 (n := m + 1) hy
    rw [he] at e1
    refine guess_top (v := lim ys (m + 1)) (P := LB ^ (m + 1)) (B' := val (ys.take (m + 1))) (R' := val (xs.take (m + 2))) ?_ (take_lt ly (by omega)) ?_ hq hv
    · rw [e2, Nat.mul_comm]; omega
    · rw [e1, Nat.pow_succ LB (m + 1), Nat.mul_comm LB, Nat.mul_comm (lim ys (m + 1))]; omega
  · rw [if_neg he]
    have hlt : lim xs (m + 2) < lim ys (m + 1) := by omega
    have e1 := top3 hx
    have e2 := top2 hy
    have t1 := take_lt lx (m := m) (by omega)
    have t2 := take_lt ly (m := m) (by omega)
    have hG := gsp_lt (Gs.start (r1 := lim xs (m + 1)) (r2 := lim xs m) (v2 := lim ys m) hlt (lx.get _) (lx.get _) (ly.get _))
    have hV : LB ≤ lim ys (m + 1) * LB + lim ys m := by
      have := Nat.mul_le_mul_right LB (show 1 ≤ lim ys (m + 1) by omega)
      omega
    generalize hR : lim xs (m + 2) * LB * LB + lim xs (m + 1) * LB + lim xs m = R at *
    generalize hW : lim ys (m + 1) * LB + lim ys m = V at *
    have hg : gF (lim xs (m + 2)) (lim xs (m + 1)) (lim xs m) (lim ys (m + 1)) (lim ys m) = R / V := by unfold gF; rw [hR, hW]
    rw [hg] at hG ⊢
    refine guess_main (P := LB ^ m) (R := R) (V := V) (LB_pow_pos m) ?_ ?_ ?_ ?_ (by omega) rfl (by omega)
    · rw [e1, Nat.mul_comm]; omega
    · rw [e1, Nat.mul_comm, Nat.add_mul, Nat.one_mul]; omega
    · rw [e2, Nat.mul_comm]; omega
    · rw [e2, Nat.mul_comm, Nat.add_mul, Nat.one_mul]; omega
theorem next_same {xs ys cs : List Nat} {n g bo : Nat} (hx : xs.length = n + 1) (hy : ys.length = n) (ly : Limbs ys) (hb : 0 < val ys) (ti : TakeInv (xs.take n) ys g n bo cs) (h2 : g ≤ val xs / val ys + 1) (hg : val xs / val ys ≤ g) (hle : bo ≤ lim xs n) : g = val xs / val ys ∧ val cs = val xs % val ys := by
  obtain ⟨c1, c2, c3, c4⟩ := ti
  rw [List.take_of_length_le (show ys.length ≤ n by omega), List.take_take, Nat.min_self] at c4
  have hcs := val_lt c2
  rw [c1] at hcs
  have e1 := top1 hx
  have hyl := val_lt ly
  rw [hy] at hyl
  have hq : g * val ys ≤ val xs := by rw [e1]; exact (take_test c4 hcs).1 hle
  have h3 : g ≤ val xs / val ys := (Nat.le_div_iff_mul_le hb).2 hq
  have h4 : val xs / val ys = g := by omega
  refine ⟨h4.symm, ?_⟩
  rw [e1] at h4 ⊢
  exact take_left c4 hcs (by omega) h4 hb
theorem next_back {xs ys cs cs2 : List Nat} {n g k bo cc : Nat} (hx : xs.length = n + 1) (hy : ys.length = n) (ly : Limbs ys) (hb : 0 < val ys) (ti : TakeInv (xs.take n) ys g n bo cs) (h2 : g ≤ val xs / val ys + 1) (hk : k + 1 = g) (hlt : lim xs n < bo) (ai : AddInv cs ys n cc cs2) : k = val xs / val ys ∧ val cs2 = val xs % val ys := by
  obtain ⟨c1, c2, c3, c4⟩ := ti
  obtain ⟨d1, d2, d3, d4⟩ := ai
  rw [List.take_of_length_le (show ys.length ≤ n by omega), List.take_take, Nat.min_self] at c4
  rw [List.take_of_length_le (show ys.length ≤ n by omega), List.take_of_length_le (show cs.length ≤ n by omega)] at d4
  have hcs := val_lt c2
  have hcs2 := val_lt d2
  rw [c1] at hcs
  rw [d1] at hcs2
  have e1 := top1 hx
  have hyl := val_lt ly
  rw [hy] at hyl
  have hn : ¬ g * val ys ≤ val xs := by
    rw [e1]
    intro h
    have := (take_test c4 hcs).2 h
    omega
  have h3 : val xs / val ys < g := (Nat.div_lt_iff_lt_mul hb).2 (by omega)
  have h4 : val xs / val ys = k := by omega
  refine ⟨h4.symm, ?_⟩
  subst hk
  rw [e1] at h4 ⊢
  exact give_left c4 hcs (by omega) h4 hb d4 hcs2
def LongInv (az ys : List Nat) (n N k : Nat) (qs rs : List Nat) : Prop :=
  qs.length = N ∧ rs.length = N + n ∧ Limbs qs ∧ Limbs rs ∧ rs.take k = az.take k ∧ val ((rs.drop k).take n) < val ys ∧ val (qs.drop k) * val ys + val ((rs.drop k).take n) = val (az.drop k)
theorem LongInv.start {az ys : List Nat} {n N : Nat} (ha : az.length = N + n) (la : Limbs az) (h : val (az.drop N) < val ys) : LongInv az ys n N N (List.replicate N 0) az := by
  have e : (az.drop N).take n = az.drop N := List.take_of_length_le (by rw [List.length_drop]; omega)
  refine ⟨by simp, ha, .replicate _, la, rfl, by rw [e]; exact h, ?_⟩
  rw [e, List.drop_of_length_le (by simp)]
  simp
def win (rs : List Nat) (k n : Nat) : List Nat := (rs.drop k).take (n + 1)
theorem win_len {az ys qs rs : List Nat} {n N k : Nat} (h : LongInv az ys n N (k + 1) qs rs) (hk : k < N) : (win rs k n).length = n + 1 := by
  unfold win; rw [List.length_take, List.length_drop, h.2.1]; omega
theorem win_val {az ys qs rs : List Nat} {n N k : Nat} (h : LongInv az ys n N (k + 1) qs rs) (hk : k < N) : win rs k n = lim rs k :: (rs.drop (k + 1)).take n := by
  unfold win; rw [drop_cons_lim (by rw [h.2.1]; omega), List.take_succ_cons]
theorem win_lt {az ys qs rs : List Nat} {n N k : Nat} (h : LongInv az ys n N (k + 1) qs rs) (hk : k < N) : val (win rs k n) < LB * val ys := by
  rw [win_val h hk, val_cons]
  have h1 := h.2.2.2.1.get k
  have h2 := Nat.mul_le_mul_left LB h.2.2.2.2.2.1
  rw [Nat.mul_succ] at h2
  omega
theorem LongInv.step {az ys qs rs cs : List Nat} {n N k q : Nat} (h : LongInv az ys n N (k + 1) qs rs) (hk : k < N) (hb : 0 < val ys) (hc : cs.length = n) (lc : Limbs cs) (hv : val cs = val (win rs k n) % val ys) (hq : q = val (win rs k n) / val ys) (ha : az.length = N + n) :
    LongInv az ys n N k (qs.set k q) (rs.take k ++ cs ++ rs.drop (k + n)) := by
  have hw := win_val h hk
  have hlt := win_lt h hk
  obtain ⟨h1, h2, h3, h4, h5, h6, h7⟩ := h
  have hql : q < LB := by rw [hq]; exact (Nat.div_lt_iff_lt_mul hb).2 hlt
  have ht : (rs.take k).length = k := by rw [List.length_take]; omega
  have ed : (rs.take k ++ cs ++ rs.drop (k + n)).drop k = cs ++ rs.drop (k + n) := by
    rw [List.append_assoc, List.drop_append_of_le_length (by omega), List.drop_of_length_le (by omega), List.nil_append]
  have et : (cs ++ rs.drop (k + n)).take n = cs := by rw [List.take_append_of_le_length (by omega), List.take_of_length_le (by omega)]
  have eq : (qs.set k q).drop k = q :: qs.drop (k + 1) := by
    rw [drop_cons_lim (by rw [List.length_set]; omega), lim_set_same (by omega), List.drop_set_of_lt (by omega)]
  have e1 : lim rs k = lim az k := by
    have : lim (rs.take (k + 1)) k = lim (az.take (k + 1)) k := by rw [h5]
    rwa [lim_take (by omega), lim_take (by omega)] at this
  refine ⟨by rw [List.length_set]; exact h1, ?_, h3.set _ _ hql, (((h4.take k).append lc).append (h4.drop _)), ?_, ?_, ?_⟩
  · rw [List.length_append, List.length_append, List.length_drop, ht, hc]; omega
  · rw [List.append_assoc, List.take_append_of_le_length (by omega), List.take_of_length_le (by omega)]
    have : (rs.take (k + 1)).take k = (az.take (k + 1)).take k := by rw [h5]
    rwa [List.take_take, List.take_take, Nat.min_eq_left (by omega)] at this
  · rw [ed, et, hv]; exact Nat.mod_lt _ hb
  · rw [ed, et, eq, val_cons, hv, drop_cons_lim (show k < az.length by omega), val_cons, ← h7]
    have e2 := Nat.div_add_mod (val (win rs k n)) (val ys)
    rw [← hq, hw, val_cons, Nat.mul_comm] at e2
    rw [hw, val_cons, ← e1]
    rw [Nat.add_mul, Nat.mul_add, Nat.mul_assoc]
    omega
theorem LongInv.done {az ys qs rs : List Nat} {n N a b s : Nat} (h : LongInv az ys n N 0 qs rs) (hb : 0 < b) (ha : val az = a * 2 ^ s) (hy : val ys = b * 2 ^ s) : digs (a / b) = trimz qs ∧ val (rs.take n) / 2 ^ s = a % b := by
  obtain ⟨h1, h2, h3, h4, h5, h6, h7⟩ := h
  rw [List.drop_zero] at h6 h7
  rw [List.drop_zero, List.drop_zero] at h7
  have hp : 0 < 2 ^ s := Nat.two_pow_pos s
  have hbp : 0 < val ys := by rw [hy]; exact Nat.mul_pos hb hp
  have e1 : val az / val ys = val qs := by
    rw [← h7, Nat.add_comm, Nat.add_mul_div_right _ _ hbp, Nat.div_eq_of_lt h6, Nat.zero_add]
  have e2 : val az % val ys = val (rs.take n) := by
    rw [← h7, Nat.add_comm, Nat.add_mul_mod_self_right, Nat.mod_eq_of_lt h6]
  rw [ha, hy, Nat.mul_div_mul_right _ _ hp] at e1
  rw [ha, hy, Nat.mul_mod_mul_right] at e2
  refine ⟨by rw [e1]; exact digs_val h3, ?_⟩
  rw [← e2, Nat.mul_div_cancel _ hp]
theorem long_low {az ys : List Nat} {n N a s : Nat} (ha : az.length = N + (n + 1)) (hv : val az = a * 2 ^ s) (hs : s ≤ 63) (hN : a < LB ^ (N + n)) (hy : ys.length = n + 1) (ht : LB ≤ 2 * lim ys n) : val (az.drop N) < val ys := by
  have e := val_append (az.take N) (az.drop N)
  rw [List.take_append_drop, List.length_take, Nat.min_eq_left (by omega)] at e
  have e2 := top1 hy
  have h1 : a * 2 ^ s < LB ^ (N + n) * 2 ^ s := Nat.mul_lt_mul_of_pos_right hN (Nat.two_pow_pos s)
  have h2 : 2 ^ s ≤ 2 ^ 63 := Nat.pow_le_pow_right (by omega) hs
  have h3 : 2 ^ s ≤ lim ys n := by rw [LB_eq] at ht; omega
  have h4 : LB ^ N * val (az.drop N) < LB ^ N * (LB ^ n * lim ys n) := by
    have : LB ^ (N + n) * 2 ^ s ≤ LB ^ (N + n) * lim ys n := Nat.mul_le_mul_left _ h3
    rw [Nat.pow_add, Nat.mul_assoc, Nat.mul_assoc] at this
    rw [Nat.pow_add, Nat.mul_assoc] at h1
    omega
  have := Nat.lt_of_mul_lt_mul_left h4
  omega
theorem i64_add (t : TypeId) (x y z : Nat) (h : x + y = z) (hz : z ≤ 9223372036854775807) : binOp .add t (.int .i64 (x : Int)) (.int .i64 (y : Int)) = pure (.int .i64 (z : Int)) := by
  have e : IntKind.i64.wrap ((x : Int) + (y : Int)) = (z : Int) := by rw [IntWalk.i64_in _ ⟨by omega, by omega⟩]; omega
  rw [← e]; rfl
theorem shiftDown_any (A : Option Addr) (c n : Nat) (xs : List Nat) (w : World) (hx : Sl w A xs) (lx : Limbs xs) (hl : xs.length ≤ 100000) (hn : n ≤ 64 * xs.length) :
    Calls Tryz.prog 164 #[.slice A xs.length c, .int .i64 (n : Int)] w fun e w' => ∃ g N out, e = .returned (.slice (some ⟨g, 0, none⟩) N N) ∧ out.length = N ∧ N ≤ 300000 ∧ digs (val xs / 2 ^ n) = trimz out ∧ Limbs out ∧ Own w' w.heap.size g N out ∧ Below w.heap.size w w' := by
  obtain ⟨l, hL⟩ : ∃ l, l = n / 64 := ⟨_, rfl⟩
  obtain ⟨r, hR⟩ : ∃ r, r = n % 64 := ⟨_, rfl⟩
  obtain ⟨s, hs⟩ : ∃ s, r + s = 64 := ⟨64 - r, by omega⟩
  have q1 : binOp .quo 3 (.int .i64 (n : Int)) (.int .i64 64) = pure (.int .i64 (l : Int)) := by
    rw [hL]; exact i64_quo _ n 64 (by omega) (by omega)
  have q2 : binOp .rem 3 (.int .i64 (n : Int)) (.int .i64 64) = pure (.int .i64 (r : Int)) := by
    rw [hR]; exact i64_rem _ n 64 (by omega)
  have q3 : binOp .sub 3 (.int .i64 64) (.int .i64 (r : Int)) = pure (.int .i64 (s : Int)) := i64_sub _ 64 r s (by omega) (by omega)
  have HN := hide (show n = 64 * l + r by omega)
  obtain ⟨N, hN⟩ : ∃ N, N + l = xs.length := ⟨xs.length - l, by omega⟩
  have q4 : binOp .sub 3 (.int .i64 (xs.length : Int)) (.int .i64 (l : Int)) = pure (.int .i64 (N : Int)) := i64_sub _ xs.length l N hN (by omega)
  have hmk : ∀ W : World, (Instr.makeSlice 26 (.int .i64 (N : Int)) (.int .i64 (N : Int))).run Tryz.prog W = .ok (.slice (some ⟨W.heap.size, 0, none⟩) N N) (W.alloc (.cells (madeCells #[.int .u64 0] N) 128)) :=
    fun W => run_make_u64 .i64 .i64 N N (by omega) (by omega) W
  have nb : N ≤ 100000 := by omega
  have lb : l ≤ 100000 := by omega
  have r64 : r ≤ 64 := by omega
  have s64 : s ≤ 64 := by omega
  have HNN := hide hN
  have HS := hide hs
  clear hL hR hN hs
  go_enter Tryz.func164, Tryz.ntmps164
  go_wp2
  have M := hide (Own.made (n := N) w (Nat.le_refl _) (Nat.le_refl N) (by unfold maxLen; omega))
  clear hmk
  go_loopw [20] (fun i wr => ∃ k cs, k ≤ N ∧ i = .int .i64 (k : Nat) ∧ DnInv xs l r k cs ∧ Own wr w.heap.size w.heap.size N (cs ++ List.replicate (N - k) 0) ∧ Below w.heap.size w wr) (fun i _ => N - (intOf i).toNat)
  case atStart => exact ⟨0, [], Nat.zero_le _, rfl, DnInv.zero _ _ _, by simpa using M.out, (Below.refl _ _).alloc (Nat.le_refl _) _⟩
  case round =>
    obtain ⟨k, cs, hk, rfl, di, ho, hb⟩ := hrel
    by_cases hlt : k < N
    · have hxr := hx.below hb (Nat.le_refl _)
      obtain ⟨m, hm⟩ : ∃ m, k + l = m := ⟨_, rfl⟩
      have hkl : m < xs.length := by have := HNN.out; omega
      have p1 : binOp .add 3 (.int .i64 (k : Int)) (.int .i64 (l : Int)) = pure (.int .i64 (m : Int)) := i64_add _ k l m hm (by omega)
      have p2 : binOp .add 3 (.int .i64 (m : Int)) (.int .i64 1) = pure (.int .i64 ((m + 1 : Nat) : Int)) := i64_add _ m 1 (m + 1) rfl (by omega)
      obtain ⟨b, o, rfl, ha0⟩ := hx.at_ (by omega)
      have ha := ha0.below hb ha0.lt
      have hbw := ha0.lt
      have hcx := ha.cell (j := m) hkl
      have hlen := di.1
      have hcell := ho.cell (j := k) (by simp; omega)
      have hfr := ho.frozen k
      have hst := ho.set k (orW (shrW (lim xs m) r) (shlW (lim xs (m + 1)) s))
      rw [set_grow' _ hlen hlt] at hst
      have S := hide hst
      have I0 := di.step lx HS.out
      rw [hm] at I0
      have I := hide I0
      have BB := hide hb
      have hL1 := lx.get m
      have o1 := op_shr 128 .i64 (lim xs m) r r64
      have o2 := op_shl 128 .i64 (lim xs (m + 1)) s s64
      have o3 := op_or 128 (shrW (lim xs m) r) (shlW (lim xs (m + 1)) s) (shrW_lt _ hL1) (shlW_lt _ _)
      have LM : Hid (∀ W, Sl W (some ⟨b, o, none⟩) xs → Calls Tryz.prog 166 #[.slice (some ⟨b, o, none⟩) xs.length c, .int .i64 ((m + 1 : Nat) : Int)] W fun e w' => e = .returned (.int .u64 ((lim xs (m + 1) : Nat) : Int)) ∧ W = w') :=
        fun W hW => limb_any _ c xs (m + 1) W hW (by omega) (by omega)
      have YR := hide hxr
      have hcs := hide (fun u => (show (wr.setCell ⟨w.heap.size, k, none⟩ u).drew.cell? ⟨b, o + m, none⟩ = some (.int .u64 ((lim xs m : Nat) : Int)) from
        (World.cell?_setCell_other wr _ _ u (by intro e; injection e with e _; omega)).trans hcx))
      clear I0 hst hlen ho di hb hxr ha ha0 hL1
      have MM := hide hm
      clear hm
      generalize lim xs m = x at *
      generalize lim xs (m + 1) = t at *
      obtain ⟨m1, hm1⟩ : ∃ m1, m1 = m + 1 := ⟨_, rfl⟩
      rw [← hm1] at p2 LM
      clear hm1
      go_wp2_with fail
      go_region_held3 (fun w' => w'.cell? ⟨b, o + m, none⟩ = some (.int .u64 (x : Int))) (first | exact hcs.out _ | go_keep)
        (first | (go_at_call 166; refine (LM.out _ YR.out.drew).mono ?_; rintro e w' ⟨rfl, rfl⟩))
      go_wp2
      go_roundw
      case rel => exact ⟨k + 1, _, by omega, by go_num, I.out, S.out, (BB.out.setCell (Nat.le_refl _) _).drew⟩
      case measure => simp [intOf]; omega
    · obtain rfl : k = N := by omega
      obtain ⟨d1, d2, d3⟩ := di.done lx HN.out (by have := HNN.out; omega)
      have D1 := hide d1
      rw [Nat.sub_self, List.replicate_zero, List.append_nil] at ho
      have OO := hide ho
      have BB := hide hb
      clear di ho hb d1
      go_wp2
      go_ret
      exact ⟨_, k, cs, rfl, d3, by omega, D1.out, d2, OO.out, BB.out⟩
theorem shiftUp_len (A : Option Addr) (c n : Nat) (xs : List Nat) (w : World) (hx : Sl w A xs) (lx : Limbs xs) (hl : xs.length ≤ 100000) (hn : n ≤ 100000) :
    Calls Tryz.prog 162 #[.slice A xs.length c, .int .i64 (n : Int)] w fun e w' => ∃ g N out, e = .returned (.slice (some ⟨g, 0, none⟩) N N) ∧ out.length = N ∧ N = xs.length + n / 64 + 1 ∧ N ≤ 300000 ∧ digs (val xs * 2 ^ n) = trimz out ∧ Limbs out ∧ Own w' w.heap.size g N out ∧ Below w.heap.size w w' := by
  obtain ⟨l, hL⟩ : ∃ l, l = n / 64 := ⟨_, rfl⟩
  obtain ⟨r, hR⟩ : ∃ r, r = n % 64 := ⟨_, rfl⟩
  obtain ⟨s, hs⟩ : ∃ s, r + s = 64 := ⟨64 - r, by omega⟩
  have q1 : binOp .quo 3 (.int .i64 (n : Int)) (.int .i64 64) = pure (.int .i64 (l : Int)) := by
    rw [hL]; exact i64_quo _ n 64 (by omega) (by omega)
  have q2 : binOp .rem 3 (.int .i64 (n : Int)) (.int .i64 64) = pure (.int .i64 (r : Int)) := by
    rw [hR]; exact i64_rem _ n 64 (by omega)
  have q3 : binOp .sub 3 (.int .i64 64) (.int .i64 (r : Int)) = pure (.int .i64 (s : Int)) := i64_sub _ 64 r s (by omega) (by omega)
  have HN := hide (show n = 64 * l + r by omega)
  obtain ⟨N, hN⟩ : ∃ N, N = xs.length + l + 1 := ⟨_, rfl⟩
  have hmk : ∀ W : World, (Instr.makeSlice 26 (.int .i64 ((xs.length : Int) + (l : Int) + 1)) (.int .i64 ((xs.length : Int) + (l : Int) + 1))).run Tryz.prog W = .ok (.slice (some ⟨W.heap.size, 0, none⟩) N N) (W.alloc (.cells (madeCells #[.int .u64 0] N) 128)) :=
    fun W => by
      have := run_make_u64 .i64 .i64 N N (by omega) (by omega) W
      rw [hN] at this ⊢
      exact this
  have nb : N ≤ 300000 := by omega
  have n1 : xs.length + l < N := by omega
  have lb : l ≤ 100000 := by omega
  have r64 : r ≤ 64 := by omega
  have s64 : s ≤ 64 := by omega
  have HNN := hide hN
  have HLL := hide hL
  have HS := hide hs
  clear hL hR hN hs
  go_enter Tryz.func162, Tryz.ntmps162
  go_wp2
  have M := hide (Own.made (n := N) w (Nat.le_refl _) (Nat.le_refl N) (by unfold maxLen; omega))
  clear hmk
  go_loopw [22] (fun i wr => ∃ k out, k ≤ xs.length ∧ i = .int .i64 (k : Nat) ∧ UpInv xs l r k out ∧ Own wr w.heap.size w.heap.size N out ∧ Below w.heap.size w wr) (fun i _ => xs.length - (intOf i).toNat)
  case atStart =>
    have hm := M.out
    exact ⟨0, _, Nat.zero_le _, rfl, by have := UpInv.zero xs l r; rw [← HNN.out] at this; exact this, hm, (Below.refl _ _).alloc (Nat.le_refl _) _⟩
  case round =>
    obtain ⟨i, out, hi, rfl, ui, ho, hb⟩ := hrel
    by_cases hlt : i < xs.length
    · obtain ⟨b, o, rfl, ha0⟩ := hx.at_ (by omega)
      have ha := ha0.below hb ha0.lt
      have hcx := ha.cell (j := i) (by omega)
      have hlen := ui.1
      have hcell := ho.cell (j := i + l) (by rw [hlen]; omega)
      have hfr := ho.frozen (i + l)
      have hlx := lx.get i
      have hlo := ui.2.1.get (i + l)
      have o1 := op_shl 128 .i64 (lim xs i) r r64
      have o2 := op_or 128 (lim out (i + l)) (shlW (lim xs i) r) hlo (shlW_lt _ _)
      have o3 := op_shr 128 .i64 (lim xs i) s s64
      have hs1 := ho.set (i + l) (orW (lim out (i + l)) (shlW (lim xs i) r))
      have hcell2 := hs1.cell (j := i + l + 1) (by rw [List.length_set, hlen, ← HNN.out]; omega)
      have hfr2 := hs1.frozen (i + l + 1)
      have S := hide (hs1.set (i + l + 1) (shrW (lim xs i) s))
      have I := hide (ui.step lx HS.out hlt)
      have BB := hide hb
      clear ha ha0 ui ho hb hlen hlx hlo hs1
      generalize lim out (i + l) = y at *
      generalize lim xs i = x at *
      go_wp2
      go_region
      go_wp2
      go_roundw
      case rel => exact ⟨i + 1, _, by omega, by go_num, I.out, S.out, ((BB.out.setCell (Nat.le_refl _) _).setCell (Nat.le_refl _) _).drew⟩
      case measure => simp [intOf]; omega
    · obtain rfl : i = xs.length := by omega
      obtain ⟨d1, d2, d3⟩ := ui.done HN.out
      have D1 := hide d1
      have OO := hide ho
      have BB := hide hb
      clear ui ho hb d1
      go_wp2
      go_ret
      exact ⟨_, N, out, rfl, by rw [d3, HNN.out], by rw [HNN.out, HLL.out], by omega, D1.out, d2, OO.out, BB.out⟩
theorem quiet_add {P : Program} {f : FuncId} {args : Array Value} {w : World} {a n : Nat} {v : Value}
    (h : Calls P f args (w.drewN (a + n)) (Quiet (w.drewN (a + n)) v)) :
    Calls P f args (w.drewN (a + n)) fun e w'' => e = .returned v ∧ ∃ m, w'' = w.drewN (a + m) :=
  h.mono fun _ _ ⟨he, m, hm⟩ => ⟨he, n + m, by rw [hm, World.drewN_drewN, Nat.add_assoc]⟩
theorem guess_any (A B : Option Addr) (c d m N n m1 : Nat) (xs ys : List Nat) (w : World) (hx : Sl w A xs) (hy : Sl w B ys) (lx : Limbs xs) (ly : Limbs ys) (hxl : xs.length = N) (hyl : ys.length = n) (hN : N = m + 3) (hn : n = m + 2) (hm1 : m1 = m + 1) (hm : m ≤ 1000000) (hle : lim xs n ≤ lim ys m1) (hv : 0 < lim ys m1) :
    Calls Tryz.prog 173 #[.slice A N c, .slice B n d] w (Quiet w (.int .u64 ((gsp (lim xs n) (lim xs m1) (lim xs m) (lim ys m1) (lim ys m) : Nat) : Int))) := by
  obtain ⟨b, o, rfl, ha⟩ := hx.at_ (by omega)
  obtain ⟨b', o', rfl, ha'⟩ := hy.at_ (by omega)
  have c0 := ha.cell (j := n) (by omega)
  have c1 := ha.cell (j := m1) (by omega)
  have c2 := ha.cell (j := m) (by omega)
  have d1 := ha'.cell (j := m1) (by omega)
  have d2 := ha'.cell (j := m) (by omega)
  have q1 : binOp .sub 3 (.int .i64 (n : Int)) (.int .i64 1) = pure (.int .i64 (m1 : Int)) := i64_sub _ n 1 m1 (by omega) (by omega)
  have q2 : binOp .sub 3 (.int .i64 (n : Int)) (.int .i64 2) = pure (.int .i64 (m : Int)) := i64_sub _ n 2 m (by omega) (by omega)
  have k1 : n < N := by omega
  have k2 : m1 < N := by omega
  have k3 : m < N := by omega
  have k4 : m1 < n := by omega
  have k5 : m < n := by omega
  have k6 : N ≤ 2000000 := by omega
  have l0 := hide (lx.get n)
  have l1 := hide (lx.get m1)
  have l2 := hide (lx.get m)
  have l3 := hide (ly.get m1)
  have l4 := hide (ly.get m)
  clear ha ha' hx hy lx ly hxl hyl hN hn hm1
  generalize lim xs n = rn at *
  generalize lim xs m1 = r1 at *
  generalize lim xs m = r2 at *
  generalize lim ys m1 = v1 at *
  generalize lim ys m = v2 at *
  by_cases he : rn = v1
  · subst he
    have E := hide (show gsp rn r1 r2 rn v2 = 18446744073709551615 by unfold gsp; rw [if_pos rfl]; rfl)
    go_enter Tryz.func173, Tryz.ntmps173
    go_wp2
    go_quiet (fail)
    go_wp2
    go_ret
    exact ⟨ret_one (by rw [E.out]; rfl), _, rfl⟩
  · have hlt : rn < v1 := by omega
    have he' : ((rn : Int) == (v1 : Int)) = false := beq_eq_false_iff_ne.2 (by omega)
    have E := hide (show gsp rn r1 r2 v1 v2 = gF rn r1 r2 v1 v2 by unfold gsp; rw [if_neg he])
    have GS := hide (Gs.start (v2 := v2) hlt l1.out l2.out l3.out)
    have D := hide (fun W => div64 rn r1 v1 hlt l3.out l1.out W)
    clear he hle
    go_enter Tryz.func173, Tryz.ntmps173
    go_wp2
    go_quiet (fail)
    go_wp2
    go_quiet ((go_at_call 153; exact quiet_add (D.out _)))
    go_wp2
    go_loopw [6, 7] (fun gg ll wr => ∃ g l, gg = .int .u64 (g : Nat) ∧ ll = .int .u64 (l : Nat) ∧ Gs rn r1 r2 v1 v2 g l ∧ ∃ q, wr = w.drewN q) (fun gg _ _ => (intOf gg).toNat)
    case atStart => exact ⟨_, _, rfl, rfl, GS.out, dr2 _ _ _⟩
    case round =>
      obtain ⟨g, l, rfl, rfl, gs, q, rfl⟩ := hrel
      have MX := hide (fun W => mul64 g v2 gs.2.2.1 l4.out W)
      have P1 := hide (fun h => gs.stop (v2 := v2) hv h)
      have P2 := hide (fun h => gs.far hv l2.out h)
      have gl := hide gs.2.2.1
      have G := hide gs
      clear gs
      generalize mulHi g v2 = hi at *
      generalize mulLo g v2 = lo at *
      rcases Nat.lt_trichotomy hi l with h | h | h
      · have S := hide (P1.out (.inl h))
        clear P1 P2 G gl
        go_wp2_with (go_at_call 176; (with_reducible refine (MX.out _).mono ?_); rintro e w' ⟨rfl, rfl⟩)
        go_ret
        exact ⟨ret_one (by rw [E.out, ← S.out]), q, rfl⟩
      · subst h
        by_cases h2 : lo ≤ r2
        · have S := hide (P1.out (.inr ⟨rfl, h2⟩))
          clear P1 P2 G gl
          go_wp2_with (go_at_call 176; (with_reducible refine (MX.out _).mono ?_); rintro e w' ⟨rfl, rfl⟩)
          go_ret
          exact ⟨ret_one (by rw [E.out, ← S.out]), q, rfl⟩
        · have h2' : r2 < lo := by omega
          have hf := P2.out (.inr ⟨rfl, h2'⟩)
          obtain ⟨k, hk⟩ : ∃ k, k + 1 = g := ⟨g - 1, by omega⟩
          have o1 : binOp .sub 128 (.int .u64 (g : Int)) (.int .u64 1) = pure (.int .u64 (k : Int)) := op_sub_le _ g 1 k hk gl.out
          by_cases hc : carL hi v1 0 = 0
          · have AD : ∀ W, (callFunc 177 #[.int .u64 (hi : Int), .int .u64 (v1 : Int), .int .u64 0]).run Tryz.prog W = .ok (.value (.tuple #[.int .u64 ((sumL hi v1 0 : Nat) : Int), .int .u64 0])) W := fun W => by
              have := add64_0 hi v1 W
              rwa [hc] at this
            have G2 := hide (G.out.step hk hf hc)
            have HK := hide (show k < g by omega)
            clear P1 P2 G gl hf hk hc h2
            generalize sumL hi v1 0 = l2 at *
            go_wp2_with (go_at_call 176; (with_reducible refine (MX.out _).mono ?_); rintro e w' ⟨rfl, rfl⟩)
            go_roundw
            case rel => exact ⟨k, l2, rfl, rfl, G2.out, q, rfl⟩
            case measure => (have := HK.out; simp [intOf]; omega)
          · have S := hide (G.out.over hk hf hv l4.out hc)
            have hc' : ((carL hi v1 0 : Int) != 0) = true := by simp; omega
            have AD := fun W => add64_0 hi v1 W
            clear P1 P2 G gl hf hk hc h2
            generalize carL hi v1 0 = cc at *
            generalize sumL hi v1 0 = l2 at *
            go_wp2_with (go_at_call 176; (with_reducible refine (MX.out _).mono ?_); rintro e w' ⟨rfl, rfl⟩)
            go_ret
            exact ⟨ret_one (by rw [E.out, ← S.out]), q, rfl⟩
      · have hne : ((hi : Int) == (l : Int)) = false := beq_eq_false_iff_ne.2 (by omega)
        have hf := P2.out (.inl h)
        obtain ⟨k, hk⟩ : ∃ k, k + 1 = g := ⟨g - 1, by omega⟩
        have o1 : binOp .sub 128 (.int .u64 (g : Int)) (.int .u64 1) = pure (.int .u64 (k : Int)) := op_sub_le _ g 1 k hk gl.out
        by_cases hc : carL l v1 0 = 0
        · have AD : ∀ W, (callFunc 177 #[.int .u64 (l : Int), .int .u64 (v1 : Int), .int .u64 0]).run Tryz.prog W = .ok (.value (.tuple #[.int .u64 ((sumL l v1 0 : Nat) : Int), .int .u64 0])) W := fun W => by
            have := add64_0 l v1 W
            rwa [hc] at this
          have G2 := hide (G.out.step hk hf hc)
          have HK := hide (show k < g by omega)
          clear P1 P2 G gl hf hk hc
          generalize sumL l v1 0 = l2 at *
          go_wp2_with (go_at_call 176; (with_reducible refine (MX.out _).mono ?_); rintro e w' ⟨rfl, rfl⟩)
          go_roundw
          case rel => exact ⟨k, l2, rfl, rfl, G2.out, q, rfl⟩
          case measure => (have := HK.out; simp [intOf]; omega)
        · have S := hide (G.out.over hk hf hv l4.out hc)
          have hc' : ((carL l v1 0 : Int) != 0) = true := by simp; omega
          have AD := fun W => add64_0 l v1 W
          clear P1 P2 G gl hf hk hc
          generalize carL l v1 0 = cc at *
          generalize sumL l v1 0 = l2 at *
          go_wp2_with (go_at_call 176; (with_reducible refine (MX.out _).mono ?_); rintro e w' ⟨rfl, rfl⟩)
          go_ret
          exact ⟨ret_one (by rw [E.out, ← S.out]), q, rfl⟩
theorem At.take {w : World} {b o : Nat} {xs : List Nat} (h : At w b o xs) (k : Nat) : At w b o (xs.take k) := by
  refine ⟨h.1, fun j hj => ?_⟩
  rw [List.length_take] at hj
  rw [h.2 j (by omega), lim_take (by omega)]
theorem Sl.wrote {w w' : World} {A : Option Addr} {xs : List Nat} {g o n : Nat} (h : Sl w A xs) (hw : Wrote w w' g o n) (hB : ∀ b o', A = some ⟨b, o', none⟩ → b ≠ g) : Sl w' A xs := by
  rcases h with h | ⟨b, o', e, h⟩
  · exact .inl h
  · exact .inr ⟨b, o', e, h.wrote hw (hB _ _ e)⟩
theorem Wrote.ofDrew {w w' : World} {k g o n : Nat} (h : Wrote (w.drewN k) w' g o n) : Wrote w w' g o n := ⟨⟨h.grown.os, h.grown.tape, h.grown.output, h.grown.size, h.grown.block⟩, h.cell, h.frozen⟩
theorem gsp_small {rn r1 r2 v1 v2 : Nat} (hle : rn ≤ v1) (h1 : r1 < LB) (h2 : r2 < LB) (hv : v1 < LB) : gsp rn r1 r2 v1 v2 < LB := by
  have := LB_two
  unfold gsp
  by_cases he : rn = v1
  · rw [if_pos he]; omega
  · rw [if_neg he]; exact gsp_lt (Gs.start (r2 := r2) (v2 := v2) (by omega) h1 h2 hv)
theorem next_any (g o c d m n N : Nat) (B : Option Addr) (xs ys : List Nat) (w : World) (hr : At w g o xs) (hf : Free w g o n) (hs : Sl w B ys) (hB : ∀ b o', B = some ⟨b, o', none⟩ → b ≠ g) (hxl : xs.length = N) (hyl : ys.length = n) (hN : N = n + 1) (hn : n = m + 2) (hm : m ≤ 100000) (hc : N ≤ c) (_hcm : c ≤ 1000000)
    (lx : Limbs xs) (ly : Limbs ys) (hq : val xs < LB * val ys) (hv : LB ≤ 2 * lim ys (m + 1)) :
    Calls Tryz.prog 163 #[.slice (some ⟨g, o, none⟩) N c, .slice B n d] w fun e w' => e = .returned (.int .u64 ((val xs / val ys : Nat) : Int)) ∧ ∃ cs, cs.length = n ∧ Limbs cs ∧ val cs = val xs % val ys ∧ At w' g o cs ∧ Wrote w w' g o n := by
  have hL := LB_two
  have hle : lim xs n ≤ lim ys (m + 1) := by
    have := top_le (xs := xs) (ys := ys) (n := m + 1) (by omega) (by omega) ly hq
    rwa [show m + 1 + 1 = n by omega] at this
  obtain ⟨gq1, gq2⟩ := gsp_ok (m := m) (by omega) (by omega) lx ly hq hv
  rw [show m + 2 = n by omega] at gq1 gq2
  have gsm := gsp_small (r2 := lim xs m) (v2 := lim ys m) hle (lx.get (m + 1)) (lx.get m) (ly.get (m + 1))
  have hbp : 0 < val ys := by
    rcases Nat.eq_zero_or_pos (val ys) with h0 | h0
    · rw [h0] at hq; omega
    · exact h0
  have GC := hide (guess_any (some ⟨g, o, none⟩) B c d m N n (m + 1) xs ys w (.mk hr) hs lx ly hxl hyl (by omega) hn rfl (by omega) hle (by omega))
  have htk : (xs.take n).length = n := by rw [List.length_take]; omega
  have hrn := hr.cell (j := n) (by omega)
  have nN : n ≤ N := by omega
  have nN' : n < N := by omega
  have nc : n ≤ c := by omega
  have A1 := hide (hr.take n)
  have F1 := hide hf
  have S1 := hide hs
  have LX := hide (lx.take n)
  have LY := hide ly
  have Q1 := hide gq1
  have Q2 := hide gq2
  have P1 := hide (fun (t bo : Nat) (cs : List Nat) (ti : TakeInv (xs.take n) ys t n bo cs) => next_same (g := t) (by omega) hyl ly hbp ti)
  have P2 := hide (fun (t k bo cc : Nat) (cs cs2 : List Nat) (ti : TakeInv (xs.take n) ys t n bo cs) => next_back (g := t) (k := k) (cc := cc) (cs2 := cs2) (by omega) hyl ly hbp ti)
  have TK := hide htk
  have YL := hide hyl
  have rl := hide (lx.get n)
  have nm : n ≤ 1000000 := by omega
  clear hr hf hs lx ly hq hv gq1 gq2 hle hbp hxl hyl htk hN hn
  generalize gsp (lim xs n) (lim xs (m + 1)) (lim xs m) (lim ys (m + 1)) (lim ys m) = t at *
  generalize lim xs n = rn at *
  generalize val xs / val ys = q at *
  generalize val xs % val ys = r at *
  go_enter Tryz.func163, Tryz.ntmps163
  go_wp2_with (go_at_call 173; (with_reducible refine (GC.out).mono ?_); rintro e w1 ⟨rfl, q0, rfl⟩)
  go_region_held3 (fun w' => w'.cell? ⟨g, o + n, none⟩ = some (.int .u64 (rn : Int)))
    (first | exact hrn | exact (wr.cell (o + n) (.inr (Nat.le_refl _))).trans (by assumption) | go_keep)
    (first | (go_at_call 174; (with_reducible refine (takeAway_any g o n _ _ t B (xs.take n) ys _ (A1.out.drewN (q0 + 1)) (F1.out.drewN (q0 + 1)) TK.out YL.out (S1.out.drewN (q0 + 1)) hB LX.out LY.out nm gsm).mono ?_); rintro e w2 ⟨cs, bo, rfl, ti, a2, wr⟩))
  all_goals
    have hbo := Nat.lt_of_le_of_lt ti.2.2.1 gsm
    have W2 := hide wr
    have T2 := hide ti
    have AA := hide a2
    have S2 := hide ((S1.out.drewN (q0 + 1)).wrote wr hB)
    clear wr ti a2
    by_cases hb : rn < bo
    · obtain ⟨k, hk⟩ : ∃ k, k + 1 = t := ⟨t - 1, by have := T2.out.2.2.1; omega⟩
      have GB := hide (giveBack_any g o n c d B cs ys w2 AA.out ((F1.out.drewN (q0 + 1)).wrote W2.out) T2.out.1 YL.out S2.out hB T2.out.2.1 LY.out nm)
      have o1 : binOp .sub 128 (.int .u64 (t : Int)) (.int .u64 1) = pure (.int .u64 (k : Int)) := op_sub_le _ t 1 k hk gsm
      have F := hide (fun cc cs2 ai => P2.out t k bo cc cs cs2 T2.out Q2.out hk hb ai)
      clear hk
      go_wp2_with (go_at_call 175; (with_reducible refine (GB.out).mono ?_); rintro e w3 ⟨rfl, cs2, cc, ai, a3, wr3⟩)
      go_ret
      obtain ⟨f1, f2⟩ := F.out cc cs2 ai
      exact ⟨ret_one (by rw [f1]), cs2, ai.1, ai.2.1, f2, a3, (Wrote.ofDrew W2.out).trans wr3 ⟨Nat.le_refl _, Nat.le_refl _⟩ ⟨Nat.le_refl _, Nat.le_refl _⟩⟩
    · have F := hide (P1.out t bo cs T2.out Q2.out Q1.out (by omega))
      go_wp2
      go_ret
      exact ⟨ret_one (by rw [F.out.1]), cs, T2.out.1, T2.out.2.1, F.out.2, AA.out, Wrote.ofDrew W2.out⟩
theorem At.window {w : World} {g : Nat} {rs : List Nat} (h : At w g 0 rs) (k n : Nat) : At w g k (win rs k n) := by
  refine ⟨h.1, fun j hj => ?_⟩
  unfold win at hj ⊢
  rw [List.length_take, List.length_drop] at hj
  have := h.2 (k + j) (by omega)
  rw [Nat.zero_add] at this
  rw [this, lim_take (by omega), lim_drop]
theorem At.patch {w w' : World} {g k n : Nat} {rs cs : List Nat} (h : At w g 0 rs) (hc : At w' g k cs) (hw : Wrote w w' g k n) (hn : cs.length = n) (hk : k + n ≤ rs.length) : At w' g 0 (rs.take k ++ cs ++ rs.drop (k + n)) := by
  have ht : (rs.take k).length = k := by rw [List.length_take]; omega
  refine ⟨hc.1, fun j hj => ?_⟩
  rw [List.length_append, List.length_append, List.length_drop, ht, hn] at hj
  by_cases h1 : j < k
  · have e := h.2 j (by omega)
    rw [hw.cell _ (by omega), e, List.append_assoc, lim_append_left (by omega), lim_take h1]
  · by_cases h2 : j < k + n
    · have e := hc.2 (j - k) (by omega)
      rw [show k + (j - k) = 0 + j by omega] at e
      rw [e, lim_append_left (by rw [List.length_append]; omega)]
      have := lim_append_right (xs := rs.take k) (ys := cs) (i := j - k)
      rw [ht, show k + (j - k) = j by omega] at this
      rw [this]
    · have e := h.2 j (by omega)
      rw [hw.cell _ (by omega), e]
      have := lim_append_right (xs := rs.take k ++ cs) (ys := rs.drop (k + n)) (i := j - (k + n))
      rw [List.length_append, ht, hn, show k + n + (j - (k + n)) = j by omega, lim_drop, show k + n + (j - (k + n)) = j by omega] at this
      rw [this]
theorem by_facts {ys out : List Nat} {n s : Nat} (hy : ys.length = n + 1) (ly : Limbs ys) (lo : Limbs out) (hlen : out.length = n + 2) (hv : val out = val ys * 2 ^ s) (h1 : lim ys n * 2 ^ s < LB) (h2 : LB ≤ 2 * (lim ys n * 2 ^ s)) (hs : s ≤ 63) :
    (out.take (n + 1)).length = n + 1 ∧ val (out.take (n + 1)) = val ys * 2 ^ s ∧ LB ≤ 2 * lim (out.take (n + 1)) n := by
  have hp : 0 < 2 ^ s := Nat.two_pow_pos s
  have e1 := top1 hy
  have l1 := take_lt ly (m := n) (by omega)
  obtain ⟨t, ht⟩ : ∃ t, t + s = 64 := ⟨64 - s, by omega⟩
  have hL : LB = 2 ^ t * 2 ^ s := by rw [← Nat.pow_add, ht]; rfl
  have ht1 : lim ys n + 1 ≤ 2 ^ t := by rw [hL] at h1; exact Nat.lt_of_mul_lt_mul_right h1
  have hlt : val ys * 2 ^ s < LB ^ (n + 1) := by
    have a1 : val ys < LB ^ n * 2 ^ t := by
      have : LB ^ n * (lim ys n + 1) ≤ LB ^ n * 2 ^ t := Nat.mul_le_mul_left _ ht1
      rw [Nat.mul_add, Nat.mul_one] at this
      omega
    have a2 := Nat.mul_lt_mul_of_pos_right a1 hp
    rw [Nat.mul_assoc, ← hL, ← Nat.pow_succ] at a2
    exact a2
  have e2 := top1 (n := n + 1) hlen
  have hz : lim out (n + 1) = 0 := by
    rcases Nat.eq_zero_or_pos (lim out (n + 1)) with h0 | h0
    · exact h0
    · have := Nat.mul_le_mul_left (LB ^ (n + 1)) (show 1 ≤ lim out (n + 1) from h0)
      omega
  rw [hz, Nat.mul_zero, Nat.add_zero] at e2
  have hl : (out.take (n + 1)).length = n + 1 := by rw [List.length_take]; omega
  refine ⟨hl, by rw [← e2, hv], ?_⟩
  have e3 := top1 hl
  have l3 := take_lt (lo.take (n + 1)) (m := n) (by omega)
  have a3 : LB ^ n * (lim ys n * 2 ^ s) < LB ^ n * (lim (out.take (n + 1)) n + 1) := by
    have : LB ^ n * (lim ys n * 2 ^ s) ≤ val ys * 2 ^ s := by
      rw [← Nat.mul_assoc]; exact Nat.mul_le_mul_right _ (by omega)
    rw [Nat.mul_add, Nat.mul_one]
    omega
  have := Nat.lt_of_mul_lt_mul_left a3
  omega
theorem len_up {a s : Nat} (hs : s ≤ 63) : a + s / 64 + 1 = a + 1 := by omega
theorem val_of_digs {m : Nat} {out : List Nat} (h : digs m = trimz out) (l : Limbs out) : val out = m := by rw [← val_trimz l, ← h, val_digs]
theorem keepS {w w' : World} (hb : Below w.heap.size w w') {A B : Option Addr} {xs ys : List Nat} (h : Sl w A xs ∧ Sl w B ys) : Sl w' A xs ∧ Sl w' B ys := ⟨bl_keeps hb _ _ h.1, bl_keeps hb _ _ h.2⟩
theorem long_any (xs ys : List Nat) (lx : Limbs xs) (ly : Limbs ys) (ny : Norm ys) (hx64 : xs.length ≤ 10000) (hy64 : ys.length ≤ 10000) (h2 : 2 ≤ ys.length) (hle : val ys ≤ val xs) : LongOk xs ys := by
  intro A B c d w hx hy
  have hll := len_le_of_val lx ny hle
  obtain ⟨m, hm⟩ : ∃ m, ys.length = m + 2 := ⟨ys.length - 2, by omega⟩
  obtain ⟨K, hK⟩ : ∃ K, K + ys.length = xs.length + 1 := ⟨xs.length + 1 - ys.length, by omega⟩
  have ht0 : lim ys (m + 1) ≠ 0 := by
    rcases ny with h0 | h0
    · rw [h0] at h2; simp at h2
    · rwa [show ys.length - 1 = m + 1 by omega] at h0
  obtain ⟨s1, s2, s3⟩ := lzW_shift ht0 (ly.get (m + 1))
  have hyp : 0 < val ys := by
    have := le_val ny (by rintro rfl; simp at h2)
    have := LB_pow_pos (ys.length - 1)
    omega
  obtain ⟨b, o, rfl, hb⟩ := hy.at_ (by omega)
  have hcb := hb.cell (j := m + 1) (by omega)
  have q1 : binOp .sub 3 (.int .i64 (ys.length : Int)) (.int .i64 1) = pure (.int .i64 ((m + 1 : Nat) : Int)) := i64_sub _ ys.length 1 (m + 1) (by omega) (by omega)
  have q2 : binOp .sub 3 (.int .i64 (xs.length : Int)) (.int .i64 (ys.length : Int)) = pure (.int .i64 ((xs.length - ys.length : Nat) : Int)) := i64_sub _ xs.length ys.length (xs.length - ys.length) (by omega) (by omega)
  have q3 : binOp .add 3 (.int .i64 ((xs.length - ys.length : Nat) : Int)) (.int .i64 1) = pure (.int .i64 (K : Int)) := i64_add _ (xs.length - ys.length) 1 K (by omega) (by omega)
  have LZ := hide (fun W => lz64 (lim ys (m + 1)) (ly.get (m + 1)) W)
  have hidx : m + 1 < ys.length := by omega
  generalize hs : lzW (lim ys (m + 1)) = s at *
  have U1 := hide (fun W (h : Below w.heap.size w W) => shiftUp_len A c s xs W (bl_keeps h _ _ hx) lx (by omega) (by omega))
  have U2 := hide (fun W (h : Below w.heap.size w W) => shiftUp_len (some ⟨b, o, none⟩) d s ys W (bl_keeps h _ _ hy) ly (by omega) (by omega))
  have hmk : ∀ W : World, (Instr.makeSlice 26 (.int .i64 (K : Int)) (.int .i64 (K : Int))).run Tryz.prog W = .ok (.slice (some ⟨W.heap.size, 0, none⟩) K K) (W.alloc (.cells (madeCells #[.int .u64 0] K) 128)) :=
    fun W => run_make_u64 .i64 .i64 K K (by omega) (by omega) W
  have BF := hide (fun (N : Nat) (out : List Nat) (lo : Limbs out) (hlen : out.length = N) (hN : N = ys.length + s / 64 + 1) (hd : digs (val ys * 2 ^ s) = trimz out) => by_facts (n := m + 1) (s := s) (by omega) ly lo (by rw [hlen, hN, len_up s1]; omega) (val_of_digs hd lo) s2 s3 s1)
  have AF := hide (fun (N : Nat) (out : List Nat) (lo : Limbs out) (hlen : out.length = N) (hN : N = xs.length + s / 64 + 1) (hd : digs (val xs * 2 ^ s) = trimz out) => (show out.length = K + ys.length ∧ val out = val xs * 2 ^ s from ⟨by rw [hlen, hN, len_up s1]; omega, val_of_digs hd lo⟩))
  have XL := hide (val_lt lx)
  have YP := hide hyp
  have M2 := hide hm
  have S63 := hide s1
  have hne0 : ys.length ≤ 10000 := hy64
  have hK0 : K ≤ 10001 := by omega
  have hKp : 1 ≤ K := by omega
  have KK := hide hK
  clear hle hll ht0 s1 s2 s3 hyp hs ny lx ly hy hb hm hK
  generalize lim ys (m + 1) = top at *
  go_enter Tryz.func145, Tryz.ntmps145
  go_wp2_with (first
    | (go_at_call 161; (with_reducible refine (LZ.out _).mono ?_); rintro e w' ⟨rfl, rfl⟩)
    | (go_at_call 162; (with_reducible refine (U1.out _ (.refl _ _)).mono ?_); rintro e w1 ⟨g1, N1, out1, rfl, hl1, hN1, hn1, hd1, lo1, ho1, b1⟩; have a1 := hide (AF.out N1 out1 lo1 hl1 hN1 hd1); have l1 := hide lo1; have e1 := hide (show N1 = K + ys.length by (rw [hN1, len_up S63.out]; have := KK.out; omega)); have i1 : N1 ≤ 20010 := (by have := e1.out; have := KK.out; omega); have i2 : ys.length + 1 ≤ N1 := (by have := e1.out; omega); have o1 := hide ho1; clear hd1 lo1 hl1 hN1 hn1 ho1)
    | (go_at_call 162; (with_reducible refine (U2.out _ b1).mono ?_); rintro e w2 ⟨g2, N2, out2, rfl, hl2, hN2, hn2, hd2, lo2, ho2, hb2⟩; have a2 := hide (BF.out N2 out2 lo2 hl2 hN2 hd2); have l2 := hide lo2; have i3 : ys.length ≤ N2 := (by rw [hN2]; omega); have i4 : N2 ≤ 300000 := hn2; have o2 := hide ho2; have ne := hide (show g2 ≠ g1 from fun e => (by have h1 := o1.out.lt; have h2 := ho2.base_le; omega)); have o1 := hide (o1.out.below hb2 o1.out.lt); have b2 := bl_trans b1 hb2; clear hd2 lo2 hl2 hN2 hn2 ho2 hb2))
  have OM := hide (Own.made (base := w.heap.size) (n := K) w2 b2.size (Nat.le_refl K) (by unfold maxLen; omega))
  have BM := hide (b2.alloc b2.size (.cells (madeCells #[.int .u64 0] K) 128))
  have A1 := hide ((o1.out.alloc (.cells (madeCells #[.int .u64 0] K) 128)).at_)
  have F1 := hide ((o1.out.alloc (.cells (madeCells #[.int .u64 0] K) 128)).free N1)
  have A2 := hide (((o2.out.alloc (.cells (madeCells #[.int .u64 0] K) 128)).at_).take (m + 1 + 1))
  have n1 := hide (show g1 ≠ w2.heap.size from Nat.ne_of_lt o1.out.lt)
  have n2 := hide (show g2 ≠ w2.heap.size from Nat.ne_of_lt o2.out.lt)
  have G1 := hide o1.out.base_le
  have LI : Hid (LongInv out1 (out2.take (m + 1 + 1)) ys.length K K (List.replicate K 0) out1) := by
    refine LongInv.start a1.out.1 l1.out ?_
    refine long_low (n := m + 1) (by rw [a1.out.1, M2.out]) a1.out.2 S63.out ?_ a2.out.1 a2.out.2.2
    have := XL.out
    rwa [show xs.length = K + (m + 1) by (have := KK.out; have := M2.out; omega)] at this
  have L2 := hide (l2.out.take (m + 1 + 1))
  have B1 := hide a2.out.1
  have B2 := hide a2.out.2.2
  have BV := hide a2.out.2.1
  have AV := hide a1.out
  have BP := hide (show 0 < val (out2.take (m + 1 + 1)) by rw [BV.out]; exact Nat.mul_pos YP.out (Nat.two_pow_pos s))
  clear hmk U1 U2 LZ BF AF hcb q1 q2 q3 hidx o1 o2 a1 a2 l1 l2 b1 hx XL
  generalize out2.take (m + 1 + 1) = bs at *
  go_loopw [9] (fun i wr => ∃ (k : Nat) (qs rs : List Nat), k ≤ K ∧ i = .int .i64 ((k : Int) - 1) ∧ LongInv out1 bs ys.length K k qs rs ∧ At wr g1 0 rs ∧ Free wr g1 0 N1 ∧ At wr g2 0 bs ∧ Own wr w.heap.size w2.heap.size K qs ∧ Below w.heap.size w wr) (fun i _ => (intOf i + 1).toNat)
  case atStart => exact ⟨K, _, _, Nat.le_refl _, rfl, LI.out, A1.out, F1.out, A2.out, OM.out, BM.out⟩
  case round =>
    obtain ⟨k, qs, rs, hk, rfl, li, ha, hf, hb, ho, hw⟩ := hrel
    cases k with
    | zero =>
      obtain ⟨d1, d2⟩ := li.done YP.out AV.out.2 BV.out
      have D1 := hide d1
      have D2 := hide d2
      have hl : (rs.take ys.length).length = ys.length := by rw [List.length_take, li.2.1]; omega
      have T1 := hide (fun W (h : Sl W (some ⟨w2.heap.size, 0, none⟩) qs) => trim_n (some ⟨w2.heap.size, 0, none⟩) K K qs W li.1 h (Nat.le_refl _) (by omega))
      have SD := fun W (h : Sl W (some ⟨g1, 0, none⟩) (rs.take ys.length)) => shiftDown_any (some ⟨g1, 0, none⟩) N1 s (rs.take ys.length) W h (li.2.2.2.1.take _) (by omega) (by have := S63.out; omega)
      rw [hl] at SD
      have SD := hide SD
      have SQ := hide ho.sl
      have SR := hide (Sl.mk (ha.take ys.length))
      have HO := hide ho
      have HW := hide hw
      clear li d1 d2 hl ha hf hb ho hw
      have i5 : ys.length ≤ N1 := by omega
      go_wp2
      go_region_held3 (fun w' => Sl w' (some ⟨w2.heap.size, 0, none⟩) qs ∧ Sl w' (some ⟨g1, 0, none⟩) (rs.take ys.length))
        (first | assumption | exact ⟨SQ.out.drew, SR.out.drew⟩ | exact ⟨SQ.out, SR.out⟩ | exact keepS hb5 (by assumption) | go_keep)
        (first
          | (go_at_call 144; (with_reducible refine (T1.out _ (And.left (by assumption))).mono ?_); rintro e w' ⟨rfl, rfl⟩)
          | (go_at_call 164; (with_reducible refine (SD.out _ (And.right (by assumption))).mono ?_); rintro e w5 ⟨g5, N5, out5, rfl, hl5, nb5, hd5, lo5, ho5, hb5⟩; have T2 := hide (trim_n (some ⟨g5, 0, none⟩) N5 N5 out5 w5 hl5 ho5.sl (Nat.le_refl _) (by omega)))
          | (go_at_call 144; (with_reducible refine (T2.out).mono ?_); rintro e w' ⟨rfl, rfl⟩))
      all_goals
        have e2 := hide (show digs (val xs % val ys) = trimz out5 by rw [← D2.out]; exact hd5)
        have r1 := hide (((HO.out.drew).below hb5 (HO.out.drew).lt).trimRow)
        have r2 := hide ((ho5.rebase (show w.heap.size ≤ g5 from Nat.le_trans HW.out.size ho5.base_le)).trimRow)
        have b5 := hide (bl_trans HW.out.drew hb5)
        clear T2 hd5 ho5 hb5 hl5 lo5
        go_wp2
        go_ret2
        exact Two2.mk r1.out r2.out b5.out D1.out e2.out
    | succ k =>
      obtain ⟨j1, hj1⟩ : ∃ j1, j1 = k + ys.length := ⟨_, rfl⟩
      have p1 : binOp .add 3 (.int .i64 (k : Int)) (.int .i64 (ys.length : Int)) = pure (.int .i64 (j1 : Int)) := i64_add _ k ys.length j1 hj1.symm (by omega)
      have p2 : binOp .add 3 (.int .i64 (j1 : Int)) (.int .i64 1) = pure (.int .i64 ((j1 + 1 : Nat) : Int)) := i64_add _ j1 1 (j1 + 1) rfl (by omega)
      have hN1 := e1.out
      have k1 : k ≤ j1 + 1 := by omega
      have k2 : j1 + 1 ≤ N1 := by omega
      have k3 : k < K := hk
      have k4 : ¬ N1 = k := by omega
      have mb : m ≤ 10000 := by (have := M2.out; omega)
      have hcq := ho.cell (j := k) (by rw [li.1]; exact hk)
      have hfq := ho.frozen k
      have hwl := win_len li hk
      have NX := hide (fun c (h1 : ys.length + 1 ≤ c) (h2 : c ≤ 1000000) => next_any g1 k c N2 m ys.length (j1 + 1 - k) (some ⟨g2, 0, none⟩) (win rs k ys.length) bs wr (ha.window k ys.length) (hf.sub (Nat.zero_le _) (by omega)) (.mk hb) (fun b o' e => by injection e with e; injection e with e _; rw [← e]; exact ne.out) (by rw [hwl]; omega) (by rw [B1.out, M2.out]) (by omega) M2.out (by omega) (by omega) h2 ((li.2.2.2.1.drop k).take _) L2.out (win_lt li hk) B2.out)
      have ST := hide (fun (cs : List Nat) (hc : cs.length = ys.length) (lc : Limbs cs) (hv : val cs = val (win rs k ys.length) % val bs) => li.step hk BP.out hc lc hv rfl AV.out.1)
      have HA := hide ha
      have HF := hide hf
      have HB := hide hb
      have HO := hide ho
      have HW := hide hw
      have RL := hide (show k + ys.length ≤ rs.length by rw [li.2.1]; omega)
      have QL := hide (show qs.length = K from li.1)
      have cap1 := hide (show ys.length + 1 ≤ N1 - k by omega)
      have cap2 := hide (show N1 - k ≤ 1000000 by omega)
      clear hj1 hN1 li ha hf hb ho hw hwl
      generalize val (win rs k ys.length) / val bs = q at *
      go_wp2_with (go_at_call 163; (with_reducible refine (NX.out _ cap1.out cap2.out).mono ?_); rintro e w3 ⟨rfl, cs, hc, lc, hv, ac, wc⟩; have oq := HO.out.wrote_far wc n1.out.symm; have hcq3 := oq.cell (j := k) (by rw [QL.out]; exact k3); have hfq3 := oq.frozen k; have OQ := hide oq; have CS := hide (ST.out cs hc lc hv); have AC := hide (HA.out.patch ac wc hc RL.out); have WC := hide wc; clear oq hc lc hv ac wc)
      go_roundw
      case rel => exact ⟨k, _, _, by omega, by go_num, CS.out, AC.out.setCell_far n1.out _, (HF.out.wrote WC.out).setCell _ _, (HB.out.wrote WC.out ne.out).setCell_far n2.out _, OQ.out.set k q, (HW.out.trans (WC.out.below G1.out HW.out.size)).setCell b2.size _⟩
      case measure => simp [intOf]
theorem divide_all (A B : Option Addr) (c d : Nat) (xs ys : List Nat) (w : World) (hx : Sl w A xs) (hy : Sl w B ys) (lx : Limbs xs) (ly : Limbs ys) (nx : Norm xs) (ny : Norm ys) (hl : xs.length ≤ 10000) (hl' : ys.length ≤ 10000) (hp : 0 < ys.length) :
    Calls Tryz.prog 111 #[.slice A xs.length c, .slice B ys.length d] w (Two2 w (digs (val xs / val ys)) (digs (val xs % val ys))) :=
  divide_any A B c d xs ys w hx hy lx ly nx ny hl hl' hp (fun h2 hle => long_any xs ys lx ly ny hl hl' h2 hle)
end
section
open Go.RowKit
theorem validB_dg {n : Nat} (h : n < LB ^ 64) : validB (digs n) = true := validB_iff.2 ⟨digs_64 h, norm_digs n⟩
theorem validI_num {x : Int} (h : x.natAbs < LB ^ 64) : validI (isg x) (idg x) = true := by
  refine validI_iff.2 ⟨validB_dg h, fun hs => ?_⟩
  unfold idg
  rw [digs_len_pos]
  have : x < 0 := by unfold isg at hs; simpa using hs
  omega
section
variable (A B : Option Addr) (n m c d : Nat) (x y : Int) (w : World) (hn : (idg x).length = n) (hm : (idg y).length = m) (sx : Sl w A (idg x)) (sy : Sl w B (idg y)) (hx : x.natAbs < LB ^ 64) (hy : y.natAbs < LB ^ 64)
include hn hm sx sy hx hy
end
section
variable (A : Option Addr) (n c : Nat) (x : Int) (w : World) (hn : (idg x).length = n) (sx : Sl w A (idg x)) (hx : x.natAbs < LB ^ 64)
include hn sx hx
end
end
end Nt
end Go.Proofs.YthabfakbdfaciaaGreat
