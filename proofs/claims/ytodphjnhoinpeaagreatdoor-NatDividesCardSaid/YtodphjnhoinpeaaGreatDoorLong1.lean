/-
  nat.giveBack, nat.takeAway.
-/
import Derived.Test.YtodphjnhoinpeaaGreatDoorParse
import Derived.Test.YtodphjnhoinpeaaGreatDoorSub
import Derived.Test.YtodphjnhoinpeaaGreatDoorWord
namespace Go.Proofs.YtodphjnhoinpeaaGreatDoor
open Go.RowKit
namespace Nt

theorem lim_mid {cs xs : List Nat} {k : Nat} (h : cs.length = k) : lim (cs ++ xs.drop k) k = lim xs k := by
  have h1 := lim_append_right (xs := cs) (ys := xs.drop k) (i := 0)
  rw [h, Nat.add_zero] at h1
  rw [h1, lim_drop, Nat.add_zero]

set_option maxRecDepth 100000 in
set_option maxHeartbeats 1000000 in
theorem giveBack_any (g o n c d : Nat) (B : Option Addr) (xs ys : List Nat) (w : World) (hr : At w g o xs) (hf : Free w g o n) (hx : xs.length = n) (hy : ys.length = n) (hs : Sl w B ys) (hB : ∀ b o', B = some ⟨b, o', none⟩ → b ≠ g) (lx : Limbs xs) (ly : Limbs ys) (hn : n ≤ 1000000) :
    Calls Tryz.prog 126 #[.slice (some ⟨g, o, none⟩) n c, .slice B n d] w fun e w' => e = .returned (.tuple #[]) ∧ ∃ cs cc, AddInv xs ys n cc cs ∧ At w' g o cs ∧ Wrote w w' g o n := by
  have HX := hide hx
  have HY := hide hy
  clear hx hy
  go_enter Tryz.func126, Tryz.ntmps126
  go_wp2
  go_loopw [4, 9] (fun cy i wr => ∃ k cc cs, k ≤ n ∧ i = .int .i64 (k : Nat) ∧ cy = .int .u64 (cc : Nat) ∧ AddInv xs ys k cc cs ∧ At wr g o (cs ++ xs.drop k) ∧ Wrote w wr g o n) (fun _ i _ => n - (intOf i).toNat)
  case atStart => exact ⟨0, 0, [], Nat.zero_le _, rfl, rfl, AddInv.zero _ _, by simpa using hr, Wrote.refl _ _ _ _⟩
  case round =>
    obtain ⟨k, cc, cs, hk, rfl, rfl, ai, ha, hw⟩ := hrel
    by_cases hlt : k < n
    · obtain ⟨b, o', rfl, hb⟩ := hs.at_ (by rw [HY.out]; omega)
      have hcy := (hb.wrote hw (hB _ _ rfl)).cell (j := k) (by rw [HY.out]; omega)
      have hlen := ai.1
      have hcc := ai.2.2.1
      have hcell := ha.cell (j := k) (by rw [List.length_append, List.length_drop, hlen, HX.out]; omega)
      rw [lim_mid hlen] at hcell
      have hfr := (hf.wrote hw) k hlt
      have hst := ha.set (i := k) (by rw [List.length_append, List.length_drop, hlen, HX.out]; omega) (sumL (lim xs k) (lim ys k) cc)
      rw [set_drop _ hlen (by rw [HX.out]; exact hlt)] at hst
      have S := hide hst
      have I := hide (ai.step lx ly)
      have W := hide hw
      clear hst hlen ai ha hw hb
      generalize lim xs k = x at *
      generalize lim ys k = y at *
      go_wp2_with (simp only [add64 _ _ cc hcc])
      go_roundw
      case rel => exact ⟨k + 1, _, _, by omega, by go_num, rfl, I.out, S.out, W.out.setCell (by omega) _⟩
      case measure => simp [intOf]; omega
    · obtain rfl : k = n := by omega
      rw [List.drop_of_length_le (by rw [HX.out]; exact Nat.le_refl _), List.append_nil] at ha
      have A := hide ha
      have W := hide hw
      have I := hide ai
      clear ha hw ai
      go_wp2
      go_end0
      exact ⟨rfl, cs, cc, I.out, A.out, W.out⟩

/-- So many times ys taken from xs, limb by limb. -/
def TakeInv (xs ys : List Nat) (t k bo : Nat) (cs : List Nat) : Prop := cs.length = k ∧ Limbs cs ∧ bo ≤ t ∧ val cs + t * val (ys.take k) = val (xs.take k) + LB ^ k * bo
theorem TakeInv.zero (xs ys : List Nat) (t : Nat) : TakeInv xs ys t 0 0 [] := ⟨rfl, .nil, Nat.zero_le _, by simp⟩
theorem TakeInv.bo {x y t bo : Nat} (hx : x < LB) (hy : y < LB) (hb : bo ≤ t) : borL x (maLo t y bo 0) 0 + maHi t y bo 0 ≤ t ∧ difL x (maLo t y bo 0) 0 + t * y + bo = x + LB * (borL x (maLo t y bo 0) 0 + maHi t y bo 0) := by
  have e1 := ma_eq t y bo 0
  have e2 := dif_eq x (maLo t y bo 0) 0 hx (maLo_lt _ _ _ _) (by omega)
  have h1 := difL_lt x (maLo t y bo 0) 0
  generalize maLo t y bo 0 = lo at *
  generalize maHi t y bo 0 = hi at *
  generalize difL x lo 0 = df at *
  generalize borL x lo 0 = br at *
  have e3 : df + t * y + bo = x + LB * (br + hi) := by rw [Nat.mul_add]; omega
  refine ⟨?_, e3⟩
  have h2 : t * y + t ≤ t * LB := by
    rw [← Nat.mul_succ]; exact Nat.mul_le_mul_left _ hy
  have h3 : LB * (br + hi) < LB * (t + 1) := by
    rw [Nat.mul_add LB t 1, Nat.mul_comm LB t]; omega
  have := Nat.lt_of_mul_lt_mul_left h3
  omega
theorem TakeInv.step {xs ys cs : List Nat} {t k bo : Nat} (lx : Limbs xs) (ly : Limbs ys) (h : TakeInv xs ys t k bo cs) :
    TakeInv xs ys t (k + 1) (borL (lim xs k) (maLo t (lim ys k) bo 0) 0 + maHi t (lim ys k) bo 0) (cs ++ [difL (lim xs k) (maLo t (lim ys k) bo 0) 0]) := by
  obtain ⟨h1, h2, h3, h4⟩ := h
  obtain ⟨b1, b2⟩ := TakeInv.bo (lx.get k) (ly.get k) h3
  refine ⟨by simp [h1], h2.append (.one (difL_lt _ _ _)), b1, ?_⟩
  rw [val_append, val_one, val_take_succ, val_take_succ, h1, Nat.pow_succ]
  have e : LB ^ k * (difL (lim xs k) (maLo t (lim ys k) bo 0) 0 + t * lim ys k + bo) = LB ^ k * (lim xs k + LB * (borL (lim xs k) (maLo t (lim ys k) bo 0) 0 + maHi t (lim ys k) bo 0)) := by rw [b2]
  have e2 : t * (LB ^ k * lim ys k) = LB ^ k * (t * lim ys k) := Nat.mul_left_comm _ _ _
  rw [Nat.mul_add, Nat.mul_add, Nat.mul_add (LB ^ k) (lim xs k), ← Nat.mul_assoc (LB ^ k) LB] at e
  rw [Nat.mul_add t, e2]
  omega

set_option maxRecDepth 100000 in
set_option maxHeartbeats 1000000 in
theorem takeAway_any (g o n c d t : Nat) (B : Option Addr) (xs ys : List Nat) (w : World) (hr : At w g o xs) (hf : Free w g o n) (hx : xs.length = n) (hy : ys.length = n) (hs : Sl w B ys) (hB : ∀ b o', B = some ⟨b, o', none⟩ → b ≠ g) (lx : Limbs xs) (ly : Limbs ys) (hn : n ≤ 1000000) (ht : t < LB) :
    Calls Tryz.prog 125 #[.slice (some ⟨g, o, none⟩) n c, .slice B n d, .int .u64 (t : Int)] w fun e w' => ∃ (cs : List Nat) (bo : Nat), e = .returned (.int .u64 (bo : Int)) ∧ TakeInv xs ys t n bo cs ∧ At w' g o cs ∧ Wrote w w' g o n := by
  have HX := hide hx
  have HY := hide hy
  clear hx hy
  go_enter Tryz.func125, Tryz.ntmps125
  go_wp2
  go_loopw [6, 13] (fun cy i wr => ∃ k bo cs, k ≤ n ∧ i = .int .i64 (k : Nat) ∧ cy = .int .u64 (bo : Nat) ∧ TakeInv xs ys t k bo cs ∧ At wr g o (cs ++ xs.drop k) ∧ Wrote w wr g o n) (fun _ i _ => n - (intOf i).toNat)
  case atStart => exact ⟨0, 0, [], Nat.zero_le _, rfl, rfl, TakeInv.zero _ _ _, by simpa using hr, Wrote.refl _ _ _ _⟩
  case round =>
    obtain ⟨k, bo, cs, hk, rfl, rfl, ti, ha, hw⟩ := hrel
    by_cases hlt : k < n
    · obtain ⟨b, o', rfl, hb⟩ := hs.at_ (by rw [HY.out]; omega)
      have hcy := (hb.wrote hw (hB _ _ rfl)).cell (j := k) (by rw [HY.out]; omega)
      have hlen := ti.1
      have hbo := ti.2.2.1
      have hcell := ha.cell (j := k) (by rw [List.length_append, List.length_drop, hlen, HX.out]; omega)
      rw [lim_mid hlen] at hcell
      have hfr := (hf.wrote hw) k hlt
      have hst := ha.set (i := k) (by rw [List.length_append, List.length_drop, hlen, HX.out]; omega) (difL (lim xs k) (maLo t (lim ys k) bo 0) 0)
      rw [set_drop _ hlen (by rw [HX.out]; exact hlt)] at hst
      have S := hide hst
      have I := hide (ti.step lx ly)
      have MX : Hid (∀ W, Calls Tryz.prog 96 #[.int .u64 (t : Int), .int .u64 ((lim ys k : Nat) : Int), .int .u64 (bo : Int), .int .u64 0] W fun e w' =>
          e = .returned (.tuple #[.int .u64 ((maLo t (lim ys k) bo 0 : Nat) : Int), .int .u64 ((maHi t (lim ys k) bo 0 : Nat) : Int)]) ∧ W = w') := fun W => mulAdd_any t (lim ys k) bo 0 ht (ly.get k) (by omega) LB_pos W
      have o1 := op_add_lt 56 (borL (lim xs k) (maLo t (lim ys k) bo 0) 0) (maHi t (lim ys k) bo 0) _ rfl (Nat.lt_of_le_of_lt (TakeInv.bo (lx.get k) (ly.get k) hbo).1 ht)
      obtain ⟨b2, hb2⟩ : ∃ b2, b2 = borL (lim xs k) (maLo t (lim ys k) bo 0) 0 + maHi t (lim ys k) bo 0 := ⟨_, rfl⟩
      rw [← hb2] at o1 I
      have W := hide hw
      clear hst hlen ti ha hw hb hb2
      generalize maHi t (lim ys k) bo 0 = hi at *
      generalize maLo t (lim ys k) bo 0 = lo at *
      generalize lim xs k = x at *
      generalize lim ys k = y at *
      go_wp2_with (first
        | (go_at_call 96; (with_reducible refine (MX.out _).mono ?_); rintro ee w2 ⟨rfl, rfl⟩)
        | simp only [sub64_0])
      go_roundw
      case rel => exact ⟨k + 1, _, _, by omega, by go_num, rfl, I.out, S.out, W.out.setCell (by omega) _⟩
      case measure => simp [intOf]; omega
    · obtain rfl : k = n := by omega
      rw [List.drop_of_length_le (by rw [HX.out]; exact Nat.le_refl _), List.append_nil] at ha
      have A := hide ha
      have W := hide hw
      have I := hide ti
      clear ha hw ti
      go_wp2
      go_ret
      exact ⟨cs, bo, rfl, I.out, A.out, W.out⟩
end Nt
end Go.Proofs.YtodphjnhoinpeaaGreatDoor
