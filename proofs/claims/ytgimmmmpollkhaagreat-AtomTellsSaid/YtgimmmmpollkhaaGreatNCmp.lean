
/-
  limbs.Cmp, nat.Cmp; the reference's cmp, SameLimbs, ValidNat, CmpNat.
-/
import Derived.Test.YtgimmmmpollkhaaGreatNSmall
import Derived.Test.YtgimmmmpollkhaaGreatNMath2
import Derived.Deep.QuietTactic
import Derived.BigQuiet
namespace Go.Proofs.YtgimmmmpollkhaaGreat

open Go.RowKit

namespace Nt

theorem dr2 (w : World) (q n : Nat) : ∃ m, (w.drewN q).drewN n = w.drewN m := ⟨_, World.drewN_drewN w q n⟩
theorem dr3 (w : World) (q n k : Nat) : ∃ m, ((w.drewN q).drewN n).drewN k = w.drewN m := ⟨_, by rw [World.drewN_drewN, World.drewN_drewN]⟩
def Quiet (w : World) (v : Value) (e : Ending) (w' : World) : Prop := e = .returned v ∧ ∃ n, w' = w.drewN n

set_option maxRecDepth 100000 in
set_option maxHeartbeats 400000 in
theorem rcmp_len (A B : Option Addr) (c d : Nat) (xs ys : List Nat) (w : World) (hx : Sl w A xs) (hy : Sl w B ys) (lx : Limbs xs) (ly : Limbs ys) (hl : xs.length ≤ 1000000) (he : xs.length = ys.length) :
    Calls Tryz.prog 76 #[.slice A xs.length c, .slice B ys.length d] w (Quiet w (.int .i64 (cmpN (val xs) (val ys)))) := by
  generalize hn : xs.length = n at *
  generalize hm : ys.length = m at *
  subst he
  have Hn := hide hn
  have Hm := hide hm
  clear hn hm
  go_enter Tryz.func76, Tryz.ntmps76
  go_wp2
  go_loopw [5] (fun i wr => ∃ k : Nat, k ≤ n ∧ i = .int .i64 ((k : Int) - 1) ∧ xs.drop k = ys.drop k ∧ ∃ q, wr = w.drewN q) (fun i _ => (intOf i + 1).toNat)
  case atStart => exact ⟨n, Nat.le_refl _, rfl, by rw [List.drop_of_length_le (by rw [Hn.out]; exact Nat.le_refl _), List.drop_of_length_le (by rw [Hm.out]; exact Nat.le_refl _)], 0, rfl⟩
  case round =>
    obtain ⟨k, hk, rfl, hd, q, rfl⟩ := hrel
    cases k with
    | zero =>
      have E : Hid (cmpN (val xs) (val ys) = 0) := by
        have : xs = ys := by simpa using hd
        subst this
        exact cmpN_eq
      clear hd
      go_wp2
      go_ret
      exact ⟨ret_one E.out.symm, q, rfl⟩
    | succ k =>
      obtain ⟨b, o, rfl, ha⟩ := hx.at_ (by rw [Hn.out]; omega)
      obtain ⟨b', o', rfl, ha'⟩ := hy.at_ (by rw [Hm.out]; omega)
      have hc := ha.cell (j := k) (by rw [Hn.out]; omega)
      have hc' := ha'.cell (j := k) (by rw [Hm.out]; omega)
      have L := hide (lt_of_top (k := k) lx (by rw [Hn.out]; omega) (by rw [Hm.out]; omega) hd)
      have G := hide (lt_of_top (k := k) ly (by rw [Hm.out]; omega) (by rw [Hn.out]; omega) hd.symm)
      have S := hide (drop_step (k := k) (by rw [Hn.out]; omega) (by rw [Hm.out]; omega) hd)
      clear hd ha ha'
      generalize lim xs k = x at *
      generalize lim ys k = y at *
      by_cases h1 : x < y
      · have E := hide (cmpN_lt (L.out h1))
        go_wp2
        go_quiet (fail)
        go_wp2
        go_ret
        exact ⟨ret_one E.out.symm, dr2 _ _ _⟩
      · have h1' : y ≤ x := by omega
        clear h1
        by_cases h2 : y < x
        · have E := hide (cmpN_gt (G.out h2))
          go_wp2
          go_quiet (fail)
          go_wp2
          go_quiet (fail)
          go_wp2
          go_ret
          exact ⟨ret_one E.out.symm, dr3 _ _ _ _⟩
        · have h2' : x ≤ y := by omega
          have E := hide (S.out (by omega))
          clear h2
          go_wp2
          go_quiet (fail)
          go_wp2
          go_quiet (fail)
          go_wp2
          go_roundw
          case rel => exact ⟨k, by omega, by go_num, E.out, _, rfl⟩
          case measure => simp [intOf]

set_option maxRecDepth 100000 in
set_option maxHeartbeats 400000 in
theorem rcmp_any (A B : Option Addr) (c d : Nat) (xs ys : List Nat) (w : World) (hx : Sl w A xs) (hy : Sl w B ys) (lx : Limbs xs) (ly : Limbs ys) (nx : Norm xs) (ny : Norm ys) (hl : xs.length ≤ 1000000) (_hl' : ys.length ≤ 1000000) :
    Calls Tryz.prog 76 #[.slice A xs.length c, .slice B ys.length d] w (Quiet w (.int .i64 (cmpN (val xs) (val ys)))) := by
  by_cases he : xs.length = ys.length
  · exact rcmp_len A B c d xs ys w hx hy lx ly hl he
  · have L := hide (length_lt_of_val (xs := xs) (ys := ys) lx ny)
    have G := hide (length_lt_of_val (xs := ys) (ys := xs) ly nx)
    clear hx hy lx ly nx ny
    generalize xs.length = n at *
    generalize ys.length = m at *
    rcases Nat.lt_or_ge n m with h | h
    · have E := hide (cmpN_lt (L.out h))
      go_enter Tryz.func76, Tryz.ntmps76
      go_wp2
      go_ret
      exact ⟨ret_one E.out.symm, 0, rfl⟩
    · have h' : m < n := by omega
      have E := hide (cmpN_gt (G.out h'))
      go_enter Tryz.func76, Tryz.ntmps76
      go_wp2
      go_ret
      exact ⟨ret_one E.out.symm, 0, rfl⟩

set_option maxRecDepth 100000 in
set_option maxHeartbeats 400000 in
theorem lcmp_len (A B : Option Addr) (c d : Nat) (xs ys : List Nat) (w : World) (hx : Sl w A xs) (hy : Sl w B ys) (lx : Limbs xs) (ly : Limbs ys) (hl : xs.length ≤ 1000000) (he : xs.length = ys.length) :
    Calls Tryz.prog 125 #[.slice A xs.length c, .slice B ys.length d] w (Quiet w (.int .i64 (cmpN (val xs) (val ys)))) := by
  generalize hn : xs.length = n at *
  generalize hm : ys.length = m at *
  subst he
  have Hn := hide hn
  have Hm := hide hm
  clear hn hm
  go_enter Tryz.func125, Tryz.ntmps125
  go_wp2
  go_loopw [5] (fun i wr => ∃ k : Nat, k ≤ n ∧ i = .int .i64 ((k : Int) - 1) ∧ xs.drop k = ys.drop k ∧ ∃ q, wr = w.drewN q) (fun i _ => (intOf i + 1).toNat)
  case atStart => exact ⟨n, Nat.le_refl _, rfl, by rw [List.drop_of_length_le (by rw [Hn.out]; exact Nat.le_refl _), List.drop_of_length_le (by rw [Hm.out]; exact Nat.le_refl _)], 0, rfl⟩
  case round =>
    obtain ⟨k, hk, rfl, hd, q, rfl⟩ := hrel
    cases k with
    | zero =>
      have E : Hid (cmpN (val xs) (val ys) = 0) := by
        have : xs = ys := by simpa using hd
        subst this
        exact cmpN_eq
      clear hd
      go_wp2
      go_ret
      exact ⟨ret_one E.out.symm, q, rfl⟩
    | succ k =>
      obtain ⟨b, o, rfl, ha⟩ := hx.at_ (by rw [Hn.out]; omega)
      obtain ⟨b', o', rfl, ha'⟩ := hy.at_ (by rw [Hm.out]; omega)
      have hc := ha.cell (j := k) (by rw [Hn.out]; omega)
      have hc' := ha'.cell (j := k) (by rw [Hm.out]; omega)
      have L := hide (lt_of_top (k := k) lx (by rw [Hn.out]; omega) (by rw [Hm.out]; omega) hd)
      have G := hide (lt_of_top (k := k) ly (by rw [Hm.out]; omega) (by rw [Hn.out]; omega) hd.symm)
      have S := hide (drop_step (k := k) (by rw [Hn.out]; omega) (by rw [Hm.out]; omega) hd)
      clear hd ha ha'
      generalize lim xs k = x at *
      generalize lim ys k = y at *
      by_cases h1 : x < y
      · have E := hide (cmpN_lt (L.out h1))
        go_wp2
        go_quiet (fail)
        go_wp2
        go_ret
        exact ⟨ret_one E.out.symm, dr2 _ _ _⟩
      · have h1' : y ≤ x := by omega
        clear h1
        by_cases h2 : y < x
        · have E := hide (cmpN_gt (G.out h2))
          go_wp2
          go_quiet (fail)
          go_wp2
          go_quiet (fail)
          go_wp2
          go_ret
          exact ⟨ret_one E.out.symm, dr3 _ _ _ _⟩
        · have h2' : x ≤ y := by omega
          have E := hide (S.out (by omega))
          clear h2
          go_wp2
          go_quiet (fail)
          go_wp2
          go_quiet (fail)
          go_wp2
          go_roundw
          case rel => exact ⟨k, by omega, by go_num, E.out, _, rfl⟩
          case measure => simp [intOf]

set_option maxRecDepth 100000 in
set_option maxHeartbeats 400000 in
theorem lcmp_any (A B : Option Addr) (c d : Nat) (xs ys : List Nat) (w : World) (hx : Sl w A xs) (hy : Sl w B ys) (lx : Limbs xs) (ly : Limbs ys) (nx : Norm xs) (ny : Norm ys) (hl : xs.length ≤ 1000000) (_hl' : ys.length ≤ 1000000) :
    Calls Tryz.prog 125 #[.slice A xs.length c, .slice B ys.length d] w (Quiet w (.int .i64 (cmpN (val xs) (val ys)))) := by
  by_cases he : xs.length = ys.length
  · exact lcmp_len A B c d xs ys w hx hy lx ly hl he
  · have L := hide (length_lt_of_val (xs := xs) (ys := ys) lx ny)
    have G := hide (length_lt_of_val (xs := ys) (ys := xs) ly nx)
    clear hx hy lx ly nx ny
    generalize xs.length = n at *
    generalize ys.length = m at *
    rcases Nat.lt_or_ge n m with h | h
    · have E := hide (cmpN_lt (L.out h))
      go_enter Tryz.func125, Tryz.ntmps125
      go_wp2
      go_ret
      exact ⟨ret_one E.out.symm, 0, rfl⟩
    · have h' : m < n := by omega
      have E := hide (cmpN_gt (G.out h'))
      go_enter Tryz.func125, Tryz.ntmps125
      go_wp2
      go_ret
      exact ⟨ret_one E.out.symm, 0, rfl⟩

theorem take_step {xs ys : List Nat} {k : Nat} (hx : k < xs.length) (hy : k < ys.length) (hd : xs.take k = ys.take k) (h : lim xs k = lim ys k) : xs.take (k + 1) = ys.take (k + 1) := by
  rw [take_succ_lim hx, take_succ_lim hy, hd, h]

set_option maxRecDepth 100000 in
set_option maxHeartbeats 400000 in
theorem same_any (A B : Option Addr) (c d : Nat) (xs ys : List Nat) (w : World) (hx : Sl w A xs) (hy : Sl w B ys) (hl : xs.length ≤ 1000000) (hl' : ys.length ≤ 1000000) :
    Calls Tryz.prog 70 #[.slice A xs.length c, .slice B ys.length d] w (Quiet w (.bool (decide (xs = ys)))) := by
  by_cases he : xs.length = ys.length
  · generalize hn : xs.length = n at *
    generalize hm : ys.length = m at *
    subst he
    have Hn := hide hn
    have Hm := hide hm
    clear hn hm
    go_enter Tryz.func70, Tryz.ntmps70
    go_wp2
    go_loopw [5] (fun i wr => ∃ k : Nat, k ≤ n ∧ i = .int .i64 (k : Int) ∧ xs.take k = ys.take k ∧ ∃ q, wr = w.drewN q) (fun i _ => n - (intOf i).toNat)
    case atStart => exact ⟨0, Nat.zero_le _, rfl, by simp, 0, rfl⟩
    case round =>
      obtain ⟨k, hk, rfl, hd, q, rfl⟩ := hrel
      by_cases hlt : k < n
      · obtain ⟨b, o, rfl, ha⟩ := hx.at_ (by rw [Hn.out]; omega)
        obtain ⟨b', o', rfl, ha'⟩ := hy.at_ (by rw [Hm.out]; omega)
        have hc := ha.cell (j := k) (by rw [Hn.out]; omega)
        have hc' := ha'.cell (j := k) (by rw [Hm.out]; omega)
        have S := hide (take_step (k := k) (by rw [Hn.out]; omega) (by rw [Hm.out]; omega) hd)
        have N : Hid (lim xs k ≠ lim ys k → decide (xs = ys) = false) := fun hne => decide_eq_false (fun e => hne (by rw [e]))
        clear hd ha ha'
        generalize lim xs k = x at *
        generalize lim ys k = y at *
        by_cases h1 : x = y
        · have E := hide (S.out h1)
          subst h1
          go_wp2
          go_quiet (fail)
          go_wp2
          go_roundw
          case rel => exact ⟨k + 1, by omega, by go_num, E.out, _, rfl⟩
          case measure => simp [intOf]; omega
        · have E := hide (N.out h1)
          have h2 : ((x : Int) != (y : Int)) = true := by simp; omega
          clear h1
          go_wp2
          go_quiet (fail)
          go_wp2
          go_ret
          exact ⟨ret_bool E.out.symm, dr2 _ _ _⟩
      · obtain rfl : k = n := by omega
        have E : Hid (decide (xs = ys) = true) := by
          rw [List.take_of_length_le (by rw [Hn.out]; omega), List.take_of_length_le (by rw [Hm.out]; omega)] at hd
          exact decide_eq_true hd
        clear hd
        go_wp2
        go_ret
        exact ⟨ret_bool E.out.symm, q, rfl⟩
  · have E : Hid (decide (xs = ys) = false) := decide_eq_false (fun e => he (by rw [e]))
    clear hx hy
    generalize xs.length = n at *
    generalize ys.length = m at *
    have h2 : ((n : Int) != (m : Int)) = true := by simp; omega
    clear he
    go_enter Tryz.func70, Tryz.ntmps70
    go_wp2
    go_ret
    exact ⟨ret_bool E.out.symm, 0, rfl⟩

set_option maxHeartbeats 400000 in
theorem rvalid_any (A : Option Addr) (c : Nat) (xs : List Nat) (w : World) (hs : Sl w A xs) (hl : xs.length ≤ 9223372036854775807) :
    Calls Tryz.prog 75 #[.slice A xs.length c] w fun e w' => e = .returned (.bool (validB xs)) ∧ w = w' := by
  by_cases h0 : xs.length = 0
  · have : validB xs = true := by
      have : xs = [] := List.eq_nil_of_length_eq_zero h0
      subst this; rfl
    rw [this]
    clear this hs
    generalize xs.length = n at *
    subst h0
    go_enter Tryz.func75, Tryz.ntmps75
    go_wp2
    go_ret
    exact ⟨rfl, rfl⟩
  · obtain ⟨b, o, rfl, ha⟩ := hs.at_ (by omega)
    have hc := ha.cell (j := xs.length - 1) (by omega)
    have hv : validB xs = decide (xs.length ≤ 64 ∧ lim xs (xs.length - 1) ≠ 0) := by
      unfold validB Norm
      have : xs ≠ [] := by rintro rfl; simp at h0
      simp [this]
    rw [hv]
    clear hv ha hs
    generalize lim xs (xs.length - 1) = x at hc ⊢
    generalize xs.length = n at *
    have h5 : ((n : Int) == 0) = false := by simp; omega
    have h3 : 0 < n := by omega
    by_cases h1 : n ≤ 64
    · by_cases h2 : x = 0
      · subst h2
        have e : decide (n ≤ 64 ∧ (0 : Nat) ≠ 0) = false := by simp
        rw [e]; clear e
        clear h0
        go_enter Tryz.func75, Tryz.ntmps75
        go_wp2
        go_ret
        exact ⟨rfl, rfl⟩
      · have e : decide (n ≤ 64 ∧ x ≠ 0) = true := by simp [h1, h2]
        rw [e]; clear e
        have h4 : ((x : Int) != 0) = true := by simp; omega
        clear h0
        go_enter Tryz.func75, Tryz.ntmps75
        go_wp2
        go_ret
        exact ⟨rfl, rfl⟩
    · have e : decide (n ≤ 64 ∧ x ≠ 0) = false := by simp [h1]
      rw [e]; clear e hc
      have h6 : 64 < n := by omega
      clear h0 h1
      go_enter Tryz.func75, Tryz.ntmps75
      go_wp2
      go_ret
      exact ⟨rfl, rfl⟩

end Nt

end Go.Proofs.YtgimmmmpollkhaaGreat
