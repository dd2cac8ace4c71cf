
/-
  nat.Bits; the first law's same.
-/
import Derived.Test.YtgmjdaallinicaaGreatDoorOf

namespace Go.Proofs.YtgmjdaallinicaaGreatDoor

open Go.RowKit

namespace Nt
/-- nat.Bits. -/
def bitsSp (xs : List Nat) : Nat := if validB xs = true ∧ xs ≠ [] then 64 * (xs.length - 1) + lenW (lim xs (xs.length - 1)) else 0

set_option maxRecDepth 100000 in
set_option maxHeartbeats 400000 in
theorem bits_any (A : Option Addr) (c : Nat) (xs : List Nat) (w : World) (hs : Sl w A xs) (lx : Limbs xs) (hl : xs.length ≤ 1000000) :
    Calls Tryz.prog 16 #[.slice A xs.length c] w fun e w' => e = .returned (.int .i64 ((bitsSp xs : Nat) : Int)) ∧ w = w' := by
  have V' := hide (valid_any A c xs w hs (by omega))
  by_cases h0 : xs.length = 0
  · have E : Hid (bitsSp xs = 0) := by
      have : xs = [] := List.eq_nil_of_length_eq_zero h0
      subst this; rfl
    rw [E.out]
    clear hs E
    generalize xs.length = n at *
    subst h0
    go_enter Tryz.func16, Tryz.ntmps16
    go_wp2
    go_ret
    exact ⟨rfl, rfl⟩
  · have hne : xs ≠ [] := by rintro rfl; simp at h0
    rcases vB (xs := xs) with vx | vx
    · have h64 := (validB_iff.1 vx).1
      obtain ⟨b, o, rfl, ha⟩ := hs.at_ (by omega)
      have hc := ha.cell (j := xs.length - 1) (by omega)
      have hL := lx.get (xs.length - 1)
      have E : Hid (bitsSp xs = 64 * (xs.length - 1) + lenW (lim xs (xs.length - 1))) := by
        unfold bitsSp
        exact if_pos ⟨vx, hne⟩
      rw [E.out]
      have hw := lenW_le _ hL
      have Z := hide (fun W => lz64 _ hL W)
      have hzd : lzW (lim xs (xs.length - 1)) = 64 - lenW (lim xs (xs.length - 1)) := rfl
      clear E ha hs hL
      generalize lzW (lim xs (xs.length - 1)) = z at *
      generalize lenW (lim xs (xs.length - 1)) = l at *
      generalize lim xs (xs.length - 1) = x at *
      rw [vx] at V'
      clear vx lx hne
      generalize xs.length = n at *
      have h5 : ((n : Int) == 0) = false := by simp; omega
      have F := hide (show ((64 * (n - 1) + l : Nat) : Int) = (n : Int) * 64 - (z : Int) by omega)
      have hz : z ≤ 64 := by omega
      have hn1 : 1 ≤ n := by omega
      clear hzd
      go_enter Tryz.func16, Tryz.ntmps16
      go_wp2_with (first
        | (go_at_call 15; (with_reducible refine (V'.out).mono ?_); rintro e w' ⟨rfl, rfl⟩)
        | (go_at_call 59; (with_reducible refine (Z.out _).mono ?_); rintro e w' ⟨rfl, rfl⟩))
      go_ret
      exact ⟨ret_one F.out.symm, rfl⟩
    · have E : Hid (bitsSp xs = 0) := by
        unfold bitsSp
        exact if_neg (fun h => by rw [vx] at h; exact absurd h.1 (by simp))
      rw [E.out]
      rw [vx] at V'
      clear E hs lx hne vx
      generalize xs.length = n at *
      have h5 : ((n : Int) == 0) = false := by simp; omega
      go_enter Tryz.func16, Tryz.ntmps16
      go_wp2_with (go_at_call 15; (with_reducible refine (V'.out).mono ?_); rintro e w' ⟨rfl, rfl⟩)
      go_ret
      exact ⟨rfl, rfl⟩

/-- The law's 'same'. -/
theorem law_same (A B : Option Addr) (n m c d : Nat) (xs ys : List Nat) (w : World) (hn : xs.length = n) (hm : ys.length = m) (hx : Sl w A xs) (hy : Sl w B ys) (hl : n ≤ 1000000) (hl' : m ≤ 1000000) :
    Calls Tryz.prog 14 #[.slice A n c, .slice B m d] w (Quiet w (.bool (decide (xs = ys)))) := by
  have S := hide (same_any A B c d xs ys w hx hy (by omega) (by omega))
  rw [hn, hm] at S
  clear hx hy
  go_enter Tryz.func14, Tryz.ntmps14
  go_wp2_with (go_at_call 58; (with_reducible refine (S.out).mono ?_); rintro e w1 ⟨rfl, q0, rfl⟩)
  go_ret
  exact ⟨rfl, q0, rfl⟩
theorem law_same_t (A B : Option Addr) (n m c d : Nat) (xs ys : List Nat) (w : World) (hn : xs.length = n) (hm : ys.length = m) (hx : Sl w A xs) (hy : Sl w B ys) (hl : n ≤ 1000000) (hl' : m ≤ 1000000) (he : xs = ys) :
    Calls Tryz.prog 14 #[.slice A n c, .slice B m d] w (Quiet w (.bool true)) := by
  have := law_same A B n m c d xs ys w hn hm hx hy hl hl'
  rwa [decide_eq_true he] at this
end Nt

end Go.Proofs.YtgmjdaallinicaaGreatDoor
