
/-
  The reference's trim.
-/
import Derived.Test.YtgimmmmpollkhaaGreatNOut
namespace Go.Proofs.YtgimmmmpollkhaaGreat

open Go.RowKit

namespace Nt

set_option maxRecDepth 100000 in
set_option maxHeartbeats 400000 in
theorem rtrim_any (A : Option Addr) (c : Nat) (xs : List Nat) (w : World) (hs : Sl w A xs) (hl : xs.length ≤ c) (hn : xs.length ≤ 100000) :
    Calls Tryz.prog 93 #[.slice A xs.length c] w (Mk w (trimz xs)) := by
  go_enter Tryz.func93, Tryz.ntmps93
  go_wp2
  go_loop [3] (fun v => ∃ k : Nat, k ≤ xs.length ∧ v = .int .i64 (k : Int) ∧ trimz (xs.take k) = trimz xs) (fun v => (intOf v).toNat)
  case atStart => exact ⟨xs.length, by omega, rfl, by rw [List.take_length]⟩
  case round =>
    obtain ⟨k, hk, rfl, ht⟩ := hrel
    cases k with
    | zero =>
      have T : Hid (trimz xs = [] ++ []) := by
        rw [List.take_zero] at ht
        exact ht.symm
      clear ht
      go_wp2_with (at_builtin; refine app_any _ rfl (.tmp 18) (.tmp 21) rfl w.heap.size 0 0 0 c (some ⟨w.heap.size, 0, none⟩) A [] [] rfl (Row.empty (Nat.le_refl _)) rfl .nil rfl (by omega) (by simp) ?_; intro A' c' w1 hr1 hg1)
      go_ret
      exact Mk.intro hr1 (((Below.refl _ _).alloc (Nat.le_refl _) _).grown hg1 (by simp) (Row.empty (Nat.le_refl _)).ownBlock) T.out
    | succ k =>
      obtain ⟨b, o, rfl, ha⟩ := hs.at_ (by omega)
      have hcell := ha.cell (j := k) (by omega)
      by_cases h0 : lim xs k = 0
      · have T := hide ((trimz_step (by omega) h0).symm.trans ht)
        rw [h0] at hcell
        clear ht ha h0
        go_wp2
        go_round
        case rel => exact ⟨k, by omega, rfl, T.out⟩
        case measure => simp [intOf]
      · have T := hide ((trimz_stop (by omega) h0).symm.trans ht)
        have L := hide hk
        generalize lim xs k = x at hcell h0
        have h4 : ((x : Int) == 0) = false := by simp; omega
        clear ht h0
        have hsrc := hide ((Sl.mk ha).alloc (.cells #[] 119) |>.take (k + 1))
        clear ha
        go_wp2_with (at_builtin; refine app_any _ rfl (.tmp 18) (.tmp 21) rfl w.heap.size 0 0 (k + 1) c (some ⟨w.heap.size, 0, none⟩) (some ⟨b, o, none⟩) [] (xs.take (k + 1)) rfl (Row.empty (Nat.le_refl _)) rfl hsrc.out (by rw [List.length_take, Nat.min_eq_left L.out]) (by omega) (by simp) ?_; intro A' c' w1 hr1 hg1)
        go_ret
        exact Mk.intro (by simpa using hr1) (((Below.refl _ _).alloc (Nat.le_refl _) _).grown hg1 (by simp) (Row.empty (Nat.le_refl _)).ownBlock) T.out.symm
end Nt

end Go.Proofs.YtgimmmmpollkhaaGreat
