
/-
  The law's 'few', of two rows.
-/
import Derived.Test.YthdjjcooekkncaaDoorOf1

namespace Go.Proofs.YthdjjcooekkncaaDoor

open Go.RowKit

namespace Nt

set_option maxRecDepth 100000 in
set_option maxHeartbeats 1000000 in
theorem few_two (A B : Option Addr) (n m c d g : Nat) (w : World) (hn : n ≤ 9223372036854775807) (hm : m ≤ 9223372036854775807) (h0 : w.cell? ⟨g, 0, none⟩ = some (.slice A n c)) (h1 : w.cell? ⟨g, 1, none⟩ = some (.slice B m d)) :
    Calls Tryd.prog 11 #[.slice (some ⟨g, 0, none⟩) 2 2] w (Quiet w (.bool (decide (n ≤ 70 ∧ m ≤ 70)))) := by
  go_enter Tryd.func11, Tryd.ntmps11
  go_wp2
  go_loopw [3] (fun i wr => ∃ k : Nat, k ≤ 2 ∧ i = .int .i64 (k : Int) ∧ (0 < k → n ≤ 70) ∧ (1 < k → m ≤ 70) ∧ ∃ q, wr = w.drewN q) (fun i _ => 2 - (intOf i).toNat)
  case atStart => exact ⟨0, by omega, rfl, by omega, by omega, 0, rfl⟩
  case round =>
    obtain ⟨k, hk, rfl, hn', hm', q, rfl⟩ := hrel
    have HN := hide hn'
    have HM := hide hm'
    clear hn' hm'
    rcases (show k = 0 ∨ k = 1 ∨ k = 2 by omega) with rfl | rfl | rfl
    · by_cases hh : n ≤ 70
      · go_wp2
        go_roundw
        case rel => exact ⟨1, by omega, rfl, by omega, by omega, q, rfl⟩
        case measure => simp [intOf]
      · have E : Hid (decide (n ≤ 70 ∧ m ≤ 70) = false) := decide_eq_false (by omega)
        go_wp2
        go_ret
        exact ⟨ret_bool E.out.symm, q, rfl⟩
    · by_cases hh : m ≤ 70
      · have HN' := HN.out (by omega)
        go_wp2
        go_roundw
        case rel => exact ⟨2, by omega, rfl, by omega, by omega, q, rfl⟩
        case measure => simp [intOf]
      · have E : Hid (decide (n ≤ 70 ∧ m ≤ 70) = false) := decide_eq_false (by omega)
        go_wp2
        go_ret
        exact ⟨ret_bool E.out.symm, q, rfl⟩
    · have E : Hid (decide (n ≤ 70 ∧ m ≤ 70) = true) := decide_eq_true ⟨HN.out (by omega), HM.out (by omega)⟩
      go_wp2
      go_ret
      exact ⟨ret_bool E.out.symm, q, rfl⟩
end Nt

end Go.Proofs.YthdjjcooekkncaaDoor
