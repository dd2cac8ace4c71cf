
/-
  nat.groupsOf, nat.Text.
-/
import Derived.Test.YtgimmmmpollkhaaGreatNFmt
import Derived.Test.YtgimmmmpollkhaaGreatNDivide
namespace Go.Proofs.YtgimmmmpollkhaaGreat

open Go.RowKit

namespace Nt

theorem Row.lit {base : Nat} (w : World) (x : Nat) (hb : base ≤ w.heap.size) : Row (w.alloc (.cells #[.int .u64 (x : Int)] 119)) base (some ⟨w.heap.size, 0, none⟩) 1 1 [x] :=
  (Own.mk (cur := #[lv x]) hb (heap_alloc_new w _) (Nat.le_refl _) (by simp only [maxLen, List.length_singleton]; omega) rfl rfl).row rfl
end Nt

end Go.Proofs.YtgimmmmpollkhaaGreat
