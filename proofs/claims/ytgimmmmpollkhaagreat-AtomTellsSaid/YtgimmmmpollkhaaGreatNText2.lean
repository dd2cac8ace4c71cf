
/-
  nat.Text.
-/
import Derived.Test.YtgimmmmpollkhaaGreatNText
namespace Go.Proofs.YtgimmmmpollkhaaGreat

open Go.RowKit

namespace Nt

theorem Pow10.some {w : World} (h : Pow10 w) : ∃ g, Tryz.prog.globalNamed "internal/strconv.uint64pow10" = some g ∧ g < w.heap.size := by
  unfold Pow10 Lib.TabIs World.var? at h
  cases hg : Tryz.prog.globalNamed "internal/strconv.uint64pow10" with
  | none => simp [hg] at h
  | some g =>
    simp only [hg, Option.bind_some] at h
    refine ⟨g, rfl, ?_⟩
    rcases Nat.lt_or_ge g w.heap.size with h' | h'
    · exact h'
    · rw [Array.getElem?_eq_none h'] at h; simp at h
theorem Pow10.below {w w' : World} {B : Nat} (h : Pow10 w) (hb : Below B w w') (hB : w.heap.size ≤ B) : Pow10 w' := by
  obtain ⟨g, hg, hlt⟩ := h.some
  unfold Pow10 Lib.TabIs World.var? at *
  simp only [hg, Option.bind_some] at h ⊢
  rw [hb.block g (by omega)]
  exact h

def Txt (l : List UInt8) (D : ByteArray) : Prop := D.data.toList = l
theorem Txt.size {l : List UInt8} {D : ByteArray} (h : Txt l D) : D.size = l.length := by rw [Lib.size_eq, h]
theorem Txt.mk (l : List UInt8) : Txt l ⟨l.toArray⟩ := by simp [Txt]
theorem Txt.eq {l : List UInt8} {D : ByteArray} (h : Txt l D) : D = ⟨l.toArray⟩ := by
  cases D with
  | mk d => unfold Txt at h; simp at h; rw [← h]
end Nt

end Go.Proofs.YtgimmmmpollkhaaGreat
