
/-
  What the walks of laws have in common: rows that a text lays; what is below stays.
-/
import Derived.Test.YtgimmmmpollkhaaGreatNText2
import Derived.Test.YtgimmmmpollkhaaGreatNDivide
namespace Go.Proofs.YtgimmmmpollkhaaGreat

open Go.RowKit

namespace Nt

theorem litSl (w : World) (cur : Array Value) (xs : List Nat) (h : cur.toList = xs.map lv) {g : Nat} (hg : w.heap.size = g) : Sl (w.alloc (.cells cur 119)) (some ⟨g, 0, none⟩) xs := by
  subst hg
  have hs : cur.size = xs.length := by
    have := congrArg List.length h
    simpa using this
  by_cases hm : xs.length ≤ maxLen
  · exact (Own.mk (base := w.heap.size) (cap := xs.length) (cur := cur) (Nat.le_refl _) (heap_alloc_new w _) (Nat.le_refl _) hm hs (by rw [h, ← List.length_map (f := lv), List.take_length])).sl
  · refine .inr ⟨w.heap.size, 0, rfl, by simp, fun j hj => ?_⟩
    rw [cell_of_row (w.alloc (.cells cur 119)) w.heap.size (0 + j) cur _ (0, 0) (heap_alloc_new w _)]
    have : cur.toList[j]? = (xs.map lv)[j]? := by rw [h]
    rw [List.getElem?_map, List.getElem?_eq_getElem hj] at this
    simp only [Array.getElem?_toList] at this
    rw [Nat.zero_add, this, lim_some hj]
    rfl

theorem valid_short {xs : List Nat} (h : xs.length ≤ 64) (hn : Norm xs) : validB xs = true := validB_iff.2 ⟨h, hn⟩
theorem norm1 {x : Nat} (h : x ≠ 0) : Norm [x] := .inr h
theorem limbs1 {x : Nat} (h : x < 18446744073709551616) : Limbs [x] := .one h
theorem digs1 {x : Nat} (h : x < 18446744073709551616) (h0 : x ≠ 0) : digs x = [x] := by
  have := digs_val_norm (limbs1 h) (norm1 h0)
  rwa [val_one] at this

theorem Two.get {w : World} {r : List Nat × Nat} {e : Ending} {w' : World} (h : Two w r e w') : ∃ A c, e = .returned (.tuple #[.slice A r.1.length c, .int .i64 (r.2 : Int)]) ∧ Sl w' A r.1 ∧ Below w.heap.size w w' := by
  obtain ⟨v, rfl, ⟨A, c, rfl, _, _, h3⟩, hb⟩ := h
  exact ⟨A, c, rfl, h3, hb⟩
theorem Three.get {w : World} {r : List Nat × List Nat × Nat} {e : Ending} {w' : World} (h : Three w r e w') : ∃ A c B d, e = .returned (.tuple #[.slice A r.1.length c, .slice B r.2.1.length d, .int .i64 (r.2.2 : Int)]) ∧ Sl w' A r.1 ∧ Sl w' B r.2.1 ∧ Below w.heap.size w w' := by
  obtain ⟨v, u, rfl, ⟨A, c, rfl, _, _, h3⟩, ⟨B, d, rfl, _, _, h4⟩, hb⟩ := h
  exact ⟨A, c, B, d, rfl, h3, h4, hb⟩
def Keeps (w w' : World) : Prop := ∀ A xs, Sl w A xs → Sl w' A xs
theorem bl_keeps {w w' : World} (h : Below w.heap.size w w') : Keeps w w' := fun _ _ hs => hs.below h (Nat.le_refl _)
theorem Keeps.trans {w w1 w' : World} (h : Keeps w w1) (k : Keeps w1 w') : Keeps w w' := fun _ _ hs => k _ _ (h _ _ hs)
theorem bl_allocs {w w' : World} (h : Below w.heap.size w w') (x : Obj) : Below w.heap.size w (w'.alloc x) := h.alloc h.size _

theorem size1 (w : World) (x : Obj) : (w.alloc x).heap.size = w.heap.size + 1 := by simp
theorem bl_trans {w w1 w' : World} (hb : Below w.heap.size w w1) (h : Below w1.heap.size w1 w') : Below w.heap.size w w' := hb.trans (h.mono hb.size)
theorem bl_one {w w' : World} {x : Obj} (b : Below (w.alloc x).heap.size (w.alloc x) w') : Below w.heap.size w w' := bl_trans ((Below.refl w.heap.size w).alloc (Nat.le_refl _) x) b
theorem bl_q0 {w w' : World} {q : Nat} (h : w' = w.drewN q) : Below w.heap.size w w' := by subst h; exact ⟨rfl, rfl, rfl, Nat.le_refl _, fun _ _ => rfl⟩
theorem digs_64 {n : Nat} (h : n < LB ^ 64) : (digs n).length ≤ 64 := length_digs_le.2 h
theorem cell_new (w : World) (cur : Array Value) (t : TypeId) (j : Nat) : (w.alloc (.cells cur t)).cell? ⟨w.heap.size, j, none⟩ = cur[j]? := cell_of_row _ _ _ _ _ (0, 0) (heap_alloc_new w _)
end Nt

end Go.Proofs.YtgimmmmpollkhaaGreat
