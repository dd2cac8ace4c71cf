/-
  The end of a row is struck out.
-/
import Derived.Laws.CopyRow
import Derived.Test.YtlcgdiciiibeeaaTl
namespace Go.Proofs.Ytlcgdiciiibeeaa
open Go.ChangeShapes Go.RowKit
namespace Nt
set_option maxRecDepth 100000
set_option linter.unusedSimpArgs false
set_option linter.unusedVariables false

theorem Bk.setRow {g : Nat} {cur cs : Array Value} {t : TypeId} {w : World} (h : Bk g cur t w) : Bk g cs t (w.setRow g cs) := by
  unfold Bk at h ⊢
  simp [World.setRow, Array.getElem?_modify, h]
theorem Off.setRow {T : List Nat} {w w' : World} (h : Off T w w') (g : Nat) (cs : Array Value) (hg : g ∈ T ∨ w.heap.size ≤ g) : Off T w (w'.setRow g cs) := by
  refine ⟨h.os, h.tape, h.output, by simp only [World.setRow, Array.size_modify]; exact h.size, fun b hb hn => ?_⟩
  rw [← h.block b hb hn]
  have hne : g ≠ b := by
    rintro rfl
    exact hg.elim hn (fun hle => Nat.not_lt.2 hle hb)
  simp only [World.setRow, Array.getElem?_modify]
  rw [if_neg hne]

/-- 'clear' of the end of a row. -/
theorem run_clear_row {P : Program} (w : World) (t e e' ty : TypeId) (z : Value) (size : Nat) (ht : P.underlying t = some (.slice e)) (hv : ∀ w, (zeroValue e).run P w = .ok z w) (hz : z.cells.size = size) (hs : 0 < size) (h1 : ∀ v ∈ z.cells.toList, v.oneCell' = true)
    (g k n c : Nat) (cur : Array Value) (hB : Bk g cur e' w) (hkn : k ≤ n) (hle : n * size ≤ cur.size) :
    ∃ w' cur', (Builtin.clear_ #[t] ty #[.slice (some ⟨g, k * size, none⟩) (n - k) c]).run P w = .ok (.tuple #[]) w' ∧ Bk g cur' e' w' ∧ cur'.size = cur.size ∧ cur'.toList.take (k * size) = cur.toList.take (k * size) ∧ Off [g] w w' := by
  by_cases h0 : n - k = 0
  · exact ⟨w, cur, by rw [h0]; simp [Builtin.clear_, run_underlying ht], hB, rfl, rfl, .refl _ _⟩
  · obtain ⟨m, hm⟩ : ∃ m, n - k = m + 1 := ⟨n - k - 1, by omega⟩
    have hlen : (Builtin.zeroCells z.cells (m + 1)).toList.length = (m + 1) * size := by
      simp [Builtin.zeroCells, hz]
    have hsz : k * size + (m + 1) * size = n * size := by
      rw [← Nat.add_mul]; congr 1; omega
    have hone : ∀ v ∈ (Builtin.zeroCells z.cells (m + 1)).toList, v.oneCell' = true := by
      intro v hv'
      simp only [Builtin.zeroCells, Array.toList_map, List.mem_map] at hv'
      obtain ⟨i, _, rfl⟩ := hv'
      have hlt : i % z.cells.size < z.cells.size := Nat.mod_lt _ (by omega)
      rw [getElem!_pos z.cells _ hlt]
      exact h1 _ (by simp)
    have hst := run_storeCells_at (P := P) g (k * size) e' (Builtin.zeroCells z.cells (m + 1)).toList 0 cur w hB (by rw [hlen]; omega) hone
    refine ⟨_, _, ?_, Bk.setRow hB (cs := (cur.toList.take (k * size + 0) ++ (Builtin.zeroCells z.cells (m + 1)).toList ++ cur.toList.drop (k * size + 0 + (Builtin.zeroCells z.cells (m + 1)).toList.length)).toArray), ?_, ?_, Off.setRow (.refl _ _) _ _ (.inl (by simp))⟩
    · rw [hm]
      simp [Builtin.clear_, run_underlying ht, hv] at hst ⊢
      simp [hst]
    · simp only [List.size_toArray, List.length_append, List.length_take, List.length_drop, Array.length_toList, hlen]
      omega
    · simp only [Nat.add_zero]
      have : k * size ≤ cur.toList.length := by rw [Array.length_toList]; omega
      rw [List.append_assoc, List.take_append_of_le_length (by rw [List.length_take]; omega), List.take_take]
      simp
end Nt
end Go.Proofs.Ytlcgdiciiibeeaa
