
/-
  nat.Text.
-/
import Derived.Test.YtgimmmmpollkhaaGreatText

namespace Go.Proofs.YtgimmmmpollkhaaGreat

open Go.RowKit

namespace Nt

theorem Pow10.some {w : World} (h : Pow10 w) : ∃ g, Tryz.prog.globalNamed "internal/strconv.uint64pow10" = some g ∧ g < w.heap.size := by
  unfold Pow10 Lib.TabIs World.var? at h
  cases hg : Tryz.prog.globalNamed "internal/strconv.uint64pow10" with
  | none => simp [hg] at h
  | some g =>
    simp only [hg, Option.bind_some] at h
    refine ⟨g, rfl, ?_⟩
    rcases Nat.lt_or_ge g w.heap.size with h' | h'
    · exact h'
    · rw [Array.getElem?_eq_none h'] at h; simp at h
theorem Pow10.below {w w' : World} {B : Nat} (h : Pow10 w) (hb : Below B w w') (hB : w.heap.size ≤ B) : Pow10 w' := by
  obtain ⟨g, hg, hlt⟩ := h.some
  unfold Pow10 Lib.TabIs World.var? at *
  simp only [hg, Option.bind_some] at h ⊢
  rw [hb.block g (by omega)]
  exact h

/-- A text by its bytes. -/
def Txt (l : List UInt8) (D : ByteArray) : Prop := D.data.toList = l
theorem Txt.size {l : List UInt8} {D : ByteArray} (h : Txt l D) : D.size = l.length := by rw [Lib.size_eq, h]
theorem Txt.mk (l : List UInt8) : Txt l ⟨l.toArray⟩ := by simp [Txt]
theorem Txt.eq {l : List UInt8} {D : ByteArray} (h : Txt l D) : D = ⟨l.toArray⟩ := by
  cases D with
  | mk d => unfold Txt at h; simp at h; rw [← h]
/-- The text of the groups from k on. -/
def gtext (gs : List Nat) (k : Nat) : List UInt8 := if k < gs.length then Lib.decDigits (gval (gs.drop k)) else []
theorem gtext_len {gs : List Nat} (h : ∀ x ∈ gs, x < GB) : ∀ k, (gtext gs k).length ≤ 19 * gs.length := by
  have hv : ∀ l : List Nat, (∀ x ∈ l, x < GB) → gval l < GB ^ l.length := by
    intro l
    induction l with
    | nil => intro _; simp [gval]
    | cons x l ih =>
      intro hl
      have h1 := ih (fun y hy => hl y (by simp [hy]))
      have h2 := hl x (by simp)
      rw [gval, List.length_cons, Nat.pow_succ]
      have : GB * (gval l + 1) ≤ GB * GB ^ l.length := Nat.mul_le_mul_left _ h1
      rw [Nat.mul_add, Nat.mul_one] at this
      rw [Nat.mul_comm (GB ^ l.length)]
      omega
  intro k
  unfold gtext
  split
  · rename_i hk
    have h1 := hv (gs.drop k) (fun x hx => h x (List.mem_of_mem_drop hx))
    rw [GB_pow, ← Nat.pow_mul] at h1
    obtain ⟨j, hj⟩ : ∃ j, j + 1 = 19 * (gs.drop k).length := ⟨19 * (gs.drop k).length - 1, by rw [List.length_drop]; omega⟩
    rw [← hj] at h1
    have := dec_len_le h1
    rw [List.length_drop] at hj
    omega
  · simp
theorem gtext_last {gs : List Nat} {k : Nat} (h : k + 1 = gs.length) : gtext gs (k + 1) = [] ∧ gtext gs k = Lib.decDigits (lim gs k) := by
  unfold gtext
  rw [if_neg (by omega), if_pos (by omega), gval_drop (by omega), List.drop_of_length_le (by omega)]
  exact ⟨rfl, by simp [gval]⟩
theorem gtext_step {N k : Nat} (h : k + 1 < (grps N).length) : gtext (grps N) k = gtext (grps N) (k + 1) ++ (List.replicate (19 - (Lib.decDigits (lim (grps N) k)).length) 48 ++ Lib.decDigits (lim (grps N) k)) := by
  unfold gtext
  rw [if_pos (by omega), if_pos h, gval_drop (by omega)]
  exact dec_group (grps_drop_pos N _ h (by omega)) (grps_lt N _ (lim_mem (by omega)))

/-- A group's text, with all its digits. -/
def grpD (x : Nat) : List UInt8 := List.replicate (19 - (Lib.decDigits x).length) 48 ++ Lib.decDigits x
end Nt

end Go.Proofs.YtgimmmmpollkhaaGreat
