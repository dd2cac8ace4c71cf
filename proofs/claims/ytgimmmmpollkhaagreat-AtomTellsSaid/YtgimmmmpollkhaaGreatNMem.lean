
/-
  Words for memory, of any program: a slice of words that reads as a list of natural numbers; a row of words that may be written; what a call may have turned.
-/
import Derived.WalkKit
import Derived.WalkSpells
import Derived.Deep.Draws
import Derived.Test.YtgimmmmpollkhaaGreatNMath1
namespace Go.Proofs.YtgimmmmpollkhaaGreat

open Go.RowKit

namespace Nt
theorem hide {p : Prop} (h : p) : Hid p := h
def At (w : World) (b o : Nat) (xs : List Nat) : Prop := b < w.heap.size ∧ ∀ j, j < xs.length → w.cell? ⟨b, o + j, none⟩ = some (.int .u64 ((lim xs j : Nat) : Int))
def Free (w : World) (b o n : Nat) : Prop := ∀ j, j < n → w.frozen? ⟨b, o + j, none⟩ = false
def Sl (w : World) (A : Option Addr) (xs : List Nat) : Prop := xs = [] ∨ ∃ b o, A = some ⟨b, o, none⟩ ∧ At w b o xs
structure Wrote (w w' : World) (b o n : Nat) : Prop where
  grown : w.grownBy w' (some b)
  cell : ∀ q, q < o ∨ o + n ≤ q → w'.cell? ⟨b, q, none⟩ = w.cell? ⟨b, q, none⟩
  frozen : ∀ q, w'.frozen? ⟨b, q, none⟩ = w.frozen? ⟨b, q, none⟩

section

variable {w w' w1 : World} {b o n : Nat} {A : Option Addr} {xs ys : List Nat}

theorem At.cell (h : At w b o xs) {j : Nat} (hj : j < xs.length) : w.cell? ⟨b, o + j, none⟩ = some (.int .u64 ((lim xs j : Nat) : Int)) := h.2 j hj
theorem At.lt (h : At w b o xs) : b < w.heap.size := h.1
theorem At.keep (h : At w b o xs) (hs : w.heap.size ≤ w'.heap.size) (hk : w'.heap[b]? = w.heap[b]?) : At w' b o xs :=
  ⟨Nat.lt_of_lt_of_le h.1 hs, fun j hj => (World.cell?_of_block (a := ⟨b, o + j, none⟩) (w := w) hk).trans (h.2 j hj)⟩
theorem At.below {B : Nat} (h : At w b o xs) (hb : Below B w w') (hB : b < B) : At w' b o xs := h.keep hb.size (hb.block b hB)
theorem At.drew (h : At w b o xs) : At w.drew b o xs := h
theorem At.drewN (h : At w b o xs) (k : Nat) : At (w.drewN k) b o xs := h
theorem At.alloc (h : At w b o xs) (x : Obj) : At (w.alloc x) b o xs := h.keep (by simp) (Below.heap_alloc w x b h.1)
theorem At.grown {row : Option Nat} (h : At w b o xs) (hg : w.grownBy w' row) (hr : some b ≠ row) : At w' b o xs := h.keep hg.size (hg.block b h.1 hr)
theorem At.wrote {b' o' n' : Nat} (h : At w b o xs) (hg : Wrote w w' b' o' n') (hr : b ≠ b') : At w' b o xs := h.grown hg.grown (fun e => hr (by injection e))
theorem At.setCell_far (h : At w b o xs) {p : Addr} (hp : b ≠ p.block) (u : Value) : At (w.setCell p u) b o xs :=
  h.keep (by simp [World.setCell]) (Below.heap_setCell w p u b hp)
theorem At.nil (h : b < w.heap.size) : At w b o [] := ⟨h, fun j hj => absurd hj (by simp)⟩

theorem setCell_size (w : World) (p : Addr) (u : Value) : (w.setCell p u).heap.size = w.heap.size := by simp [World.setCell]

theorem At.set (h : At w b o xs) {i : Nat} (hi : i < xs.length) (x : Nat) : At (w.setCell ⟨b, o + i, none⟩ (.int .u64 (x : Int))) b o (xs.set i x) := by
  refine ⟨by rw [setCell_size]; exact h.1, fun j hj => ?_⟩
  rw [List.length_set] at hj
  by_cases e : j = i
  · subst e
    rw [World.cell?_setCell_same _ _ _ (h.2 j hj)]
    rw [lim_set_same hj]
  · rw [World.cell?_setCell_other _ _ _ _ (by intro he; injection he with _ h2; omega), h.2 j hj]
    rw [lim_set_other e]
theorem Free.setCell (h : Free w b o n) (p : Addr) (u : Value) : Free (w.setCell p u) b o n := fun j hj => (World.frozen?_setCell _ _ _ _).trans (h j hj)
theorem Free.keep (h : Free w b o n) (hk : w'.heap[b]? = w.heap[b]?) : Free w' b o n := fun j hj => (World.frozen?_of_block (a := ⟨b, o + j, none⟩) (w := w) hk).trans (h j hj)
theorem Free.drew (h : Free w b o n) : Free w.drew b o n := h
theorem Free.drewN (h : Free w b o n) (k : Nat) : Free (w.drewN k) b o n := h
theorem Free.below {B : Nat} (h : Free w b o n) (hb : Below B w w') (hB : b < B) : Free w' b o n := h.keep (hb.block b hB)
theorem Free.wrote (h : Free w b o n) {o' n' : Nat} (hg : Wrote w w' b o' n') : Free w' b o n := fun j hj => (hg.frozen _).trans (h j hj)
theorem Free.grown {row : Option Nat} (h : Free w b o n) (hb : b < w.heap.size) (hg : w.grownBy w' row) (hr : some b ≠ row) : Free w' b o n := h.keep (hg.block b hb hr)
theorem Free.alloc (h : Free w b o n) (hb : b < w.heap.size) (x : Obj) : Free (w.alloc x) b o n := h.keep (Below.heap_alloc w x b hb)
theorem Free.sub {o' n' : Nat} (h : Free w b o n) (h1 : o ≤ o') (h2 : o' + n' ≤ o + n) : Free w b o' n' := fun j hj => by
  have := h (o' - o + j) (by omega)
  rwa [show o + (o' - o + j) = o' + j by omega] at this

theorem Wrote.refl (w : World) (b o n : Nat) : Wrote w w b o n := ⟨World.grownBy.refl w _, fun _ _ => rfl, fun _ => rfl⟩
theorem Wrote.drew (h : Wrote w w' b o n) : Wrote w w'.drew b o n := ⟨⟨h.grown.os, h.grown.tape, h.grown.output, h.grown.size, h.grown.block⟩, h.cell, h.frozen⟩
theorem Wrote.drewN (h : Wrote w w' b o n) (k : Nat) : Wrote w (w'.drewN k) b o n := ⟨⟨h.grown.os, h.grown.tape, h.grown.output, h.grown.size, h.grown.block⟩, h.cell, h.frozen⟩
theorem Wrote.setCell (h : Wrote w w' b o n) {q : Nat} (hq : o ≤ q ∧ q < o + n) (u : Value) : Wrote w (w'.setCell ⟨b, q, none⟩ u) b o n := by
  refine ⟨⟨h.grown.os, h.grown.tape, h.grown.output, by rw [setCell_size]; exact h.grown.size, fun i hi hne => ?_⟩, fun p hp => ?_, fun p => ?_⟩
  · rw [Below.heap_setCell _ _ _ _ (by intro e; exact hne (by rw [e]))]
    exact h.grown.block i hi hne
  · rw [World.cell?_setCell_other _ _ _ _ (by intro he; injection he with _ h2; omega)]
    exact h.cell p hp
  · rw [World.frozen?_setCell]; exact h.frozen p
theorem Wrote.trans {o1 n1 o2 n2 : Nat} (h : Wrote w w' b o1 n1) (k : Wrote w' w1 b o2 n2) (h1 : o ≤ o1 ∧ o1 + n1 ≤ o + n) (h2 : o ≤ o2 ∧ o2 + n2 ≤ o + n) : Wrote w w1 b o n := by
  refine ⟨⟨k.grown.os.trans h.grown.os, k.grown.tape.trans h.grown.tape, k.grown.output.trans h.grown.output, Nat.le_trans h.grown.size k.grown.size, fun i hi hne => ?_⟩, fun p hp => ?_, fun p => ?_⟩
  · exact (k.grown.block i (Nat.lt_of_lt_of_le hi h.grown.size) hne).trans (h.grown.block i hi hne)
  · exact (k.cell p (by omega)).trans (h.cell p (by omega))
  · exact (k.frozen p).trans (h.frozen p)
theorem Wrote.below (h : Wrote w w' b o n) {B : Nat} (hb : B ≤ b) (hB : B ≤ w.heap.size) : Below B w w' :=
  ⟨h.grown.os, h.grown.tape, h.grown.output, h.grown.size, fun i hi => h.grown.block i (by omega) (by intro e; injection e; omega)⟩
theorem Wrote.size (h : Wrote w w' b o n) : w.heap.size ≤ w'.heap.size := h.grown.size
theorem Wrote.more {o' n' : Nat} (h : Wrote w w' b o n) (h1 : o' ≤ o ∧ o + n ≤ o' + n') : Wrote w w' b o' n' :=
  ⟨h.grown, fun q hq => h.cell q (by omega), h.frozen⟩

theorem Sl.nil : Sl w A [] := .inl rfl
theorem Sl.mk (h : At w b o xs) : Sl w (some ⟨b, o, none⟩) xs := .inr ⟨b, o, rfl, h⟩
theorem Sl.at_ (h : Sl w A xs) (hn : 0 < xs.length) : ∃ b o, A = some ⟨b, o, none⟩ ∧ At w b o xs := by
  rcases h with rfl | h
  · simp at hn
  · exact h
theorem Sl.below (h : Sl w A xs) {B : Nat} (hb : Below B w w') (hB : w.heap.size ≤ B) : Sl w' A xs := by
  rcases h with h | ⟨b, o, e, h⟩
  · exact .inl h
  · exact .inr ⟨b, o, e, h.below hb (by have := h.1; omega)⟩
theorem Sl.drew (h : Sl w A xs) : Sl w.drew A xs := h
theorem Sl.drewN (h : Sl w A xs) (k : Nat) : Sl (w.drewN k) A xs := h
theorem Sl.alloc (h : Sl w A xs) (x : Obj) : Sl (w.alloc x) A xs := by
  rcases h with h | ⟨b, o, e, h⟩
  · exact .inl h
  · exact .inr ⟨b, o, e, h.alloc x⟩
end

def Res (w : World) (v : Value) (xs : List Nat) : Prop := ∃ A c, v = .slice A xs.length c ∧ xs.length ≤ c ∧ c ≤ maxLen ∧ Sl w A xs
theorem Res.below {w w' : World} {v : Value} {xs : List Nat} (h : Res w v xs) {B : Nat} (hb : Below B w w') (hB : w.heap.size ≤ B) : Res w' v xs := by
  obtain ⟨A, c, e, h1, h2, h3⟩ := h
  exact ⟨A, c, e, h1, h2, h3.below hb hB⟩

def lv (x : Nat) : Value := .int .u64 (x : Int)
def Own (w : World) (base g cap : Nat) (xs : List Nat) : Prop := w.ownsRow base 119 1 (.slice (some ⟨g, 0, none⟩) xs.length cap) xs.length (xs.map lv)

section

variable {w w' w1 : World} {base g cap : Nat} {xs ys : List Nat}
theorem lv_one (xs : List Nat) : ∀ u ∈ xs.map lv, u.oneCell' = true := by
  intro u hu
  obtain ⟨x, _, rfl⟩ := List.mem_map.1 hu
  rfl
theorem Own.form (h : Own w base g cap xs) : ∃ cur, base ≤ g ∧ w.heap[g]? = some (.cells cur 119 (0, 0)) ∧ xs.length ≤ cap ∧ cap ≤ maxLen ∧ cur.size = cap ∧ cur.toList.take xs.length = xs.map lv := by
  rcases h.2 with ⟨h, _⟩ | ⟨g', cap', cur, e, h1, h2, h3, h4, h5, h6⟩
  · cases h
  · injection e with e1 _ e3
    injection e1 with e1
    injection e1 with e1
    subst e1; subst e3
    exact ⟨cur, h1, h2, h3, h4, by omega, by simpa using h6⟩
theorem Own.mk {cur : Array Value} (h1 : base ≤ g) (h2 : w.heap[g]? = some (.cells cur 119 (0, 0))) (h3 : xs.length ≤ cap) (h4 : cap ≤ maxLen) (h5 : cur.size = cap) (h6 : cur.toList.take xs.length = xs.map lv) : Own w base g cap xs :=
  ⟨by simp, .inr ⟨g, cap, cur, rfl, h1, h2, h3, h4, by omega, by simpa using h6⟩⟩
theorem Own.lt (h : Own w base g cap xs) : g < w.heap.size := by
  obtain ⟨cur, _, h2, _⟩ := h.form
  exact (Array.getElem?_eq_some_iff.1 h2).1
theorem Own.base_le (h : Own w base g cap xs) : base ≤ g := by
  obtain ⟨cur, h1, _⟩ := h.form
  exact h1
theorem Own.le (h : Own w base g cap xs) : xs.length ≤ cap := by
  obtain ⟨cur, _, _, h3, _⟩ := h.form
  exact h3
theorem Own.cell (h : Own w base g cap xs) {j : Nat} (hj : j < xs.length) : w.cell? ⟨g, j, none⟩ = some (.int .u64 ((lim xs j : Nat) : Int)) := by
  obtain ⟨cur, _, h2, h3, _, h5, h6⟩ := h.form
  rw [cell_of_row w g j cur _ (0, 0) h2]
  have : (cur.toList.take xs.length)[j]? = (xs.map lv)[j]? := by rw [h6]
  rw [List.getElem?_take, if_pos hj, List.getElem?_map, List.getElem?_eq_getElem hj] at this
  simp only [Array.getElem?_toList] at this
  rw [this, lim_some hj]
  rfl
theorem Own.frozen (h : Own w base g cap xs) (j : Nat) : w.frozen? ⟨g, j, none⟩ = false := by
  obtain ⟨cur, _, h2, _⟩ := h.form
  simp [World.frozen?, h2]
theorem Own.at_ (h : Own w base g cap xs) : At w g 0 xs := ⟨h.lt, fun j hj => by rw [Nat.zero_add]; exact h.cell hj⟩
theorem Own.free (h : Own w base g cap xs) (n : Nat) : Free w g 0 n := fun _ _ => h.frozen _
theorem Own.sl (h : Own w base g cap xs) : Sl w (some ⟨g, 0, none⟩) xs := .mk h.at_
theorem Own.keep (h : Own w base g cap xs) (hk : w'.heap[g]? = w.heap[g]?) : Own w' base g cap xs := by
  obtain ⟨cur, h1, h2, h3, h4, h5, h6⟩ := h.form
  exact .mk h1 (hk.trans h2) h3 h4 h5 h6
theorem Own.drew (h : Own w base g cap xs) : Own w.drew base g cap xs := h
theorem Own.drewN (h : Own w base g cap xs) (k : Nat) : Own (w.drewN k) base g cap xs := h
theorem Own.alloc (h : Own w base g cap xs) (x : Obj) : Own (w.alloc x) base g cap xs := h.keep (Below.heap_alloc w x g h.lt)
theorem Own.below {B : Nat} (h : Own w base g cap xs) (hb : Below B w w') (hB : g < B) : Own w' base g cap xs := h.keep (hb.block g hB)
theorem Own.wrote_far {b' o' n' : Nat} (h : Own w base g cap xs) (hg : Wrote w w' b' o' n') (hr : g ≠ b') : Own w' base g cap xs := h.keep (hg.grown.block g h.lt (fun e => hr (by injection e)))
theorem Own.rebase {base' : Nat} (h : Own w base g cap xs) (hb : base' ≤ g) : Own w base' g cap xs := by
  obtain ⟨cur, h1, h2, h3, h4, h5, h6⟩ := h.form
  exact .mk hb h2 h3 h4 h5 h6
theorem Own.set (h : Own w base g cap xs) (j x : Nat) : Own (w.setCell ⟨g, j, none⟩ (.int .u64 (x : Int))) base g cap (xs.set j x) := by
  obtain ⟨cur, h1, h2, h3, h4, h5, h6⟩ := h.form
  refine .mk (cur := cur.setIfInBounds j (lv x)) h1 ?_ (by simpa using h3) h4 (by simpa using h5) ?_
  · simp [World.setCell, Array.getElem?_modify, h2, lv]
  · rw [List.length_set, Array.toList_setIfInBounds, List.take_set, h6, List.map_set]
theorem Own.take (h : Own w base g cap xs) (k : Nat) : Own w base g cap (xs.take k) := by
  obtain ⟨cur, h1, h2, h3, h4, h5, h6⟩ := h.form
  refine .mk (cur := cur) h1 h2 (Nat.le_trans (by rw [List.length_take]; omega) h3) h4 h5 ?_
  rw [List.map_take, ← h6, List.take_take, List.length_take]
theorem Own.made {base cap n : Nat} (w : World) (hb : base ≤ w.heap.size) (hn : n ≤ cap) (hm : cap ≤ maxLen) : Own (w.alloc (.cells (madeCells #[.int .u64 0] cap) 119)) base w.heap.size cap (List.replicate n 0) := by
  refine .mk (cur := madeCells #[.int .u64 0] cap) hb (heap_alloc_new w _) (by simpa using hn) hm (size_madeCells _ _) ?_
  rw [toList_madeCells_one, List.length_replicate, List.take_replicate, Nat.min_eq_left hn, List.map_replicate]
  rfl
end

end Nt

end Go.Proofs.YtgimmmmpollkhaaGreat
