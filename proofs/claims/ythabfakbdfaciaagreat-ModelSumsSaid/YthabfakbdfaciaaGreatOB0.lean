import Derived.WalkKit
import Derived.WalkSpells
import Derived.Deep.Draws
import Derived.Test.YthabfakbdfaciaaGreatProg
import Derived.Laws.Externs
import Derived.Test.YthabfakbdfaciaaGreatShelf
import Derived.Deep.AppendLies
import Derived.Deep.QuietTactic
import Derived.BigQuiet
import Derived.Shelf.Small.Bits
import Derived.Shelf.Strconv.Itoa0
namespace Go.Proofs.YthabfakbdfaciaaGreat
namespace Nt
set_option maxRecDepth 100000
set_option maxHeartbeats 16000000
section
def LB : Nat := 18446744073709551616
theorem LB_eq : LB = 18446744073709551616 := rfl
theorem LB_pos : 0 < LB := by rw [LB_eq]; omega
theorem LB_two : 2 ≤ LB := by rw [LB_eq]; omega
def val : List Nat → Nat
  | [] => 0
  | x :: xs => x + LB * val xs
def lim (xs : List Nat) (i : Nat) : Nat := xs.getD i 0
theorem lim_none {xs : List Nat} {i : Nat} (h : xs.length ≤ i) : lim xs i = 0 := by unfold lim; rw [List.getD_eq_getElem?_getD, List.getElem?_eq_none h]; rfl
theorem lim_some {xs : List Nat} {i : Nat} (h : i < xs.length) : lim xs i = xs[i] := by unfold lim; rw [List.getD_eq_getElem?_getD, List.getElem?_eq_getElem h]; rfl
theorem lim_set_same {xs : List Nat} {i x : Nat} (h : i < xs.length) : lim (xs.set i x) i = x := by unfold lim; simp [List.getD_eq_getElem?_getD, h]
theorem lim_set_other {xs : List Nat} {i j x : Nat} (h : j ≠ i) : lim (xs.set i x) j = lim xs j := by unfold lim; simp [List.getD_eq_getElem?_getD, Ne.symm h]
theorem lim_take {xs : List Nat} {i k : Nat} (h : i < k) : lim (xs.take k) i = lim xs i := by unfold lim; rw [List.getD_eq_getElem?_getD, List.getD_eq_getElem?_getD, List.getElem?_take, if_pos h]
theorem lim_drop {xs : List Nat} {i k : Nat} : lim (xs.drop k) i = lim xs (k + i) := by unfold lim; rw [List.getD_eq_getElem?_getD, List.getD_eq_getElem?_getD, List.getElem?_drop]
theorem lim_append_left {xs ys : List Nat} {i : Nat} (h : i < xs.length) : lim (xs ++ ys) i = lim xs i := by unfold lim; rw [List.getD_eq_getElem?_getD, List.getD_eq_getElem?_getD, List.getElem?_append_left h]
theorem lim_append_right {xs ys : List Nat} {i : Nat} : lim (xs ++ ys) (xs.length + i) = lim ys i := by unfold lim; rw [List.getD_eq_getElem?_getD, List.getD_eq_getElem?_getD, List.getElem?_append_right (by omega), Nat.add_sub_cancel_left]
theorem lim_mem {xs : List Nat} {i : Nat} (h : i < xs.length) : lim xs i ∈ xs := by rw [lim_some h]; exact List.getElem_mem h
def Limbs (xs : List Nat) : Prop := ∀ x ∈ xs, x < LB
@[simp] theorem val_nil : val [] = 0 := rfl
theorem val_cons (x : Nat) (xs : List Nat) : val (x :: xs) = x + LB * val xs := rfl
theorem val_one (x : Nat) : val [x] = x := by simp [val]
theorem Limbs.nil : Limbs [] := by intro x h; cases h
theorem Limbs.cons {x : Nat} {xs : List Nat} (hx : x < LB) (h : Limbs xs) : Limbs (x :: xs) := by
  intro y hy
  rcases List.mem_cons.1 hy with rfl | hy
  · exact hx
  · exact h y hy
theorem Limbs.head {x : Nat} {xs : List Nat} (h : Limbs (x :: xs)) : x < LB := h x (by simp)
theorem Limbs.tail {x : Nat} {xs : List Nat} (h : Limbs (x :: xs)) : Limbs xs := fun y hy => h y (by simp [hy])
theorem Limbs.append {xs ys : List Nat} (h : Limbs xs) (k : Limbs ys) : Limbs (xs ++ ys) := by
  intro y hy
  rcases List.mem_append.1 hy with hy | hy
  · exact h y hy
  · exact k y hy
theorem Limbs.left {xs ys : List Nat} (h : Limbs (xs ++ ys)) : Limbs xs := fun y hy => h y (by simp [hy])
theorem Limbs.right {xs ys : List Nat} (h : Limbs (xs ++ ys)) : Limbs ys := fun y hy => h y (by simp [hy])
theorem Limbs.take {xs : List Nat} (h : Limbs xs) (k : Nat) : Limbs (xs.take k) := fun y hy => h y (List.mem_of_mem_take hy)
theorem Limbs.drop {xs : List Nat} (h : Limbs xs) (k : Nat) : Limbs (xs.drop k) := fun y hy => h y (List.mem_of_mem_drop hy)
theorem Limbs.get {xs : List Nat} (h : Limbs xs) (k : Nat) : lim xs k < LB := by
  rcases Nat.lt_or_ge k xs.length with hk | hk
  · exact h _ (lim_mem hk)
  · rw [lim_none hk]; exact LB_pos
theorem Limbs.one {x : Nat} (hx : x < LB) : Limbs [x] := .cons hx .nil
theorem Limbs.replicate (n : Nat) : Limbs (List.replicate n 0) := by
  intro y hy
  rw [List.eq_of_mem_replicate hy]; exact LB_pos
theorem Limbs.set {xs : List Nat} (h : Limbs xs) (k x : Nat) (hx : x < LB) : Limbs (xs.set k x) := by
  intro y hy
  rcases List.mem_or_eq_of_mem_set hy with hy | rfl
  · exact h y hy
  · exact hx
theorem val_append (xs ys : List Nat) : val (xs ++ ys) = val xs + LB ^ xs.length * val ys := by
  induction xs with
  | nil => simp [val]
  | cons x xs ih =>
    rw [List.cons_append, val_cons, val_cons, ih, List.length_cons, Nat.pow_succ, Nat.mul_add, Nat.add_assoc]
    congr 2
    rw [← Nat.mul_assoc, Nat.mul_comm LB]
theorem val_lt {xs : List Nat} (h : Limbs xs) : val xs < LB ^ xs.length := by
  induction xs with
  | nil => simp [val]
  | cons x xs ih =>
    have h1 := ih h.tail
    have hx := h.head
    rw [val_cons, List.length_cons, Nat.pow_succ]
    have : LB * (val xs + 1) ≤ LB * LB ^ xs.length := Nat.mul_le_mul_left _ h1
    rw [Nat.mul_add, Nat.mul_one] at this
    rw [Nat.mul_comm (LB ^ xs.length)]
    omega
theorem val_replicate (n : Nat) : val (List.replicate n 0) = 0 := by
  induction n with
  | zero => rfl
  | succ n ih => rw [List.replicate_succ, val_cons, ih]; simp
theorem LB_pow_pos (n : Nat) : 0 < LB ^ n := Nat.pow_pos LB_pos
theorem take_succ_lim {xs : List Nat} {k : Nat} (h : k < xs.length) : xs.take (k + 1) = xs.take k ++ [lim xs k] := by
  rw [List.take_succ_eq_append_getElem h, lim_some h]
theorem val_take_succ (xs : List Nat) (k : Nat) : val (xs.take (k + 1)) = val (xs.take k) + LB ^ k * lim xs k := by
  by_cases h : k < xs.length
  · rw [take_succ_lim h, val_append, val_one, List.length_take, Nat.min_eq_left (by omega)]
  · rw [List.take_of_length_le (by omega), List.take_of_length_le (by omega), lim_none (by omega)]
    simp
def digs (n : Nat) : List Nat := if _h : n = 0 then [] else n % LB :: digs (n / LB)
termination_by n
decreasing_by exact Nat.div_lt_self (by omega) LB_two
theorem digs_zero : digs 0 = [] := by rw [digs]; simp
theorem digs_pos {n : Nat} (h : n ≠ 0) : digs n = n % LB :: digs (n / LB) := by rw [digs]; simp [h]
theorem val_digs (n : Nat) : val (digs n) = n := by
  induction n using Nat.strongRecOn with
  | _ n ih =>
    by_cases h : n = 0
    · subst h; rw [digs_zero]; rfl
    · rw [digs_pos h, val_cons, ih _ (Nat.div_lt_self (by omega) LB_two)]
      exact Nat.mod_add_div n LB
theorem limbs_digs (n : Nat) : Limbs (digs n) := by
  induction n using Nat.strongRecOn with
  | _ n ih =>
    by_cases h : n = 0
    · subst h; rw [digs_zero]; exact .nil
    · rw [digs_pos h]; exact .cons (Nat.mod_lt _ LB_pos) (ih _ (Nat.div_lt_self (by omega) LB_two))
theorem digs_eq_nil {n : Nat} : digs n = [] ↔ n = 0 := by
  constructor
  · intro h
    have := val_digs n
    rw [h] at this
    exact this.symm
  · rintro rfl; exact digs_zero
theorem digs_add_mul {x n : Nat} (hx : x < LB) (h : x ≠ 0 ∨ n ≠ 0) : digs (x + LB * n) = x :: digs n := by
  have hL := LB_pos
  have hne : x + LB * n ≠ 0 := by
    rcases h with h | h
    · omega
    · have : LB * 1 ≤ LB * n := Nat.mul_le_mul_left _ (by omega)
      omega
  rw [digs_pos hne, Nat.add_mul_mod_self_left, Nat.mod_eq_of_lt hx, Nat.add_mul_div_left _ _ LB_pos, Nat.div_eq_of_lt hx, Nat.zero_add]
def trimz : List Nat → List Nat
  | [] => []
  | x :: xs => if x = 0 ∧ trimz xs = [] then [] else x :: trimz xs
theorem digs_val {xs : List Nat} (h : Limbs xs) : digs (val xs) = trimz xs := by
  induction xs with
  | nil => exact digs_zero
  | cons x xs ih =>
    have hi := ih h.tail
    rw [val_cons, trimz]
    by_cases hc : x = 0 ∧ trimz xs = []
    · rw [if_pos hc]
      obtain ⟨rfl, h2⟩ := hc
      rw [h2, digs_eq_nil] at hi
      rw [hi]; exact digs_zero
    · rw [if_neg hc, ← hi]
      refine digs_add_mul h.head ?_
      by_cases hx : x = 0
      · right
        intro hv
        exact hc ⟨hx, by rw [← hi, hv]; exact digs_zero⟩
      · exact .inl hx
theorem val_trimz {xs : List Nat} (h : Limbs xs) : val (trimz xs) = val xs := by rw [← digs_val h, val_digs]
theorem trimz_append_zero (xs : List Nat) : trimz (xs ++ [0]) = trimz xs := by
  induction xs with
  | nil => simp [trimz]
  | cons x xs ih => rw [List.cons_append, trimz, trimz, ih]
theorem trimz_append_pos (xs : List Nat) {x : Nat} (hx : x ≠ 0) : trimz (xs ++ [x]) = xs ++ [x] := by
  induction xs with
  | nil => simp [trimz, hx]
  | cons y xs ih =>
    rw [List.cons_append, trimz, ih, if_neg]
    intro h
    simp at h
def Norm (xs : List Nat) : Prop := xs = [] ∨ lim xs (xs.length - 1) ≠ 0
instance (xs : List Nat) : Decidable (Norm xs) := by unfold Norm; exact inferInstance
theorem norm_snoc (xs : List Nat) (x : Nat) : Norm (xs ++ [x]) ↔ x ≠ 0 := by
  unfold Norm lim
  simp
theorem exists_snoc {xs : List Nat} (h : xs ≠ []) : ∃ ys y, xs = ys ++ [y] := ⟨xs.dropLast, xs.getLast h, (List.dropLast_concat_getLast h).symm⟩
theorem norm_iff_trimz {xs : List Nat} : Norm xs ↔ trimz xs = xs := by
  by_cases h : xs = []
  · subst h; simp [Norm, trimz]
  · obtain ⟨ys, y, rfl⟩ := exists_snoc h
    rw [norm_snoc]
    constructor
    · intro hy; exact trimz_append_pos ys hy
    · intro ht hy
      subst hy
      rw [trimz_append_zero] at ht
      have hle : (trimz ys).length ≤ ys.length := by
        clear ht h
        induction ys with
        | nil => simp [trimz]
        | cons z ys ih =>
          rw [trimz]
          split
          · simp
          · simp; exact ih
      have : (trimz ys).length = ys.length + 1 := by rw [ht]; simp
      omega
theorem digs_val_norm {xs : List Nat} (h : Limbs xs) (hn : Norm xs) : digs (val xs) = xs := by rw [digs_val h]; exact norm_iff_trimz.1 hn
theorem norm_digs (n : Nat) : Norm (digs n) := by
  have := digs_val (limbs_digs n)
  rw [val_digs] at this
  exact norm_iff_trimz.2 this.symm
theorem le_val {xs : List Nat} (hn : Norm xs) (hp : xs ≠ []) : LB ^ (xs.length - 1) ≤ val xs := by
  obtain ⟨ys, y, rfl⟩ := exists_snoc hp
  rw [norm_snoc] at hn
  rw [val_append, val_one]
  have : LB ^ ys.length * 1 ≤ LB ^ ys.length * y := Nat.mul_le_mul_left _ (by omega)
  simp only [List.length_append, List.length_cons, List.length_nil, Nat.zero_add, Nat.add_sub_cancel, Nat.mul_one] at *
  omega
theorem norm_of_le {xs : List Nat} (h : Limbs xs) (hv : xs = [] ∨ LB ^ (xs.length - 1) ≤ val xs) : Norm xs := by
  by_cases hp : xs = []
  · exact .inl hp
  · rcases hv with hv | hv
    · exact absurd hv hp
    · obtain ⟨ys, y, rfl⟩ := exists_snoc hp
      rw [norm_snoc]
      rintro rfl
      rw [val_append, val_one] at hv
      have := val_lt h.left
      simp only [List.length_append, List.length_cons, List.length_nil, Nat.zero_add, Nat.add_sub_cancel, Nat.mul_zero, Nat.add_zero] at hv
      omega
theorem length_digs_le {n k : Nat} : (digs n).length ≤ k ↔ n < LB ^ k := by
  constructor
  · intro h
    have h1 := val_lt (limbs_digs n)
    rw [val_digs] at h1
    exact Nat.lt_of_lt_of_le h1 (Nat.pow_le_pow_right LB_pos h)
  · intro h
    rcases Nat.lt_or_ge k (digs n).length with hlt | hge
    · have hne : digs n ≠ [] := by intro he; rw [he] at hlt; simp at hlt
      have h2 := le_val (norm_digs n) hne
      rw [val_digs] at h2
      have : LB ^ k ≤ LB ^ ((digs n).length - 1) := Nat.pow_le_pow_right LB_pos (by omega)
      omega
    · exact hge
theorem length_lt_of_val {xs ys : List Nat} (hx : Limbs xs) (hy : Norm ys) (h : xs.length < ys.length) : val xs < val ys := by
  have h1 := val_lt hx
  have hne : ys ≠ [] := by rintro rfl; simp at h
  have h2 := le_val hy hne
  have : LB ^ xs.length ≤ LB ^ (ys.length - 1) := Nat.pow_le_pow_right LB_pos (by omega)
  omega
end
section
open Go.RowKit
theorem hide {p : Prop} (h : p) : Hid p := h
def At (w : World) (b o : Nat) (xs : List Nat) : Prop := b < w.heap.size ∧ ∀ j, j < xs.length → w.cell? ⟨b, o + j, none⟩ = some (.int .u64 ((lim xs j : Nat) : Int))
def Free (w : World) (b o n : Nat) : Prop := ∀ j, j < n → w.frozen? ⟨b, o + j, none⟩ = false
def Sl (w : World) (A : Option Addr) (xs : List Nat) : Prop := xs = [] ∨ ∃ b o, A = some ⟨b, o, none⟩ ∧ At w b o xs
structure Wrote (w w' : World) (b o n : Nat) : Prop where
  grown : w.grownBy w' (some b)
  cell : ∀ q, q < o ∨ o + n ≤ q → w'.cell? ⟨b, q, none⟩ = w.cell? ⟨b, q, none⟩
  frozen : ∀ q, w'.frozen? ⟨b, q, none⟩ = w.frozen? ⟨b, q, none⟩
section
variable {w w' w1 : World} {b o n : Nat} {A : Option Addr} {xs ys : List Nat}
theorem At.cell (h : At w b o xs) {j : Nat} (hj : j < xs.length) : w.cell? ⟨b, o + j, none⟩ = some (.int .u64 ((lim xs j : Nat) : Int)) := h.2 j hj
theorem At.lt (h : At w b o xs) : b < w.heap.size := h.1
theorem At.keep (h : At w b o xs) (hs : w.heap.size ≤ w'.heap.size) (hk : w'.heap[b]? = w.heap[b]?) : At w' b o xs :=
  ⟨Nat.lt_of_lt_of_le h.1 hs, fun j hj => (World.cell?_of_block (a := ⟨b, o + j, none⟩) (w := w) hk).trans (h.2 j hj)⟩
theorem At.below {B : Nat} (h : At w b o xs) (hb : Below B w w') (hB : b < B) : At w' b o xs := h.keep hb.size (hb.block b hB)
theorem At.drewN (h : At w b o xs) (k : Nat) : At (w.drewN k) b o xs := h
theorem At.alloc (h : At w b o xs) (x : Obj) : At (w.alloc x) b o xs := h.keep (by simp) (Below.heap_alloc w x b h.1)
theorem At.grown {row : Option Nat} (h : At w b o xs) (hg : w.grownBy w' row) (hr : some b ≠ row) : At w' b o xs := h.keep hg.size (hg.block b h.1 hr)
theorem At.wrote {b' o' n' : Nat} (h : At w b o xs) (hg : Wrote w w' b' o' n') (hr : b ≠ b') : At w' b o xs := h.grown hg.grown (fun e => hr (by injection e))
theorem At.setCell_far (h : At w b o xs) {p : Addr} (hp : b ≠ p.block) (u : Value) : At (w.setCell p u) b o xs :=
  h.keep (by simp [World.setCell]) (Below.heap_setCell w p u b hp)
theorem setCell_size (w : World) (p : Addr) (u : Value) : (w.setCell p u).heap.size = w.heap.size := by simp [World.setCell]
theorem At.set (h : At w b o xs) {i : Nat} (hi : i < xs.length) (x : Nat) : At (w.setCell ⟨b, o + i, none⟩ (.int .u64 (x : Int))) b o (xs.set i x) := by
  refine ⟨by rw [setCell_size]; exact h.1, fun j hj => ?_⟩
  rw [List.length_set] at hj
  by_cases e : j = i
  · subst e
    rw [World.cell?_setCell_same _ _ _ (h.2 j hj)]
    rw [lim_set_same hj]
  · rw [World.cell?_setCell_other _ _ _ _ (by intro he; injection he with _ h2; omega), h.2 j hj]
    rw [lim_set_other e]
theorem Free.setCell (h : Free w b o n) (p : Addr) (u : Value) : Free (w.setCell p u) b o n := fun j hj => (World.frozen?_setCell _ _ _ _).trans (h j hj)
theorem Free.drewN (h : Free w b o n) (k : Nat) : Free (w.drewN k) b o n := h
theorem Free.wrote (h : Free w b o n) {o' n' : Nat} (hg : Wrote w w' b o' n') : Free w' b o n := fun j hj => (hg.frozen _).trans (h j hj)
theorem Free.sub {o' n' : Nat} (h : Free w b o n) (h1 : o ≤ o') (h2 : o' + n' ≤ o + n) : Free w b o' n' := fun j hj => by
  have := h (o' - o + j) (by omega)
  rwa [show o + (o' - o + j) = o' + j by omega] at this
theorem Wrote.refl (w : World) (b o n : Nat) : Wrote w w b o n := ⟨World.grownBy.refl w _, fun _ _ => rfl, fun _ => rfl⟩
theorem Wrote.drewN (h : Wrote w w' b o n) (k : Nat) : Wrote w (w'.drewN k) b o n := ⟨⟨h.grown.os, h.grown.tape, h.grown.output, h.grown.size, h.grown.block⟩, h.cell, h.frozen⟩
theorem Wrote.setCell (h : Wrote w w' b o n) {q : Nat} (hq : o ≤ q ∧ q < o + n) (u : Value) : Wrote w (w'.setCell ⟨b, q, none⟩ u) b o n := by
  refine ⟨⟨h.grown.os, h.grown.tape, h.grown.output, by rw [setCell_size]; exact h.grown.size, fun i hi hne => ?_⟩, fun p hp => ?_, fun p => ?_⟩
  · rw [Below.heap_setCell _ _ _ _ (by intro e; exact hne (by rw [e]))]
    exact h.grown.block i hi hne
  · rw [World.cell?_setCell_other _ _ _ _ (by intro he; injection he with _ h2; omega)]
    exact h.cell p hp
  · rw [World.frozen?_setCell]; exact h.frozen p
theorem Wrote.trans {o1 n1 o2 n2 : Nat} (h : Wrote w w' b o1 n1) (k : Wrote w' w1 b o2 n2) (h1 : o ≤ o1 ∧ o1 + n1 ≤ o + n) (h2 : o ≤ o2 ∧ o2 + n2 ≤ o + n) : Wrote w w1 b o n := by
  refine ⟨⟨k.grown.os.trans h.grown.os, k.grown.tape.trans h.grown.tape, k.grown.output.trans h.grown.output, Nat.le_trans h.grown.size k.grown.size, fun i hi hne => ?_⟩, fun p hp => ?_, fun p => ?_⟩
  · exact (k.grown.block i (Nat.lt_of_lt_of_le hi h.grown.size) hne).trans (h.grown.block i hi hne)
  · exact (k.cell p (by omega)).trans (h.cell p (by omega))
  · exact (k.frozen p).trans (h.frozen p)
theorem Wrote.below (h : Wrote w w' b o n) {B : Nat} (hb : B ≤ b) (hB : B ≤ w.heap.size) : Below B w w' :=
  ⟨h.grown.os, h.grown.tape, h.grown.output, h.grown.size, fun i hi => h.grown.block i (by omega) (by intro e; injection e; omega)⟩
theorem Sl.nil : Sl w A [] := .inl rfl
theorem Sl.mk (h : At w b o xs) : Sl w (some ⟨b, o, none⟩) xs := .inr ⟨b, o, rfl, h⟩
theorem Sl.at_ (h : Sl w A xs) (hn : 0 < xs.length) : ∃ b o, A = some ⟨b, o, none⟩ ∧ At w b o xs := by
  rcases h with rfl | h
  · simp at hn
  · exact h
theorem Sl.below (h : Sl w A xs) {B : Nat} (hb : Below B w w') (hB : w.heap.size ≤ B) : Sl w' A xs := by
  rcases h with h | ⟨b, o, e, h⟩
  · exact .inl h
  · exact .inr ⟨b, o, e, h.below hb (by have := h.1; omega)⟩
theorem Sl.drew (h : Sl w A xs) : Sl w.drew A xs := h
theorem Sl.drewN (h : Sl w A xs) (k : Nat) : Sl (w.drewN k) A xs := h
theorem Sl.alloc (h : Sl w A xs) (x : Obj) : Sl (w.alloc x) A xs := by
  rcases h with h | ⟨b, o, e, h⟩
  · exact .inl h
  · exact .inr ⟨b, o, e, h.alloc x⟩
end
def lv (x : Nat) : Value := .int .u64 (x : Int)
def Own (w : World) (base g cap : Nat) (xs : List Nat) : Prop := w.ownsRow base 128 1 (.slice (some ⟨g, 0, none⟩) xs.length cap) xs.length (xs.map lv)
section
variable {w w' w1 : World} {base g cap : Nat} {xs ys : List Nat}
theorem lv_one (xs : List Nat) : ∀ u ∈ xs.map lv, u.oneCell' = true := by
  intro u hu
  obtain ⟨x, _, rfl⟩ := List.mem_map.1 hu
  rfl
theorem Own.form (h : Own w base g cap xs) : ∃ cur, base ≤ g ∧ w.heap[g]? = some (.cells cur 128 (0, 0)) ∧ xs.length ≤ cap ∧ cap ≤ maxLen ∧ cur.size = cap ∧ cur.toList.take xs.length = xs.map lv := by
  rcases h.2 with ⟨h, _⟩ | ⟨g', cap', cur, e, h1, h2, h3, h4, h5, h6⟩
  · cases h
  · injection e with e1 _ e3
    injection e1 with e1
    injection e1 with e1
    subst e1; subst e3
    exact ⟨cur, h1, h2, h3, h4, by omega, by simpa using h6⟩
theorem Own.mk {cur : Array Value} (h1 : base ≤ g) (h2 : w.heap[g]? = some (.cells cur 128 (0, 0))) (h3 : xs.length ≤ cap) (h4 : cap ≤ maxLen) (h5 : cur.size = cap) (h6 : cur.toList.take xs.length = xs.map lv) : Own w base g cap xs :=
  ⟨by simp, .inr ⟨g, cap, cur, rfl, h1, h2, h3, h4, by omega, by simpa using h6⟩⟩
theorem Own.lt (h : Own w base g cap xs) : g < w.heap.size := by
  obtain ⟨cur, _, h2, _⟩ := h.form
  exact (Array.getElem?_eq_some_iff.1 h2).1
theorem Own.base_le (h : Own w base g cap xs) : base ≤ g := by
  obtain ⟨cur, h1, _⟩ := h.form
  exact h1
theorem Own.le (h : Own w base g cap xs) : xs.length ≤ cap := by
  obtain ⟨cur, _, _, h3, _⟩ := h.form
  exact h3
theorem Own.cell (h : Own w base g cap xs) {j : Nat} (hj : j < xs.length) : w.cell? ⟨g, j, none⟩ = some (.int .u64 ((lim xs j : Nat) : Int)) := by
  obtain ⟨cur, _, h2, h3, _, h5, h6⟩ := h.form
  rw [cell_of_row w g j cur _ (0, 0) h2]
  have : (cur.toList.take xs.length)[j]? = (xs.map lv)[j]? := by rw [h6]
  rw [List.getElem?_take, if_pos hj, List.getElem?_map, List.getElem?_eq_getElem hj] at this
  simp only [Array.getElem?_toList] at this
  rw [this, lim_some hj]
  rfl
theorem Own.frozen (h : Own w base g cap xs) (j : Nat) : w.frozen? ⟨g, j, none⟩ = false := by
  obtain ⟨cur, _, h2, _⟩ := h.form
  simp [World.frozen?, h2]
theorem Own.at_ (h : Own w base g cap xs) : At w g 0 xs := ⟨h.lt, fun j hj => by rw [Nat.zero_add]; exact h.cell hj⟩
theorem Own.free (h : Own w base g cap xs) (n : Nat) : Free w g 0 n := fun _ _ => h.frozen _
theorem Own.sl (h : Own w base g cap xs) : Sl w (some ⟨g, 0, none⟩) xs := .mk h.at_
theorem Own.keep (h : Own w base g cap xs) (hk : w'.heap[g]? = w.heap[g]?) : Own w' base g cap xs := by
  obtain ⟨cur, h1, h2, h3, h4, h5, h6⟩ := h.form
  exact .mk h1 (hk.trans h2) h3 h4 h5 h6
theorem Own.drew (h : Own w base g cap xs) : Own w.drew base g cap xs := h
theorem Own.alloc (h : Own w base g cap xs) (x : Obj) : Own (w.alloc x) base g cap xs := h.keep (Below.heap_alloc w x g h.lt)
theorem Own.below {B : Nat} (h : Own w base g cap xs) (hb : Below B w w') (hB : g < B) : Own w' base g cap xs := h.keep (hb.block g hB)
theorem Own.wrote_far {b' o' n' : Nat} (h : Own w base g cap xs) (hg : Wrote w w' b' o' n') (hr : g ≠ b') : Own w' base g cap xs := h.keep (hg.grown.block g h.lt (fun e => hr (by injection e)))
theorem Own.rebase {base' : Nat} (h : Own w base g cap xs) (hb : base' ≤ g) : Own w base' g cap xs := by
  obtain ⟨cur, h1, h2, h3, h4, h5, h6⟩ := h.form
  exact .mk hb h2 h3 h4 h5 h6
theorem Own.set (h : Own w base g cap xs) (j x : Nat) : Own (w.setCell ⟨g, j, none⟩ (.int .u64 (x : Int))) base g cap (xs.set j x) := by
  obtain ⟨cur, h1, h2, h3, h4, h5, h6⟩ := h.form
  refine .mk (cur := cur.setIfInBounds j (lv x)) h1 ?_ (by simpa using h3) h4 (by simpa using h5) ?_
  · simp [World.setCell, Array.getElem?_modify, h2, lv]
  · rw [List.length_set, Array.toList_setIfInBounds, List.take_set, h6, List.map_set]
theorem Own.take (h : Own w base g cap xs) (k : Nat) : Own w base g cap (xs.take k) := by
  obtain ⟨cur, h1, h2, h3, h4, h5, h6⟩ := h.form
  refine .mk (cur := cur) h1 h2 (Nat.le_trans (by rw [List.length_take]; omega) h3) h4 h5 ?_
  rw [List.map_take, ← h6, List.take_take, List.length_take]
theorem Own.made {base cap n : Nat} (w : World) (hb : base ≤ w.heap.size) (hn : n ≤ cap) (hm : cap ≤ maxLen) : Own (w.alloc (.cells (madeCells #[.int .u64 0] cap) 128)) base w.heap.size cap (List.replicate n 0) := by
  refine .mk (cur := madeCells #[.int .u64 0] cap) hb (heap_alloc_new w _) (by simpa using hn) hm (size_madeCells _ _) ?_
  rw [toList_madeCells_one, List.length_replicate, List.take_replicate, Nat.min_eq_left hn, List.map_replicate]
  rfl
end
end
section
open Go.RowKit Go.Shelf
def add64E : Array Value → Sem Value := fun args => do
  let (x, y, c) ← Extern.MathBitsCarry.three "Add64" args
  pure (Extern.MathBitsCarry.pair ((x + y + c) % Extern.MathBitsCarry.m64) ((x + y + c) / Extern.MathBitsCarry.m64))
def sub64E : Array Value → Sem Value := fun args => do
  let (x, y, b) ← Extern.MathBitsCarry.three "Sub64" args
  pure (Extern.MathBitsCarry.pair ((x + Extern.MathBitsCarry.m64 - y - b) % Extern.MathBitsCarry.m64) (if x < y + b then 1 else 0))
theorem run_sub64E {P : Program} (x y b : Nat) (hb : b ≤ 1) (w : World) :
    (sub64E #[.int .u64 x, .int .u64 y, .int .u64 b]).run P w =
      .ok (.tuple #[.int .u64 (((x + 18446744073709551616 - y - b) % 18446744073709551616 : Nat) : Int), .int .u64 ((if x < y + b then 1 else 0 : Nat) : Int)]) w := by
  have : b = 0 ∨ b = 1 := by omega
  rcases this with rfl | rfl <;> rfl
theorem run_add64E {P : Program} (x y c : Nat) (hc : c ≤ 1) (w : World) :
    (add64E #[.int .u64 x, .int .u64 y, .int .u64 c]).run P w =
      .ok (.tuple #[.int .u64 (((x + y + c) % 18446744073709551616 : Nat) : Int), .int .u64 (((x + y + c) / 18446744073709551616 : Nat) : Int)]) w := by
  have : c = 0 ∨ c = 1 := by omega
  rcases this with rfl | rfl <;> rfl
def sumL (x y c : Nat) : Nat := (x + y + c) % LB
def carL (x y c : Nat) : Nat := (x + y + c) / LB
def difL (x y b : Nat) : Nat := (x + LB - y - b) % LB
def borL (x y b : Nat) : Nat := if x < y + b then 1 else 0
theorem add64 (x y c : Nat) (hc : c ≤ 1) (w : World) :
    (callFunc 177 #[.int .u64 (x : Int), .int .u64 (y : Int), .int .u64 (c : Int)]).run Tryz.prog w =
      .ok (.value (.tuple #[.int .u64 ((sumL x y c : Nat) : Int), .int .u64 ((carL x y c : Nat) : Int)])) w := by
  rw [run_callFunc_extern Tryz.func177 (by kernel_rfl) (by kernel_rfl) (by kernel_rfl) (e := add64E) (by kernel_rfl), run_add64E x y c hc]
  rfl
theorem sub64 (x y b : Nat) (hb : b ≤ 1) (w : World) :
    (callFunc 160 #[.int .u64 (x : Int), .int .u64 (y : Int), .int .u64 (b : Int)]).run Tryz.prog w =
      .ok (.value (.tuple #[.int .u64 ((difL x y b : Nat) : Int), .int .u64 ((borL x y b : Nat) : Int)])) w := by
  rw [run_callFunc_extern Tryz.func160 (by kernel_rfl) (by kernel_rfl) (by kernel_rfl) (e := sub64E) (by kernel_rfl), run_sub64E x y b hb]
  rfl
theorem add64_0 (x y : Nat) (w : World) :
    (callFunc 177 #[.int .u64 (x : Int), .int .u64 (y : Int), .int .u64 0]).run Tryz.prog w =
      .ok (.value (.tuple #[.int .u64 ((sumL x y 0 : Nat) : Int), .int .u64 ((carL x y 0 : Nat) : Int)])) w := add64 x y 0 (by omega) w
theorem sub64_0 (x y : Nat) (w : World) :
    (callFunc 160 #[.int .u64 (x : Int), .int .u64 (y : Int), .int .u64 0]).run Tryz.prog w =
      .ok (.value (.tuple #[.int .u64 ((difL x y 0 : Nat) : Int), .int .u64 ((borL x y 0 : Nat) : Int)])) w := sub64 x y 0 (by omega) w
theorem sub64_r0 (x b : Nat) (hb : b ≤ 1) (w : World) :
    (callFunc 160 #[.int .u64 (x : Int), .int .u64 0, .int .u64 (b : Int)]).run Tryz.prog w =
      .ok (.value (.tuple #[.int .u64 ((difL x 0 b : Nat) : Int), .int .u64 ((borL x 0 b : Nat) : Int)])) w := sub64 x 0 b hb w
theorem sumL_lt (x y c : Nat) : sumL x y c < LB := Nat.mod_lt _ LB_pos
theorem difL_lt (x y c : Nat) : difL x y c < LB := Nat.mod_lt _ LB_pos
theorem carL_le (x y c : Nat) (hx : x < LB) (hy : y < LB) (hc : c ≤ 1) : carL x y c ≤ 1 := by unfold carL; rw [LB_eq] at *; omega
theorem borL_le (x y c : Nat) : borL x y c ≤ 1 := by unfold borL; split <;> omega
theorem sum_eq (x y c : Nat) : sumL x y c + LB * carL x y c = x + y + c := Nat.mod_add_div _ _
theorem dif_eq (x y b : Nat) (hx : x < LB) (hy : y < LB) (hb : b ≤ 1) : difL x y b + y + b = x + LB * borL x y b := by
  unfold difL borL
  rw [LB_eq] at *
  split <;> omega
theorem ret_one {k : IntKind} {a b : Int} (h : a = b) : Ending.returned (.int k a) = .returned (.int k b) := by rw [h]
theorem ret_bool {a b : Bool} (h : a = b) : Ending.returned (.bool a) = .returned (.bool b) := by rw [h]
theorem ret_two {k l : IntKind} {a b c d : Int} (h : a = b) (h' : c = d) : Ending.returned (.tuple #[.int k a, .int l c]) = .returned (.tuple #[.int k b, .int l d]) := by rw [h, h']
theorem wrapN (a : Nat) (ha : a < LB) : IntKind.u64.wrap (a : Int) = (a : Int) := by rw [IntKind.wrap_u64]; rw [LB_eq] at ha; omega
theorem wrapM (a : Nat) : IntKind.u64.wrap (a : Int) = ((a % LB : Nat) : Int) := by rw [IntKind.wrap_u64, LB_eq]; omega
def mulHi (x y : Nat) : Nat := x * y / LB
def mulLo (x y : Nat) : Nat := x * y % LB
theorem mulLo_lt (x y : Nat) : mulLo x y < LB := Nat.mod_lt _ LB_pos
theorem mul_eq (x y : Nat) : mulLo x y + LB * mulHi x y = x * y := Nat.mod_add_div _ _
theorem mul64 (x y : Nat) (hx : x < LB) (hy : y < LB) (w : World) :
    Calls Tryz.prog 176 #[.int .u64 (x : Int), .int .u64 (y : Int)] w fun e w' => e = .returned (.tuple #[.int .u64 ((mulHi x y : Nat) : Int), .int .u64 ((mulLo x y : Nat) : Int)]) ∧ w = w' :=
  (Tryz.bits_Mul64 x y hx hy w).mono fun _ _ h => ⟨h.1, h.2.symm⟩
end
section
open Go.RowKit
theorem limb_any (A : Option Addr) (c : Nat) (xs : List Nat) (i : Nat) (w : World) (hs : Sl w A xs) (hl : xs.length ≤ 1000000) (hi : i ≤ 1000000) :
    Calls Tryz.prog 166 #[.slice A xs.length c, .int .i64 (i : Int)] w fun e w' => e = .returned (.int .u64 ((lim xs i : Nat) : Int)) ∧ w = w' := by
  by_cases h : i < xs.length
  · obtain ⟨b, o, rfl, ha⟩ := hs.at_ (by omega)
    have hc := ha.cell h
    clear ha hs
    generalize lim xs i = x at hc ⊢
    go_enter Tryz.func166, Tryz.ntmps166
    go_wp2
    go_ret
    exact ⟨rfl, rfl⟩
  · rw [lim_none (by omega)]
    clear hs
    have h' : xs.length ≤ i := by omega
    go_enter Tryz.func166, Tryz.ntmps166
    go_wp2
    go_ret
    exact ⟨rfl, rfl⟩
def validB (xs : List Nat) : Bool := decide (xs.length ≤ 64 ∧ Norm xs)
theorem validB_iff {xs : List Nat} : validB xs = true ↔ xs.length ≤ 64 ∧ Norm xs := by unfold validB; exact decide_eq_true_iff
theorem valid_any (A : Option Addr) (c : Nat) (xs : List Nat) (w : World) (hs : Sl w A xs) (hl : xs.length ≤ 9223372036854775807) :
    Calls Tryz.prog 98 #[.slice A xs.length c] w fun e w' => e = .returned (.bool (validB xs)) ∧ w = w' := by
  by_cases h0 : xs.length = 0
  · have : validB xs = true := by
      have : xs = [] := List.eq_nil_of_length_eq_zero h0
      subst this; rfl
    rw [this]
    clear this hs
    generalize xs.length = n at *
    subst h0
    go_enter Tryz.func98, Tryz.ntmps98
    go_wp2
    go_ret
    exact ⟨rfl, rfl⟩
  · obtain ⟨b, o, rfl, ha⟩ := hs.at_ (by omega)
    have hc := ha.cell (j := xs.length - 1) (by omega)
    have hv : validB xs = decide (xs.length ≤ 64 ∧ lim xs (xs.length - 1) ≠ 0) := by
      unfold validB Norm
      have : xs ≠ [] := by rintro rfl; simp at h0
      simp [this]
    rw [hv]
    clear hv ha hs
    generalize lim xs (xs.length - 1) = x at hc ⊢
    generalize xs.length = n at *
    by_cases h1 : n ≤ 64
    · by_cases h2 : x = 0
      · subst h2
        have e : decide (n ≤ 64 ∧ (0 : Nat) ≠ 0) = false := by simp
        rw [e]; clear e
        have h3 : 0 < n := by omega
        have h5 : ((n : Int) == 0) = false := by simp; omega
        clear h0
        go_enter Tryz.func98, Tryz.ntmps98
        go_wp2
        go_ret
        exact ⟨rfl, rfl⟩
      · have e : decide (n ≤ 64 ∧ x ≠ 0) = true := by simp [h1, h2]
        rw [e]; clear e
        have h3 : 0 < n := by omega
        have h4 : ((x : Int) != 0) = true := by simp; omega
        clear h0
        go_enter Tryz.func98, Tryz.ntmps98
        go_wp2
        go_ret
        exact ⟨rfl, rfl⟩
    · have e : decide (n ≤ 64 ∧ x ≠ 0) = false := by simp [h1]
      rw [e]; clear e hc
      have h3 : 64 < n := by omega
      have h5 : ((n : Int) == 0) = false := by simp; omega
      clear h0 h1
      go_enter Tryz.func98, Tryz.ntmps98
      go_wp2
      go_ret
      exact ⟨rfl, rfl⟩
def maLo (x y c d : Nat) : Nat := (x * y + c + d) % LB
def maHi (x y c d : Nat) : Nat := (x * y + c + d) / LB
theorem ma_eq (x y c d : Nat) : maLo x y c d + LB * maHi x y c d = x * y + c + d := Nat.mod_add_div _ _
theorem maLo_lt (x y c d : Nat) : maLo x y c d < LB := Nat.mod_lt _ LB_pos
theorem maHi_lt (x y c d : Nat) (hx : x < LB) (hy : y < LB) (hc : c < LB) (hd : d < LB) : maHi x y c d < LB := by
  unfold maHi
  rw [Nat.div_lt_iff_lt_mul LB_pos]
  have : x * y ≤ (LB - 1) * (LB - 1) := Nat.mul_le_mul (by omega) (by omega)
  have e : (LB - 1) * (LB - 1) + LB + LB = LB * LB + 1 := by rw [LB_eq]
  omega
theorem mulAdd_lo (x y c d : Nat) : sumL (sumL (mulLo x y) c 0) d 0 = maLo x y c d := by
  unfold sumL mulLo maLo
  simp only [Nat.add_zero, Nat.mod_add_mod]
theorem mulAdd_hi (x y c d : Nat) : mulHi x y + carL (mulLo x y) c 0 + carL (sumL (mulLo x y) c 0) d 0 = maHi x y c d := by
  have h1 := mul_eq x y
  have h2 := sum_eq (mulLo x y) c 0
  have h3 := sum_eq (sumL (mulLo x y) c 0) d 0
  have h4 := ma_eq x y c d
  have h5 := mulAdd_lo x y c d
  have : LB * (mulHi x y + carL (mulLo x y) c 0 + carL (sumL (mulLo x y) c 0) d 0) = LB * maHi x y c d := by
    rw [Nat.mul_add, Nat.mul_add]; omega
  exact Nat.eq_of_mul_eq_mul_left LB_pos this
theorem mulAdd_any (x y c d : Nat) (hx : x < LB) (hy : y < LB) (hc : c < LB) (hd : d < LB) (w : World) :
    Calls Tryz.prog 167 #[.int .u64 (x : Int), .int .u64 (y : Int), .int .u64 (c : Int), .int .u64 (d : Int)] w fun e w' =>
      e = .returned (.tuple #[.int .u64 ((maLo x y c d : Nat) : Int), .int .u64 ((maHi x y c d : Nat) : Int)]) ∧ w = w' := by
  go_enter Tryz.func167, Tryz.ntmps167
  go_wp2_with (first | (go_at_call 176; refine (mul64 _ _ hx hy _).mono ?_; rintro e w' ⟨rfl, rfl⟩) | simp only [add64_0])
  go_ret2
  have e := mulAdd_hi x y c d
  have l := maHi_lt x y c d hx hy hc hd
  refine ⟨ret_two (by rw [mulAdd_lo]) ?_, rfl⟩
  rw [← Int.natCast_add, wrapN _ (by omega), ← Int.natCast_add, wrapN _ (by omega), e]
end
section
open Go.RowKit
theorem trimz_step {xs : List Nat} {k : Nat} (h : k < xs.length) (h0 : lim xs k = 0) : trimz (xs.take (k + 1)) = trimz (xs.take k) := by
  rw [take_succ_lim h, h0, trimz_append_zero]
theorem trimz_stop {xs : List Nat} {k : Nat} (h : k < xs.length) (h0 : lim xs k ≠ 0) : trimz (xs.take (k + 1)) = xs.take (k + 1) := by
  rw [take_succ_lim h]; exact trimz_append_pos _ h0
theorem trimz_len_le (xs : List Nat) : (trimz xs).length ≤ xs.length := by
  induction xs with
  | nil => simp [trimz]
  | cons z ys ih =>
    rw [trimz]
    split
    · simp
    · simp; exact ih
theorem trimz_prefix (xs : List Nat) : xs.take (trimz xs).length = trimz xs := by
  induction xs with
  | nil => simp [trimz]
  | cons z ys ih =>
    rw [trimz]
    split
    · simp
    · simp [ih]
theorem Sl.take {w : World} {A : Option Addr} {xs : List Nat} (h : Sl w A xs) (k : Nat) : Sl w A (xs.take k) := by
  rcases h with rfl | ⟨b, o, e, h⟩
  · simp [Sl]
  · refine .inr ⟨b, o, e, h.1, fun j hj => ?_⟩
    rw [List.length_take] at hj
    rw [h.2 j (by omega)]
    rw [lim_take (by omega)]
theorem ret_slice {A : Option Addr} {n m c : Nat} (h : n = m) : Ending.returned (.slice A n c) = .returned (.slice A m c) := by rw [h]
theorem trim_any (A : Option Addr) (c : Nat) (xs : List Nat) (w : World) (hs : Sl w A xs) (hl : xs.length ≤ c) (hn : xs.length ≤ 1000000) :
    Calls Tryz.prog 144 #[.slice A xs.length c] w fun e w' => e = .returned (.slice A (trimz xs).length c) ∧ w = w' := by
  go_enter Tryz.func144, Tryz.ntmps144
  go_wp2
  go_loop [0] (fun v => ∃ k : Nat, k ≤ xs.length ∧ v = .slice A k c ∧ trimz (xs.take k) = trimz xs) (fun v => match v with | .slice _ k _ => k | _ => 0)
  case atStart => exact ⟨xs.length, by omega, rfl, by rw [List.take_length]⟩
  case round =>
    obtain ⟨k, hk, rfl, ht⟩ := hrel
    cases k with
    | zero =>
      have T := hide ht
      clear ht
      go_wp2
      go_ret
      exact ⟨ret_slice (by rw [← T.out]; simp [trimz]), rfl⟩
    | succ k =>
      obtain ⟨b, o, rfl, ha⟩ := hs.at_ (by omega)
      have hcell := ha.cell (j := k) (by omega)
      by_cases h0 : lim xs k = 0
      · have T := hide ((trimz_step (by omega) h0).symm.trans ht)
        rw [h0] at hcell
        clear ht ha h0
        go_wp2
        go_round
        case rel => exact ⟨k, by omega, rfl, T.out⟩
        case measure => simp
      · have T := hide ((trimz_stop (by omega) h0).symm.trans ht)
        have L := hide hk
        generalize lim xs k = x at hcell h0
        have h4 : ((x : Int) == 0) = false := by simp; omega
        clear ht ha
        go_wp2
        go_ret
        exact ⟨ret_slice (by rw [← T.out, List.length_take, Nat.min_eq_left L.out]), rfl⟩
end
section
open Go.RowKit
theorem u64info : (Tryz.prog.info? 128).map (fun i => (i.zero, i.size, i.bytes)) = some (some (.int .u64 0), 1, 8) := by kernel_rfl
theorem run_make_u64 (kl kc : IntKind) (n c : Nat) (hnc : n ≤ c) (h63 : c ≤ 1000000) (w : World) :
    (Instr.makeSlice 26 (.int kl (n : Int)) (.int kc (c : Int))).run Tryz.prog w = .ok (.slice (some ⟨w.heap.size, 0, none⟩) n c) (w.alloc (.cells (madeCells #[.int .u64 0] c) 128)) := by
  obtain ⟨i, hi, hz, h1, h8⟩ := info_parts u64info
  have hr := run_make (P := Tryz.prog) w 26 128 i (.int .u64 0) Tryz.underlying26 hi hz kl kc n c (by omega) (by omega) (by rw [h8]; omega) (by omega)
  simp only [Int.toNat_natCast, h1, Nat.mul_one] at hr
  exact hr
theorem app_fits {ops : Array Oper} {rest : List Oper} {o : Oper} {a : Act} {Q : Exit → Act → World → Prop} (w : World) (hgd : o.guard = none) (s x : Operand)
    (ho : o.op = Op.call { callee := Callee.builtin Builtin.append, args := #[s, x], argTypes := #[26, 26] })
    (base g n cap y : Nat) (xs : List Nat) (hs : a.eval s = .slice (some ⟨g, 0, none⟩) n cap) (hn : xs.length = n) (hown : Own w base g cap xs) (ad : Addr) (c : Nat) (hx : a.eval x = .slice (some ad) 1 c)
    (hc : w.cell? ad = some (.int .u64 (y : Int))) (room : n + 1 ≤ cap)
    (hK : ∀ w', Own w' base g cap (xs ++ [y]) → w.grownBy w' (some g) → wpList Tryz.prog ops Q rest (a.put o.dst (.slice (some ⟨g, 0, none⟩) (n + 1) cap)) w') :
    wpList Tryz.prog ops Q (o :: rest) a w := by
  subst hn
  obtain ⟨i, hi, _, h1, _⟩ := info_parts u64info
  refine wpList_append_fits w hgd s x _ ho base 128 i 1 Tryz.underlying26 hi h1 g xs.length cap (xs.map lv) hs hown ad 1 c [lv y] hx rfl ?_ (lv_one [y]) room ?_
  · intro j u hu
    cases j with
    | zero =>
      simp at hu
      subst hu
      exact hc
    | succ j => simp at hu
  · intro w' h2 h3
    refine hK w' ?_ h3
    unfold Own
    simpa using h2
def AddInv (xs ys : List Nat) (k c : Nat) (cs : List Nat) : Prop := cs.length = k ∧ Limbs cs ∧ c ≤ 1 ∧ val cs + LB ^ k * c = val (xs.take k) + val (ys.take k)
theorem AddInv.zero (xs ys : List Nat) : AddInv xs ys 0 0 [] := ⟨rfl, .nil, by omega, by simp⟩
theorem AddInv.step {xs ys cs : List Nat} {k c : Nat} (lx : Limbs xs) (ly : Limbs ys) (h : AddInv xs ys k c cs) :
    AddInv xs ys (k + 1) (carL (lim xs k) (lim ys k) c) (cs ++ [sumL (lim xs k) (lim ys k) c]) := by
  obtain ⟨hc, hL, h1, h⟩ := h
  refine ⟨by simp [hc], hL.append (.one (sumL_lt _ _ _)), carL_le _ _ _ (lx.get k) (ly.get k) h1, ?_⟩
  have hs := sum_eq (lim xs k) (lim ys k) c
  rw [val_append, val_one, val_take_succ, val_take_succ, hc, Nat.pow_succ]
  have : LB ^ k * sumL (lim xs k) (lim ys k) c + LB ^ k * LB * carL (lim xs k) (lim ys k) c = LB ^ k * (lim xs k + lim ys k + c) := by
    rw [← hs, Nat.mul_add, Nat.mul_assoc]
  rw [Nat.mul_add, Nat.mul_add] at this
  omega
theorem set_grow (cs : List Nat) (m x : Nat) : (cs ++ List.replicate (m + 1) 0).set cs.length x = (cs ++ [x]) ++ List.replicate m 0 := by
  rw [List.set_append_right _ _ (Nat.le_refl _), Nat.sub_self, List.replicate_succ, List.set_cons_zero, List.append_assoc]
  rfl
theorem set_grow' {cs : List Nat} {n k : Nat} (x : Nat) (hk : cs.length = k) (h : k < n) : (cs ++ List.replicate (n - k) 0).set k x = (cs ++ [x]) ++ List.replicate (n - (k + 1)) 0 := by
  subst hk
  rw [show n - cs.length = (n - (cs.length + 1)) + 1 by omega]
  exact set_grow _ _ _
theorem AddInv.end_eq {xs ys cs : List Nat} {n c : Nat} (h : AddInv xs ys n c cs) (hn : max xs.length ys.length = n) : val cs + LB ^ n * c = val xs + val ys := by
  have := h.2.2.2
  rwa [List.take_of_length_le (by omega), List.take_of_length_le (by omega)] at this
theorem norm_le_max {xs ys cs : List Nat} {n : Nat} (nx : Norm xs) (ny : Norm ys) (hn : max xs.length ys.length = n) (hc : cs.length = n) (h : val xs + val ys ≤ val cs) : cs = [] ∨ LB ^ (cs.length - 1) ≤ val cs := by
  by_cases h0 : cs = []
  · exact .inl h0
  · right
    have hp : 0 < cs.length := by
      cases cs with
      | nil => exact absurd rfl h0
      | cons _ _ => simp
    rcases Nat.le_total ys.length xs.length with hle | hle
    · have := le_val nx (fun e => absurd (congrArg List.length e) (by simp only [List.length_nil]; omega))
      rw [show cs.length - 1 = xs.length - 1 by omega]
      omega
    · have := le_val ny (fun e => absurd (congrArg List.length e) (by simp only [List.length_nil]; omega))
      rw [show cs.length - 1 = ys.length - 1 by omega]
      omega
theorem AddInv.done {xs ys cs : List Nat} {n : Nat} (h : AddInv xs ys n 0 cs) (hn : max xs.length ys.length = n) (nx : Norm xs) (ny : Norm ys) : digs (val xs + val ys) = cs := by
  have he := h.end_eq hn
  simp only [Nat.mul_zero, Nat.add_zero] at he
  rw [← he]
  exact digs_val_norm h.2.1 (norm_of_le h.2.1 (norm_le_max nx ny hn h.1 (by omega)))
theorem AddInv.more {xs ys cs : List Nat} {n : Nat} (h : AddInv xs ys n 1 cs) (hn : max xs.length ys.length = n) : digs (val xs + val ys) = cs ++ [1] := by
  have he := h.end_eq hn
  have hL : Limbs (cs ++ [1]) := h.2.1.append (.one (by rw [LB_eq]; omega))
  have hv : val (cs ++ [1]) = val xs + val ys := by rw [val_append, val_one, h.1, he]
  rw [← hv]
  exact digs_val_norm hL ((norm_snoc _ _).2 (by omega))
def New (w : World) (xs : List Nat) (e : Ending) (w' : World) : Prop := ∃ g cap, e = .returned (.slice (some ⟨g, 0, none⟩) xs.length cap) ∧ Own w' w.heap.size g cap xs ∧ Below w.heap.size w w'
theorem New.mk {w w' : World} {xs ys : List Nat} {g n cap : Nat} (e : xs = ys) (hn : ys.length = n) (ho : Own w' w.heap.size g cap ys) (hb : Below w.heap.size w w') : New w xs (.returned (.slice (some ⟨g, 0, none⟩) n cap)) w' := by
  subst e hn; exact ⟨g, cap, rfl, ho, hb⟩
theorem ladd_ok (A B : Option Addr) (c d : Nat) (xs ys : List Nat) (w : World) (hx : Sl w A xs) (hy : Sl w B ys) (lx : Limbs xs) (ly : Limbs ys) (nx : Norm xs) (ny : Norm ys)
   (hl : xs.length ≤ 10000) (hl' : ys.length ≤ 10000) (n : Nat) (hn : max xs.length ys.length = n) :
    Calls Tryz.prog 178 #[.slice A xs.length c, .slice B ys.length d] w (New w (digs (val xs + val ys))) := by
  have hmk : ∀ W : World, (Instr.makeSlice 26 (.int .i64 (n : Int)) (.int .i64 ((n : Int) + 1))).run Tryz.prog W = .ok (.slice (some ⟨W.heap.size, 0, none⟩) n (n + 1)) (W.alloc (.cells (madeCells #[.int .u64 0] (n + 1)) 128)) :=
    fun W => run_make_u64 .i64 .i64 n (n + 1) (by omega) (by omega) W
  have hmx : ∀ ts t W, (Builtin.max_ ts t #[.int .i64 (xs.length : Int), .int .i64 (ys.length : Int)]).run Tryz.prog W = .ok (.int .i64 (n : Int)) W := fun ts t W => by
    rw [run_max_int2]
    congr 2
    split <;> omega
  have nb : n ≤ 10000 := by omega
  have H := hide hn
  clear hn
  go_enter Tryz.func178, Tryz.ntmps178
  go_wp2
  have M := hide (Own.made (n := n) w (Nat.le_refl _) (Nat.le_succ n) (by unfold maxLen; omega))
  clear hmk hmx
  go_loopw [6, 22] (fun cy i wr => ∃ k cc cs, k ≤ n ∧ i = .int .i64 (k : Nat) ∧ cy = .int .u64 (cc : Nat) ∧ AddInv xs ys k cc cs ∧ Own wr w.heap.size w.heap.size (n + 1) (cs ++ List.replicate (n - k) 0) ∧ Below w.heap.size w wr) (fun _ i _ => n - (intOf i).toNat)
  case atStart => exact ⟨0, 0, [], Nat.zero_le _, rfl, rfl, AddInv.zero _ _, by simpa using M.out, (Below.refl _ _).alloc (Nat.le_refl _) _⟩
  case round =>
    obtain ⟨k, cc, cs, hk, rfl, rfl, ai, ho, hb⟩ := hrel
    by_cases hlt : k < n
    · have hxr := hx.below hb (Nat.le_refl _)
      have hyr := hy.below hb (Nat.le_refl _)
      have hlen := ai.1
      have hcc := ai.2.2.1
      have hcell := ho.cell (j := k) (by simp; omega)
      have hfr := ho.frozen k
      have hst := ho.set k (sumL (lim xs k) (lim ys k) cc)
      rw [set_grow' _ hlen hlt] at hst
      have S := hide hst
      have I := hide (ai.step lx ly)
      have BB := hide hb
      clear hst hlen ho ai hb
      go_wp2_with (first
        | (go_at_call 166; (with_reducible refine (limb_any _ _ _ _ _ (by assumption) (by omega) (by omega)).mono ?_); rintro e w' ⟨rfl, rfl⟩)
        | simp only [add64 _ _ cc hcc])
      go_roundw
      case rel => exact ⟨k + 1, _, _, by omega, by go_num, rfl, I.out, S.out, BB.out.setCell (Nat.le_refl _) _⟩
      case measure => simp [intOf]; omega
    · obtain rfl : k = n := by omega
      rw [Nat.sub_self, List.replicate_zero, List.append_nil] at ho
      have hlen := hide ai.1
      have hcc := ai.2.2.1
      by_cases hc0 : cc = 0
      · subst hc0
        have O := hide ho
        have E := hide (ai.done H.out nx ny)
        have BB := hide hb
        clear ho ai hb
        go_wp2
        go_ret
        exact New.mk E.out hlen.out O.out BB.out
      · obtain rfl : cc = 1 := by omega
        have E := hide (ai.more H.out)
        have O := hide ho
        have BB := hide hb
        clear ho ai hb
        go_wp2_with (at_builtin; refine app_fits _ rfl (.tmp 43) (.tmp 45) rfl w.heap.size w.heap.size k (k + 1) 1 cs rfl hlen.out (O.out.alloc _) ⟨wr.heap.size, 0, none⟩ 1 rfl (by rw [World.cell?_alloc_at _ _ _ _ rfl]; rfl) (Nat.le_refl _) ?_; intro w1 hown1 hg1)
        go_ret
        exact New.mk E.out (by rw [List.length_append, hlen.out]; rfl) hown1 ((BB.out.alloc BB.out.size _).grown hg1 (by simp; have := BB.out.size; omega) (fun q hq => by injection hq; omega))
theorem ladd_any (A B : Option Addr) (c d : Nat) (xs ys : List Nat) (w : World) (hx : Sl w A xs) (hy : Sl w B ys) (lx : Limbs xs) (ly : Limbs ys) (nx : Norm xs) (ny : Norm ys)
   (hl : xs.length ≤ 10000) (hl' : ys.length ≤ 10000) :
    Calls Tryz.prog 178 #[.slice A xs.length c, .slice B ys.length d] w (New w (digs (val xs + val ys))) := ladd_ok A B c d xs ys w hx hy lx ly nx ny hl hl' _ rfl
end
section
open Go.RowKit
def Row (w : World) (base : Nat) (A : Option Addr) (n c : Nat) (xs : List Nat) : Prop := w.ownsRow base 128 1 (.slice A n c) n (xs.map lv)
section
variable {w w' w1 : World} {base n c : Nat} {A : Option Addr} {xs ys : List Nat}
theorem Row.len (h : Row w base A n c xs) : xs.length = n := by have := h.1; simpa using this
theorem Row.nil (w : World) (base : Nat) : Row w base none 0 0 [] := World.ownsRow_nil w base _ 1
theorem Own.row {g cap : Nat} (h : Own w base g cap xs) (hn : xs.length = n) : Row w base (some ⟨g, 0, none⟩) n cap xs := by subst hn; exact h
theorem Row.own {g cap : Nat} (h : Row w base (some ⟨g, 0, none⟩) n cap xs) : Own w base g cap xs := by
  have := h.len
  subst this; exact h
theorem Row.form (h : Row w base A n c xs) : (A = none ∧ xs = []) ∨ ∃ g, A = some ⟨g, 0, none⟩ ∧ Own w base g c xs := by
  have hl := h.len
  rcases h.2 with ⟨e, h0⟩ | ⟨g, cap, cur, e, h1, h2, h3, h4, h5, h6⟩
  · injection e with e _ _
    subst h0
    exact .inl ⟨e, List.eq_nil_of_length_eq_zero hl⟩
  · injection e with e1 e2 e3
    subst e1
    exact .inr ⟨g, rfl, h.own⟩
theorem Row.sl (h : Row w base A n c xs) : Sl w A xs := by
  rcases h.form with ⟨_, rfl⟩ | ⟨g, rfl, ho⟩
  · exact .nil
  · exact ho.sl
theorem Row.le (h : Row w base A n c xs) : n ≤ c := by
  have hl := h.len
  rcases h.2 with ⟨e, h0⟩ | ⟨g, cap, cur, e, h1, h2, h3, h4, h5, h6⟩
  · omega
  · injection e with e1 e2 e3
    subst e3
    exact h3
theorem Row.none_cap (h : Row w base none n c xs) : c = 0 := by
  rcases h.2 with ⟨e, _⟩ | ⟨g, cap, cur, e, _⟩
  · injection e
  · injection e with e _ _; cases e
theorem Row.lt (h : Row w base A n c xs) : ∀ g, A = some g → base ≤ g.block ∧ g.block < w.heap.size := by
  rcases h.form with ⟨rfl, _⟩ | ⟨g, rfl, ho⟩
  · intro g hg; cases hg
  · intro g' hg; cases hg; exact ⟨ho.base_le, ho.lt⟩
theorem Row.keep (h : Row w base A n c xs) (hk : ∀ g, A = some g → w'.heap[g.block]? = w.heap[g.block]?) : Row w' base A n c xs := by
  have hl := h.len
  rcases h.form with ⟨rfl, rfl⟩ | ⟨g, rfl, ho⟩
  · subst hl
    refine ⟨rfl, ?_⟩
    rcases h.2 with h2 | ⟨g, cap, cur, e, _⟩
    · exact .inl h2
    · injection e with e _ _; cases e
  · exact (ho.keep (hk _ rfl)).row hl
theorem Row.alloc (h : Row w base A n c xs) (x : Obj) : Row (w.alloc x) base A n c xs := h.keep fun g hg => Below.heap_alloc w x g.block (h.lt g hg).2
theorem Row.ownBlock (h : Row w base A n c xs) : ∀ k, (Value.slice A n c).ownBlock = some k → base ≤ k := fun k hk => (World.ownsRow.lt h k hk).1
theorem Row.rebase {base' : Nat} (h : Row w base A n c xs) (hb : base' ≤ base) : Row w base' A n c xs := by
  have hl := h.len
  rcases h.form with ⟨rfl, rfl⟩ | ⟨g, rfl, ho⟩
  · subst hl
    refine ⟨rfl, ?_⟩
    rcases h.2 with h2 | ⟨g, cap, cur, e, _⟩
    · exact .inl h2
    · injection e with e _ _; cases e
  · exact (ho.rebase (by have := ho.base_le; omega)).row hl
end
theorem app_one {ops : Array Oper} {rest : List Oper} {o : Oper} {a : Act} {Q : Exit → Act → World → Prop} (w : World) (hgd : o.guard = none) (s x : Operand)
    (ho : o.op = Op.call { callee := Callee.builtin Builtin.append, args := #[s, x], argTypes := #[26, 26] })
    (base n c y : Nat) (A : Option Addr) (xs : List Nat) (hs : a.eval s = .slice A n c) (hown : Row w base A n c xs) (ad : Addr) (d : Nat) (hx : a.eval x = .slice (some ad) 1 d)
    (hc : w.cell? ad = some (.int .u64 (y : Int))) (hlen : n ≤ 1000000) (hbase : base ≤ w.heap.size)
    (hK : ∀ g cap w', Row w' base (some ⟨g, 0, none⟩) (n + 1) cap (xs ++ [y]) → w.grownBy w' (Value.slice A n c).ownBlock → wpList Tryz.prog ops Q rest (a.put o.dst (.slice (some ⟨g, 0, none⟩) (n + 1) cap)) w') :
    wpList Tryz.prog ops Q (o :: rest) a w := by
  obtain ⟨i, hi, hz, h1, h8⟩ := info_parts u64info
  refine wpList_append_lies w hgd s x _ ho base 128 i (.int .u64 0) 1 8 Tryz.underlying26 hi hz h1 h8 rfl (by decide) (.slice A n c) n (xs.map lv) hs hown ad 1 d [lv y] hx rfl ?_ (lv_one [y]) (by omega) (by unfold maxLen; omega) (by omega) hbase _ rfl ?_
  · intro j u hu
    cases j with
    | zero =>
      simp at hu
      subst hu
      exact hc
    | succ j => simp at hu
  · intro g cap w' h2 h3 _ _
    refine hK g cap w' ?_ h3
    unfold Row
    simpa using h2
theorem app_any {ops : Array Oper} {rest : List Oper} {o : Oper} {a : Act} {Q : Exit → Act → World → Prop} (w : World) (hgd : o.guard = none) (s x : Operand)
    (ho : o.op = Op.call { callee := Callee.builtin Builtin.append, args := #[s, x], argTypes := #[26, 26] })
    (base n c m d : Nat) (A B : Option Addr) (xs ys : List Nat) (hs : a.eval s = .slice A n c) (hown : Row w base A n c xs) (hx : a.eval x = .slice B m d)
    (hsrc : Sl w B ys) (hm : ys.length = m) (hlen : n + m ≤ 1000000) (hbase : base ≤ w.heap.size)
    (hK : ∀ A' c' w', Row w' base A' (n + m) c' (xs ++ ys) → w.grownBy w' (Value.slice A n c).ownBlock → wpList Tryz.prog ops Q rest (a.put o.dst (.slice A' (n + m) c')) w') :
    wpList Tryz.prog ops Q (o :: rest) a w := by
  obtain ⟨i, hi, hz, h1, h8⟩ := info_parts u64info
  refine wpList_plain hgd fun K hK' => ?_
  have key : ∃ A' c' w', (Builtin.append_ #[26, 26] o.type #[.slice A n c, .slice B m d]).run Tryz.prog w = .ok (.slice A' (n + m) c') w' ∧ Row w' base A' (n + m) c' (xs ++ ys) ∧ w.grownBy w' (Value.slice A n c).ownBlock := by
    rcases B with _ | ad
    · have hy : ys = [] := by
        rcases hsrc with h | ⟨_, _, h, _⟩
        · exact h
        · cases h
      subst hy
      simp only [List.length_nil] at hm
      subst hm
      refine ⟨A, c, w, ?_, by simpa using hown, World.grownBy.refl w _⟩
      rcases hown.form with ⟨rfl, rfl⟩ | ⟨g, rfl, ho'⟩
      · have hn := hown.len
        simp only [List.length_nil] at hn
        subst hn
        obtain rfl := hown.none_cap
        simp [Builtin.append_, run_underlying Tryz.underlying26, sizeOf, typeInfo, hi, Builtin.lenOf, Builtin.firstCells]
      · have hle := hown.le
        simp [Builtin.append_, run_underlying Tryz.underlying26, sizeOf, typeInfo, hi, Builtin.lenOf, Builtin.firstCells, hle, storeCells]
    · have hcells : ∀ j u, (ys.map lv)[j]? = some u → w.cell? (ad.add j) = some u := by
        intro j u hu
        rcases hsrc with rfl | ⟨b, o', e, ha⟩
        · simp at hu
        · cases e
          rw [List.getElem?_map] at hu
          have hj : j < ys.length := by
            rcases Nat.lt_or_ge j ys.length with h | h
            · exact h
            · rw [List.getElem?_eq_none h] at hu; simp at hu
          rw [List.getElem?_eq_getElem hj] at hu
          simp at hu
          subst hu
          have := ha.cell hj
          rw [lim_some hj] at this
          unfold Addr.add
          split
          · rename_i h0; subst h0; simpa [lv] using this
          · exact this
      obtain ⟨v', w', hr, h2, h3, h4, h5⟩ := run_append_own_at (P := Tryz.prog) w base 26 o.type 128 i (.int .u64 0) 1 8 Tryz.underlying26 hi hz h1 h8 rfl (by decide) (.slice A n c) n (xs.map lv) hown ad m d (ys.map lv) (by simp [hm]) hcells (lv_one ys) (by unfold maxLen; omega) (by omega) hbase
      have hf : ∃ A' c', v' = .slice A' (n + m) c' := by
        rcases h2.2 with ⟨e, h0⟩ | ⟨g, cap, cur, e, _⟩
        · exact ⟨none, 0, by rw [e, h0]⟩
        · exact ⟨_, _, e⟩
      obtain ⟨A', c', rfl⟩ := hf
      refine ⟨A', c', w', hr, ?_, h3⟩
      unfold Row
      rw [List.map_append]
      exact h2
  obtain ⟨A', c', w', hr, h2, h3⟩ := key
  unfold Oper.wp execOp
  simp only [ho, resolve, invoke, builtin, Sem.run_bind, Sem.run_pure, Result.andThen_ok, List.map_toArray, List.map_cons, List.map_nil, hs, hx, hr]
  exact hK' _ _ (hK A' c' w' h2 h3)
def Mk (w : World) (xs : List Nat) (e : Ending) (w' : World) : Prop := ∃ A c, e = .returned (.slice A xs.length c) ∧ Row w' w.heap.size A xs.length c xs ∧ Below w.heap.size w w'
theorem Mk.intro {w w' : World} {xs ys : List Nat} {A : Option Addr} {n c : Nat} (h : Row w' w.heap.size A n c ys) (hb : Below w.heap.size w w') (e : xs = ys) : Mk w xs (.returned (.slice A n c)) w' := by
  subst e
  have := h.len
  subst this
  exact ⟨A, c, rfl, h, hb⟩
theorem Mk.trans {w w1 w' : World} {xs : List Nat} {e : Ending} (hb : Below w.heap.size w w1) (h : Mk w1 xs e w') : Mk w xs e w' := by
  obtain ⟨A, c, rfl, hr, hb'⟩ := h
  exact ⟨A, c, rfl, hr.rebase hb.size, hb.trans (hb'.mono hb.size)⟩
theorem Below.drewN' {B : Nat} {w w' : World} (h : Below B w w') (n : Nat) : Below B w (w'.drewN n) := ⟨h.os, h.tape, h.output, h.size, h.block⟩
theorem Row.empty {w : World} {base : Nat} (hb : base ≤ w.heap.size) : Row (w.alloc (.cells #[] 128)) base (some ⟨w.heap.size, 0, none⟩) 0 0 [] :=
  (Own.mk (cur := #[]) hb (heap_alloc_new w _) (Nat.le_refl _) (by simp only [List.length_nil]; unfold maxLen; omega) rfl rfl).row rfl
end
section
open Go.RowKit
theorem rtrim_any (A : Option Addr) (c : Nat) (xs : List Nat) (w : World) (hs : Sl w A xs) (hl : xs.length ≤ c) (hn : xs.length ≤ 100000) :
    Calls Tryz.prog 88 #[.slice A xs.length c] w (Mk w (trimz xs)) := by
  go_enter Tryz.func88, Tryz.ntmps88
  go_wp2
  go_loop [3] (fun v => ∃ k : Nat, k ≤ xs.length ∧ v = .int .i64 (k : Int) ∧ trimz (xs.take k) = trimz xs) (fun v => (intOf v).toNat)
  case atStart => exact ⟨xs.length, by omega, rfl, by rw [List.take_length]⟩
  case round =>
    obtain ⟨k, hk, rfl, ht⟩ := hrel
    cases k with
    | zero =>
      have T : Hid (trimz xs = [] ++ []) := by
        rw [List.take_zero] at ht
        exact ht.symm
      clear ht
      go_wp2_with (at_builtin; refine app_any _ rfl (.tmp 18) (.tmp 21) rfl w.heap.size 0 0 0 c (some ⟨w.heap.size, 0, none⟩) A [] [] rfl (Row.empty (Nat.le_refl _)) rfl .nil rfl (by omega) (by simp) ?_; intro A' c' w1 hr1 hg1)
      go_ret
      exact Mk.intro hr1 (((Below.refl _ _).alloc (Nat.le_refl _) _).grown hg1 (by simp) (Row.empty (Nat.le_refl _)).ownBlock) T.out
    | succ k =>
      obtain ⟨b, o, rfl, ha⟩ := hs.at_ (by omega)
      have hcell := ha.cell (j := k) (by omega)
      by_cases h0 : lim xs k = 0
      · have T := hide ((trimz_step (by omega) h0).symm.trans ht)
        rw [h0] at hcell
        clear ht ha h0
        go_wp2
        go_round
        case rel => exact ⟨k, by omega, rfl, T.out⟩
        case measure => simp [intOf]
      · have T := hide ((trimz_stop (by omega) h0).symm.trans ht)
        have L := hide hk
        generalize lim xs k = x at hcell h0
        have h4 : ((x : Int) == 0) = false := by simp; omega
        clear ht h0
        have hsrc := hide ((Sl.mk ha).alloc (.cells #[] 128) |>.take (k + 1))
        clear ha
        go_wp2_with (at_builtin; refine app_any _ rfl (.tmp 18) (.tmp 21) rfl w.heap.size 0 0 (k + 1) c (some ⟨w.heap.size, 0, none⟩) (some ⟨b, o, none⟩) [] (xs.take (k + 1)) rfl (Row.empty (Nat.le_refl _)) rfl hsrc.out (by rw [List.length_take, Nat.min_eq_left L.out]) (by omega) (by simp) ?_; intro A' c' w1 hr1 hg1)
        go_ret
        exact Mk.intro (by simpa using hr1) (((Below.refl _ _).alloc (Nat.le_refl _) _).grown hg1 (by simp) (Row.empty (Nat.le_refl _)).ownBlock) T.out.symm
end
section
def cmpN (a b : Nat) : Int := if a < b then -1 else if b < a then 1 else 0
theorem val_split {xs : List Nat} {k : Nat} (h : k < xs.length) : val xs = val (xs.take k) + LB ^ k * (lim xs k + LB * val (xs.drop (k + 1))) := by
  have e : xs = xs.take k ++ (lim xs k :: xs.drop (k + 1)) := by
    rw [lim_some h, List.getElem_cons_drop, List.take_append_drop]
  have : val xs = val (xs.take k ++ (lim xs k :: xs.drop (k + 1))) := congrArg val e
  rw [this, val_append, val_cons, List.length_take, Nat.min_eq_left (by omega)]
theorem lt_of_top {xs ys : List Nat} {k : Nat} (lx : Limbs xs) (hx : k < xs.length) (hy : k < ys.length) (hd : xs.drop (k + 1) = ys.drop (k + 1)) (h : lim xs k < lim ys k) : val xs < val ys := by
  rw [val_split hx, val_split hy, hd]
  have h1 := val_lt (lx.take k)
  rw [List.length_take, Nat.min_eq_left (by omega)] at h1
  have h2 : LB ^ k * (lim xs k + LB * val (ys.drop (k + 1)) + 1) ≤ LB ^ k * (lim ys k + LB * val (ys.drop (k + 1))) := Nat.mul_le_mul_left _ (by omega)
  rw [Nat.mul_add _ _ 1, Nat.mul_one] at h2
  omega
theorem drop_step {xs ys : List Nat} {k : Nat} (hx : k < xs.length) (hy : k < ys.length) (hd : xs.drop (k + 1) = ys.drop (k + 1)) (h : lim xs k = lim ys k) : xs.drop k = ys.drop k := by
  rw [← List.getElem_cons_drop (h := hx), ← List.getElem_cons_drop (h := hy), hd, ← lim_some hx, ← lim_some hy, h]
theorem cmpN_lt {a b : Nat} (h : a < b) : cmpN a b = -1 := by unfold cmpN; rw [if_pos h]
theorem cmpN_gt {a b : Nat} (h : b < a) : cmpN a b = 1 := by unfold cmpN; rw [if_neg (by omega), if_pos h]
theorem cmpN_eq {a : Nat} : cmpN a a = 0 := by unfold cmpN; rw [if_neg (by omega), if_neg (by omega)]
end
section
open Go.RowKit
theorem dr2 (w : World) (q n : Nat) : ∃ m, (w.drewN q).drewN n = w.drewN m := ⟨_, World.drewN_drewN w q n⟩
theorem dr3 (w : World) (q n k : Nat) : ∃ m, ((w.drewN q).drewN n).drewN k = w.drewN m := ⟨_, by rw [World.drewN_drewN, World.drewN_drewN]⟩
def Quiet (w : World) (v : Value) (e : Ending) (w' : World) : Prop := e = .returned v ∧ ∃ n, w' = w.drewN n
theorem rcmp_len (A B : Option Addr) (c d : Nat) (xs ys : List Nat) (w : World) (hx : Sl w A xs) (hy : Sl w B ys) (lx : Limbs xs) (ly : Limbs ys) (hl : xs.length ≤ 1000000) (he : xs.length = ys.length) :
    Calls Tryz.prog 139 #[.slice A xs.length c, .slice B ys.length d] w (Quiet w (.int .i64 (cmpN (val xs) (val ys)))) := by
  generalize hn : xs.length = n at *
  generalize hm : ys.length = m at *
  subst he
  have Hn := hide hn
  have Hm := hide hm
  clear hn hm
  go_enter Tryz.func139, Tryz.ntmps139
  go_wp2
  go_loopw [5] (fun i wr => ∃ k : Nat, k ≤ n ∧ i = .int .i64 ((k : Int) - 1) ∧ xs.drop k = ys.drop k ∧ ∃ q, wr = w.drewN q) (fun i _ => (intOf i + 1).toNat)
  case atStart => exact ⟨n, Nat.le_refl _, rfl, by rw [List.drop_of_length_le (by rw [Hn.out]; exact Nat.le_refl _), List.drop_of_length_le (by rw [Hm.out]; exact Nat.le_refl _)], 0, rfl⟩
  case round =>
    obtain ⟨k, hk, rfl, hd, q, rfl⟩ := hrel
    cases k with
    | zero =>
      have E : Hid (cmpN (val xs) (val ys) = 0) := by
        have : xs = ys := by simpa using hd
        subst this
        exact cmpN_eq
      clear hd
      go_wp2
      go_ret
      exact ⟨ret_one E.out.symm, q, rfl⟩
    | succ k =>
      obtain ⟨b, o, rfl, ha⟩ := hx.at_ (by rw [Hn.out]; omega)
      obtain ⟨b', o', rfl, ha'⟩ := hy.at_ (by rw [Hm.out]; omega)
      have hc := ha.cell (j := k) (by rw [Hn.out]; omega)
      have hc' := ha'.cell (j := k) (by rw [Hm.out]; omega)
      have L := hide (lt_of_top (k := k) lx (by rw [Hn.out]; omega) (by rw [Hm.out]; omega) hd)
      have G := hide (lt_of_top (k := k) ly (by rw [Hm.out]; omega) (by rw [Hn.out]; omega) hd.symm)
      have S := hide (drop_step (k := k) (by rw [Hn.out]; omega) (by rw [Hm.out]; omega) hd)
      clear hd ha ha'
      generalize lim xs k = x at *
      generalize lim ys k = y at *
      by_cases h1 : x < y
      · have E := hide (cmpN_lt (L.out h1))
        go_wp2
        go_quiet (fail)
        go_wp2
        go_ret
        exact ⟨ret_one E.out.symm, dr2 _ _ _⟩
      · have h1' : y ≤ x := by omega
        clear h1
        by_cases h2 : y < x
        · have E := hide (cmpN_gt (G.out h2))
          go_wp2
          go_quiet (fail)
          go_wp2
          go_quiet (fail)
          go_wp2
          go_ret
          exact ⟨ret_one E.out.symm, dr3 _ _ _ _⟩
        · have h2' : x ≤ y := by omega
          have E := hide (S.out (by omega))
          clear h2
          go_wp2
          go_quiet (fail)
          go_wp2
          go_quiet (fail)
          go_wp2
          go_roundw
          case rel => exact ⟨k, by omega, by go_num, E.out, _, rfl⟩
          case measure => simp [intOf]
theorem rcmp_any (A B : Option Addr) (c d : Nat) (xs ys : List Nat) (w : World) (hx : Sl w A xs) (hy : Sl w B ys) (lx : Limbs xs) (ly : Limbs ys) (nx : Norm xs) (ny : Norm ys) (hl : xs.length ≤ 1000000) (_hl' : ys.length ≤ 1000000) :
    Calls Tryz.prog 139 #[.slice A xs.length c, .slice B ys.length d] w (Quiet w (.int .i64 (cmpN (val xs) (val ys)))) := by
  by_cases he : xs.length = ys.length
  · exact rcmp_len A B c d xs ys w hx hy lx ly hl he
  · have L := hide (length_lt_of_val (xs := xs) (ys := ys) lx ny)
    have G := hide (length_lt_of_val (xs := ys) (ys := xs) ly nx)
    clear hx hy lx ly nx ny
    generalize xs.length = n at *
    generalize ys.length = m at *
    rcases Nat.lt_or_ge n m with h | h
    · have E := hide (cmpN_lt (L.out h))
      go_enter Tryz.func139, Tryz.ntmps139
      go_wp2
      go_ret
      exact ⟨ret_one E.out.symm, 0, rfl⟩
    · have h' : m < n := by omega
      have E := hide (cmpN_gt (G.out h'))
      go_enter Tryz.func139, Tryz.ntmps139
      go_wp2
      go_ret
      exact ⟨ret_one E.out.symm, 0, rfl⟩
theorem lcmp_len (A B : Option Addr) (c d : Nat) (xs ys : List Nat) (w : World) (hx : Sl w A xs) (hy : Sl w B ys) (lx : Limbs xs) (ly : Limbs ys) (hl : xs.length ≤ 1000000) (he : xs.length = ys.length) :
    Calls Tryz.prog 123 #[.slice A xs.length c, .slice B ys.length d] w (Quiet w (.int .i64 (cmpN (val xs) (val ys)))) := by
  generalize hn : xs.length = n at *
  generalize hm : ys.length = m at *
  subst he
  have Hn := hide hn
  have Hm := hide hm
  clear hn hm
  go_enter Tryz.func123, Tryz.ntmps123
  go_wp2
  go_loopw [5] (fun i wr => ∃ k : Nat, k ≤ n ∧ i = .int .i64 ((k : Int) - 1) ∧ xs.drop k = ys.drop k ∧ ∃ q, wr = w.drewN q) (fun i _ => (intOf i + 1).toNat)
  case atStart => exact ⟨n, Nat.le_refl _, rfl, by rw [List.drop_of_length_le (by rw [Hn.out]; exact Nat.le_refl _), List.drop_of_length_le (by rw [Hm.out]; exact Nat.le_refl _)], 0, rfl⟩
  case round =>
    obtain ⟨k, hk, rfl, hd, q, rfl⟩ := hrel
    cases k with
    | zero =>
      have E : Hid (cmpN (val xs) (val ys) = 0) := by
        have : xs = ys := by simpa using hd
        subst this
        exact cmpN_eq
      clear hd
      go_wp2
      go_ret
      exact ⟨ret_one E.out.symm, q, rfl⟩
    | succ k =>
      obtain ⟨b, o, rfl, ha⟩ := hx.at_ (by rw [Hn.out]; omega)
      obtain ⟨b', o', rfl, ha'⟩ := hy.at_ (by rw [Hm.out]; omega)
      have hc := ha.cell (j := k) (by rw [Hn.out]; omega)
      have hc' := ha'.cell (j := k) (by rw [Hm.out]; omega)
      have L := hide (lt_of_top (k := k) lx (by rw [Hn.out]; omega) (by rw [Hm.out]; omega) hd)
      have G := hide (lt_of_top (k := k) ly (by rw [Hm.out]; omega) (by rw [Hn.out]; omega) hd.symm)
      have S := hide (drop_step (k := k) (by rw [Hn.out]; omega) (by rw [Hm.out]; omega) hd)
      clear hd ha ha'
      generalize lim xs k = x at *
      generalize lim ys k = y at *
      by_cases h1 : x < y
      · have E := hide (cmpN_lt (L.out h1))
        go_wp2
        go_quiet (fail)
        go_wp2
        go_ret
        exact ⟨ret_one E.out.symm, dr2 _ _ _⟩
      · have h1' : y ≤ x := by omega
        clear h1
        by_cases h2 : y < x
        · have E := hide (cmpN_gt (G.out h2))
          go_wp2
          go_quiet (fail)
          go_wp2
          go_quiet (fail)
          go_wp2
          go_ret
          exact ⟨ret_one E.out.symm, dr3 _ _ _ _⟩
        · have h2' : x ≤ y := by omega
          have E := hide (S.out (by omega))
          clear h2
          go_wp2
          go_quiet (fail)
          go_wp2
          go_quiet (fail)
          go_wp2
          go_roundw
          case rel => exact ⟨k, by omega, by go_num, E.out, _, rfl⟩
          case measure => simp [intOf]
theorem lcmp_any (A B : Option Addr) (c d : Nat) (xs ys : List Nat) (w : World) (hx : Sl w A xs) (hy : Sl w B ys) (lx : Limbs xs) (ly : Limbs ys) (nx : Norm xs) (ny : Norm ys) (hl : xs.length ≤ 1000000) (_hl' : ys.length ≤ 1000000) :
    Calls Tryz.prog 123 #[.slice A xs.length c, .slice B ys.length d] w (Quiet w (.int .i64 (cmpN (val xs) (val ys)))) := by
  by_cases he : xs.length = ys.length
  · exact lcmp_len A B c d xs ys w hx hy lx ly hl he
  · have L := hide (length_lt_of_val (xs := xs) (ys := ys) lx ny)
    have G := hide (length_lt_of_val (xs := ys) (ys := xs) ly nx)
    clear hx hy lx ly nx ny
    generalize xs.length = n at *
    generalize ys.length = m at *
    rcases Nat.lt_or_ge n m with h | h
    · have E := hide (cmpN_lt (L.out h))
      go_enter Tryz.func123, Tryz.ntmps123
      go_wp2
      go_ret
      exact ⟨ret_one E.out.symm, 0, rfl⟩
    · have h' : m < n := by omega
      have E := hide (cmpN_gt (G.out h'))
      go_enter Tryz.func123, Tryz.ntmps123
      go_wp2
      go_ret
      exact ⟨ret_one E.out.symm, 0, rfl⟩
theorem take_step {xs ys : List Nat} {k : Nat} (hx : k < xs.length) (hy : k < ys.length) (hd : xs.take k = ys.take k) (h : lim xs k = lim ys k) : xs.take (k + 1) = ys.take (k + 1) := by
  rw [take_succ_lim hx, take_succ_lim hy, hd, h]
theorem same_any (A B : Option Addr) (c d : Nat) (xs ys : List Nat) (w : World) (hx : Sl w A xs) (hy : Sl w B ys) (hl : xs.length ≤ 1000000) (hl' : ys.length ≤ 1000000) :
    Calls Tryz.prog 63 #[.slice A xs.length c, .slice B ys.length d] w (Quiet w (.bool (decide (xs = ys)))) := by
  by_cases he : xs.length = ys.length
  · generalize hn : xs.length = n at *
    generalize hm : ys.length = m at *
    subst he
    have Hn := hide hn
    have Hm := hide hm
    clear hn hm
    go_enter Tryz.func63, Tryz.ntmps63
    go_wp2
    go_loopw [5] (fun i wr => ∃ k : Nat, k ≤ n ∧ i = .int .i64 (k : Int) ∧ xs.take k = ys.take k ∧ ∃ q, wr = w.drewN q) (fun i _ => n - (intOf i).toNat)
    case atStart => exact ⟨0, Nat.zero_le _, rfl, by simp, 0, rfl⟩
    case round =>
      obtain ⟨k, hk, rfl, hd, q, rfl⟩ := hrel
      by_cases hlt : k < n
      · obtain ⟨b, o, rfl, ha⟩ := hx.at_ (by rw [Hn.out]; omega)
        obtain ⟨b', o', rfl, ha'⟩ := hy.at_ (by rw [Hm.out]; omega)
        have hc := ha.cell (j := k) (by rw [Hn.out]; omega)
        have hc' := ha'.cell (j := k) (by rw [Hm.out]; omega)
        have S := hide (take_step (k := k) (by rw [Hn.out]; omega) (by rw [Hm.out]; omega) hd)
        have N : Hid (lim xs k ≠ lim ys k → decide (xs = ys) = false) := fun hne => decide_eq_false (fun e => hne (by rw [e]))
        clear hd ha ha'
        generalize lim xs k = x at *
        generalize lim ys k = y at *
        by_cases h1 : x = y
        · have E := hide (S.out h1)
          subst h1
          go_wp2
          go_quiet (fail)
          go_wp2
          go_roundw
          case rel => exact ⟨k + 1, by omega, by go_num, E.out, _, rfl⟩
          case measure => simp [intOf]; omega
        · have E := hide (N.out h1)
          have h2 : ((x : Int) != (y : Int)) = true := by simp; omega
          clear h1
          go_wp2
          go_quiet (fail)
          go_wp2
          go_ret
          exact ⟨ret_bool E.out.symm, dr2 _ _ _⟩
      · obtain rfl : k = n := by omega
        have E : Hid (decide (xs = ys) = true) := by
          rw [List.take_of_length_le (by rw [Hn.out]; omega), List.take_of_length_le (by rw [Hm.out]; omega)] at hd
          exact decide_eq_true hd
        clear hd
        go_wp2
        go_ret
        exact ⟨ret_bool E.out.symm, q, rfl⟩
  · have E : Hid (decide (xs = ys) = false) := decide_eq_false (fun e => he (by rw [e]))
    clear hx hy
    generalize xs.length = n at *
    generalize ys.length = m at *
    have h2 : ((n : Int) != (m : Int)) = true := by simp; omega
    clear he
    go_enter Tryz.func63, Tryz.ntmps63
    go_wp2
    go_ret
    exact ⟨ret_bool E.out.symm, 0, rfl⟩
theorem rvalid_any (A : Option Addr) (c : Nat) (xs : List Nat) (w : World) (hs : Sl w A xs) (hl : xs.length ≤ 9223372036854775807) :
    Calls Tryz.prog 108 #[.slice A xs.length c] w fun e w' => e = .returned (.bool (validB xs)) ∧ w = w' := by
  by_cases h0 : xs.length = 0
  · have : validB xs = true := by
      have : xs = [] := List.eq_nil_of_length_eq_zero h0
      subst this; rfl
    rw [this]
    clear this hs
    generalize xs.length = n at *
    subst h0
    go_enter Tryz.func108, Tryz.ntmps108
    go_wp2
    go_ret
    exact ⟨rfl, rfl⟩
  · obtain ⟨b, o, rfl, ha⟩ := hs.at_ (by omega)
    have hc := ha.cell (j := xs.length - 1) (by omega)
    have hv : validB xs = decide (xs.length ≤ 64 ∧ lim xs (xs.length - 1) ≠ 0) := by
      unfold validB Norm
      have : xs ≠ [] := by rintro rfl; simp at h0
      simp [this]
    rw [hv]
    clear hv ha hs
    generalize lim xs (xs.length - 1) = x at hc ⊢
    generalize xs.length = n at *
    have h5 : ((n : Int) == 0) = false := by simp; omega
    have h3 : 0 < n := by omega
    by_cases h1 : n ≤ 64
    · by_cases h2 : x = 0
      · subst h2
        have e : decide (n ≤ 64 ∧ (0 : Nat) ≠ 0) = false := by simp
        rw [e]; clear e
        clear h0
        go_enter Tryz.func108, Tryz.ntmps108
        go_wp2
        go_ret
        exact ⟨rfl, rfl⟩
      · have e : decide (n ≤ 64 ∧ x ≠ 0) = true := by simp [h1, h2]
        rw [e]; clear e
        have h4 : ((x : Int) != 0) = true := by simp; omega
        clear h0
        go_enter Tryz.func108, Tryz.ntmps108
        go_wp2
        go_ret
        exact ⟨rfl, rfl⟩
    · have e : decide (n ≤ 64 ∧ x ≠ 0) = false := by simp [h1]
      rw [e]; clear e hc
      have h6 : 64 < n := by omega
      clear h0 h1
      go_enter Tryz.func108, Tryz.ntmps108
      go_wp2
      go_ret
      exact ⟨rfl, rfl⟩
end
section
open Go.RowKit Go.Shelf
def addW (x y : Nat) : Nat := (x + y) % LB
def subW (x y : Nat) : Nat := (x + (LB - y)) % LB
def mulW (x y : Nat) : Nat := x * y % LB
def shlW (x s : Nat) : Nat := x * 2 ^ s % LB
def shrW (x s : Nat) : Nat := x / 2 ^ s
def orW (x y : Nat) : Nat := x ||| y
def andW (x y : Nat) : Nat := x &&& y
def quoW (x y : Nat) : Nat := x / y
def remW (x y : Nat) : Nat := x % y
theorem op_add (t : TypeId) (x y : Nat) : binOp .add t (.int .u64 (x : Int)) (.int .u64 (y : Int)) = pure (.int .u64 ((addW x y : Nat) : Int)) := by
  have e : IntKind.u64.wrap ((x : Int) + (y : Int)) = ((addW x y : Nat) : Int) := by rw [← Int.natCast_add, wrapM]; rfl
  rw [← e]; rfl
theorem op_sub (t : TypeId) (x y : Nat) (hy : y < LB) : binOp .sub t (.int .u64 (x : Int)) (.int .u64 (y : Int)) = pure (.int .u64 ((subW x y : Nat) : Int)) := by
  have e : IntKind.u64.wrap ((x : Int) - (y : Int)) = ((subW x y : Nat) : Int) := by
    rw [IntKind.wrap_u64]
    unfold subW
    rw [LB_eq] at *
    omega
  rw [← e]; rfl
theorem op_mul (t : TypeId) (x y : Nat) : binOp .mul t (.int .u64 (x : Int)) (.int .u64 (y : Int)) = pure (.int .u64 ((mulW x y : Nat) : Int)) := by
  have e : IntKind.u64.wrap ((x : Int) * (y : Int)) = ((mulW x y : Nat) : Int) := by rw [← Int.natCast_mul, wrapM]; rfl
  rw [← e]; rfl
theorem op_shl (t : TypeId) (k : IntKind) (x s : Nat) (hs : s ≤ 64) : binOp .shl t (.int .u64 (x : Int)) (.int k (s : Int)) = pure (.int .u64 ((shlW x s : Nat) : Int)) := by
  show Op.shift .shl .u64 (x : Int) k (s : Int) = _
  rw [shift_shl_any _ _ _ _ (by omega)]
  have e : IntKind.u64.wrap ((x : Int) * 2 ^ min ((s : Int).toNat) IntKind.u64.bits) = ((shlW x s : Nat) : Int) := by
    rw [show min ((s : Int).toNat) IntKind.u64.bits = s from by show min _ 64 = _; omega]
    have : (x : Int) * 2 ^ s = ((x * 2 ^ s : Nat) : Int) := by simp
    rw [this, wrapM]; rfl
  rw [e]
theorem op_shr (t : TypeId) (k : IntKind) (x s : Nat) (hs : s ≤ 64) : binOp .shr t (.int .u64 (x : Int)) (.int k (s : Int)) = pure (.int .u64 ((shrW x s : Nat) : Int)) := by
  show Op.shift .shr .u64 (x : Int) k (s : Int) = _
  rw [shift_shr_any _ _ _ _ (by omega)]
  have e : (x : Int) / 2 ^ min ((s : Int).toNat) IntKind.u64.bits = ((shrW x s : Nat) : Int) := by
    rw [show min ((s : Int).toNat) IntKind.u64.bits = s from by show min _ 64 = _; omega]
    unfold shrW
    simp
  rw [e]
theorem op_or (t : TypeId) (x y : Nat) (hx : x < LB) (hy : y < LB) : binOp .or t (.int .u64 (x : Int)) (.int .u64 (y : Int)) = pure (.int .u64 ((orW x y : Nat) : Int)) := by
  have e := bits_or_u64_nat x y hx hy
  unfold orW
  rw [← e]; rfl
theorem op_and (t : TypeId) (x y : Nat) (hx : x < LB) (hy : y < LB) : binOp .and t (.int .u64 (x : Int)) (.int .u64 (y : Int)) = pure (.int .u64 ((andW x y : Nat) : Int)) := by
  have e := bits_and_u64_nat x y hx hy
  unfold andW
  rw [← e]; rfl
theorem op_add_lt (t : TypeId) (x y z : Nat) (h : z = x + y) (hz : z < LB) : binOp .add t (.int .u64 (x : Int)) (.int .u64 (y : Int)) = pure (.int .u64 (z : Int)) := by
  rw [op_add]; unfold addW; rw [h, Nat.mod_eq_of_lt (by omega)]
theorem op_sub_le (t : TypeId) (x y z : Nat) (h : z + y = x) (hx : x < LB) : binOp .sub t (.int .u64 (x : Int)) (.int .u64 (y : Int)) = pure (.int .u64 (z : Int)) := by
  rw [op_sub _ _ _ (by omega)]
  have e : subW x y = z := by unfold subW; rw [LB_eq] at *; omega
  rw [e]
theorem op_mul_lt (t : TypeId) (x y z : Nat) (h : z = x * y) (hz : z < LB) : binOp .mul t (.int .u64 (x : Int)) (.int .u64 (y : Int)) = pure (.int .u64 (z : Int)) := by
  rw [op_mul]; unfold mulW; rw [h, Nat.mod_eq_of_lt (by omega)]
theorem op_quo (t : TypeId) (x y : Nat) (hx : x < LB) (hy : 0 < y) : binOp .quo t (.int .u64 (x : Int)) (.int .u64 (y : Int)) = pure (.int .u64 ((quoW x y : Nat) : Int)) := by
  have e : IntKind.u64.wrap ((x : Int).tdiv (y : Int)) = ((quoW x y : Nat) : Int) := by
    rw [LB_eq] at hx
    rw [IntWalk.u64_quo _ _ ⟨by omega, by omega, by omega⟩]
    unfold quoW; simp
  show Op.intDiv .quo .u64 (x : Int) (y : Int) = _
  unfold Op.intDiv
  rw [if_neg (by omega)]
  simp only [e]
theorem op_rem (t : TypeId) (x y : Nat) (hy : 0 < y) : binOp .rem t (.int .u64 (x : Int)) (.int .u64 (y : Int)) = pure (.int .u64 ((remW x y : Nat) : Int)) := by
  have e : (x : Int).tmod (y : Int) = ((remW x y : Nat) : Int) := by
    rw [IntWalk.rem_in _ _ (by omega)]; unfold remW; simp
  show Op.intDiv .rem .u64 (x : Int) (y : Int) = _
  unfold Op.intDiv
  rw [if_neg (by omega)]
  simp only [e]
def lenW (x : Nat) : Nat := Lib.bitLen x
theorem lenW_le (x : Nat) (hx : x < LB) : lenW x ≤ 64 := Lib.bitLen_le x 64 (by omega) hx
theorem len64 (x : Nat) (hx : x < LB) (w : World) :
    Calls Tryz.prog 121 #[.int .u64 (x : Int)] w fun e w' => e = .returned (.int .i64 ((lenW x : Nat) : Int)) ∧ w = w' := by
  rw [LB_eq] at hx
  refine (Tryz.bits_Len64 x w (by omega) (by omega)).mono fun e w' h => ⟨?_, h.2.symm⟩
  rw [h.1]; simp [lenW]
def lzW (x : Nat) : Nat := 64 - lenW x
theorem lz64 (x : Nat) (hx : x < LB) (w : World) :
    Calls Tryz.prog 161 #[.int .u64 (x : Int)] w fun e w' => e = .returned (.int .i64 ((lzW x : Nat) : Int)) ∧ w = w' := by
  have hl := lenW_le x hx
  rw [LB_eq] at hx
  refine (Tryz.bits_LeadingZeros64 x w (by omega) (by omega)).mono fun e w' h => ⟨?_, h.2.symm⟩
  rw [h.1]
  refine ret_one ?_
  unfold lzW
  rw [Int.toNat_natCast]
  show (64 : Int) - (lenW x : Int) = _
  omega
end
section
def subSp (xs ys : List Nat) : List Nat × Nat :=
  if validB xs && validB ys then (if val xs < val ys then ([], 1) else (digs (val xs - val ys), 0)) else ([], 1)
def SubInv (xs ys : List Nat) (k b : Nat) (cs : List Nat) : Prop := cs.length = k ∧ Limbs cs ∧ b ≤ 1 ∧ val cs + val (ys.take k) = val (xs.take k) + LB ^ k * b
theorem SubInv.zero (xs ys : List Nat) : SubInv xs ys 0 0 [] := ⟨rfl, .nil, by omega, by simp⟩
theorem SubInv.step {xs ys cs : List Nat} {k b : Nat} (lx : Limbs xs) (ly : Limbs ys) (h : SubInv xs ys k b cs) :
    SubInv xs ys (k + 1) (borL (lim xs k) (lim ys k) b) (cs ++ [difL (lim xs k) (lim ys k) b]) := by
  obtain ⟨hc, hL, h1, h⟩ := h
  refine ⟨by simp [hc], hL.append (.one (difL_lt _ _ _)), borL_le _ _ _, ?_⟩
  have hs := dif_eq (lim xs k) (lim ys k) b (lx.get k) (ly.get k) h1
  rw [val_append, val_one, val_take_succ, val_take_succ, hc, Nat.pow_succ]
  have : LB ^ k * (difL (lim xs k) (lim ys k) b + lim ys k + b) = LB ^ k * (lim xs k + LB * borL (lim xs k) (lim ys k) b) := by rw [hs]
  rw [Nat.mul_add, Nat.mul_add, Nat.mul_add, ← Nat.mul_assoc] at this
  omega
theorem SubInv.done {xs ys cs : List Nat} {n b : Nat} (h : SubInv xs ys n b cs) (hn : xs.length = n) (hm : ys.length ≤ n) (hle : val ys ≤ val xs) : val cs = val xs - val ys ∧ Limbs cs ∧ cs.length = n := by
  obtain ⟨hc, hL, h1, h⟩ := h
  rw [List.take_of_length_le (by omega), List.take_of_length_le (by omega)] at h
  have hv := val_lt hL
  rw [hc] at hv
  have : b = 0 := by
    rcases Nat.eq_zero_or_pos b with h0 | h0
    · exact h0
    · have : b = 1 := by omega
      subst this
      omega
  subst this
  exact ⟨by omega, hL, hc⟩
theorem subSp_ok {xs ys : List Nat} (vx : validB xs = true) (vy : validB ys = true) (h : val ys ≤ val xs) : subSp xs ys = (digs (val xs - val ys), 0) := by
  unfold subSp
  rw [vx, vy]
  simp only [Bool.and_self, if_true]
  rw [if_neg (by omega)]
theorem len_le_of_val {xs ys : List Nat} (lx : Limbs xs) (ny : Norm ys) (h : val ys ≤ val xs) : ys.length ≤ xs.length := by
  rcases Nat.lt_or_ge xs.length ys.length with hlt | hge
  · have := length_lt_of_val lx ny hlt
    omega
  · exact hge
theorem vB {xs : List Nat} : validB xs = true ∨ validB xs = false := by cases validB xs <;> simp
end
section
open Go.RowKit
theorem rtrim_n (A : Option Addr) (n c : Nat) (xs : List Nat) (w : World) (hx : xs.length = n) (hs : Sl w A xs) (hl : n ≤ c) (hn : n ≤ 100000) :
    Calls Tryz.prog 88 #[.slice A n c] w (Mk w (trimz xs)) := by
  subst hx
  exact rtrim_any A c xs w hs hl hn
theorem rsub_any (A B : Option Addr) (c d : Nat) (xs ys : List Nat) (w : World) (hx : Sl w A xs) (hy : Sl w B ys) (lx : Limbs xs) (ly : Limbs ys) (hl : xs.length ≤ 10000) (hm : ys.length ≤ xs.length) (hle : val ys ≤ val xs) :
    Calls Tryz.prog 142 #[.slice A xs.length c, .slice B ys.length d] w (Mk w (digs (val xs - val ys))) := by
  generalize hn : xs.length = n at *
  have H := hide hn
  clear hn
  go_enter Tryz.func142, Tryz.ntmps142
  go_wp2
  go_loopw [5, 6, 7] (fun out cy i wr => ∃ k cc cs C e, k ≤ n ∧ i = .int .i64 (k : Nat) ∧ cy = .int .u64 (cc : Nat) ∧ out = .slice C k e ∧ SubInv xs ys k cc cs ∧ Row wr w.heap.size C k e cs ∧ Below w.heap.size w wr) (fun _ _ i _ => n - (intOf i).toNat)
  case atStart => exact ⟨0, 0, [], none, 0, Nat.zero_le _, rfl, rfl, rfl, SubInv.zero _ _, Row.nil _ _, Below.refl _ _⟩
  case round =>
    obtain ⟨k, cc, cs, C, e, hk, rfl, rfl, rfl, ai, ho, hb⟩ := hrel
    by_cases hlt : k < n
    · have hcc := ai.2.2.1
      have I := hide (ai.step lx ly)
      have O := hide ho
      have BB := hide hb
      have hxr := hx.below hb (Nat.le_refl _)
      have hyr := hy.below hb (Nat.le_refl _)
      clear ho ai hb
      obtain ⟨b, o, rfl, ha⟩ := hxr.at_ (by rw [H.out]; omega)
      have hcx := ha.cell (j := k) (by rw [H.out]; omega)
      by_cases h2 : k < ys.length
      · obtain ⟨b', o', rfl, ha'⟩ := hyr.at_ (by omega)
        have hcy := ha'.cell h2
        clear ha ha' hxr hyr
        go_wp2_with (first
          | simp only [sub64 _ _ cc hcc]
          | (at_builtin; refine app_one _ rfl (.tmp 35) (.tmp 37) rfl w.heap.size k e (difL (lim xs k) (lim ys k) cc) C cs rfl (O.out.alloc _) ⟨wr.heap.size, 0, none⟩ 1 rfl (by rw [World.cell?_alloc_at _ _ _ _ rfl]; rfl) (by omega) (by simp; have := BB.out.size; omega) ?_; intro g1 c1 w1 hr1 hg1))
        go_roundw
        case rel => exact ⟨k + 1, _, _, _, _, by omega, by go_num, rfl, rfl, I.out, hr1, (BB.out.alloc BB.out.size _).grown hg1 (by simp; have := BB.out.size; omega) O.out.ownBlock⟩
        case measure => simp [intOf]; omega
      · rw [lim_none (xs := ys) (by omega)] at I
        have h2' : ys.length ≤ k := by omega
        clear ha hxr hyr h2
        go_wp2_with (first
          | simp only [sub64_r0 _ cc hcc]
          | (at_builtin; refine app_one _ rfl (.tmp 35) (.tmp 37) rfl w.heap.size k e (difL (lim xs k) 0 cc) C cs rfl (O.out.alloc _) ⟨wr.heap.size, 0, none⟩ 1 rfl (by rw [World.cell?_alloc_at _ _ _ _ rfl]; rfl) (by omega) (by simp; have := BB.out.size; omega) ?_; intro g1 c1 w1 hr1 hg1))
        go_roundw
        case rel => exact ⟨k + 1, _, _, _, _, by omega, by go_num, rfl, rfl, I.out, hr1, (BB.out.alloc BB.out.size _).grown hg1 (by simp; have := BB.out.size; omega) O.out.ownBlock⟩
        case measure => simp [intOf]; omega
    · obtain rfl : k = n := by omega
      obtain ⟨hv, hL, hlen⟩ := ai.done H.out hm hle
      have E : Hid (digs (val xs - val ys) = trimz cs) := by rw [← hv]; exact digs_val hL
      have T := hide (rtrim_n C k e cs wr hlen ho.sl ho.le (by omega))
      have BB := hide hb
      clear ho ai hb hv hL hlen
      go_wp2_with (go_at_call 88; (with_reducible refine (T.out).mono ?_); rintro ee w2 ⟨A2, c2, rfl, hr2, hb2⟩)
      go_ret
      exact Mk.trans BB.out (by rw [E.out]; exact ⟨_, _, rfl, hr2, hb2⟩)
end
end Nt
end Go.Proofs.YthabfakbdfaciaaGreat
