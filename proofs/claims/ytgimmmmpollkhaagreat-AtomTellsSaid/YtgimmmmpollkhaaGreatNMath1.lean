
/-
  Plain mathematics of rows of limbs (base 2^64, the least limb first), by lists of natural numbers: values, canonical rows, trimming. No program is spoken of.
-/
namespace Go.Proofs.YtgimmmmpollkhaaGreat

namespace Nt

def LB : Nat := 18446744073709551616
theorem LB_eq : LB = 18446744073709551616 := rfl
theorem LB_pos : 0 < LB := by rw [LB_eq]; omega
theorem LB_two : 2 ≤ LB := by rw [LB_eq]; omega

def val : List Nat → Nat
  | [] => 0
  | x :: xs => x + LB * val xs

def lim (xs : List Nat) (i : Nat) : Nat := xs.getD i 0
theorem lim_none {xs : List Nat} {i : Nat} (h : xs.length ≤ i) : lim xs i = 0 := by unfold lim; rw [List.getD_eq_getElem?_getD, List.getElem?_eq_none h]; rfl
theorem lim_some {xs : List Nat} {i : Nat} (h : i < xs.length) : lim xs i = xs[i] := by unfold lim; rw [List.getD_eq_getElem?_getD, List.getElem?_eq_getElem h]; rfl
theorem lim_set_same {xs : List Nat} {i x : Nat} (h : i < xs.length) : lim (xs.set i x) i = x := by unfold lim; simp [List.getD_eq_getElem?_getD, h]
theorem lim_set_other {xs : List Nat} {i j x : Nat} (h : j ≠ i) : lim (xs.set i x) j = lim xs j := by unfold lim; simp [List.getD_eq_getElem?_getD, Ne.symm h]
theorem lim_take {xs : List Nat} {i k : Nat} (h : i < k) : lim (xs.take k) i = lim xs i := by unfold lim; rw [List.getD_eq_getElem?_getD, List.getD_eq_getElem?_getD, List.getElem?_take, if_pos h]
theorem lim_drop {xs : List Nat} {i k : Nat} : lim (xs.drop k) i = lim xs (k + i) := by unfold lim; rw [List.getD_eq_getElem?_getD, List.getD_eq_getElem?_getD, List.getElem?_drop]
theorem lim_append_left {xs ys : List Nat} {i : Nat} (h : i < xs.length) : lim (xs ++ ys) i = lim xs i := by unfold lim; rw [List.getD_eq_getElem?_getD, List.getD_eq_getElem?_getD, List.getElem?_append_left h]
theorem lim_append_right {xs ys : List Nat} {i : Nat} : lim (xs ++ ys) (xs.length + i) = lim ys i := by unfold lim; rw [List.getD_eq_getElem?_getD, List.getD_eq_getElem?_getD, List.getElem?_append_right (by omega), Nat.add_sub_cancel_left]
theorem lim_mem {xs : List Nat} {i : Nat} (h : i < xs.length) : lim xs i ∈ xs := by rw [lim_some h]; exact List.getElem_mem h

def Limbs (xs : List Nat) : Prop := ∀ x ∈ xs, x < LB

@[simp] theorem val_nil : val [] = 0 := rfl
theorem val_cons (x : Nat) (xs : List Nat) : val (x :: xs) = x + LB * val xs := rfl
theorem val_one (x : Nat) : val [x] = x := by simp [val]

theorem Limbs.nil : Limbs [] := by intro x h; cases h
theorem Limbs.cons {x : Nat} {xs : List Nat} (hx : x < LB) (h : Limbs xs) : Limbs (x :: xs) := by
  intro y hy
  rcases List.mem_cons.1 hy with rfl | hy
  · exact hx
  · exact h y hy
theorem Limbs.head {x : Nat} {xs : List Nat} (h : Limbs (x :: xs)) : x < LB := h x (by simp)
theorem Limbs.tail {x : Nat} {xs : List Nat} (h : Limbs (x :: xs)) : Limbs xs := fun y hy => h y (by simp [hy])
theorem Limbs.append {xs ys : List Nat} (h : Limbs xs) (k : Limbs ys) : Limbs (xs ++ ys) := by
  intro y hy
  rcases List.mem_append.1 hy with hy | hy
  · exact h y hy
  · exact k y hy
theorem Limbs.left {xs ys : List Nat} (h : Limbs (xs ++ ys)) : Limbs xs := fun y hy => h y (by simp [hy])
theorem Limbs.right {xs ys : List Nat} (h : Limbs (xs ++ ys)) : Limbs ys := fun y hy => h y (by simp [hy])
theorem Limbs.take {xs : List Nat} (h : Limbs xs) (k : Nat) : Limbs (xs.take k) := fun y hy => h y (List.mem_of_mem_take hy)
theorem Limbs.drop {xs : List Nat} (h : Limbs xs) (k : Nat) : Limbs (xs.drop k) := fun y hy => h y (List.mem_of_mem_drop hy)
theorem Limbs.get {xs : List Nat} (h : Limbs xs) (k : Nat) : lim xs k < LB := by
  rcases Nat.lt_or_ge k xs.length with hk | hk
  · exact h _ (lim_mem hk)
  · rw [lim_none hk]; exact LB_pos
theorem Limbs.one {x : Nat} (hx : x < LB) : Limbs [x] := .cons hx .nil
theorem Limbs.replicate (n : Nat) : Limbs (List.replicate n 0) := by
  intro y hy
  rw [List.eq_of_mem_replicate hy]; exact LB_pos
theorem Limbs.set {xs : List Nat} (h : Limbs xs) (k x : Nat) (hx : x < LB) : Limbs (xs.set k x) := by
  intro y hy
  rcases List.mem_or_eq_of_mem_set hy with hy | rfl
  · exact h y hy
  · exact hx

theorem val_append (xs ys : List Nat) : val (xs ++ ys) = val xs + LB ^ xs.length * val ys := by
  induction xs with
  | nil => simp [val]
  | cons x xs ih =>
    rw [List.cons_append, val_cons, val_cons, ih, List.length_cons, Nat.pow_succ, Nat.mul_add, Nat.add_assoc]
    congr 2
    rw [← Nat.mul_assoc, Nat.mul_comm LB]

theorem val_lt {xs : List Nat} (h : Limbs xs) : val xs < LB ^ xs.length := by
  induction xs with
  | nil => simp [val]
  | cons x xs ih =>
    have h1 := ih h.tail
    have hx := h.head
    rw [val_cons, List.length_cons, Nat.pow_succ]
    have : LB * (val xs + 1) ≤ LB * LB ^ xs.length := Nat.mul_le_mul_left _ h1
    rw [Nat.mul_add, Nat.mul_one] at this
    rw [Nat.mul_comm (LB ^ xs.length)]
    omega

theorem val_replicate (n : Nat) : val (List.replicate n 0) = 0 := by
  induction n with
  | zero => rfl
  | succ n ih => rw [List.replicate_succ, val_cons, ih]; simp

theorem LB_pow_pos (n : Nat) : 0 < LB ^ n := Nat.pow_pos LB_pos

theorem take_succ_lim {xs : List Nat} {k : Nat} (h : k < xs.length) : xs.take (k + 1) = xs.take k ++ [lim xs k] := by
  rw [List.take_succ_eq_append_getElem h, lim_some h]

theorem val_take_succ (xs : List Nat) (k : Nat) : val (xs.take (k + 1)) = val (xs.take k) + LB ^ k * lim xs k := by
  by_cases h : k < xs.length
  · rw [take_succ_lim h, val_append, val_one, List.length_take, Nat.min_eq_left (by omega)]
  · rw [List.take_of_length_le (by omega), List.take_of_length_le (by omega), lim_none (by omega)]
    simp

def digs (n : Nat) : List Nat := if _h : n = 0 then [] else n % LB :: digs (n / LB)
termination_by n
decreasing_by exact Nat.div_lt_self (by omega) LB_two

theorem digs_zero : digs 0 = [] := by rw [digs]; simp
theorem digs_pos {n : Nat} (h : n ≠ 0) : digs n = n % LB :: digs (n / LB) := by rw [digs]; simp [h]

theorem val_digs (n : Nat) : val (digs n) = n := by
  induction n using Nat.strongRecOn with
  | _ n ih =>
    by_cases h : n = 0
    · subst h; rw [digs_zero]; rfl
    · rw [digs_pos h, val_cons, ih _ (Nat.div_lt_self (by omega) LB_two)]
      exact Nat.mod_add_div n LB

theorem limbs_digs (n : Nat) : Limbs (digs n) := by
  induction n using Nat.strongRecOn with
  | _ n ih =>
    by_cases h : n = 0
    · subst h; rw [digs_zero]; exact .nil
    · rw [digs_pos h]; exact .cons (Nat.mod_lt _ LB_pos) (ih _ (Nat.div_lt_self (by omega) LB_two))

theorem digs_eq_nil {n : Nat} : digs n = [] ↔ n = 0 := by
  constructor
  · intro h
    have := val_digs n
    rw [h] at this
    exact this.symm
  · rintro rfl; exact digs_zero

theorem digs_add_mul {x n : Nat} (hx : x < LB) (h : x ≠ 0 ∨ n ≠ 0) : digs (x + LB * n) = x :: digs n := by
  have hL := LB_pos
  have hne : x + LB * n ≠ 0 := by
    rcases h with h | h
    · omega
    · have : LB * 1 ≤ LB * n := Nat.mul_le_mul_left _ (by omega)
      omega
  rw [digs_pos hne, Nat.add_mul_mod_self_left, Nat.mod_eq_of_lt hx, Nat.add_mul_div_left _ _ LB_pos, Nat.div_eq_of_lt hx, Nat.zero_add]

def trimz : List Nat → List Nat
  | [] => []
  | x :: xs => if x = 0 ∧ trimz xs = [] then [] else x :: trimz xs

theorem digs_val {xs : List Nat} (h : Limbs xs) : digs (val xs) = trimz xs := by
  induction xs with
  | nil => exact digs_zero
  | cons x xs ih =>
    have hi := ih h.tail
    rw [val_cons, trimz]
    by_cases hc : x = 0 ∧ trimz xs = []
    · rw [if_pos hc]
      obtain ⟨rfl, h2⟩ := hc
      rw [h2, digs_eq_nil] at hi
      rw [hi]; exact digs_zero
    · rw [if_neg hc, ← hi]
      refine digs_add_mul h.head ?_
      by_cases hx : x = 0
      · right
        intro hv
        exact hc ⟨hx, by rw [← hi, hv]; exact digs_zero⟩
      · exact .inl hx

theorem val_trimz {xs : List Nat} (h : Limbs xs) : val (trimz xs) = val xs := by rw [← digs_val h, val_digs]
theorem trimz_append_zero (xs : List Nat) : trimz (xs ++ [0]) = trimz xs := by
  induction xs with
  | nil => simp [trimz]
  | cons x xs ih => rw [List.cons_append, trimz, trimz, ih]
theorem trimz_append_pos (xs : List Nat) {x : Nat} (hx : x ≠ 0) : trimz (xs ++ [x]) = xs ++ [x] := by
  induction xs with
  | nil => simp [trimz, hx]
  | cons y xs ih =>
    rw [List.cons_append, trimz, ih, if_neg]
    intro h
    simp at h
def Norm (xs : List Nat) : Prop := xs = [] ∨ lim xs (xs.length - 1) ≠ 0
instance (xs : List Nat) : Decidable (Norm xs) := by unfold Norm; exact inferInstance

theorem norm_snoc (xs : List Nat) (x : Nat) : Norm (xs ++ [x]) ↔ x ≠ 0 := by
  unfold Norm lim
  simp

theorem exists_snoc {xs : List Nat} (h : xs ≠ []) : ∃ ys y, xs = ys ++ [y] := ⟨xs.dropLast, xs.getLast h, (List.dropLast_concat_getLast h).symm⟩

theorem norm_iff_trimz {xs : List Nat} : Norm xs ↔ trimz xs = xs := by
  by_cases h : xs = []
  · subst h; simp [Norm, trimz]
  · obtain ⟨ys, y, rfl⟩ := exists_snoc h
    rw [norm_snoc]
    constructor
    · intro hy; exact trimz_append_pos ys hy
    · intro ht hy
      subst hy
      rw [trimz_append_zero] at ht
      have hle : (trimz ys).length ≤ ys.length := by
        clear ht h
        induction ys with
        | nil => simp [trimz]
        | cons z ys ih =>
          rw [trimz]
          split
          · simp
          · simp; exact ih
      have : (trimz ys).length = ys.length + 1 := by rw [ht]; simp
      omega

theorem digs_val_norm {xs : List Nat} (h : Limbs xs) (hn : Norm xs) : digs (val xs) = xs := by rw [digs_val h]; exact norm_iff_trimz.1 hn
theorem norm_digs (n : Nat) : Norm (digs n) := by
  have := digs_val (limbs_digs n)
  rw [val_digs] at this
  exact norm_iff_trimz.2 this.symm
theorem val_eq_zero {xs : List Nat} (h : Limbs xs) (hn : Norm xs) : val xs = 0 ↔ xs = [] := by
  constructor
  · intro hv
    have := digs_val_norm h hn
    rw [hv, digs_zero] at this
    exact this.symm
  · rintro rfl; rfl

theorem le_val {xs : List Nat} (hn : Norm xs) (hp : xs ≠ []) : LB ^ (xs.length - 1) ≤ val xs := by
  obtain ⟨ys, y, rfl⟩ := exists_snoc hp
  rw [norm_snoc] at hn
  rw [val_append, val_one]
  have : LB ^ ys.length * 1 ≤ LB ^ ys.length * y := Nat.mul_le_mul_left _ (by omega)
  simp only [List.length_append, List.length_cons, List.length_nil, Nat.zero_add, Nat.add_sub_cancel, Nat.mul_one] at *
  omega
theorem norm_of_le {xs : List Nat} (h : Limbs xs) (hv : xs = [] ∨ LB ^ (xs.length - 1) ≤ val xs) : Norm xs := by
  by_cases hp : xs = []
  · exact .inl hp
  · rcases hv with hv | hv
    · exact absurd hv hp
    · obtain ⟨ys, y, rfl⟩ := exists_snoc hp
      rw [norm_snoc]
      rintro rfl
      rw [val_append, val_one] at hv
      have := val_lt h.left
      simp only [List.length_append, List.length_cons, List.length_nil, Nat.zero_add, Nat.add_sub_cancel, Nat.mul_zero, Nat.add_zero] at hv
      omega

theorem length_digs_le {n k : Nat} : (digs n).length ≤ k ↔ n < LB ^ k := by
  constructor
  · intro h
    have h1 := val_lt (limbs_digs n)
    rw [val_digs] at h1
    exact Nat.lt_of_lt_of_le h1 (Nat.pow_le_pow_right LB_pos h)
  · intro h
    rcases Nat.lt_or_ge k (digs n).length with hlt | hge
    · have hne : digs n ≠ [] := by intro he; rw [he] at hlt; simp at hlt
      have h2 := le_val (norm_digs n) hne
      rw [val_digs] at h2
      have : LB ^ k ≤ LB ^ ((digs n).length - 1) := Nat.pow_le_pow_right LB_pos (by omega)
      omega
    · exact hge
theorem length_lt_of_val {xs ys : List Nat} (hx : Limbs xs) (hy : Norm ys) (h : xs.length < ys.length) : val xs < val ys := by
  have h1 := val_lt hx
  have hne : ys ≠ [] := by rintro rfl; simp at h
  have h2 := le_val hy hne
  have : LB ^ xs.length ≤ LB ^ (ys.length - 1) := Nat.pow_le_pow_right LB_pos (by omega)
  omega
end Nt

end Go.Proofs.YtgimmmmpollkhaaGreat
