/-
  Plain mathematics of Euclid's steps taken many at a time: sure steps lead to smaller numbers of the same greatest divisor, and no factor runs over.
-/
namespace Go.Proofs.YtodphjnhoinpeaaGreatDoor
namespace Nt

/-- What holds of the factors a, b, c, d, of an even or odd number of steps, behind which H and L are h and l. -/
structure Lh (H L a b c d h l : Nat) (odd : Bool) : Prop where
  even : odd = false → a * H = h + b * L ∧ d * L = l + c * H ∧ a * d = 1 + b * c
  odds : odd = true → b * L = h + a * H ∧ c * H = l + d * L ∧ b * c = 1 + a * d
  hH : H = d * h + b * l
  hL : L = c * h + a * l
  le : l ≤ h
  one : 1 ≤ d
  first : (a = 1 ∧ b = 0 ∧ c = 0 ∧ d = 1) ∨ (1 ≤ c ∧ a ≤ b ∧ c ≤ d ∧ 1 ≤ b ∧ d ≤ l ∧ b + d + l ≤ h)

theorem Lh.start {H L : Nat} (h : L ≤ H) : Lh H L 1 0 0 1 H L false where
  even := fun _ => ⟨by simp, by simp, by simp⟩
  odds := fun e => by cases e
  hH := by simp
  hL := by simp
  le := h
  one := Nat.le_refl _
  first := .inl ⟨rfl, rfl, rfl, rfl⟩

/-- No factor of the next step runs over. -/
theorem Lh.room {H L a b c d h l : Nat} {odd : Bool} (s : Lh H L a b c d h l odd) (hl : 0 < l) : b + h / l * d ≤ H ∧ a + h / l * c ≤ L ∧ 1 ≤ h / l ∧ d ≤ b + h / l * d := by
  have hq : h / l * l ≤ h := Nat.div_mul_le_self h l
  have h1 : 1 ≤ h / l := (Nat.one_le_div_iff hl).2 s.le
  have k1 : (b + h / l * d) * l ≤ H := by
    rw [s.hH, Nat.add_mul, Nat.mul_right_comm]
    have := Nat.mul_le_mul_right d hq
    rw [Nat.mul_comm h d] at this
    omega
  have k2 : (a + h / l * c) * l ≤ L := by
    rw [s.hL, Nat.add_mul, Nat.mul_right_comm]
    have := Nat.mul_le_mul_right c hq
    rw [Nat.mul_comm h c] at this
    omega
  refine ⟨Nat.le_trans (Nat.le_mul_of_pos_right _ hl) k1, Nat.le_trans (Nat.le_mul_of_pos_right _ hl) k2, h1, ?_⟩
  have := Nat.le_mul_of_pos_left d h1
  omega

/-- Two factors together do not, either. -/
theorem Lh.room2 {H L a b c d h l : Nat} {odd : Bool} (s : Lh H L a b c d h l odd) (hl : 0 < l) (k : b + h / l * d < l) : d + (b + h / l * d) ≤ H ∨ d + (b + h / l * d) ≤ 2 := by
  have hq : h / l * l ≤ h := Nat.div_mul_le_self h l
  obtain ⟨_, _, _, r4⟩ := s.room hl
  have k1 : (b + h / l * d) * l ≤ H := by
    rw [s.hH, Nat.add_mul, Nat.mul_right_comm]
    have := Nat.mul_le_mul_right d hq
    rw [Nat.mul_comm h d] at this
    omega
  generalize b + h / l * d = e at *
  rcases Nat.lt_or_ge 1 e with h1 | h1
  · left
    have : e * 2 ≤ e * l := Nat.mul_le_mul_left _ (by omega)
    omega
  · right; omega
theorem Lh.step {H L a b c d h l : Nat} {odd : Bool} (s : Lh H L a b c d h l odd) (hl : 0 < l) (k1 : b + h / l * d ≤ h % l) (k2 : d + (b + h / l * d) + h % l ≤ l) :
    Lh H L c d (a + h / l * c) (b + h / l * d) l (h % l) (!odd) := by
  obtain ⟨_, _, hq, hd⟩ := s.room hl
  have e := Nat.div_add_mod h l
  generalize h / l = q at *
  generalize h % l = r at *
  have e' : h = q * l + r := by rw [Nat.mul_comm q l]; exact e.symm
  refine ⟨fun ho => ?_, fun ho => ?_, ?_, ?_, by omega, by have := s.one; omega, .inr ⟨?_, ?_, ?_, s.one, by omega, by omega⟩⟩
  · have hodd : odd = true := by cases odd <;> simp_all
    obtain ⟨h1, h2, h3⟩ := s.odds hodd
    refine ⟨by omega, ?_, ?_⟩
    · -- (b + q d) L = r + (a + q c) H
      have : q * (c * H) = q * (l + d * L) := by rw [h2]
      rw [Nat.mul_add, ← Nat.mul_assoc, ← Nat.mul_assoc] at this
      rw [Nat.add_mul, Nat.add_mul]
      omega
    · rw [Nat.mul_add, Nat.mul_add, Nat.mul_left_comm d q c, Nat.mul_left_comm c q d, Nat.mul_comm c b, Nat.mul_comm d a, Nat.mul_comm d c]
      omega
  · have hodd : odd = false := by cases odd <;> simp_all
    obtain ⟨h1, h2, h3⟩ := s.even hodd
    refine ⟨by omega, ?_, ?_⟩
    · have : q * (d * L) = q * (l + c * H) := by rw [h2]
      rw [Nat.mul_add, ← Nat.mul_assoc, ← Nat.mul_assoc] at this
      rw [Nat.add_mul, Nat.add_mul]
      omega
    · rw [Nat.mul_add, Nat.mul_add, Nat.mul_left_comm d q c, Nat.mul_left_comm c q d, Nat.mul_comm c b, Nat.mul_comm d a, Nat.mul_comm d c]
      omega
  · rw [s.hH, Nat.add_mul, e', Nat.mul_add, Nat.mul_right_comm q d l, Nat.mul_comm d (q * l)]
    omega
  · rw [s.hL, Nat.add_mul, e', Nat.mul_add, Nat.mul_right_comm q c l, Nat.mul_comm c (q * l)]
    omega
  · rcases s.first with ⟨rfl, rfl, rfl, rfl⟩ | ⟨h1, _⟩
    · omega
    · have := Nat.le_mul_of_pos_left c hq
      omega
  · rcases s.first with ⟨rfl, rfl, rfl, rfl⟩ | ⟨_, _, h1, _⟩
    · omega
    · exact h1
  · rcases s.first with ⟨rfl, rfl, rfl, rfl⟩ | ⟨_, h1, h2, _⟩
    · omega
    · have := Nat.mul_le_mul_left q h2
      omega

/-- What sure steps make of two: the first, the second. -/
def lhX (a b X Y : Nat) (odd : Bool) : Nat := if odd then b * Y - a * X else a * X - b * Y
def lhY (c d X Y : Nat) (odd : Bool) : Nat := if odd then c * X - d * Y else d * Y - c * X

theorem comb_gcd {X Y x y a b c d : Nat} (h1 : X = d * x + b * y) (h2 : Y = c * x + a * y) (k1 : ∀ g, g ∣ X → g ∣ Y → g ∣ x) (k2 : ∀ g, g ∣ X → g ∣ Y → g ∣ y) : Nat.gcd x y = Nat.gcd X Y := by
  apply Nat.dvd_antisymm
  · have l := Nat.gcd_dvd_left x y
    have r := Nat.gcd_dvd_right x y
    refine Nat.dvd_gcd ?_ ?_
    · rw [h1]; exact Nat.dvd_add (Nat.dvd_mul_left_of_dvd l d) (Nat.dvd_mul_left_of_dvd r b)
    · rw [h2]; exact Nat.dvd_add (Nat.dvd_mul_left_of_dvd l c) (Nat.dvd_mul_left_of_dvd r a)
  · exact Nat.dvd_gcd (k1 _ (Nat.gcd_dvd_left _ _) (Nat.gcd_dvd_right _ _)) (k2 _ (Nat.gcd_dvd_left _ _) (Nat.gcd_dvd_right _ _))

/-- Sure steps lead on. -/
theorem Lh.leads {H L a b c d h l P x0 y0 X Y : Nat} {odd : Bool} (s : Lh H L a b c d h l odd) (hb : b ≠ 0) (hX : X = H * P + x0) (hY : Y = L * P + y0) (hx : x0 < P) (hy : y0 < P) :
    (odd = false → b * Y ≤ a * X ∧ c * X ≤ d * Y) ∧ (odd = true → a * X ≤ b * Y ∧ d * Y ≤ c * X) ∧
      lhY c d X Y odd < lhX a b X Y odd ∧ lhX a b X Y odd ≤ Y ∧ Nat.gcd (lhX a b X Y odd) (lhY c d X Y odd) = Nat.gcd X Y := by
  obtain ⟨c1, ab, cd, b1, dl, bdl⟩ : 1 ≤ c ∧ a ≤ b ∧ c ≤ d ∧ 1 ≤ b ∧ d ≤ l ∧ b + d + l ≤ h := by
    rcases s.first with ⟨_, h0, _⟩ | h1
    · exact absurd h0 hb
    · exact h1
  have m1 := Nat.mul_le_mul_right P bdl
  have m2 := Nat.mul_le_mul_right P dl
  have m3 := Nat.mul_le_mul_right P cd
  have m4 := Nat.mul_le_mul_right P ab
  rw [Nat.add_mul, Nat.add_mul] at m1
  have n1 : b * y0 + b ≤ b * P := by rw [← Nat.mul_succ]; exact Nat.mul_le_mul_left _ hy
  have n2 : d * y0 ≤ d * P := Nat.mul_le_mul_left _ (by omega)
  have n3 : c * x0 + c ≤ c * P := by rw [← Nat.mul_succ]; exact Nat.mul_le_mul_left _ hx
  have n4 : a * x0 ≤ a * P := Nat.mul_le_mul_left _ (by omega)
  have eX : ∀ k, k * X = k * H * P + k * x0 := fun k => by rw [hX, Nat.mul_add, Nat.mul_assoc]
  have eY : ∀ k, k * Y = k * L * P + k * y0 := fun k => by rw [hY, Nat.mul_add, Nat.mul_assoc]
  cases odd with
  | false =>
    obtain ⟨h1, h2, h3⟩ := s.even rfl
    have a1 := eX a
    have a2 := eY d
    rw [h1, Nat.add_mul] at a1
    rw [h2, Nat.add_mul] at a2
    have a3 := eY b
    have a4 := eX c
    have p1 : b * Y ≤ a * X := by omega
    have p2 : c * X ≤ d * Y := by omega
    have q1 : lhX a b X Y false + b * Y = a * X := by simp only [lhX, Bool.false_eq_true, if_false]; omega
    have q2 : lhY c d X Y false + c * X = d * Y := by simp only [lhY, Bool.false_eq_true, if_false]; omega
    generalize lhX a b X Y false = x at *
    generalize lhY c d X Y false = y at *
    have r1 : X = d * x + b * y := by
      have t1 : d * (x + b * Y) = d * (a * X) := by rw [q1]
      have t2 : b * (y + c * X) = b * (d * Y) := by rw [q2]
      have t3 : (a * d) * X = (1 + b * c) * X := by rw [h3]
      rw [Nat.mul_add, ← Nat.mul_assoc, ← Nat.mul_assoc, Nat.mul_comm d b, Nat.mul_comm d a] at t1
      rw [Nat.mul_add, ← Nat.mul_assoc, ← Nat.mul_assoc] at t2
      rw [Nat.add_mul, Nat.one_mul] at t3
      omega
    have r2 : Y = c * x + a * y := by
      have t1 : c * (x + b * Y) = c * (a * X) := by rw [q1]
      have t2 : a * (y + c * X) = a * (d * Y) := by rw [q2]
      have t3 : (a * d) * Y = (1 + b * c) * Y := by rw [h3]
      rw [Nat.mul_add, ← Nat.mul_assoc, ← Nat.mul_assoc, Nat.mul_comm c b, Nat.mul_comm c a] at t1
      rw [Nat.mul_add, ← Nat.mul_assoc, ← Nat.mul_assoc] at t2
      rw [Nat.add_mul, Nat.one_mul] at t3
      omega
    refine ⟨fun _ => ⟨p1, p2⟩, fun e => (by cases e), by omega, ?_, ?_⟩
    · have := Nat.le_mul_of_pos_left x c1
      omega
    · refine comb_gcd r1 r2 (fun g gx gy => ?_) (fun g gx gy => ?_)
      · have : g ∣ x + b * Y := by rw [q1]; exact Nat.dvd_mul_left_of_dvd gx a
        exact (Nat.dvd_add_left (Nat.dvd_mul_left_of_dvd gy b)).1 this
      · have : g ∣ y + c * X := by rw [q2]; exact Nat.dvd_mul_left_of_dvd gy d
        exact (Nat.dvd_add_left (Nat.dvd_mul_left_of_dvd gx c)).1 this
  | true =>
    obtain ⟨h1, h2, h3⟩ := s.odds rfl
    have a1 := eY b
    have a2 := eX c
    rw [h1, Nat.add_mul] at a1
    rw [h2, Nat.add_mul] at a2
    have a3 := eX a
    have a4 := eY d
    have p1 : a * X ≤ b * Y := by omega
    have p2 : d * Y ≤ c * X := by omega
    have q1 : lhX a b X Y true + a * X = b * Y := by simp only [lhX, if_true]; omega
    have q2 : lhY c d X Y true + d * Y = c * X := by simp only [lhY, if_true]; omega
    generalize lhX a b X Y true = x at *
    generalize lhY c d X Y true = y at *
    have r1 : X = d * x + b * y := by
      have t1 : d * (x + a * X) = d * (b * Y) := by rw [q1]
      have t2 : b * (y + d * Y) = b * (c * X) := by rw [q2]
      have t3 : (b * c) * X = (1 + a * d) * X := by rw [h3]
      rw [Nat.mul_add, ← Nat.mul_assoc, ← Nat.mul_assoc, Nat.mul_comm d b, Nat.mul_comm d a] at t1
      rw [Nat.mul_add, ← Nat.mul_assoc, ← Nat.mul_assoc] at t2
      rw [Nat.add_mul, Nat.one_mul] at t3
      omega
    have r2 : Y = c * x + a * y := by
      have t1 : c * (x + a * X) = c * (b * Y) := by rw [q1]
      have t2 : a * (y + d * Y) = a * (c * X) := by rw [q2]
      have t3 : (b * c) * Y = (1 + a * d) * Y := by rw [h3]
      rw [Nat.mul_add, ← Nat.mul_assoc, ← Nat.mul_assoc, Nat.mul_comm c b, Nat.mul_comm c a] at t1
      rw [Nat.mul_add, ← Nat.mul_assoc, ← Nat.mul_assoc] at t2
      rw [Nat.add_mul, Nat.one_mul] at t3
      omega
    refine ⟨fun e => (by cases e), fun _ => ⟨p1, p2⟩, by omega, ?_, ?_⟩
    · have := Nat.le_mul_of_pos_left x c1
      omega
    · refine comb_gcd r1 r2 (fun g gx gy => ?_) (fun g gx gy => ?_)
      · have : g ∣ x + a * X := by rw [q1]; exact Nat.dvd_mul_left_of_dvd gy b
        exact (Nat.dvd_add_left (Nat.dvd_mul_left_of_dvd gx a)).1 this
      · have : g ∣ y + d * Y := by rw [q2]; exact Nat.dvd_mul_left_of_dvd gx c
        exact (Nat.dvd_add_left (Nat.dvd_mul_left_of_dvd gy d)).1 this

end Nt
end Go.Proofs.YtodphjnhoinpeaaGreatDoor
