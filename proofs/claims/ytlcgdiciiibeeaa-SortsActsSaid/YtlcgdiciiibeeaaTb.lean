/-
  A table in memory: what it is, what stands beside it.
-/
import Derived.Maps.OwnSet
import Derived.Test.YtlcgdiciiibeeaaSr
namespace Go.Proofs.Ytlcgdiciiibeeaa
open Go.ChangeShapes Go.RowKit
namespace Nt
set_option maxRecDepth 100000

/-- All but the blocks of T stands. -/
structure Off (T : List Nat) (w w' : World) : Prop where
  os : w'.os = w.os
  tape : w'.tape = w.tape
  output : w'.output = w.output
  size : w.heap.size ≤ w'.heap.size
  block : ∀ k, k < w.heap.size → k ∉ T → w'.heap[k]? = w.heap[k]?

section
variable {T T' : List Nat} {w w1 w' : World}
theorem Off.refl (T : List Nat) (w : World) : Off T w w := ⟨rfl, rfl, rfl, Nat.le_refl _, fun _ _ _ => rfl⟩
theorem Off.trans (h : Off T w w1) (k : Off T' w1 w') (hT : ∀ b ∈ T', b ∈ T ∨ w.heap.size ≤ b) : Off T w w' :=
  ⟨k.os.trans h.os, k.tape.trans h.tape, k.output.trans h.output, Nat.le_trans h.size k.size, fun b hb hn =>
    (k.block b (Nat.lt_of_lt_of_le hb h.size) (fun hm => (hT b hm).elim hn (fun hle => Nat.not_lt.2 hle hb))).trans (h.block b hb hn)⟩
theorem Off.more (h : Off T w w') (hT : ∀ b ∈ T, b ∈ T') : Off T' w w' := ⟨h.os, h.tape, h.output, h.size, fun b hb hn => h.block b hb (fun hm => hn (hT b hm))⟩
theorem Off.of_below (h : Below w.heap.size w w') (T : List Nat) : Off T w w' := ⟨h.os, h.tape, h.output, h.size, fun b hb _ => h.block b hb⟩
theorem Off.below {B : Nat} (h : Off T w w') (hB : B ≤ w.heap.size) (hT : ∀ b ∈ T, B ≤ b) : Below B w w' :=
  ⟨h.os, h.tape, h.output, h.size, fun b hb => h.block b (Nat.lt_of_lt_of_le hb hB) (fun hm => Nat.not_lt.2 (hT b hm) hb)⟩
theorem Off.of_grown {row : Option Nat} (h : w.grownBy w' row) (hr : ∀ k, row = some k → k ∈ T ∨ w.heap.size ≤ k) : Off T w w' :=
  ⟨h.os, h.tape, h.output, h.size, fun b hb hn => h.block b hb (fun e => (hr b e.symm).elim hn (fun hle => Nat.not_lt.2 hle hb))⟩
theorem Off.alloc (h : Off T w w') (o : Obj) : Off T w (w'.alloc o) :=
  h.trans (T' := T) (.of_below ((Below.refl _ _).alloc (Nat.le_refl _) o) T) (fun _ hb => .inl hb)
theorem Off.drew (h : Off T w w') : Off T w w'.drew := ⟨h.os, h.tape, h.output, h.size, h.block⟩
theorem Off.drewN (h : Off T w w') (n : Nat) : Off T w (w'.drewN n) := ⟨h.os, h.tape, h.output, h.size, h.block⟩
theorem Off.cell (h : Off T w w') {a : Addr} {v : Value} (hc : w.cell? a = some v) (hb : a.block < w.heap.size) (hn : a.block ∉ T) : w'.cell? a = some v :=
  (World.cell?_of_block (h.block _ hb hn)).trans hc
theorem Off.frozen (h : Off T w w') {a : Addr} {v : Bool} (hc : w.frozen? a = v) (hb : a.block < w.heap.size) (hn : a.block ∉ T) : w'.frozen? a = v :=
  (World.frozen?_of_block (h.block _ hb hn)).trans hc
theorem Off.setCell (h : Off T w w') (p : Addr) (u : Value) (hp : p.block ∈ T ∨ w.heap.size ≤ p.block) : Off T w (w'.setCell p u) := by
  refine ⟨h.os, h.tape, h.output, by rw [setCell_size]; exact h.size, fun b hb hn => ?_⟩
  rw [← h.block b hb hn]
  have hne : b ≠ p.block := by
    rintro rfl
    exact hp.elim hn (fun hle => Nat.not_lt.2 hle hb)
  simp only [World.setCell, Array.getElem?_modify]
  rw [if_neg (fun e => hne e.symm)]
end

/-- A row of ints that nothing writes: it lies outside T. -/
def Ir (T : List Nat) (w : World) (A : Option Addr) (xs : List Int) : Prop :=
  xs = [] ∨ ∃ b o, A = some ⟨b, o, none⟩ ∧ b < w.heap.size ∧ b ∉ T ∧ ∀ j, j < xs.length → w.cell? ⟨b, o + j, none⟩ = some (.int .i64 (xs.getD j 0))
theorem Ir.nil {T : List Nat} {w : World} {A : Option Addr} : Ir T w A [] := .inl rfl
theorem Ir.off {T S T' : List Nat} {w w' : World} {A : Option Addr} {xs : List Int} (h : Ir T w A xs) (hf : Off S w w') (hS : ∀ b ∈ S, b ∈ T ∨ w.heap.size ≤ b) (hT : ∀ b ∈ T', b ∈ T ∨ w.heap.size ≤ b) : Ir T' w' A xs := by
  rcases h with h | ⟨b, o, rfl, hb, hn, hc⟩
  · exact .inl h
  · refine .inr ⟨b, o, rfl, Nat.lt_of_lt_of_le hb hf.size, fun hm => (hT b hm).elim hn (fun hle => Nat.not_lt.2 hle hb), fun j hj => ?_⟩
    exact hf.cell (a := ⟨b, o + j, none⟩) (hc j hj) hb (fun hm => (hS b hm).elim hn (fun hle => Nat.not_lt.2 hle hb))
theorem Ir.more {T T' : List Nat} {w : World} {A : Option Addr} {xs : List Int} (h : Ir T w A xs) (hT : ∀ b ∈ T', b ∈ T ∨ w.heap.size ≤ b) : Ir T' w A xs := h.off (S := []) (.refl _ _) (by simp) hT

/-- What a map of names says of a list of names. -/
abbrev kl (s : ByteArray) : Lit := .string s.data.toList
structure Nm (D : DataW Unit) (es : List (ByteArray × Nat)) : Prop where
  has : ∀ s : ByteArray, Maps.has D (kl s) = es.any (fun e => e.1.data.toList == s.data.toList)
  at_ : ∀ i (h : i < es.length), D.atKey (kl es[i].1) (.lit (.int .i64 0)) = .lit (.int .i64 (i : Int))
  once : (es.map (fun e => e.1.data.toList)).Nodup
  small : ∀ e ∈ es, e.1.size ≤ maxLen

theorem Nm.nil : Nm (.map []) [] := ⟨fun s => rfl, fun i h => by simp at h, by simp, by simp⟩
theorem kl_ne {a b : ByteArray} (h : a.data.toList ≠ b.data.toList) : kl a ≠ kl b := fun e => h (by injection e)
theorem Nm.push {D : DataW Unit} {es : List (ByteArray × Nat)} (h : Nm D es) (hD : Maps.IsMap D) (s : ByteArray) (l : Nat) (hs : es.any (fun e => e.1.data.toList == s.data.toList) = false) (hz : s.size ≤ maxLen) :
    Nm (D.put (kl s) (.lit (.int .i64 (es.length : Int)))) (es ++ [(s, l)]) := by
  have hno : ∀ e ∈ es, e.1.data.toList ≠ s.data.toList := by
    intro e he
    have := List.any_eq_false.1 hs e he
    simpa using this
  refine ⟨fun x => ?_, fun i hi => ?_, ?_, fun e he => ?_⟩
  · by_cases hx : x.data.toList = s.data.toList
    · have : kl x = kl s := by unfold kl; rw [hx]
      rw [this, Maps.has_put_same hD (by simp [WideAt.IsKeyLit])]
      simp [hx]
    · rw [Maps.has_put_other (kl_ne hx), h.has]
      have : (s.data.toList == x.data.toList) = false := beq_eq_false_iff_ne.2 (fun e => hx e.symm)
      rw [List.any_append, List.any_cons, List.any_nil, this, Bool.or_false, Bool.or_false]
  · by_cases hl : i < es.length
    · rw [List.getElem_append_left hl, Maps.atKey_put_other (kl_ne (hno _ (List.getElem_mem hl)))]
      exact h.at_ i hl
    · have hi' : i = es.length := by simp at hi; omega
      subst hi'
      simp only [List.getElem_concat_length]
      exact Maps.atKey_put_same hD (by simp [WideAt.IsKeyLit]) _ _
  · rw [List.map_append, List.nodup_append]
    refine ⟨h.once, by simp, ?_⟩
    intro a ha b hb
    simp at hb
    subst hb
    simp only [List.mem_map] at ha
    obtain ⟨e, he, rfl⟩ := ha
    exact hno e he
  · rcases List.mem_append.1 he with he | he
    · exact h.small e he
    · simp at he
      subst he
      exact hz
theorem Nm.pop {D : DataW Unit} {es : List (ByteArray × Nat)} {e : ByteArray × Nat} (h : Nm D (es ++ [e])) : Nm (D.del (kl e.1)) es := by
  have hn := h.once
  rw [List.map_append, List.nodup_append] at hn
  obtain ⟨h1, _, h3⟩ := hn
  have hno : ∀ x ∈ es, x.1.data.toList ≠ e.1.data.toList := fun x hx => h3 _ (List.mem_map.2 ⟨x, hx, rfl⟩) _ (by simp)
  refine ⟨fun s => ?_, fun i hi => ?_, h1, fun x hx => h.small x (List.mem_append_left _ hx)⟩
  · by_cases hs : s.data.toList = e.1.data.toList
    · have : kl s = kl e.1 := by unfold kl; rw [hs]
      rw [this, Maps.has_del_same]
      symm
      rw [List.any_eq_false]
      intro x hx
      rw [hs]
      simpa using hno x hx
    · rw [Maps.has_del_other (kl_ne hs), h.has]
      have : (e.1.data.toList == s.data.toList) = false := beq_eq_false_iff_ne.2 (fun e => hs e.symm)
      rw [List.any_append, List.any_cons, List.any_nil, this, Bool.or_false, Bool.or_false]
  · rw [Maps.atKey_del_other (kl_ne (hno _ (List.getElem_mem hi)))]
    have := h.at_ i (by simp; omega)
    rwa [List.getElem_append_left hi] at this
end Nt
end Go.Proofs.Ytlcgdiciiibeeaa
