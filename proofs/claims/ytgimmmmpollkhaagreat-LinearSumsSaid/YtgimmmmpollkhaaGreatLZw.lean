/-
  Reading: rows of the law 8's bindings.
-/
import Derived.Test.YtgimmmmpollkhaaGreatLZt
namespace Go.Proofs.YtgimmmmpollkhaaGreat
open Go.ChangeShapes Go.WideShapes Go.ChangeAt Go.RowKit
namespace Nt
set_option maxRecDepth 100000
set_option linter.unusedSimpArgs false
set_option linter.unusedVariables false
theorem cellsB8 : Tryz.prog.cellsOf 84 = 4 := by kernel_rfl
section
variable {H : Type} {enc : TypeId × Value → H} {W : World}
theorem read_bind8 {n : Nat} {cs : List Value} {y : DataW H × List MemPlace} (h : DataW.trod enc Tryz.prog W 0 (fun _ => true) true n 84 cs = some y) :
    ∃ p : Pt, cs = p.bcs ∧ p.At W ∧ (Limbs p.xs ∧ Limbs p.ys) ∧ p.Cap := by
  obtain ⟨xs, m, _, _, hl, hlen, hf⟩ := DataW.trod_struct Tryz.underlying84 h
  rw [cellsB8] at hl
  have hlen2 : xs.length = 2 := hlen
  match cs, hl with
  | [c0, c1, c2, c3], _ =>
    obtain ⟨y0, e0⟩ := getq (l := xs) (i := 0) (by omega)
    obtain ⟨y1, e1⟩ := getq (l := xs) (i := 1) (by omega)
    have f0 : DataW.trod enc Tryz.prog W 0 (fun _ => true) true m 3 (([c0, c1, c2, c3].drop 0).take (Tryz.prog.cellsOf 3)) = xs[0]? := hf 0 _ rfl
    have f1 : DataW.trod enc Tryz.prog W 0 (fun _ => true) true m 25 (([c0, c1, c2, c3].drop 1).take (Tryz.prog.cellsOf 25)) = xs[1]? := hf 1 _ rfl
    rw [e0] at f0; rw [e1] at f1
    (try dsimp only at f0 f1)
    rw [cellsI] at f0
    rw [cellsQ] at f1
    obtain ⟨p, q0, ha, hl, hk⟩ := read_ratC f1
    obtain ⟨t, q1, _, _⟩ := DataW.trod_int Tryz.underlying3 f0
    have q1' : c0 = .int .i64 t := by simpa using q1
    have q0' : [c1, c2, c3] = p.rcs := q0
    injection q0' with h0 h1
    injection h1 with h1 h2
    injection h2 with h2 _
    subst q1' h0 h1 h2
    exact ⟨p.as t, rfl, ha.as t, hl, hk⟩
theorem read_binds8 {n : Nat} {v : Value} {y : DataW H × List MemPlace} (hf : DataW.trod enc Tryz.prog W 0 (fun _ => true) true n 28 [v] = some y) :
    ∃ A k l, v = .slice A (l : List Pt).length k ∧ Bl W A l ∧ (∀ p ∈ l, Limbs p.xs ∧ Limbs p.ys) ∧ l.length ≤ k ∧ k ≤ maxLen := by
  rcases DataW.trod_slice Tryz.underlying28 hf with ⟨hcs, hx⟩ | ⟨a, len, cap, elems, rest, m, _, hcs, hx, _, hl, hm, hlen, hel, _, _⟩
  · obtain rfl : v = .slice none 0 0 := by simpa using hcs
    exact ⟨none, 0, [], rfl, .inl rfl, fun p hp => by simp at hp, Nat.zero_le _, Nat.zero_le _⟩
  · obtain rfl : v = .slice (some a) len cap := by simpa using hcs
    rw [cellsB8] at hel
    have hall : ∀ i : _root_.Fin len, ∃ b : Pt, (∀ k, k < 4 → W.cell? ((a.add (i.1 * 4)).add k) = b.bcs[k]?) ∧ b.At W ∧ (Limbs b.xs ∧ Limbs b.ys) := by
      intro i
      have h1 := hel i.1 i.2
      rw [List.getElem?_eq_getElem (by rw [hlen]; exact i.2), Option.bind_eq_some_iff] at h1
      obtain ⟨cs, h2, h3⟩ := h1
      obtain ⟨_, _, h4⟩ := World.cells?_some h2
      obtain ⟨b, rfl, q1, q2, _⟩ := read_bind8 h3
      exact ⟨b, h4, q1, q2⟩
    obtain ⟨f, hfc⟩ := Classical.skolem.1 hall
    have hln : (List.ofFn f).length = len := by simp
    refine ⟨some a, cap, List.ofFn f, by rw [hln], ?_, fun b hb => ?_, by rw [hln]; exact hl, hm⟩
    · by_cases h0 : len = 0
      · exact .inl (List.eq_nil_of_length_eq_zero (by rw [hln]; exact h0))
      · obtain ⟨b, off, spot⟩ := a
        obtain ⟨z1, _⟩ := hfc ⟨0, by omega⟩
        have hspot : spot = none := by
          have := World.cell?_spot (z1 0 (by omega))
          simpa [Addr.add] using this
        subst hspot
        refine .inr ⟨b, off, rfl, fun j hj => ?_⟩
        have hjn : j < len := by rw [hln] at hj; exact hj
        obtain ⟨h1, h2, _⟩ := hfc ⟨j, hjn⟩
        simp only [Addr.add_lit] at h1
        have e : (List.ofFn f)[j] = f ⟨j, hjn⟩ := by simp
        rw [e]
        exact ⟨⟨h1 0 (by omega), h1 1 (by omega), h1 2 (by omega), h1 3 (by omega)⟩, h2⟩
    · obtain ⟨j, hj, rfl⟩ := List.getElem_of_mem hb
      have hjn : j < len := by rw [hln] at hj; exact hj
      have e : (List.ofFn f)[j] = f ⟨j, hjn⟩ := by simp
      rw [e]
      exact (hfc ⟨j, hjn⟩).2.2
theorem arg_binds8 {base : Nat} {v : Value} {d : DataW H} {p : List MemPlace} (hval : Value.okWide Tryz.prog W .any base 28 v) (h : DataW.Trod enc Tryz.prog W 0 (fun _ => true) true 28 v d p) :
    ∃ A k l, v = .slice A (l : List Pt).length k ∧ Bl W A l ∧ (∀ p ∈ l, Limbs p.xs ∧ Limbs p.ys) ∧ l.length ≤ k ∧ k ≤ maxLen ∧
      ∀ W', Below W.heap.size W W' → ∀ sp : Nat → Bool, (∀ x ∈ p, sp x.block = true) → DataW.Trod enc Tryz.prog W' 0 sp true 28 v d p := by
  have hag := fun (W' : World) (hb : Below W.heap.size W W') (sp : Nat → Bool) (hsp : ∀ x ∈ p, sp x.block = true) => again (of_decide_eq_true (by kernel_rfl)) h hb sp hsp
  obtain ⟨A, n, c, rfl⟩ := okWide_slice Tryz.underlying28 hval
  obtain ⟨fuel, hf⟩ := h
  have hf' : DataW.trod enc Tryz.prog W 0 (fun _ => true) true fuel 28 [.slice A n c] = some (d, p) := hf
  obtain ⟨A, k, l, e, hB, hL, hk, hm⟩ := read_binds8 hf'
  exact ⟨A, k, l, e, hB, hL, hk, hm, hag⟩
end
end Nt
end Go.Proofs.YtgimmmmpollkhaaGreat
