/-
  An argument of acts: what it reads as, and that it reads so again.
-/
import Derived.Test.YtlcgdiciiibeeaaRl
import Derived.Test.YtlcgdiciiibeeaaRp
import Derived.ReadAgain
import Derived.ChangeArms
import Derived.ChangeSame
import Derived.DataReads
import Derived.ChangeOld
namespace Go.Proofs.Ytlcgdiciiibeeaa
open Go.ChangeShapes Go.WideShapes Go.ChangeAt Go.RowKit
namespace Nt
set_option maxRecDepth 100000
set_option linter.unusedSimpArgs false
set_option linter.unusedVariables false
theorem cellsAct : Try.prog.cellsOf 37 = 6 := by kernel_rfl
theorem cellsFun : Try.prog.cellsOf 35 = 3 := by kernel_rfl
theorem slicesFull : ((List.range Try.prog.types.size).all fun t => match Try.prog.underlying t with | some (.slice e) => decide (0 < Try.prog.cellsOf e) | _ => true) = true := by kernel_rfl
/-- Whatever was read is read again, where the old memory stands. -/
theorem again {H : Type} {enc : TypeId × Value → H} {W W' : World} {t : TypeId} {v : Value} {d : DataW H} {p : List MemPlace} (ht : t < Try.prog.types.size) (h : DataW.Trod enc Try.prog W 0 (fun _ => true) true t v d p) (hb : Below W.heap.size W W') (sp : Nat → Bool) (hsp : ∀ x ∈ p, sp x.block = true) :
    DataW.Trod enc Try.prog W' 0 sp true t v d p := by
  have K : Kids Try.prog (· < Try.prog.types.size) := kids_rows (by kernel_rfl) (by kernel_rfl)
  have h1 : DataW.Trod enc Try.prog W 0 sp true t v d p := h.respare K (fun t e ht hu => slices_full_of Try.prog slicesFull t e ht hu) ht hsp
  obtain ⟨n, hn⟩ := h1
  refine ⟨n, DataW.trod_carry n _ _ _ hn (fun x hx => ?_)⟩
  have hlt := DataW.trod_lt n _ _ _ hn x hx
  cases x with
  | cell b off => exact World.cell?_of_block (w := W) (hb.block b hlt)
  | map b => exact hb.block b hlt
section
variable {H : Type} {enc : TypeId × Value → H} {W : World}
theorem getq {α : Type} {l : List α} {i : Nat} (h : i < l.length) : ∃ y, l[i]? = some y := ⟨l[i], List.getElem?_eq_getElem h⟩
theorem cell_lt {a : Addr} {v : Value} (h : W.cell? a = some v) : a.block < W.heap.size := by
  unfold World.cell? at h
  cases hh : W.heap[a.block]? with
  | none => rw [hh] at h; cases h
  | some y => exact (Array.getElem?_eq_some_iff.1 hh).1
theorem read_ints {n : Nat} {c3 : Value} {y : DataW H × List MemPlace} (h : DataW.trod enc Try.prog W 0 (fun _ => true) true n 33 [c3] = some y) : ∃ A c ar, c3 = .slice A (ar : List Int).length c ∧ Ib W.heap.size W A ar ∧ (A = none → c = 0) ∧ ar.length ≤ maxLen := by
  rcases open_ints Try.underlying33 Try.underlying3 cellsI h with ⟨hcs, hx⟩ | ⟨a, len, cap, zs, hcs, _, hl, hm, hz, hx, hcell, hw⟩
  · cases hcs
    exact ⟨none, 0, [], rfl, .inl rfl, fun _ => rfl, Nat.zero_le _⟩
  · cases hcs
    simp only [if_true] at hz
    have hlen : (zs.take len).length = len := by rw [List.length_take]; omega
    refine ⟨some a, cap, zs.take len, by rw [hlen], ?_, by simp, by rw [hlen]; omega⟩
    by_cases h0 : len = 0
    · subst h0; exact .inl (by simp)
    · obtain ⟨b, off, spot⟩ := a
      have hc0 := hcell 0 (by omega)
      have hspot : spot = none := by simpa [Addr.add] using World.cell?_spot hc0
      subst hspot
      refine .inr ⟨b, off, rfl, ?_, fun j hj => ?_⟩
      · have := cell_lt hc0
        rwa [block_add] at this
      · rw [hlen] at hj
        have := hcell j (by omega)
        rw [Addr.add_lit] at this
        rw [this]
        simp only [List.getD_eq_getElem?_getD, List.getElem?_take_of_lt hj]
theorem read_act {n : Nat} {cs : List Value} {y : DataW H × List MemPlace} (h : DataW.trod enc Try.prog W 0 (fun _ => true) true n 37 cs = some y) :
    ∃ (a : Ac) (A : Option Addr) (c : Nat), cs = [.int .i64 a.kd, .string a.nm, .string a.f.nm, .slice A a.f.ar.length c, .int .i64 a.f.rs, .int .i64 a.n] ∧ Ib W.heap.size W A a.f.ar ∧ (A = none → c = 0) ∧ a.nm.size ≤ maxLen ∧ a.f.nm.size ≤ maxLen ∧ a.f.ar.length ≤ maxLen := by
  obtain ⟨xs, m, _, _, hl, hlen, hf⟩ := DataW.trod_struct Try.underlying37 h
  rw [cellsAct] at hl
  have hlen4 : xs.length = 4 := hlen
  match cs, hl with
  | [c0, c1, c2, c3, c4, c5], _ =>
    have cellsS : Try.prog.cellsOf 9 = 1 := by kernel_rfl
    have cellsL : Try.prog.cellsOf 33 = 1 := by kernel_rfl
    obtain ⟨y0, e0⟩ := getq (l := xs) (i := 0) (by omega)
    obtain ⟨y1, e1⟩ := getq (l := xs) (i := 1) (by omega)
    obtain ⟨y2, e2⟩ := getq (l := xs) (i := 2) (by omega)
    obtain ⟨y3, e3⟩ := getq (l := xs) (i := 3) (by omega)
    have f0 : DataW.trod enc Try.prog W 0 (fun _ => true) true m 3 (([c0, c1, c2, c3, c4, c5].drop 0).take (Try.prog.cellsOf 3)) = xs[0]? := hf 0 _ rfl
    have f1 : DataW.trod enc Try.prog W 0 (fun _ => true) true m 9 (([c0, c1, c2, c3, c4, c5].drop 1).take (Try.prog.cellsOf 9)) = xs[1]? := hf 1 _ rfl
    have f2 : DataW.trod enc Try.prog W 0 (fun _ => true) true m 35 (([c0, c1, c2, c3, c4, c5].drop 2).take (Try.prog.cellsOf 35)) = xs[2]? := hf 2 _ rfl
    have f3 : DataW.trod enc Try.prog W 0 (fun _ => true) true m 3 (([c0, c1, c2, c3, c4, c5].drop 5).take (Try.prog.cellsOf 3)) = xs[3]? := hf 3 _ rfl
    rw [e0] at f0; rw [e1] at f1; rw [e2] at f2; rw [e3] at f3
    (try dsimp only at f0 f1 f2 f3)
    rw [cellsI] at f0 f3
    rw [cellsS] at f1
    rw [cellsFun] at f2
    obtain ⟨k0, z0, _, _⟩ := DataW.trod_int Try.underlying3 f0
    obtain ⟨k1, z1, _, s1⟩ := DataW.trod_string Try.underlying9 f1
    obtain ⟨k3, z3, _, _⟩ := DataW.trod_int Try.underlying3 f3
    obtain ⟨us, m2, _, _, hl2, hlen2, hf2⟩ := DataW.trod_struct Try.underlying35 f2
    have hlen3 : us.length = 3 := hlen2
    obtain ⟨u0, d0⟩ := getq (l := us) (i := 0) (by omega)
    obtain ⟨u1, d1⟩ := getq (l := us) (i := 1) (by omega)
    obtain ⟨u2, d2⟩ := getq (l := us) (i := 2) (by omega)
    have g0 : DataW.trod enc Try.prog W 0 (fun _ => true) true m2 9 (([c2, c3, c4].drop 0).take (Try.prog.cellsOf 9)) = us[0]? := hf2 0 _ rfl
    have g1 : DataW.trod enc Try.prog W 0 (fun _ => true) true m2 33 (([c2, c3, c4].drop 1).take (Try.prog.cellsOf 33)) = us[1]? := hf2 1 _ rfl
    have g2 : DataW.trod enc Try.prog W 0 (fun _ => true) true m2 3 (([c2, c3, c4].drop 2).take (Try.prog.cellsOf 3)) = us[2]? := hf2 2 _ rfl
    rw [d0] at g0; rw [d1] at g1; rw [d2] at g2
    (try dsimp only at g0 g1 g2)
    rw [cellsS] at g0
    rw [cellsL] at g1
    rw [cellsI] at g2
    obtain ⟨w0, q0, _, t0⟩ := DataW.trod_string Try.underlying9 g0
    obtain ⟨A, c, ar, q1, hI, hc, ha⟩ := read_ints g1
    obtain ⟨w2, q2, _, _⟩ := DataW.trod_int Try.underlying3 g2
    have z0' : c0 = .int .i64 k0 := by simpa using z0
    have z1' : c1 = .string k1 := by simpa using z1
    have z3' : c5 = .int .i64 k3 := by simpa using z3
    have q0' : c2 = .string w0 := by simpa using q0
    have q2' : c4 = .int .i64 w2 := by simpa using q2
    subst z0' z1' z3' q0' q2' q1
    exact ⟨⟨k0, k1, ⟨w0, ar, w2⟩, k3⟩, A, c, rfl, hI, hc, s1, t0, ha⟩

theorem arg_acts {base : Nat} {v : Value} {d : DataW H} {p : List MemPlace} (hval : Value.okWide Try.prog W .any base 22 v) (h : DataW.Trod enc Try.prog W 0 (fun _ => true) true 22 v d p) :
    ∃ A c xs, v = .slice A (xs : List Ac).length c ∧ Av W.heap.size W A xs ∧ xs.length ≤ maxLen ∧ (∀ a ∈ xs, a.nm.size ≤ maxLen ∧ a.f.nm.size ≤ maxLen ∧ a.f.ar.length ≤ maxLen) ∧
      ∀ W', Below W.heap.size W W' → ∀ sp : Nat → Bool, (∀ x ∈ p, sp x.block = true) → DataW.Trod enc Try.prog W' 0 sp true 22 v d p := by
  have hag := fun (W' : World) (hb : Below W.heap.size W W') (sp : Nat → Bool) (hsp : ∀ x ∈ p, sp x.block = true) => again (of_decide_eq_true (by kernel_rfl)) h hb sp hsp
  obtain ⟨A, n, c, rfl⟩ := okWide_slice Try.underlying22 hval
  obtain ⟨fuel, hf⟩ := h
  rcases DataW.trod_slice Try.underlying22 hf with ⟨hcs, hx⟩ | ⟨a, len, cap, elems, rest, m, _, hcs, hx, _, hl, hm, hlen, hel, _, _⟩
  · simp [Value.cells] at hcs
    obtain ⟨rfl, rfl, rfl⟩ := hcs
    exact ⟨none, 0, [], rfl, fun j hj => by simp at hj, Nat.zero_le _, by simp, hag⟩
  · simp [Value.cells] at hcs
    obtain ⟨rfl, rfl, rfl⟩ := hcs
    rw [cellsAct] at hel
    have hall : ∀ i : Fin n, ∃ (b : Ac) (A : Option Addr) (c : Nat), (∀ k, k < 6 → W.cell? ((a.add (i.1 * 6)).add k) = ([.int .i64 b.kd, .string b.nm, .string b.f.nm, .slice A b.f.ar.length c, .int .i64 b.f.rs, .int .i64 b.n] : List Value)[k]?) ∧ Ib W.heap.size W A b.f.ar ∧ (A = none → c = 0) ∧ b.nm.size ≤ maxLen ∧ b.f.nm.size ≤ maxLen ∧ b.f.ar.length ≤ maxLen := by
      intro i
      have h1 := hel i.1 i.2
      rw [List.getElem?_eq_getElem (by rw [hlen]; exact i.2), Option.bind_eq_some_iff] at h1
      obtain ⟨cs, h2, h3⟩ := h1
      obtain ⟨_, _, h4⟩ := World.cells?_some h2
      obtain ⟨b, A, c, rfl, q⟩ := read_act h3
      exact ⟨b, A, c, h4, q⟩
    obtain ⟨f, hfc⟩ := Classical.skolem.1 hall
    have hln : (List.ofFn f).length = n := by simp
    refine ⟨some a, c, List.ofFn f, by rw [hln], fun j hj => ?_, by rw [hln]; omega, fun b hb => ?_, hag⟩
    · have hjn : j < n := by rw [hln] at hj; exact hj
      obtain ⟨fA, fc, h1, h2, h3, _⟩ := hfc ⟨j, hjn⟩
      obtain ⟨b, off, spot⟩ := a
      obtain ⟨_, _, z1, _⟩ := hfc ⟨0, by omega⟩
      have hspot : spot = none := by
        have := World.cell?_spot (z1 0 (by omega))
        simpa [Addr.add] using this
      subst hspot
      simp only [Addr.add_lit] at h1
      have hlt := cell_lt (h1 0 (by omega))
      have e : (List.ofFn f)[j] = f ⟨j, hjn⟩ := by simp
      refine ⟨b, off, rfl, hlt, ?_⟩
      rw [e]
      exact ⟨fA, fc, h1 0 (by omega), h1 1 (by omega), h1 2 (by omega), h1 3 (by omega), h1 4 (by omega), h1 5 (by omega), h2, h3⟩
    · obtain ⟨j, hj, rfl⟩ := List.getElem_of_mem hb
      have hjn : j < n := by rw [hln] at hj; exact hj
      have e : (List.ofFn f)[j] = f ⟨j, hjn⟩ := by simp
      rw [e]
      obtain ⟨_, _, _, _, _, q⟩ := hfc ⟨j, hjn⟩
      exact q
end
end Nt
end Go.Proofs.Ytlcgdiciiibeeaa
