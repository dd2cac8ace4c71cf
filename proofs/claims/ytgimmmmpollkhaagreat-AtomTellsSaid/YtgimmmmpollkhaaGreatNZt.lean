
/-
  Arguments of sums and numbers: what they read as, and that they read so again; the last step of a row.
  Arguments with their capacities; rows of bindings; atoms.
-/
import Derived.Test.YtgimmmmpollkhaaGreatRows
import Derived.Test.YtgimmmmpollkhaaGreatNYt
import Derived.WalkKit
import Derived.ProofKit
import Derived.OpenShut
import Derived.Lay
import Derived.Stop.LaidErr
import Derived.Deep.DeepHandedRow
import Derived.Lib.LaidTab
import Derived.Lib.SmallJoins
import Derived.ReadAgain
import Derived.ChangeArms
import Derived.ChangeSame
import Derived.DataReads
import Derived.ChangeOld
import Derived.Test.YtgimmmmpollkhaaGreatNZo
import Derived.Test.YtgimmmmpollkhaaGreatNZd
namespace Go.Proofs.YtgimmmmpollkhaaGreat

open Go.ChangeShapes Go.WideShapes Go.ChangeAt Go.RowKit

namespace Nt
set_option maxRecDepth 100000
set_option linter.unusedSimpArgs false
set_option linter.unusedVariables false

theorem own : ownKnob Tryz.prog.godebug = none := by kernel_rfl
theorem cellsW : Tryz.prog.cellsOf 119 = 1 := by kernel_rfl
theorem cellsI : Tryz.prog.cellsOf 3 = 1 := by kernel_rfl
theorem cellsB : Tryz.prog.cellsOf 4 = 1 := by kernel_rfl
theorem cellsU : Tryz.prog.cellsOf 23 = 1 := by kernel_rfl
theorem cellsL : Tryz.prog.cellsOf 22 = 1 := by kernel_rfl
theorem cellsQ : Tryz.prog.cellsOf 25 = 3 := by kernel_rfl
theorem cellsT : Tryz.prog.cellsOf 83 = 4 := by kernel_rfl
theorem cellsP : Tryz.prog.cellsOf 27 = 4 := by kernel_rfl

theorem law_post {H : Type} {enc : TypeId × Value → H} {P : Program} {f : Func} {s : ChangeSpec} {W W' : World} {args : Array Value} {v : Value} {ds gs : List (DataW H)} {before : List MemPlace}
    (hW : DataW.Whole enc P f.params.toList s.vars false W args.toList ds gs before) (hb : Below W.heap.size W W')
    (hargs : ∀ sp : Nat → Bool, (∀ p ∈ before, sp p.block = true) → DataW.TrodAll enc P W' 0 sp true f.params.toList args.toList (s.fn H (ds ++ gs)).args before)
    (hvars : ∀ sp : Nat → Bool, DataW.TrodVars enc P W' sp s.vars (s.fn H (ds ++ gs)).vars [])
    (hres : ∀ (b : Nat) (sp : Nat → Bool) (hd : Bool), DataW.TrodAll enc P W' b sp hd f.resultTypes.toList (v.resultList f.resultTypes.size) (s.fn H (ds ++ gs)).results [])
    (hok : ∀ (j : Nat) (t : TypeId) (r : Value), f.resultTypes[j]? = some t → (v.resultList f.resultTypes.size)[j]? = some r → Value.okWide P W' .any 0 t r) :
    s.post enc P f false true false false W args v W' := by
  have hlt : ∀ p ∈ before, p.block < W.heap.size := fun p hp => hW.lt p hp
  have low : ∀ p ∈ before, (fun b => decide (b < W.heap.size)) p.block = true := fun p hp => decide_eq_true (hlt p hp)
  have fr := hb.frame (· ∈ before)
  obtain ⟨_, _, _, _, _, hz, _⟩ := id hW
  refine ⟨ds, gs, before, [], before, [], hW, hres _ _ _, hargs _ low, hvars _, World.keptBut_mono (fun p hp => ⟨hp, .inr (.inl hp)⟩) fr, fun _ => ⟨hok, _, _, ([] ++ before) ++ [], ⟨[] ++ before, [], trodAll_append (hargs _ (fun _ _ => rfl)) (hres _ _ _), hvars _, rfl, ?_, ?_⟩, ?_⟩⟩
  · intro b off hp
    have hin : MemPlace.cell b off ∈ before := by simpa using hp
    rw [hb.frozen (hlt _ hin)]
    exact hz b off hin
  · intro ha
    cases ha
  · intro p hp _
    simpa using hp

theorem slicesFull : ((List.range Tryz.prog.types.size).all fun t => match Tryz.prog.underlying t with | some (.slice e) => decide (0 < Tryz.prog.cellsOf e) | _ => true) = true := by kernel_rfl
theorem again {H : Type} {enc : TypeId × Value → H} {W W' : World} {t : TypeId} {v : Value} {d : DataW H} {p : List MemPlace} (ht : t < Tryz.prog.types.size) (h : DataW.Trod enc Tryz.prog W 0 (fun _ => true) true t v d p) (hb : Below W.heap.size W W') (sp : Nat → Bool) (hsp : ∀ x ∈ p, sp x.block = true) :
    DataW.Trod enc Tryz.prog W' 0 sp true t v d p := by
  have K : Kids Tryz.prog (· < Tryz.prog.types.size) := kids_rows (by kernel_rfl) (by kernel_rfl)
  have h1 : DataW.Trod enc Tryz.prog W 0 sp true t v d p := h.respare K (fun t e ht hu => slices_full_of Tryz.prog slicesFull t e ht hu) ht hsp
  obtain ⟨n, hn⟩ := h1
  refine ⟨n, DataW.trod_carry n _ _ _ hn (fun x hx => ?_)⟩
  have hlt := DataW.trod_lt n _ _ _ hn x hx
  cases x with
  | cell b off => exact World.cell?_of_block (w := W) (hb.block b hlt)
  | map b => exact hb.block b hlt
section

variable {H : Type} {enc : TypeId × Value → H} {W : World}
theorem getq {α : Type} {l : List α} {i : Nat} (h : i < l.length) : ∃ y, l[i]? = some y := ⟨l[i], List.getElem?_eq_getElem h⟩
theorem read_row {n : Nat} {v : Value} {y : DataW H × List MemPlace} (hf : DataW.trod enc Tryz.prog W 0 (fun _ => true) true n 23 [v] = some y) :
    ∃ A c xs, v = .slice A (xs : List Nat).length c ∧ Sl W A xs ∧ Limbs xs ∧ xs.length ≤ c := by
  rcases open_ints Tryz.underlying23 Tryz.underlying119 cellsW hf with ⟨hcs, hx⟩ | ⟨a, n, c, zs, hcs, _, hl, hm, hz, hx, hcell, hw⟩
  · obtain rfl : v = .slice none 0 0 := by simpa using hcs
    exact ⟨none, 0, [], rfl, .nil, .nil, Nat.zero_le _⟩
  · obtain rfl : v = .slice (some a) n c := by simpa using hcs
    simp only [if_true] at hz
    have hlen : ((zs.take n).map Int.toNat).length = n := by rw [List.length_map, List.length_take]; omega
    have hzn : ∀ i, i < zs.length → zs.getD i 0 = ((zs.getD i 0).toNat : Int) ∧ (zs.getD i 0).toNat < LB := by
      intro i hi
      have hb : IntKind.u64.min = 0 ∧ IntKind.u64.max = 18446744073709551615 := ⟨rfl, rfl⟩
      generalize hy : zs.getD i 0 = y
      have := hw y (by rw [← hy, List.getD_eq_getElem?_getD, List.getElem?_eq_getElem hi]; exact List.getElem_mem hi)
      simp only [Lit.wf, hb.1, hb.2, Bool.and_eq_true, decide_eq_true_eq] at this
      rw [LB_eq]
      omega
    refine ⟨some a, c, (zs.take n).map Int.toNat, by rw [hlen], ?_, ?_, by rw [hlen]; omega⟩
    · by_cases h0 : n = 0
      · subst h0; exact .inl (by simp)
      · obtain ⟨b, off, spot⟩ := a
        have hc0 := hcell 0 (by omega)
        have hspot : spot = none := by simpa [Addr.add] using World.cell?_spot hc0
        subst hspot
        refine .inr ⟨b, off, rfl, ?_, fun j hj => ?_⟩
        · have : ∃ y, W.heap[b]? = some y := by
            simp only [Addr.add, if_true, World.cell?] at hc0
            cases hh : W.heap[b]? with
            | none => rw [hh] at hc0; cases hc0
            | some y => exact ⟨y, rfl⟩
          obtain ⟨y, hy⟩ := this
          exact (Array.getElem?_eq_some_iff.1 hy).1
        · rw [hlen] at hj
          have := hcell j (by omega)
          rw [add_plain] at this
          rw [this, lim_some (by rw [hlen]; exact hj)]
          simp only [List.getElem_map, List.getElem_take]
          have e := (hzn j (by omega)).1
          rw [List.getD_eq_getElem?_getD, List.getElem?_eq_getElem (by omega)] at e ⊢
          simp only [Option.getD_some] at e ⊢
          rw [← e]
    · intro x hx
      obtain ⟨y, hy, rfl⟩ := List.mem_map.1 hx
      obtain ⟨i, hi, rfl⟩ := List.getElem_of_mem (List.mem_of_mem_take hy)
      have := (hzn i hi).2
      rwa [List.getD_eq_getElem?_getD, List.getElem?_eq_getElem hi, Option.getD_some] at this
end
noncomputable def lw (os : Os) : World := World.laidAll Tryz.prog os Rows.linearRingsRow.laid
theorem lw_met (os : Os) (args : Array Value) : laidMet Tryz.prog Rows.linearRingsRow.laid ((lw os).forCall (fun _ _ => 0) ⟨#[], args, []⟩).memory :=
  laidMet_laidAll args (by kernel_rfl) (by kernel_rfl)
end Nt

end Go.Proofs.YtgimmmmpollkhaaGreat

namespace Go.Proofs.YtgimmmmpollkhaaGreat

open Go.ChangeShapes Go.WideShapes Go.ChangeAt Go.RowKit

namespace Nt
set_option maxRecDepth 100000
set_option linter.unusedSimpArgs false
set_option linter.unusedVariables false

theorem cellsB9 : Tryz.prog.cellsOf 79 = 4 := by kernel_rfl
theorem cellsA : Tryz.prog.cellsOf 58 = 7 := by kernel_rfl
section

variable {H : Type} {enc : TypeId × Value → H} {W : World}
theorem read_ratC {n : Nat} {cs : List Value} {y : DataW H × List MemPlace} (h : DataW.trod enc Tryz.prog W 0 (fun _ => true) true n 25 cs = some y) :
    ∃ p : Pt, cs = p.rcs ∧ p.At W ∧ (Limbs p.xs ∧ Limbs p.ys) ∧ p.Cap := by
  obtain ⟨xs, m, _, _, hl, hlen, hf⟩ := DataW.trod_struct Tryz.underlying25 h
  rw [cellsQ] at hl
  have hlen3 : xs.length = 3 := hlen
  match cs, hl with
  | [c0, c1, c2], _ =>
    obtain ⟨y0, e0⟩ := getq (l := xs) (i := 0) (by omega)
    obtain ⟨y1, e1⟩ := getq (l := xs) (i := 1) (by omega)
    obtain ⟨y2, e2⟩ := getq (l := xs) (i := 2) (by omega)
    have f0 : DataW.trod enc Tryz.prog W 0 (fun _ => true) true m 4 (([c0, c1, c2].drop 0).take (Tryz.prog.cellsOf 4)) = xs[0]? := hf 0 _ rfl
    have f1 : DataW.trod enc Tryz.prog W 0 (fun _ => true) true m 23 (([c0, c1, c2].drop 1).take (Tryz.prog.cellsOf 23)) = xs[1]? := hf 1 _ rfl
    have f2 : DataW.trod enc Tryz.prog W 0 (fun _ => true) true m 23 (([c0, c1, c2].drop 2).take (Tryz.prog.cellsOf 23)) = xs[2]? := hf 2 _ rfl
    rw [e0] at f0; rw [e1] at f1; rw [e2] at f2
    (try dsimp only at f0 f1 f2)
    rw [cellsB] at f0
    rw [cellsU] at f1 f2
    obtain ⟨s, z0, _⟩ := DataW.trod_bool Tryz.underlying4 f0
    obtain ⟨A, a, us, q1, s1, l1, k1⟩ := read_row f1
    obtain ⟨B, b, vs, q2, s2, l2, k2⟩ := read_row f2
    have z0' : c0 = .bool s := by simpa using z0
    subst z0' q1 q2
    exact ⟨⟨s, A, a, us, B, b, vs, 0⟩, rfl, ⟨s1, s2⟩, ⟨l1, l2⟩, k1, k2⟩
theorem read_partC {n : Nat} {cs : List Value} {y : DataW H × List MemPlace} (h : DataW.trod enc Tryz.prog W 0 (fun _ => true) true n 83 cs = some y) :
    ∃ p : Pt, cs = p.cs ∧ p.At W ∧ (Limbs p.xs ∧ Limbs p.ys) ∧ p.Cap := by
  obtain ⟨xs, m, _, _, hl, hlen, hf⟩ := DataW.trod_struct Tryz.underlying83 h
  rw [cellsT] at hl
  have hlen2 : xs.length = 2 := hlen
  match cs, hl with
  | [c0, c1, c2, c3], _ =>
    obtain ⟨y0, e0⟩ := getq (l := xs) (i := 0) (by omega)
    obtain ⟨y1, e1⟩ := getq (l := xs) (i := 1) (by omega)
    have f0 : DataW.trod enc Tryz.prog W 0 (fun _ => true) true m 25 (([c0, c1, c2, c3].drop 0).take (Tryz.prog.cellsOf 25)) = xs[0]? := hf 0 _ rfl
    have f1 : DataW.trod enc Tryz.prog W 0 (fun _ => true) true m 3 (([c0, c1, c2, c3].drop 3).take (Tryz.prog.cellsOf 3)) = xs[1]? := hf 1 _ rfl
    rw [e0] at f0; rw [e1] at f1
    (try dsimp only at f0 f1)
    rw [cellsQ] at f0
    rw [cellsI] at f1
    obtain ⟨p, q0, ha, hl, hk⟩ := read_ratC f0
    obtain ⟨t, q1, _, _⟩ := DataW.trod_int Tryz.underlying3 f1
    have q1' : c3 = .int .i64 t := by simpa using q1
    have q0' : [c0, c1, c2] = p.rcs := q0
    injection q0' with h0 h1
    injection h1 with h1 h2
    injection h2 with h2 _
    subst q1' h0 h1 h2
    exact ⟨p.as t, rfl, ha.as t, hl, hk⟩
theorem read_bind {n : Nat} {cs : List Value} {y : DataW H × List MemPlace} (h : DataW.trod enc Tryz.prog W 0 (fun _ => true) true n 79 cs = some y) :
    ∃ p : Pt, cs = p.bcs ∧ p.At W ∧ (Limbs p.xs ∧ Limbs p.ys) ∧ p.Cap := by
  obtain ⟨xs, m, _, _, hl, hlen, hf⟩ := DataW.trod_struct Tryz.underlying79 h
  rw [cellsB9] at hl
  have hlen2 : xs.length = 2 := hlen
  match cs, hl with
  | [c0, c1, c2, c3], _ =>
    obtain ⟨y0, e0⟩ := getq (l := xs) (i := 0) (by omega)
    obtain ⟨y1, e1⟩ := getq (l := xs) (i := 1) (by omega)
    have f0 : DataW.trod enc Tryz.prog W 0 (fun _ => true) true m 3 (([c0, c1, c2, c3].drop 0).take (Tryz.prog.cellsOf 3)) = xs[0]? := hf 0 _ rfl
    have f1 : DataW.trod enc Tryz.prog W 0 (fun _ => true) true m 25 (([c0, c1, c2, c3].drop 1).take (Tryz.prog.cellsOf 25)) = xs[1]? := hf 1 _ rfl
    rw [e0] at f0; rw [e1] at f1
    (try dsimp only at f0 f1)
    rw [cellsI] at f0
    rw [cellsQ] at f1
    obtain ⟨p, q0, ha, hl, hk⟩ := read_ratC f1
    obtain ⟨t, q1, _, _⟩ := DataW.trod_int Tryz.underlying3 f0
    have q1' : c0 = .int .i64 t := by simpa using q1
    have q0' : [c1, c2, c3] = p.rcs := q0
    injection q0' with h0 h1
    injection h1 with h1 h2
    injection h2 with h2 _
    subst q1' h0 h1 h2
    exact ⟨p.as t, rfl, ha.as t, hl, hk⟩
theorem read_partsC {n : Nat} {v : Value} {y : DataW H × List MemPlace} (hf : DataW.trod enc Tryz.prog W 0 (fun _ => true) true n 22 [v] = some y) :
    ∃ A k l, v = .slice A (l : List Pt).length k ∧ Pl W A l ∧ (∀ p ∈ l, (Limbs p.xs ∧ Limbs p.ys) ∧ p.Cap) ∧ l.length ≤ k ∧ k ≤ maxLen := by
  rcases DataW.trod_slice Tryz.underlying22 hf with ⟨hcs, hx⟩ | ⟨a, len, cap, elems, rest, m, _, hcs, hx, _, hl, hm, hlen, hel, _, _⟩
  · obtain rfl : v = .slice none 0 0 := by simpa using hcs
    exact ⟨none, 0, [], rfl, .inl rfl, fun p hp => by simp at hp, Nat.zero_le _, Nat.zero_le _⟩
  · obtain rfl : v = .slice (some a) len cap := by simpa using hcs
    rw [cellsT] at hel
    have hall : ∀ i : _root_.Fin len, ∃ b : Pt, (∀ k, k < 4 → W.cell? ((a.add (i.1 * 4)).add k) = b.cs[k]?) ∧ b.At W ∧ (Limbs b.xs ∧ Limbs b.ys) ∧ b.Cap := by
      intro i
      have h1 := hel i.1 i.2
      rw [List.getElem?_eq_getElem (by rw [hlen]; exact i.2), Option.bind_eq_some_iff] at h1
      obtain ⟨cs, h2, h3⟩ := h1
      obtain ⟨_, _, h4⟩ := World.cells?_some h2
      obtain ⟨b, rfl, q⟩ := read_partC h3
      exact ⟨b, h4, q⟩
    obtain ⟨f, hfc⟩ := Classical.skolem.1 hall
    have hln : (List.ofFn f).length = len := by simp
    refine ⟨some a, cap, List.ofFn f, by rw [hln], ?_, fun b hb => ?_, by rw [hln]; exact hl, hm⟩
    · by_cases h0 : len = 0
      · exact .inl (List.eq_nil_of_length_eq_zero (by rw [hln]; exact h0))
      · obtain ⟨b, off, spot⟩ := a
        obtain ⟨z1, _⟩ := hfc ⟨0, by omega⟩
        have hspot : spot = none := by
          have := World.cell?_spot (z1 0 (by omega))
          simpa [Addr.add] using this
        subst hspot
        refine .inr ⟨b, off, rfl, fun j hj => ?_⟩
        have hjn : j < len := by rw [hln] at hj; exact hj
        obtain ⟨h1, h2, _⟩ := hfc ⟨j, hjn⟩
        simp only [Addr.add_lit] at h1
        have e : (List.ofFn f)[j] = f ⟨j, hjn⟩ := by simp
        rw [e]
        exact ⟨⟨h1 0 (by omega), h1 1 (by omega), h1 2 (by omega), h1 3 (by omega)⟩, h2⟩
    · obtain ⟨j, hj, rfl⟩ := List.getElem_of_mem hb
      have hjn : j < len := by rw [hln] at hj; exact hj
      have e : (List.ofFn f)[j] = f ⟨j, hjn⟩ := by simp
      rw [e]
      exact (hfc ⟨j, hjn⟩).2.2
theorem read_binds {n : Nat} {v : Value} {y : DataW H × List MemPlace} (hf : DataW.trod enc Tryz.prog W 0 (fun _ => true) true n 59 [v] = some y) :
    ∃ A k l, v = .slice A (l : List Pt).length k ∧ Bl W A l ∧ (∀ p ∈ l, Limbs p.xs ∧ Limbs p.ys) ∧ l.length ≤ k ∧ k ≤ maxLen := by
  rcases DataW.trod_slice Tryz.underlying59 hf with ⟨hcs, hx⟩ | ⟨a, len, cap, elems, rest, m, _, hcs, hx, _, hl, hm, hlen, hel, _, _⟩
  · obtain rfl : v = .slice none 0 0 := by simpa using hcs
    exact ⟨none, 0, [], rfl, .inl rfl, fun p hp => by simp at hp, Nat.zero_le _, Nat.zero_le _⟩
  · obtain rfl : v = .slice (some a) len cap := by simpa using hcs
    rw [cellsB9] at hel
    have hall : ∀ i : _root_.Fin len, ∃ b : Pt, (∀ k, k < 4 → W.cell? ((a.add (i.1 * 4)).add k) = b.bcs[k]?) ∧ b.At W ∧ (Limbs b.xs ∧ Limbs b.ys) := by
      intro i
      have h1 := hel i.1 i.2
      rw [List.getElem?_eq_getElem (by rw [hlen]; exact i.2), Option.bind_eq_some_iff] at h1
      obtain ⟨cs, h2, h3⟩ := h1
      obtain ⟨_, _, h4⟩ := World.cells?_some h2
      obtain ⟨b, rfl, q1, q2, _⟩ := read_bind h3
      exact ⟨b, h4, q1, q2⟩
    obtain ⟨f, hfc⟩ := Classical.skolem.1 hall
    have hln : (List.ofFn f).length = len := by simp
    refine ⟨some a, cap, List.ofFn f, by rw [hln], ?_, fun b hb => ?_, by rw [hln]; exact hl, hm⟩
    · by_cases h0 : len = 0
      · exact .inl (List.eq_nil_of_length_eq_zero (by rw [hln]; exact h0))
      · obtain ⟨b, off, spot⟩ := a
        obtain ⟨z1, _⟩ := hfc ⟨0, by omega⟩
        have hspot : spot = none := by
          have := World.cell?_spot (z1 0 (by omega))
          simpa [Addr.add] using this
        subst hspot
        refine .inr ⟨b, off, rfl, fun j hj => ?_⟩
        have hjn : j < len := by rw [hln] at hj; exact hj
        obtain ⟨h1, h2, _⟩ := hfc ⟨j, hjn⟩
        simp only [Addr.add_lit] at h1
        have e : (List.ofFn f)[j] = f ⟨j, hjn⟩ := by simp
        rw [e]
        exact ⟨⟨h1 0 (by omega), h1 1 (by omega), h1 2 (by omega), h1 3 (by omega)⟩, h2⟩
    · obtain ⟨j, hj, rfl⟩ := List.getElem_of_mem hb
      have hjn : j < len := by rw [hln] at hj; exact hj
      have e : (List.ofFn f)[j] = f ⟨j, hjn⟩ := by simp
      rw [e]
      exact (hfc ⟨j, hjn⟩).2.2
theorem read_polyC {n : Nat} {cs : List Value} {y : DataW H × List MemPlace} (h : DataW.trod enc Tryz.prog W 0 (fun _ => true) true n 27 cs = some y) :
    ∃ A k l, ∃ c : Pt, cs = .slice A (l : List Pt).length k :: c.rcs ∧ Pl W A l ∧ c.At W ∧ (∀ p ∈ l, (Limbs p.xs ∧ Limbs p.ys) ∧ p.Cap) ∧ (Limbs c.xs ∧ Limbs c.ys) ∧ l.length ≤ k ∧ k ≤ maxLen := by
  obtain ⟨xs, m, _, _, hl, hlen, hff⟩ := DataW.trod_struct Tryz.underlying27 h
  rw [cellsP] at hl
  have hlen2 : xs.length = 2 := hlen
  match cs, hl with
  | [c0, c1, c2, c3], _ =>
    obtain ⟨y0, e0⟩ := getq (l := xs) (i := 0) (by omega)
    obtain ⟨y1, e1⟩ := getq (l := xs) (i := 1) (by omega)
    have f0 : DataW.trod enc Tryz.prog W 0 (fun _ => true) true m 22 (([c0, c1, c2, c3].drop 0).take (Tryz.prog.cellsOf 22)) = xs[0]? := hff 0 _ rfl
    have f1 : DataW.trod enc Tryz.prog W 0 (fun _ => true) true m 25 (([c0, c1, c2, c3].drop 1).take (Tryz.prog.cellsOf 25)) = xs[1]? := hff 1 _ rfl
    rw [e0] at f0; rw [e1] at f1
    (try dsimp only at f0 f1)
    rw [cellsL] at f0
    rw [cellsQ] at f1
    obtain ⟨A, k, l, q0, hP, hL, hk, hm⟩ := read_partsC f0
    obtain ⟨c, q1, ha, hc, _⟩ := read_ratC f1
    have q1' : [c1, c2, c3] = c.rcs := q1
    exact ⟨A, k, l, c, by rw [← q1', q0], hP, ha, hL, hc, hk, hm⟩
theorem arg_atom {base : Nat} {v : Value} {d : DataW H} {p : List MemPlace} (hval : Value.okWide Tryz.prog W .any base 58 v) (h : DataW.Trod enc Tryz.prog W 0 (fun _ => true) true 58 v d p) :
    ∃ kd A k l c a b, v = atomV kd A (l : List Pt).length k c a b ∧ Pl W A l ∧ c.At W ∧ (∀ p ∈ l, (Limbs p.xs ∧ Limbs p.ys) ∧ p.Cap) ∧ (Limbs c.xs ∧ Limbs c.ys) ∧ l.length ≤ k ∧ k ≤ maxLen ∧
      ∀ W', Below W.heap.size W W' → ∀ sp : Nat → Bool, (∀ x ∈ p, sp x.block = true) → DataW.Trod enc Tryz.prog W' 0 sp true 58 v d p := by
  have hag := fun (W' : World) (hb : Below W.heap.size W W') (sp : Nat → Bool) (hsp : ∀ x ∈ p, sp x.block = true) => again (of_decide_eq_true (by kernel_rfl)) h hb sp hsp
  obtain ⟨cs, rfl, hsz⟩ := okWide_struct Tryz.underlying58 hval
  rw [cellsA] at hsz
  obtain ⟨fuel, hf⟩ := h
  obtain ⟨xs, m, _, _, hl, hlen, hff⟩ := DataW.trod_struct Tryz.underlying58 hf
  have hlen4 : xs.length = 4 := hlen
  obtain ⟨c0, c1, c2, c3, c4, c5, c6, rfl⟩ : ∃ c0 c1 c2 c3 c4 c5 c6, cs = #[c0, c1, c2, c3, c4, c5, c6] := by
    match cs, hsz with
    | ⟨[c0, c1, c2, c3, c4, c5, c6]⟩, _ => exact ⟨c0, c1, c2, c3, c4, c5, c6, rfl⟩
  obtain ⟨y0, e0⟩ := getq (l := xs) (i := 0) (by omega)
  obtain ⟨y1, e1⟩ := getq (l := xs) (i := 1) (by omega)
  obtain ⟨y2, e2⟩ := getq (l := xs) (i := 2) (by omega)
  obtain ⟨y3, e3⟩ := getq (l := xs) (i := 3) (by omega)
  have f0 : DataW.trod enc Tryz.prog W 0 (fun _ => true) true m 3 (([c0, c1, c2, c3, c4, c5, c6].drop 0).take (Tryz.prog.cellsOf 3)) = xs[0]? := hff 0 _ rfl
  have f1 : DataW.trod enc Tryz.prog W 0 (fun _ => true) true m 27 (([c0, c1, c2, c3, c4, c5, c6].drop 1).take (Tryz.prog.cellsOf 27)) = xs[1]? := hff 1 _ rfl
  have f2 : DataW.trod enc Tryz.prog W 0 (fun _ => true) true m 3 (([c0, c1, c2, c3, c4, c5, c6].drop 5).take (Tryz.prog.cellsOf 3)) = xs[2]? := hff 2 _ rfl
  have f3 : DataW.trod enc Tryz.prog W 0 (fun _ => true) true m 3 (([c0, c1, c2, c3, c4, c5, c6].drop 6).take (Tryz.prog.cellsOf 3)) = xs[3]? := hff 3 _ rfl
  rw [e0] at f0; rw [e1] at f1; rw [e2] at f2; rw [e3] at f3
  (try dsimp only at f0 f1 f2 f3)
  rw [cellsI] at f0 f2 f3
  rw [cellsP] at f1
  obtain ⟨kd, q0, _, _⟩ := DataW.trod_int Tryz.underlying3 f0
  obtain ⟨a, q2, _, _⟩ := DataW.trod_int Tryz.underlying3 f2
  obtain ⟨b, q3, _, _⟩ := DataW.trod_int Tryz.underlying3 f3
  obtain ⟨A, k, l, c, e, hP, ha, hL, hc, hk, hm⟩ := read_polyC f1
  have q0' : c0 = .int .i64 kd := by simpa using q0
  have q2' : c5 = .int .i64 a := by simpa using q2
  have q3' : c6 = .int .i64 b := by simpa using q3
  have e' : [c1, c2, c3, c4] = .slice A l.length k :: c.rcs := e
  injection e' with h0 h1
  have h1' : [c2, c3, c4] = [.bool c.s, .slice c.A c.xs.length c.a, .slice c.B c.ys.length c.b] := h1
  injection h1' with h1 h2
  injection h2 with h2 h3
  injection h3 with h3 _
  subst q0' q2' q3' h0 h1 h2 h3
  exact ⟨kd, A, k, l, c, a, b, rfl, hP, ha, hL, hc, hk, hm, hag⟩
theorem arg_binds {base : Nat} {v : Value} {d : DataW H} {p : List MemPlace} (hval : Value.okWide Tryz.prog W .any base 59 v) (h : DataW.Trod enc Tryz.prog W 0 (fun _ => true) true 59 v d p) :
    ∃ A k l, v = .slice A (l : List Pt).length k ∧ Bl W A l ∧ (∀ p ∈ l, Limbs p.xs ∧ Limbs p.ys) ∧ l.length ≤ k ∧ k ≤ maxLen ∧
      ∀ W', Below W.heap.size W W' → ∀ sp : Nat → Bool, (∀ x ∈ p, sp x.block = true) → DataW.Trod enc Tryz.prog W' 0 sp true 59 v d p := by
  have hag := fun (W' : World) (hb : Below W.heap.size W W') (sp : Nat → Bool) (hsp : ∀ x ∈ p, sp x.block = true) => again (of_decide_eq_true (by kernel_rfl)) h hb sp hsp
  obtain ⟨A, n, c, rfl⟩ := okWide_slice Tryz.underlying59 hval
  obtain ⟨fuel, hf⟩ := h
  have hf' : DataW.trod enc Tryz.prog W 0 (fun _ => true) true fuel 59 [.slice A n c] = some (d, p) := hf
  obtain ⟨A, k, l, e, hB, hL, hk, hm⟩ := read_binds hf'
  exact ⟨A, k, l, e, hB, hL, hk, hm, hag⟩
end

end Nt

end Go.Proofs.YtgimmmmpollkhaaGreat
