
/-
  What the rows have in common: the listed table; a world for the witness; arguments opened; the last step.
  A whole number as a row's argument.
  A fraction as a row's argument.
-/
import Derived.Test.YtgmjdaallinicaaGreatDoorCards

import Derived.Test.YtgmjdaallinicaaGreatDoorTie

import Derived.Test.YtgmjdaallinicaaGreatDoorText2

import Derived.WalkKit

import Derived.ProofKit

import Derived.OpenShut

import Derived.Lay

import Derived.Stop.LaidErr

import Derived.Deep.DeepHandedRow

import Derived.Lib.LaidTab

import Derived.Lib.SmallJoins

namespace Go.Proofs.YtgmjdaallinicaaGreatDoor

open Go.ChangeShapes Go.WideShapes Go.ChangeAt Go.RowKit

namespace Nt

theorem own : ownKnob Tryz.prog.godebug = none := by kernel_rfl
theorem powG : Tryz.prog.globalNamed "internal/strconv.uint64pow10" = some 4 := by kernel_rfl

theorem cellsW : Tryz.prog.cellsOf 60 = 1 := by kernel_rfl

/-- The last step of a law's row: it answered, the old memory stands, the arguments are read again. -/
theorem law_post {H : Type} {enc : TypeId × Value → H} {P : Program} {f : Func} {s : ChangeSpec} {W W' : World} {args : Array Value} {v : Value} {ds gs : List (DataW H)} {before : List MemPlace}
    (hW : DataW.Whole enc P f.params.toList s.vars false W args.toList ds gs before) (hb : Below W.heap.size W W')
    (hargs : ∀ sp : Nat → Bool, (∀ p ∈ before, sp p.block = true) → DataW.TrodAll enc P W' 0 sp true f.params.toList args.toList (s.fn H (ds ++ gs)).args before)
    (hvars : ∀ sp : Nat → Bool, DataW.TrodVars enc P W' sp s.vars (s.fn H (ds ++ gs)).vars [])
    (hres : ∀ (b : Nat) (sp : Nat → Bool) (hd : Bool), DataW.TrodAll enc P W' b sp hd f.resultTypes.toList (v.resultList f.resultTypes.size) (s.fn H (ds ++ gs)).results [])
    (hok : ∀ (j : Nat) (t : TypeId) (r : Value), f.resultTypes[j]? = some t → (v.resultList f.resultTypes.size)[j]? = some r → Value.okWide P W' .any 0 t r) :
    s.post enc P f false true false false W args v W' := by
  have hlt : ∀ p ∈ before, p.block < W.heap.size := fun p hp => hW.lt p hp
  have low : ∀ p ∈ before, (fun b => decide (b < W.heap.size)) p.block = true := fun p hp => decide_eq_true (hlt p hp)
  have fr := hb.frame (· ∈ before)
  obtain ⟨_, _, _, _, _, hz, _⟩ := id hW
  refine ⟨ds, gs, before, [], before, [], hW, hres _ _ _, hargs _ low, hvars _, World.keptBut_mono (fun p hp => ⟨hp, .inr (.inl hp)⟩) fr, fun _ => ⟨hok, _, _, ([] ++ before) ++ [], ⟨[] ++ before, [], trodAll_append (hargs _ (fun _ _ => rfl)) (hres _ _ _), hvars _, rfl, ?_, ?_⟩, ?_⟩⟩
  · intro b off hp
    have hin : MemPlace.cell b off ∈ before := by simpa using hp
    rw [hb.frozen (hlt _ hin)]
    exact hz b off hin
  · intro ha
    cases ha
  · intro p hp _
    simpa using hp

set_option maxRecDepth 100000 in
/-- An argument of words: what it reads as, and that it reads so again. -/
theorem arg_words {H : Type} {enc : TypeId × Value → H} {W : World} {base : Nat} {v : Value} {d : DataW H} {p : List MemPlace} (hval : Value.okWide Tryz.prog W .any base 22 v) (h : DataW.Trod enc Tryz.prog W 0 (fun _ => true) true 22 v d p) :
    ∃ A c xs, v = .slice A xs.length c ∧ Sl W A xs ∧ Limbs xs ∧ xs.length ≤ maxLen ∧
      ∀ W', Below W.heap.size W W' → ∀ sp : Nat → Bool, (∀ x ∈ p, sp x.block = true) → DataW.Trod enc Tryz.prog W' 0 sp true 22 v d p := by
  obtain ⟨A, n, c, rfl⟩ := okWide_slice Tryz.underlying22 hval
  obtain ⟨fuel, hf⟩ := h
  rcases open_ints Tryz.underlying22 Tryz.underlying60 cellsW hf with ⟨hcs, hx⟩ | ⟨a, len, cap, zs, hcs, _, hl, hm, hz, hx, hcell, hw⟩
  · simp [Value.cells] at hcs
    obtain ⟨rfl, rfl, rfl⟩ := hcs
    simp only [Prod.mk.injEq] at hx
    obtain ⟨rfl, rfl⟩ := hx
    exact ⟨none, 0, [], rfl, .nil, .nil, Nat.zero_le _, fun W' _ sp _ => shut_slice_nil Tryz.underlying22⟩
  · simp [Value.cells] at hcs
    obtain ⟨rfl, rfl, rfl⟩ := hcs
    simp only [Prod.mk.injEq] at hx
    obtain ⟨rfl, rfl⟩ := hx
    simp only [if_true] at hz
    have hlen : ((zs.take n).map Int.toNat).length = n := by rw [List.length_map, List.length_take]; omega
    have hzn : ∀ i, i < zs.length → zs.getD i 0 = ((zs.getD i 0).toNat : Int) ∧ (zs.getD i 0).toNat < LB := by
      intro i hi
      have hb : IntKind.u64.min = 0 ∧ IntKind.u64.max = 18446744073709551615 := ⟨rfl, rfl⟩
      generalize hy : zs.getD i 0 = y
      have := hw y (by rw [← hy, List.getD_eq_getElem?_getD, List.getElem?_eq_getElem hi]; exact List.getElem_mem hi)
      simp only [Lit.wf, hb.1, hb.2, Bool.and_eq_true, decide_eq_true_eq] at this
      rw [LB_eq]
      omega
    refine ⟨some a, c, (zs.take n).map Int.toNat, by rw [hlen], ?_, ?_, by rw [hlen]; omega, ?_⟩
    · by_cases h0 : n = 0
      · subst h0; exact .inl (by simp)
      · obtain ⟨b, off, spot⟩ := a
        have hc0 := hcell 0 (by omega)
        have hspot : spot = none := by simpa [Addr.add] using World.cell?_spot hc0
        subst hspot
        refine .inr ⟨b, off, rfl, ?_, fun j hj => ?_⟩
        · have : ∃ y, W.heap[b]? = some y := by
            simp only [Addr.add, if_true, World.cell?] at hc0
            cases hh : W.heap[b]? with
            | none => rw [hh] at hc0; cases hc0
            | some y => exact ⟨y, rfl⟩
          obtain ⟨y, hy⟩ := this
          exact (Array.getElem?_eq_some_iff.1 hy).1
        · rw [hlen] at hj
          have := hcell j (by omega)
          rw [add_plain] at this
          rw [this, lim_some (by rw [hlen]; exact hj)]
          simp only [List.getElem_map, List.getElem_take]
          have e := (hzn j (by omega)).1
          rw [List.getD_eq_getElem?_getD, List.getElem?_eq_getElem (by omega)] at e ⊢
          simp only [Option.getD_some] at e ⊢
          rw [← e]
    · intro x hx
      obtain ⟨y, hy, rfl⟩ := List.mem_map.1 hx
      obtain ⟨i, hi, rfl⟩ := List.getElem_of_mem (List.mem_of_mem_take hy)
      have := (hzn i hi).2
      rwa [List.getD_eq_getElem?_getD, List.getElem?_eq_getElem hi, Option.getD_some] at this
    · intro W' hb sp hsp
      have hcell' : ∀ i, i < zs.length → W'.cell? (a.add i) = some (.int .u64 (zs.getD i 0)) := by
        intro i hi
        have h1 := hcell i hi
        have hlt : a.block < W.heap.size := by
          unfold World.cell? at h1
          rw [block_add] at h1
          cases hh : W.heap[a.block]? with
          | none => rw [hh] at h1; cases h1
          | some y => exact (Array.getElem?_eq_some_iff.1 hh).1
        rw [← h1]
        exact World.cell?_of_block (w := W) (by rw [block_add]; exact hb.block _ hlt)
      by_cases hz0 : zs.length = 0
      · have hc0 : c = 0 := by omega
        have hl0 : n = 0 := by omega
        subst hc0; subst hl0
        have t0 := shut_ints (enc := enc) (w := W') (base := 0) (spare := sp) (held := true) (a := a) (len := 0) (cap := 0) (zs := zs) 0 Tryz.underlying22 Tryz.underlying60 cellsW (Nat.zero_le _) (Nat.le_refl _) hm (by simp [hz0]) hcell' hw
        exact ⟨2, by simpa [Value.cells] using t0⟩
      · have hspb : sp a.block = true := hsp (.cell a.block a.off) (MemPlace.mem_row.2 ⟨0, by omega, by simp⟩)
        have t0 := shut_ints (enc := enc) (w := W') (base := 0) (spare := sp) (held := true) (a := a) (len := n) (cap := c) (zs := zs) 0 Tryz.underlying22 Tryz.underlying60 cellsW (Nat.zero_le _) hl hm (by simp [hspb, hz]) hcell' hw
        exact ⟨2, by simpa [Value.cells] using t0⟩
end Nt

end Go.Proofs.YtgmjdaallinicaaGreatDoor

namespace Go.Proofs.YtgmjdaallinicaaGreatDoor

open Go.ChangeShapes Go.WideShapes Go.ChangeAt Go.RowKit

namespace Nt

set_option maxRecDepth 100000 in
theorem arg_row {H : Type} {enc : TypeId × Value → H} {W : World} {v : Value} {d : DataW H} {p : List MemPlace} {fuel : Nat} (hf : DataW.trod enc Tryz.prog W 0 (fun _ => true) true fuel 22 [v] = some (d, p)) :
    ∃ A c xs, v = .slice A xs.length c ∧ Sl W A xs ∧ Limbs xs ∧ xs.length ≤ maxLen ∧
      ∀ W', Below W.heap.size W W' → ∀ sp : Nat → Bool, (∀ x ∈ p, sp x.block = true) → ∃ f, DataW.trod enc Tryz.prog W' 0 sp true f 22 [v] = some (d, p) := by
  rcases open_ints Tryz.underlying22 Tryz.underlying60 cellsW hf with ⟨hcs, hx⟩ | ⟨a, n, c, zs, hcs, _, hl, hm, hz, hx, hcell, hw⟩
  · obtain rfl : v = .slice none 0 0 := by simpa using hcs
    simp only [Prod.mk.injEq] at hx
    obtain ⟨rfl, rfl⟩ := hx
    exact ⟨none, 0, [], rfl, .nil, .nil, Nat.zero_le _, fun W' _ sp _ => by
      obtain ⟨f, hf⟩ := shut_slice_nil (enc := enc) (w := W') (base := 0) (spare := sp) (held := true) Tryz.underlying22
      exact ⟨f, by simpa [Value.cells] using hf⟩⟩
  · obtain rfl : v = .slice (some a) n c := by simpa using hcs
    simp only [Prod.mk.injEq] at hx
    obtain ⟨rfl, rfl⟩ := hx
    simp only [if_true] at hz
    have hlen : ((zs.take n).map Int.toNat).length = n := by rw [List.length_map, List.length_take]; omega
    have hzn : ∀ i, i < zs.length → zs.getD i 0 = ((zs.getD i 0).toNat : Int) ∧ (zs.getD i 0).toNat < LB := by
      intro i hi
      have hb : IntKind.u64.min = 0 ∧ IntKind.u64.max = 18446744073709551615 := ⟨rfl, rfl⟩
      generalize hy : zs.getD i 0 = y
      have := hw y (by rw [← hy, List.getD_eq_getElem?_getD, List.getElem?_eq_getElem hi]; exact List.getElem_mem hi)
      simp only [Lit.wf, hb.1, hb.2, Bool.and_eq_true, decide_eq_true_eq] at this
      rw [LB_eq]
      omega
    refine ⟨some a, c, (zs.take n).map Int.toNat, by rw [hlen], ?_, ?_, by rw [hlen]; omega, ?_⟩
    · by_cases h0 : n = 0
      · subst h0; exact .inl (by simp)
      · obtain ⟨b, off, spot⟩ := a
        have hc0 := hcell 0 (by omega)
        have hspot : spot = none := by simpa [Addr.add] using World.cell?_spot hc0
        subst hspot
        refine .inr ⟨b, off, rfl, ?_, fun j hj => ?_⟩
        · have : ∃ y, W.heap[b]? = some y := by
            simp only [Addr.add, if_true, World.cell?] at hc0
            cases hh : W.heap[b]? with
            | none => rw [hh] at hc0; cases hc0
            | some y => exact ⟨y, rfl⟩
          obtain ⟨y, hy⟩ := this
          exact (Array.getElem?_eq_some_iff.1 hy).1
        · rw [hlen] at hj
          have := hcell j (by omega)
          rw [add_plain] at this
          rw [this, lim_some (by rw [hlen]; exact hj)]
          simp only [List.getElem_map, List.getElem_take]
          have e := (hzn j (by omega)).1
          rw [List.getD_eq_getElem?_getD, List.getElem?_eq_getElem (by omega)] at e ⊢
          simp only [Option.getD_some] at e ⊢
          rw [← e]
    · intro x hx
      obtain ⟨y, hy, rfl⟩ := List.mem_map.1 hx
      obtain ⟨i, hi, rfl⟩ := List.getElem_of_mem (List.mem_of_mem_take hy)
      have := (hzn i hi).2
      rwa [List.getD_eq_getElem?_getD, List.getElem?_eq_getElem hi, Option.getD_some] at this
    · intro W' hb sp hsp
      have hcell' : ∀ i, i < zs.length → W'.cell? (a.add i) = some (.int .u64 (zs.getD i 0)) := by
        intro i hi
        have h1 := hcell i hi
        have hlt : a.block < W.heap.size := by
          unfold World.cell? at h1
          rw [block_add] at h1
          cases hh : W.heap[a.block]? with
          | none => rw [hh] at h1; cases h1
          | some y => exact (Array.getElem?_eq_some_iff.1 hh).1
        rw [← h1]
        exact World.cell?_of_block (w := W) (by rw [block_add]; exact hb.block _ hlt)
      by_cases hz0 : zs.length = 0
      · have hc0 : c = 0 := by omega
        have hl0 : n = 0 := by omega
        subst hc0; subst hl0
        have t0 := shut_ints (enc := enc) (w := W') (base := 0) (spare := sp) (held := true) (a := a) (len := 0) (cap := 0) (zs := zs) 0 Tryz.underlying22 Tryz.underlying60 cellsW (Nat.zero_le _) (Nat.le_refl _) hm (by simp [hz0]) hcell' hw
        exact ⟨2, by simpa using t0⟩
      · have hspb : sp a.block = true := hsp (.cell a.block a.off) (MemPlace.mem_row.2 ⟨0, by omega, by simp⟩)
        have t0 := shut_ints (enc := enc) (w := W') (base := 0) (spare := sp) (held := true) (a := a) (len := n) (cap := c) (zs := zs) 0 Tryz.underlying22 Tryz.underlying60 cellsW (Nat.zero_le _) hl hm (by simp [hspb, hz]) hcell' hw
        exact ⟨2, by simpa using t0⟩

theorem cellsI : Tryz.prog.cellsOf 41 = 2 := by kernel_rfl

set_option maxRecDepth 100000 in
/-- An argument that is a whole number: its sign, what its row reads as, and that it reads so again. -/
theorem arg_int {H : Type} {enc : TypeId × Value → H} {W : World} {base : Nat} {v : Value} {d : DataW H} {p : List MemPlace} (hval : Value.okWide Tryz.prog W .any base 41 v) (h : DataW.Trod enc Tryz.prog W 0 (fun _ => true) true 41 v d p) :
    ∃ s A c xs, v = .agg #[.bool s, .slice A xs.length c] ∧ Sl W A xs ∧ Limbs xs ∧ xs.length ≤ maxLen ∧
      ∀ W', Below W.heap.size W W' → ∀ sp : Nat → Bool, (∀ x ∈ p, sp x.block = true) → DataW.Trod enc Tryz.prog W' 0 sp true 41 v d p := by
  obtain ⟨v0, v1, y0, y1, n, rfl, rfl, rfl, t0, t1⟩ := Joins.open_agg2 Tryz.underlying41 (by kernel_rfl) cellsI hval h
  obtain ⟨s, hs, hy0⟩ := DataW.trod_bool Tryz.underlying4 t0
  obtain rfl : v0 = .bool s := by simpa using hs
  subst hy0
  obtain ⟨d1, p1⟩ := y1
  obtain ⟨A, c, xs, rfl, h1, h2, h3, h4⟩ := arg_row t1
  refine ⟨s, A, c, xs, rfl, h1, h2, h3, fun W' hb sp hsp => ?_⟩
  exact Joins.shut_agg2 Tryz.underlying41 (by kernel_rfl) cellsI ⟨1, by simp [DataW.trod, Tryz.underlying4]⟩ (h4 W' hb sp (fun x hx => hsp x (by simp [hx])))
end Nt

end Go.Proofs.YtgmjdaallinicaaGreatDoor

namespace Go.Proofs.YtgmjdaallinicaaGreatDoor

open Go.ChangeShapes Go.WideShapes Go.ChangeAt Go.RowKit

namespace Nt

section

open Go.ChangeShapes Go.WideShapes Go.ChangeAt Go.RowKit
theorem arg_cap3 {H : Type} {enc : TypeId × Value → H} {W : World} {A : Option Addr} {n c : Nat} {d : DataW H} {p : List MemPlace} (h : DataW.Trod enc Tryz.prog W 0 (fun _ => true) true 22 (.slice A n c) d p) : n ≤ c := by
  obtain ⟨fuel, hf⟩ := h
  rcases open_ints Tryz.underlying22 Tryz.underlying60 cellsW hf with ⟨hcs, _⟩ | ⟨a, len, cap, zs, hcs, _, hl, _, _, _, _, _⟩
  · simp [Value.cells] at hcs
    omega
  · simp [Value.cells] at hcs
    omega
end

end Nt

end Go.Proofs.YtgmjdaallinicaaGreatDoor
