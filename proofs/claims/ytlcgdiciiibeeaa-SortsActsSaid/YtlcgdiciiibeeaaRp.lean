/-
  What plain rows have in common: a world for the witness; arguments opened; the last step.
-/
import Derived.Test.YtlcgdiciiibeeaaRows
import Derived.Test.YtlcgdiciiibeeaaTz
import Derived.WalkKit
import Derived.ProofKit
import Derived.OpenShut
import Derived.Lay
import Derived.Stop.LaidErr
import Derived.Deep.DeepHandedRow
import Derived.Lib.LaidTab
import Derived.Lib.SmallJoins
namespace Go.Proofs.Ytlcgdiciiibeeaa
open Go.ChangeShapes Go.WideShapes Go.ChangeAt Go.RowKit
namespace Nt

theorem own : ownKnob Try.prog.godebug = none := by kernel_rfl
theorem cellsI : Try.prog.cellsOf 3 = 1 := by kernel_rfl

/-- The last step of a law's row: it answered, the old memory stands, the arguments are read again. -/
theorem law_post {H : Type} {enc : TypeId × Value → H} {P : Program} {f : Func} {s : ChangeSpec} {W W' : World} {args : Array Value} {v : Value} {ds gs : List (DataW H)} {before : List MemPlace}
    (hW : DataW.Whole enc P f.params.toList s.vars false W args.toList ds gs before) (hb : Below W.heap.size W W')
    (hargs : ∀ sp : Nat → Bool, (∀ p ∈ before, sp p.block = true) → DataW.TrodAll enc P W' 0 sp true f.params.toList args.toList (s.fn H (ds ++ gs)).args before)
    (hvars : ∀ sp : Nat → Bool, DataW.TrodVars enc P W' sp s.vars (s.fn H (ds ++ gs)).vars [])
    (hres : ∀ (b : Nat) (sp : Nat → Bool) (hd : Bool), DataW.TrodAll enc P W' b sp hd f.resultTypes.toList (v.resultList f.resultTypes.size) (s.fn H (ds ++ gs)).results [])
    (hok : ∀ (j : Nat) (t : TypeId) (r : Value), f.resultTypes[j]? = some t → (v.resultList f.resultTypes.size)[j]? = some r → Value.okWide P W' .any 0 t r) :
    s.post enc P f false true false false W args v W' := by
  have hlt : ∀ p ∈ before, p.block < W.heap.size := fun p hp => hW.lt p hp
  have low : ∀ p ∈ before, (fun b => decide (b < W.heap.size)) p.block = true := fun p hp => decide_eq_true (hlt p hp)
  have fr := hb.frame (· ∈ before)
  obtain ⟨_, _, _, _, _, hz, _⟩ := id hW
  refine ⟨ds, gs, before, [], before, [], hW, hres _ _ _, hargs _ low, hvars _, World.keptBut_mono (fun p hp => ⟨hp, .inr (.inl hp)⟩) fr, fun _ => ⟨hok, _, _, ([] ++ before) ++ [], ⟨[] ++ before, [], trodAll_append (hargs _ (fun _ _ => rfl)) (hres _ _ _), hvars _, rfl, ?_, ?_⟩, ?_⟩⟩
  · intro b off hp
    have hin : MemPlace.cell b off ∈ before := by simpa using hp
    rw [hb.frozen (hlt _ hin)]
    exact hz b off hin
  · intro ha
    cases ha
  · intro p hp _
    simpa using hp

set_option maxRecDepth 100000 in
/-- An argument of ints: what it reads as, and that it reads so again. -/
theorem arg_ints {H : Type} {enc : TypeId × Value → H} {W : World} {base : Nat} {v : Value} {d : DataW H} {p : List MemPlace} (hval : Value.okWide Try.prog W .any base 33 v) (h : DataW.Trod enc Try.prog W 0 (fun _ => true) true 33 v d p) :
    ∃ A c xs, v = .slice A xs.length c ∧ Ir [] W A xs ∧ xs.length ≤ maxLen ∧ xs.length ≤ c ∧
      ∀ W', Below W.heap.size W W' → ∀ sp : Nat → Bool, (∀ x ∈ p, sp x.block = true) → DataW.Trod enc Try.prog W' 0 sp true 33 v d p := by
  obtain ⟨A, n, c, rfl⟩ := okWide_slice Try.underlying33 hval
  obtain ⟨fuel, hf⟩ := h
  rcases open_ints Try.underlying33 Try.underlying3 cellsI hf with ⟨hcs, hx⟩ | ⟨a, len, cap, zs, hcs, _, hl, hm, hz, hx, hcell, hw⟩
  · simp [Value.cells] at hcs
    obtain ⟨rfl, rfl, rfl⟩ := hcs
    simp only [Prod.mk.injEq] at hx
    obtain ⟨rfl, rfl⟩ := hx
    exact ⟨none, 0, [], rfl, .inl rfl, Nat.zero_le _, Nat.le_refl _, fun W' _ sp _ => shut_slice_nil Try.underlying33⟩
  · simp [Value.cells] at hcs
    obtain ⟨rfl, rfl, rfl⟩ := hcs
    simp only [Prod.mk.injEq] at hx
    obtain ⟨rfl, rfl⟩ := hx
    simp only [if_true] at hz
    have hlen : (zs.take n).length = n := by rw [List.length_take]; omega
    refine ⟨some a, c, zs.take n, by rw [hlen], ?_, by rw [hlen]; omega, by rw [hlen]; omega, ?_⟩
    · by_cases h0 : n = 0
      · subst h0; exact .inl (by simp)
      · obtain ⟨b, off, spot⟩ := a
        have hc0 := hcell 0 (by omega)
        have hspot : spot = none := by simpa [Addr.add] using World.cell?_spot hc0
        subst hspot
        refine .inr ⟨b, off, rfl, ?_, by simp, fun j hj => ?_⟩
        · have : ∃ y, W.heap[b]? = some y := by
            simp only [Addr.add, if_true, World.cell?] at hc0
            cases hh : W.heap[b]? with
            | none => rw [hh] at hc0; cases hc0
            | some y => exact ⟨y, rfl⟩
          obtain ⟨y, hy⟩ := this
          exact (Array.getElem?_eq_some_iff.1 hy).1
        · rw [hlen] at hj
          have := hcell j (by omega)
          rw [Addr.add_lit] at this
          rw [this]
          simp only [List.getD_eq_getElem?_getD, List.getElem?_take_of_lt hj]
    · intro W' hb sp hsp
      have hcell' : ∀ i, i < zs.length → W'.cell? (a.add i) = some (.int .i64 (zs.getD i 0)) := by
        intro i hi
        have h1 := hcell i hi
        have hlt : a.block < W.heap.size := by
          unfold World.cell? at h1
          rw [block_add] at h1
          cases hh : W.heap[a.block]? with
          | none => rw [hh] at h1; cases h1
          | some y => exact (Array.getElem?_eq_some_iff.1 hh).1
        rw [← h1]
        exact World.cell?_of_block (w := W) (by rw [block_add]; exact hb.block _ hlt)
      by_cases hz0 : zs.length = 0
      · have hc0 : c = 0 := by omega
        have hl0 : n = 0 := by omega
        subst hc0; subst hl0
        have t0 := shut_ints (enc := enc) (w := W') (base := 0) (spare := sp) (held := true) (a := a) (len := 0) (cap := 0) (zs := zs) 0 Try.underlying33 Try.underlying3 cellsI (Nat.zero_le _) (Nat.le_refl _) hm (by simp [hz0]) hcell' hw
        exact ⟨2, by simpa [Value.cells] using t0⟩
      · have hspb : sp a.block = true := hsp (.cell a.block a.off) (MemPlace.mem_row.2 ⟨0, by omega, by simp⟩)
        have t0 := shut_ints (enc := enc) (w := W') (base := 0) (spare := sp) (held := true) (a := a) (len := n) (cap := c) (zs := zs) 0 Try.underlying33 Try.underlying3 cellsI (Nat.zero_le _) hl hm (by simp [hspb, hz]) hcell' hw
        exact ⟨2, by simpa [Value.cells] using t0⟩

/-- A world for the witness. -/
noncomputable def lw (os : Os) : World := World.laidAll Try.prog os Rows.sortsNamesRow.laid
theorem lw_met (os : Os) (args : Array Value) : laidMet Try.prog Rows.sortsNamesRow.laid ((lw os).forCall (fun _ _ => 0) ⟨#[], args, []⟩).memory :=
  laidMet_laidAll args (by kernel_rfl) (by kernel_rfl)
end Nt
end Go.Proofs.Ytlcgdiciiibeeaa
