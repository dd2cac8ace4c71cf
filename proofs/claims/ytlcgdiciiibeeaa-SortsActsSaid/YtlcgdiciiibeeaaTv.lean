/-
  All functions of a table: the order of names, a list that is made, the sort.
-/
import Derived.Shelf.SlSortCmp.WholeK
import Derived.Sort.Walk0
import Derived.Test.YtlcgdiciiibeeaaShf
import Derived.Test.YtlcgdiciiibeeaaTu
namespace Go.Proofs.Ytlcgdiciiibeeaa
open Go.ChangeShapes Go.RowKit Go.Lib Go.Sort
namespace Nt
set_option maxRecDepth 100000
set_option linter.unusedSimpArgs false
set_option linter.unusedVariables false

theorem cb_less : ∀ a b : List UInt8, decide (Lib.compareBytes a b < 0) = decide (a < b)
  | [], [] => by simp [Lib.compareBytes]
  | [], b :: bs => by simp [Lib.compareBytes]
  | a :: ar, [] => by simp [Lib.compareBytes]
  | a :: ar, b :: bs => by
    have ih := cb_less ar bs
    simp only [decide_eq_decide] at ih ⊢
    unfold Lib.compareBytes
    rw [List.cons_lt_cons_iff]
    by_cases h1 : a < b
    · simp [h1]
    · by_cases h2 : b < a
      · rw [if_neg h1, if_pos h2]
        have hne : a ≠ b := fun e => by subst e; exact h1 h2
        simp [h1, hne]
      · have e : a = b := by
          have := UInt8.le_antisymm (UInt8.not_lt.1 h2) (UInt8.not_lt.1 h1)
          exact this
        subst e
        simp [ih]

/-- A function, and where its list lies. -/
structure FE where
  f : Fn
  A : Option Addr
  c : Nat
instance : Inhabited FE := ⟨⟨⟨⟨#[]⟩, [], 0⟩, none, 0⟩⟩
def FE.enc (x : FE) : List Value := [.string x.f.nm, .slice x.A x.f.ar.length x.c, .int .i64 x.f.rs]
def FE.cf (x y : FE) : Int := Lib.compareBytes x.f.nm.data.toList y.f.nm.data.toList
theorem FE.lt_eq (x y : FE) : ltOf FE.cf x y = decide (x.f.nm.data.toList < y.f.nm.data.toList) := cb_less _ _
theorem FE.swo : SWO (ltOf FE.cf) where
  irrefl x := by rw [FE.lt_eq]; simp
  trans x y z h1 h2 := by
    rw [FE.lt_eq] at *
    simp only [decide_eq_true_eq] at *
    exact List.lt_trans h1 h2
  ntrans x y z h1 h2 := by
    rw [FE.lt_eq] at *
    simp only [decide_eq_false_iff_not, List.not_lt] at *
    exact List.le_trans h2 h1

theorem cmp_fun2 (x y : FE) (W : World) : Calls Try.prog 44 #[.agg #[.string x.f.nm, .slice x.A x.f.ar.length x.c, .int .i64 x.f.rs], .agg #[.string y.f.nm, .slice y.A y.f.ar.length y.c, .int .i64 y.f.rs]] W fun e w' => e = .returned (.int .i64 (FE.cf x y)) ∧ ∃ q os', w' = grow (W.drewN q) os' := by
  have h := fun w => Try.strings_Compare x.f.nm y.f.nm w
  unfold FE.cf
  generalize Lib.compareBytes x.f.nm.data.toList y.f.nm.data.toList = r at h ⊢
  generalize x.f.nm = xa at *
  generalize y.f.nm = xb at *
  go_enter Try.func44, Try.ntmps44
  go_wp2_with (go_at_call 45; (with_reducible refine (h _).mono ?_); rintro e w' ⟨rfl, rfl⟩)
  go_ret
  exact ⟨rfl, 0, _, by rw [alloc_eq_grow, alloc_eq_grow, grow_grow]; rfl⟩

theorem off_sorted {w : World} {g n : Nat} {os : Array Obj} (d : Array Value) : Off [g] w (grow (putRow id (Sort.ahead w n) g 0 d) os) := by
  refine ⟨rfl, rfl, rfl, by simp, fun k hk hne => ?_⟩
  rw [heap_grow_old _ _ (by simpa using hk)]
  have : g ≠ k := fun e => hne (by simp [e])
  simp [putRow, mapBlock, Sort.ahead, Array.getElem?_modify, this]

/-- The row's list behind a sort. -/
theorem sort_funs (w : World) (g cap : Nat) (d : Array FE) (hH : HoldsK FE.enc 3 w g 0 d) (hg : g < w.heap.size) (hsz : d.size ≤ 1000000) :
    Calls Try.prog 43 #[.slice (some ⟨g, 0, none⟩) d.size cap, .func (.func 44) #[] #[]] w fun e w' => e = .returned (.tuple #[]) ∧ ∃ d' : Array FE, d'.toList.Perm d.toList ∧ SortedIn (ltOf FE.cf) 0 d.size d' ∧ HoldsK FE.enc 3 w' g 0 d' ∧ Off [g] w w' := by
  have eg : ∀ args w, (callFunc 44 args).run Try.prog w = .ok (.enter 44 args) w := enters_of Try.func44 (by kernel_rfl) rfl
  refine (AnyQ.slices_SortFunc Try.sortFn 3 Try.isAgg35 Try.sizeOf35 FE.enc (fun _ => rfl) (fun x v hv => by simp [FE.enc] at hv; rcases hv with rfl | rfl | rfl <;> rfl) FE.cf FE.swo 44 #[] g 0 cap d w eg (fun _ _ _ _ x y => cmp_fun2 x y _) hH hg (by omega)).mono fun e w' ⟨he, d', n, os, hp, hs, hw⟩ => ⟨he, d', ?_, hs, ?_, ?_⟩
  · have h1 := hp.2.2
    have e1 : d.extract 0 d.size = d := by simp
    have e2 : d'.extract 0 d.size = d' := by rw [← hp.1]; simp
    rwa [e1, e2] at h1
  · rw [hw]
    exact holdsK_sortWorldK_c FE.enc 3 w g 0 d d' n os hH hg hp.1
  · rw [hw]
    exact off_sorted _

theorem holds_get {w : World} {g : Nat} {d : Array FE} (hH : HoldsK FE.enc 3 w g 0 d) (i : Nat) (hi : i < d.size) :
    w.cell? ⟨g, i * 3, none⟩ = some (.string d[i].f.nm) ∧ w.cell? ⟨g, i * 3 + 1, none⟩ = some (.slice d[i].A d[i].f.ar.length d[i].c) ∧ w.cell? ⟨g, i * 3 + 2, none⟩ = some (.int .i64 d[i].f.rs) := by
  have key : ∀ r, r < 3 → w.cell? ⟨g, i * 3 + r, none⟩ = some ((d[i].enc)[r]!) := by
    intro r hr
    have hlt : i * 3 + r < d.size * 3 := by omega
    have := (hH (i * 3 + r) (by rw [size_flatK]; exact hlt)).1
    rw [Nat.zero_add, get_flatK _ _ _ _ hlt] at this
    have e1 : (i * 3 + r) / 3 = i := by omega
    have e2 : (i * 3 + r) % 3 = r := by omega
    rw [e1, e2, getElem!_pos d i hi] at this
    exact this
  exact ⟨key 0 (by omega), key 1 (by omega), key 2 (by omega)⟩
end Nt
end Go.Proofs.Ytlcgdiciiibeeaa
