/-
  Atoms: what is a sum's kind, how a number stands to 0, its size; the form of a sum.
  Atoms: the one sum of all those that say the same (atom.formed).
  Atoms: made of a sum (atom.Make).
  Atoms: may one be, are two the same; atoms that are no sums.
  Atoms: what speaks of nothing; where one holds.
  Atoms: the opposite of one (atom.Not).
  Atoms: the opposite of one (atom.Not).
  Atoms: the form of an opposite.
  Atoms: a sum and its multiples have one form.
  The reference's: are two sums the same (theodoliteref6.SamePoly).
  Atoms: what is made of a sum, of its multiples, of its opposites (no memory).
  An atom in a box, and what the functions of package atom tell of it.
-/
import Derived.Test.YtgimmmmpollkhaaGreatLYt
namespace Go.Proofs.YtgimmmmpollkhaaGreat
open Go.ChangeShapes Go.RowKit
namespace Nt
set_option maxRecDepth 100000
set_option linter.unusedSimpArgs false
set_option linter.unusedVariables false

theorem leq_b (t : TypeId) (x y : Int) (b : Bool) (h : decide (x ≤ y) = b) : binOp .leq t (.int .i64 x) (.int .i64 y) = pure (.bool b) := by rw [← h]; rfl
end Nt
end Go.Proofs.YtgimmmmpollkhaaGreat
namespace Go.Proofs.YtgimmmmpollkhaaGreat
open Go.ChangeShapes Go.RowKit
namespace Nt
set_option maxRecDepth 100000
set_option linter.unusedSimpArgs false
set_option linter.unusedVariables false

def zA : Array Value := #[.int .i64 0, .slice none 0 0, .bool false, .slice none 0 0, .slice none 0 0, .int .i64 0, .int .i64 0]
/-- The boxes of a sum and of an atom that is told. -/
def Ew (w : World) (c : Pt) (A : Option Addr) (n k : Nat) : World := (w.alloc (.cells #[.slice A n k, .bool c.s, .slice c.A c.xs.length c.a, .slice c.B c.ys.length c.b] 27)).alloc (.cells zA 58)
theorem Ew.start (w : World) (c : Pt) (A : Option Addr) (n k : Nat) {W : World} (hb : Below (Ew w c A n k).heap.size (Ew w c A n k) W) : C4 w.heap.size (.slice A n k) (.bool c.s) (.slice c.A c.xs.length c.a) (.slice c.B c.ys.length c.b) W ∧ Bk (w.heap.size + 1) zA 58 W ∧ Below w.heap.size w W := by
  have h1 : Bk w.heap.size #[.slice A n k, .bool c.s, .slice c.A c.xs.length c.a, .slice c.B c.ys.length c.b] 27 (Ew w c A n k) := (Bk.new _ _ w).al _
  have h2 : Bk (w.heap.size + 1) zA 58 (Ew w c A n k) := Bk.new1 _ _ w _
  exact ⟨(C4.of h1).next hb, h2.next hb, bl_trans (bl_al (bl_al (.refl _ _) _) _) hb⟩
end Nt
end Go.Proofs.YtgimmmmpollkhaaGreat
namespace Go.Proofs.YtgimmmmpollkhaaGreat
open Go.ChangeShapes Go.RowKit
namespace Nt
set_option maxRecDepth 100000
set_option linter.unusedSimpArgs false
set_option linter.unusedVariables false

/-- The cells of an atom's box. -/
def C7 (g : Nat) (v0 v1 v2 v3 v4 v5 v6 : Value) (w : World) : Prop := w.cell? ⟨g, 0, none⟩ = some v0 ∧ w.cell? ⟨g, 1, none⟩ = some v1 ∧ w.cell? ⟨g, 2, none⟩ = some v2 ∧ w.cell? ⟨g, 3, none⟩ = some v3 ∧ w.cell? ⟨g, 4, none⟩ = some v4 ∧ w.cell? ⟨g, 5, none⟩ = some v5 ∧ w.cell? ⟨g, 6, none⟩ = some v6
theorem C7.new (v0 v1 v2 v3 v4 v5 v6 : Value) (t : TypeId) (w : World) : C7 w.heap.size v0 v1 v2 v3 v4 v5 v6 (w.alloc (.cells #[v0, v1, v2, v3, v4, v5, v6] t)) := by
  have h := Bk.new #[v0, v1, v2, v3, v4, v5, v6] t w
  exact ⟨h.cell rfl, h.cell rfl, h.cell rfl, h.cell rfl, h.cell rfl, h.cell rfl, h.cell rfl⟩
theorem C7.of {g : Nat} {v0 v1 v2 v3 v4 v5 v6 : Value} {t : TypeId} {W : World} (h : Bk g #[v0, v1, v2, v3, v4, v5, v6] t W) : C7 g v0 v1 v2 v3 v4 v5 v6 W := ⟨h.cell rfl, h.cell rfl, h.cell rfl, h.cell rfl, h.cell rfl, h.cell rfl, h.cell rfl⟩
theorem C7.next {g : Nat} {v0 v1 v2 v3 v4 v5 v6 : Value} {w w' : World} (h : C7 g v0 v1 v2 v3 v4 v5 v6 w) (hb : Below w.heap.size w w') : C7 g v0 v1 v2 v3 v4 v5 v6 w' := ⟨cell_next hb h.1, cell_next hb h.2.1, cell_next hb h.2.2.1, cell_next hb h.2.2.2.1, cell_next hb h.2.2.2.2.1, cell_next hb h.2.2.2.2.2.1, cell_next hb h.2.2.2.2.2.2⟩

end Nt
end Go.Proofs.YtgimmmmpollkhaaGreat
namespace Go.Proofs.YtgimmmmpollkhaaGreat
open Go.ChangeShapes Go.RowKit
namespace Nt
set_option maxRecDepth 100000
set_option linter.unusedSimpArgs false
set_option linter.unusedVariables false

/-- What Value hands back, in three cases. -/
theorem VaR.cases {w : World} {o : Tells} {L : List (Rat × Int)} {q : Rat} {e : Ending} {w' : World} (h : VaR w o L q e w') :
    (∃ r : Pt, e = .returned (.tuple #[.agg #[.bool r.s, .slice r.A r.xs.length r.a, .slice r.B r.ys.length r.b], .int .i64 0]) ∧ L.all (fun x => oOk o x.2) = true ∧ valF q (valL o L) = some r.q ∧ r.Ok ∧ r.At w' ∧ Below w.heap.size w w')
    ∨ (e = .returned (.tuple #[.agg #[.bool false, .slice none 0 0, .slice none 0 0], .int .i64 4]) ∧ L.all (fun x => oOk o x.2) = true ∧ valF q (valL o L) = none ∧ Below w.heap.size w w')
    ∨ (e = .returned (.tuple #[.agg #[.bool false, .slice none 0 0, .slice none 0 0], .int .i64 1]) ∧ L.all (fun x => oOk o x.2) = false ∧ Below w.heap.size w w') := by
  unfold VaR at h
  rcases h with ⟨h1, h2⟩ | ⟨h1, h2⟩
  · rcases hv : valF q (valL o L) with _ | v
    · rw [hv] at h2
      obtain ⟨rfl, hb⟩ := h2
      exact .inr (.inl ⟨rfl, h1, rfl, hb⟩)
    · rw [hv] at h2
      obtain ⟨r, rfl, hq, _, ok, at_, hb⟩ := h2
      exact .inl ⟨r, rfl, h1, by rw [hq], ok, at_, hb⟩
  · obtain ⟨rfl, hb⟩ := h2
    exact .inr (.inr ⟨rfl, h1, hb⟩)

end Nt
end Go.Proofs.YtgimmmmpollkhaaGreat
namespace Go.Proofs.YtgimmmmpollkhaaGreat
open Go.ChangeShapes Go.RowKit
namespace Nt
set_option maxRecDepth 100000
set_option linter.unusedSimpArgs false
set_option linter.unusedVariables false

/-- The boxes of an atom and of one that is told. -/
def Nw (w : World) (k : Int) (A : Option Addr) (n kc : Nat) (c : Pt) (a b : Int) : World := (w.alloc (.cells #[.int .i64 k, .slice A n kc, .bool c.s, .slice c.A c.xs.length c.a, .slice c.B c.ys.length c.b, .int .i64 a, .int .i64 b] 58)).alloc (.cells zA 58)
theorem Nw.start (w : World) (k : Int) (A : Option Addr) (n kc : Nat) (c : Pt) (a b : Int) {W : World} (hb : Below (Nw w k A n kc c a b).heap.size (Nw w k A n kc c a b) W) : C7 w.heap.size (.int .i64 k) (.slice A n kc) (.bool c.s) (.slice c.A c.xs.length c.a) (.slice c.B c.ys.length c.b) (.int .i64 a) (.int .i64 b) W ∧ Bk (w.heap.size + 1) zA 58 W ∧ Below w.heap.size w W := by
  have h1 : Bk w.heap.size #[.int .i64 k, .slice A n kc, .bool c.s, .slice c.A c.xs.length c.a, .slice c.B c.ys.length c.b, .int .i64 a, .int .i64 b] 58 (Nw w k A n kc c a b) := (Bk.new _ _ w).al _
  have h2 : Bk (w.heap.size + 1) zA 58 (Nw w k A n kc c a b) := Bk.new1 _ _ w _
  exact ⟨(C7.of h1).next hb, h2.next hb, bl_trans (bl_al (bl_al (.refl _ _) _) _) hb⟩
end Nt
end Go.Proofs.YtgimmmmpollkhaaGreat
namespace Go.Proofs.YtgimmmmpollkhaaGreat
open Go.ChangeShapes Go.RowKit
namespace Nt
set_option maxRecDepth 100000
set_option linter.unusedSimpArgs false
set_option linter.unusedVariables false

theorem qt_fit {l : List Pt} (ok : ∀ p ∈ l, p.Ok) : ∀ x ∈ l.map Pt.qt, fitq x.1 := by
  intro x hx
  obtain ⟨p, hp, rfl⟩ := List.mem_map.1 hx
  exact (ok p hp).f
end Nt
end Go.Proofs.YtgimmmmpollkhaaGreat
namespace Go.Proofs.YtgimmmmpollkhaaGreat
open Go.ChangeShapes Go.RowKit
namespace Nt
set_option maxRecDepth 100000
set_option linter.unusedSimpArgs false
set_option linter.unusedVariables false

theorem neq_b (t : TypeId) (x y : Int) (b : Bool) (h : decide (x ≠ y) = b) : binOp .neq t (.int .i64 x) (.int .i64 y) = pure (.bool b) := by
  show pure (Value.bool (x != y)) = _
  rw [← h]
  congr 2
  by_cases e : x = y <;> simp [e]
end Nt
end Go.Proofs.YtgimmmmpollkhaaGreat
namespace Go.Proofs.YtgimmmmpollkhaaGreat
open Go.ChangeShapes Go.RowKit
namespace Nt
set_option maxRecDepth 100000
set_option linter.unusedSimpArgs false
set_option linter.unusedVariables false

theorem few_o {p : Pt} (h : Limbs p.xs ∧ Limbs p.ys) (f : p.few8 = true) : p.Few := by
  have := of_decide_eq_true f
  exact ⟨h.1, h.2, by omega, by omega⟩
theorem bnd_o {p : Pt} (h : p.Ok) (f : p.few8 = true) : bnd 8 p.q := by
  have := of_decide_eq_true f
  rw [h.x, h.y] at this
  exact ⟨lt_of_ln this.1, lt_of_ln this.2⟩
theorem small_o {l : List Pt} (h : ∀ p ∈ l, p.Ok) (f : ∀ p ∈ l, p.few8 = true) : small 8 (l.map Pt.qt) := by
  intro x hx
  obtain ⟨p, hp, rfl⟩ := List.mem_map.1 hx
  exact bnd_o (h p hp) (f p hp)
end Nt
end Go.Proofs.YtgimmmmpollkhaaGreat
namespace Go.Proofs.YtgimmmmpollkhaaGreat
open Go.ChangeShapes Go.RowKit
namespace Nt
set_option maxRecDepth 100000
set_option linter.unusedSimpArgs false
set_option linter.unusedVariables false

/-- An atom of a sum, in a box. -/
structure Ab (kd : Int) (L : List (Rat × Int)) (q : Rat) (g : Nat) (A : Option Addr) (n k : Nat) (l : List Pt) (c : Pt) (W : World) : Prop where
  hn : n = l.length
  qt : l.map Pt.qt = L
  hq : c.q = q
  pl : Pl W A l
  at_ : c.At W
  ok : ∀ p ∈ l, p.Ok
  ck : c.Ok
  lk : l.length ≤ k
  lm : k ≤ maxLen
  x : C7 g (.int .i64 kd) (.slice A n k) (.bool c.s) (.slice c.A c.xs.length c.a) (.slice c.B c.ys.length c.b) (.int .i64 0) (.int .i64 0) W
section
variable {kd kd' : Int} {L M : List (Rat × Int)} {q r : Rat} {g g' : Nat} {A B : Option Addr} {n k n' k' : Nat} {l m : List Pt} {c d : Pt} {W W' : World}
theorem Ab.next (h : Ab kd L q g A n k l c W) (hb : Below W.heap.size W W') : Ab kd L q g A n k l c W' :=
  ⟨h.hn, h.qt, h.hq, h.pl.next hb, h.at_.next hb, h.ok, h.ck, h.lk, h.lm, h.x.next hb⟩
theorem Ab.v (h : Ab kd L q g A n k l c W) (hv : rvB (-1) L) : pvB (-1) l = true := (pvB_rvB h.ok (-1)).2 (by rw [h.qt]; exact hv)
theorem Ab.len (h : Ab kd L q g A n k l c W) : l.length = L.length := by rw [← h.qt, List.length_map]
theorem Ab.fits (h : Ab kd L q g A n k l c W) : (∀ x ∈ L, fitq x.1) ∧ fitq q := ⟨by rw [← h.qt]; exact qt_fit h.ok, by rw [← h.hq]; exact h.ck.f⟩
end
end Nt
end Go.Proofs.YtgimmmmpollkhaaGreat
