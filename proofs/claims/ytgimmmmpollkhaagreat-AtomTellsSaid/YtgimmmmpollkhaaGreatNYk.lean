
/-
  Sums: linear.added: the walk.
  Sums: linear.Add, of what may not be.
  Sums: a part's number is stored anew in its row.
  Sums: linear.Add, of what may be.
  Sums: what LinearRings says, of lists of numbers and terms.
-/
import Derived.Test.YtgimmmmpollkhaaGreatNYa
namespace Go.Proofs.YtgimmmmpollkhaaGreat

open Go.ChangeShapes Go.RowKit

namespace Nt
set_option maxRecDepth 100000
set_option linter.unusedSimpArgs false
set_option linter.unusedVariables false

theorem Pl.tail {w : World} {g o ca : Nat} {p : Pt} {la : List Pt} (h : Pl w (some ⟨g, o, none⟩) (p :: la)) (hc : (p :: la).length ≤ ca) : Pl w (if ca = 1 then some ⟨g, o, none⟩ else some ⟨g, o + 4, none⟩) la := by
  rcases la with _ | ⟨r, la⟩
  · exact .inl rfl
  rw [if_neg (by simp at hc; omega)]
  rcases h with h | ⟨g', o', e, hc'⟩
  · cases h
  injection e with e
  injection e with e1 e2
  subst e1 e2
  refine .inr ⟨g, o + 4, rfl, fun i hi => ?_⟩
  have := hc' (i + 1) (by simpa using hi)
  rw [show o + (i + 1) * 4 = o + 4 + i * 4 by omega] at this
  exact this
theorem off3 (g : Nat) (W : World) (a b c : Value) : Off [g] W (((W.setCell ⟨g, 0, none⟩ a).setCell ⟨g, 1, none⟩ b).setCell ⟨g, 2, none⟩ c) :=
  (((Off.refl [g] W).setCell _ _ (.inl (by simp))).setCell _ _ (.inl (by simp))).setCell _ _ (.inl (by simp))
theorem Ax.far {w W W' : World} {c d : Pt} {A B : Option Addr} {n kc k kd mm g b : Nat} {l : List Pt} {cur : Array Value} {t : TypeId} (h : Ax w c d A B n kc k kd mm g l W) (hB : Bk b cur t W) (hno : ∀ v ∈ cur.toList, noU v = true) (hb : w.heap.size + 3 ≤ b) (hbg : g ≠ b) (hO : Off [b] W W') : Ax w c d A B n kc k kd mm g l W' := by
  have hn : ∀ j, j < w.heap.size + 3 → j ∉ [b] := fun j hj hm => by simp at hm; omega
  exact ⟨h.b.trans (hO.below h.b.size (fun x hx => by simp at hx; omega)), h.x.off hO (hn _ (by omega)), h.y.off hO (hn _ (by omega)), h.r.off hO (hn _ (by omega)), h.gw.off hO (by simpa using hbg), fun p hp => ⟨(h.ok p hp).1, hB.sl hno (h.ok p hp).2.1 hO, hB.sl hno (h.ok p hp).2.2 hO⟩⟩
def zR : Array Value := #[.bool false, .slice none 0 0, .slice none 0 0]
theorem zR_no : ∀ v ∈ zR.toList, noU v = true := by
  intro v hv
  simp [zR] at hv
  rcases hv with rfl | rfl <;> rfl
theorem Gw.mono {B B' g m : Nat} {w : World} {l : List Pt} (h : Gw B w g m l) (hB : B' ≤ B) : Gw B' w g m l := ⟨h.ex, Nat.le_trans hB h.base, h.room, h.big⟩
def AR (w : World) (L : List (Rat × Int)) (r : Rat) (e : Ending) (w' : World) : Prop := ∃ (g mm : Nat) (l' : List Pt) (r' : Pt), e = .returned (.tuple #[.agg #[.slice (some ⟨g, 0, none⟩) l'.length mm, .bool r'.s, .slice r'.A r'.xs.length r'.a, .slice r'.B r'.ys.length r'.b], .int .i64 0]) ∧ l'.map Pt.qt = L ∧ r'.q = r ∧ Gw w.heap.size w' g mm l' ∧ (∀ p ∈ l', p.Ok ∧ p.At w') ∧ r'.At w' ∧ r'.Ok ∧ Below w.heap.size w w'
theorem Ax.done {w W : World} {c d r : Pt} {A B : Option Addr} {n kc k kd mm g : Nat} {l : List Pt} (h : Ax w c d A B n kc k kd mm g l W) (hr : r.At W) (a b c' d' : Value) :
    Gw w.heap.size ((((W.setCell ⟨w.heap.size + 1 + 1, 0, none⟩ a).setCell ⟨w.heap.size + 1 + 1, 1, none⟩ b).setCell ⟨w.heap.size + 1 + 1, 2, none⟩ c').setCell ⟨w.heap.size + 1 + 1, 3, none⟩ d') g mm l ∧ (∀ p ∈ l, p.Ok ∧ p.At ((((W.setCell ⟨w.heap.size + 1 + 1, 0, none⟩ a).setCell ⟨w.heap.size + 1 + 1, 1, none⟩ b).setCell ⟨w.heap.size + 1 + 1, 2, none⟩ c').setCell ⟨w.heap.size + 1 + 1, 3, none⟩ d')) ∧ r.At ((((W.setCell ⟨w.heap.size + 1 + 1, 0, none⟩ a).setCell ⟨w.heap.size + 1 + 1, 1, none⟩ b).setCell ⟨w.heap.size + 1 + 1, 2, none⟩ c').setCell ⟨w.heap.size + 1 + 1, 3, none⟩ d') ∧ Below w.heap.size w ((((W.setCell ⟨w.heap.size + 1 + 1, 0, none⟩ a).setCell ⟨w.heap.size + 1 + 1, 1, none⟩ b).setCell ⟨w.heap.size + 1 + 1, 2, none⟩ c').setCell ⟨w.heap.size + 1 + 1, 3, none⟩ d') := by
  have hO := off4 (w.heap.size + 1 + 1) W a b c' d'
  have hg := h.gw.base
  exact ⟨(h.gw.off hO (by simp; omega)).mono (by omega), fun p hp => ⟨(h.ok p hp).1, at_off h.r (h.ok p hp).2 hO⟩, at_off h.r hr hO, h.b.trans (hO.below h.b.size (fun b hb => by simp at hb; omega))⟩
end Nt

end Go.Proofs.YtgimmmmpollkhaaGreat

namespace Go.Proofs.YtgimmmmpollkhaaGreat

open Go.ChangeShapes Go.RowKit

namespace Nt
set_option maxRecDepth 100000
set_option linter.unusedSimpArgs false
set_option linter.unusedVariables false

end Nt

end Go.Proofs.YtgimmmmpollkhaaGreat

namespace Go.Proofs.YtgimmmmpollkhaaGreat

open Go.ChangeShapes Go.RowKit

namespace Nt
set_option maxRecDepth 100000
set_option linter.unusedSimpArgs false
set_option linter.unusedVariables false

theorem Gw.set3 {B g m : Nat} {w : World} {l : List Pt} (h : Gw B w g m l) {i : Nat} (hi : i < l.length) (p : Pt) (ht : p.t = l[i].t) :
    Gw B (((w.setCell ⟨g, i * 4, none⟩ (.bool p.s)).setCell ⟨g, i * 4 + 1, none⟩ (.slice p.A p.xs.length p.a)).setCell ⟨g, i * 4 + 2, none⟩ (.slice p.B p.ys.length p.b)) g m (l.set i p) := by
  obtain ⟨⟨cur, hc, hsz, htk, hno⟩, hB, hrm, hbig⟩ := h
  have hk : Bk g cur 83 w := hc
  have hk3 := ((hk.set (j := i * 4) (.bool p.s) rfl).set (j := i * 4 + 1) (.slice p.A p.xs.length p.a) rfl).set (j := i * 4 + 2) (.slice p.B p.ys.length p.b) rfl
  have hlen : (l.set i p).length = l.length := List.length_set
  refine ⟨⟨_, hk3, by simp [hsz], ?_, fun v hv => ?_⟩, hB, by rw [hlen]; exact hrm, hbig⟩
  · apply List.ext_getElem?
    intro j
    rw [hlen, List.getElem?_take]
    by_cases hj : j < l.length * 4
    · rw [if_pos hj]
      have hjj : j = j / 4 * 4 + j % 4 := by omega
      have hi' : j / 4 < l.length := by omega
      have e1 := pcs_get (l.set i p) (j / 4) (j % 4) (by rw [hlen]; exact hi') (by omega)
      have e2 := pcs_get l (j / 4) (j % 4) hi' (by omega)
      rw [← hjj] at e1 e2
      rw [e1]
      have e3 : (cur.toList.take (l.length * 4))[j]? = cur[j]? := by rw [List.getElem?_take, if_pos hj, Array.getElem?_toList]
      rw [htk, e2] at e3
      rw [Array.getElem?_toList]
      simp only [Array.getElem?_setIfInBounds, Array.size_setIfInBounds]
      have h4 : j % 4 = 0 ∨ j % 4 = 1 ∨ j % 4 = 2 ∨ j % 4 = 3 := by omega
      by_cases he : j / 4 = i
      · have hget : (l.set i p)[j / 4]'(by rw [hlen]; exact hi') = p := by simp [he]
        rw [hget]
        rcases h4 with h4 | h4 | h4 | h4
        · rw [if_neg (by omega), if_neg (by omega), if_pos (by omega), if_pos (by omega), h4]
          rfl
        · rw [if_neg (by omega), if_pos (by omega), if_pos (by omega), h4]
          rfl
        · rw [if_pos (by omega), if_pos (by omega), h4]
          rfl
        · rw [if_neg (by omega), if_neg (by omega), if_neg (by omega), ← e3, h4]
          have : l[j / 4].t = l[i].t := by congr 1; simp [he]
          show some (Value.int .i64 l[j / 4].t) = some (.int .i64 p.t)
          rw [this, ht]
      · have hget : (l.set i p)[j / 4]'(by rw [hlen]; exact hi') = l[j / 4] := by
          rw [List.getElem_set]
          rw [if_neg (fun e => he e.symm)]
        rw [hget, ← e3]
        rw [if_neg (by omega), if_neg (by omega), if_neg (by omega)]
    · rw [if_neg hj]
      symm
      rw [List.getElem?_eq_none_iff, pcs_len, hlen]
      omega
  · have hv := Array.mem_toList_iff.1 hv
    rcases Array.mem_or_eq_of_mem_setIfInBounds hv with hv | rfl
    · rcases Array.mem_or_eq_of_mem_setIfInBounds hv with hv | rfl
      · rcases Array.mem_or_eq_of_mem_setIfInBounds hv with hv | rfl
        · exact hno v (Array.mem_toList_iff.2 hv)
        · rfl
      · rfl
    · rfl
end Nt

end Go.Proofs.YtgimmmmpollkhaaGreat

namespace Go.Proofs.YtgimmmmpollkhaaGreat

open Go.ChangeShapes Go.RowKit

namespace Nt
set_option maxRecDepth 100000
set_option linter.unusedSimpArgs false
set_option linter.unusedVariables false

theorem Gw.free {B g m : Nat} {w : World} {l : List Pt} (h : Gw B w g m l) (j : Nat) : w.frozen? ⟨g, j, none⟩ = false := by
  obtain ⟨cur, hc, _⟩ := h.ex
  exact Bk.free (cur := cur) (t := 83) hc j
structure Ay (w : World) (g mm gs n : Nat) (r : Pt) (l : List Pt) (W : World) : Prop where
  b : Below w.heap.size w W
  s : C4 gs (.slice (some ⟨g, 0, none⟩) n mm) (.bool r.s) (.slice r.A r.xs.length r.a) (.slice r.B r.ys.length r.b) W
  rb : Bk (w.heap.size + 1 + 1) zP 27 W
  gw : Gw w.heap.size W g mm l
  ok : ∀ p ∈ l, p.Ok ∧ p.At W
  ra : r.At W
  ne : gs ≠ g ∧ w.heap.size + 1 + 1 ≠ g
section

variable {w W W' : World} {g mm gs n : Nat} {r : Pt} {l : List Pt}
theorem Ay.next (h : Ay w g mm gs n r l W) (hb : Below W.heap.size W W') : Ay w g mm gs n r l W' :=
  ⟨bl_trans h.b hb, h.s.next hb, h.rb.next hb, h.gw.next hb, fun p hp => ⟨(h.ok p hp).1, (h.ok p hp).2.next hb⟩, h.ra.next hb, h.ne⟩
theorem Ay.set (h : Ay w g mm gs n r l W) {i : Nat} (hi : i < l.length) (p : Pt) (hp : p.Ok) (aP : p.At W) (ht : p.t = l[i].t) :
    Ay w g mm gs n r (l.set i p) (((W.setCell ⟨g, i * 4, none⟩ (.bool p.s)).setCell ⟨g, i * 4 + 1, none⟩ (.slice p.A p.xs.length p.a)).setCell ⟨g, i * 4 + 2, none⟩ (.slice p.B p.ys.length p.b)) := by
  have hO : Off [g] W (((W.setCell ⟨g, i * 4, none⟩ (.bool p.s)).setCell ⟨g, i * 4 + 1, none⟩ (.slice p.A p.xs.length p.a)).setCell ⟨g, i * 4 + 2, none⟩ (.slice p.B p.ys.length p.b)) :=
    (((Off.refl [g] W).setCell _ _ (.inl (by simp))).setCell _ _ (.inl (by simp))).setCell _ _ (.inl (by simp))
  have hg := h.gw.base
  refine ⟨h.b.trans (hO.below h.b.size (fun b hb => by simp at hb; omega)), h.s.off hO (by simpa using h.ne.1), h.rb.off hO (by simpa using h.ne.2), h.gw.set3 hi p ht, fun q hq => ?_, h.gw.at_ h.ra hO, h.ne⟩
  rcases List.mem_or_eq_of_mem_set hq with hq | rfl
  · exact ⟨(h.ok q hq).1, h.gw.at_ (h.ok q hq).2 hO⟩
  · exact ⟨hp, h.gw.at_ aP hO⟩
end
theorem map_set {l : List Pt} {i : Nat} (hi : i < l.length) {p : Pt} (h : p.qt = l[i].qt) : (l.set i p).map Pt.qt = l.map Pt.qt := by
  rw [List.map_set, h]
  rw [show l[i].qt = (l.map Pt.qt)[i]'(by simpa using hi) by simp]
  exact List.set_getElem_self _

end Nt

end Go.Proofs.YtgimmmmpollkhaaGreat

namespace Go.Proofs.YtgimmmmpollkhaaGreat

open Go.ChangeShapes Go.RowKit

namespace Nt
set_option maxRecDepth 100000
set_option linter.unusedSimpArgs false
set_option linter.unusedVariables false

def scq (k : Rat) (L : List (Rat × Int)) : List (Rat × Int) := L.map fun x => (x.1 * k, x.2)
def rvB (t : Int) : List (Rat × Int) → Prop
  | [] => True
  | x :: l => t < x.2 ∧ x.1 ≠ 0 ∧ rvB x.2 l
theorem pvB_rvB {l : List Pt} (hl : ∀ p ∈ l, p.Ok) : ∀ t, pvB t l = true ↔ rvB t (l.map Pt.qt) := by
  induction l with
  | nil => intro t; exact ⟨fun _ => trivial, fun _ => rfl⟩
  | cons p l ih =>
    intro t
    have hp := hl p (by simp)
    have hq : decide (0 < p.xs.length) = true ↔ p.q ≠ 0 := by rw [decide_eq_true_eq, hp.x]; exact q_zero_len _
    show ((decide (t < p.t) && (p.ok && decide (0 < p.xs.length))) && pvB p.t l) = true ↔ t < p.t ∧ p.q ≠ 0 ∧ rvB p.t (l.map Pt.qt)
    rw [Bool.and_eq_true, Bool.and_eq_true, Bool.and_eq_true, hp.valid, hq, decide_eq_true_eq, ih (fun r hr => hl r (by simp [hr])) p.t]
    simp only [true_and]
    exact ⟨fun ⟨⟨a, b⟩, c⟩ => ⟨a, b, c⟩, fun ⟨a, b, c⟩ => ⟨⟨a, b⟩, c⟩⟩
theorem rvB_scq {k : Rat} (hk : k ≠ 0) : ∀ {t : Int} {l : List (Rat × Int)}, rvB t l → rvB t (scq k l)
  | _, [], _ => trivial
  | _, x :: l, ⟨h1, h2, h3⟩ => ⟨h1, fun e => by rcases Rat.mul_eq_zero.1 e with e | e; exact h2 e; exact hk e, rvB_scq hk h3⟩
end Nt

end Go.Proofs.YtgimmmmpollkhaaGreat
