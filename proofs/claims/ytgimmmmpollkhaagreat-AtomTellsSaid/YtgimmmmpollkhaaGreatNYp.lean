
/-
  Sums: the place of a term's part (linear.find).
  Sums: a term's number (linear.Coef).
  Sums: two lists of parts in one (slices.Concat, slices.Grow).
  Sums: what a term is (linear.Solve).
-/
import Derived.Test.YtgimmmmpollkhaaGreatNYa
import Derived.Test.YtgimmmmpollkhaaGreatNYk
import Derived.Shelf.Spec.SlicesGrow
namespace Go.Proofs.YtgimmmmpollkhaaGreat

open Go.ChangeShapes Go.RowKit

namespace Nt
set_option maxRecDepth 100000
set_option linter.unusedSimpArgs false
set_option linter.unusedVariables false

theorem lss_b (t : TypeId) (x y : Int) (b : Bool) (h : decide (x < y) = b) : binOp .lss t (.int .i64 x) (.int .i64 y) = pure (.bool b) := by rw [← h]; rfl
theorem gtr_b (t : TypeId) (x y : Int) (b : Bool) (h : decide (y < x) = b) : binOp .gtr t (.int .i64 x) (.int .i64 y) = pure (.bool b) := by rw [← h]; rfl
theorem eql_b (t : TypeId) (x y : Int) (b : Bool) (h : decide (x = y) = b) : binOp .eql t (.int .i64 x) (.int .i64 y) = pure (.bool b) := by
  show pure (Value.bool (x == y)) = _
  rw [← h]
  rfl
theorem pvB_head {t : Int} {l : List Pt} (h : pvB t l = true) {b : Nat} (hb : b < l.length) : t < l[b].t := by
  induction l generalizing t b with
  | nil => simp at hb
  | cons p l ih =>
    simp only [pvB, Bool.and_eq_true, decide_eq_true_eq] at h
    cases b with
    | zero => exact h.1.1
    | succ b =>
      have := ih h.2 (b := b) (by simpa using hb)
      have h1 := h.1.1
      simp only [List.getElem_cons_succ]
      omega
theorem pvB_lt {t : Int} {l : List Pt} (h : pvB t l = true) {a b : Nat} (hab : a < b) (hb : b < l.length) : l[a].t < l[b].t := by
  induction l generalizing t a b with
  | nil => simp at hb
  | cons p l ih =>
    simp only [pvB, Bool.and_eq_true, decide_eq_true_eq] at h
    cases b with
    | zero => omega
    | succ b =>
      cases a with
      | zero => exact pvB_head h.2 (by simpa using hb)
      | succ a => exact ih h.2 (by omega) (by simpa using hb)
def Fd (l : List Pt) (id : Int) (i j : Nat) : Prop := ∀ t, pvB t l = true → (∀ q (h : q < l.length), q < i → l[q].t < id) ∧ (∀ q (h : q < l.length), j ≤ q → id ≤ l[q].t)
theorem Fd.start (l : List Pt) (id : Int) : Fd l id 0 l.length := fun _ _ => ⟨fun q _ h => absurd h (Nat.not_lt_zero _), fun q h h' => absurd h (by omega)⟩
theorem Fd.up {l : List Pt} {id : Int} {i j m : Nat} (h : Fd l id i j) (hm : m < l.length) (hl : l[m].t < id) : Fd l id (m + 1) j := fun t ht => by
  refine ⟨fun q hq hqm => ?_, (h t ht).2⟩
  by_cases hqe : q = m
  · subst hqe; exact hl
  · have := pvB_lt ht (a := q) (b := m) (by omega) hm
    omega
theorem Fd.down {l : List Pt} {id : Int} {i j m : Nat} (h : Fd l id i j) (hm : m < l.length) (hl : id ≤ l[m].t) : Fd l id i m := fun t ht => by
  refine ⟨(h t ht).1, fun q hq hqm => ?_⟩
  by_cases hqe : q = m
  · subst hqe; exact hl
  · have := pvB_lt ht (a := m) (b := q) (by omega) hq
    omega
theorem Fd.no {l : List Pt} {id : Int} {i j : Nat} (h : Fd l id i j) (hij : j ≤ i) (hno : ∀ hi : i < l.length, l[i].t ≠ id) : ∀ t, pvB t l = true → ∀ p ∈ l, p.t ≠ id := by
  intro t ht p hp e
  obtain ⟨q, hq, rfl⟩ := List.getElem_of_mem hp
  obtain ⟨h1, h2⟩ := h t ht
  rcases Nat.lt_trichotomy q i with hqi | hqi | hqi
  · have := h1 q hq hqi
    omega
  · subst hqi; exact hno hq e
  · have h3 := pvB_lt ht hqi hq
    have h4 := h2 i (by omega) hij
    omega

end Nt

end Go.Proofs.YtgimmmmpollkhaaGreat

namespace Go.Proofs.YtgimmmmpollkhaaGreat

open Go.ChangeShapes Go.RowKit

namespace Nt
set_option maxRecDepth 100000
set_option linter.unusedSimpArgs false
set_option linter.unusedVariables false

theorem pvB_ok {t : Int} {l : List Pt} (h : pvB t l = true) (f : ∀ p ∈ l, p.Few) : ∀ p ∈ l, p.Ok := by
  induction l generalizing t with
  | nil => intro p hp; simp at hp
  | cons q l ih =>
    simp only [pvB, Bool.and_eq_true] at h
    intro p hp
    rcases List.mem_cons.1 hp with rfl | hp
    · exact ok_of (f _ (by simp)) h.1.2.1
    · exact ih h.2 (fun r hr => f r (by simp [hr])) p hp
def Cw (w : World) (c : Pt) (A : Option Addr) (n k : Nat) : World := (w.alloc (.cells #[.slice A n k, .bool c.s, .slice c.A c.xs.length c.a, .slice c.B c.ys.length c.b] 27)).alloc (.cells zR 25)
theorem Cw.start (w : World) (c : Pt) (A : Option Addr) (n k : Nat) {W : World} (hb : Below (Cw w c A n k).heap.size (Cw w c A n k) W) : C4 w.heap.size (.slice A n k) (.bool c.s) (.slice c.A c.xs.length c.a) (.slice c.B c.ys.length c.b) W ∧ Bk (w.heap.size + 1) zR 25 W ∧ Below w.heap.size w W := by
  have h1 : Bk w.heap.size #[.slice A n k, .bool c.s, .slice c.A c.xs.length c.a, .slice c.B c.ys.length c.b] 27 (Cw w c A n k) := (Bk.new _ _ w).al _
  have h2 : Bk (w.heap.size + 1) zR 25 (Cw w c A n k) := Bk.new1 _ _ w _
  exact ⟨(C4.of h1).next hb, h2.next hb, bl_trans (bl_al (bl_al (.refl _ _) _) _) hb⟩
theorem at_offR {g : Nat} {t : TypeId} {W W' : World} {p : Pt} (h : Bk g zR t W) (hp : p.At W) (hO : Off [g] W W') : p.At W' := ⟨h.sl zR_no hp.1 hO, h.sl zR_no hp.2 hO⟩
theorem newR_done {w W : World} {g : Nat} {q : Rat} {r : Pt} (hbw : Below w.heap.size w W) (hR : Bk g zR 25 W) (hg : w.heap.size ≤ g) (hq : r.q = q) (hok : r.Ok) (hat : r.At W) :
    NewR q w (.returned (rv r)) (((W.setCell ⟨g, 0, none⟩ (.bool r.s)).setCell ⟨g, 1, none⟩ (.slice r.A r.xs.length r.a)).setCell ⟨g, 2, none⟩ (.slice r.B r.ys.length r.b)) := by
  have hO := off3 g W (.bool r.s) (.slice r.A r.xs.length r.a) (.slice r.B r.ys.length r.b)
  exact ⟨r, rfl, hq, hok, at_offR hR hat hO, hbw.trans (hO.below hbw.size (fun b hb => by simp at hb; omega))⟩

end Nt

end Go.Proofs.YtgimmmmpollkhaaGreat

namespace Go.Proofs.YtgimmmmpollkhaaGreat

open Go.ChangeShapes Go.RowKit

namespace Nt
set_option maxRecDepth 100000
set_option linter.unusedSimpArgs false
set_option linter.unusedVariables false

theorem zero_noU (n : Nat) : ∀ v ∈ (Builtin.zeroCells (Value.agg #[.bool false, .slice none 0 0, .slice none 0 0, .int .i64 0]).cells n).toList, noU v = true := by
  intro v hv
  unfold Builtin.zeroCells at hv
  simp only [Array.toList_map, List.mem_map] at hv
  obtain ⟨k, hk, rfl⟩ := hv
  have h4 : k % 4 = 0 ∨ k % 4 = 1 ∨ k % 4 = 2 ∨ k % 4 = 3 := by omega
  show noU ((#[Value.bool false, .slice none 0 0, .slice none 0 0, .int .i64 0] : Array Value)[k % 4]!) = true
  rcases h4 with h | h | h | h <;> rw [h] <;> rfl
end Nt

end Go.Proofs.YtgimmmmpollkhaaGreat

namespace Go.Proofs.YtgimmmmpollkhaaGreat

open Go.ChangeShapes Go.RowKit

namespace Nt
set_option maxRecDepth 100000
set_option linter.unusedSimpArgs false
set_option linter.unusedVariables false

theorem quo_p {p k : Pt} (hp : p.Ok) (hk : k.Ok) (w : World) (aP : p.At w) (aK : k.At w) (h0 : k.q ≠ 0) (f : fitq (p.q / k.q)) : Calls Tryz.prog 61 #[rv p, rv k] w (NewQ (p.q / k.q) p.t w) := by
  rw [hp.rv, hk.rv]
  exact (quo_q p.q k.q _ rfl _ _ _ _ _ _ _ _ w (hp.sl aP).1 (hp.sl aP).2 (hk.sl aK).1 (hk.sl aK).2 hp.f hk.f h0 f).mono fun e w' h => h.newQ f _
theorem fit_lit {q : Rat} (h1 : qn q < LB) (h2 : qd q < LB) : fitq q := ⟨Nat.le_trans (ln_le (k := 1) (by rw [Nat.pow_one]; exact h1)) (by decide), Nat.le_trans (ln_le (k := 1) (by rw [Nat.pow_one]; exact h2)) (by decide)⟩
theorem fit_m1 : fitq (-1 : Rat) := fit_lit (by decide) (by decide)
theorem fit_1 : fitq (1 : Rat) := fit_lit (by decide) (by decide)
theorem of_m1 (w : World) : Calls Tryz.prog 62 #[.int .i64 (-1), .int .i64 1] w (NewR (-1) w) :=
  (of_pos (-1) 1 (-1) w (by decide) (by decide) (by decide) (by decide) (by decide) (by rfl)).mono fun e w' h => RQ.newR h fit_m1
theorem of_1 (w : World) : Calls Tryz.prog 62 #[.int .i64 1, .int .i64 1] w (NewR 1 w) :=
  (of_pos 1 1 1 w (by decide) (by decide) (by decide) (by decide) (by decide) (by rfl)).mono fun e w' h => RQ.newR h fit_1
theorem fit_inv {q : Rat} (f : fitq q) (h0 : q ≠ 0) : fitq (q⁻¹) := ⟨by rw [qn_inv h0]; exact f.2, by rw [qd_inv h0]; exact f.1⟩
theorem Pl.take {w : World} {A : Option Addr} {l : List Pt} (h : Pl w A l) (j : Nat) : Pl w A (l.take j) := by
  rcases h with h | ⟨g, o, e, hc⟩
  · subst h
    exact .inl (List.take_nil)
  · refine .inr ⟨g, o, e, fun i hi => ?_⟩
    rw [List.length_take] at hi
    rw [List.getElem_take]
    exact hc i (by omega)
theorem Pl.drop {w : World} {g o ca : Nat} {l : List Pt} (h : Pl w (some ⟨g, o, none⟩) l) (j : Nat) (hc : l.length ≤ ca) : Pl w (if ca = j then some ⟨g, o, none⟩ else some ⟨g, o + j * 4, none⟩) (l.drop j) := by
  by_cases hl : l.length ≤ j
  · exact .inl (List.drop_eq_nil_of_le hl)
  rw [if_neg (by omega)]
  rcases h with h | ⟨g', o', e, hc'⟩
  · subst h; simp at hl
  injection e with e
  injection e with e1 e2
  subst e1 e2
  refine .inr ⟨g, o + j * 4, rfl, fun i hi => ?_⟩
  rw [List.length_drop] at hi
  rw [List.getElem_drop]
  have := hc' (j + i) (by omega)
  rw [show o + (j + i) * 4 = o + j * 4 + i * 4 by omega] at this
  exact this
theorem only {P G : Prop} (_ : P) (h : G) : G := h
def Dw (w : World) (c : Pt) (A : Option Addr) (n k : Nat) : World := (w.alloc (.cells #[.slice A n k, .bool c.s, .slice c.A c.xs.length c.a, .slice c.B c.ys.length c.b] 27)).alloc (.cells zP 27)
theorem Dw.start (w : World) (c : Pt) (A : Option Addr) (n k : Nat) {W : World} (hb : Below (Dw w c A n k).heap.size (Dw w c A n k) W) : C4 w.heap.size (.slice A n k) (.bool c.s) (.slice c.A c.xs.length c.a) (.slice c.B c.ys.length c.b) W ∧ Bk (w.heap.size + 1) zP 27 W ∧ Below w.heap.size w W := by
  have h1 : Bk w.heap.size #[.slice A n k, .bool c.s, .slice c.A c.xs.length c.a, .slice c.B c.ys.length c.b] 27 (Dw w c A n k) := (Bk.new _ _ w).al _
  have h2 : Bk (w.heap.size + 1) zP 27 (Dw w c A n k) := Bk.new1 _ _ w _
  exact ⟨(C4.of h1).next hb, h2.next hb, bl_trans (bl_al (bl_al (.refl _ _) _) _) hb⟩
theorem rvB_ne {t : Int} {l : List (Rat × Int)} (h : rvB t l) {x : Rat × Int} (hx : x ∈ l) : x.1 ≠ 0 := by
  induction l generalizing t with
  | nil => simp at hx
  | cons y l ih =>
    rcases List.mem_cons.1 hx with rfl | hx
    · exact h.2.1
    · exact ih h.2.2 hx
theorem c3_set {g : Nat} {W : World} {t : TypeId} (h : Bk g zR t W) (a b c : Value) : C3 g a b c (((W.setCell ⟨g, 0, none⟩ a).setCell ⟨g, 1, none⟩ b).setCell ⟨g, 2, none⟩ c) := by
  have h1 := h.set (j := 0) (cur' := #[a, .slice none 0 0, .slice none 0 0]) a rfl
  have h2 := h1.set (j := 1) (cur' := #[a, b, .slice none 0 0]) b rfl
  exact C3.of (h2.set (j := 2) (cur' := #[a, b, c]) c rfl)
theorem c4_set {g : Nat} {W : World} {t : TypeId} (h : Bk g zP t W) (a b c d : Value) : C4 g a b c d ((((W.setCell ⟨g, 0, none⟩ a).setCell ⟨g, 1, none⟩ b).setCell ⟨g, 2, none⟩ c).setCell ⟨g, 3, none⟩ d) := by
  have h1 := h.set (j := 0) (cur' := #[a, .bool false, .slice none 0 0, .slice none 0 0]) a rfl
  have h2 := h1.set (j := 1) (cur' := #[a, b, .slice none 0 0, .slice none 0 0]) b rfl
  have h3 := h2.set (j := 2) (cur' := #[a, b, c, .slice none 0 0]) c rfl
  exact C4.of (h3.set (j := 3) (cur' := #[a, b, c, d]) d rfl)
structure Vx (w : World) (c : Pt) (A : Option Addr) (n k : Nat) (q : Rat) (gb : Nat) (r : Pt) (W : World) : Prop where
  b : Below w.heap.size w W
  x : C4 w.heap.size (.slice A n k) (.bool c.s) (.slice c.A c.xs.length c.a) (.slice c.B c.ys.length c.b) W
  z : Bk (w.heap.size + 1) zP 27 W
  cr : C3 gb (.bool r.s) (.slice r.A r.xs.length r.a) (.slice r.B r.ys.length r.b) W
  q : r.q = q
  ok : r.Ok
  at_ : r.At W
theorem Vx.next {w : World} {c : Pt} {A : Option Addr} {n k : Nat} {q : Rat} {gb : Nat} {r : Pt} {W W' : World} (h : Vx w c A n k q gb r W) (hb : Below W.heap.size W W') : Vx w c A n k q gb r W' :=
  ⟨bl_trans h.b hb, h.x.next hb, h.z.next hb, h.cr.next hb, h.q, h.ok, h.at_.next hb⟩
end Nt

end Go.Proofs.YtgimmmmpollkhaaGreat
