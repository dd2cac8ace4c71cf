
/-
  Sums: lists of parts in memory; which may be (linear.Valid and the document's own).
  Sums: the document's own ValidPoly; which are few.
  Sums: a row of parts that is being written (made with room for all).
  Sums: parts that are numbers; a sum by a number (linear.scaled).
  Sums: a sum by a number (linear.scaled): the walk.
  Sums: linear.constant; scaled by 0; linear.Scale.
  Sums: linear.Scale.
  Sums: linear.copied; linear.sameRat and samePart.
  Sums: slices.Equal of words; linear.sameRat, samePart; slices.EqualFunc; linear.Same.
  Sums: the merge of two lists of parts; the loop of linear.added.
-/
import Derived.Test.YtgimmmmpollkhaaGreatNRefF
import Derived.Deep.DeepCutAuto
import Derived.Test.YtgimmmmpollkhaaGreatNSr
import Derived.Laws.MakeOwn
import Derived.Deep.Upon
namespace Go.Proofs.YtgimmmmpollkhaaGreat

open Go.ChangeShapes Go.RowKit

namespace Nt
set_option maxRecDepth 100000
set_option linter.unusedSimpArgs false
set_option linter.unusedVariables false

structure Pt where
  s : Bool
  A : Option Addr
  a : Nat
  xs : List Nat
  B : Option Addr
  b : Nat
  ys : List Nat
  t : Int

def Pt.At (p : Pt) (W : World) : Prop := Sl W p.A p.xs ∧ Sl W p.B p.ys
def Pt.Cells (p : Pt) (g o : Nat) (W : World) : Prop := W.cell? ⟨g, o, none⟩ = some (.bool p.s) ∧ W.cell? ⟨g, o + 1, none⟩ = some (.slice p.A p.xs.length p.a) ∧ W.cell? ⟨g, o + 2, none⟩ = some (.slice p.B p.ys.length p.b) ∧ W.cell? ⟨g, o + 3, none⟩ = some (.int .i64 p.t)
def Pt.ok (p : Pt) : Bool := validQ p.s p.xs p.ys
structure Pt.Few (p : Pt) : Prop where
  lx : Limbs p.xs
  ly : Limbs p.ys
  mx : p.xs.length ≤ 1000000
  my : p.ys.length ≤ 1000000
def Pl (W : World) (A : Option Addr) (l : List Pt) : Prop := l = [] ∨ ∃ g o, A = some ⟨g, o, none⟩ ∧ ∀ i (h : i < l.length), l[i].Cells g (o + i * 4) W ∧ l[i].At W
section

variable {w w' W : World} {p : Pt} {A : Option Addr} {l : List Pt}
theorem Pt.At.next (h : p.At w) (hb : Below w.heap.size w w') : p.At w' := ⟨kp' hb h.1, kp' hb h.2⟩
theorem Pt.Cells.next {g o : Nat} (h : p.Cells g o w) (hb : Below w.heap.size w w') : p.Cells g o w' := ⟨cell_next hb h.1, cell_next hb h.2.1, cell_next hb h.2.2.1, cell_next hb h.2.2.2⟩
theorem Pl.next (h : Pl w A l) (hb : Below w.heap.size w w') : Pl w' A l := by
  rcases h with h | ⟨g, o, e, hc⟩
  · exact .inl h
  · exact .inr ⟨g, o, e, fun i hi => ⟨(hc i hi).1.next hb, (hc i hi).2.next hb⟩⟩
theorem Pl.get (h : Pl w A l) {i : Nat} (hi : i < l.length) : ∃ g o, A = some ⟨g, o, none⟩ ∧ l[i].Cells g (o + i * 4) w ∧ l[i].At w := by
  rcases h with h | ⟨g, o, e, hc⟩
  · subst h; simp at hi
  · exact ⟨g, o, e, hc i hi⟩
end

def pvB (t : Int) : List Pt → Bool
  | [] => true
  | p :: l => (decide (t < p.t) && (p.ok && decide (0 < p.xs.length))) && pvB p.t l
def lastT (t : Int) : List Pt → Int
  | [] => t
  | p :: l => lastT p.t l
theorem lastT_push (t : Int) (l : List Pt) (p : Pt) : lastT t (l ++ [p]) = p.t := by
  induction l generalizing t with
  | nil => rfl
  | cons q l ih => exact ih q.t
theorem pvB_push (t : Int) (l : List Pt) (p : Pt) : pvB t (l ++ [p]) = (pvB t l && (decide (lastT t l < p.t) && (p.ok && decide (0 < p.xs.length)))) := by
  induction l generalizing t with
  | nil =>
    simp only [List.nil_append, pvB, lastT, Bool.and_true, Bool.true_and]
    first | done | rfl
  | cons q l ih =>
    simp only [List.cons_append, pvB, lastT, ih, Bool.and_assoc]
    first | done | rfl
theorem pvB_take (t : Int) (l : List Pt) (i : Nat) (h : pvB t (l.take i) = false) : pvB t l = false := by
  induction l generalizing t i with
  | nil => rw [List.take_nil] at h; exact h
  | cons q l ih =>
    cases i with
    | zero => simp [pvB] at h
    | succ i =>
      simp only [List.take_succ_cons, pvB] at h ⊢
      rw [Bool.and_eq_false_iff] at h ⊢
      exact h.imp id (ih _ _)
theorem take_part {l : List Pt} {i : Nat} (h : i < l.length) : l.take (i + 1) = l.take i ++ [l[i]] := by
  rw [List.take_add_one, List.getElem?_eq_getElem h]
  rfl

theorem fit_valid {s : Bool} {q : Rat} (h : validQ s (digs (qn q)) (digs (qd q)) = true) : fitq q := by
  unfold validQ at h
  simp only [Bool.and_eq_true, decide_eq_true_eq] at h
  exact ⟨(validB_iff.1 (validI_B h.1.1.1)).1, (validB_iff.1 h.1.1.2).1⟩
theorem q_zero_len (q : Rat) : (0 < (digs (qn q)).length) ↔ q ≠ 0 := by
  rw [show (digs (qn q)).length = ln (qn q) from rfl, ln_pos, qn_pos_iff]
theorem sign_raw (p : Pt) (w : World) (h : p.At w) (f : p.Few) :
    Calls Tryz.prog 71 #[.agg #[.bool p.s, .slice p.A p.xs.length p.a, .slice p.B p.ys.length p.b]] w fun e w' => ∃ k : Int, e = .returned (.int .i64 k) ∧ decide (k = 0) = !(p.ok && decide (0 < p.xs.length)) ∧ Below w.heap.size w w' := by
  by_cases hv : p.ok = true
  · have hv' := hv
    unfold Pt.ok at hv'
    obtain ⟨s, A, a, xs, B, b, ys, t⟩ := p
    obtain ⟨q, rfl, rfl, rfl⟩ := as_rat f.lx f.ly hv'
    have hf := fit_valid hv'
    refine (sign_q q A B a b w h.1 h.2 hf _ rfl).mono fun e w' ⟨h1, h2⟩ => ⟨_, h1, ?_, h2⟩
    rw [hv]
    simp only [Bool.true_and]
    by_cases h0 : q = 0
    · subst h0
      rw [show (digs (qn 0)).length = ln 0 from rfl, ln_zero]
      rfl
    · have hn := (q_zero_len q).2 h0
      simp only [hn, decide_true, Bool.not_true, decide_eq_false_iff_not]
      intro e
      apply h0
      unfold cmpZ at e
      have : q.num = 0 := by
        split at e
        · cases e
        · split at e
          · cases e
          · omega
      exact Rat.num_eq_zero.1 this
  · have hv : p.ok = false := by simpa using hv
    refine (sign_no p.s p.A p.B p.a p.b p.xs p.ys w h.1 h.2 f.lx f.ly f.mx f.my hv).mono fun e w' ⟨h1, h2⟩ => ⟨_, h1, ?_, h2⟩
    rw [hv]
    rfl
def C4 (g : Nat) (u v x y : Value) (w : World) : Prop := w.cell? ⟨g, 0, none⟩ = some u ∧ w.cell? ⟨g, 1, none⟩ = some v ∧ w.cell? ⟨g, 2, none⟩ = some x ∧ w.cell? ⟨g, 3, none⟩ = some y
theorem C4.new (u v x y : Value) (ty : TypeId) (w : World) : C4 w.heap.size u v x y (w.alloc (.cells #[u, v, x, y] ty)) := by
  refine ⟨?_, ?_, ?_, ?_⟩ <;> (unfold World.cell? World.alloc; simp)
theorem C4.next {g : Nat} {u v x y : Value} {w w' : World} (h : C4 g u v x y w) (hb : Below w.heap.size w w') : C4 g u v x y w' := ⟨cell_next hb h.1, cell_next hb h.2.1, cell_next hb h.2.2.1, cell_next hb h.2.2.2⟩
def polyV (A : Option Addr) (n k : Nat) (c : Pt) : Value := .agg #[.slice A n k, .bool c.s, .slice c.A c.xs.length c.a, .slice c.B c.ys.length c.b]

set_option maxHeartbeats 4000000 in
theorem lvalid_any (A : Option Addr) (l : List Pt) (k : Nat) (c : Pt) (w : World) (hl : Pl w A l) (hc : c.At w) (fl : ∀ p ∈ l, p.Few) (fc : c.Few) (hn : l.length ≤ 1000) (r : Bool) (hr : (pvB (-1) l && c.ok) = r) :
    Calls Tryz.prog 25 #[polyV A l.length k c] w fun e w' => e = .returned (.bool r) ∧ Below w.heap.size w w' := by
  subst hr
  have hV := hide (fun W (b : Below w.heap.size w W) => validQ_any c.s c.A c.B c.a c.b c.xs c.ys W (kp' b hc.1) (kp' b hc.2) fc.lx fc.ly fc.mx fc.my c.ok rfl)
  have hS := hide (fun (p : Pt) (hp : p ∈ l) W (h : p.At W) => sign_raw p W h (fl p hp))
  have hP := hide (fun W (b : Below w.heap.size w W) => Pl.next hl b)
  unfold polyV
  have hC := hide (C4.new (.slice A l.length k) (.bool c.s) (.slice c.A c.xs.length c.a) (.slice c.B c.ys.length c.b) 27 w)
  have hb := hide (bl_al (.refl _ _) (.cells #[.slice A l.length k, .bool c.s, .slice c.A c.xs.length c.a, .slice c.B c.ys.length c.b] 27) : Below w.heap.size w (w.alloc (.cells #[.slice A l.length k, .bool c.s, .slice c.A c.xs.length c.a, .slice c.B c.ys.length c.b] 27)))
  clear hl hc fl fc
  obtain ⟨n, hnn⟩ : ∃ n, n = l.length := ⟨_, rfl⟩
  rw [← hnn] at hC hb hn ⊢
  replace hnn := hide hnn
  generalize c.xs.length = i1 at *
  generalize c.ys.length = i2 at *
  obtain ⟨y0, y1, y2, y3⟩ := hC.out
  go_enter Tryz.func25, Tryz.ntmps25
  go_wp2
  clear y0 y1 y2 y3
  go_loopw [3, 9] (fun be ix wr => ∃ i : Nat, i ≤ n ∧ ix = .int .i64 (i : Int) ∧ be = .int .i64 (lastT (-1) (l.take i)) ∧ pvB (-1) (l.take i) = true ∧ Below w.heap.size w wr ∧ C4 w.heap.size (.slice A n k) (.bool c.s) (.slice c.A i1 c.a) (.slice c.B i2 c.b) wr) (fun _ ix _ => n - (intOf ix).toNat)
  case atStart => exact ⟨0, Nat.zero_le _, rfl, rfl, rfl, hb.out, hC.out⟩
  case round =>
    obtain ⟨i, hi, rfl, rfl, hpv, hbw, hCw⟩ := hrel
    by_cases hlt : i < n
    · have hil : i < l.length := by rw [← hnn.out]; exact hlt
      obtain ⟨g, o, rfl, ⟨x0, x1, x2, x3⟩, hat⟩ := (hP.out wr hbw).get hil
      have hS := fun W (b : Below wr.heap.size wr W) => hS.out l[i] (List.getElem_mem hil) W (hat.next b)
      have e1 := pvB_push (-1) (l.take i) l[i]
      have e2 := lastT_push (-1) (l.take i) l[i]
      rw [← take_part hil, hpv, Bool.true_and] at e1
      rw [← take_part hil] at e2
      have e3 := fun h => pvB_take (-1) l (i + 1) h
      obtain ⟨z0, z1, z2, z3⟩ := hCw
      have b2 : Below wr.heap.size wr (wr.alloc (.cells #[.bool l[i].s, .slice l[i].A l[i].xs.length l[i].a, .slice l[i].B l[i].ys.length l[i].b, .int .i64 l[i].t] 83)) := bl_al (.refl _ _) _
      replace hS := hide (hS _ b2)
      replace e1 := hide e1; replace e2 := hide e2; replace e3 := hide e3
      clear hat hP hpv
      generalize l[i] = p at *
      generalize p.xs.length = j1 at *
      generalize p.ys.length = j2 at *
      generalize lastT (-1) (l.take i) = m at *
      generalize (p.ok && decide (0 < j1)) = v at *
      have hX := hide (C4.new (.bool p.s) (.slice p.A j1 p.a) (.slice p.B j2 p.b) (.int .i64 p.t) 83 wr)
      have hCn := hide (fun W (b : Below wr.heap.size wr W) => C4.next (w := wr) ⟨z0, z1, z2, z3⟩ b)
      by_cases hm : p.t ≤ m
      · have q1 := cq_t 3 hm
        go_wp2
        go_ret
        have hx : pvB (-1) l = false := e3.out (by rw [e1.out, decide_eq_false (by omega)]; rfl)
        exact ⟨by rw [hx]; rfl, bl_al hbw _⟩
      · have q1 := cq_f 3 (x := p.t) (y := m) (by omega)
        clear z0 z1 z2 z3
        go_wp2_with (go_at_call 71; (with_reducible refine hS.out.mono ?_); rintro e wa ⟨k, rfl, hk, hb3⟩; have hC3 := hide (hCn.out _ (bl_trans b2 hb3)); obtain ⟨v0, v1, v2, v3⟩ := hX.out.next hb3; replace hk := hide hk; replace hb3 := hide hb3; by_cases hk0 : k = 0)
        · have hv : v = false := by
            have := hk.out
            rw [decide_eq_true hk0] at this
            cases v
            · rfl
            · cases this
          have hx : pvB (-1) l = false := e3.out (by rw [e1.out, hv, Bool.and_false])
          go_ret
          exact ⟨by rw [hx]; rfl, bl_trans hbw (bl_trans b2 hb3.out)⟩
        · have hv : v = true := by
            have := hk.out
            rw [decide_eq_false hk0] at this
            cases v
            · cases this
            · rfl
          go_roundw
          case rel => exact ⟨i + 1, hlt, by go_num, by rw [e2.out], by rw [e1.out, hv, decide_eq_true (by omega)]; rfl, bl_trans hbw (bl_trans b2 hb3.out), hC3.out⟩
          case measure => simp only [intOf]; omega
    · have hmi : i = n := by omega
      subst hmi
      rw [hnn.out, List.take_length] at hpv
      obtain ⟨z0, z1, z2, z3⟩ := hCw
      go_wp2_with (go_at_call 56; (with_reducible refine (hV.out _ hbw).mono ?_); rintro e wa ⟨rfl, hb4⟩)
      go_ret
      exact ⟨by rw [hpv]; rfl, bl_trans hbw hb4⟩
end Nt

end Go.Proofs.YtgimmmmpollkhaaGreat

namespace Go.Proofs.YtgimmmmpollkhaaGreat

open Go.ChangeShapes Go.RowKit

namespace Nt
set_option maxRecDepth 100000
set_option linter.unusedSimpArgs false
set_option linter.unusedVariables false

set_option maxHeartbeats 4000000 in
theorem rvalidP_any (A : Option Addr) (l : List Pt) (k : Nat) (c : Pt) (w : World) (hl : Pl w A l) (hc : c.At w) (fl : ∀ p ∈ l, p.Few) (fc : c.Few) (hn : l.length ≤ 1000) (r : Bool) (hr : (pvB (-1) l && c.ok) = r) :
    Calls Tryz.prog 26 #[polyV A l.length k c] w fun e w' => e = .returned (.bool r) ∧ Below w.heap.size w w' := by
  subst hr
  have hV := hide (fun W (b : Below w.heap.size w W) => rvalidQ_any c.s c.A c.B c.a c.b c.xs c.ys W (kp' b hc.1) (kp' b hc.2) fc.lx fc.ly fc.mx fc.my c.ok rfl)
  have hS := hide (fun (p : Pt) (hp : p ∈ l) W (h : p.At W) => rvalidQ_any p.s p.A p.B p.a p.b p.xs p.ys W h.1 h.2 (fl p hp).lx (fl p hp).ly (fl p hp).mx (fl p hp).my p.ok rfl)
  have hP := hide (fun W (b : Below w.heap.size w W) => Pl.next hl b)
  unfold polyV
  have hC := hide (C4.new (.slice A l.length k) (.bool c.s) (.slice c.A c.xs.length c.a) (.slice c.B c.ys.length c.b) 27 w)
  have hb := hide (bl_al (.refl _ _) (.cells #[.slice A l.length k, .bool c.s, .slice c.A c.xs.length c.a, .slice c.B c.ys.length c.b] 27) : Below w.heap.size w (w.alloc (.cells #[.slice A l.length k, .bool c.s, .slice c.A c.xs.length c.a, .slice c.B c.ys.length c.b] 27)))
  clear hl hc fl fc
  obtain ⟨n, hnn⟩ : ∃ n, n = l.length := ⟨_, rfl⟩
  rw [← hnn] at hC hb hn ⊢
  replace hnn := hide hnn
  generalize c.xs.length = i1 at *
  generalize c.ys.length = i2 at *
  obtain ⟨y0, y1, y2, y3⟩ := hC.out
  go_enter Tryz.func26, Tryz.ntmps26
  go_wp2
  clear y0 y1 y2 y3
  go_loopw [3, 4] (fun be ix wr => ∃ i : Nat, i ≤ n ∧ ix = .int .i64 (i : Int) ∧ be = .int .i64 (lastT (-1) (l.take i)) ∧ pvB (-1) (l.take i) = true ∧ Below w.heap.size w wr ∧ C4 w.heap.size (.slice A n k) (.bool c.s) (.slice c.A i1 c.a) (.slice c.B i2 c.b) wr) (fun _ ix _ => n - (intOf ix).toNat)
  case atStart => exact ⟨0, Nat.zero_le _, rfl, rfl, rfl, hb.out, hC.out⟩
  case round =>
    obtain ⟨i, hi, rfl, rfl, hpv, hbw, hCw⟩ := hrel
    by_cases hlt : i < n
    · have hil : i < l.length := by rw [← hnn.out]; exact hlt
      obtain ⟨g, o, rfl, ⟨x0, x1, x2, x3⟩, hat⟩ := (hP.out wr hbw).get hil
      have hS := fun W (b : Below wr.heap.size wr W) => hS.out l[i] (List.getElem_mem hil) W (hat.next b)
      have e1 := pvB_push (-1) (l.take i) l[i]
      have e2 := lastT_push (-1) (l.take i) l[i]
      rw [← take_part hil, hpv, Bool.true_and] at e1
      rw [← take_part hil] at e2
      have e3 := fun h => pvB_take (-1) l (i + 1) h
      obtain ⟨z0, z1, z2, z3⟩ := hCw
      have b2 : Below wr.heap.size wr (wr.alloc (.cells #[.bool l[i].s, .slice l[i].A l[i].xs.length l[i].a, .slice l[i].B l[i].ys.length l[i].b, .int .i64 l[i].t] 83)) := bl_al (.refl _ _) _
      replace hS := hide (hS _ b2)
      replace e1 := hide e1; replace e2 := hide e2; replace e3 := hide e3
      clear hat hP hpv
      generalize l[i] = p at *
      generalize p.xs.length = j1 at *
      generalize p.ys.length = j2 at *
      generalize lastT (-1) (l.take i) = m at *
      generalize p.ok = v at *
      have hX := hide (C4.new (.bool p.s) (.slice p.A j1 p.a) (.slice p.B j2 p.b) (.int .i64 p.t) 83 wr)
      have hCn := hide (fun W (b : Below wr.heap.size wr W) => C4.next (w := wr) ⟨z0, z1, z2, z3⟩ b)
      by_cases hm : p.t ≤ m
      · have q1 := cq_t 3 hm
        go_wp2
        go_ret
        have hx : pvB (-1) l = false := e3.out (by rw [e1.out, decide_eq_false (by omega)]; rfl)
        exact ⟨by rw [hx]; rfl, bl_al hbw _⟩
      · have q1 := cq_f 3 (x := p.t) (y := m) (by omega)
        cases v with
        | false =>
          go_wp2_with (go_at_call 30; (with_reducible refine hS.out.mono ?_); rintro e wa ⟨rfl, hb3⟩; have hC3 := hide (hCn.out _ (bl_trans b2 hb3)); obtain ⟨v0, v1, v2, v3⟩ := hX.out.next hb3; replace hb3 := hide hb3)
          go_ret
          have hx : pvB (-1) l = false := e3.out (by rw [e1.out]; simp)
          exact ⟨by rw [hx]; rfl, bl_trans hbw (bl_trans b2 hb3.out)⟩
        | true =>
          by_cases hj : j1 = 0
          · subst hj
            go_wp2_with (go_at_call 30; (with_reducible refine hS.out.mono ?_); rintro e wa ⟨rfl, hb3⟩; have hC3 := hide (hCn.out _ (bl_trans b2 hb3)); obtain ⟨v0, v1, v2, v3⟩ := hX.out.next hb3; replace hb3 := hide hb3)
            go_ret
            have hx : pvB (-1) l = false := e3.out (by rw [e1.out]; simp)
            exact ⟨by rw [hx]; rfl, bl_trans hbw (bl_trans b2 hb3.out)⟩
          · have hj' : ¬ ((j1 : Int) = 0) := by omega
            go_wp2_with (go_at_call 30; (with_reducible refine hS.out.mono ?_); rintro e wa ⟨rfl, hb3⟩; have hC3 := hide (hCn.out _ (bl_trans b2 hb3)); obtain ⟨v0, v1, v2, v3⟩ := hX.out.next hb3; replace hb3 := hide hb3)
            go_roundw
            case rel => exact ⟨i + 1, hlt, by go_num, by rw [e2.out], by rw [e1.out, decide_eq_true (by omega : m < p.t), decide_eq_true (by omega : 0 < j1)]; rfl, bl_trans hbw (bl_trans b2 hb3.out), hC3.out⟩
            case measure => simp only [intOf]; omega
    · have hmi : i = n := by omega
      subst hmi
      rw [hnn.out, List.take_length] at hpv
      obtain ⟨z0, z1, z2, z3⟩ := hCw
      go_wp2_with (go_at_call 30; (with_reducible refine (hV.out _ hbw).mono ?_); rintro e wa ⟨rfl, hb4⟩)
      go_ret
      exact ⟨by rw [hpv]; rfl, bl_trans hbw hb4⟩

theorem fewR_any (s : Bool) (A B : Option Addr) (n m a b : Nat) (w : World) (r : Bool) (hr : decide (n ≤ 8 ∧ m ≤ 8) = r) : Calls Tryz.prog 9 #[.agg #[.bool s, .slice A n a, .slice B m b]] w fun e w' => e = .returned (.bool r) ∧ Below w.heap.size w w' := by
  subst hr
  by_cases h1 : n ≤ 8
  · have h1' : (n : Int) ≤ 8 := by omega
    by_cases h2 : m ≤ 8
    · have h2' : (m : Int) ≤ 8 := by omega
      go_enter Tryz.func9, Tryz.ntmps9
      go_wp2
      go_ret
      exact ⟨by simp [h1, h2, h1', h2'], bl_al (.refl _ _) _⟩
    · have h2' : ¬ (m : Int) ≤ 8 := by omega
      go_enter Tryz.func9, Tryz.ntmps9
      go_wp2
      go_ret
      exact ⟨by simp [h1, h2, h1', h2'], bl_al (.refl _ _) _⟩
  · have h1' : ¬ (n : Int) ≤ 8 := by omega
    go_enter Tryz.func9, Tryz.ntmps9
    go_wp2
    go_ret
    exact ⟨by simp [h1, h1'], bl_al (.refl _ _) _⟩

def FewO (w : World) (P : Prop) (e : Ending) (w' : World) : Prop := ∃ r, e = .returned (.bool r) ∧ Below w.heap.size w w' ∧ (r = true → P)
def Pt.few8 (p : Pt) : Bool := decide (p.xs.length ≤ 8 ∧ p.ys.length ≤ 8)
set_option maxHeartbeats 4000000 in
theorem pfew_any (A : Option Addr) (l : List Pt) (k : Nat) (c : Pt) (w : World) (hl : Pl w A l) (hn : l.length ≤ 9223372036854775807) :
    Calls Tryz.prog 8 #[polyV A l.length k c] w (FewO w (l.length ≤ 10 ∧ (∀ p ∈ l, p.few8 = true) ∧ c.few8 = true)) := by
  have hP := hide (fun W (b : Below w.heap.size w W) => Pl.next hl b)
  unfold polyV
  have hC := hide (C4.new (.slice A l.length k) (.bool c.s) (.slice c.A c.xs.length c.a) (.slice c.B c.ys.length c.b) 27 w)
  have hb := hide (bl_al (.refl _ _) (.cells #[.slice A l.length k, .bool c.s, .slice c.A c.xs.length c.a, .slice c.B c.ys.length c.b] 27) : Below w.heap.size w (w.alloc (.cells #[.slice A l.length k, .bool c.s, .slice c.A c.xs.length c.a, .slice c.B c.ys.length c.b] 27)))
  have hc8 : c.few8 = decide (c.xs.length ≤ 8 ∧ c.ys.length ≤ 8) := rfl
  have hF := hide (fun W => fewR_any c.s c.A c.B c.xs.length c.ys.length c.a c.b W c.few8 hc8.symm)
  have hG := hide (fun (p : Pt) W => fewR_any p.s p.A p.B p.xs.length p.ys.length p.a p.b W p.few8 rfl)
  clear hl hc8
  obtain ⟨n, hnn⟩ : ∃ n, n = l.length := ⟨_, rfl⟩
  rw [← hnn] at hC hb hn ⊢
  replace hnn := hide hnn
  generalize c.few8 = rc at *
  generalize c.xs.length = i1 at *
  generalize c.ys.length = i2 at *
  obtain ⟨y0, y1, y2, y3⟩ := hC.out
  go_enter Tryz.func8, Tryz.ntmps8
  go_wp2
  clear y0 y1 y2 y3
  go_loopw [3] (fun ix wr => ∃ i : Nat, i ≤ n ∧ i ≤ 12 ∧ ix = .int .i64 (i : Int) ∧ (∀ p ∈ l.take i, p.few8 = true) ∧ Below w.heap.size w wr ∧ C4 w.heap.size (.slice A n k) (.bool c.s) (.slice c.A i1 c.a) (.slice c.B i2 c.b) wr) (fun ix _ => n - (intOf ix).toNat)
  case atStart => exact ⟨0, Nat.zero_le _, by decide, rfl, (fun p hp => by simp at hp), hb.out, hC.out⟩
  case round =>
    obtain ⟨i, hi, hi12, rfl, hpv, hbw, hCw⟩ := hrel
    by_cases hlt : i < n ∧ i < 12
    · have hil : i < l.length := by rw [← hnn.out]; exact hlt.1
      obtain ⟨g, o, rfl, ⟨x0, x1, x2, x3⟩, hat⟩ := (hP.out wr hbw).get hil
      have hG := hide (hG.out l[i] wr)
      obtain ⟨z0, z1, z2, z3⟩ := hCw
      have hs := hide (take_part hil)
      obtain ⟨h1, h2⟩ := hlt
      have h1' : (i : Int) < (n : Int) := by omega
      have h2' : (i : Int) < 12 := by omega
      clear hat hP
      generalize l[i] = p at *
      obtain ⟨v, hv⟩ : ∃ v, p.few8 = v := ⟨_, rfl⟩
      rw [hv] at hG
      replace hv := hide hv
      generalize p.xs.length = j1 at *
      generalize p.ys.length = j2 at *
      have hCn := hide (fun W (b : Below wr.heap.size wr W) => C4.next (w := wr) ⟨z0, z1, z2, z3⟩ b)
      cases v with
      | false =>
        go_wp2_with (go_at_call 9; (with_reducible refine hG.out.mono ?_); rintro e wa ⟨rfl, hb3⟩; replace hb3 := hide hb3)
        go_ret
        exact ⟨_, rfl, bl_trans hbw hb3.out, fun h => by cases h⟩
      | true =>
        go_wp2_with (go_at_call 9; (with_reducible refine hG.out.mono ?_); rintro e wa ⟨rfl, hb3⟩; replace hb3 := hide hb3)
        go_roundw
        case rel =>
          refine ⟨i + 1, h1, h2, by go_num, fun q hq => ?_, bl_trans hbw hb3.out, hCn.out _ hb3.out⟩
          rw [hs.out] at hq
          rcases List.mem_append.1 hq with hq | hq
          · exact hpv q hq
          · simp at hq
            subst hq
            exact hv.out
        case measure => simp only [intOf]; omega
    · obtain ⟨z0, z1, z2, z3⟩ := hCw
      by_cases h1 : i < n
      · have hi' : i = 12 := by omega
        have h1' : (i : Int) < (n : Int) := by omega
        have h2' : ¬ (i : Int) < 12 := by omega
        have h3 : ¬ (n : Int) ≤ 10 := by omega
        clear hi'
        go_wp2
        go_ret
        exact ⟨_, rfl, hbw, fun h => by cases h⟩
      · have h1' : ¬ (i : Int) < (n : Int) := by omega
        have hin : i = n := by omega
        have ht : l.take i = l := by rw [hin, hnn.out, List.take_length]
        rw [ht] at hpv
        replace hin := hide hin; replace ht := hide ht
        by_cases h3 : n ≤ 10
        · have h3' : (n : Int) ≤ 10 := by omega
          have hF := hide (hF.out wr)
          go_wp2_with (go_at_call 9; (with_reducible refine hF.out.mono ?_); rintro e wa ⟨rfl, hb3⟩; replace hb3 := hide hb3)
          go_ret
          exact ⟨_, rfl, bl_trans hbw hb3.out, fun h => ⟨h3, hpv, h⟩⟩
        · have h3' : ¬ (n : Int) ≤ 10 := by omega
          go_wp2
          go_ret
          exact ⟨_, rfl, hbw, fun h => by cases h⟩
end Nt

end Go.Proofs.YtgimmmmpollkhaaGreat

namespace Go.Proofs.YtgimmmmpollkhaaGreat

open Go.ChangeShapes Go.RowKit

namespace Nt
set_option maxRecDepth 100000
set_option linter.unusedSimpArgs false
set_option linter.unusedVariables false

def noU : Value → Bool
  | .int .u64 _ => false
  | _ => true
def Pt.cs (p : Pt) : List Value := [.bool p.s, .slice p.A p.xs.length p.a, .slice p.B p.ys.length p.b, .int .i64 p.t]
def pcs (l : List Pt) : List Value := l.flatMap Pt.cs
theorem pcs_len (l : List Pt) : (pcs l).length = l.length * 4 := by
  induction l with
  | nil => rfl
  | cons p l ih =>
    show (p.cs ++ pcs l).length = _
    rw [List.length_append, ih, List.length_cons]
    show 4 + _ = _
    omega
theorem pcs_push (l : List Pt) (p : Pt) : pcs (l ++ [p]) = pcs l ++ p.cs := by
  unfold pcs
  rw [List.flatMap_append]
  simp
theorem pcs_get (l : List Pt) (i k : Nat) (hi : i < l.length) (hk : k < 4) : (pcs l)[i * 4 + k]? = l[i].cs[k]? := by
  induction l generalizing i with
  | nil => simp at hi
  | cons p l ih =>
    show (p.cs ++ pcs l)[i * 4 + k]? = _
    cases i with
    | zero =>
      rw [List.getElem?_append_left (by show 0 * 4 + k < 4; omega)]
      simp
    | succ i =>
      rw [List.getElem?_append_right (by show 4 ≤ (i + 1) * 4 + k; omega)]
      have e : (i + 1) * 4 + k - p.cs.length = i * 4 + k := by
        show (i + 1) * 4 + k - 4 = _
        omega
      rw [e, ih i (by simpa using hi)]
      rfl

structure Gw (B : Nat) (w : World) (g m : Nat) (l : List Pt) : Prop where
  ex : ∃ cur, w.heap[g]? = some (.cells cur 83 (0, 0)) ∧ cur.size = m * 4 ∧ cur.toList.take (l.length * 4) = pcs l ∧ ∀ v ∈ cur.toList, noU v = true
  base : B ≤ g
  room : l.length ≤ m
  big : m ≤ maxLen
section

variable {B g m : Nat} {w w' : World} {l : List Pt}
theorem Gw.lt (h : Gw B w g m l) : g < w.heap.size := by
  obtain ⟨cur, hc, _⟩ := h.ex
  exact (Array.getElem?_eq_some_iff.1 hc).1
theorem Gw.off {T : List Nat} (h : Gw B w g m l) (hO : Off T w w') (hn : g ∉ T) : Gw B w' g m l := by
  have hl := h.lt
  obtain ⟨⟨cur, hc, h1⟩, h2, h3, h4⟩ := h
  exact ⟨⟨cur, (hO.block g hl hn).trans hc, h1⟩, h2, h3, h4⟩
theorem Gw.next (h : Gw B w g m l) (hb : Below w.heap.size w w') : Gw B w' g m l := h.off (Off.of_below hb []) (by simp)
theorem Gw.sl {A : Option Addr} {xs : List Nat} (h : Gw B w g m l) (hs : Sl w A xs) (hO : Off [g] w w') : Sl w' A xs := by
  rcases hs with hs | ⟨b, o, e, hb, hc⟩
  · exact .inl hs
  by_cases hx : xs = []
  · exact .inl hx
  have hbg : b ≠ g := by
    rintro rfl
    obtain ⟨cur, hcur, _, _, hn⟩ := h.ex
    have h0 := hc 0 (List.length_pos_iff.2 hx)
    rw [cell_of_row w b (o + 0) cur _ (0, 0) hcur] at h0
    have := hn _ (List.mem_of_getElem? (by rw [Array.getElem?_toList]; exact h0))
    cases this
  exact .inr ⟨b, o, e, Nat.lt_of_lt_of_le hb hO.size, fun j hj => hO.cell (hc j hj) hb (by simpa using hbg)⟩
theorem Gw.at_ {p : Pt} (h : Gw B w g m l) (hp : p.At w) (hO : Off [g] w w') : p.At w' := ⟨h.sl hp.1 hO, h.sl hp.2 hO⟩
theorem Gw.cells (h : Gw B w g m l) {i : Nat} (hi : i < l.length) : l[i].Cells g (0 + i * 4) w := by
  obtain ⟨cur, hcur, hsz, htk, _⟩ := h.ex
  have key : ∀ k (hk : k < 4) v, l[i].cs[k]? = some v → w.cell? ⟨g, 0 + i * 4 + k, none⟩ = some v := by
    intro k hk v hv
    rw [cell_of_row w g _ cur _ (0, 0) hcur, Nat.zero_add, ← Array.getElem?_toList]
    rw [← pcs_get l i k hi hk, ← htk, List.getElem?_take] at hv
    split at hv
    · exact hv
    · cases hv
  exact ⟨key 0 (by decide) _ rfl, key 1 (by decide) _ rfl, key 2 (by decide) _ rfl, key 3 (by decide) _ rfl⟩
theorem Gw.pl (h : Gw B w g m l) (hA : ∀ p ∈ l, p.At w) : Pl w (some ⟨g, 0, none⟩) l :=
  .inr ⟨g, 0, rfl, fun i hi => ⟨h.cells hi, hA _ (List.getElem_mem hi)⟩⟩

theorem infP : ∃ i : TypeInfo, Tryz.prog.info? 83 = some i ∧ i.zero = some (.agg #[.bool false, .slice none 0 0, .slice none 0 0, .int .i64 0]) ∧ i.size = 4 ∧ i.bytes = 64 := info_parts (P := Tryz.prog) (e := 83) (z := .agg #[.bool false, .slice none 0 0, .slice none 0 0, .int .i64 0]) (size := 4) (bytes := 64) (by kernel_rfl)
def mz (n : Nat) : Obj := .cells (madeCells #[.bool false, .slice none 0 0, .slice none 0 0, .int .i64 0] (n * 4)) 83
theorem make_parts (n : Nat) (hn : n ≤ 1000000) (W : World) :
    (Instr.makeSlice 22 (.int .i64 0) (.int .i64 (n : Int))).run Tryz.prog W = .ok (.slice (some ⟨W.heap.size, 0, none⟩) 0 n) (W.alloc (mz n)) := by
  obtain ⟨i, hi, hz, h1, h8⟩ := infP
  have hr := run_make (P := Tryz.prog) W 22 83 i _ Tryz.underlying22 hi hz .i64 .i64 0 n (by omega) (by omega) (by rw [h8]; omega) (by omega)
  simp only [Int.toNat_natCast, h1] at hr
  exact hr
theorem Gw.new (W : World) (n : Nat) (hn : n ≤ 1000000) (hB : B ≤ W.heap.size) : Gw B (W.alloc (mz n)) W.heap.size n [] := by
  refine ⟨⟨_, Bk.new _ _ W, size_madeCells _ _, rfl, fun v hv => ?_⟩, hB, Nat.zero_le _, by unfold maxLen; omega⟩
  unfold madeCells at hv
  simp at hv
  obtain ⟨k, hk, rfl⟩ := hv
  have h4 : k % 4 = 0 ∨ k % 4 = 1 ∨ k % 4 = 2 ∨ k % 4 = 3 := by omega
  rcases h4 with h | h | h | h <;> rw [h] <;> rfl
theorem Gw.push (h : Gw B w g m l) (p : Pt) (hroom : l.length < m) :
    ∃ W', (∀ ty, (Builtin.append_ #[22, 22] ty #[.slice (some ⟨g, 0, none⟩) l.length m, .slice (some ⟨w.heap.size, 0, none⟩) 1 1]).run Tryz.prog (w.alloc (.cells #[.bool p.s, .slice p.A p.xs.length p.a, .slice p.B p.ys.length p.b, .int .i64 p.t] 83)) = .ok (.slice (some ⟨g, 0, none⟩) (l.length + 1) m) W') ∧
      Gw B W' g m (l ++ [p]) ∧ Off [g] w W' := by
  obtain ⟨i, hinf, hz, h1, h8⟩ := infP
  have hlt := h.lt
  have hl := h.off ((Off.refl [] w).alloc (.cells #[.bool p.s, .slice p.A p.xs.length p.a, .slice p.B p.ys.length p.b, .int .i64 p.t] 83)) (by simp)
  have hb : Bk w.heap.size #[.bool p.s, .slice p.A p.xs.length p.a, .slice p.B p.ys.length p.b, .int .i64 p.t] 83 (w.alloc (.cells #[.bool p.s, .slice p.A p.xs.length p.a, .slice p.B p.ys.length p.b, .int .i64 p.t] 83)) := Bk.new _ _ _
  have hcells : ∀ j u, p.cs[j]? = some u → (w.alloc (.cells #[.bool p.s, .slice p.A p.xs.length p.a, .slice p.B p.ys.length p.b, .int .i64 p.t] 83)).cell? ((⟨w.heap.size, 0, none⟩ : Addr).add j) = some u := by
    intro j u hu
    rw [Addr.add_lit, Nat.zero_add]
    refine hb.cell ?_
    rw [← Array.getElem?_toList]
    exact hu
  have hO : Off [g] w (w.alloc (.cells #[.bool p.s, .slice p.A p.xs.length p.a, .slice p.B p.ys.length p.b, .int .i64 p.t] 83)) := (Off.refl [g] w).alloc _
  generalize w.alloc (.cells #[.bool p.s, .slice p.A p.xs.length p.a, .slice p.B p.ys.length p.b, .int .i64 p.t] 83) = w1 at *
  obtain ⟨⟨cur, hc, hsz, htk, hno⟩, hB, hrm, hbig⟩ := hl
  have hr := fun ty => run_append_room (P := Tryz.prog) w1 22 ty 83 i Tryz.underlying22 hinf g l.length m cur hc ⟨w.heap.size, 0, none⟩ 1 1 p.cs (by rw [h1]; rfl) hcells (by intro u hu; simp [Pt.cs] at hu; rcases hu with rfl | rfl | rfl | rfl <;> rfl) (by omega) (by rw [h1, hsz]; show _ + 4 ≤ _; omega)
  rw [h1] at hr
  have hpl : p.cs.length = 4 := rfl
  refine ⟨_, hr, ⟨⟨_, setRow_heap w1 g cur _ _ _ hc, ?_, ?_, ?_⟩, hB, by simp; omega, hbig⟩, ?_⟩
  · simp only [List.size_toArray, List.length_append, List.length_take, List.length_drop, Array.length_toList]
    omega
  · rw [pcs_push, htk]
    have e : (l ++ [p]).length * 4 = (pcs l ++ p.cs).length := by rw [List.length_append, List.length_append, pcs_len, hpl]; simp; omega
    rw [e]
    exact List.take_left
  · intro v hv
    simp only [List.mem_append] at hv
    rcases hv with (hv | hv) | hv
    · exact hno v (List.mem_of_mem_take hv)
    · simp [Pt.cs] at hv
      rcases hv with rfl | rfl | rfl | rfl <;> rfl
    · exact hno v (List.mem_of_mem_drop hv)
  · refine hO.trans (T' := [g]) ⟨rfl, rfl, rfl, by simp, fun k _ hk => setRow_other w1 g k _ (by simpa using hk)⟩ (fun b hb => .inl hb)
end

end Nt

end Go.Proofs.YtgimmmmpollkhaaGreat

namespace Go.Proofs.YtgimmmmpollkhaaGreat

open Go.ChangeShapes Go.RowKit

namespace Nt
set_option maxRecDepth 100000
set_option linter.unusedSimpArgs false
set_option linter.unusedVariables false

def Pt.q (p : Pt) : Rat := qmk p.s (val p.xs) (val p.ys)
structure Pt.Ok (p : Pt) : Prop where
  s : p.s = qs p.q
  x : p.xs = digs (qn p.q)
  y : p.ys = digs (qd p.q)
  f : fitq p.q
def Pt.qt (p : Pt) : Rat × Int := (p.q, p.t)
def rv (p : Pt) : Value := .agg #[.bool p.s, .slice p.A p.xs.length p.a, .slice p.B p.ys.length p.b]
def mkP (q : Rat) (A : Option Addr) (a : Nat) (B : Option Addr) (b : Nat) (t : Int) : Pt := ⟨qs q, A, a, digs (qn q), B, b, digs (qd q), t⟩
theorem mkP_q (q : Rat) (A : Option Addr) (a : Nat) (B : Option Addr) (b : Nat) (t : Int) : (mkP q A a B b t).q = q := by
  show qmk (qs q) (val (digs (qn q))) (val (digs (qd q))) = q
  rw [val_digs, val_digs, qmk_self]
theorem mkP_ok {q : Rat} (f : fitq q) (A : Option Addr) (a : Nat) (B : Option Addr) (b : Nat) (t : Int) : (mkP q A a B b t).Ok := by
  refine ⟨?_, ?_, ?_, ?_⟩ <;> rw [mkP_q]
  · rfl
  · rfl
  · rfl
  · exact f
theorem Pt.Ok.rv {p : Pt} (h : p.Ok) : rv p = .agg #[.bool (qs p.q), .slice p.A (ln (qn p.q)) p.a, .slice p.B (ln (qd p.q)) p.b] := by
  obtain ⟨h1, h2, h3, _⟩ := h
  unfold Nt.rv
  generalize p.q = q at *
  rw [h1, h2, h3]
  rfl
theorem Pt.Ok.sl {p : Pt} {w : World} (h : p.Ok) (hA : p.At w) : Sl w p.A (digs (qn p.q)) ∧ Sl w p.B (digs (qd p.q)) := by
  rw [← h.x, ← h.y]
  exact hA
theorem ok_of {p : Pt} (f : p.Few) (h : p.ok = true) : p.Ok := by
  unfold Pt.ok at h
  obtain ⟨s, A, a, xs, B, b, ys, t⟩ := p
  obtain ⟨q, rfl, rfl, rfl⟩ := as_rat f.lx f.ly h
  exact mkP_ok (fit_valid h) A a B b t
theorem Pt.Ok.few {p : Pt} (h : p.Ok) : p.Few :=
  ⟨by rw [h.x]; exact limbs_digs _, by rw [h.y]; exact limbs_digs _, by rw [h.x]; exact Nat.le_trans h.f.1 (by decide), by rw [h.y]; exact Nat.le_trans h.f.2 (by decide)⟩
theorem Pt.Ok.valid {p : Pt} (h : p.Ok) : p.ok = true := by
  unfold Pt.ok
  rw [h.s, h.x, h.y]
  exact validQ_q p.q h.f.1 h.f.2
def fitB (q : Rat) : Bool := decide (ln (qn q) ≤ 64 ∧ ln (qd q) ≤ 64)
theorem fitB_t {q : Rat} : fitB q = true ↔ fitq q := decide_eq_true_iff
theorem fitB_f {q : Rat} (h : fitB q = false) : ¬ fitq q := fun f => by rw [fitB_t.2 f] at h; cases h

def NewQ (q : Rat) (t : Int) (w : World) (e : Ending) (w' : World) : Prop := ∃ r : Pt, e = .returned (.tuple #[.agg #[.bool r.s, .slice r.A r.xs.length r.a, .slice r.B r.ys.length r.b], .int .i64 0]) ∧ r.q = q ∧ r.t = t ∧ r.Ok ∧ r.At w' ∧ Below w.heap.size w w'
theorem RQE.newQ {q : Rat} {w w' : World} {e : Ending} (h : RQE w q e w') (f : fitq q) (t : Int) : NewQ q t w e w' := by
  obtain ⟨A, c, B, d, rfl, sA, sB, hb⟩ := h
  exact ⟨mkP q A c B d t, rfl, mkP_q _ _ _ _ _ _, rfl, mkP_ok f _ _ _ _ _, ⟨sA, sB⟩, hb⟩
theorem mul_p {p k : Pt} (hp : p.Ok) (hk : k.Ok) (w : World) (aP : p.At w) (aK : k.At w) (f : fitB (p.q * k.q) = true) : Calls Tryz.prog 67 #[rv p, rv k] w (NewQ (p.q * k.q) p.t w) := by
  rw [fitB_t] at f
  rw [hp.rv, hk.rv]
  exact (mul_q p.q k.q _ rfl _ _ _ _ _ _ _ _ w (hp.sl aP).1 (hp.sl aP).2 (hk.sl aK).1 (hk.sl aK).2 hp.f hk.f f).mono fun e w' h => h.newQ f _
theorem mul_n {p k : Pt} (hp : p.Ok) (hk : k.Ok) (w : World) (aP : p.At w) (aK : k.At w) (f : fitB (p.q * k.q) = false) : Calls Tryz.prog 67 #[rv p, rv k] w (RNo 4 w) := by
  replace f := fitB_f f
  rw [hp.rv, hk.rv]
  exact mul_big p.q k.q _ rfl _ _ _ _ _ _ _ _ w (hp.sl aP).1 (hp.sl aP).2 (hk.sl aK).1 (hk.sl aK).2 hp.f hk.f f
theorem sign_p {p : Pt} (hp : p.Ok) (w : World) (aP : p.At w) : Calls Tryz.prog 71 #[rv p] w fun e w' => e = .returned (.int .i64 (cmpZ p.q.num 0)) ∧ Below w.heap.size w w' := by
  rw [hp.rv]
  exact sign_q p.q _ _ _ _ w (hp.sl aP).1 (hp.sl aP).2 hp.f _ rfl
theorem cmpZ_0 (q : Rat) : cmpZ q.num 0 = 0 ↔ q = 0 := by
  rw [← Rat.num_eq_zero]
  unfold cmpZ
  split
  · constructor <;> intro h <;> omega
  · split
    · constructor <;> intro h <;> omega
    · constructor <;> intro h <;> omega

def PR (w : World) (L : List (Rat × Int)) (r : Rat) (e : Ending) (w' : World) : Prop := ∃ A k l c, e = .returned (.tuple #[polyV A l.length k c, .int .i64 0]) ∧ l.map Pt.qt = L ∧ c.q = r ∧ Pl w' A l ∧ c.At w' ∧ (∀ p ∈ l, p.Ok) ∧ c.Ok ∧ Below w.heap.size w w' ∧ l.length ≤ k ∧ k ≤ maxLen
def PNo (k : Nat) (w : World) (e : Ending) (w' : World) : Prop := e = .returned (.tuple #[.agg #[.slice none 0 0, .bool false, .slice none 0 0, .slice none 0 0], .int .i64 (k : Int)]) ∧ Below w.heap.size w w'

def C3 (g : Nat) (u v x : Value) (w : World) : Prop := w.cell? ⟨g, 0, none⟩ = some u ∧ w.cell? ⟨g, 1, none⟩ = some v ∧ w.cell? ⟨g, 2, none⟩ = some x
def zP : Array Value := #[.slice none 0 0, .bool false, .slice none 0 0, .slice none 0 0]
section

variable {w W W' : World} {g : Nat} {u v x y : Value} {t : TypeId}
theorem C3.next (h : C3 g u v x w) (hb : Below w.heap.size w W) : C3 g u v x W := ⟨cell_next hb h.1, cell_next hb h.2.1, cell_next hb h.2.2⟩
theorem C3.off {T : List Nat} (h : C3 g u v x w) (hO : Off T w W) (hn : g ∉ T) : C3 g u v x W := ⟨hO.cell h.1 (cell_in h.1) hn, hO.cell h.2.1 (cell_in h.1) hn, hO.cell h.2.2 (cell_in h.1) hn⟩
theorem C4.off {T : List Nat} (h : C4 g u v x y w) (hO : Off T w W) (hn : g ∉ T) : C4 g u v x y W := ⟨hO.cell h.1 (cell_in h.1) hn, hO.cell h.2.1 (cell_in h.1) hn, hO.cell h.2.2.1 (cell_in h.1) hn, hO.cell h.2.2.2 (cell_in h.1) hn⟩
theorem C3.of (h : Bk g #[u, v, x] t W) : C3 g u v x W := ⟨h.cell rfl, h.cell rfl, h.cell rfl⟩
theorem C4.of (h : Bk g #[u, v, x, y] t W) : C4 g u v x y W := ⟨h.cell rfl, h.cell rfl, h.cell rfl, h.cell rfl⟩
end
structure Sx (w : World) (c kk : Pt) (A : Option Addr) (n kc g : Nat) (l : List Pt) (W : World) : Prop where
  b : Below w.heap.size w W
  x : C4 w.heap.size (.slice A n kc) (.bool c.s) (.slice c.A c.xs.length c.a) (.slice c.B c.ys.length c.b) W
  k : C3 (w.heap.size + 1) (.bool kk.s) (.slice kk.A kk.xs.length kk.a) (.slice kk.B kk.ys.length kk.b) W
  r : Bk (w.heap.size + 1 + 1) zP 27 W
  gw : Gw (w.heap.size + 3) W g n l
  ok : ∀ p ∈ l, p.Ok ∧ p.At W
section

variable {w W W' : World} {c kk : Pt} {A : Option Addr} {n kc g : Nat} {l : List Pt}
theorem Sx.next (h : Sx w c kk A n kc g l W) (hb : Below W.heap.size W W') : Sx w c kk A n kc g l W' :=
  ⟨bl_trans h.b hb, h.x.next hb, h.k.next hb, h.r.next hb, h.gw.next hb, fun p hp => ⟨(h.ok p hp).1, (h.ok p hp).2.next hb⟩⟩
theorem Sx.al (h : Sx w c kk A n kc g l W) (o : Obj) : Sx w c kk A n kc g l (W.alloc o) := h.next (bl_al (.refl _ _) o)
theorem Sx.push (h : Sx w c kk A n kc g l W) (p : Pt) (hp : p.Ok) (aP : p.At W) (hroom : l.length < n) :
    ∃ W', (∀ ty, (Builtin.append_ #[22, 22] ty #[.slice (some ⟨g, 0, none⟩) l.length n, .slice (some ⟨W.heap.size, 0, none⟩) 1 1]).run Tryz.prog (W.alloc (.cells #[.bool p.s, .slice p.A p.xs.length p.a, .slice p.B p.ys.length p.b, .int .i64 p.t] 83)) = .ok (.slice (some ⟨g, 0, none⟩) (l.length + 1) n) W') ∧ Sx w c kk A n kc g (l ++ [p]) W' := by
  obtain ⟨W', hr, hg, hO⟩ := h.gw.push p hroom
  have hbg := h.gw.base
  have hn : ∀ j, j < w.heap.size + 3 → j ∉ [g] := fun j hj hm => by simp at hm; omega
  refine ⟨W', hr, h.b.trans (hO.below h.b.size (fun b hb => by simp at hb; omega)), h.x.off hO (hn _ (by omega)), h.k.off hO (hn _ (by omega)), h.r.off hO (hn _ (by omega)), hg, fun q hq => ?_⟩
  rcases List.mem_append.1 hq with hq | hq
  · exact ⟨(h.ok q hq).1, h.gw.at_ (h.ok q hq).2 hO⟩
  · simp at hq
    subst hq
    exact ⟨hp, h.gw.at_ aP hO⟩
end
def W3 (w : World) (c kk : Pt) (A : Option Addr) (n kc : Nat) : World := ((w.alloc (.cells #[.slice A n kc, .bool c.s, .slice c.A c.xs.length c.a, .slice c.B c.ys.length c.b] 27)).alloc (.cells #[.bool kk.s, .slice kk.A kk.xs.length kk.a, .slice kk.B kk.ys.length kk.b] 25)).alloc (.cells zP 27)
theorem Sx.start (w : World) (c kk : Pt) (A : Option Addr) (n kc : Nat) (hn : n ≤ 1000000) {W : World} (hb : Below (W3 w c kk A n kc).heap.size (W3 w c kk A n kc) W) : Sx w c kk A n kc W.heap.size [] (W.alloc (mz n)) ∧ C4 w.heap.size (.slice A n kc) (.bool c.s) (.slice c.A c.xs.length c.a) (.slice c.B c.ys.length c.b) W ∧ C3 (w.heap.size + 1) (.bool kk.s) (.slice kk.A kk.xs.length kk.a) (.slice kk.B kk.ys.length kk.b) W ∧ Bk (w.heap.size + 1 + 1) zP 27 W ∧ Below w.heap.size w W := by
  have h1 : Bk w.heap.size #[.slice A n kc, .bool c.s, .slice c.A c.xs.length c.a, .slice c.B c.ys.length c.b] 27 (W3 w c kk A n kc) := ((Bk.new _ _ w).al _).al _
  have h2 : Bk (w.heap.size + 1) #[.bool kk.s, .slice kk.A kk.xs.length kk.a, .slice kk.B kk.ys.length kk.b] 25 (W3 w c kk A n kc) := (Bk.new1 _ _ w _).al _
  have h3 : Bk (w.heap.size + 1 + 1) zP 27 (W3 w c kk A n kc) := by
    have := Bk.new zP 27 ((w.alloc (.cells #[.slice A n kc, .bool c.s, .slice c.A c.xs.length c.a, .slice c.B c.ys.length c.b] 27)).alloc (.cells #[.bool kk.s, .slice kk.A kk.xs.length kk.a, .slice kk.B kk.ys.length kk.b] 25))
    simpa [W3] using this
  have hb0 : Below w.heap.size w (W3 w c kk A n kc) := bl_al (bl_al (bl_al (.refl _ _) _) _) _
  have hsz : (W3 w c kk A n kc).heap.size = w.heap.size + 3 := by simp [W3]
  have hb2 : Below (W3 w c kk A n kc).heap.size (W3 w c kk A n kc) (W.alloc (mz n)) := bl_al hb _
  have hle := hb.size
  exact ⟨⟨bl_trans hb0 hb2, (C4.of h1).next hb2, (C3.of h2).next hb2, h3.next hb2, Gw.new W n hn (by omega), fun p hp => by simp at hp⟩, (C4.of h1).next hb, (C3.of h2).next hb, h3.next hb, bl_trans hb0 hb⟩

theorem Sx.boxes (w : World) (c kk : Pt) (A : Option Addr) (n kc : Nat) {W : World} (hb : Below (W3 w c kk A n kc).heap.size (W3 w c kk A n kc) W) : Bk (w.heap.size + 1 + 1) zP 27 W ∧ Below w.heap.size w W := by
  have h3 : Bk (w.heap.size + 1 + 1) zP 27 (W3 w c kk A n kc) := by
    have := Bk.new zP 27 ((w.alloc (.cells #[.slice A n kc, .bool c.s, .slice c.A c.xs.length c.a, .slice c.B c.ys.length c.b] 27)).alloc (.cells #[.bool kk.s, .slice kk.A kk.xs.length kk.a, .slice kk.B kk.ys.length kk.b] 25))
    simpa [W3] using this
  exact ⟨h3.next hb, bl_trans (bl_al (bl_al (bl_al (.refl _ _) _) _) _) hb⟩
def scB (k : Rat) (l : List Pt) (c : Pt) : Bool := l.all (fun p => fitB (p.q * k)) && fitB (c.q * k)
def scL (k : Rat) (l : List Pt) : List (Rat × Int) := l.map fun p => (p.q * k, p.t)
def ScO (w : World) (b : Bool) (L : List (Rat × Int)) (r : Rat) (e : Ending) (w' : World) : Prop := (b = true ∧ PR w L r e w') ∨ (b = false ∧ PNo 4 w e w')
theorem Bk.sl {g : Nat} {cur : Array Value} {t : TypeId} {w w' : World} {A : Option Addr} {xs : List Nat} (h : Bk g cur t w) (hn : ∀ v ∈ cur.toList, noU v = true) (hs : Sl w A xs) (hO : Off [g] w w') : Sl w' A xs := by
  rcases hs with hs | ⟨b, o, e, hb, hc⟩
  · exact .inl hs
  by_cases hx : xs = []
  · exact .inl hx
  have hbg : b ≠ g := by
    rintro rfl
    have h0 := hc 0 (List.length_pos_iff.2 hx)
    rw [cell_of_row w b (o + 0) cur _ (0, 0) h] at h0
    have := hn _ (List.mem_of_getElem? (by rw [Array.getElem?_toList]; exact h0))
    cases this
  exact .inr ⟨b, o, e, Nat.lt_of_lt_of_le hb hO.size, fun j hj => hO.cell (hc j hj) hb (by simpa using hbg)⟩
theorem off4 (g : Nat) (W : World) (a b c d : Value) : Off [g] W ((((W.setCell ⟨g, 0, none⟩ a).setCell ⟨g, 1, none⟩ b).setCell ⟨g, 2, none⟩ c).setCell ⟨g, 3, none⟩ d) :=
  ((((Off.refl [g] W).setCell _ _ (.inl (by simp))).setCell _ _ (.inl (by simp))).setCell _ _ (.inl (by simp))).setCell _ _ (.inl (by simp))
theorem zP_no : ∀ v ∈ zP.toList, noU v = true := by
  intro v hv
  simp [zP] at hv
  rcases hv with rfl | rfl | rfl <;> rfl
theorem Sx.done {w W : World} {c kk r : Pt} {A : Option Addr} {n kc g : Nat} {l : List Pt} (h : Sx w c kk A n kc g l W) (hr : r.At W) (a b c' d : Value) {W' : World} (hW : W' = (((W.setCell ⟨w.heap.size + 1 + 1, 0, none⟩ a).setCell ⟨w.heap.size + 1 + 1, 1, none⟩ b).setCell ⟨w.heap.size + 1 + 1, 2, none⟩ c').setCell ⟨w.heap.size + 1 + 1, 3, none⟩ d) :
    Pl W' (some ⟨g, 0, none⟩) l ∧ r.At W' ∧ Below w.heap.size w W' := by
  subst hW
  have hO := off4 (w.heap.size + 1 + 1) W a b c' d
  have hg := h.gw.base
  have hat : ∀ p : Pt, p.At W → p.At ((((W.setCell ⟨w.heap.size + 1 + 1, 0, none⟩ a).setCell ⟨w.heap.size + 1 + 1, 1, none⟩ b).setCell ⟨w.heap.size + 1 + 1, 2, none⟩ c').setCell ⟨w.heap.size + 1 + 1, 3, none⟩ d) := fun p hp => ⟨h.r.sl zP_no hp.1 hO, h.r.sl zP_no hp.2 hO⟩
  exact ⟨(h.gw.off hO (by simp; omega)).pl fun p hp => hat p (h.ok p hp).2, hat r hr, h.b.trans (hO.below h.b.size (fun b hb => by simp at hb; omega))⟩
end Nt

end Go.Proofs.YtgimmmmpollkhaaGreat

namespace Go.Proofs.YtgimmmmpollkhaaGreat

open Go.ChangeShapes Go.RowKit

namespace Nt
set_option maxRecDepth 100000
set_option linter.unusedSimpArgs false
set_option linter.unusedVariables false

set_option maxHeartbeats 8000000 in
theorem scaled_q (A : Option Addr) (l : List Pt) (kc : Nat) (c kk : Pt) (w : World) (hl : Pl w A l) (fl : ∀ p ∈ l, p.Ok) (hc : c.At w) (fc : c.Ok) (hk : kk.At w) (fk : kk.Ok) (hn : l.length ≤ 1000) (h0 : kk.q ≠ 0) :
    Calls Tryz.prog 57 #[polyV A l.length kc c, rv kk] w (ScO w (scB kk.q l c) (scL kk.q l) (c.q * kk.q)) := by
  have hS := hide (fun W (b : Below w.heap.size w W) => sign_p fk W (hk.next b))
  have hnz : cmpZ kk.q.num 0 ≠ 0 := fun e => h0 ((cmpZ_0 _).1 e)
  have hP := hide (fun W (b : Below w.heap.size w W) => Pl.next hl b)
  have hM := hide (fun (p : Pt) (hp : p ∈ l) W (a : p.At W) (b : Below w.heap.size w W) => mul_p (fl p hp) fk W a (hk.next b))
  have hMn := hide (fun (p : Pt) (hp : p ∈ l) W (a : p.At W) (b : Below w.heap.size w W) => mul_n (fl p hp) fk W a (hk.next b))
  have hC := hide (fun W (b : Below w.heap.size w W) => mul_p fc fk W (hc.next b) (hk.next b))
  have hCn := hide (fun W (b : Below w.heap.size w W) => mul_n fc fk W (hc.next b) (hk.next b))
  obtain ⟨n, hnn⟩ : ∃ n, n = l.length := ⟨_, rfl⟩
  have hst := hide (fun W (b : Below (W3 w c kk A n kc).heap.size (W3 w c kk A n kc) W) => Sx.start w c kk A n kc (by omega) b)
  have hb0 : Below w.heap.size w (W3 w c kk A n kc) := bl_al (bl_al (bl_al (.refl _ _) _) _) _
  have hmk := make_parts n (by omega)
  have hin : ∀ p ∈ l, scB kk.q l c = true → fitB (p.q * kk.q) = true := fun p hp h => by
    unfold scB at h
    rw [Bool.and_eq_true, List.all_eq_true] at h
    exact h.1 p hp
  clear hl fl hc fc hk fk h0
  unfold polyV rv at *
  rw [← hnn]
  replace hnn := hide hnn
  generalize hz : cmpZ kk.q.num 0 = z at *
  replace hz := hide hz
  unfold W3 zP at hb0 hst
  replace hst := hide hst.out
  replace hb0 := hide hb0
  replace hin := hide hin
  have hzb : (z == 0) = false := by simpa using hnz
  replace hnz := hide hnz
  generalize hi1 : c.xs.length = i1 at *
  generalize hi2 : c.ys.length = i2 at *
  generalize hj1 : kk.xs.length = j1 at *
  generalize hj2 : kk.ys.length = j2 at *
  replace hi1 := hide hi1; replace hi2 := hide hi2; replace hj1 := hide hj1; replace hj2 := hide hj2
  go_enter Tryz.func57, Tryz.ntmps57
  go_wp2_with (go_at_call 71; (with_reducible refine (hS.out _ hb0.out).mono ?_); rintro e w1 ⟨rfl, hb⟩; obtain ⟨X, ⟨x0, x1, x2, x3⟩, ⟨y0, y1, y2⟩, R, hbw⟩ := hst.out w1 hb; replace hb := hide hb; obtain ⟨x0', x1', x2', x3'⟩ := X.x; replace X := hide X; replace R := hide R)
  clear x0 x1 x2 x3 y0 y1 y2 x0' x1' x2' x3'
  generalize w1.heap.size = g at *
  go_loopw [6, 25] (fun v ix wr => ∃ (i : Nat) (l' : List Pt), i ≤ n ∧ ix = .int .i64 (i : Int) ∧ v = .slice (some ⟨g, 0, none⟩) i n ∧ l'.length = i ∧ l'.map Pt.qt = scL kk.q (l.take i) ∧ (l.take i).all (fun p => fitB (p.q * kk.q)) = true ∧ Sx w c kk A n kc g l' wr) (fun _ ix _ => n - (intOf ix).toNat)
  case atStart => exact ⟨0, [], Nat.zero_le _, rfl, rfl, rfl, rfl, rfl, X.out⟩
  case round =>
    obtain ⟨i, l', hi, rfl, rfl, hli, hmap, hall, hX⟩ := hrel
    have hX' := hX
    obtain ⟨hbw, ⟨x0, x1, x2, x3⟩, ⟨y0, y1, y2⟩, hR, _, _⟩ := hX'
    rw [hi1.out, hi2.out] at *
    by_cases hlt : i < n
    · have hil : i < l.length := by rw [← hnn.out]; exact hlt
      obtain ⟨g1, o1, rfl, ⟨c0, c1, c2, c3⟩, hat⟩ := (hP.out wr hbw).get hil
      have hmem : l[i] ∈ l := List.getElem_mem hil
      have htk := take_part hil
      have hb1 : Below wr.heap.size wr (wr.alloc (.cells #[.bool l[i].s, .slice l[i].A l[i].xs.length l[i].a, .slice l[i].B l[i].ys.length l[i].b, .int .i64 l[i].t] 83)) := bl_al (.refl _ _) _
      have hXp := hide (C4.new (.bool l[i].s) (.slice l[i].A l[i].xs.length l[i].a) (.slice l[i].B l[i].ys.length l[i].b) (.int .i64 l[i].t) 83 wr)
      have hX1 := hide (hX.next hb1)
      obtain ⟨k0, k1, k2⟩ := hX1.out.k
      rw [hj1.out, hj2.out] at *
      obtain ⟨f, hf⟩ : ∃ f, fitB (l[i].q * kk.q) = f := ⟨_, rfl⟩
      cases f with
      | true =>
        have hM := hide (hM.out l[i] hmem _ (hat.next hb1) (bl_trans hbw hb1) hf)
        clear hMn hP hX hat hR
        replace hb1 := hide hb1; replace htk := hide htk; replace hmap := hide hmap; replace hall := hide hall; replace hf := hide hf; replace hli := hide hli
        generalize l[i] = p at *
        generalize p.xs.length = p1 at *
        generalize p.ys.length = p2 at *
        go_wp2_with (first
          | (go_at_call 67; (with_reducible refine hM.out.mono ?_); rintro e wa ⟨r, rfl, hq, ht, hok, har, hb3⟩; obtain ⟨wb, hap, hXn⟩ := ((hX1.out.next hb3).al (.cells #[.bool r.s, .slice r.A r.xs.length r.a, .slice r.B r.ys.length r.b] 25)).push r hok (har.next (bl_al (.refl _ _) _)) (by rw [hli.out]; exact hlt); rw [hli.out, ht, show (wa.alloc (.cells #[.bool r.s, .slice r.A r.xs.length r.a, .slice r.B r.ys.length r.b] 25)).heap.size = wa.heap.size + 1 by simp] at hap; obtain ⟨v0, v1, v2, v3⟩ := (hXp.out.next hb3).next (bl_al (.refl _ _) (.cells #[.bool r.s, .slice r.A r.xs.length r.a, .slice r.B r.ys.length r.b] 25)); replace hXn := hide hXn; replace hq := hide hq; replace ht := hide ht; clear hok har hb3)
          | (at_builtin; refine wpList_append_run _ rfl _ _ _ rfl _ _ _ _ rfl rfl hap ?_))
        go_roundw
        case rel =>
          refine ⟨i + 1, l' ++ [r], hlt, by go_num, rfl, by rw [List.length_append, hli.out]; rfl, ?_, ?_, hXn.out⟩
          · rw [htk.out, List.map_append, hmap.out]
            unfold scL
            rw [List.map_append]
            simp [Pt.qt, hq.out, ht.out]
          · rw [htk.out, List.all_append, hall.out]
            simp [hf.out]
        case measure => simp only [intOf]; omega
      | false =>
        have hMn := hide (hMn.out l[i] hmem _ (hat.next hb1) (bl_trans hbw hb1) hf)
        have hsc : scB kk.q l c = false := by
          cases h : scB kk.q l c
          · rfl
          · rw [hin.out _ hmem h] at hf; cases hf
        clear hM hP hX hat hR hXp
        replace hb1 := hide hb1; replace htk := hide htk; replace hmap := hide hmap; replace hall := hide hall; replace hf := hide hf; replace hli := hide hli; replace hsc := hide hsc
        generalize l[i] = p at *
        generalize p.xs.length = p1 at *
        generalize p.ys.length = p2 at *
        go_wp2_with (go_at_call 67; (with_reducible refine hMn.out.mono ?_); rintro e wa ⟨rfl, hb3⟩; have hX2 := (hX1.out.next hb3).al (.cells #[.bool false, .slice none 0 0, .slice none 0 0] 25); have r0 := hX2.r.cell (j := 0) rfl; have r1 := hX2.r.cell (j := 1) rfl; have r2 := hX2.r.cell (j := 2) rfl; have r3 := hX2.r.cell (j := 3) rfl; have s0 := hX2.r.free 0; have s1 := hX2.r.free 1; have s2 := hX2.r.free 2; have s3 := hX2.r.free 3; replace hX2 := hide hX2.b; clear hb3)
        exact bodyPost_ret (v := .tuple #[.agg #[.slice none 0 0, .bool false, .slice none 0 0, .slice none 0 0], .int .i64 4]) (by simp [results, Tryz.results57, go_sem, r0, r1, r2, r3]) rfl (Or.inr ⟨hsc.out, rfl, hX2.out.trans ((off4 _ _ _ _ _ _).below hX2.out.size (fun b hb => by simp at hb; omega))⟩)
    · have hmi : i = n := by omega
      subst hmi
      have hwk : l.take i = l := by rw [hnn.out, List.take_length]
      rw [hwk] at hmap hall
      rw [hj1.out, hj2.out] at *
      have hcf : scB kk.q l c = fitB (c.q * kk.q) := by unfold scB; rw [hall, Bool.true_and]
      obtain ⟨f, hf⟩ : ∃ f, fitB (c.q * kk.q) = f := ⟨_, rfl⟩
      rw [hf] at hcf
      cases f with
      | true =>
        have hC := hide (hC.out wr hbw hf)
        clear hCn hM hMn hP hR hS
        replace hX := hide hX; replace hmap := hide hmap; replace hall := hide hall; replace hf := hide hf; replace hcf := hide hcf; replace hli := hide hli; replace hwk := hide hwk
        go_wp2_with (go_at_call 67; (with_reducible refine hC.out.mono ?_); rintro e wa ⟨r, rfl, hq, ht, hok, har, hb3⟩; have hX2 := (hX.out.next hb3).al (.cells #[.bool r.s, .slice r.A r.xs.length r.a, .slice r.B r.ys.length r.b] 25); have har2 := har.next (bl_al (.refl _ _) (.cells #[.bool r.s, .slice r.A r.xs.length r.a, .slice r.B r.ys.length r.b] 25)); have r0 := hX2.r.cell (j := 0) rfl; have r1 := hX2.r.cell (j := 1) rfl; have r2 := hX2.r.cell (j := 2) rfl; have r3 := hX2.r.cell (j := 3) rfl; have s0 := hX2.r.free 0; have s1 := hX2.r.free 1; have s2 := hX2.r.free 2; have s3 := hX2.r.free 3; replace hX2 := hide hX2; replace har2 := hide har2; replace hq := hide hq; replace hok := hide hok; clear hb3 har ht)
        obtain ⟨e1, e2, e3⟩ := hX2.out.done har2.out _ _ _ _ rfl
        exact bodyPost_ret (v := .tuple #[.agg #[.slice (some ⟨g, 0, none⟩) i i, .bool r.s, .slice r.A r.xs.length r.a, .slice r.B r.ys.length r.b], .int .i64 0]) (by simp [results, Tryz.results57, go_sem, r0, r1, r2, r3]) rfl (Or.inl ⟨hcf.out, _, i, l', r, by unfold polyV; rw [hli.out], hmap.out, hq.out, e1, e2, fun p hp => (hX2.out.ok p hp).1, hok.out, e3, Nat.le_of_eq hli.out, by have h1 := hnn.out; unfold maxLen; omega⟩)
      | false =>
        have hCn := hide (hCn.out wr hbw hf)
        clear hC hM hMn hP hR hS
        replace hX := hide hX; replace hmap := hide hmap; replace hall := hide hall; replace hf := hide hf; replace hcf := hide hcf; replace hli := hide hli; replace hwk := hide hwk
        go_wp2_with (go_at_call 67; (with_reducible refine hCn.out.mono ?_); rintro e wa ⟨rfl, hb3⟩; have hX2 := (hX.out.next hb3).al (.cells #[.bool false, .slice none 0 0, .slice none 0 0] 25); have r0 := hX2.r.cell (j := 0) rfl; have r1 := hX2.r.cell (j := 1) rfl; have r2 := hX2.r.cell (j := 2) rfl; have r3 := hX2.r.cell (j := 3) rfl; have s0 := hX2.r.free 0; have s1 := hX2.r.free 1; have s2 := hX2.r.free 2; have s3 := hX2.r.free 3; replace hX2 := hide hX2.b; clear hb3)
        exact bodyPost_ret (v := .tuple #[.agg #[.slice none 0 0, .bool false, .slice none 0 0, .slice none 0 0], .int .i64 4]) (by simp [results, Tryz.results57, go_sem, r0, r1, r2, r3]) rfl (Or.inr ⟨hcf.out, rfl, hX2.out.trans ((off4 _ _ _ _ _ _).below hX2.out.size (fun b hb => by simp at hb; omega))⟩)
end Nt

end Go.Proofs.YtgimmmmpollkhaaGreat

namespace Go.Proofs.YtgimmmmpollkhaaGreat

open Go.ChangeShapes Go.RowKit

namespace Nt
set_option maxRecDepth 100000
set_option linter.unusedSimpArgs false
set_option linter.unusedVariables false

theorem pl_off {g : Nat} {t : TypeId} {W W' : World} {A : Option Addr} {l : List Pt} (h : Bk g zP t W) (hP : Pl W A l) (hO : Off [g] W W') : Pl W' A l := by
  rcases hP with hP | ⟨b, o, e, hc⟩
  · exact .inl hP
  by_cases hl : l = []
  · exact .inl hl
  have h0 := hc 0 (List.length_pos_iff.2 hl)
  have hbg : b ≠ g := by
    rintro rfl
    have h1 := h0.1.2.2.2
    rw [cell_of_row W b _ zP t (0, 0) h] at h1
    have := List.mem_of_getElem? (by rw [Array.getElem?_toList]; exact h1)
    simp [zP] at this
  have hlt : b < W.heap.size := cell_in h0.1.1
  have hn : b ∉ [g] := by simpa using hbg
  refine .inr ⟨b, o, e, fun i hi => ⟨?_, ?_⟩⟩
  · obtain ⟨c1, c2, c3, c4⟩ := (hc i hi).1
    exact ⟨hO.cell c1 hlt hn, hO.cell c2 hlt hn, hO.cell c3 hlt hn, hO.cell c4 hlt hn⟩
  · exact ⟨h.sl zP_no (hc i hi).2.1 hO, h.sl zP_no (hc i hi).2.2 hO⟩
theorem at_off {g : Nat} {t : TypeId} {W W' : World} {p : Pt} (h : Bk g zP t W) (hp : p.At W) (hO : Off [g] W W') : p.At W' := ⟨h.sl zP_no hp.1 hO, h.sl zP_no hp.2 hO⟩

set_option maxHeartbeats 4000000 in
theorem constant_any (p : Pt) (w : World) (hp : p.At w) : Calls Tryz.prog 101 #[rv p] w fun e w' => e = .returned (.agg #[.slice none 0 0, .bool p.s, .slice p.A p.xs.length p.a, .slice p.B p.ys.length p.b]) ∧ p.At w' ∧ Below w.heap.size w w' := by
  have hb : Below w.heap.size w ((w.alloc (.cells #[.bool p.s, .slice p.A p.xs.length p.a, .slice p.B p.ys.length p.b] 25)).alloc (.cells #[.slice none 0 0, .bool p.s, .slice p.A p.xs.length p.a, .slice p.B p.ys.length p.b] 27)) := bl_al (bl_al (.refl _ _) _) _
  have hat := hide (hp.next hb)
  replace hb := hide hb
  clear hp
  unfold rv
  generalize p.xs.length = i1 at *
  generalize p.ys.length = i2 at *
  go_enter Tryz.func101, Tryz.ntmps101
  go_wp2
  exact bodyPost_ret (v := .agg #[.slice none 0 0, .bool p.s, .slice p.A i1 p.a, .slice p.B i2 p.b]) (by simp [results, Tryz.results101, go_sem]) rfl ⟨rfl, hat.out, hb.out⟩

def scaleL (k : Rat) (l : List Pt) : List (Rat × Int) := if k = 0 then [] else scL k l
theorem fit0 : fitq 0 := ⟨by rw [show qn 0 = 0 from rfl, ln_zero]; decide, by rw [show qd 0 = 1 from rfl, ln_one]; decide⟩
def NewR (q : Rat) (w : World) (e : Ending) (w' : World) : Prop := ∃ r : Pt, e = .returned (.agg #[.bool r.s, .slice r.A r.xs.length r.a, .slice r.B r.ys.length r.b]) ∧ r.q = q ∧ r.Ok ∧ r.At w' ∧ Below w.heap.size w w'
theorem RQ.newR {q : Rat} {w w' : World} {e : Ending} (h : RQ w q e w') (f : fitq q) : NewR q w e w' := by
  obtain ⟨A, c, B, d, rfl, sA, sB, hb⟩ := h
  exact ⟨mkP q A c B d 0, rfl, mkP_q _ _ _ _ _ _, mkP_ok f _ _ _ _ _, ⟨sA, sB⟩, hb⟩
theorem scB_zero {k : Rat} (h : k = 0) (l : List Pt) (c : Pt) : scB k l c = true := by
  subst h
  have h0 : ∀ q : Rat, fitB (q * 0) = true := fun q => by rw [Rat.mul_zero]; exact fitB_t.2 fit0
  unfold scB
  rw [Bool.and_eq_true, List.all_eq_true]
  exact ⟨fun p _ => h0 _, h0 _⟩

set_option maxHeartbeats 8000000 in
theorem scaled_zero (A : Option Addr) (n kc : Nat) (c kk : Pt) (w : World) (hk : kk.At w) (fk : kk.Ok) (h0 : kk.q = 0) :
    Calls Tryz.prog 57 #[polyV A n kc c, rv kk] w (PR w [] 0) := by
  have hS := hide (fun W (b : Below w.heap.size w W) => sign_p fk W (hk.next b))
  have hz : cmpZ kk.q.num 0 = 0 := (cmpZ_0 _).2 h0
  rw [hz] at hS
  have hO := hide (fun W => (of_pos 0 1 0 W (by decide) (by decide) (by decide) (by decide) (by decide) (by rfl)).mono fun e w' h => RQ.newR h fit0)
  have hC := hide (fun (p : Pt) (W : World) (h : p.At W) => constant_any p W h)
  have hst := hide (fun W (b : Below (W3 w c kk A n kc).heap.size (W3 w c kk A n kc) W) => Sx.boxes w c kk A n kc b)
  have hb0 : Below w.heap.size w (W3 w c kk A n kc) := bl_al (bl_al (bl_al (.refl _ _) _) _) _
  clear hk fk h0 hz
  unfold polyV rv at *
  unfold W3 zP at hb0 hst
  replace hst := hide hst.out
  replace hb0 := hide hb0
  generalize c.xs.length = i1 at *
  generalize c.ys.length = i2 at *
  generalize kk.xs.length = j1 at *
  generalize kk.ys.length = j2 at *
  go_enter Tryz.func57, Tryz.ntmps57
  go_wp2_with (first
    | (go_at_call 71; (with_reducible refine (hS.out _ hb0.out).mono ?_); rintro e w1 ⟨rfl, hb⟩; obtain ⟨R, hbw⟩ := hst.out w1 hb; clear hb; replace R := hide R; replace hbw := hide hbw)
    | (go_at_call 62; (with_reducible refine (hO.out _).mono ?_); rintro e w2 ⟨r, rfl, hq, hok, hr, hb⟩; have R2 := hide (R.out.next hb); have hbw2 := hide (hbw.out.trans (hb.mono hbw.out.size)); clear hb; have hC := hide (hC.out r w2 hr); replace hq := hide hq; replace hok := hide hok; clear hr)
    | (go_at_call 101; (with_reducible refine hC.out.mono ?_); rintro e w3 ⟨rfl, hr3, hb⟩; have hX := R2.out.next hb; have r0 := hX.cell (j := 0) rfl; have r1 := hX.cell (j := 1) rfl; have r2 := hX.cell (j := 2) rfl; have r3 := hX.cell (j := 3) rfl; have s0 := hX.free 0; have s1 := hX.free 1; have s2 := hX.free 2; have s3 := hX.free 3; replace hX := hide hX; have hbw3 := hide (hbw2.out.trans (hb.mono hbw2.out.size)); clear hb))
  have hO4 := off4 (w.heap.size + 1 + 1) w3 (.slice none 0 0) (.bool r.s) (.slice r.A r.xs.length r.a) (.slice r.B r.ys.length r.b)
  exact bodyPost_ret (v := .tuple #[.agg #[.slice none 0 0, .bool r.s, .slice r.A r.xs.length r.a, .slice r.B r.ys.length r.b], .int .i64 0]) (by simp [results, Tryz.results57, go_sem, r0, r1, r2, r3]) rfl ⟨none, 0, [], r, rfl, rfl, hq.out, .inl rfl, at_off hX.out hr3 hO4, (fun p hp => by simp at hp), hok.out, hbw3.out.trans (hO4.below hbw3.out.size (fun b hb => by simp at hb; omega)), Nat.le_refl _, Nat.zero_le _⟩
end Nt

end Go.Proofs.YtgimmmmpollkhaaGreat

namespace Go.Proofs.YtgimmmmpollkhaaGreat

open Go.ChangeShapes Go.RowKit

namespace Nt
set_option maxRecDepth 100000
set_option linter.unusedSimpArgs false
set_option linter.unusedVariables false

theorem scaled_any (A : Option Addr) (l : List Pt) (kc : Nat) (c kk : Pt) (w : World) (hl : Pl w A l) (fl : ∀ p ∈ l, p.Ok) (hc : c.At w) (fc : c.Ok) (hk : kk.At w) (fk : kk.Ok) (hn : l.length ≤ 1000) :
    Calls Tryz.prog 57 #[polyV A l.length kc c, rv kk] w (ScO w (scB kk.q l c) (scaleL kk.q l) (c.q * kk.q)) := by
  by_cases h0 : kk.q = 0
  · refine (scaled_zero A l.length kc c kk w hk fk h0).mono fun e w' h => Or.inl ⟨scB_zero h0 l c, ?_⟩
    unfold scaleL
    rw [if_pos h0, h0, Rat.mul_zero]
    exact h
  · unfold scaleL
    rw [if_neg h0]
    exact scaled_q A l kc c kk w hl fl hc fc hk fk hn h0

set_option maxHeartbeats 8000000 in
theorem lscale_ok (A : Option Addr) (l : List Pt) (kc : Nat) (c kk : Pt) (w : World) (hl : Pl w A l) (fl : ∀ p ∈ l, p.Ok) (hv : pvB (-1) l = true) (hc : c.At w) (fc : c.Ok) (hk : kk.At w) (fk : kk.Ok) (hn : l.length ≤ 1000) :
    Calls Tryz.prog 14 #[polyV A l.length kc c, rv kk] w (ScO w (scB kk.q l c) (scaleL kk.q l) (c.q * kk.q)) := by
  have hV := hide (fun W (b : Below w.heap.size w W) => lvalid_any A l kc c W (hl.next b) (hc.next b) (fun p hp => (fl p hp).few) fc.few hn true (by rw [hv, fc.valid]; rfl))
  have hK := hide (fun W (b : Below w.heap.size w W) => validQ_any kk.s kk.A kk.B kk.a kk.b kk.xs kk.ys W (hk.next b).1 (hk.next b).2 fk.few.lx fk.few.ly fk.few.mx fk.few.my true fk.valid)
  have hS := hide (fun W (b : Below w.heap.size w W) => scaled_any A l kc c kk W (hl.next b) fl (hc.next b) fc (hk.next b) fk hn)
  obtain ⟨n, hnn⟩ : ∃ n, n = l.length := ⟨_, rfl⟩
  have hst := hide (fun W (b : Below (W3 w c kk A n kc).heap.size (W3 w c kk A n kc) W) => (Sx.start w c kk A n kc (by omega) b).2)
  have hb0 : Below w.heap.size w (W3 w c kk A n kc) := bl_al (bl_al (bl_al (.refl _ _) _) _) _
  have hbz := hide (hst.out _ (Below.refl _ _))
  generalize scB kk.q l c = bb at *
  generalize scaleL kk.q l = LL at *
  generalize c.q * kk.q = rr at *
  clear hl fl hc fc hk fk
  rw [← hnn] at hV hS ⊢
  clear hnn
  unfold polyV rv at *
  unfold W3 zP at hb0 hst hbz
  replace hst := hide hst.out
  replace hb0 := hide hb0
  generalize c.xs.length = i1 at *
  generalize c.ys.length = i2 at *
  generalize kk.xs.length = j1 at *
  generalize kk.ys.length = j2 at *
  obtain ⟨⟨x0, x1, x2, x3⟩, ⟨y0, y1, y2⟩, _⟩ := hbz.out
  go_enter Tryz.func14, Tryz.ntmps14
  go_wp2_with (first
    | (go_at_call 25; (with_reducible refine (hV.out _ hb0.out).mono ?_); rintro e w1 ⟨rfl, hb⟩; clear x0 x1 x2 x3 y0 y1 y2; obtain ⟨⟨x0, x1, x2, x3⟩, ⟨y0, y1, y2⟩, _, hbw⟩ := hst.out w1 hb; replace hbw := hide hbw; replace hb := hide hb)
    | (go_at_call 56; (with_reducible refine (hK.out _ hbw.out).mono ?_); rintro e w2 ⟨rfl, hb2⟩; clear x0 x1 x2 x3 y0 y1 y2; obtain ⟨⟨x0, x1, x2, x3⟩, ⟨y0, y1, y2⟩, R, hbw2⟩ := hst.out w2 (bl_trans hb.out hb2); replace R := hide R; replace hbw2 := hide hbw2; clear hb2)
    | (go_at_call 57; (with_reducible refine (hS.out _ hbw2.out).mono ?_); rintro e w3 (⟨hs, A', k', l', c', rfl, hm, hq, hP, ha, hok, hcok, hb3, hcp⟩ | ⟨hs, rfl, hb3⟩) <;> (try unfold polyV) <;> have hX := R.out.next hb3 <;> have r0 := hX.cell (j := 0) rfl <;> have r1 := hX.cell (j := 1) rfl <;> have r2 := hX.cell (j := 2) rfl <;> have r3 := hX.cell (j := 3) rfl <;> have s0 := hX.free 0 <;> have s1 := hX.free 1 <;> have s2 := hX.free 2 <;> have s3 := hX.free 3 <;> replace hX := hide hX <;> have hbw3 := hide (bl_trans hbw2.out hb3) <;> clear hb3 <;> (try replace hm := hide hm) <;> (try replace hq := hide hq)))
  · have hO4 := off4 (w.heap.size + 1 + 1) w3 (.slice A' l'.length k') (.bool c'.s) (.slice c'.A c'.xs.length c'.a) (.slice c'.B c'.ys.length c'.b)
    exact bodyPost_ret (v := .tuple #[.agg #[.slice A' l'.length k', .bool c'.s, .slice c'.A c'.xs.length c'.a, .slice c'.B c'.ys.length c'.b], .int .i64 0]) (by simp [results, Tryz.results14, go_sem, r0, r1, r2, r3]) rfl (Or.inl ⟨hs, A', k', l', c', rfl, hm.out, hq.out, pl_off hX.out hP hO4, at_off hX.out ha hO4, hok, hcok, hbw3.out.trans (hO4.below hbw3.out.size (fun b hb => by simp at hb; omega)), hcp⟩)
  · have hO4 := off4 (w.heap.size + 1 + 1) w3 (.slice none 0 0) (.bool false) (.slice none 0 0) (.slice none 0 0)
    exact bodyPost_ret (v := .tuple #[.agg #[.slice none 0 0, .bool false, .slice none 0 0, .slice none 0 0], .int .i64 4]) (by simp [results, Tryz.results14, go_sem, r0, r1, r2, r3]) rfl (Or.inr ⟨hs, rfl, hbw3.out.trans (hO4.below hbw3.out.size (fun b hb => by simp at hb; omega))⟩)

end Nt

end Go.Proofs.YtgimmmmpollkhaaGreat

namespace Go.Proofs.YtgimmmmpollkhaaGreat

open Go.ChangeShapes Go.RowKit

namespace Nt
set_option maxRecDepth 100000
set_option linter.unusedSimpArgs false
set_option linter.unusedVariables false

set_option maxHeartbeats 4000000 in
theorem copied_q (q : Rat) (A B : Option Addr) (a b : Nat) (w : World) (sA : Sl w A (digs (qn q))) (sB : Sl w B (digs (qd q))) (f1 : fitq q) :
    Calls Tryz.prog 54 #[.agg #[.bool (qs q), .slice A (ln (qn q)) a, .slice B (ln (qd q)) b]] w (RQ w q) := by
  obtain ⟨n1, e1⟩ : ∃ n, qn q = n := ⟨_, rfl⟩
  obtain ⟨n2, e2⟩ : ∃ n, qd q = n := ⟨_, rfl⟩
  have ES := hide (show qs q = qs q from rfl)
  have EN := hide e1
  have ED := hide e2
  rw [e1, e2]
  rw [e1] at sA; rw [e2] at sB
  have l1 : ln n1 ≤ 64 := by rw [← e1]; exact f1.1
  have l2 : ln n2 ≤ 64 := by rw [← e2]; exact f1.2
  have K1 := hide (fun W (k : Below w.heap.size w W) => clone_z A a n1 W (kp' k sA) (by omega))
  have K2 := hide (fun W (k : Below w.heap.size w W) => clone_z B b n2 W (kp' k sB) (by omega))
  clear sA sB f1 e1 e2 l1 l2
  generalize hs : qs q = s at *
  replace hs := hide hs
  have X1 := hide ((Q3.new (.bool s) (.slice A (ln n1) a) (.slice B (ln n2) b) w).al (.cells #[.bool false, .slice none 0 0, .slice none 0 0] 25))
  have X2 := hide (Q3.new1 (.bool false) (.slice none 0 0) (.slice none 0 0) w (.cells #[.bool s, .slice A (ln n1) a, .slice B (ln n2) b] 25))
  have b0 : Below w.heap.size w ((w.alloc (.cells #[.bool s, .slice A (ln n1) a, .slice B (ln n2) b] 25)).alloc (.cells #[.bool false, .slice none 0 0, .slice none 0 0] 25)) := bl_al (bl_al (.refl _ _) _) _
  obtain ⟨x1, x2, x3, x4, x5, x6⟩ := X1.out
  go_enter Tryz.func54, Tryz.ntmps54
  go_wp2_with fail
  have kk := hide (Kl.start b0 X2.out).drew
  go_region_held3 (fun W => W.cell? ⟨w.heap.size, 0, none⟩ = some (.bool s) ∧ W.cell? ⟨w.heap.size, 1, none⟩ = some (.slice A (ln n1) a) ∧ W.cell? ⟨w.heap.size, 2, none⟩ = some (.slice B (ln n2) b))
    (first | exact ⟨x1, x2, x3⟩ | exact S3_next hb (by assumption) | exact S3_over (by omega) (by assumption) | assumption)
    (first
      | (go_at_call 95; (with_reducible refine (K1.out _ kk.out.b).mono ?_); rintro e w2 ⟨A2, c2, rfl, s2, hb⟩; have kk := hide (kk.out.next hb))
      | (go_at_call 95; (with_reducible refine (K2.out _ kk.out.b).mono ?_); rintro e w3 ⟨A3, c3, rfl, s3, hb⟩; have kk := hide (kk.out.next hb); have s2 := kp' hb s2; have X4 := hide kk.out.2.1; obtain ⟨y1, y2, y3, y4, y5, y6⟩ := X4.out))
  all_goals
    go_wp2
    exact bodyPost_ret (v := .agg #[.bool s, .slice A2 (ln n1) c2, .slice A3 (ln n2) c3]) (by simp [results, Tryz.results54, go_sem, y1, y2, y3]) rfl (RQ.mk hs.out EN.out ED.out (s2.over3 X4.out _ _ _) (s3.over3 X4.out _ _ _) (Below.over3 kk.out.1 (Nat.le_succ _) _ _ _))
theorem copied_p {p : Pt} (hp : p.Ok) (w : World) (aP : p.At w) : Calls Tryz.prog 54 #[rv p] w (NewR p.q w) := by
  rw [hp.rv]
  exact (copied_q p.q _ _ _ _ w (hp.sl aP).1 (hp.sl aP).2 hp.f).mono fun e w' h => RQ.newR h hp.f
end Nt

end Go.Proofs.YtgimmmmpollkhaaGreat

namespace Go.Proofs.YtgimmmmpollkhaaGreat

open Go.ChangeShapes Go.RowKit

namespace Nt
set_option maxRecDepth 100000
set_option linter.unusedSimpArgs false
set_option linter.unusedVariables false

theorem list_at {xs ys : List Nat} {i : Nat} (hx : i < xs.length) (hy : i < ys.length) (h : xs.take i = ys.take i) : (xs.take (i + 1) = ys.take (i + 1)) ↔ lim xs i = lim ys i := by
  have e1 : xs.take (i + 1) = xs.take i ++ [xs[i]] := by rw [List.take_add_one, List.getElem?_eq_getElem hx]; rfl
  have e2 : ys.take (i + 1) = ys.take i ++ [ys[i]] := by rw [List.take_add_one, List.getElem?_eq_getElem hy]; rfl
  have e3 : lim xs i = xs[i] := by unfold lim; simp [List.getD_eq_getElem?_getD, List.getElem?_eq_getElem hx]
  have e4 : lim ys i = ys[i] := by unfold lim; simp [List.getD_eq_getElem?_getD, List.getElem?_eq_getElem hy]
  rw [e1, e2, e3, e4, h]
  exact ⟨fun e => by have := List.append_cancel_left e; injection this, fun e => by rw [e]⟩

set_option maxHeartbeats 4000000 in
theorem equal_w (A B : Option Addr) (c d : Nat) (xs ys : List Nat) (w : World) (hx : Sl w A xs) (hy : Sl w B ys) (lx : xs.length ≤ 1000000) (ly : ys.length ≤ 1000000) (r : Bool) (hr : decide (xs = ys) = r) :
    Calls Tryz.prog 118 #[.slice A xs.length c, .slice B ys.length d] w fun e w' => e = .returned (.bool r) ∧ Below w.heap.size w w' := by
  subst hr
  by_cases hl : xs.length = ys.length
  · have hbd : ∀ n, Below w.heap.size w (w.drewN n) := fun n => ((Off.refl [] w).drewN n).below (Nat.le_refl _) (by simp)
    have ht : xs.take xs.length = xs := List.take_length
    have ht' : ys.take xs.length = ys := by rw [hl]; exact List.take_length
    obtain ⟨n, hn⟩ : ∃ n, n = xs.length := ⟨_, rfl⟩
    rw [← hl, ← hn]
    rw [← hn] at lx ht ht' hl
    have hl' := hide hl
    have hn' := hide hn
    have hxc := hide hx
    have hyc := hide hy
    replace hbd := hide hbd; replace ht := hide ht; replace ht' := hide ht'
    clear hl hn hx hy ly
    go_enter Tryz.func118, Tryz.ntmps118
    go_wp2_with fail
    go_loopw [13] (fun ix wr => ∃ i k : Nat, i ≤ n ∧ ix = .int .i64 (i : Int) ∧ wr = w.drewN k ∧ xs.take i = ys.take i) (fun ix _ => n - (intOf ix).toNat)
    case atStart => exact ⟨0, 0, Nat.zero_le _, rfl, rfl, rfl⟩
    case round =>
      obtain ⟨i, k, hi, rfl, rfl, htk⟩ := hrel
      by_cases hlt : i < n
      · have h1 : i < xs.length := by rw [← hn'.out]; exact hlt
        have h2 : i < ys.length := by rw [← hl'.out]; exact hlt
        have hiff := hide (list_at h1 h2 htk)
        rcases hxc.out with h | ⟨b1, o1, rfl, _, c1⟩
        · rw [h] at h1; simp at h1
        rcases hyc.out with h | ⟨b2, o2, rfl, _, c2⟩
        · rw [h] at h2; simp at h2
        have k1 := c1 i h1
        have k2 := c2 i h2
        clear c1 c2 htk
        obtain ⟨x, hx⟩ : ∃ x, x = lim xs i := ⟨_, rfl⟩
        obtain ⟨y, hy⟩ : ∃ y, y = lim ys i := ⟨_, rfl⟩
        rw [← hx] at k1
        rw [← hy] at k2
        rw [← hx, ← hy] at hiff
        clear hx hy
        have hlt' : (i : Int) < (n : Int) := by omega
        by_cases he : x = y
        · subst he
          go_wp2_with fail
          go_quiet (fail)
          go_wp2_with fail
          go_roundw
          case rel => exact ⟨i + 1, _, hlt, by go_num, by first | rfl | (rw [World.drewN_drewN]), by first | exact hiff.out.2 rfl | exact hiff.out.2 trivial⟩
          case measure => simp only [intOf]; omega
        · have q1 : ((x : Int) != (y : Int)) = true := by simp; omega
          have q2 : ((x : Int) == (y : Int)) = false := by simp; omega
          have q3 : ¬ ((x : Int) = (y : Int)) := by omega
          go_wp2_with fail
          go_quiet (fail)
          go_wp2_with fail
          have hne : xs ≠ ys := fun e => he (hiff.out.1 (by rw [e]))
          go_ret
          exact ⟨by rw [decide_eq_false hne]; rfl, by first | exact hbd.out _ | (rw [World.drewN_drewN]; exact hbd.out _)⟩
      · have hin : i = n := by omega
        subst hin
        rw [ht.out, ht'.out] at htk
        have hd : decide (xs = ys) = true := decide_eq_true htk
        clear htk
        go_wp2_with fail
        go_ret
        exact ⟨by rw [hd]; rfl, hbd.out _⟩
  · have hne : xs ≠ ys := fun e => hl (by rw [e])
    have hd : decide (xs = ys) = false := decide_eq_false hne
    have q1 : ((xs.length : Int) != (ys.length : Int)) = true := by simp; omega
    clear hx hy hne
    rw [hd]
    clear hd
    generalize xs.length = n at *
    generalize ys.length = m at *
    have hl2 : ¬ ((n : Int) = (m : Int)) := by omega
    go_enter Tryz.func118, Tryz.ntmps118
    go_wp2_with fail
    go_ret
    exact ⟨rfl, .refl _ _⟩

theorem eqb (u v : Bool) (W : World) : (binOp .eql 4 (.bool u) (.bool v)).run Tryz.prog W = .ok (.bool (u == v)) W := by cases u <;> cases v <;> kernel_rfl
set_option maxHeartbeats 4000000 in
theorem sameRat_any (p r : Pt) (w : World) (hp : p.At w) (hr : r.At w) (fp : p.Few) (fr : r.Few) (b1 b2 b3 : Bool) (h1 : (p.s == r.s) = b1) (h2 : decide (p.xs = r.xs) = b2) (h3 : decide (p.ys = r.ys) = b3) :
    Calls Tryz.prog 74 #[rv p, rv r] w fun e w' => e = .returned (.bool (b1 && (b2 && b3))) ∧ Below w.heap.size w w' := by
  have hX := hide (fun W (b : Below w.heap.size w W) => equal_w p.A r.A p.a r.a p.xs r.xs W (hp.next b).1 (hr.next b).1 fp.mx fr.mx b2 h2)
  have hY := hide (fun W (b : Below w.heap.size w W) => equal_w p.B r.B p.b r.b p.ys r.ys W (hp.next b).2 (hr.next b).2 fp.my fr.my b3 h3)
  clear hp hr fp fr h2 h3
  unfold rv
  generalize p.xs.length = i1 at *
  generalize p.ys.length = i2 at *
  generalize r.xs.length = j1 at *
  generalize r.ys.length = j2 at *
  have hb : Below w.heap.size w ((w.alloc (.cells #[.bool p.s, .slice p.A i1 p.a, .slice p.B i2 p.b] 25)).alloc (.cells #[.bool r.s, .slice r.A j1 r.a, .slice r.B j2 r.b] 25)) := bl_al (bl_al (.refl _ _) _) _
  have hP : C3 w.heap.size (.bool p.s) (.slice p.A i1 p.a) (.slice p.B i2 p.b) ((w.alloc (.cells #[.bool p.s, .slice p.A i1 p.a, .slice p.B i2 p.b] 25)).alloc (.cells #[.bool r.s, .slice r.A j1 r.a, .slice r.B j2 r.b] 25)) := C3.of ((Bk.new _ _ w).al _)
  have hR : C3 (w.heap.size + 1) (.bool r.s) (.slice r.A j1 r.a) (.slice r.B j2 r.b) ((w.alloc (.cells #[.bool p.s, .slice p.A i1 p.a, .slice p.B i2 p.b] 25)).alloc (.cells #[.bool r.s, .slice r.A j1 r.a, .slice r.B j2 r.b] 25)) := C3.of (Bk.new1 _ _ w _)
  obtain ⟨x0, x1, x2⟩ := hP
  obtain ⟨y0, y1, y2⟩ := hR
  have hPn := hide (fun W b => C3.next (W := W) ⟨x0, x1, x2⟩ b)
  have hRn := hide (fun W b => C3.next (W := W) ⟨y0, y1, y2⟩ b)
  replace hb := hide hb
  have q1 : ∀ W, (binOp .eql 4 (.bool p.s) (.bool r.s)).run Tryz.prog W = .ok (.bool b1) W := fun W => by rw [eqb, h1]
  clear h1
  cases b1 with
  | false =>
    go_enter Tryz.func74, Tryz.ntmps74
    go_wp2_with fail
    go_ret
    exact ⟨rfl, hb.out⟩
  | true =>
    cases b2 with
    | false =>
      go_enter Tryz.func74, Tryz.ntmps74
      go_wp2_with (go_at_call 118; (with_reducible refine (hX.out _ hb.out).mono ?_); rintro e w1 ⟨rfl, hb1⟩; replace hb1 := hide hb1)
      go_ret
      exact ⟨rfl, bl_trans hb.out hb1.out⟩
    | true =>
      go_enter Tryz.func74, Tryz.ntmps74
      go_wp2_with (first
        | (go_at_call 118; (with_reducible refine (hX.out _ hb.out).mono ?_); rintro e w1 ⟨rfl, hb1⟩; clear x0 x1 x2 y0 y1 y2; obtain ⟨x0, x1, x2⟩ := hPn.out _ hb1; obtain ⟨y0, y1, y2⟩ := hRn.out _ hb1; replace hb1 := hide hb1; have hbw := hide (bl_trans hb.out hb1.out); clear hX)
        | (go_at_call 118; (with_reducible refine (hY.out _ hbw.out).mono ?_); rintro e w2 ⟨rfl, hb2⟩; replace hb2 := hide hb2))
      go_ret
      exact ⟨rfl, bl_trans hbw.out hb2.out⟩
theorem digs_inj {a b : Nat} (h : digs a = digs b) : a = b := by rw [← val_digs a, ← val_digs b, h]
theorem same_iff {p r : Pt} (hp : p.Ok) (hr : r.Ok) : ((p.s == r.s) && (decide (p.xs = r.xs) && decide (p.ys = r.ys))) = decide (p.q = r.q) := by
  rw [hp.s, hr.s, hp.x, hr.x, hp.y, hr.y, Bool.eq_iff_iff]
  simp only [Bool.and_eq_true, beq_iff_eq, decide_eq_true_eq]
  rw [← q_ext_iff]
  exact ⟨fun ⟨a, b, c⟩ => ⟨a, digs_inj b, digs_inj c⟩, fun ⟨a, b, c⟩ => ⟨a, by rw [b], by rw [c]⟩⟩
theorem sameRat_p {p r : Pt} (hp : p.Ok) (hr : r.Ok) (w : World) (aP : p.At w) (aR : r.At w) (b : Bool) (hb : decide (p.q = r.q) = b) : Calls Tryz.prog 74 #[rv p, rv r] w fun e w' => e = .returned (.bool b) ∧ Below w.heap.size w w' := by
  rw [← same_iff hp hr] at hb
  rw [← hb]
  exact sameRat_any p r w aP aR hp.few hr.few _ _ _ rfl rfl rfl

def pv (p : Pt) : Value := .agg #[.bool p.s, .slice p.A p.xs.length p.a, .slice p.B p.ys.length p.b, .int .i64 p.t]
set_option maxHeartbeats 4000000 in
theorem samePart_p {p r : Pt} (hp : p.Ok) (hr : r.Ok) (w : World) (aP : p.At w) (aR : r.At w) (b : Bool) (hb : decide (p.qt = r.qt) = b) : Calls Tryz.prog 73 #[pv p, pv r] w fun e w' => e = .returned (.bool b) ∧ Below w.heap.size w w' := by
  obtain ⟨b1, h1⟩ : ∃ b, decide (p.t = r.t) = b := ⟨_, rfl⟩
  obtain ⟨b2, h2⟩ : ∃ b, decide (p.q = r.q) = b := ⟨_, rfl⟩
  have hbb : b = (b1 && b2) := by
    rw [← hb, ← h1, ← h2, Bool.eq_iff_iff]
    simp [Pt.qt, and_comm]
  subst hbb
  have hS := hide (fun W (b : Below w.heap.size w W) => sameRat_p hp hr W (aP.next b) (aR.next b) b2 h2)
  have q1 := (show binOp .eql 3 (.int .i64 p.t) (.int .i64 r.t) = pure (.bool b1) by subst h1; rfl)
  clear hp hr aP aR h1 h2 hb
  unfold pv
  unfold rv at hS
  generalize p.xs.length = i1 at *
  generalize p.ys.length = i2 at *
  generalize r.xs.length = j1 at *
  generalize r.ys.length = j2 at *
  have hb : Below w.heap.size w ((w.alloc (.cells #[.bool p.s, .slice p.A i1 p.a, .slice p.B i2 p.b, .int .i64 p.t] 83)).alloc (.cells #[.bool r.s, .slice r.A j1 r.a, .slice r.B j2 r.b, .int .i64 r.t] 83)) := bl_al (bl_al (.refl _ _) _) _
  obtain ⟨x0, x1, x2, x3⟩ : C4 w.heap.size (.bool p.s) (.slice p.A i1 p.a) (.slice p.B i2 p.b) (.int .i64 p.t) ((w.alloc (.cells #[.bool p.s, .slice p.A i1 p.a, .slice p.B i2 p.b, .int .i64 p.t] 83)).alloc (.cells #[.bool r.s, .slice r.A j1 r.a, .slice r.B j2 r.b, .int .i64 r.t] 83)) := C4.of ((Bk.new _ _ w).al _)
  obtain ⟨y0, y1, y2, y3⟩ : C4 (w.heap.size + 1) (.bool r.s) (.slice r.A j1 r.a) (.slice r.B j2 r.b) (.int .i64 r.t) ((w.alloc (.cells #[.bool p.s, .slice p.A i1 p.a, .slice p.B i2 p.b, .int .i64 p.t] 83)).alloc (.cells #[.bool r.s, .slice r.A j1 r.a, .slice r.B j2 r.b, .int .i64 r.t] 83)) := C4.of (Bk.new1 _ _ w _)
  replace hb := hide hb
  cases b1 with
  | false =>
    go_enter Tryz.func73, Tryz.ntmps73
    go_wp2_with fail
    go_ret
    exact ⟨rfl, hb.out⟩
  | true =>
    go_enter Tryz.func73, Tryz.ntmps73
    go_wp2_with (go_at_call 74; (with_reducible refine (hS.out _ hb.out).mono ?_); rintro e w1 ⟨rfl, hb1⟩; replace hb1 := hide hb1)
    go_ret
    exact ⟨rfl, bl_trans hb.out hb1.out⟩

theorem qt_at {l m : List Pt} {i : Nat} (hx : i < l.length) (hy : i < m.length) (h : (l.take i).map Pt.qt = (m.take i).map Pt.qt) : ((l.take (i + 1)).map Pt.qt = (m.take (i + 1)).map Pt.qt) ↔ l[i].qt = m[i].qt := by
  rw [take_part hx, take_part hy, List.map_append, List.map_append, h]
  exact ⟨fun e => by have := List.append_cancel_left e; injection this, fun e => by show _ ++ [_] = _ ++ [_]; rw [e]⟩
set_option maxHeartbeats 8000000 in
theorem equalF_p (A B : Option Addr) (c d : Nat) (l m : List Pt) (w : World) (hl : Pl w A l) (hm : Pl w B m) (fl : ∀ p ∈ l, p.Ok) (fm : ∀ p ∈ m, p.Ok) (nl : l.length ≤ 1000000) (nm : m.length ≤ 1000000) (r : Bool) (hr : decide (l.map Pt.qt = m.map Pt.qt) = r) :
    Calls Tryz.prog 72 #[.slice A l.length c, .slice B m.length d, .func (.func 73) #[] #[]] w fun e w' => e = .returned (.bool r) ∧ Below w.heap.size w w' := by
  subst hr
  by_cases hlm : l.length = m.length
  · have hS := hide (fun (p r : Pt) (hp : p ∈ l) (hr : r ∈ m) W (a1 : p.At W) (a2 : r.At W) => samePart_p (fl p hp) (fm r hr) W a1 a2)
    have hP := hide (fun W (b : Below w.heap.size w W) => Pl.next hl b)
    have hQ := hide (fun W (b : Below w.heap.size w W) => Pl.next hm b)
    have ht : l.take l.length = l := List.take_length
    have ht' : m.take l.length = m := by rw [hlm]; exact List.take_length
    obtain ⟨n, hn⟩ : ∃ n, n = l.length := ⟨_, rfl⟩
    rw [← hlm, ← hn]
    rw [← hn] at nl ht ht' hlm
    have hl' := hide hlm
    have hn' := hide hn
    replace ht := hide ht; replace ht' := hide ht'
    clear hlm hn hl hm nm fl fm
    go_enter Tryz.func72, Tryz.ntmps72
    go_wp2_with fail
    go_loopw [17] (fun ix wr => ∃ i : Nat, i ≤ n ∧ ix = .int .i64 (i : Int) ∧ Below w.heap.size w wr ∧ (l.take i).map Pt.qt = (m.take i).map Pt.qt) (fun ix _ => n - (intOf ix).toNat)
    case atStart => exact ⟨0, Nat.zero_le _, rfl, .refl _ _, rfl⟩
    case round =>
      obtain ⟨i, hi, rfl, hbw, htk⟩ := hrel
      by_cases hlt : i < n
      · have h1 : i < l.length := by rw [← hn'.out]; exact hlt
        have h2 : i < m.length := by rw [← hl'.out]; exact hlt
        have hiff := qt_at h1 h2 htk
        obtain ⟨g1, o1, rfl, ⟨x0, x1, x2, x3⟩, a1⟩ := (hP.out wr hbw).get h1
        obtain ⟨g2, o2, rfl, ⟨y0, y1, y2, y3⟩, a2⟩ := (hQ.out wr hbw).get h2
        have hb2 : Below wr.heap.size wr ((wr.alloc (.cells #[.bool l[i].s, .slice l[i].A l[i].xs.length l[i].a, .slice l[i].B l[i].ys.length l[i].b, .int .i64 l[i].t] 83)).alloc (.cells #[.bool m[i].s, .slice m[i].A m[i].xs.length m[i].a, .slice m[i].B m[i].ys.length m[i].b, .int .i64 m[i].t] 83)) := bl_al (bl_al (.refl _ _) _) _
        obtain ⟨b, hb⟩ : ∃ b, decide (l[i].qt = m[i].qt) = b := ⟨_, rfl⟩
        have hS := hS.out l[i] m[i] (List.getElem_mem h1) (List.getElem_mem h2) _ (a1.next hb2) (a2.next hb2) b hb
        have hy1 : Below wr.heap.size wr (wr.alloc (.cells #[.bool l[i].s, .slice l[i].A l[i].xs.length l[i].a, .slice l[i].B l[i].ys.length l[i].b, .int .i64 l[i].t] 83)) := bl_al (.refl _ _) _
        have z0 := cell_next hy1 y0
        have z1 := cell_next hy1 y1
        have z2 := cell_next hy1 y2
        have z3 := cell_next hy1 y3
        unfold pv at hS
        replace hS := hide hS; replace hiff := hide hiff; replace hb := hide hb
        clear a1 a2 hP hQ htk y0 y1 y2 y3 hy1
        generalize l[i] = p at *
        generalize m[i] = q at *
        generalize p.xs.length = i1 at *
        generalize p.ys.length = i2 at *
        generalize q.xs.length = j1 at *
        generalize q.ys.length = j2 at *
        have hlt' : (i : Int) < (n : Int) := by omega
        replace hb2 := hide hb2
        cases b with
        | false =>
          go_wp2_with (go_at_call 73; (with_reducible refine hS.out.mono ?_); rintro e wa ⟨rfl, hb3⟩; replace hb3 := hide hb3)
          have hne : ¬ l.map Pt.qt = m.map Pt.qt := fun e => by
            have := hiff.out.1 (by rw [List.map_take, List.map_take, e])
            have h := hb.out
            rw [decide_eq_true this] at h
            cases h
          go_ret
          exact ⟨by rw [decide_eq_false hne]; rfl, bl_trans hbw (bl_trans hb2.out hb3.out)⟩
        | true =>
          go_wp2_with (go_at_call 73; (with_reducible refine hS.out.mono ?_); rintro e wa ⟨rfl, hb3⟩; replace hb3 := hide hb3)
          go_roundw
          case rel => exact ⟨i + 1, hlt, by go_num, bl_trans hbw (bl_trans hb2.out hb3.out), hiff.out.2 (of_decide_eq_true hb.out)⟩
          case measure => simp only [intOf]; omega
      · have hin : i = n := by omega
        subst hin
        rw [ht.out, ht'.out] at htk
        have hd : decide (l.map Pt.qt = m.map Pt.qt) = true := decide_eq_true htk
        clear htk
        go_wp2_with fail
        go_ret
        exact ⟨by rw [hd]; rfl, hbw⟩
  · have hne : ¬ l.map Pt.qt = m.map Pt.qt := fun e => hlm (by have := congrArg List.length e; simpa using this)
    have hd : decide (l.map Pt.qt = m.map Pt.qt) = false := decide_eq_false hne
    have q1 : ((l.length : Int) != (m.length : Int)) = true := by simp; omega
    clear hl hm hne fl fm
    rw [hd]
    clear hd
    generalize l.length = n at *
    generalize m.length = k at *
    have hl2 : ¬ ((n : Int) = (k : Int)) := by omega
    go_enter Tryz.func72, Tryz.ntmps72
    go_wp2_with fail
    go_ret
    exact ⟨rfl, .refl _ _⟩

set_option maxHeartbeats 8000000 in
theorem lsame_p (A B : Option Addr) (kc kd : Nat) (l m : List Pt) (c d : Pt) (w : World) (hl : Pl w A l) (hm : Pl w B m) (fl : ∀ p ∈ l, p.Ok) (fm : ∀ p ∈ m, p.Ok) (hc : c.At w) (hd : d.At w) (fc : c.Ok) (fd : d.Ok) (nl : l.length ≤ 1000000) (nm : m.length ≤ 1000000) (b1 b2 : Bool) (h1 : decide (l.map Pt.qt = m.map Pt.qt) = b1) (h2 : decide (c.q = d.q) = b2) :
    Calls Tryz.prog 29 #[polyV A l.length kc c, polyV B m.length kd d] w fun e w' => e = .returned (.bool (b1 && b2)) ∧ Below w.heap.size w w' := by
  have hE := hide (fun W (b : Below w.heap.size w W) => equalF_p A B kc kd l m W (hl.next b) (hm.next b) fl fm nl nm b1 h1)
  have hS := hide (fun W (b : Below w.heap.size w W) => sameRat_p fc fd W (hc.next b) (hd.next b) b2 h2)
  clear hl hm fl fm hc hd fc fd h1 h2
  unfold polyV
  unfold rv at hS
  generalize l.length = n at *
  generalize m.length = k at *
  generalize c.xs.length = i1 at *
  generalize c.ys.length = i2 at *
  generalize d.xs.length = j1 at *
  generalize d.ys.length = j2 at *
  have hb : Below w.heap.size w ((w.alloc (.cells #[.slice A n kc, .bool c.s, .slice c.A i1 c.a, .slice c.B i2 c.b] 27)).alloc (.cells #[.slice B k kd, .bool d.s, .slice d.A j1 d.a, .slice d.B j2 d.b] 27)) := bl_al (bl_al (.refl _ _) _) _
  have hX : C4 w.heap.size (.slice A n kc) (.bool c.s) (.slice c.A i1 c.a) (.slice c.B i2 c.b) ((w.alloc (.cells #[.slice A n kc, .bool c.s, .slice c.A i1 c.a, .slice c.B i2 c.b] 27)).alloc (.cells #[.slice B k kd, .bool d.s, .slice d.A j1 d.a, .slice d.B j2 d.b] 27)) := C4.of ((Bk.new _ _ w).al _)
  have hY : C4 (w.heap.size + 1) (.slice B k kd) (.bool d.s) (.slice d.A j1 d.a) (.slice d.B j2 d.b) ((w.alloc (.cells #[.slice A n kc, .bool c.s, .slice c.A i1 c.a, .slice c.B i2 c.b] 27)).alloc (.cells #[.slice B k kd, .bool d.s, .slice d.A j1 d.a, .slice d.B j2 d.b] 27)) := C4.of (Bk.new1 _ _ w _)
  obtain ⟨x0, x1, x2, x3⟩ := hX
  obtain ⟨y0, y1, y2, y3⟩ := hY
  have hXn := hide (fun W b => C4.next (w' := W) ⟨x0, x1, x2, x3⟩ b)
  have hYn := hide (fun W b => C4.next (w' := W) ⟨y0, y1, y2, y3⟩ b)
  replace hb := hide hb
  cases b1 with
  | false =>
    go_enter Tryz.func29, Tryz.ntmps29
    go_wp2_with (go_at_call 72; (with_reducible refine (hE.out _ hb.out).mono ?_); rintro e w1 ⟨rfl, hb1⟩; replace hb1 := hide hb1)
    go_ret
    exact ⟨rfl, bl_trans hb.out hb1.out⟩
  | true =>
    go_enter Tryz.func29, Tryz.ntmps29
    go_wp2_with (first
      | (go_at_call 72; (with_reducible refine (hE.out _ hb.out).mono ?_); rintro e w1 ⟨rfl, hb1⟩; clear x0 x1 x2 x3 y0 y1 y2 y3; obtain ⟨x0, x1, x2, x3⟩ := hXn.out _ hb1; obtain ⟨y0, y1, y2, y3⟩ := hYn.out _ hb1; have hbw := hide (bl_trans hb.out hb1); clear hb1)
      | (go_at_call 74; (with_reducible refine (hS.out _ hbw.out).mono ?_); rintro e w2 ⟨rfl, hb2⟩; replace hb2 := hide hb2))
    go_ret
    exact ⟨rfl, bl_trans hbw.out hb2.out⟩
end Nt

end Go.Proofs.YtgimmmmpollkhaaGreat

namespace Go.Proofs.YtgimmmmpollkhaaGreat

open Go.ChangeShapes Go.RowKit

namespace Nt
set_option maxRecDepth 100000
set_option linter.unusedSimpArgs false
set_option linter.unusedVariables false

section

variable {x y : Rat × Int} {l m : List (Rat × Int)}
end
theorem add_p {p k : Pt} (hp : p.Ok) (hk : k.Ok) (w : World) (aP : p.At w) (aK : k.At w) (f : fitB (p.q + k.q) = true) : Calls Tryz.prog 68 #[rv p, rv k] w (NewQ (p.q + k.q) p.t w) := by
  rw [fitB_t] at f
  rw [hp.rv, hk.rv]
  exact (add_q p.q k.q _ rfl _ _ _ _ _ _ _ _ w (hp.sl aP).1 (hp.sl aP).2 (hk.sl aK).1 (hk.sl aK).2 hp.f hk.f f).mono fun e w' h => h.newQ f _
theorem add_n {p k : Pt} (hp : p.Ok) (hk : k.Ok) (w : World) (aP : p.At w) (aK : k.At w) (f : fitB (p.q + k.q) = false) : Calls Tryz.prog 68 #[rv p, rv k] w (RNo 4 w) := by
  replace f := fitB_f f
  rw [hp.rv, hk.rv]
  exact add_big p.q k.q _ rfl _ _ _ _ _ _ _ _ w (hp.sl aP).1 (hp.sl aP).2 (hk.sl aK).1 (hk.sl aK).2 hp.f hk.f f

structure Ax (w : World) (c d : Pt) (A B : Option Addr) (n kc k kd mm g : Nat) (l : List Pt) (W : World) : Prop where
  b : Below w.heap.size w W
  x : C4 w.heap.size (.slice A n kc) (.bool c.s) (.slice c.A c.xs.length c.a) (.slice c.B c.ys.length c.b) W
  y : C4 (w.heap.size + 1) (.slice B k kd) (.bool d.s) (.slice d.A d.xs.length d.a) (.slice d.B d.ys.length d.b) W
  r : Bk (w.heap.size + 1 + 1) zP 27 W
  gw : Gw (w.heap.size + 3) W g mm l
  ok : ∀ p ∈ l, p.Ok ∧ p.At W
section

variable {w W W' : World} {c d : Pt} {A B : Option Addr} {n kc k kd mm g : Nat} {l : List Pt}
theorem Ax.next (h : Ax w c d A B n kc k kd mm g l W) (hb : Below W.heap.size W W') : Ax w c d A B n kc k kd mm g l W' :=
  ⟨bl_trans h.b hb, h.x.next hb, h.y.next hb, h.r.next hb, h.gw.next hb, fun p hp => ⟨(h.ok p hp).1, (h.ok p hp).2.next hb⟩⟩
theorem Ax.al (h : Ax w c d A B n kc k kd mm g l W) (o : Obj) : Ax w c d A B n kc k kd mm g l (W.alloc o) := h.next (bl_al (.refl _ _) o)
theorem Ax.drewN (h : Ax w c d A B n kc k kd mm g l W) (j : Nat) : Ax w c d A B n kc k kd mm g l (W.drewN j) := h.next (((Off.refl [] W).drewN j).below (Nat.le_refl _) (by simp))
theorem Ax.push (h : Ax w c d A B n kc k kd mm g l W) (p : Pt) (hp : p.Ok) (aP : p.At W) (hroom : l.length < mm) :
    ∃ W', (∀ ty, (Builtin.append_ #[22, 22] ty #[.slice (some ⟨g, 0, none⟩) l.length mm, .slice (some ⟨W.heap.size, 0, none⟩) 1 1]).run Tryz.prog (W.alloc (.cells #[.bool p.s, .slice p.A p.xs.length p.a, .slice p.B p.ys.length p.b, .int .i64 p.t] 83)) = .ok (.slice (some ⟨g, 0, none⟩) (l.length + 1) mm) W') ∧ Ax w c d A B n kc k kd mm g (l ++ [p]) W' := by
  obtain ⟨W', hr, hg, hO⟩ := h.gw.push p hroom
  have hbg := h.gw.base
  have hn : ∀ j, j < w.heap.size + 3 → j ∉ [g] := fun j hj hm => by simp at hm; omega
  refine ⟨W', hr, h.b.trans (hO.below h.b.size (fun b hb => by simp at hb; omega)), h.x.off hO (hn _ (by omega)), h.y.off hO (hn _ (by omega)), h.r.off hO (hn _ (by omega)), hg, fun q hq => ?_⟩
  rcases List.mem_append.1 hq with hq | hq
  · exact ⟨(h.ok q hq).1, h.gw.at_ (h.ok q hq).2 hO⟩
  · simp at hq
    subst hq
    exact ⟨hp, h.gw.at_ aP hO⟩
end
def V3 (w : World) (c d : Pt) (A B : Option Addr) (n kc k kd : Nat) : World := ((w.alloc (.cells #[.slice A n kc, .bool c.s, .slice c.A c.xs.length c.a, .slice c.B c.ys.length c.b] 27)).alloc (.cells #[.slice B k kd, .bool d.s, .slice d.A d.xs.length d.a, .slice d.B d.ys.length d.b] 27)).alloc (.cells zP 27)
theorem Ax.start (w : World) (c d : Pt) (A B : Option Addr) (n kc k kd mm : Nat) (hn : mm ≤ 1000000) {W : World} (hb : Below (V3 w c d A B n kc k kd).heap.size (V3 w c d A B n kc k kd) W) : Ax w c d A B n kc k kd mm W.heap.size [] (W.alloc (mz mm)) ∧ C4 w.heap.size (.slice A n kc) (.bool c.s) (.slice c.A c.xs.length c.a) (.slice c.B c.ys.length c.b) W ∧ C4 (w.heap.size + 1) (.slice B k kd) (.bool d.s) (.slice d.A d.xs.length d.a) (.slice d.B d.ys.length d.b) W ∧ Bk (w.heap.size + 1 + 1) zP 27 W ∧ Below w.heap.size w W := by
  have h1 : Bk w.heap.size #[.slice A n kc, .bool c.s, .slice c.A c.xs.length c.a, .slice c.B c.ys.length c.b] 27 (V3 w c d A B n kc k kd) := ((Bk.new _ _ w).al _).al _
  have h2 : Bk (w.heap.size + 1) #[.slice B k kd, .bool d.s, .slice d.A d.xs.length d.a, .slice d.B d.ys.length d.b] 27 (V3 w c d A B n kc k kd) := (Bk.new1 _ _ w _).al _
  have h3 : Bk (w.heap.size + 1 + 1) zP 27 (V3 w c d A B n kc k kd) := by
    have := Bk.new zP 27 ((w.alloc (.cells #[.slice A n kc, .bool c.s, .slice c.A c.xs.length c.a, .slice c.B c.ys.length c.b] 27)).alloc (.cells #[.slice B k kd, .bool d.s, .slice d.A d.xs.length d.a, .slice d.B d.ys.length d.b] 27))
    simpa [V3] using this
  have hb0 : Below w.heap.size w (V3 w c d A B n kc k kd) := bl_al (bl_al (bl_al (.refl _ _) _) _) _
  have hsz : (V3 w c d A B n kc k kd).heap.size = w.heap.size + 3 := by simp [V3]
  have hb2 : Below (V3 w c d A B n kc k kd).heap.size (V3 w c d A B n kc k kd) (W.alloc (mz mm)) := bl_al hb _
  have hle := hb.size
  exact ⟨⟨bl_trans hb0 hb2, (C4.of h1).next hb2, (C4.of h2).next hb2, h3.next hb2, Gw.new W mm hn (by omega), fun p hp => by simp at hp⟩, (C4.of h1).next hb, (C4.of h2).next hb, h3.next hb, bl_trans hb0 hb⟩
end Nt

end Go.Proofs.YtgimmmmpollkhaaGreat
